import PyProof.Rows.All
import Wide.All
import OpenK.AllK
import Wide.FinOn
import HandS.ForMost
import HandS.IsInst
import HandS.Evl
import HandS.Walk
import KE.GoesEnum
import HandS.TupAny
import HandS.Style
import HandS.TupMul
import HandS.Conv
import HandS.SetBool
import HandS.Strs
import HandS.Sort
import HandS.More
import PySem.Challenge.RW_errorspans_k04_which_leaf_may_follow
set_option Elab.async false
set_option linter.all false
set_option maxRecDepth 100000
set_option maxHeartbeats 2000000
namespace Es
open PySem PySem.Spec PyProof.Rows L2 Evl
section
variable {X : Cx}
/-- repr of a truth value -/
theorem cr_reprB : CallR X (.builtin "repr") (fun xs H Q => ∃ b : Bool, xs = [.bl b] ∧ Q (.str (if b then "True" else "False")) H) := by
  intro pins s σ H xs us Q I r h
  obtain ⟨b, rfl, q⟩ := h
  obtain ⟨u, rfl, ru⟩ := vals1 r
  obtain rfl : u = Value.bool b := ru
  exact PySem.P.repr_of_bool ⟨.str _, H, I.tok _, ⟨_, rfl⟩, q⟩
/-- repr of data that lies at an address -/
theorem cr_reprD (hg : X.A.guards = some []) (hu : X.A.units + 64 < cLine) : CallR X (.builtin "repr")
    (fun xs H Q => ∃ (a : Addr) (d : PyData), xs = [.ref a] ∧ Dp X.K H (.ref a) d ∧ d.showable = true ∧ d.hasDict = false ∧ d.depth ≤ 60 ∧ d.shown.length ≤ sizeLine ∧ Q (.str d.shown) H) := by
  intro pins s σ H xs us Q I r h
  obtain ⟨a, d, rfl, hd, hs, hn, hdp, hz, q⟩ := h
  obtain ⟨u, rfl, ru⟩ := vals1 r
  obtain rfl : u = Value.ref a := ru
  obtain ⟨as, rd⟩ := Dp.reads I d _ _ hd rfl
  refine repr_of_reads' rd hs (fun z => ?_) hg (by omega) (fun _ _ e => e) (fun h' u tk hk => ?_) hz
  · rw [hn] at z; cases z
  · exact ⟨.str d.shown, H, I.kept (t' := tk) hk, ⟨_, rfl⟩, q⟩
/-- powers of great numbers -/
def CPowW (i j : Int) : Prop := 0 ≤ j ∧ (Builtin.Int.intBits i : Int) * j ≤ 2 ^ 27
theorem op_powW : OpR X (binaryOp .Pow) (rI CPowW fun i j => .int (i ^ j.toNat)) := opI fun _ _ _ _ _ _ _ hc q => pow_int hc.1 hc.2 q
end
/-- a def's promise, given where no repr is under way -/
structure GnOk (P : Program) (w : World) (K : PySem.W.Frag) (mg : Str → Option Value) (bs : Heap) (k : Nat) (f : Addr) (fd : FuncData) (ps : List Str) (sp : Sp) : Prop where
  len : ∀ vs H Q E, sp vs H Q E → vs.length = ps.length
  run : ∀ (A : Around) (out : List Env) (s : Shared) (H : Hp) (ar : Args) (us : List Value) (vs : List V) (Q : VK) (E : XK), A.guards = some [] → Room k A →
    Env0 P w K mg bs A out s H → BindsTo s fd ar (ps.zip us) → Vals vs us → sp vs H Q E → codeAny (model P w) A (.call (.ref f) ar) (CR CX0 out P w H s Q E) s
section
variable {P : Program} {w : World} {K : PySem.W.Frag} {mg : Str → Option Value} {bs : Heap} {k : Nat} {f : Addr} {fd : FuncData} {ps : List Str} {sp : Sp}
theorem GnOk.ofF (F : FnOk P w K mg bs CX0 k f fd ps sp) : GnOk P w K mg bs k f fd ps sp := ⟨F.len, fun A out s H ar us vs Q E _ => F.run A out s H ar us vs Q E⟩
theorem GnOk.mono {j : Nat} (F : GnOk P w K mg bs j f fd ps sp) (h : j ≤ k) : GnOk P w K mg bs k f fd ps sp := ⟨F.len, fun A out s H ar us vs Q E g hr => F.run A out s H ar us vs Q E g (hr.mono h)⟩
theorem gn_of {x qual : Str} {st : Stmt} {N : List Str} (F : Fun K x qual st f fd) (S : FnScope N ps (defScope st)) (len : ∀ vs H Q E, sp vs H Q E → vs.length = ps.length)
    (hb : ∀ (cd : Value) (A : Around) (out : List Env) (s : Shared) (H : Hp) (vs : List V) (Q : VK) (E : XK), A.guards = some [] → Room k (A.deeper (envOfC qual (defScope st) s.heap.objs.size f cd)) →
      sp vs H Q E → ∃ t, PSs (cxOf CX0 P w K mg bs N qual (defScope st) f cd A out s H E).nox (defBody st) t ∧ t { nx := fun _ H' => Q .non H', rt := Q } (start N vs) H) :
    GnOk P w K mg bs (k + 1) f fd ps sp := by
  obtain ⟨oc, od, kV, dc, pm, an, cd, ct, sl, rfl, lk, hcd⟩ := F.ex
  refine ⟨len, ?_⟩
  intro A out s H ar us vs Q E g hr e0 hbd rv hs
  have up := fun b o (e : bs.get? b = some o) => (e0.bs b o e).1
  have kin := e0.mod.kin.keeps up
  have ln := len _ _ _ _ hs
  obtain ⟨t, ht, hq⟩ := hb cd A out s H vs Q E g (hr.deeper _) hs
  have hk : ∀ y ∈ ps.zip us, (defScope st).names.lookup y.1 = some .local ∨ ((defScope st).names.lookup y.1 = some .cell ∧ ((cellsFrom (s.heap.objs.size + 1) (defScope st).names []).lookup y.1).isSome = true) := by
    intro ⟨n, v⟩ hy
    rcases S.par n (List.of_mem_zip hy).1 with q | q
    · exact Or.inl q
    · exact Or.inr ⟨q, PySem.W.cellsFrom_some _ _ _ (.inl q)⟩
  refine codeAny_call_function hr.depth (kin _ _ lk) rfl S.co S.gen rfl (PySem.W.codeRec_of kin hcd) (hbd _ _ _ _ ?_)
  refine wpAny_newFunctionEnv_cells S.kind hk ?_
  intro en he s1 x
  subst he
  refine ⟨(e0.mod.nolimit.keeps up).keeps x.toInCall.keep, codeAny_func ?_⟩
  have I := inv_start (CX := CX0) (P := P) (w := w) (K := K) (mg := mg) (base := bs) (E := E) S hr.hd e0 ln rv x
  refine wpAny_mono (ht.nox.run [] s1 (start N vs) H _ I hq) ?_ (fun e s' hs => hs)
  intro fl s' z
  have fin : ∀ {σ' : L2.St} {H' : Hp} {v : V} {u : Value}, Inv (cxOf CX0 P w K mg bs N qual (defScope st) f cd A out s H E) [] σ' H' s' → RelV v u → Q v H' → CE out P w H s Q u s' :=
    fun J r q => ⟨_, _, J.os, J.bare, J.base, J.hok, r, q⟩
  match fl, z with
  | .ret u, ⟨v, σ', H', J, r, q⟩ => exact fin J r q
  | .next, ⟨σ', H', J, q⟩ => exact fin (v := V.non) (u := Value.none) J rfl q
  | .brk, ⟨_, _, _, q⟩ => exact q.elim
  | .cont, ⟨_, _, _, q⟩ => exact q.elim
end
section
variable {X : Cx} {k : Nat} {f : Addr} {fd : FuncData} {ps ks : List Str} {sp : Sp} {x : Str} {p pos : Pos} {e : Expr} {es : List Expr} {kws : List Keyword} {t tk : TA}
theorem run_gn {pins : List (Addr × Obj)} {σ : L2.St} {H : Hp} {s : Shared} {Q : VK} {us : List Value} {vs : List V} (F : GnOk X.prog X.w X.K X.mg X.base k f fd ps sp) (g : X.A.guards = some []) (hr : Room k X.A)
    (hb : Binds X.K fd ps []) (I : Inv X pins σ H s) (r : Vals vs us) (h : sp vs H Q E0) : wpAny (model X.prog X.w) X.A (call (.ref f) us) (EP X pins σ Q) X.xe s := by
  have ln := F.len _ _ _ _ h
  have hb' := hb s us I.kIn (by rw [List.append_nil, ← r.length]; exact ln)
  rw [List.append_nil] at hb'
  refine wpAny_call (codeAny_mono (F.run X.A X.stack s H ⟨us, []⟩ us vs Q E0 g hr I.env0 hb' r h) ?_)
  intro rs s' z
  match rs, z with
  | .ok (.ret u), z => exact I.after z
def tCallG (sp : Sp) (t : TA) : TE := fun σ H Q => t σ H fun vs H1 => sp vs H1 Q E0
/-- f(e, ..), f one that may ask for a repr -/
theorem pe_callG (F : GnOk X.prog X.w X.K X.mg X.base k f fd ps sp) (g : X.A.guards = some []) (hr : Room k X.A) (hg : Gl X x) (hm : X.mg x = some (.ref f)) (hk : PySem.W.keepIn X.K (.ref f) = true)
    (hb : Binds X.K fd ps []) (ha : PA X (e :: es) t) (hdb : (x == ("__debug__" : Str)) = false := by decide)
    (he : starEach (e :: es) X.env = (false, eval e X.env) :: starEach es X.env := by rfl) (hpl : (backTo pos (starEach es X.env)).any (·.1) = false := by rfl) :
    PE X (.Call (.Name x p) (e :: es) [] pos) (tCallG sp t) := by
  refine ⟨?_⟩
  intro pins s σ H Q I h
  refine wpAny_Call_Name_kw (ld_glob I hg hm ?_ hdb)
  refine PySem.W.callWith_K (h₀ := X.base) I.ok.mod.kin hk (thn (ha.run pos pins s σ H _ I h) ?_) he hpl
  rintro us s1 ⟨vs, H1, I1, r, q⟩
  exact ⟨I1.kIn, run_gn F g hr hb I1 r q⟩
/-- f(k = v, ..): keywords alone -/
theorem pe_callK0 {gg : List Value → List Value → List Value} {gV : List V → List V → List V} (F : FnOk X.prog X.w X.K X.mg X.base CX0 k f fd ps sp) (hr : Room k X.A) (hg : Gl X x) (hm : X.mg x = some (.ref f)) (hk : PySem.W.keepIn X.K (.ref f) = true)
    (hb : KBinds X.K fd ps ks gg gV) (hkw : PK X kws tk) (hall : (backToKw pos (keywordEach kws X.env)).all (·.1.isSome) = true := by rfl) (hks : (backToKw pos (keywordEach kws X.env)).filterMap (·.1) = ks := by rfl)
    (hdb : (x == ("__debug__" : Str)) = false := by decide) (hpl : ((backTo pos (starEach [] X.env)).any (·.1) || (backToKw pos (keywordEach kws X.env)).any (·.1.isNone)) = false := by rfl) :
    PE X (.Call (.Name x p) [] kws pos) (fun σ H Q => tk σ H fun zs H1 => sp (gV [] zs) H1 Q E0) := by
  refine ⟨?_⟩
  intro pins s σ H Q I h
  refine wpAny_Call_Name_kw (ld_glob I hg hm ?_ hdb)
  refine PySem.W.callWith_KW0 (h₀ := X.base) I.ok.mod.kin hk hall (thn (hkw.run pos pins s σ H _ I h) ?_) hpl
  rintro ws s2 ⟨zs, H2, I2, rz, q2⟩
  refine ⟨I2.kIn, ?_⟩
  rw [hks]
  exact run_fnk F hr hb pass0 I2 .nil rz q2
end
/-! the law's own call -/
section
variable {P : Program} {w : World} {K : PySem.W.Frag} {mg mb : Str → Option Value} {k : Nat} {fa a : Addr} {fd : FuncData} {x : Str} {sp : Sp} {s1 : Shared} {vs : List Value} {ns : List Int}
def LawEnd (s1 : Shared) : Result → Shared → Prop := fun r s' => r = .ok (.ret (.bool true)) ∧ OldK s1.heap s'.heap ∧ s'.os = s1.os ∧ AllBare s'.gens
theorem law_core (KX : K.In s1.heap) (hns : s1.heap.Ns mainGlobals mg) (hb : s1.heap.Ns builtinsNs mb) (hbb : ∀ x : Str, x ≠ "__name__" → mb x = bootBuiltins x) (hlim : s1.heap.NoLimit) (hg : s1.gens = #[])
    (ha : s1.heap.get? a = some { cls := .type "list", data := .seq vs.toArray }) (hr : Room k callerA)
    (F : ∀ bs : Heap, K.In bs → bs.Ns mainGlobals mg → GnOk P w K mg bs k fa fd [x] sp) (hbd : ∀ (s : Shared) (u : Value), BindsTo s fd ⟨[u], []⟩ [(x, u)])
    (H : Hp) (hO : Only H) (hok : HOk P w H s1.heap) (hA : ∀ b, H b ≠ none → b = a) (hK : H a ≠ none → K.lookup a = none) (hs : sp [.ref a] H (fun v _ => v = .bl true) E0) :
    codeAny (model P w) callerA (.call (.ref fa) ⟨[.ref a], []⟩) (LawEnd s1) s1 := by
  have isA : ∀ {b : Addr} {u : HO}, H b = some u → b = a := fun q => hA _ (by rw [q]; simp)
  have nodict : ∀ {b : Addr} {o : Obj} {es : Array DictEntry} {ep : Nat}, s1.heap.get? b = some o → o.data = .dict es ep → H b = none := by
    intro b o es ep e d
    cases q : H b with
    | none => rfl
    | some u =>
      cases isA q
      rw [ha] at e
      cases e
      cases d
  have low : ∀ {b : Addr} {o : Obj}, s1.heap.get? b = some o → H b = none → (hidT s1.heap H).get? b = some o := fun e n => hidT_get e n
  have nsl : ∀ {b : Addr} {m : Str → Option Value}, s1.heap.Ns b m → (hidT s1.heap H).Ns b m := by
    rintro b m ⟨o, es, ep, e, d, r⟩
    exact ⟨o, es, ep, low e (nodict e d), d, r⟩
  have kl : K.In (hidT s1.heap H) := by
    intro b o e
    refine low (KX b o e) ?_
    cases q : H b with
    | none => rfl
    | some u =>
      cases isA q
      rw [hK (by rw [q]; simp)] at e
      cases e
  obtain ⟨mc, hm1, hm2⟩ := hlim
  have md : Mod K mg (hidT s1.heap H) := ⟨kl, nsl hns, ⟨mb, nsl hb, hbb⟩, ⟨mc, nsl hm1, hm2⟩⟩
  have e0 : Env0 P w K mg (hidT s1.heap H) callerA [] s1 H :=
    ⟨rfl, md, fun b o e => of_hidT e, Nat.le_of_eq (hidT_size _ _), trivial, fun b z => absurd (show b ∈ ([] : List Addr) from z) (by simp), hok, .of_eq hg⟩
  refine codeAny_mono ((F _ kl (nsl hns)).run callerA [] s1 H ⟨[.ref a], []⟩ [.ref a] [.ref a] _ _ rfl hr e0 (hbd s1 (.ref a)) (.cons rfl .nil) hs) ?_
  intro r s' z
  match r, z with
  | .ok (.ret u), ⟨v, H', os, bare, un, hok', rv, q⟩ =>
    cases (show v = .bl true from q)
    obtain rfl : u = Value.bool true := rv
    refine ⟨rfl, OldK.of_keep ?_, os, bare⟩
    intro b o e
    cases q : H b with
    | none => exact un.keep b o e q (by intro z; exact absurd (show b ∈ ([] : List Addr) from z) (by simp)) (by simp)
    | some u =>
      rcases hO b with z | ⟨ob, xs, z⟩
      · rw [q] at z
        cases z
      · obtain ⟨g1, _⟩ := hok b _ z
        obtain ⟨g2, _⟩ := hok' b _ (un.frzs b ob _ z)
        rw [e] at g1
        cases g1
        exact g2
theorem law_callG (KX : K.In s1.heap) (hns : s1.heap.Ns mainGlobals mg) (hb : s1.heap.Ns builtinsNs mb) (hbb : ∀ x : Str, x ≠ "__name__" → mb x = bootBuiltins x) (hlim : s1.heap.NoLimit) (hg : s1.gens = #[])
    (ha : s1.heap.get? a = some { cls := .type "list", data := .seq vs.toArray }) (hi : IntsAre vs ns) (hl : ns.length ≤ sizeLine) (hr : Room k callerA)
    (F : ∀ bs : Heap, K.In bs → bs.Ns mainGlobals mg → GnOk P w K mg bs k fa fd [x] sp) (hbd : ∀ (s : Shared) (u : Value), BindsTo s fd ⟨[u], []⟩ [(x, u)])
    (hsp : ∀ H : Hp, Only H → SqL K H a (ns.map V.int) → sp [.ref a] H (fun v _ => v = .bl true) E0) :
    codeAny (model P w) callerA (.call (.ref fa) ⟨[.ref a], []⟩) (LawEnd s1) s1 := by
  have rv := vals_ints hi
  cases hk : K.lookup a with
  | some o =>
    have e := KX a o hk
    rw [ha] at e
    cases e
    have hO : Only (fun _ => none) := fun _ => .inl rfl
    refine law_core KX hns hb hbb hlim hg ha hr F hbd (fun _ => none) hO (fun b u z => nomatch z) (fun b z => absurd rfl z) (fun z => absurd rfl z) (hsp _ hO ?_)
    exact .inr ⟨_, vs.toArray, _, hk, rfl, rfl, rfl, by rw [List.size_toArray, hi.length]; exact hl, by simpa using rv⟩
  | none =>
    let Z : Hp := fun b => if b = a then some (.frz { cls := .type "list", data := .seq vs.toArray } (.lst (ns.map V.int))) else none
    have hZ : Z a = some (.frz { cls := .type "list", data := .seq vs.toArray } (.lst (ns.map V.int))) := if_pos rfl
    have hZn : ∀ b, b ≠ a → Z b = none := fun b h => if_neg h
    have hO : Only Z := fun b => by
      by_cases h : b = a
      · subst h
        exact .inr ⟨_, _, hZ⟩
      · exact .inl (hZn b h)
    refine law_core KX hns hb hbb hlim hg ha hr F hbd Z hO (fun b u z => ?_) (fun b z => ?_) (fun _ => hk) (hsp Z hO (.inl (.inr ⟨_, hZ⟩)))
    · by_cases h : b = a
      · subst h
        rw [hZ] at z
        cases z
        exact ⟨ha, by rw [List.length_map]; exact hl, vs, _, rv, ha⟩
      · rw [hZn b h] at z
        cases z
    · by_cases h : b = a
      · exact h
      · exact absurd (hZn b h) z
end
theorem walk_ofG {l : PySem.W.OpenLaw} {n k : Nat} {q : Program} {loose : List Str} {XP : (Str → Option Value) → Heap → Prop} {YP : World → Heap → Prop} {d : DefRec} {K : Params → PySem.W.Frag} {sp : PySem.W.Frag → Sp} {x : Str}
    (hn : l.most = some n) (hn2 : n ≤ sizeLine) (hdf : d.params.defaults = []) (hr : Room k callerA) (hY : ∀ (w : World) (h : Heap), YP w h → (K w.params).In h)
    (F : ∀ (w : World) (mg : Str → Option Value) (fa : Addr) (h : Heap), (K w.params).In h → h.Ns mainGlobals mg → mg d.name = some (.ref fa) →
      ∃ fd : FuncData, (∀ (s : Shared) (u : Value), BindsTo s fd ⟨[u], []⟩ [(x, u)]) ∧
        ∀ bs : Heap, (K w.params).In bs → bs.Ns mainGlobals mg → GnOk l.prog w (K w.params) mg bs k fa fd [x] (sp (K w.params)))
    (hsp : ∀ (K : PySem.W.Frag) (H : Hp) (a : Addr) (ns : List Int), ns.length ≤ n → Only H → SqL K H a (ns.map V.int) → sp K [.ref a] H (fun v _ => v = .bl true) E0) :
    PySem.W.WalkO q loose XP YP l.row.toRowW d [] (fun f vs => PySem.call f vs) := by
  refine Att.attach_call hn hdf ?_
  intro w s0 s1 mg mb fa o pm cd dc a vs ns G Y ho hd hcd hmg hobj hints hlen hgn
  have KX := hY w _ Y
  obtain ⟨fd, hb, hF⟩ := F w mg fa _ KX G.T.g hmg
  exact law_callG KX G.T.g G.T.b G.T.builtins G.T.nolimit hgn hobj hints (Nat.le_trans hlen hn2) hr hF hb fun H hO hS => hsp _ H a ns hlen hO hS
end Es
namespace Es
open PySem PySem.Spec PyProof.Rows L2 Evl
section
variable {K : PySem.W.Frag} {σ : L2.St} {H H' : Hp} {ta tb tc te : TE} {x y z v w : V} {r r' : R2}
theorem ev_chain {k k' : Bool} (ha : Ev ta σ H x) (hb : Ev tb σ H y) (hr : RV r x y H (.bl k)) (hc : k = true → Ev tc σ H w) (hr' : k = true → RV r' y w H (.bl k')) : Ev (tChain r r' ta tb tc) σ H (.bl (k && k')) := by
  intro H1 e Q q
  refine ha H1 e _ fun H2 e2 => hb H2 (e.trans e2) _ fun H3 e3 => hr H3 ((e.trans e2).trans e3) _ fun H4 e4 => ⟨k, rfl, ?_⟩
  have e14 := (e2.trans e3).trans e4
  cases k with
  | true => exact hc rfl H4 (e.trans e14) _ fun H5 e5 => hr' rfl H5 ((e.trans e14).trans e5) Q fun H6 e6 => q H6 ((e14.trans e5).trans e6)
  | false => exact q H4 e14
/-- a text walked by a comprehension without tests, each sign giving f of it -/
theorem el_lcS {s : Str} {tl : TE} {j : Nat} {vs : List Nat} (f : Nat → V) (h : Ev tl σ H (.str s)) (hz : s.cps.size ≤ 40000) (hw : ∀ x, wipe ((wipe σ vs).set j (some x)) vs = wipe σ vs)
    (he : ∀ (c : Nat) H1, Ex H H1 → c ∈ s.cps.toList → Ev te ((wipe σ vs).set j (some (.str ⟨#[c]⟩))) H1 (f c)) :
    EvL (tLc (iStr tl) (gName j) tYes te vs) σ H (s.cps.toList.map f) := by
  intro H0 e Q q
  refine h H0 e _ fun H1 e1 => ⟨s, rfl, fun D hD => ?_⟩
  refine lc_it walk_str (fun i H' => Ex H1 H' ∧ H' D = some (.lst ((s.cps.toList.take i).map f))) ⟨Ex.new hD, upd_same⟩ (fun _ _ _ _ => trivial) (fun i x Ha Hb hi p y => ?_) (fun Hc p => ?_)
  · obtain ⟨rfl, c, hc, rfl⟩ := y
    refine ⟨hw _, ?_⟩
    show te _ Hb _
    have hm : s.cps.toList[i]? = some c := by rw [Array.getElem?_toList]; exact hc
    refine he c Hb ((e.trans e1).trans p.1) (List.mem_of_getElem? hm) Hb (Ex.refl _) _ fun Hc ec => ⟨_, ec D _ p.2, ?_, Ex.mut (p.1.trans ec) hD, ?_⟩
    · rw [List.length_map, List.length_take]
      exact sz_lt (by rw [Array.length_toList]; omega)
    · rw [upd_same, List.take_add_one, hm, List.map_append]
      rfl
  · have p2 := p.2
    rw [List.take_of_length_le (by rw [Array.length_toList]; exact Nat.le_refl _)] at p2
    exact q D Hc (fresh_back e1 hD) (e1.trans p.1) p2
theorem ev_cbL {r : List V → Hp → VK → Prop} {ta : TE} {xs : List V} (h : EvL ta σ H xs) (hr : ∀ p H1, H1 p = some (.lst xs) → Ex H H1 → RC r [.ref p] H1 z) : Ev (tCB r (tCons ta tNil)) σ H z := fun H1 e Q q =>
  h H1 e _ fun p H2 _ e2 hp => hr p H2 hp (e.trans e2) H2 (Ex.refl _) Q fun H3 e3 => q H3 (e2.trans e3)
/-- the values that a value of any kind may be -/
inductive Thing (H : Hp) : V → Prop
  | non : Thing H .non
  | bl (b : Bool) : Thing H (.bl b)
  | int (i : Int) : Thing H (.int i)
  | str (s : Str) : s.length ≤ 1000 → Thing H (.str s)
  | lst {a : Addr} {xs : List V} : H a = some (.lst xs) → Thing H (.ref a)
  | tup {a : Addr} {xs : List V} : H a = some (.tup xs) → Thing H (.ref a)
  | dK {a : Addr} {kvs : List (Key × V)} : H a = some (.dK kvs) → Thing H (.ref a)
theorem Thing.up (h : Thing H v) (e : Ex H H') : Thing H' v := by
  cases h with
  | non => exact .non
  | bl b => exact .bl b
  | int i => exact .int i
  | str s hs => exact .str s hs
  | lst h => exact .lst (e _ _ h)
  | tup h => exact .tup (e _ _ h)
  | dK h => exact .dK (e _ _ h)
def isS : V → Bool
  | .str _ => true
  | _ => false
theorem Thing.ty (h : Thing H v) : ∃ t : String, TyX K H v (.type t) ∧ kitB t "str" = some (isS v) := by
  cases h with
  | non => exact ⟨_, .base .non, show kitB "NoneType" "str" = some false by decide +kernel⟩
  | bl b => exact ⟨_, .base (.bl b), show kitB "bool" "str" = some false by decide +kernel⟩
  | int i => exact ⟨_, .base (.int i), show kitB "int" "str" = some false by decide +kernel⟩
  | str s hs => exact ⟨_, .base (.str s), show kitB "str" "str" = some true by decide +kernel⟩
  | lst h => exact ⟨_, .base (.lst h), show kitB "list" "str" = some false by decide +kernel⟩
  | tup h => exact ⟨_, .base (.tup h), show kitB "tuple" "str" = some false by decide +kernel⟩
  | dK h => exact ⟨_, .base (.dK h), show kitB "dict" "str" = some false by decide +kernel⟩
theorem Thing.isi (h : Thing H v) : RC (rIsi K) [v, .ty "str"] H (.bl (isS v)) := by
  intro H1 e Q q
  obtain ⟨t, h1, h2⟩ := (h.up e).ty (K := K)
  exact ⟨v, _, _, _, _, rfl, .ty _, h1, kit_ty h2, q H1 (Ex.refl _)⟩
def rLen1 (K : PySem.W.Frag) : List V → Hp → VK → Prop := fun xs H Q => ∃ x n, xs = [x] ∧ LenV K x H n ∧ Q (.int n) H
theorem rc_lenS {s : Str} (h : s.length ≤ 1000) : RC (rLen1 K) [.str s] H (.int (s.length : Int)) := fun H1 _ _ q => ⟨.str s, s.length, rfl, ⟨sz_of (by omega), rfl⟩, q H1 (Ex.refl _)⟩
theorem rc_all {p : Addr} {bs : List Bool} (h : H p = some (.lst (bs.map V.bl))) : RC (rAll K) [.ref p] H (.bl (bs.all id)) := fun H1 e _ q => ⟨p, bs, rfl, sq_of (e _ _ h), q H1 (Ex.refl _)⟩
theorem rc_any {p : Addr} {bs : List Bool} (h : H p = some (.lst (bs.map V.bl))) : RC (rAny K) [.ref p] H (.bl (bs.any id)) := fun H1 e _ q => ⟨p, bs, rfl, sq_of (e _ _ h), q H1 (Ex.refl _)⟩
def rInSign : R2 := fun x y H Q => ∃ (c : Nat) (z : Str), x = .str ⟨#[c]⟩ ∧ y = .str z ∧ Q (.bl (decide (c ∈ z.cps.toList))) H
theorem rv_inSign {c : Nat} {s : Str} : RV rInSign (.str ⟨#[c]⟩) (.str s) H (.bl (decide (c ∈ s.cps.toList))) := fun H1 _ _ q => ⟨c, s, rfl, rfl, q H1 (Ex.refl _)⟩
def rNotInSign : R2 := fun x y H Q => ∃ (c : Nat) (z : Str), x = .str ⟨#[c]⟩ ∧ y = .str z ∧ Q (.bl (!decide (c ∈ z.cps.toList))) H
theorem rv_notInSign {c : Nat} {s : Str} : RV rNotInSign (.str ⟨#[c]⟩) (.str s) H (.bl (!decide (c ∈ s.cps.toList))) := fun H1 _ _ q => ⟨c, s, rfl, rfl, q H1 (Ex.refl _)⟩
end
end Es
namespace Es
open PySem PySem.Spec PyProof.Rows L2 Evl
/-- all but the object at p stays -/
def Xp (p : Addr) (H H' : Hp) : Prop := ∀ a o, a ≠ p → H a = some o → H' a = some o
theorem Xp.refl (p : Addr) (H : Hp) : Xp p H H := fun _ _ _ h => h
theorem Xp.ex {p : Addr} {H H' : Hp} (e : Ex H H') : Xp p H H' := fun a o _ h => e a o h
theorem Xp.trans {p : Addr} {H H1 H2 : Hp} (a : Xp p H H1) (b : Xp p H1 H2) : Xp p H H2 := fun x o n h => b x o n (a x o n h)
theorem Xp.upd {p : Addr} {H : Hp} {o : HO} : Xp p H (upd H p o) := fun a u n h => by
  rw [upd_ne n]
  exact h
/-- a pot: three ints -/
def Pot (H : Hp) (p : Addr) (n : Int) : Prop := ∃ g s c : Int, H p = some (.lst [.int g, .int s, .int c]) ∧ 0 ≤ g ∧ 0 ≤ s ∧ s < 2 ^ 61 ∧ 0 ≤ c ∧ c ≤ n
theorem Pot.up {H H' : Hp} {p : Addr} {n : Int} (h : Pot H p n) (e : Ex H H') : Pot H' p n := by
  obtain ⟨g, s, c, h, r⟩ := h
  exact ⟨g, s, c, e _ _ h, r⟩
theorem Pot.more {H : Hp} {p : Addr} {n m : Int} (h : Pot H p n) (e : n ≤ m) : Pot H p m := by
  obtain ⟨g, s, c, h, r1, r2, r3, r4, r5⟩ := h
  exact ⟨g, s, c, h, r1, r2, r3, r4, by omega⟩
theorem Pot.back {H H' : Hp} {p q : Addr} {n : Int} (h : Pot H' p n) (e : Xp p H H') (hq : H' q = none) : H q = none := by
  obtain ⟨g, s, c, h, _⟩ := h
  cases hh : H q with
  | none => rfl
  | some o =>
    by_cases z : q = p
    · subst z
      rw [h] at hq
      cases hq
    · rw [e q o z hh] at hq
      cases hq
theorem Pot.ne {H : Hp} {p q : Addr} {n : Int} (h : Pot H p n) (hq : H q = none) : q ≠ p := by
  obtain ⟨g, s, c, h, _⟩ := h
  intro z
  subst z
  rw [h] at hq
  cases hq
def spTake : Sp := fun vs H Q _ => ∃ (p : Addr) (n m : Int), vs = [.ref p, .int n] ∧ 1 ≤ n ∧ n ≤ 1000 ∧ m ≤ 100000 ∧ Pot H p m ∧
  ∀ (r : Int) H', 0 ≤ r → r < n → Xp p H H' → Pot H' p (m + 1) → Q (.int r) H'
end Es
namespace Es
open PySem PySem.Spec PyProof.Rows L2 Evl
theorem Xp.mut {p D : Addr} {H H' : Hp} {o : HO} (e : Xp p H H') (h : H D = none) : Xp p H (L2.upd H' D o) := fun a u n ha => by
  rw [upd_ne (ne_of_none ha h)]
  exact e a u n ha
theorem len_glue : ∀ ys : List Str, (∀ y ∈ ys, y.length = 1) → (Str.join "" ys).length = ys.length
  | [], _ => rfl
  | [y], h => h y (List.mem_singleton.mpr rfl)
  | x :: z :: r, h => by
    show (x ++ "" ++ Str.join "" (z :: r)).length = r.length + 1 + 1
    rw [PySem.Str.length_append, PySem.Str.length_append, len_glue (z :: r) (fun y hy => h y (List.mem_cons_of_mem _ hy)), h x (List.mem_cons_self ..)]
    show 1 + 0 + (r.length + 1) = r.length + 1 + 1
    omega
theorem cut_le (z : Str) (lo hi : Option Int) : (cutS z lo hi).length ≤ z.length := by
  show (List.toArray _).size ≤ z.cps.size
  rw [List.size_toArray, List.length_take, List.length_drop, Array.length_toList]
  omega
end Es
namespace Es
open PySem PySem.Spec PyProof.Rows L2 Evl
section
variable {K : PySem.W.Frag} {σ : L2.St} {H H' : Hp} {ta tb te : TE} {tk : TA} {x y z v w : V} {sp : Sp}
def rReprB : List V → Hp → VK → Prop := fun xs H Q => ∃ b : Bool, xs = [.bl b] ∧ Q (.str (if b then "True" else "False")) H
def rReprD (K : PySem.W.Frag) : List V → Hp → VK → Prop := fun xs H Q => ∃ (a : Addr) (d : PyData), xs = [.ref a] ∧ Dp K H (.ref a) d ∧ d.showable = true ∧ d.hasDict = false ∧ d.depth ≤ 60 ∧ d.shown.length ≤ sizeLine ∧ Q (.str d.shown) H
theorem rc_reprB {b : Bool} : RC rReprB [.bl b] H (.str (if b then "True" else "False")) := fun H1 _ _ q => ⟨b, rfl, q H1 (Ex.refl _)⟩
/-- [b, b] written -/
def two (b : Bool) : PyData := .list [.bool b, .bool b]
theorem rc_repr2 {p : Addr} {b : Bool} (h : H p = some (.lst [.bl b, .bl b])) : RC (rReprD K) [.ref p] H (.str (two b).shown) := fun H1 e _ q =>
  ⟨p, two b, rfl, .lst (sq_of (e _ _ h)) (.cons (.bl b) (.cons (.bl b) .nil)), by cases b <;> decide +kernel, by cases b <;> decide +kernel, by cases b <;> decide +kernel, by cases b <;> decide +kernel, q H1 (Ex.refl _)⟩
theorem el_rep {xs : List V} {n : Int} (h : EvL ta σ H xs) (hn : 0 ≤ n ∧ n ≤ 100) (hl : xs.length ≤ 100) : EvL (tOp rRep ta (tC (.int n))) σ H (List.replicate n.toNat xs).flatten := by
  intro H1 e Q q
  refine h H1 e _ fun p H2 hp e2 h2 => ⟨p, n, xs, rfl, rfl, h2, by omega, by omega, ?_, fun r hr => q r _ (fresh_back e2 hr) (e2.trans (Ex.new hr)) upd_same⟩
  have : xs.length * n.toNat ≤ 100 * 100 := Nat.mul_le_mul hl (by omega)
  exact sz_of (by omega)
theorem ev_callK0 {gV : List V → List V → List V} {vs : List V} (h : EvA tk σ H vs) (hs : SpV sp (gV [] vs) H z) : Ev (fun σ H Q => tk σ H fun zs H1 => sp (gV [] zs) H1 Q E0) σ H z := fun H1 e Q q =>
  h H1 e _ fun H2 e2 => hs H2 (e.trans e2) Q (fun H3 e3 => q H3 (e2.trans e3)) E0
end
/-- one keyword alone -/
def kwV : List V → List V → List V
  | [], zs => zs
  | _ :: _, _ => []
def kwU : List Value → List Value → List Value
  | [], zs => zs
  | _ :: _, _ => []
theorem kw_rel {vs zs : List V} {us ws : List Value} (r : Vals vs us) (rz : Vals zs ws) : Vals (kwV vs zs) (kwU us ws) := by
  cases r with
  | nil => exact rz
  | cons _ _ => exact .nil
end Es
section
open PySem PySem.Sem PySem.Builtin PySem.Builtin.List
/-- a list grows by a tuple's items -/
theorem PySem.es_ext (l : Addr) (its : Array Value) (n : Nat) (b : Addr) (jts : Array Value) (n2 : Nat) (dd : Option Addr) (sl : Array (Option Value)) (hs0 : ¬(!its.isEmpty && listTooLong (its.size + jts.size)) = true)
    (hs1 : its.size ≤ sizeLine) (hs2 : its.size + jts.size ≤ sizeLine + 1) :
    Meets (Builtin.«list.extend» ⟨[.ref l, .ref b], []⟩) (fun _ R s => s.heap.get? l = some { cls := .type "list", dict := none, data := .seq its n, slots := #[] } ∧
      s.heap.get? b = some { cls := .type "tuple", dict := dd, data := .seq jts n2, slots := sl } ∧ R (.ok (.ret Value.none)) { s with heap := s.heap.update l (Obj.mapSeq fun x => x ++ jts), toks := s.toks }) :=
  .of_wp fun prog w A R s h => by
    obtain ⟨hp, g, d, tk, os⟩ := s
    obtain ⟨hl, hb, h⟩ := h
    have f1 := F.sub_tuple_tuple
    have f2 := F.sub_list_list
    have f3 := F.sub_tuple_list
    have f4 := F.sub_list_tuple
    have hz' : (its ++ jts).size ≤ sizeLine + 1 := by
      rw [Array.size_append]
      exact hs2
    wp_walk using (wpAny_updateSeq hl rfl (hz := hs1) (_hz' := hz')), wpAny_loadPart' hl, wpAny_loadPart' hb
    exact ⟨_, rfl, h⟩
end
namespace Es
open PySem PySem.Spec PyProof.Rows L2 Evl
/-- expressions -/
inductive Tr where
  | leaf (k n : Str)
  | node (k : Str) (ps : List Tr)
mutual
def Tr.toD : Tr → PyData
  | .leaf k n => .tuple [.str k, .str n]
  | .node k ps => .tuple (.str k :: Tr.toDs ps)
def Tr.toDs : List Tr → List PyData
  | [] => []
  | t :: r => t.toD :: Tr.toDs r
end
mutual
/-- the leaves from left to right -/
def Tr.lv : Tr → List Tr
  | .leaf k n => [.leaf k n]
  | .node _ ps => Tr.lvs ps
def Tr.lvs : List Tr → List Tr
  | [] => []
  | t :: r => t.lv ++ Tr.lvs r
end
mutual
def Tr.dep : Tr → Nat
  | .leaf _ _ => 0
  | .node _ ps => Tr.deps ps + 1
def Tr.deps : List Tr → Nat
  | [] => 0
  | t :: r => max t.dep (Tr.deps r)
end
def leafKinds : List Str := ["token", "block"]
def nodeKinds : List Str := ["repeat", "optional", "sequence", "choice"]
def names : List Str := ["a", "num", "b", "x", "abcdefgh"]
mutual
def Tr.ok : Tr → Prop
  | .leaf k n => k ∈ leafKinds ∧ n ∈ names
  | .node k ps => k ∈ nodeKinds ∧ ps ≠ [] ∧ Tr.oks ps
def Tr.oks : List Tr → Prop
  | [] => True
  | t :: r => t.ok ∧ Tr.oks r
end
mutual
def Tr.big : Tr → Nat
  | .leaf _ _ => 15
  | .node _ ps => 9 + Tr.bigs ps
def Tr.bigs : List Tr → Nat
  | [] => 0
  | t :: r => t.big + 1 + Tr.bigs r
end
mutual
/-- where an expression stands: not at p -/
inductive TrAt (p : Addr) (H : Hp) : V → Tr → Prop
  | leaf {a : Addr} {k n : Str} : a ≠ p → H a = some (.tup [.str k, .str n]) → TrAt p H (.ref a) (.leaf k n)
  | node {a : Addr} {k : Str} {vs : List V} {ps : List Tr} : a ≠ p → H a = some (.tup (.str k :: vs)) → TrAll p H vs ps → TrAt p H (.ref a) (.node k ps)
inductive TrAll (p : Addr) (H : Hp) : List V → List Tr → Prop
  | nil : TrAll p H [] []
  | cons {v : V} {vs : List V} {t : Tr} {ts : List Tr} : TrAt p H v t → TrAll p H vs ts → TrAll p H (v :: vs) (t :: ts)
end
section
variable {p : Addr} {H H' : Hp} {K : PySem.W.Frag}
mutual
theorem TrAt.xp (e : Xp p H H') : ∀ {v : V} {t : Tr}, TrAt p H v t → TrAt p H' v t
  | _, _, .leaf n h => .leaf n (e _ _ n h)
  | _, _, .node n h r => .node n (e _ _ n h) (TrAll.xp e r)
theorem TrAll.xp (e : Xp p H H') : ∀ {vs : List V} {ts : List Tr}, TrAll p H vs ts → TrAll p H' vs ts
  | _, _, .nil => .nil
  | _, _, .cons h r => .cons (TrAt.xp e h) (TrAll.xp e r)
end
theorem TrAt.up {v : V} {t : Tr} (h : TrAt p H v t) (e : Ex H H') : TrAt p H' v t := h.xp (Xp.ex e)
theorem TrAll.up {v : List V} {t : List Tr} (h : TrAll p H v t) (e : Ex H H') : TrAll p H' v t := h.xp (Xp.ex e)
mutual
theorem TrAt.dp : ∀ {v : V} {t : Tr}, TrAt p H v t → Dp K H v t.toD
  | _, _, .leaf _ h => .tup (st_of h) (.cons (.str _) (.cons (.str _) .nil))
  | _, _, .node _ h r => .tup (st_of h) (.cons (.str _) (TrAll.dp r))
theorem TrAll.dp : ∀ {vs : List V} {ts : List Tr}, TrAll p H vs ts → DpAll K H vs (Tr.toDs ts)
  | _, _, .nil => .nil
  | _, _, .cons h r => .cons (TrAt.dp h) (TrAll.dp r)
end
mutual
theorem TrAt.mutL {l : Addr} {xs ys : List V} (hl : H l = some (.lst xs)) : ∀ {v : V} {t : Tr}, TrAt p H v t → TrAt p (upd H l (.lst ys)) v t
  | _, _, .leaf n h => .leaf n (by rw [upd_ne (ne_of h hl (by intro z; cases z))]; exact h)
  | _, _, .node n h r => .node n (by rw [upd_ne (ne_of h hl (by intro z; cases z))]; exact h) (TrAll.mutL hl r)
theorem TrAll.mutL {l : Addr} {xs ys : List V} (hl : H l = some (.lst xs)) : ∀ {vs : List V} {ts : List Tr}, TrAll p H vs ts → TrAll p (upd H l (.lst ys)) vs ts
  | _, _, .nil => .nil
  | _, _, .cons h r => .cons (TrAt.mutL hl h) (TrAll.mutL hl r)
end
theorem TrAll.append : ∀ {vs ws : List V} {ts us : List Tr}, TrAll p H vs ts → TrAll p H ws us → TrAll p H (vs ++ ws) (ts ++ us)
  | _, _, _, _, .nil, h => h
  | _, _, _, _, .cons h r, k => .cons h (TrAll.append r k)
theorem TrAll.length : ∀ {vs : List V} {ts : List Tr}, TrAll p H vs ts → vs.length = ts.length
  | _, _, .nil => rfl
  | _, _, .cons _ r => by rw [List.length_cons, List.length_cons, TrAll.length r]
theorem TrAll.get : ∀ {vs : List V} {ts : List Tr} {i : Nat} {v : V}, TrAll p H vs ts → vs[i]? = some v → ∃ t, ts[i]? = some t ∧ TrAt p H v t
  | _, _, 0, _, .cons h _, e => ⟨_, rfl, by cases e; exact h⟩
  | _, _, i + 1, _, .cons _ r, e => TrAll.get (i := i) r e
end
theorem oks_get : ∀ {ts : List Tr} {i : Nat} {t : Tr}, Tr.oks ts → ts[i]? = some t → t.ok
  | t :: _, 0, _, h, e => by cases e; exact h.1
  | _ :: r, i + 1, _, h, e => oks_get (i := i) h.2 e
theorem deps_get : ∀ {ts : List Tr} {i : Nat} {t : Tr}, ts[i]? = some t → t.dep ≤ Tr.deps ts
  | t :: r, 0, _, e => by cases e; exact Nat.le_max_left _ _
  | t :: r, i + 1, _, e => Nat.le_trans (deps_get (i := i) e) (Nat.le_max_right _ _)
theorem bigs_get : ∀ {ts : List Tr} {i : Nat} {t : Tr}, ts[i]? = some t → t.big + 1 ≤ Tr.bigs ts
  | t :: r, 0, _, e => by
    cases e
    show t.big + 1 ≤ t.big + 1 + Tr.bigs r
    omega
  | t :: r, i + 1, u, e => by
    have := bigs_get (i := i) (t := u) (ts := r) e
    show u.big + 1 ≤ t.big + 1 + Tr.bigs r
    omega
theorem lvs_snoc : ∀ (ts : List Tr) (i : Nat) (t : Tr), ts[i]? = some t → Tr.lvs (ts.take (i + 1)) = Tr.lvs (ts.take i) ++ t.lv
  | x :: r, 0, t, e => by
    cases e
    show x.lv ++ Tr.lvs (r.take 0) = [] ++ x.lv
    rw [List.take_zero]
    show x.lv ++ [] = [] ++ x.lv
    simp
  | x :: r, i + 1, t, e => by
    show x.lv ++ Tr.lvs (r.take (i + 1)) = (x.lv ++ Tr.lvs (r.take i)) ++ t.lv
    rw [lvs_snoc r i t e, List.append_assoc]
/-! what its writing asks -/
theorem kind_small : ∀ k ∈ leafKinds ++ nodeKinds, k.cps.size ≤ 8 ∧ (k.cps.toList.all fun c => decide (c < 16 ^ 8)) = true := by decide +kernel
theorem name_small : ∀ k ∈ names, k.cps.size ≤ 8 ∧ (k.cps.toList.all fun c => decide (c < 16 ^ 8)) = true := by decide +kernel
theorem lk_size : ∀ k ∈ leafKinds, k.cps.size = 5 := by decide +kernel
mutual
theorem ok_show : ∀ t : Tr, t.ok → t.toD.showable = true ∧ t.toD.hasDict = false ∧ t.toD.leavesShort 30 = true ∧ t.toD.bulk ≤ t.big ∧ t.toD.depth ≤ t.dep + 1
  | .leaf k n, h => by
    obtain ⟨h1, h2⟩ := h
    have a := kind_small k (List.mem_append_left _ h1)
    have b := name_small n h2
    have c := lk_size k h1
    refine ⟨rfl, rfl, ?_, ?_, by show max 0 (max 0 0) + 1 ≤ 0 + 1; decide⟩
    · show ((k.cps.toList.all fun c => decide (c < 16 ^ 8)) && ((n.cps.toList.all fun c => decide (c < 16 ^ 8)) && true)) = true
      rw [a.2, b.2]
      rfl
    · show k.cps.size + 1 + (n.cps.size + 1 + 0) ≤ 15
      omega
  | .node k ps, h => by
    obtain ⟨h1, _, h3⟩ := h
    have a := kind_small k (List.mem_append_right _ h1)
    obtain ⟨r1, r2, r3, r4, r5⟩ := oks_show ps h3
    refine ⟨?_, ?_, ?_, ?_, ?_⟩
    · show (true && PyData.showableAll (Tr.toDs ps)) = true
      rw [r1]
      rfl
    · show (false || PyData.hasDictAll (Tr.toDs ps)) = false
      rw [r2]
      rfl
    · show ((k.cps.toList.all fun c => decide (c < 16 ^ 8)) && PyData.leavesShortAll 30 (Tr.toDs ps)) = true
      rw [a.2, r3]
      rfl
    · show k.cps.size + 1 + PyData.bulkAll (Tr.toDs ps) ≤ 9 + Tr.bigs ps
      omega
    · show max 0 (PyData.depthAll (Tr.toDs ps)) + 1 ≤ Tr.deps ps + 1 + 1
      omega
theorem oks_show : ∀ ts : List Tr, Tr.oks ts → PyData.showableAll (Tr.toDs ts) = true ∧ PyData.hasDictAll (Tr.toDs ts) = false ∧ PyData.leavesShortAll 30 (Tr.toDs ts) = true ∧ PyData.bulkAll (Tr.toDs ts) ≤ Tr.bigs ts ∧ PyData.depthAll (Tr.toDs ts) ≤ Tr.deps ts + 1
  | [], _ => ⟨rfl, rfl, rfl, Nat.le_refl _, Nat.zero_le _⟩
  | t :: r, h => by
    obtain ⟨a1, a2, a3, a4, a5⟩ := ok_show t h.1
    obtain ⟨b1, b2, b3, b4, b5⟩ := oks_show r h.2
    refine ⟨?_, ?_, ?_, ?_, ?_⟩
    · show (t.toD.showable && PyData.showableAll (Tr.toDs r)) = true
      rw [a1, b1]
      rfl
    · show (t.toD.hasDict || PyData.hasDictAll (Tr.toDs r)) = false
      rw [a2, b2]
      rfl
    · show (t.toD.leavesShort 30 && PyData.leavesShortAll 30 (Tr.toDs r)) = true
      rw [a3, b3]
      rfl
    · show t.toD.bulk + 1 + PyData.bulkAll (Tr.toDs r) ≤ t.big + 1 + Tr.bigs r
      omega
    · show max t.toD.depth (PyData.depthAll (Tr.toDs r)) ≤ max t.dep (Tr.deps r) + 1
      omega
end
/-- what repr wants of data -/
def Fine (d : PyData) : Prop := d.showable = true ∧ d.hasDict = false ∧ d.depth ≤ 60 ∧ d.shown.length ≤ 100000
theorem fine_of {d : PyData} {n : Nat} (h1 : d.showable = true) (h2 : d.hasDict = false) (h3 : d.leavesShort 30 = true) (h4 : d.bulk ≤ n) (hn : n ≤ 3000) (h5 : d.depth ≤ 60) : Fine d := by
  refine ⟨h1, h2, h5, ?_⟩
  have := PyData.shown_le_bulk 30 (by decide) d h3
  omega
theorem fine_tr {t : Tr} (h : t.ok) (hb : t.big ≤ 3000) (hd : t.dep ≤ 50) : Fine t.toD := by
  obtain ⟨h1, h2, h3, h4, h5⟩ := ok_show t h
  exact fine_of h1 h2 h3 h4 hb (by omega)
theorem fine_trs {ts : List Tr} (h : Tr.oks ts) (hb : Tr.bigs ts ≤ 3000) (hd : Tr.deps ts ≤ 50) : Fine (.tuple (Tr.toDs ts)) := by
  obtain ⟨h1, h2, h3, h4, h5⟩ := oks_show ts h
  refine fine_of (n := Tr.bigs ts) h1 h2 h3 h4 hb ?_
  show PyData.depthAll (Tr.toDs ts) + 1 ≤ 60
  omega
theorem rc_repr {K : PySem.W.Frag} {H : Hp} {a : Addr} {d : PyData} (h : Dp K H (.ref a) d) (f : Fine d) (up : ∀ H1, Ex H H1 → Dp K H1 (.ref a) d) : RC (rReprD K) [.ref a] H (.str d.shown) := fun H1 e _ q =>
  ⟨a, d, rfl, up H1 e, f.1, f.2.1, f.2.2.1, sz_of f.2.2.2, q H1 (Ex.refl _)⟩
mutual
theorem lv_ok : ∀ t : Tr, t.ok → Tr.oks t.lv ∧ Tr.bigs t.lv ≤ t.big + 1 ∧ Tr.deps t.lv = 0
  | .leaf k n, h => ⟨⟨h, trivial⟩, Nat.le_refl _, rfl⟩
  | .node k ps, h => by
    obtain ⟨a, b, c⟩ := lvs_ok ps h.2.2
    exact ⟨a, by show Tr.bigs (Tr.lvs ps) ≤ 9 + Tr.bigs ps + 1; omega, c⟩
theorem lvs_ok : ∀ ts : List Tr, Tr.oks ts → Tr.oks (Tr.lvs ts) ∧ Tr.bigs (Tr.lvs ts) ≤ Tr.bigs ts ∧ Tr.deps (Tr.lvs ts) = 0
  | [], _ => ⟨trivial, Nat.le_refl _, rfl⟩
  | t :: r, h => by
    obtain ⟨a, b, c⟩ := lv_ok t h.1
    obtain ⟨a', b', c'⟩ := lvs_ok r h.2
    refine ⟨oks_app a a', ?_, ?_⟩
    · show Tr.bigs (t.lv ++ Tr.lvs r) ≤ t.big + 1 + Tr.bigs r
      rw [bigs_app]
      omega
    · show Tr.deps (t.lv ++ Tr.lvs r) = 0
      rw [deps_app, c, c']
      rfl
theorem lvs_take : ∀ (ts : List Tr) (i : Nat), Tr.oks ts → Tr.bigs (Tr.lvs (ts.take i)) ≤ Tr.bigs ts
  | [], i, _ => by rw [List.take_nil]; exact Nat.le_refl _
  | t :: r, 0, _ => Nat.zero_le _
  | t :: r, i + 1, h => by
    have a := (lv_ok t h.1).2.1
    have b := lvs_take r i h.2
    show Tr.bigs (t.lv ++ Tr.lvs (r.take i)) ≤ t.big + 1 + Tr.bigs r
    rw [bigs_app]
    omega
theorem oks_app : ∀ {ts us : List Tr}, Tr.oks ts → Tr.oks us → Tr.oks (ts ++ us)
  | [], _, _, h => h
  | t :: r, _, h, k => ⟨h.1, oks_app h.2 k⟩
theorem bigs_app : ∀ (ts us : List Tr), Tr.bigs (ts ++ us) = Tr.bigs ts + Tr.bigs us
  | [], us => by show Tr.bigs us = 0 + Tr.bigs us; omega
  | t :: r, us => by
    show t.big + 1 + Tr.bigs (r ++ us) = t.big + 1 + Tr.bigs r + Tr.bigs us
    rw [bigs_app r us]
    omega
theorem deps_app : ∀ (ts us : List Tr), Tr.deps (ts ++ us) = max (Tr.deps ts) (Tr.deps us)
  | [], us => by show Tr.deps us = max 0 (Tr.deps us); omega
  | t :: r, us => by
    show max t.dep (Tr.deps (r ++ us)) = max (max t.dep (Tr.deps r)) (Tr.deps us)
    rw [deps_app r us]
    omega
end
section
variable {X : Cx}
/-- xs.extend(a tuple) -/
def rExtT (K : PySem.W.Frag) : V → List V → Hp → VK → Prop := fun x vs H Q => ∃ l b xs zs, x = .ref l ∧ vs = [.ref b] ∧ H l = some (.lst xs) ∧ H b = some (.tup zs) ∧ xs.length + zs.length ≤ sizeLine ∧ Q .non (upd H l (.lst (xs ++ zs)))
theorem mt_extT : MtM X "list.extend" (rExtT X.K) := by
  intro pins s σ H x vs v us Q I rx rv h
  obtain ⟨l, b, xs, zs, rfl, rfl, hH, hB, hz, q⟩ := h
  cases rx
  obtain ⟨u, rfl, ru⟩ := rv.one
  cases ru
  obtain ⟨z, its, n, r, hl, e⟩ := I.lstM hH
  obtain ⟨its2, r2, it2, z2⟩ := I.tuple (st_of hB)
  obtain ⟨⟨cls, dd, data, sl⟩, ho, hc, n2, hd⟩ := it2
  cases (show cls = Value.type "tuple" from hc)
  cases (show data = Data.seq its2.toArray n2 from hd)
  have l2 := r2.length
  have hsz : its.toArray.size + its2.toArray.size ≤ sizeLine := by rw [List.size_toArray, List.size_toArray]; omega
  have hlong : ¬ (!its.toArray.isEmpty && Builtin.List.listTooLong (its.toArray.size + its2.toArray.size)) = true := by
    rw [notLongL hsz, Bool.and_false]
    decide
  refine call_meets F.slot_list_extend ⟨_, e, rfl⟩ F.entry_list_extend (F.args_list_extend_2 _ _) (PySem.es_ext l its.toArray n b its2.toArray n2 dd sl hlong (by rw [List.size_toArray]; omega) (by omega)) ⟨e, ho, ?_⟩
  refine ⟨.non, _, I.lset (its' := its ++ its2) hH e (by simp) (r.append r2) ?_, rfl, q⟩
  rw [List.length_append]
  exact hz
end
end Es
namespace Es
open PySem PySem.Spec PyProof.Rows L2 Evl
/-- a list of leaves to draw from -/
def Menu (p : Addr) (H : Hp) (m : Addr) : Prop := m ≠ p ∧ ∃ ms : List V, H m = some (.lst ms) ∧ 1 ≤ ms.length ∧ ms.length ≤ 20 ∧ ∀ v ∈ ms, ∃ t, TrAt p H v t ∧ t.ok ∧ t.dep = 0
theorem Menu.xp {p m : Addr} {H H' : Hp} (h : Menu p H m) (e : Xp p H H') : Menu p H' m := by
  obtain ⟨n, ms, hm, h1, h2, h3⟩ := h
  refine ⟨n, ms, e _ _ n hm, h1, h2, fun v hv => ?_⟩
  obtain ⟨t, a, b, c⟩ := h3 v hv
  exact ⟨t, a.xp e, b, c⟩
theorem dep0_big {t : Tr} (h : t.dep = 0) : t.big = 15 := by
  cases t with
  | leaf k n => rfl
  | node k ps =>
    have : Tr.deps ps + 1 = 0 := h
    omega
def cost : Nat → Int
  | 0 => 1
  | n + 1 => 3 + 3 * cost n
def bg : Nat → Nat
  | 0 => 15
  | n + 1 => 12 + 3 * bg n
theorem cost_pos : ∀ n, 1 ≤ cost n
  | 0 => by decide
  | n + 1 => by
    have := cost_pos n
    show 1 ≤ 3 + 3 * cost n
    omega
theorem bg_ge : ∀ n, 15 ≤ bg n
  | 0 => by decide
  | n + 1 => by
    have := bg_ge n
    show 15 ≤ 12 + 3 * bg n
    omega
def spExpr (d : Nat) : Sp := fun vs H Q _ => ∃ (p m : Addr) (n : Nat) (c : Int), vs = [.ref p, .ref m, .int (n : Int)] ∧ n < d ∧ n ≤ 8 ∧ 0 ≤ c ∧ c + cost n ≤ 90000 ∧ Pot H p c ∧ Menu p H m ∧
  ∀ v t H', Xp p H H' → TrAt p H' v t → t.ok → t.dep ≤ n → t.big ≤ bg n → Pot H' p (c + cost n) → Q v H'
theorem kind2 (r : Int) (h0 : 2 ≤ r) (h1 : r < 4) : ∃ k ∈ nodeKinds, atI [V.str "repeat", V.str "optional"] (r - 2) = some (V.str k) := by
  have : r = 2 ∨ r = 3 := by omega
  rcases this with h | h <;> subst h
  · exact ⟨"repeat", by decide, rfl⟩
  · exact ⟨"optional", by decide, rfl⟩
theorem kind3 (r : Int) (h0 : 4 ≤ r) (h1 : r < 7) : ∃ k ∈ nodeKinds, atI [V.str "sequence", V.str "choice", V.str "sequence"] (r - 4) = some (V.str k) := by
  have : r = 4 ∨ r = 5 ∨ r = 6 := by omega
  rcases this with h | h | h <;> subst h
  · exact ⟨"sequence", by decide, rfl⟩
  · exact ⟨"choice", by decide, rfl⟩
  · exact ⟨"sequence", by decide, rfl⟩
/-- parts made so far: each of depth at most n -/
def Parts (p : Addr) (H : Hp) (n : Nat) (vs : List V) (ts : List Tr) : Prop := TrAll p H vs ts ∧ Tr.oks ts ∧ Tr.deps ts ≤ n ∧ Tr.bigs ts ≤ ts.length * (bg n + 1)
end Es
namespace PySem.SeqAt
open PySem Builtin
/-- dict.__eq__ of a text, str.__eq__ of a dict -/
theorem es_dict_str (l : Addr) (es : Array DictEntry) (n : Nat) (dd : Option Addr) (sl : Array (Option Value)) (b : Str) (u : Tok) :
    Meets (Builtin.«dict.__eq__» ⟨[.ref l, .str b u], []⟩) (fun _ R s => s.heap.get? l = some { cls := .type "dict", dict := dd, data := .dict es n, slots := sl } ∧ R (.ok (.ret .notImplemented)) s) :=
  .of_wp fun prog w A R s h => by
    obtain ⟨hp, g, d, tk, os⟩ := s
    obtain ⟨hl, h⟩ := h
    have f1 := F.sub_str_dict
    wp_walk using wpAny_loadPart' hl, wpAny_load hl
    exact ⟨_, rfl, h⟩
theorem es_str_dict (l : Addr) (es : Array DictEntry) (n : Nat) (dd : Option Addr) (sl : Array (Option Value)) (b : Str) (u : Tok) :
    Meets (Builtin.«str.__eq__» ⟨[.str b u, .ref l], []⟩) (fun _ R s => s.heap.get? l = some { cls := .type "dict", dict := dd, data := .dict es n, slots := sl } ∧ R (.ok (.ret .notImplemented)) s) :=
  .of_wp fun prog w A R s h => by
    obtain ⟨hp, g, d, tk, os⟩ := s
    obtain ⟨hl, h⟩ := h
    have f1 := F.sub_dict_str
    wp_walk using wpAny_loadPart' hl, wpAny_load hl
    exact ⟨_, rfl, h⟩
section
variable {A : Around} {s : Shared}
def IsDic (h : Heap) (l : Addr) : Prop := ∃ dd es n sl, h.get? l = some { cls := .type "dict", dict := dd, data := .dict es n, slots := sl }
theorem es_rc_dict_str {l : Addr} (b : Str) (u : Tok) (hl : IsDic s.heap l) (hu : A.units < cLine) : RcAt A s (.ref l) (.str b u) false := fun prog w E Q h => by
  obtain ⟨dd, es, n, sl, ho⟩ := hl
  exact rc_eq_decline_or (k := false) ⟨_, ho, rfl⟩ (typeIs_str s b u) (by decide) F.sub_str_dict F.slot_dict_eq F.slot_str_eq_refl
    (fun _ hq => call_meets F.slot_dict_eq ⟨_, ho, rfl⟩ F.entry_dict_eq (F.args_dict_eq_2 _ _) (es_dict_str l es n dd sl b u) ⟨ho, hq⟩)
    (fun _ hq => call_meets F.slot_str_eq_refl (typeIs_str s b u) F.entry_str_eq (F.args_str_eq_2 _ _) (es_str_dict l es n dd sl b u) ⟨ho, hq⟩)
    (fun _ hq => wpAny_of_eq (rfl : isSame (.ref l) (.str b u) = pure false) hq) (.inr hu) h
theorem es_rc_str_dict {l : Addr} (b : Str) (u : Tok) (hl : IsDic s.heap l) (hu : A.units < cLine) : RcAt A s (.str b u) (.ref l) false := fun prog w E Q h => by
  obtain ⟨dd, es, n, sl, ho⟩ := hl
  exact rc_eq_decline_or (k := false) (typeIs_str s b u) ⟨_, ho, rfl⟩ (by decide) F.sub_dict_str F.slot_str_eq F.slot_dict_eq_refl
    (fun _ hq => call_meets F.slot_str_eq (typeIs_str s b u) F.entry_str_eq (F.args_str_eq_2 _ _) (es_str_dict l es n dd sl b u) ⟨ho, hq⟩)
    (fun _ hq => call_meets F.slot_dict_eq_refl ⟨_, ho, rfl⟩ F.entry_dict_eq (F.args_dict_eq_2 _ _) (es_dict_str l es n dd sl b u) ⟨ho, hq⟩)
    (fun _ hq => wpAny_of_eq (rfl : isSame (.str b u) (.ref l) = pure false) hq) (.inr hu) h
theorem es_eq_dict_str {l : Addr} (b : Str) (u : Tok) (hl : IsDic s.heap l) (hu : A.units < cLine) : EqAt A s (.ref l) (.str b u) false := fun prog w E Q h => by
  unfold eqBool
  refine wpAny_holding (wpAny_ite_split (fun hab => absurd (eq_of_beq hab) nofun) (fun _ => ?_))
  exact wpAny_bind (es_rc_dict_str b u hl hu prog w E _ (wpAny_truthy_bool h))
theorem es_eq_str_dict {l : Addr} (b : Str) (u : Tok) (hl : IsDic s.heap l) (hu : A.units < cLine) : EqAt A s (.str b u) (.ref l) false := fun prog w E Q h => by
  unfold eqBool
  refine wpAny_holding (wpAny_ite_split (fun hab => absurd (eq_of_beq hab) nofun) (fun _ => ?_))
  exact wpAny_bind (es_rc_str_dict b u hl hu prog w E _ (wpAny_truthy_bool h))
end
end PySem.SeqAt
namespace Es
open PySem PySem.Spec PyProof.Rows L2 Evl
/-- where data does not stand: at a pot, nor at some lists -/
structure Sx where
  p : Addr
  m : Addr → Prop
def out : Option Sx → Addr → Prop
  | none, _ => False
  | some S, a => a = S.p ∨ S.m a
mutual
/-- data that stands in the heap, not at p; dicts of at most one pair, its key a text -/
inductive Dd (p : Option Sx) (H : Hp) : V → PyData → Prop
  | non : Dd p H .non .none
  | bl (b : Bool) : Dd p H (.bl b) (.bool b)
  | int (i : Int) : Dd p H (.int i) (.int i)
  | str (x : Str) : Dd p H (.str x) (.str x)
  | lst {a : Addr} {xs : List V} {ds : List PyData} : ¬ out p a → a ≠ sysModules → H a = some (.lst xs) → DdAll p H xs ds → Dd p H (.ref a) (.list ds)
  | tup {a : Addr} {xs : List V} {ds : List PyData} : ¬ out p a → H a = some (.tup xs) → DdAll p H xs ds → Dd p H (.ref a) (.tuple ds)
  | dk0 {a : Addr} : ¬ out p a → H a = some (.dK []) → Dd p H (.ref a) (.dict [])
  | dk1 {a : Addr} {k : Str} {v : V} {d : PyData} : ¬ out p a → H a = some (.dK [(Sum.inr k, v)]) → Dd p H v d → Dd p H (.ref a) (.dict [(.str k, d)])
inductive DdAll (p : Option Sx) (H : Hp) : List V → List PyData → Prop
  | nil : DdAll p H [] []
  | cons {v : V} {vs : List V} {d : PyData} {ds : List PyData} : Dd p H v d → DdAll p H vs ds → DdAll p H (v :: vs) (d :: ds)
end
theorem sn0 {a : Addr} : ¬ out none a := fun h => h
theorem no_p {S : Sx} {a : Addr} (h : ¬ out (some S) a) : a ≠ S.p := fun e => h (.inl e)
section
variable {p : Option Sx} {H H' : Hp}
mutual
theorem Dd.xp {q : Sx} (e : Xp q.p H H') : ∀ {v : V} {d : PyData}, Dd (some q) H v d → Dd (some q) H' v d
  | _, _, .non => .non
  | _, _, .bl b => .bl b
  | _, _, .int i => .int i
  | _, _, .str x => .str x
  | _, _, .lst n m h r => .lst n m (e _ _ (no_p n) h) (DdAll.xp e r)
  | _, _, .tup n h r => .tup n (e _ _ (no_p n) h) (DdAll.xp e r)
  | _, _, .dk0 n h => .dk0 n (e _ _ (no_p n) h)
  | _, _, .dk1 n h r => .dk1 n (e _ _ (no_p n) h) (Dd.xp e r)
theorem DdAll.xp {q : Sx} (e : Xp q.p H H') : ∀ {vs : List V} {ds : List PyData}, DdAll (some q) H vs ds → DdAll (some q) H' vs ds
  | _, _, .nil => .nil
  | _, _, .cons h r => .cons (Dd.xp e h) (DdAll.xp e r)
end
mutual
theorem Dd.ups (e : Ex H H') : ∀ {v : V} {d : PyData}, Dd p H v d → Dd p H' v d
  | _, _, .non => .non
  | _, _, .bl b => .bl b
  | _, _, .int i => .int i
  | _, _, .str x => .str x
  | _, _, .lst n m h r => .lst n m (e _ _ h) (DdAll.ups e r)
  | _, _, .tup n h r => .tup n (e _ _ h) (DdAll.ups e r)
  | _, _, .dk0 n h => .dk0 n (e _ _ h)
  | _, _, .dk1 n h r => .dk1 n (e _ _ h) (Dd.ups e r)
theorem DdAll.ups (e : Ex H H') : ∀ {vs : List V} {ds : List PyData}, DdAll p H vs ds → DdAll p H' vs ds
  | _, _, .nil => .nil
  | _, _, .cons h r => .cons (Dd.ups e h) (DdAll.ups e r)
end
theorem Dd.up {v : V} {d : PyData} (h : Dd p H v d) (e : Ex H H') : Dd p H' v d := h.ups e
theorem DdAll.up {v : List V} {d : List PyData} (h : DdAll p H v d) (e : Ex H H') : DdAll p H' v d := h.ups e
theorem DdAll.length : ∀ {vs : List V} {ds : List PyData}, DdAll p H vs ds → vs.length = ds.length
  | _, _, .nil => rfl
  | _, _, .cons _ r => by rw [List.length_cons, List.length_cons, DdAll.length r]
theorem DdAll.append : ∀ {vs ws : List V} {ds es : List PyData}, DdAll p H vs ds → DdAll p H ws es → DdAll p H (vs ++ ws) (ds ++ es)
  | _, _, _, _, .nil, h => h
  | _, _, _, _, .cons h r, k => .cons h (DdAll.append r k)
theorem DdAll.drop : ∀ {vs : List V} {ds : List PyData} (i : Nat), DdAll p H vs ds → DdAll p H (vs.drop i) (ds.drop i)
  | _, _, 0, h => h
  | _, _, _ + 1, .nil => .nil
  | _, _, i + 1, .cons _ r => DdAll.drop i r
theorem DdAll.take : ∀ {vs : List V} {ds : List PyData} (i : Nat), DdAll p H vs ds → DdAll p H (vs.take i) (ds.take i)
  | _, _, 0, h => .nil
  | _, _, _ + 1, .nil => .nil
  | _, _, i + 1, .cons h r => .cons h (DdAll.take i r)
theorem DdAll.get : ∀ {vs : List V} {ds : List PyData} {i : Nat} {v : V}, DdAll p H vs ds → vs[i]? = some v → ∃ d, ds[i]? = some d ∧ Dd p H v d
  | _, _, 0, _, .cons h _, e => ⟨_, rfl, by cases e; exact h⟩
  | _, _, i + 1, _, .cons _ r, e => DdAll.get (i := i) r e
theorem Dd.thing {v : V} {d : PyData} (h : Dd p H v d) (hs : ∀ x, d = .str x → x.length ≤ 1000) : Thing H v := by
  cases h with
  | non => exact .non
  | bl b => exact .bl b
  | int i => exact .int i
  | str x => exact .str x (hs x rfl)
  | lst n m h r => exact .lst h
  | tup n h r => exact .tup h
  | dk0 n h => exact .dK h
  | dk1 n h r => exact .dK h
end
section
variable {X : Cx} {pins : List (Addr × Obj)} {σ : L2.St} {H : Hp} {s : Shared} {p : Option Sx}
theorem dic_of (I : Inv X pins σ H s) {a : Addr} {kvs : List (Key × V)} (h : H a = some (.dK kvs)) : SeqAt.IsDic s.heap a ∧ a ≠ sysModules := by
  obtain ⟨_, hs, vs, rv, hd⟩ := (show ObjOk X.prog X.w H s.heap a (.dK kvs) from I.hok a _ h)
  obtain ⟨⟨cls, dd, data, sl⟩, es, ep, ho, ⟨h1, h2, h3⟩, h4, _⟩ := hd
  cases (show cls = _ from h1)
  cases (show data = _ from h4)
  exact ⟨⟨dd, es, ep, sl, ho⟩, beq_eq_false_iff_ne.mp hs⟩
end
end Es
namespace Es
open PySem PySem.Spec PyProof.Rows L2 Evl
section
variable {X : Cx} {pins : List (Addr × Obj)} {σ : L2.St} {H : Hp} {s : Shared} {p : Option Sx}
mutual
theorem Dd.reads (I : Inv X pins σ H s) : ∀ {v : V} {d : PyData} {u : Value}, Dd p H v d → RelV v u → ∃ as, Reads s.heap u d as ∧ sysModules ∉ as
  | _, _, _, .non, r => by
    cases r
    exact ⟨_, Reads.none, List.not_mem_nil⟩
  | _, _, _, .bl b, r => by
    cases r
    exact ⟨_, Reads.bool b, List.not_mem_nil⟩
  | _, _, _, .int i, r => by
    obtain ⟨t, rfl⟩ := r
    exact ⟨_, Reads.int i t, List.not_mem_nil⟩
  | _, _, _, .str x, r => by
    obtain ⟨t, rfl⟩ := r
    exact ⟨_, Reads.str x t, List.not_mem_nil⟩
  | _, _, _, .lst n m h q, r => by
    cases r
    obtain ⟨its, rv, ⟨o, k, ho, hc, _, hd⟩, _⟩ := I.list (sq_of h)
    obtain ⟨as, hr, hn⟩ := DdAll.reads I q rv
    refine ⟨_, Reads.list ho hc hd hr, fun z => ?_⟩
    rcases List.mem_cons.mp z with e | e
    · exact m e.symm
    · exact hn e
  | _, _, _, .tup n h q, r => by
    cases r
    obtain ⟨its, rv, ⟨o, ho, hc, k, hd⟩, _⟩ := I.tuple (st_of h)
    obtain ⟨as, hr, hn⟩ := DdAll.reads I q rv
    exact ⟨_, Reads.tuple ho hc hd hr, hn⟩
  | _, _, _, @Dd.dk0 _ _ a n h, r => by
    cases r
    have hm := (dic_of I h).2
    obtain ⟨_, _, vs, rv, hd⟩ := (show ObjOk X.prog X.w H s.heap a (.dK []) from I.hok a _ h)
    obtain ⟨o, es, ep, ho, hx, hdt, hk, hp, _⟩ := hd
    cases rv
    have he : es.toList = [] := by
      generalize es.toList = l at hp
      cases hp
      rfl
    refine ⟨_, Reads.dict (kvs := []) ho hx.1 hdt (as := []) (bs := []) (by rw [he]; exact .nil) (by rw [he]; exact .nil), fun z => ?_⟩
    rcases List.mem_cons.mp z with e | e
    · exact hm e.symm
    · cases e
  | _, _, _, @Dd.dk1 _ _ a k v d n h q, r => by
    cases r
    have hm := (dic_of I h).2
    obtain ⟨_, _, vs, rv, hd⟩ := (show ObjOk X.prog X.w H s.heap a (.dK [(Sum.inr k, v)]) from I.hok a _ h)
    obtain ⟨o, es, ep, ho, hx, hdt, hk, hp, _⟩ := hd
    obtain ⟨w, rfl, rw⟩ : ∃ w, vs = [(Sum.inr k, w)] ∧ RelV v w := by
      unfold KV at rv
      match vs, rv with
      | [(y1, y2)], .cons q1 .nil =>
        have e1 : Sum.inr k = y1 := q1.1
        subst e1
        exact ⟨y2, rfl, q1.2⟩
    obtain ⟨as, ar, an⟩ := Dd.reads I q rw
    obtain ⟨e, t, he, hkey, hval⟩ : ∃ (e : DictEntry) (t : Tok), es.toList = [e] ∧ e.key = .str k t ∧ e.val = w := by
      generalize es.toList = l at hp
      cases hp with
      | cons z1 z2 z3 =>
        cases z3
        rename_i e
        rcases keyIs_shape (k := Sum.inr k) (v := e.key) z1 with ⟨i, t, e1, _⟩ | ⟨x, t, e1, e2⟩
        · cases e1
        · cases e1
          exact ⟨e, t, rfl, e2, z2⟩
    refine ⟨_, Reads.dict (kvs := [(.str k, d)]) ho hx.1 hdt (as := [] ++ []) (bs := as ++ []) (by rw [he, List.map_singleton, hkey]; exact .cons (.str k t) .nil) (by rw [he, List.map_singleton, hval]; exact .cons ar .nil), fun z => ?_⟩
    rcases List.mem_cons.mp z with y | y
    · exact hm y.symm
    · rw [List.append_nil] at y
      exact an (by simpa using y)
theorem DdAll.reads (I : Inv X pins σ H s) : ∀ {vs : List V} {ds : List PyData} {us : List Value}, DdAll p H vs ds → Vals vs us → ∃ as, ReadsAll s.heap us ds as ∧ sysModules ∉ as
  | _, _, _, .nil, r => by
    cases r
    exact ⟨_, ReadsAll.nil, List.not_mem_nil⟩
  | _, _, _, .cons h q, r => by
    cases r with
    | cons r1 r2 =>
      obtain ⟨as, a1, a2⟩ := Dd.reads I h r1
      obtain ⟨bs, b1, b2⟩ := DdAll.reads I q r2
      exact ⟨_, ReadsAll.cons a1 b1, fun z => (List.mem_append.mp z).elim a2 b2⟩
end
end
/-- what repr asks of data, dicts among it -/
def Fit (n : Nat) (d : PyData) : Prop := d.showable = true ∧ d.leavesShort 30 = true ∧ d.bulk ≤ 8 * n ∧ d.depth ≤ n
theorem Fit.more {n m : Nat} {d : PyData} (h : Fit n d) (e : n ≤ m) : Fit m d := ⟨h.1, h.2.1, (by have := h.2.2.1; omega), Nat.le_trans h.2.2.2 e⟩
theorem Fit.len {n : Nat} {d : PyData} (h : Fit n d) : d.shown.length ≤ 256 * n + 30 := by
  have := PyData.shown_le_bulk 30 (by decide) d h.2.1
  have := h.2.2.1
  omega
def Fits (n : Nat) (ds : List PyData) : Prop := PyData.showableAll ds = true ∧ PyData.leavesShortAll 30 ds = true ∧ PyData.bulkAll ds ≤ 8 * n ∧ PyData.depthAll ds ≤ n
theorem Fits.nil : Fits 0 [] := ⟨rfl, rfl, Nat.le_refl _, Nat.le_refl _⟩
theorem Fits.cons {n m : Nat} {d : PyData} {ds : List PyData} (h : Fit n d) (k : Fits m ds) : Fits (n + 1 + m) (d :: ds) := by
  obtain ⟨a1, a2, a3, a4⟩ := h
  obtain ⟨b1, b2, b3, b4⟩ := k
  refine ⟨?_, ?_, ?_, ?_⟩
  · show (d.showable && PyData.showableAll ds) = true
    rw [a1, b1]
    rfl
  · show (d.leavesShort 30 && PyData.leavesShortAll 30 ds) = true
    rw [a2, b2]
    rfl
  · show d.bulk + 1 + PyData.bulkAll ds ≤ 8 * (n + 1 + m)
    omega
  · show max d.depth (PyData.depthAll ds) ≤ n + 1 + m
    omega
theorem Fits.more {n m : Nat} {d : List PyData} (h : Fits n d) (e : n ≤ m) : Fits m d := ⟨h.1, h.2.1, (by have := h.2.2.1; omega), Nat.le_trans h.2.2.2 e⟩
theorem Fits.tup {n : Nat} {ds : List PyData} (h : Fits n ds) : Fit (n + 1) (.tuple ds) := by
  obtain ⟨a1, a2, a3, a4⟩ := h
  refine ⟨a1, a2, ?_, ?_⟩
  · show PyData.bulkAll ds ≤ 8 * (n + 1)
    omega
  · show PyData.depthAll ds + 1 ≤ n + 1
    omega
theorem Fits.lst {n : Nat} {ds : List PyData} (h : Fits n ds) : Fit (n + 1) (.list ds) := by
  obtain ⟨a1, a2, a3, a4⟩ := h
  refine ⟨a1, a2, ?_, ?_⟩
  · show PyData.bulkAll ds ≤ 8 * (n + 1)
    omega
  · show PyData.depthAll ds + 1 ≤ n + 1
    omega
theorem fit_non : Fit 0 .none := ⟨rfl, rfl, Nat.le_refl _, Nat.le_refl _⟩
theorem fit_bl (b : Bool) : Fit 0 (.bool b) := ⟨rfl, rfl, Nat.le_refl _, Nat.le_refl _⟩
theorem fit_str {x : Str} {n : Nat} (h : (x.cps.toList.all fun c => decide (c < 16 ^ 8)) = true) (hn : x.length ≤ 8 * n) : Fit n (.str x) := ⟨rfl, h, hn, Nat.zero_le _⟩
theorem fit_int {i : Int} (h : i.natAbs.log2 < 1920) (hl : (PyData.shown (.int i)).length ≤ 30) : Fit 0 (.int i) := ⟨decide_eq_true h, decide_eq_true hl, Nat.le_refl _, Nat.le_refl _⟩
theorem fit_dk0 : Fit 1 (.dict []) := ⟨rfl, rfl, Nat.zero_le _, Nat.le_refl _⟩
theorem fit_dk1 {k : Str} {d : PyData} {n : Nat} (hk : (k.cps.toList.all fun c => decide (c < 16 ^ 8)) = true) (hkl : k.length ≤ 10) (h : Fit n d) : Fit (n + 13) (.dict [(.str k, d)]) := by
  obtain ⟨a1, a2, a3, a4⟩ := h
  refine ⟨?_, ?_, ?_, ?_⟩
  · show (true && d.showable && true) = true
    rw [a1]
    rfl
  · show ((k.cps.toList.all fun c => decide (c < 16 ^ 8)) && d.leavesShort 30 && true) = true
    rw [hk, a2]
    rfl
  · show k.cps.size + d.bulk + 2 + 0 ≤ 8 * (n + 13)
    have : k.cps.size ≤ 10 := hkl
    omega
  · show max (max 0 d.depth) 0 + 1 ≤ n + 13
    omega
section
variable {X : Cx}
def rReprX : List V → Hp → VK → Prop := fun xs H Q => ∃ (v : V) (d : PyData) (p : Option Sx), xs = [v] ∧ Dd p H v d ∧ Fit 190 d ∧ Q (.str d.shown) H
theorem cr_reprX (hg : X.A.guards = some []) (hu : X.A.units + 200 < cLine) : CallR X (.builtin "repr") rReprX := by
  intro pins s σ H xs us Q I r h
  obtain ⟨v, d, p, rfl, hd, hf, q⟩ := h
  obtain ⟨u, rfl, ru⟩ := vals1 r
  obtain ⟨as, rd, hn⟩ := hd.reads I ru
  have hz : d.shown.length ≤ sizeLine := sz_of (Nat.le_trans hf.len (by decide))
  have big : ∀ a, v = .ref a → wpAny (model X.prog X.w) X.A (call (.builtin "repr") [u]) (EP X pins σ Q) X.xe s := by
    rintro a rfl
    obtain rfl : u = Value.ref a := ru
    refine repr_of_reads' rd hf.1 (fun _ => hn) hg (by have := hf.2.2.2; omega) (fun _ _ e => e) (fun h' u tk hk => ?_) hz
    exact ⟨.str d.shown, H, I.kept (t' := tk) hk, ⟨_, rfl⟩, q⟩
  cases hd with
  | non =>
    cases ru
    exact PySem.P.repr_of_none ⟨.str _, H, I.tok _, ⟨_, rfl⟩, q⟩
  | bl b =>
    obtain rfl : u = Value.bool b := ru
    exact PySem.P.repr_of_bool ⟨.str _, H, I.tok _, ⟨_, rfl⟩, q⟩
  | int i =>
    obtain ⟨t, rfl⟩ := ru
    exact PySem.P.repr_of_int (of_decide_eq_true hf.1) ⟨.str _, H, I.tok _, ⟨_, rfl⟩, q⟩
  | str x =>
    obtain ⟨t, rfl⟩ := ru
    exact PySem.P.repr_of_str ⟨.str _, H, I.tok _, ⟨_, rfl⟩, q⟩ hz
  | lst n m h r => exact big _ rfl
  | tup n h r => exact big _ rfl
  | dk0 n h => exact big _ rfl
  | dk1 n h r => exact big _ rfl
/-- is the datum this text? -/
def isT (z : Str) : PyData → Bool
  | .str y => y == z
  | _ => false
theorem eqAt_dS {pins : List (Addr × Obj)} {σ : L2.St} {H : Hp} {s : Shared} {p : Option Sx} {v : V} {d : PyData} {u : Value} {z : Str} {t : Tok} {A : Around} (I : Inv X pins σ H s) (h : Dd p H v d) (r : RelV v u) (hu : A.units < cLine) :
    SeqAt.EqAt A s u (.str z t) (isT z d) := by
  cases h with
  | non =>
    cases r
    exact SeqAt.EqAt.none_str _ _
  | bl b =>
    obtain rfl : u = Value.bool b := r
    exact SeqAt.EqAt.bool_str _ _ _
  | int i =>
    obtain ⟨t', rfl⟩ := r
    exact SeqAt.EqAt.int_str _ _ _ _
  | str x =>
    obtain ⟨t', rfl⟩ := r
    exact SeqAt.EqAt.str_str _ _ _ _
  | lst n m h q =>
    cases r
    obtain ⟨its, rv, pl, _⟩ := I.list (sq_of h)
    exact SeqAt.EqAt.list_str _ _ pl.isList hu
  | tup n h q =>
    cases r
    obtain ⟨its, rv, ⟨o, ho, hc, k, hd⟩, _⟩ := I.tuple (st_of h)
    exact SeqAt.EqAt.tuple_str _ _ ⟨o, ho, hc, k, hd⟩ hu
  | dk0 n h =>
    cases r
    exact SeqAt.es_eq_dict_str _ _ (dic_of I h).1 hu
  | dk1 n h q =>
    cases r
    exact SeqAt.es_eq_dict_str _ _ (dic_of I h).1 hu
theorem eqAt_Sd {pins : List (Addr × Obj)} {σ : L2.St} {H : Hp} {s : Shared} {p : Option Sx} {v : V} {d : PyData} {u : Value} {z : Str} {t : Tok} {A : Around} (I : Inv X pins σ H s) (h : Dd p H v d) (r : RelV v u) (hu : A.units < cLine) :
    SeqAt.EqAt A s (.str z t) u (isT z d) := by
  cases h with
  | non =>
    cases r
    exact SeqAt.EqAt.str_none _ _
  | bl b =>
    obtain rfl : u = Value.bool b := r
    exact SeqAt.EqAt.str_bool _ _ _
  | int i =>
    obtain ⟨t', rfl⟩ := r
    exact SeqAt.EqAt.str_int _ _ _ _
  | str x =>
    obtain ⟨t', rfl⟩ := r
    have e : isT z (.str x) = (z == x) := by
      show (x == z) = (z == x)
      by_cases h : x = z
      · rw [h]
      · rw [beq_eq_false_iff_ne.mpr h, beq_eq_false_iff_ne.mpr (Ne.symm h)]
    rw [e]
    exact SeqAt.EqAt.str_str _ _ _ _
  | lst n m h q =>
    cases r
    obtain ⟨its, rv, pl, _⟩ := I.list (sq_of h)
    exact SeqAt.EqAt.str_list _ _ pl.isList hu
  | tup n h q =>
    cases r
    obtain ⟨its, rv, ⟨o, ho, hc, k, hd⟩, _⟩ := I.tuple (st_of h)
    exact SeqAt.EqAt.str_tuple _ _ ⟨o, ho, hc, k, hd⟩ hu
  | dk0 n h =>
    cases r
    exact SeqAt.es_eq_str_dict _ _ (dic_of I h).1 hu
  | dk1 n h q =>
    cases r
    exact SeqAt.es_eq_str_dict _ _ (dic_of I h).1 hu
end
end Es
namespace PySem
/-- enumerate of one thing -/
theorem es_enum_new {v : Value} {o : Obj} {H : Heap → Prop} (B : Begins v o H) :
    Meets (Builtin.«enumerate.__new__» ⟨[.type "enumerate", v], []⟩) (fun _ R s => H s.heap ∧
      R (.ok (.ret (.ref (s.heap.push o).objs.size))) { s with heap := (s.heap.push o).push { cls := .type "enumerate", data := .fields #[.none, .bool false, .ref s.heap.objs.size, rawInt 0, .none, .none] } }) :=
  .of_wp fun prog w A R s h => by
    obtain ⟨hp, g, d, tk, os⟩ := s
    obtain ⟨h1, h⟩ := h
    have hs := sub_enumerate
    have b1 : ∀ {A' : Around} {E : Value → Shared → Prop} {Q : Value → Shared → Prop}, Q (.ref hp.objs.size) ⟨hp.push o, g, d, tk, os⟩ → wpAny (model prog w) A' (pyIter v) Q E ⟨hp, g, d, tk, os⟩ :=
      fun q => B.iter prog w _ _ ⟨hp, g, d, tk, os⟩ _ h1 q
    wp_walk using b1
    refine wpAny_stack_any fun st => wpAny_pure ?_
    split
    · rename_i c _ _ _ _ _
      cases (c == Value.type "enumerate") <;> (wp_walk using b1; exact ⟨_, rfl, h⟩)
    · wp_walk using b1
      exact ⟨_, rfl, h⟩
theorem es_enum_tup {prog : Program} {w : World} {A : Around} {E : Value → Shared → Prop} {s : Shared} {l : Addr} {its : Array Value} {Q : Value → Shared → Prop} (hL : s.heap.IsTuple l its)
    (h : ∀ h', IsEnum h' (s.heap.objs.size + 1) s.heap.objs.size 0 .none → h'.IsTupleIter s.heap.objs.size l 0 → h'.objs.size = s.heap.objs.size + 2 →
      (∀ b o, s.heap.get? b = some o → h'.get? b = some o) → Q (.ref (s.heap.objs.size + 1)) { s with heap := h' }) :
    wpAny (model prog w) A (call (.type "enumerate") [.ref l]) Q E s := by
  have B := begins_tuple l its
  refine callType_new F.called_enumerate (by decide) (F.typeCall_enumerate_1 _) (F.newCall_enumerate_1 _) (fun obj => F.args_object_init_2 obj _) F.entry_enumerate_new (es_enum_new B) ⟨hL, ?_⟩
  have hz : (s.heap.push { cls := .type "tuple_iterator", data := .fields #[.ref l, .int 0 0] }).objs.size = s.heap.objs.size + 1 := Heap.size_push ..
  show _ ∧ _
  rw [hz]
  have he : IsEnum ((s.heap.push { cls := .type "tuple_iterator", data := .fields #[.ref l, .int 0 0] }).push { cls := .type "enumerate", data := .fields #[.none, .bool false, .ref s.heap.objs.size, rawInt 0, .none, .none] }) (s.heap.objs.size + 1) s.heap.objs.size 0 .none := by
    have := Heap.get?_push_size (s.heap.push { cls := .type "tuple_iterator", data := .fields #[.ref l, .int 0 0] }) (o := { cls := .type "enumerate", data := .fields #[.none, .bool false, .ref s.heap.objs.size, rawInt 0, .none, .none] }) rfl
    rw [hz] at this
    exact this
  refine ⟨⟨_, he, rfl⟩, h _ he ⟨_, Heap.get?_push_of_some _ (Heap.get?_push_size _ rfl), rfl, rfl⟩ (by rw [Heap.size_push, hz]) ?_⟩
  intro b o x
  exact Heap.get?_push_of_some _ (Heap.get?_push_of_some _ x)
end PySem
namespace Es
open PySem PySem.Spec PyProof.Rows L2 Evl
/-- the tuple at a, each item with its number in a new pair -/
def Iet (K : PySem.W.Frag) (a : Addr) : It :=
  ⟨fun i H => ∃ (xs : List V) (x : V), SqT K H a xs ∧ xs[i]? = some x, fun i H v H' => ∃ T x, v = .ref T ∧ H T = none ∧ H' = upd H T (.tup [.int (i : Nat), x]) ∧ ∀ xs, SqT K H a xs → xs[i]? = some x,
    fun i H => ∃ xs : List V, SqT K H a xs ∧ xs.length = i⟩
theorem turn_et {P : Program} {w : World} {K : PySem.W.Frag} {elts : List Expr} {kk : Nat} {tpos : Pos} (a e it : Addr) :
    Turn P w K (.Tuple elts kk tpos) (Iet K a) [e, it] e (fun i h => (∃ old, IsEnum h e it ((i : Nat) : Int) old) ∧ h.IsTupleIter it a i ∧ e ≠ it ∧ a ≠ it ∧ e ≠ a) where
  mem := by simp
  obj := fun i h st b hb => by
    obtain ⟨⟨old, he⟩, ⟨o, ho, hc, hd⟩, _⟩ := st
    rcases List.mem_cons.mp hb with z | z
    · subst z
      exact ⟨_, he, fun v q => nomatch q⟩
    · cases List.mem_singleton.mp z
      exact ⟨o, ho, fun v q => by rw [hd] at q; cases q⟩
  keep := fun i h h' st k => by
    obtain ⟨⟨old, he⟩, hi, r⟩ := st
    exact ⟨⟨old, k e (by simp) _ he⟩, hi.at fun o q => k it (by simp) o q, r⟩
  item := by
    intro X hP hw hK hc i pins s σ H E I hf st hg
    subst hP hw hK
    obtain ⟨⟨old, he⟩, hit, hne, hai, hea⟩ := st
    obtain ⟨xs, x, hq, hx⟩ := hg
    obtain ⟨its, rv, it0, hz⟩ := I.tuple hq
    obtain ⟨u, hu, ru⟩ := rv.get hx
    have hel : e < s.heap.objs.size := Heap.lt_size he
    have hil : it < s.heap.objs.size := by
      obtain ⟨_, q, _⟩ := hit
      exact Heap.lt_size q
    have hlt : i < its.toArray.size := by
      rw [List.size_toArray]
      exact (List.getElem?_eq_some_iff.mp hu).1
    have D := Draws.tuple (prog := X.prog) (w := X.w) (A := X.A.in1) (I.ok.hd hc) it a hai its.toArray
    refine wpAny_pyNext_enum_itemD D he ⟨hit, it0⟩ hlt hne (by simp [hne, hea]) ?_
    intro y h' tk hy ho hst hT hsz hk
    have hyu : y = u := by
      have h1 : its.toArray[i]? = some y := hy
      have h2 : its.toArray[i]? = some u := by simpa using hu
      exact Option.some.inj (h1.symm.trans h2)
    subst hyu
    refine ⟨_, rfl, wpAny_letOwnedTupleGo_enum (s := { s with heap := h', toks := tk + 1 }) ho ?_⟩
    intro h'' he' sb
    have hT2 : h''.get? s.heap.objs.size = some { cls := .type "tuple", data := .seq #[.int i tk, y] } := (sb.2 _ (Nat.ne_of_gt hel)).trans hT
    have new : ObjOk X.prog X.w (upd H s.heap.objs.size (.tup [.int (i : Nat), x])) h'' s.heap.objs.size (.tup [.int (i : Nat), x]) :=
      ⟨by show 2 ≤ sizeLine; decide, [.int i tk, y], .cons ⟨_, rfl⟩ (.cons ru .nil), ⟨_, hT2, rfl, _, rfl⟩⟩
    have I1 : Inv X pins σ (upd H s.heap.objs.size (.tup [.int (i : Nat), x])) { s with heap := h'', toks := tk + 1 } :=
      I.turnedNew (ch := [e, it]) (fun b ob hb q => (sb.2 b (fun z => hb (by simp [z]))).trans (hk b ob (fun z => hb (by simp [z])) (fun z => hb (by simp [z])) q)) hf (Nat.le_refl _) new
    refine ⟨.ref s.heap.objs.size, _, I1, rfl, ⟨_, x, rfl, I.hok.fresh (Nat.le_refl _), rfl, fun ys hy => by rw [I.tuple_inj hy hq]; exact hx⟩, ⟨⟨y, ?_⟩, hst.1.at fun o q => (sb.2 it (Ne.symm hne)).trans q, hne, hai, hea⟩, fun b hb => ?_⟩
    · rw [show ((i + 1 : Nat) : Int) = (i : Int) + 1 by omega]
      exact he'
    · have hb' : b < s.heap.objs.size := by
        rcases List.mem_cons.mp hb with z | z
        · subst z
          exact hel
        · cases List.mem_singleton.mp z
          exact hil
      rw [upd_ne (Nat.ne_of_lt hb')]
      exact (hf b hb).1
  done := by
    intro X hP hw hK hc i pins s σ H E I hf st hg
    subst hP hw hK
    obtain ⟨⟨old, he⟩, hit, hne, hai, hea⟩ := st
    obtain ⟨xs, hq, hx⟩ := hg
    obtain ⟨its, rv, it0, hz⟩ := I.tuple hq
    obtain ⟨f0, f1, f2, f3, f4, f5⟩ := hf it (by simp)
    have D := Draws.tuple (prog := X.prog) (w := X.w) (A := X.A.in1) (I.ok.hd hc) it a hai its.toArray
    have hl := rv.length
    have hn : its.toArray.size = i := by
      rw [List.size_toArray]
      omega
    refine wpAny_pyNext_enum_endD D he (by rw [hn]; exact ⟨hit, it0⟩) ?_
    intro h' eb
    exact ⟨rfl, I.turned (t' := s.toks) (fun b o hb q => eb b o hb q) f0 f1 f3 f4 f5⟩
  self := fun A i s Q E st h => wpAny_pyIter_enum st.1.choose_spec h
def iEt (K : PySem.W.Frag) (ta : TA) : TI := fun σ H R => ta σ H fun vs H1 => ∃ a xs, vs = [.ref a] ∧ SqT K H1 a xs ∧ R (Iet K a) H1
theorem pi_et {X : Cx} {e : Expr} {ta : TA} {p pos tpos : Pos} {elts : List Expr} {kk : Nat} (hg : Gl X "enumerate") (hm : X.mg "enumerate" = none) (ha : PA X [e] ta) (hs : starEach [e] X.env = [(false, eval e X.env)] := by rfl) :
    PI X (.Tuple elts kk tpos) (.Call (.Name "enumerate" p) [e] [] pos) (iEt X.K ta) := by
  refine ⟨?_⟩
  intro pins s σ H R I h
  refine Call_ (ld_blt I hg hm boot_enumerate (PyProof.Rows.callWith_type1 (thn (ha.run pos pins s σ H _ I h) ?_) hs rfl))
  rintro us s1 ⟨vs, H1, I1, r1, a, xs, rfl, hq, q⟩
  cases r1 with
  | cons r rr =>
    cases rr
    cases r
    obtain ⟨its, rv, it0, hz⟩ := I1.tuple hq
    have hlt : a < s1.heap.objs.size := it0.lt
    refine es_enum_tup it0 ?_
    intro h' he hit hsz hk
    refine wpAny_pyIter_enum he ?_
    have I2 : Inv X pins σ H1 { s1 with heap := h' } := I1.kept (t' := s1.toks) hk
    refine ⟨s1.heap.objs.size + 1, [s1.heap.objs.size + 1, s1.heap.objs.size], _, _, H1, rfl, I2, turn_et a (s1.heap.objs.size + 1) s1.heap.objs.size, ⟨⟨.none, he⟩, hit, Nat.succ_ne_self _, Nat.ne_of_lt hlt, Nat.ne_of_gt (Nat.lt_succ_of_lt hlt)⟩, fun b hb => ?_, q⟩
    have hle : s1.heap.objs.size ≤ b := by
      rcases List.mem_cons.mp hb with z | z
      · subst z
        exact Nat.le_succ _
      · cases List.mem_singleton.mp z
        exact Nat.le_refl _
    exact I1.fpOk hle (I1.hok.fresh hle)
theorem walk_et {K : PySem.W.Frag} {a : Addr} {xs : List V} : Walk (Iet K a) xs.length (fun H => SqT K H a xs) (YPair (fun i => some (.int (i : Nat))) (fun i => xs[i]?)) := by
  refine ⟨fun i _ hi q => ⟨xs, xs[i], q, by simp [hi]⟩, fun _ q => ⟨xs, q, rfl⟩, fun i H v H' _ q y => ?_⟩
  obtain ⟨T, x, h1, h2, h3, h4⟩ := y
  exact ⟨T, .int (i : Nat), x, h1, h2, h3, rfl, h4 xs q⟩
end Es
namespace Es
open PySem PySem.Spec PyProof.Rows L2 Evl
section
variable {X : Cx} {es : List Expr} {t : TA} {pos : Pos}
/-- a written list: its place is none of the interpreter's own -/
def tLst1 (t : TA) : TE := fun σ H Q => t σ H fun xs H1 => xs.length ≤ sizeLine ∧ ∀ p, p ≠ sysModules → H1 p = none → Q (.ref p) (upd H1 p (.lst xs))
theorem pe_lst1 (h : PA X es t) : PE X (.List es pos) (tLst1 t) := by
  refine ⟨?_⟩
  intro pins s σ H Q I hq
  refine wpAny_List_spliced (thn (h.run pos pins s σ H _ I hq) ?_)
  rintro us s1 ⟨xs, H1, I1, r, z, q⟩
  have nf : H1 s1.heap.objs.size = none := I1.hok.fresh (Nat.le_refl _)
  refine ⟨by rw [← r.length]; exact z, .ref s1.heap.objs.size, upd H1 s1.heap.objs.size (.lst xs), I1.laid (t' := s1.toks) (fun b u e => Heap.get?_push_of_some _ e) (Nat.le_refl _) ?_, rfl, q _ (Nat.ne_of_gt I1.big) nf⟩
  exact ⟨z, us, 0, r, Heap.get?_push_size _ rfl⟩
/-- list(a tuple), likewise -/
def rListT1 (K : PySem.W.Frag) : List V → Hp → VK → Prop := fun xs H Q => ∃ p ys, xs = [.ref p] ∧ SqT K H p ys ∧ ∀ l, l ≠ sysModules → H l = none → Q (.ref l) (upd H l (.lst ys))
theorem cr_listT1 : CallR X (.type "list") (rListT1 X.K) := by
  intro pins s σ H xs us Q I r h
  obtain ⟨p, ys, rfl, hq, q⟩ := h
  obtain ⟨u, rfl, rx⟩ := vals1 r
  cases rx
  obtain ⟨its, r', ⟨o, ho, hc, n, hd⟩, hz⟩ := I.tuple hq
  have hl := r'.length
  refine call_list_seq p (.inr rfl) ho hc hd ?_ (by rw [List.size_toArray]; omega)
  intro h' c' kp e
  refine ⟨.ref s.heap.objs.size, _, I.laid (t' := s.toks) kp (Nat.le_refl _) (show ObjOk X.prog X.w _ h' _ (.lst ys) from ⟨hz, its, c', r', e⟩), rfl, q _ (Nat.ne_of_gt I.big) (I.hok.fresh (Nat.le_refl _))⟩
/-- == of a tuple of at most one item with a tuple of one text -/
def rEqT1 (K : PySem.W.Frag) : R2 := fun x y H Q => ∃ a b xs z, x = .ref a ∧ y = .ref b ∧ SqT K H a xs ∧ SqT K H b [.str z] ∧
  ((xs = [] ∧ Q (.bl false) H) ∨ ∃ v d p, xs = [v] ∧ Dd p H v d ∧ Q (.bl (isT z d)) H)
theorem all0 (z : Value) : ((List.range (min (#[] : Array Value).size #[z].size)).all (fun _ => true) && (#[] : Array Value).size == #[z].size) = false := rfl
theorem all1 (y z : Value) (b : Bool) : ((List.range (min #[y].size #[z].size)).all (fun _ => b) && #[y].size == #[z].size) = b := by
  show ((b && true) && true) = b
  cases b <;> rfl
theorem rc_t0 {A : Around} {s : Shared} {a b : Addr} {z : Value} (hu : A.units < cLine) (t1 : s.heap.IsTuple a #[]) (t2 : s.heap.IsTuple b #[z]) : SeqAt.RcAt A s (.ref a) (.ref b) false := by
  have R := SeqAt.RcAt.tuples (e := fun _ => true) t1 t2 hu (fun j h1 _ => absurd h1 (Nat.not_lt_zero _))
  rw [all0] at R
  exact R
theorem rc_t1 {A : Around} {s : Shared} {a b : Addr} {y z : Value} {k : Bool} (hu : A.units < cLine) (t1 : s.heap.IsTuple a #[y]) (t2 : s.heap.IsTuple b #[z]) (he : SeqAt.EqAt A.in1 s y z k) : SeqAt.RcAt A s (.ref a) (.ref b) k := by
  have R := SeqAt.RcAt.tuples (e := fun _ => k) t1 t2 hu (fun j h1 h2 => by
    have hj : j = 0 := by
      have : j < 1 := h1
      omega
    subst hj
    exact he)
  rw [all1] at R
  exact R
theorem vals_nil {us : List Value} (r : Vals [] us) : us = [] := by
  cases r
  rfl
theorem vals_one {v : V} {us : List Value} (r : Vals [v] us) : ∃ u, us = [u] ∧ RelV v u := by
  obtain ⟨u, e, q⟩ := vals1 r
  exact ⟨u, e, q⟩
theorem op_eqT1 (hu : X.A.units + 64 < cLine) : OpR X (compareOp .Eq) (rEqT1 X.K) := by
  intro pins s σ H x y v u Q I rx ry h
  obtain ⟨a, b, xs, z, rfl, rfl, ha, hb, h⟩ := h
  cases rx
  cases ry
  obtain ⟨its, r1, t1, _⟩ := I.tuple ha
  obtain ⟨jts, r2, t2, _⟩ := I.tuple hb
  obtain ⟨w, rfl, hw⟩ := vals_one r2
  obtain ⟨tk, rfl⟩ := hw
  have hu1 : X.A.units < cLine := by omega
  rcases h with ⟨rfl, q⟩ | ⟨v, d, p, rfl, hd, q⟩
  · cases vals_nil r1
    exact rc_t0 hu1 t1 t2 X.prog X.w X.xe _ ⟨.bl false, H, I, rfl, q⟩
  · obtain ⟨w, rfl, hw⟩ := vals_one r1
    exact rc_t1 hu1 t1 t2 (eqAt_dS I hd hw (by show X.A.units + 1 < cLine; omega)) X.prog X.w X.xe _ ⟨.bl (isT z d), H, I, rfl, q⟩
end
section
variable {K : PySem.W.Frag} {p : Option Sx} {H H' : Hp} {v : V} {d : PyData}
def tyD : PyData → String
  | .none => "NoneType"
  | .bool _ => "bool"
  | .int _ => "int"
  | .str _ => "str"
  | .list _ => "list"
  | .tuple _ => "tuple"
  | .dict _ => "dict"
theorem Dd.ty (h : Dd p H v d) : TyX K H v (.type (tyD d)) := by
  cases h with
  | non => exact .base .non
  | bl b => exact .base (.bl b)
  | int i => exact .base (.int i)
  | str x => exact .base (.str x)
  | lst n m h r => exact .base (.lst h)
  | tup n h r => exact .base (.tup h)
  | dk0 n h => exact .base (.dK h)
  | dk1 n h r => exact .base (.dK h)
def isStr : PyData → Bool
  | .str _ => true
  | _ => false
def isTup : PyData → Bool
  | .tuple _ => true
  | _ => false
theorem kit_str (d : PyData) : kitB (tyD d) "str" = some (isStr d) := by
  cases d with
  | none => show kitB "NoneType" "str" = some false; decide +kernel
  | bool b => show kitB "bool" "str" = some false; decide +kernel
  | int i => show kitB "int" "str" = some false; decide +kernel
  | str x => show kitB "str" "str" = some true; decide +kernel
  | list xs => show kitB "list" "str" = some false; decide +kernel
  | tuple xs => show kitB "tuple" "str" = some false; decide +kernel
  | dict kvs => show kitB "dict" "str" = some false; decide +kernel
theorem kit_tup (d : PyData) : kitB (tyD d) "tuple" = some (isTup d) := by
  cases d with
  | none => show kitB "NoneType" "tuple" = some false; decide +kernel
  | bool b => show kitB "bool" "tuple" = some false; decide +kernel
  | int i => show kitB "int" "tuple" = some false; decide +kernel
  | str x => show kitB "str" "tuple" = some false; decide +kernel
  | list xs => show kitB "list" "tuple" = some false; decide +kernel
  | tuple xs => show kitB "tuple" "tuple" = some true; decide +kernel
  | dict kvs => show kitB "dict" "tuple" = some false; decide +kernel
theorem Dd.isiS (h : Dd p H v d) : RC (rIsi K) [v, .ty "str"] H (.bl (isStr d)) := fun H1 e _ q => ⟨v, _, _, _, _, rfl, .ty _, (h.up e).ty, kit_ty (kit_str d), q H1 (Ex.refl _)⟩
theorem Dd.isiT (h : Dd p H v d) : RC (rIsi K) [v, .ty "tuple"] H (.bl (isTup d)) := fun H1 e _ q => ⟨v, _, _, _, _, rfl, .ty _, (h.up e).ty, kit_ty (kit_tup d), q H1 (Ex.refl _)⟩
end
end Es
namespace Es
open PySem PySem.Spec PyProof.Rows L2 Evl
/-! making data while a pot at p is drawn from: k draws at the most -/
/-- the pot, and that the lists are there -/
def PotS (S : Sx) (H : Hp) (c : Int) : Prop := Pot H S.p c ∧ ∀ a, S.m a → ∃ xs, H a = some (.lst xs)
theorem PotS.sn {S : Sx} {H : Hp} {c : Int} (h : PotS S H c) {a : Addr} (n : H a = none) : ¬ out (some S) a := by
  rintro (z | z)
  · exact h.1.ne n z
  · obtain ⟨xs, e⟩ := h.2 a z
    rw [n] at e
    cases e
theorem PotS.ne {S : Sx} {H : Hp} {c : Int} (h : PotS S H c) {a : Addr} (n : H a = none) : a ≠ S.p := h.1.ne n
theorem PotS.more {S : Sx} {H : Hp} {c d : Int} (h : PotS S H c) (e : c ≤ d) : PotS S H d := ⟨h.1.more e, h.2⟩
theorem PotS.up {S : Sx} {H H' : Hp} {c : Int} (h : PotS S H c) (e : Ex H H') : PotS S H' c := ⟨h.1.up e, fun a z => by
  obtain ⟨xs, y⟩ := h.2 a z
  exact ⟨xs, e _ _ y⟩⟩
theorem PotS.step {S : Sx} {H H' : Hp} {c d : Int} (h : PotS S H c) (e : Xp S.p H H') (k : Pot H' S.p d) : PotS S H' d := ⟨k, fun a z => by
  obtain ⟨xs, y⟩ := h.2 a z
  by_cases ha : a = S.p
  · subst ha
    obtain ⟨g, s0, c0, hp, _⟩ := k
    exact ⟨_, hp⟩
  · exact ⟨xs, e _ _ ha y⟩⟩
section
variable (S : Sx)
def EvP (k : Int) (te : TE) (σ : L2.St) (H : Hp) (D : PyData → Prop) : Prop := ∀ H1 c, Xp S.p H H1 → PotS S H1 c → 0 ≤ c → c + k ≤ 90000 → ∀ Q : VK, (∀ v d H2, Xp S.p H1 H2 → PotS S H2 (c + k) → Dd (some S) H2 v d → D d → Q v H2) → te σ H1 Q
def EvPA (k : Int) (ta : TA) (σ : L2.St) (H : Hp) (D : List PyData → Prop) : Prop := ∀ H1 c, Xp S.p H H1 → PotS S H1 c → 0 ≤ c → c + k ≤ 90000 → ∀ Q : List V → Hp → Prop, (∀ vs ds H2, Xp S.p H1 H2 → PotS S H2 (c + k) → DdAll (some S) H2 vs ds → D ds → Q vs H2) → ta σ H1 Q
/-- a list of data, to be read -/
def EvPL (k : Int) (te : TE) (σ : L2.St) (H : Hp) (D : List PyData → Prop) : Prop := ∀ H1 c, Xp S.p H H1 → PotS S H1 c → 0 ≤ c → c + k ≤ 90000 → ∀ Q : VK, (∀ l vs ds H2, Xp S.p H1 H2 → PotS S H2 (c + k) → l ≠ S.p → H2 l = some (.lst vs) → DdAll (some S) H2 vs ds → D ds → Q (.ref l) H2) → te σ H1 Q
end
/-- a tuple of small items -/
def Tu (n : Nat) (d : PyData) : Prop := ∃ ds, d = .tuple ds ∧ Fits n ds
theorem Tu.fit {n : Nat} {d : PyData} (h : Tu n d) : Fit (n + 1) d := by
  obtain ⟨ds, rfl, h⟩ := h
  exact h.tup
def AllFit (n : Nat) (ds : List PyData) : Prop := ∀ d ∈ ds, Fit n d
theorem AllFit.nil {n : Nat} : AllFit n [] := fun _ h => nomatch h
theorem AllFit.cons {n : Nat} {d : PyData} {ds : List PyData} (h : Fit n d) (k : AllFit n ds) : AllFit n (d :: ds) := fun x hx => by
  rcases List.mem_cons.mp hx with e | e
  · rw [e]
    exact h
  · exact k x e
theorem AllFit.app {n : Nat} {ds es : List PyData} (h : AllFit n ds) (k : AllFit n es) : AllFit n (ds ++ es) := fun x hx => by
  rcases List.mem_append.mp hx with e | e
  · exact h x e
  · exact k x e
theorem Fits.app : ∀ {n m : Nat} {ds es : List PyData}, Fits n ds → Fits m es → Fits (n + m) (ds ++ es) := by
  intro n m ds es h k
  obtain ⟨b1, b2, b3, b4⟩ := k
  have : ∀ ds : List PyData, PyData.showableAll (ds ++ es) = (PyData.showableAll ds && PyData.showableAll es) ∧ PyData.leavesShortAll 30 (ds ++ es) = (PyData.leavesShortAll 30 ds && PyData.leavesShortAll 30 es) ∧
      PyData.bulkAll (ds ++ es) = PyData.bulkAll ds + PyData.bulkAll es ∧ PyData.depthAll (ds ++ es) = max (PyData.depthAll ds) (PyData.depthAll es) := by
    intro ds
    induction ds with
    | nil =>
      refine ⟨rfl, rfl, ?_, ?_⟩
      · show PyData.bulkAll es = 0 + PyData.bulkAll es
        omega
      · show PyData.depthAll es = max 0 (PyData.depthAll es)
        omega
    | cons x r ih =>
      obtain ⟨i1, i2, i3, i4⟩ := ih
      refine ⟨?_, ?_, ?_, ?_⟩
      · show (x.showable && PyData.showableAll (r ++ es)) = (x.showable && PyData.showableAll r && PyData.showableAll es)
        rw [i1, Bool.and_assoc]
      · show (x.leavesShort 30 && PyData.leavesShortAll 30 (r ++ es)) = (x.leavesShort 30 && PyData.leavesShortAll 30 r && PyData.leavesShortAll 30 es)
        rw [i2, Bool.and_assoc]
      · show x.bulk + 1 + PyData.bulkAll (r ++ es) = x.bulk + 1 + PyData.bulkAll r + PyData.bulkAll es
        omega
      · show max x.depth (PyData.depthAll (r ++ es)) = max (max x.depth (PyData.depthAll r)) (PyData.depthAll es)
        omega
  obtain ⟨i1, i2, i3, i4⟩ := this ds
  obtain ⟨a1, a2, a3, a4⟩ := h
  exact ⟨by rw [i1, a1, b1]; rfl, by rw [i2, a2, b2]; rfl, by omega, by omega⟩
theorem Fits.sub {n : Nat} {ds : List PyData} (h : Fits n ds) : (∀ i, Fits n (ds.drop i)) ∧ ∀ i, Fits n (ds.take i) := by
  induction ds generalizing n with
  | nil => exact ⟨fun i => by rw [List.drop_nil]; exact h, fun i => by rw [List.take_nil]; exact h⟩
  | cons x r ih =>
    obtain ⟨a1, a2, a3, a4⟩ := h
    have a1' : (x.showable && PyData.showableAll r) = true := a1
    have a2' : (x.leavesShort 30 && PyData.leavesShortAll 30 r) = true := a2
    rw [Bool.and_eq_true] at a1' a2'
    have a3' : x.bulk + 1 + PyData.bulkAll r ≤ 8 * n := a3
    have a4' : max x.depth (PyData.depthAll r) ≤ n := a4
    have k : Fits n r := ⟨a1'.2, a2'.2, by omega, by omega⟩
    refine ⟨fun i => ?_, fun i => ?_⟩
    · cases i with
      | zero => exact ⟨a1, a2, a3, a4⟩
      | succ i => exact (ih k).1 i
    · cases i with
      | zero => exact ⟨rfl, rfl, Nat.zero_le _, Nat.zero_le _⟩
      | succ i =>
        obtain ⟨c1, c2, c3, c4⟩ := (ih (n := PyData.bulkAll r + PyData.depthAll r) ⟨a1'.2, a2'.2, by omega, by omega⟩).2 i
        have c3' : PyData.bulkAll (r.take i) ≤ PyData.bulkAll r ∧ PyData.depthAll (r.take i) ≤ PyData.depthAll r := by
          clear ih k a1 a2 a3 a4 a1' a2' a3' a4' c1 c2 c3 c4
          induction r generalizing i with
          | nil =>
            rw [List.take_nil]
            exact ⟨Nat.le_refl _, Nat.le_refl _⟩
          | cons y s ih2 =>
            cases i with
            | zero => exact ⟨Nat.zero_le _, Nat.zero_le _⟩
            | succ i =>
              have := ih2 i
              refine ⟨?_, ?_⟩
              · show y.bulk + 1 + PyData.bulkAll (s.take i) ≤ y.bulk + 1 + PyData.bulkAll s
                omega
              · show max y.depth (PyData.depthAll (s.take i)) ≤ max y.depth (PyData.depthAll s)
                omega
        refine ⟨?_, ?_, ?_, ?_⟩
        · show (x.showable && PyData.showableAll (r.take i)) = true
          rw [a1'.1, c1]
          rfl
        · show (x.leavesShort 30 && PyData.leavesShortAll 30 (r.take i)) = true
          rw [a2'.1, c2]
          rfl
        · show x.bulk + 1 + PyData.bulkAll (r.take i) ≤ 8 * n
          omega
        · show max x.depth (PyData.depthAll (r.take i)) ≤ n
          omega
section
variable {S : Sx} {K : PySem.W.Frag} {σ : L2.St} {H : Hp} {te tf : TE} {ta : TA} {k j : Int} {D E : PyData → Prop} {L M : List PyData → Prop}
theorem evp_imp (h : EvP S k te σ H D) (hi : ∀ d, D d → E d) : EvP S k te σ H E := fun H1 c x P c0 c1 Q q => h H1 c x P c0 c1 Q fun v d H2 x2 P2 hd hD => q v d H2 x2 P2 hd (hi d hD)
theorem evp_xp {H' : Hp} (h : EvP S k te σ H D) (e : Xp S.p H H') : EvP S k te σ H' D := fun H1 c x P c0 c1 Q q => h H1 c (e.trans x) P c0 c1 Q q
theorem evp_var {i : Nat} {v : V} {d : PyData} (h : σ[i]? = some (some v)) (hd : Dd (some S) H v d) (hD : D d) : EvP S 0 (tVar i) σ H D := fun H1 c x P c0 c1 Q q => ⟨v, h, q v d H1 (Xp.refl _ _) (P.more (by omega)) (hd.xp x) hD⟩
theorem evp_str {z : Str} (hD : D (.str z)) : EvP S 0 (tC (.str z)) σ H D := fun H1 c x P c0 c1 Q q => q _ _ H1 (Xp.refl _ _) (P.more (by omega)) (.str z) hD
theorem evp_int {z : Int} (hD : D (.int z)) : EvP S 0 (tC (.int z)) σ H D := fun H1 c x P c0 c1 Q q => q _ _ H1 (Xp.refl _ _) (P.more (by omega)) (.int z) hD
theorem evp_bl {z : Bool} (hD : D (.bool z)) : EvP S 0 (tC (.bl z)) σ H D := fun H1 c x P c0 c1 Q q => q _ _ H1 (Xp.refl _ _) (P.more (by omega)) (.bl z) hD
theorem evp_non (hD : D .none) : EvP S 0 (tC .non) σ H D := fun H1 c x P c0 c1 Q q => q _ _ H1 (Xp.refl _ _) (P.more (by omega)) .non hD
theorem evpa_nil (h : L []) : EvPA S 0 tNil σ H L := fun H1 c x P c0 c1 Q q => q [] [] H1 (Xp.refl _ _) (P.more (by omega)) .nil h
theorem evpa_cons (h : EvP S k te σ H D) (r : EvPA S j ta σ H L) (hk : 0 ≤ k) (hj : 0 ≤ j) (hL : ∀ d ds, D d → L ds → M (d :: ds)) : EvPA S (k + j) (tCons te ta) σ H M := by
  intro H1 c x P c0 c1 Q q
  refine h H1 c x P c0 (by omega) _ fun v d H2 x2 P2 hd hD => ?_
  exact r H2 (c + k) (x.trans x2) P2 (by omega) (by omega) _ fun vs ds H3 x3 P3 hds hL' => q _ _ H3 (x2.trans x3) (P3.more (by omega)) (.cons (hd.xp x3) hds) (hL d ds hD hL')
theorem evpa_c0 (h : EvP S 0 te σ H D) (r : EvPA S j ta σ H L) (hj : 0 ≤ j) (hL : ∀ d ds, D d → L ds → M (d :: ds)) : EvPA S j (tCons te ta) σ H M := by
  have := evpa_cons h r (by decide) hj hL
  rw [Int.zero_add] at this
  exact this
/-- items of a tuple, their sizes added up -/
theorem evpa_t {n m : Nat} (h : EvP S 0 te σ H (Fit n)) (r : EvPA S j ta σ H (Fits m)) (hj : 0 ≤ j) : EvPA S j (tCons te ta) σ H (Fits (n + 1 + m)) := evpa_c0 h r hj fun _ _ a b => Fits.cons a b
theorem evpa_tk {n m : Nat} (h : EvP S k te σ H (Fit n)) (r : EvPA S j ta σ H (Fits m)) (hk : 0 ≤ k) (hj : 0 ≤ j) : EvPA S (k + j) (tCons te ta) σ H (Fits (n + 1 + m)) := evpa_cons h r hk hj fun _ _ a b => Fits.cons a b
theorem evpa_l {n : Nat} (h : EvP S 0 te σ H (Fit n)) (r : EvPA S j ta σ H (AllFit n)) (hj : 0 ≤ j) : EvPA S j (tCons te ta) σ H (AllFit n) := evpa_c0 h r hj fun _ _ a b => AllFit.cons a b
theorem evpa_lk {n : Nat} (h : EvP S k te σ H (Fit n)) (r : EvPA S j ta σ H (AllFit n)) (hk : 0 ≤ k) (hj : 0 ≤ j) : EvPA S (k + j) (tCons te ta) σ H (AllFit n) := evpa_cons h r hk hj fun _ _ a b => AllFit.cons a b
theorem Fits.length {n : Nat} {ds : List PyData} (h : Fits n ds) : ds.length ≤ 8 * n := by
  have h3 := h.2.2.1
  clear h
  generalize 8 * n = m at h3
  clear n
  induction ds generalizing m with
  | nil => exact Nat.zero_le _
  | cons y r ih =>
    have h3' : y.bulk + 1 + PyData.bulkAll r ≤ m := h3
    have := ih (m - 1) (by omega)
    show r.length + 1 ≤ m
    omega
theorem evp_tup {n : Nat} (h : EvPA S k ta σ H (Fits n)) (hn : n ≤ 10000) : EvP S k (tTup ta) σ H (Tu n) := by
  intro H1 c x P c0 c1 Q q
  refine h H1 c x P c0 c1 _ fun vs ds H2 x2 P2 hds hL => ⟨?_, fun a na => ?_⟩
  · have l1 := hds.length
    have := hL.length
    exact sz_of (by omega)
  · have e := Ex.new (o := .tup vs) na
    exact q _ _ _ (x2.trans (Xp.ex e)) (P2.up e) (.tup (P2.sn na) upd_same (hds.up e)) ⟨ds, rfl, hL⟩
theorem evp_tup' {n m : Nat} (h : EvPA S k ta σ H (Fits n)) (hn : n + 1 ≤ m) (hm : m ≤ 10000) : EvP S k (tTup ta) σ H (Fit m) := evp_imp (evp_tup h (by omega)) fun d hd => hd.fit.more hn
theorem evp_cat {n m : Nat} (h : EvP S k te σ H (Tu n)) (r : EvP S j tf σ H (Tu m)) (hk : 0 ≤ k) (hj : 0 ≤ j) (hn : n + m ≤ 10000) : EvP S (k + j) (tOp (rCatA K) te tf) σ H (Tu (n + m)) := by
  intro H1 c x P c0 c1 Q q
  refine h H1 c x P c0 (by omega) _ fun v d H2 x2 P2 hd hD => ?_
  refine r H2 (c + k) (x.trans x2) P2 (by omega) (by omega) _ fun u e H3 x3 P3 he hE => ?_
  obtain ⟨ds, rfl, f1⟩ := hD
  obtain ⟨es, rfl, f2⟩ := hE
  have hd3 := hd.xp x3
  have l1 := f1.length
  have l2 := f2.length
  cases hd3 with
  | @tup a xs _ na ha hxs =>
    cases he with
    | @tup b ys _ nb hb hys =>
      have m1 := hxs.length
      have m2 := hys.length
      refine ⟨a, b, xs, ys, rfl, rfl, st_of ha, st_of hb, sz_of (by omega), fun z => ?_, fun _ z => ?_, fun _ _ t nt => ?_⟩
      · subst z
        cases hxs
        exact q _ _ H3 (x2.trans x3) (P3.more (by omega)) (.tup nb hb hys) ⟨es, rfl, f2.more (by omega)⟩
      · subst z
        cases hys
        exact q _ _ H3 (x2.trans x3) (P3.more (by omega)) (.tup na ha hxs) ⟨ds, rfl, f1.more (by omega)⟩
      · have e := Ex.new (o := .tup (xs ++ ys)) nt
        exact q _ _ _ ((x2.trans x3).trans (Xp.ex e)) ((P3.up e).more (by omega)) (.tup (P3.sn nt) upd_same ((hxs.append hys).up e)) ⟨_, rfl, f1.app f2⟩
theorem evp_cat0 {n m : Nat} (h : EvP S 0 te σ H (Tu n)) (r : EvP S 0 tf σ H (Tu m)) (hn : n + m ≤ 10000) : EvP S 0 (tOp (rCatA K) te tf) σ H (Tu (n + m)) := evp_cat h r (by decide) (by decide) hn
/-- t[:i], t[i:] of a tuple at a name -/
theorem evp_cutL {i : Nat} {a : Addr} {xs : List V} {ds : List PyData} {n : Nat} {tl : TO} {u : Int} (h : σ[i]? = some (some (.ref a))) (hd : Dd (some S) H (.ref a) (.tuple ds)) (f : Fits n ds) (hu : 0 ≤ u)
    (ho : ∀ H1 (Q : Option Int → Hp → Prop), Q (some u) H1 → tl σ H1 Q) : EvP S 0 (tSl (rSlA K) (tVar i) tNoPart tl) σ H (Tu n) := by
  intro H1 c x P c0 c1 Q q
  have hd1 := hd.xp x
  cases hd1 with
  | @tup _ xs _ na ha hxs =>
    refine ⟨.ref a, h, ho H1 _ ⟨a, xs, rfl, st_of ha, fun _ => ?_, fun _ t nt => ?_⟩⟩
    · exact q _ _ H1 (Xp.refl _ _) (P.more (by omega)) (.tup na ha hxs) ⟨ds, rfl, f⟩
    · have e := Ex.new (o := .tup (cutV xs none (some u))) nt
      have hc : DdAll (some S) H1 (cutV xs none (some u)) (ds.take (min u.toNat ds.length)) := by
        have m1 := hxs.length
        unfold cutV
        rw [HT.sIx_none, List.drop_zero, Nat.sub_zero, show (some u) = some ((u.toNat : Nat) : Int) by rw [Int.toNat_of_nonneg hu], HT.sIx_nat, m1]
        exact hxs.take _
      exact q _ _ _ (Xp.ex e) ((P.up e).more (by omega)) (.tup (P.sn nt) upd_same (hc.up e)) ⟨_, rfl, f.sub.2 _⟩
theorem evp_cutR {i : Nat} {a : Addr} {xs : List V} {ds : List PyData} {n : Nat} {tl : TO} {u : Int} (h : σ[i]? = some (some (.ref a))) (hd : Dd (some S) H (.ref a) (.tuple ds)) (f : Fits n ds) (hu : 0 ≤ u)
    (ho : ∀ H1 (Q : Option Int → Hp → Prop), Q (some u) H1 → tl σ H1 Q) : EvP S 0 (tSl (rSlA K) (tVar i) tl tNoPart) σ H (Tu n) := by
  intro H1 c x P c0 c1 Q q
  have hd1 := hd.xp x
  cases hd1 with
  | @tup _ xs _ na ha hxs =>
    refine ⟨.ref a, h, ho H1 _ ⟨a, xs, rfl, st_of ha, fun _ => ?_, fun _ t nt => ?_⟩⟩
    · exact q _ _ H1 (Xp.refl _ _) (P.more (by omega)) (.tup na ha hxs) ⟨ds, rfl, f⟩
    · have e := Ex.new (o := .tup (cutV xs (some u) none)) nt
      have hc : DdAll (some S) H1 (cutV xs (some u) none) (ds.drop (min u.toNat ds.length)) := by
        have m1 := hxs.length
        unfold cutV
        rw [HT.sIx_none, show (some u) = some ((u.toNat : Nat) : Int) by rw [Int.toNat_of_nonneg hu], HT.sIx_nat, List.take_of_length_le (by rw [List.length_drop]; omega), m1]
        exact hxs.drop _
      exact q _ _ _ (Xp.ex e) ((P.up e).more (by omega)) (.tup (P.sn nt) upd_same (hc.up e)) ⟨_, rfl, f.sub.1 _⟩
/-- lists of data -/
theorem evl_lst {N : Nat} (h : EvPA S k ta σ H (fun ds => L ds ∧ ds.length = N)) (hN : N ≤ 10000) : EvPL S k (tLst ta) σ H (fun ds => L ds ∧ ds.length = N) := by
  intro H1 c x P c0 c1 Q q
  refine h H1 c x P c0 c1 _ fun vs ds H2 x2 P2 hds hL => ⟨?_, fun l nl => ?_⟩
  · have := hds.length
    have := hL.2
    exact sz_of (by omega)
  · have e := Ex.new (o := .lst vs) nl
    exact q l vs ds _ (x2.trans (Xp.ex e)) (P2.up e) (P2.ne nl) upd_same (hds.up e) hL
theorem evl_var {i : Nat} {l : Addr} {vs : List V} {ds : List PyData} (h : σ[i]? = some (some (.ref l))) (nl : l ≠ S.p) (hl : H l = some (.lst vs)) (hd : DdAll (some S) H vs ds) (hL : L ds) : EvPL S 0 (tVar i) σ H L :=
  fun H1 c x P c0 c1 Q q => ⟨.ref l, h, q l vs ds H1 (Xp.refl _ _) (P.more (by omega)) nl (x _ _ nl hl) (hd.xp x) hL⟩
theorem evl_cat {A B : Nat} (h : EvPL S k te σ H (fun ds => L ds ∧ ds.length = A)) (r : EvPL S j tf σ H (fun ds => L ds ∧ ds.length = B)) (hk : 0 ≤ k) (hj : 0 ≤ j) (hn : A + B ≤ 10000) (hL : ∀ ds es, L ds → L es → L (ds ++ es)) :
    EvPL S (k + j) (tOp rCat te tf) σ H (fun ds => L ds ∧ ds.length = A + B) := by
  intro H1 c x P c0 c1 Q q
  refine h H1 c x P c0 (by omega) _ fun l vs ds H2 x2 P2 nl hl hds hD => ?_
  refine r H2 (c + k) (x.trans x2) P2 (by omega) (by omega) _ fun m ws es H3 x3 P3 nm hm hes hE => ?_
  have l1 := hds.length
  have l2 := hes.length
  have d1 := hD.2
  have d2 := hE.2
  refine ⟨l, m, vs, ws, rfl, rfl, x3 _ _ nl hl, hm, sz_of (by omega), fun a na => ?_⟩
  have e := Ex.new (o := .lst (vs ++ ws)) na
  refine q a _ (ds ++ es) _ ((x2.trans x3).trans (Xp.ex e)) ((P3.up e).more (by omega)) (P3.ne na) upd_same (((hds.xp x3).append hes).up e) ⟨hL _ _ hD.1 hE.1, ?_⟩
  rw [List.length_append]
  omega
theorem evpa_n {N : Nat} (h : EvPA S k ta σ H (AllFit N)) : EvPA S k ta σ H (AllFit N) := h
/-- the same with the number of items told -/
theorem evpan_nil {n : Nat} : EvPA S 0 tNil σ H (fun ds => AllFit n ds ∧ ds.length = 0) := evpa_nil ⟨.nil, rfl⟩
theorem evpan {n m : Nat} (h : EvP S 0 te σ H (Fit n)) (r : EvPA S j ta σ H (fun ds => AllFit n ds ∧ ds.length = m)) (hj : 0 ≤ j) : EvPA S j (tCons te ta) σ H (fun ds => AllFit n ds ∧ ds.length = m + 1) :=
  evpa_c0 h r hj fun _ _ a b => ⟨.cons a b.1, congrArg Nat.succ b.2⟩
theorem evpank {n m : Nat} (h : EvP S k te σ H (Fit n)) (r : EvPA S j ta σ H (fun ds => AllFit n ds ∧ ds.length = m)) (hk : 0 ≤ k) (hj : 0 ≤ j) : EvPA S (k + j) (tCons te ta) σ H (fun ds => AllFit n ds ∧ ds.length = m + 1) :=
  evpa_cons h r hk hj fun _ _ a b => ⟨.cons a b.1, congrArg Nat.succ b.2⟩
theorem evp_lst1 {n : Nat} (h : EvPA S k ta σ H (Fits n)) (hn : n ≤ 10000) : EvP S k (tLst1 ta) σ H (Fit (n + 1)) := by
  intro H1 c x P c0 c1 Q q
  refine h H1 c x P c0 c1 _ fun vs ds H2 x2 P2 hds hL => ⟨?_, fun a ns na => ?_⟩
  · have l1 := hds.length
    have := hL.length
    exact sz_of (by omega)
  · have e := Ex.new (o := .lst vs) na
    exact q _ _ _ (x2.trans (Xp.ex e)) (P2.up e) (.lst (P2.sn na) ns upd_same (hds.up e)) hL.lst
theorem evp_dk0 : EvP S 0 tDNewK σ H (Fit 1) := fun H1 c x P c0 c1 Q q a na => by
  have e := Ex.new (o := .dK []) na
  exact q _ _ _ (Xp.ex e) ((P.up e).more (by omega)) (.dk0 (P.sn na) upd_same) fit_dk0
theorem evp_dk1 {n i : Nat} {z : Str} {v : V} {d : PyData} (h : σ[i]? = some (some v)) (hd : Dd (some S) H v d) (hf : Fit n d) (hz : (z.cps.toList.all fun c => decide (c < 16 ^ 8)) = true) (hl : z.length ≤ 10) : EvP S 0 (tDisp [(tC (.str z), tVar i)]) σ H (Fit (n + 13)) := by
  intro H1 c x P c0 c1 Q q a na
  refine ⟨v, h, upd_same, [(Sum.inr z, v)], rfl, by show 1 ≤ 15; decide, ?_⟩
  have e := Ex.mut (o := .dK (mergeK [] [(Sum.inr z, v)])) (Ex.new (o := .dK []) na) na
  exact q _ _ _ (Xp.ex e) ((P.up e).more (by omega)) (.dk1 (P.sn na) upd_same ((hd.xp x).up e)) (fit_dk1 hz hl hf)
theorem evp_neg {i : Int} (hD : D (.int (-i))) : EvP S 0 (tUn (rU fun i => .int (-i)) (tC (.int i))) σ H D := fun H1 c x P c0 c1 Q q => ⟨i, rfl, q _ _ H1 (Xp.refl _ _) (P.more (by omega)) (.int _) hD⟩
theorem DdAll.mem : ∀ {vs : List V} {ds : List PyData} {v : V}, DdAll (some S) H vs ds → v ∈ vs → ∃ d ∈ ds, Dd (some S) H v d
  | _, _, _, .cons h r, hv => by
    rcases List.mem_cons.mp hv with e | e
    · subst e
      exact ⟨_, List.mem_cons_self .., h⟩
    · obtain ⟨d, a, b⟩ := DdAll.mem r e
      exact ⟨d, List.mem_cons_of_mem _ a, b⟩
theorem evp_listT {n i : Nat} {a : Addr} {ds : List PyData} (h : σ[i]? = some (some (.ref a))) (hd : Dd (some S) H (.ref a) (.tuple ds)) (hf : Fits n ds) : EvP S 0 (tCB (rListT1 K) (tCons (tVar i) tNil)) σ H (Fit (n + 1)) := by
  intro H1 c x P c0 c1 Q q
  have hd1 := hd.xp x
  cases hd1 with
  | @tup _ xs _ na ha hxs =>
    refine ⟨.ref a, h, a, xs, rfl, st_of ha, fun l ns nl => ?_⟩
    have e := Ex.new (o := .lst xs) nl
    exact q _ _ _ (Xp.ex e) ((P.up e).more (by omega)) (.lst (P.sn nl) ns upd_same (hxs.up e)) hf.lst
theorem qp_asg {F : Ends} {tz : TS} {i : Nat} (h : te σ H fun v H1 => tz F (σ.set i (some v)) H1) : tSeq (tAsg te (gName i)) tz F σ H := h
theorem sp_asg {F : Ends} {i : Nat} (h : te σ H fun v H1 => F.nx (σ.set i (some v)) H1) : tAsg te (gName i) F σ H := h
theorem op_of {r : R2} {Q : VK} (h : te σ H fun x H1 => tf σ H1 fun y H2 => r x y H2 Q) : tOp r te tf σ H Q := h
theorem cons_of {Q : List V → Hp → Prop} (h : te σ H fun x H1 => ta σ H1 fun xs H2 => Q (x :: xs) H2) : tCons te ta σ H Q := h
theorem call_of {sp : Sp} {dvs : List V} {E : XK} {Q : VK} (h : ta σ H fun vs H1 => sp (vs ++ dvs) H1 Q E) : tCall sp dvs E ta σ H Q := h
end
end Es
namespace HT
open PySem PySem.Spec PyProof.Rows
section
variable {prog : Program} {w : World} {A : Around} {E : Value → Shared → Prop} {s : Shared}
theorem es_applied_rev {sl : Addr} {vl vu vs : Value} {n : Nat} {Q : Int × Int × Nat → Shared → Prop} (hs : s.heap.IsSliceOf sl vl vu vs) (pl : IsPart vl none) (pu : IsPart vu none) (ps : IsPart vs (some (-1)))
    (h : Q ((n : Int) - 1, -1, n) s) : wpAny (model prog w) A (Builtin.Slice.sliceApplied (.ref sl) (pure (n : Int))) Q E s := by
  obtain ⟨os, hos, hcs, hds⟩ := id hs
  unfold Builtin.Slice.sliceApplied Builtin.Slice.sliceFields
  refine wpAny_bind (wpAny_bind (wpAny_field hos hds (x := vl) rfl (wpAny_bind (wpAny_field hos hds (x := vu) rfl (wpAny_bind (wpAny_field hos hds (x := vs) rfl (wpAny_pure ?_)))))))
  refine wpAny_bind (slicePart_ ps ?_)
  show wpAny _ _ (if ((-1 : Int) == 0) = true then _ else _) _ _ s
  rw [if_neg (by decide)]
  refine wpAny_bind (slicePart_ pl (wpAny_bind (slicePart_ pu (wpAny_bind (wpAny_pure ?_)))))
  show wpAny _ _ (match Builtin.Slice.sliceAdjust none none (-1) (n : Int) with | (lo, hi) => pure (lo, (-1 : Int), Builtin.Slice.slicePlaces lo hi (-1))) _ _ s
  show wpAny _ _ (pure ((n : Int) - 1, (-1 : Int), Builtin.Slice.slicePlaces ((n : Int) - 1) (-1) (-1))) _ _ s
  have e : Builtin.Slice.slicePlaces ((n : Int) - 1) (-1) (-1) = n := by
    unfold Builtin.Slice.slicePlaces
    rw [if_neg (by decide)]
    by_cases hn : n = 0
    · subst hn
      rfl
    · rw [if_pos (by omega)]
      show (((n : Int) - 1 - -1 - 1) / 1 + 1).toNat = n
      rw [Int.ediv_one]
      omega
  rw [e]
  exact wpAny_pure h
theorem es_fm {α β : Type} (f g : α → Option β) : ∀ l : List α, (∀ x ∈ l, f x = g x) → l.filterMap f = l.filterMap g
  | [], _ => rfl
  | x :: r, h => by
    rw [List.filterMap_cons, List.filterMap_cons, h x (List.mem_cons_self ..), es_fm f g r fun y hy => h y (List.mem_cons_of_mem _ hy)]
theorem es_pick_rev (xs : Array Value) : ((List.range xs.size).filterMap fun (m : Nat) => xs[((xs.size : Int) - 1 + (m : Int) * (-1)).toNat]?).toArray = xs.toList.reverse.toArray := by
  have h1 : ((List.range xs.size).filterMap fun (m : Nat) => xs[((xs.size : Int) - 1 + (m : Int) * (-1)).toNat]?) = (List.range xs.size).filterMap fun (m : Nat) => (xs.toList.reverse.toArray)[((0 : Nat) + (m : Int) * 1).toNat]? := by
    have e0 : ∀ m ∈ List.range xs.size, xs[((xs.size : Int) - 1 + (m : Int) * (-1)).toNat]? = (xs.toList.reverse.toArray)[((0 : Nat) + (m : Int) * 1).toNat]? := by
      intro m hm
      have hm' : m < xs.size := List.mem_range.mp hm
      rw [show ((xs.size : Int) - 1 + (m : Int) * (-1)).toNat = xs.size - 1 - m by omega, show (((0 : Nat) : Int) + (m : Int) * 1).toNat = m by omega]
      have e1 : (xs.toList.reverse.toArray)[m]? = xs.toList.reverse[m]? := List.getElem?_toArray ..
      rw [e1, List.getElem?_reverse (by rw [Array.length_toList]; exact hm'), Array.length_toList, Array.getElem?_toList]
    exact es_fm _ _ _ e0
  rw [h1]
  have := pick_gen xs.toList.reverse.toArray 0 xs.size
  rw [this]
  rw [List.drop_zero, List.take_of_length_le (by rw [List.length_reverse, Array.length_toList]; exact Nat.le_refl _)]
theorem es_tuple_rev {t sl : Addr} {items : Array Value} {vl vu vs : Value} {Q : Value → Shared → Prop} (ht : IsTup s.heap t items) (hs : s.heap.IsSliceOf sl vl vu vs) (pl : IsPart vl none) (pu : IsPart vu none) (ps : IsPart vs (some (-1)))
    (h : Q (.ref s.heap.objs.size) { s with heap := s.heap.push { cls := .type "tuple", data := .seq items.toList.reverse.toArray } })
    (hsz : items.size ≤ sizeLine) : wpAny (model prog w) A (getItem (.ref t) (.ref sl)) Q E s := by
  have htake : sizeOk (.seq items.toList.reverse.toArray) := by
    show items.toList.reverse.toArray.size ≤ sizeLine
    rw [List.size_toArray, List.length_reverse, Array.length_toList]
    exact hsz
  obtain ⟨os, hos, hcs, hds⟩ := id hs
  have hTs : s.TypeIs (.ref sl) "slice" := ⟨os, hos, hcs⟩
  unfold getItem
  try with_reducible refine wpAny_holding ?_
  first | refine wpAny_bind (wpAny_pure ?_) | skip
  refine wpAny_bind (wpAny_sequenceKey ht.typeIs (by decide) ?_)
  refine wpAny_bind (wpAny_callSpecial?_slot (name := Str.ofString "__getitem__") ht.typeIs PyProof.Rows.slot_tuple_getitem
    (wpAny_call_entry PyProof.Rows.slot_tuple_getitem ht.typeIs entry_tuple_getitem ?_ (args_tuple_getitem _ _)))
  show wpAny _ _ (Builtin.Tuple.tupleItemsOf (.ref t) >>= _) _ _ s
  refine wpAny_bind (tupleItemsOf_ ht ?_)
  refine wpAny_bind (wpAny_typeOf hTs ?_)
  rw [if_pos (by decide)]
  refine wpAny_bind (es_applied_rev hs pl pu ps ?_)
  have hno : ¬ (((((items.size : Int) - 1) == 0) && ((-1 : Int) == 1) && (items.size == items.size)) = true) := by
    rw [show ((-1 : Int) == 1) = false from rfl, Bool.and_false, Bool.false_and]
    exact Bool.false_ne_true
  show wpAny _ _ (if (((((items.size : Int) - 1) == 0) && ((-1 : Int) == 1) && (items.size == items.size)) = true) then _ else _) _ _ s
  rw [if_neg hno, es_pick_rev]
  first
    | exact wpAny_bind (m := Builtin.Tuple.tupleExact _) (wpAny_newObj_type (wpAny_pure ⟨_, rfl, wpAny_pure h⟩) htake)
    | exact wpAny_bind (m := Builtin.Tuple.tupleExact _) (wpAny_newObj_type (wpAny_bind (wpAny_pure (wpAny_pure ⟨_, rfl, wpAny_pure h⟩))) htake)
    | exact wpAny_bind (wpAny_bind (m := Builtin.Tuple.tupleExact _) (wpAny_newObj_type (wpAny_pure (wpAny_pure ⟨_, rfl, wpAny_pure h⟩)) htake))
    | exact wpAny_bind (wpAny_bind (m := Builtin.Tuple.tupleExact _) (wpAny_newObj_type (wpAny_pure ⟨_, rfl, wpAny_pure h⟩) htake))
end
end HT
namespace Es
open PySem PySem.Spec PyProof.Rows L2 Evl
section
variable {X : Cx}
def tRevT (K : PySem.W.Frag) (te : TE) : TE := fun σ H Q => te σ H fun x H1 => ∃ a xs, x = .ref a ∧ SqT K H1 a xs ∧ ∀ p, H1 p = none → Q (.ref p) (upd H1 p (.tup xs.reverse))
theorem pe_revT {e : Expr} {te : TE} {k : Nat} {p1 p2 p3 pos : Pos} (he : PE X e te) : PE X (.Subscript e (.Slice none none (some (.UnaryOp .USub (.Constant (.int 1) k p1) p2)) p3) pos) (tRevT X.K te) := by
  refine ⟨fun pins s σ H Q I h => ?_⟩
  refine Subscript_ (thn (he.run pins s σ H _ I h) fun v s1 ⟨x, H1, I1, r1, q1⟩ => ?_)
  obtain ⟨a, xs, ex, hx, q⟩ := q1
  subst ex
  cases r1
  have hst : PO X (some (.UnaryOp .USub (.Constant (.int 1) k p1) p2)) (tPart (tUn (rU fun i => .int (-i)) (tC (.int 1)))) := po_some (pe_un un_neg pe_int)
  refine wpAny_Slice (thn (po_none.run pins s1 σ H1 (fun o H2 => o = none ∧ H2 = H1) I1 ⟨rfl, rfl⟩) fun vl s2 ⟨l, H2, I2, pl, el, e2⟩ => ?_)
  subst el e2
  refine thn (po_none.run pins s2 σ H2 (fun o H3 => o = none ∧ H3 = H2) I2 ⟨rfl, rfl⟩) fun vu s3 ⟨u, H3, I3, pu, eu, e3⟩ => ?_
  subst eu e3
  refine thn (hst.run pins s3 σ H3 (fun o H4 => o = some (-1) ∧ H4 = H3) I3 ⟨1, rfl, -1, rfl, rfl, rfl⟩) fun vs s4 ⟨o, H4, I4, ps, eo, e4⟩ => ?_
  subst eo e4
  have I5 : Inv X pins σ H4 { s4 with heap := s4.heap.push { cls := .type "slice", data := .fields #[vl, vu, vs] } } := I4.kept (t' := s4.toks) fun b ob q => Heap.get?_push_of_some _ q
  obtain ⟨its, r, ht, hz⟩ := I5.tuple hx
  have hlen := r.length
  show wpAny (model X.prog X.w) X.A (subscriptTail e (.Slice none none (some (.UnaryOp .USub (.Constant (.int 1) k p1) p2)) p3) (.ref a) (.ref s4.heap.objs.size)) (EP X pins σ Q) X.xe { s4 with heap := s4.heap.push { cls := .type "slice", data := .fields #[vl, vu, vs] } }
  refine tail_any (ops := [.ref a, .ref s4.heap.objs.size]) ht.typeIs (PyProof.Rows.slot_tuple_getitem.lookup) ?_ (by with_unfolding_all rfl)
  refine HT.es_tuple_rev ht (Heap.IsSliceOf.new _ vl vu vs) pl pu ps ?_ (by rw [List.size_toArray]; omega)
  refine ⟨.ref _, _, I5.laid (t' := s4.toks) (o := .tup xs.reverse) (fun b ob q => Heap.get?_push_of_some _ q) (Nat.le_refl _) ?_, rfl, q _ (I5.hok.fresh (Nat.le_refl _))⟩
  exact ⟨by rw [List.length_reverse]; exact hz, _, r.reverse, ⟨_, Heap.get?_push_size _ rfl, rfl, _, rfl⟩⟩
/-- z * 8 -/
def rep8 (z : Str) : Str := ⟨(List.replicate 8 z.cps).foldl (· ++ ·) #[]⟩
theorem rep8_len (z : Str) : (rep8 z).length = 8 * z.length := by
  show (#[] ++ z.cps ++ z.cps ++ z.cps ++ z.cps ++ z.cps ++ z.cps ++ z.cps ++ z.cps).size = 8 * z.cps.size
  rw [Array.size_append, Array.size_append, Array.size_append, Array.size_append, Array.size_append, Array.size_append, Array.size_append, Array.size_append]
  show 0 + z.cps.size + z.cps.size + z.cps.size + z.cps.size + z.cps.size + z.cps.size + z.cps.size + z.cps.size = _
  omega
def rMul8 : R2 := fun x y H Q => ∃ z : Str, x = .str z ∧ y = .int 8 ∧ 1 ≤ z.length ∧ z.length ≤ 1000 ∧ Q (.str (rep8 z)) H
theorem op_mul8 : OpR X (binaryOp .Mult) rMul8 := by
  intro pins s σ H x y v u Q I rx ry h
  obtain ⟨z, rfl, rfl, h1, h2, q⟩ := h
  obtain ⟨t, rfl⟩ := rx
  obtain ⟨t', rfl⟩ := ry
  have e : ((8 : Int) == 1 || z.length == 0) = false := by
    rw [show ((8 : Int) == 1) = false from rfl, Bool.false_or]
    exact beq_eq_false_iff_ne.mpr (by omega)
  have ht : Builtin.Str.tooLong (z.length * (8 : Int).toNat) = false := by
    refine decide_eq_false fun hh => ?_
    have : z.length * (8 : Int).toNat ≤ sizeLine := sz_of (by show z.length * 8 ≤ 100000; omega)
    omega
  refine P.mul_str (by decide) (fun _ _ => ?_) (fun _ _ => ht) ?_
  · show ¬ ((z.length : Int) > (2 ^ 63 - 1) / 8)
    omega
  · rw [if_neg (by decide), e]
    exact ⟨sz_of (by show (rep8 z).length ≤ 100000; rw [rep8_len z]; omega), .str (rep8 z), H, I.tok _, ⟨_, rfl⟩, q⟩
end
theorem all_app (es : List PyData) : ∀ ds : List PyData, PyData.showableAll (ds ++ es) = (PyData.showableAll ds && PyData.showableAll es) ∧ PyData.leavesShortAll 30 (ds ++ es) = (PyData.leavesShortAll 30 ds && PyData.leavesShortAll 30 es) ∧
      PyData.bulkAll (ds ++ es) = PyData.bulkAll ds + PyData.bulkAll es ∧ PyData.depthAll (ds ++ es) = max (PyData.depthAll ds) (PyData.depthAll es)
  | [] => by
    refine ⟨rfl, rfl, ?_, ?_⟩
    · show PyData.bulkAll es = 0 + PyData.bulkAll es
      omega
    · show PyData.depthAll es = max 0 (PyData.depthAll es)
      omega
  | x :: r => by
    obtain ⟨i1, i2, i3, i4⟩ := all_app es r
    refine ⟨?_, ?_, ?_, ?_⟩
    · show (x.showable && PyData.showableAll (r ++ es)) = (x.showable && PyData.showableAll r && PyData.showableAll es)
      rw [i1, Bool.and_assoc]
    · show (x.leavesShort 30 && PyData.leavesShortAll 30 (r ++ es)) = (x.leavesShort 30 && PyData.leavesShortAll 30 r && PyData.leavesShortAll 30 es)
      rw [i2, Bool.and_assoc]
    · show x.bulk + 1 + PyData.bulkAll (r ++ es) = x.bulk + 1 + PyData.bulkAll r + PyData.bulkAll es
      omega
    · show max x.depth (PyData.depthAll (r ++ es)) = max (max x.depth (PyData.depthAll r)) (PyData.depthAll es)
      omega
theorem all_rev : ∀ ds : List PyData, PyData.showableAll ds.reverse = PyData.showableAll ds ∧ PyData.leavesShortAll 30 ds.reverse = PyData.leavesShortAll 30 ds ∧ PyData.bulkAll ds.reverse = PyData.bulkAll ds ∧ PyData.depthAll ds.reverse = PyData.depthAll ds
  | [] => ⟨rfl, rfl, rfl, rfl⟩
  | x :: r => by
    obtain ⟨i1, i2, i3, i4⟩ := all_rev r
    obtain ⟨a1, a2, a3, a4⟩ := all_app [x] r.reverse
    rw [List.reverse_cons]
    refine ⟨?_, ?_, ?_, ?_⟩
    · rw [a1, i1]
      show (PyData.showableAll r && (x.showable && true)) = (x.showable && PyData.showableAll r)
      rw [Bool.and_true, Bool.and_comm]
    · rw [a2, i2]
      show (PyData.leavesShortAll 30 r && (x.leavesShort 30 && true)) = (x.leavesShort 30 && PyData.leavesShortAll 30 r)
      rw [Bool.and_true, Bool.and_comm]
    · rw [a3, i3]
      show PyData.bulkAll r + (x.bulk + 1 + 0) = x.bulk + 1 + PyData.bulkAll r
      omega
    · rw [a4, i4]
      show max (PyData.depthAll r) (max x.depth 0) = max x.depth (PyData.depthAll r)
      omega
theorem Fits.rev {n : Nat} {ds : List PyData} (h : Fits n ds) : Fits n ds.reverse := by
  obtain ⟨i1, i2, i3, i4⟩ := all_rev ds
  unfold Fits
  rw [i1, i2, i3, i4]
  exact h
theorem DdAll.rev {p : Option Sx} {H : Hp} : ∀ {vs : List V} {ds : List PyData}, DdAll p H vs ds → DdAll p H vs.reverse ds.reverse
  | _, _, .nil => .nil
  | _, _, .cons h r => by
    rw [List.reverse_cons, List.reverse_cons]
    exact (DdAll.rev r).append (.cons h .nil)
section
variable {S : Sx} {K : PySem.W.Frag} {σ : L2.St} {H : Hp} {te tf : TE} {ta : TA} {k j : Int} {D E : PyData → Prop} {L M : List PyData → Prop}
/-- t[lo:hi] of a tuple at a name, any bounds -/
theorem evp_cutG {i : Nat} {a : Addr} {ds : List PyData} {n : Nat} {tl th : TO} {lo hi : Option Int} (h : σ[i]? = some (some (.ref a))) (hd : Dd (some S) H (.ref a) (.tuple ds)) (f : Fits n ds)
    (hlo : ∀ H1 (Q : Option Int → Hp → Prop), Q lo H1 → tl σ H1 Q) (hhi : ∀ H1 (Q : Option Int → Hp → Prop), Q hi H1 → th σ H1 Q) : EvP S 0 (tSl (rSlA K) (tVar i) tl th) σ H (Tu n) := by
  intro H1 c x P c0 c1 Q q
  have hd1 := hd.xp x
  cases hd1 with
  | @tup _ xs _ na ha hxs =>
    refine ⟨.ref a, h, hlo H1 _ (hhi H1 _ ⟨a, xs, rfl, st_of ha, fun _ => ?_, fun _ t nt => ?_⟩)⟩
    · exact q _ _ H1 (Xp.refl _ _) (P.more (by omega)) (.tup na ha hxs) ⟨ds, rfl, f⟩
    · have e := Ex.new (o := .tup (cutV xs lo hi)) nt
      have hc : DdAll (some S) H1 (cutV xs lo hi) ((ds.drop (HT.sIx xs.length 0 lo)).take (HT.sIx xs.length xs.length hi - HT.sIx xs.length 0 lo)) := (hxs.drop _).take _
      exact q _ _ _ (Xp.ex e) ((P.up e).more (by omega)) (.tup (P.sn nt) upd_same (hc.up e)) ⟨_, rfl, (f.sub.1 _).sub.2 _⟩
theorem evp_rev {i : Nat} {a : Addr} {ds : List PyData} {n : Nat} (h : σ[i]? = some (some (.ref a))) (hd : Dd (some S) H (.ref a) (.tuple ds)) (f : Fits n ds) : EvP S 0 (tRevT K (tVar i)) σ H (Tu n) := by
  intro H1 c x P c0 c1 Q q
  have hd1 := hd.xp x
  cases hd1 with
  | @tup _ xs _ na ha hxs =>
    refine ⟨.ref a, h, a, xs, rfl, st_of ha, fun t nt => ?_⟩
    have e := Ex.new (o := .tup xs.reverse) nt
    exact q _ _ _ (Xp.ex e) ((P.up e).more (by omega)) (.tup (P.sn nt) upd_same (hxs.rev.up e)) ⟨_, rfl, f.rev⟩
theorem evl_two {A n : Nat} (h : EvPL S k te σ H (fun ds => AllFit n ds ∧ ds.length = A)) (hk : 0 ≤ k) (hA : A ≤ 1000) : EvPL S k (tOp rRep te (tC (.int 2))) σ H (fun ds => AllFit n ds ∧ ds.length = A + A) := by
  intro H1 c x P c0 c1 Q q
  refine h H1 c x P c0 c1 _ fun l vs ds H2 x2 P2 nl hl hds hD => ?_
  have l1 := hds.length
  have d1 := hD.2
  refine ⟨l, 2, vs, rfl, rfl, hl, by decide, by decide, sz_of (by show vs.length * 2 ≤ 100000; omega), fun a na => ?_⟩
  have e := Ex.new (o := .lst (List.replicate 2 vs).flatten) na
  have ev : (List.replicate 2 vs).flatten = vs ++ vs := by
    show vs ++ (vs ++ []) = vs ++ vs
    rw [List.append_nil]
  refine q a _ (ds ++ ds) _ (x2.trans (Xp.ex e)) (P2.up e) (P2.ne na) (by show upd H2 a (.lst (List.replicate 2 vs).flatten) a = some (.lst (vs ++ vs)); rw [upd_same, ev]) ((hds.append hds).up e) ⟨hD.1.app hD.1, by rw [List.length_append, d1]⟩
theorem evl_cut {i : Nat} {l : Addr} {vs : List V} {ds : List PyData} {n A : Nat} {u : Int} (h : σ[i]? = some (some (.ref l))) (nl : l ≠ S.p) (hl : H l = some (.lst vs)) (hd : DdAll (some S) H vs ds) (hL : AllFit n ds) (hu : 0 ≤ u) (hA : A = min u.toNat ds.length) :
    EvPL S 0 (tSl (rSlL K) (tVar i) tNoPart (tPart (tC (.int u)))) σ H (fun ds => AllFit n ds ∧ ds.length = A) := by
  intro H1 c x P c0 c1 Q q
  have hl1 := x _ _ nl hl
  have l1 := hd.length
  refine ⟨.ref l, h, u, rfl, l, vs, rfl, sq_of hl1, fun t nt => ?_⟩
  have e := Ex.new (o := .lst (cutV vs none (some u))) nt
  have hc : DdAll (some S) H1 (cutV vs none (some u)) (ds.take (min u.toNat ds.length)) := by
    unfold cutV
    rw [HT.sIx_none, List.drop_zero, Nat.sub_zero, show (some u) = some ((u.toNat : Nat) : Int) by rw [Int.toNat_of_nonneg hu], HT.sIx_nat, l1]
    exact (hd.xp x).take _
  refine q t _ _ _ (Xp.ex e) ((P.up e).more (by omega)) (P.ne nt) upd_same (hc.up e) ⟨fun d hd => hL d (List.mem_of_mem_take hd), ?_⟩
  rw [List.length_take, hA]
  omega
end
theorem PotS.tn {S : Sx} {H : Hp} {c : Int} (P : PotS S H c) {a : Addr} {xs : List V} (n : a ≠ S.p) (h : H a = some (.tup xs)) : ¬ out (some S) a := by
  rintro (z | z)
  · exact n z
  · obtain ⟨ys, e⟩ := P.2 a z
    rw [h] at e
    cases e
mutual
theorem TrAt.dd {S : Sx} {H : Hp} {c : Int} (P : PotS S H c) : ∀ {v : V} {t : Tr}, TrAt S.p H v t → Dd (some S) H v t.toD
  | _, _, .leaf n h => .tup (P.tn n h) h (.cons (.str _) (.cons (.str _) .nil))
  | _, _, .node n h r => .tup (P.tn n h) h (.cons (.str _) (TrAll.dd P r))
theorem TrAll.dd {S : Sx} {H : Hp} {c : Int} (P : PotS S H c) : ∀ {vs : List V} {ts : List Tr}, TrAll S.p H vs ts → DdAll (some S) H vs (Tr.toDs ts)
  | _, _, .nil => .nil
  | _, _, .cons h r => .cons (TrAt.dd P h) (TrAll.dd P r)
end
end Es
namespace Es
open PySem PySem.Spec PyProof.Rows L2 Evl
section
variable {X : Cx}
/-- list(a text) -/
def rListStr : List V → Hp → VK → Prop := fun xs H Q => ∃ z : Str, xs = [.str z] ∧ z.length ≤ 1000 ∧ ∀ l, H l = none → Q (.ref l) (upd H l (.lst (z.cps.toList.map fun c => V.str ⟨#[c]⟩)))
theorem cr_listStr (hc : X.calm = true) : CallR X (.type "list") rListStr := by
  intro pins s σ H xs us Q I r h
  obtain ⟨z, rfl, hz, q⟩ := h
  obtain ⟨u, rfl, ru⟩ := vals1 r
  obtain ⟨t, rfl⟩ := ru
  have hn : z.cps.size ≤ sizeLine := sz_of (by show z.length ≤ 100000; omega)
  refine call_list_str (I.ok.hd hc) z t (hn := hn) (fun h' tk acc' c' hk hS hacc => ?_)
  refine ⟨.ref s.heap.objs.size, upd H s.heap.objs.size (.lst (z.cps.toList.map fun c => V.str ⟨#[c]⟩)), I.laid hk (Nat.le_refl _) (show ObjOk X.prog X.w _ _ _ (.lst (z.cps.toList.map fun c => V.str ⟨#[c]⟩)) from ⟨?_, acc'.toList, c', ?_, ?_⟩), rfl, q _ (I.hok.fresh (Nat.le_refl _))⟩
  · rw [List.length_map, Array.length_toList]
    exact hn
  · refine vals_of_at (by rw [List.length_map, Array.length_toList, Array.length_toList, hacc.1]) fun j x w h1 h2 => ?_
    obtain ⟨c, u, hcu, rfl⟩ := hacc.2 j w (by rw [← Array.getElem?_toList]; exact h2)
    rw [List.getElem?_map, Array.getElem?_toList, hcu] at h1
    cases h1
    exact ⟨_, rfl⟩
  · rw [Array.toArray_toList]
    exact hS
end
/-! words: short texts of ordinary signs -/
def Wd (x : Str) : Prop := x.length ≤ 8 ∧ (x.cps.toList.all fun c => decide (c < 16 ^ 8)) = true
def txts (ws : List Str) : List V := ws.map V.str
def dtxts (ws : List Str) : List PyData := ws.map PyData.str
theorem fits_words : ∀ ws : List Str, (∀ x ∈ ws, Wd x) → PyData.showableAll (dtxts ws) = true ∧ PyData.hasDictAll (dtxts ws) = false ∧ PyData.leavesShortAll 30 (dtxts ws) = true ∧ PyData.bulkAll (dtxts ws) ≤ 9 * ws.length ∧ PyData.depthAll (dtxts ws) = 0
  | [], _ => ⟨rfl, rfl, rfl, Nat.le_refl _, rfl⟩
  | x :: r, h => by
    obtain ⟨a1, a2, a3, a4, a5⟩ := fits_words r fun y hy => h y (List.mem_cons_of_mem _ hy)
    obtain ⟨b1, b2⟩ := h x (List.mem_cons_self ..)
    refine ⟨?_, ?_, ?_, ?_, ?_⟩
    · show (true && PyData.showableAll (dtxts r)) = true
      rw [a1]
      rfl
    · show (false || PyData.hasDictAll (dtxts r)) = false
      rw [a2]
      rfl
    · show ((x.cps.toList.all fun c => decide (c < 16 ^ 8)) && PyData.leavesShortAll 30 (dtxts r)) = true
      rw [b2, a3]
      rfl
    · show x.cps.size + 1 + PyData.bulkAll (dtxts r) ≤ 9 * (r.length + 1)
      have : x.cps.size ≤ 8 := b1
      omega
    · show max 0 (PyData.depthAll (dtxts r)) = 0
      rw [a5]
      rfl
theorem dp_words {K : PySem.W.Frag} {H : Hp} : ∀ ws : List Str, DpAll K H (txts ws) (dtxts ws)
  | [] => .nil
  | x :: r => .cons (.str x) (dp_words r)

/-! cut tuples -/
theorem cut_nn (xs : List V) (n m : Nat) : cutV xs (some (n : Int)) (some (m : Int)) = (xs.drop n).take (m - n) := by
  unfold cutV
  rw [HT.sIx_nat, HT.sIx_nat]
  by_cases h : n ≤ xs.length
  · rw [Nat.min_eq_left h]
    by_cases h2 : m ≤ xs.length
    · rw [Nat.min_eq_left h2]
    · rw [Nat.min_eq_right (by omega), List.take_of_length_le (by rw [List.length_drop]; omega), List.take_of_length_le (by rw [List.length_drop]; omega)]
  · have e : min n xs.length = xs.length := Nat.min_eq_right (by omega)
    rw [e, List.drop_of_length_le (Nat.le_refl _), List.drop_of_length_le (i := n) (by omega), List.take_nil, List.take_nil]
theorem cut_n (xs : List V) (n : Nat) : cutV xs (some (n : Int)) none = xs.drop n := by
  unfold cutV
  rw [HT.sIx_nat, HT.sIx_none]
  by_cases h : n ≤ xs.length
  · rw [Nat.min_eq_left h, List.take_of_length_le (by rw [List.length_drop]; omega)]
  · have e : min n xs.length = xs.length := Nat.min_eq_right (by omega)
    rw [e, List.drop_of_length_le (Nat.le_refl _), List.drop_of_length_le (i := n) (by omega), List.take_nil]
theorem cut_0 (xs : List V) (m : Nat) : cutV xs none (some (m : Int)) = xs.take m := by
  unfold cutV
  rw [HT.sIx_nat, HT.sIx_none, List.drop_zero, Nat.sub_zero]
  by_cases h : m ≤ xs.length
  · rw [Nat.min_eq_left h]
  · have e : min m xs.length = xs.length := Nat.min_eq_right (by omega)
    rw [e, List.take_of_length_le (Nat.le_refl _), List.take_of_length_le (i := m) (by omega)]
section
variable {K : PySem.W.Frag} {σ : L2.St} {H : Hp} {te tf : TE}
theorem sl_join {Q : VK} {a : Addr} {xs : List V} {lo hi : Option Int} (ha : H a = some (.tup xs)) (q : ∀ b H2, Ex H H2 → H2 b = some (.tup (cutV xs lo hi)) → Q (.ref b) H2) : rSlA K (.ref a) lo hi H Q := by
  refine ⟨a, xs, rfl, st_of ha, fun h => q a H (Ex.refl _) ?_, fun _ p np => q p _ (Ex.new np) upd_same⟩
  unfold cutV
  rw [h.1, h.2, List.drop_zero, Nat.sub_zero, List.take_length]
  exact ha
theorem cat_join {Q : VK} {a b : Addr} {xs ys : List V} (ha : H a = some (.tup xs)) (hb : H b = some (.tup ys)) (hl : xs.length + ys.length ≤ 100000) (q : ∀ c H2, Ex H H2 → H2 c = some (.tup (xs ++ ys)) → Q (.ref c) H2) : rCatA K (.ref a) (.ref b) H Q := by
  refine ⟨a, b, xs, ys, rfl, rfl, st_of ha, st_of hb, sz_of hl, fun z => q b H (Ex.refl _) ?_, fun _ z => q a H (Ex.refl _) ?_, fun _ _ p np => q p _ (Ex.new np) upd_same⟩
  · rw [z]
    exact hb
  · rw [z, List.append_nil]
    exact ha
/-- a tuple, new or not -/
def EvW (te : TE) (σ : L2.St) (H : Hp) (xs : List V) : Prop := ∀ H1, Ex H H1 → ∀ Q : VK, (∀ p H2, Ex H1 H2 → H2 p = some (.tup xs) → Q (.ref p) H2) → te σ H1 Q
theorem ew_var {i : Nat} {a : Addr} {xs : List V} (h : σ[i]? = some (some (.ref a))) (ha : H a = some (.tup xs)) : EvW (tVar i) σ H xs := fun H1 e _ q => ⟨.ref a, h, q a H1 (Ex.refl _) (e _ _ ha)⟩
theorem ew_u {xs : List V} (h : EvU te σ H xs) : EvW te σ H xs := fun H1 e Q q => h H1 e Q fun p H2 _ e2 h2 => q p H2 e2 h2
theorem ew_cat {xs ys : List V} (h1 : EvW te σ H xs) (h2 : EvW tf σ H ys) (hl : xs.length + ys.length ≤ 100000) : EvW (tOp (rCatA K) te tf) σ H (xs ++ ys) := fun H1 e Q q =>
  h1 H1 e _ fun a H2 e2 ha => h2 H2 (e.trans e2) _ fun b H3 e3 hb => cat_join (e3 _ _ ha) hb hl fun c H4 e4 hc => q c H4 ((e2.trans e3).trans e4) hc
theorem ew_sl {xs : List V} {tl th : TO} {lo hi : Option Int} (h : EvW te σ H xs) (h1 : EvO tl σ H lo) (h2 : EvO th σ H hi) : EvW (tSl (rSlA K) te tl th) σ H (cutV xs lo hi) := fun H1 e Q q =>
  h H1 e _ fun a H2 e2 ha => h1 H2 (e.trans e2) _ fun H3 e3 => h2 H3 ((e.trans e2).trans e3) _ fun H4 e4 => sl_join (e4 _ _ (e3 _ _ ha)) fun b H5 e5 hb => q b H5 (((e2.trans e3).trans e4).trans e5) hb
theorem ew_is {xs ys : List V} (h : EvW te σ H xs) (e : xs = ys) : EvW te σ H ys := by
  subst e
  exact h
theorem s_asgW {D : Ends} {i : Nat} {xs : List V} (h : EvW te σ H xs) (k : ∀ p H1, Ex H H1 → H1 p = some (.tup xs) → D.nx (σ.set i (some (.ref p))) H1) : tAsg te (gName i) D σ H := h H (Ex.refl H) _ k
theorem q_asgW {D : Ends} {tz : TS} {i : Nat} {xs : List V} (h : EvW te σ H xs) (k : ∀ p H1, Ex H H1 → H1 p = some (.tup xs) → tz D (σ.set i (some (.ref p))) H1) : tSeq (tAsg te (gName i)) tz D σ H := s_asgW (D := { D with nx := tz D }) h k
end
end Es
/-! which leaf may follow which: the shapes of expressions, and graphs of nodes and free edges -/
namespace Gr
abbrev Ed := List (Nat × Nat)
inductive Rc (E : Ed) : Nat → Nat → Prop
  | refl (a : Nat) : Rc E a a
  | step {a b c : Nat} : (a, b) ∈ E → Rc E b c → Rc E a c
theorem Rc.trans {E : Ed} {a b c : Nat} (h : Rc E a b) (k : Rc E b c) : Rc E a c := by
  induction h with
  | refl a => exact k
  | step e _ ih => exact .step e (ih k)
theorem Rc.mono {E F : Ed} (h : ∀ x ∈ E, x ∈ F) {a b : Nat} (k : Rc E a b) : Rc F a b := by
  induction k with
  | refl a => exact .refl a
  | step e _ ih => exact .step (h _ e) ih
/-- a set that no edge leaves -/
theorem Rc.shut {E : Ed} (S : Nat → Prop) (h : ∀ x y, (x, y) ∈ E → S x → S y) {a b : Nat} (k : Rc E a b) (ha : S a) : S b := by
  induction k with
  | refl a => exact ha
  | step e _ ih => exact ih (h _ _ e ha)
theorem Rc.edge {E : Ed} {a b : Nat} (h : (a, b) ∈ E) : Rc E a b := .step h (.refl b)
/-- what may come first, last, behind one another -/
structure Shp where
  e : Bool
  fs : List Nat
  ls : List Nat
  ps : List (Nat × Nat)
def cross (ls fs : List Nat) : List (Nat × Nat) := ls.flatMap fun l => fs.map fun f => (l, f)
theorem mem_cross {ls fs : List Nat} {a b : Nat} : (a, b) ∈ cross ls fs ↔ a ∈ ls ∧ b ∈ fs := by
  unfold cross
  simp only [List.mem_flatMap, List.mem_map, Prod.mk.injEq]
  constructor
  · rintro ⟨l, hl, f, hf, rfl, rfl⟩
    exact ⟨hl, hf⟩
  · rintro ⟨ha, hb⟩
    exact ⟨a, ha, b, hb, rfl, rfl⟩
theorem mem_if1 {b : Bool} {xs ys : List Nat} {m : Nat} : m ∈ (if b = true then xs ++ ys else xs) ↔ m ∈ xs ∨ (b = true ∧ m ∈ ys) := by
  cases b with
  | true =>
    rw [if_pos rfl, List.mem_append]
    exact ⟨fun h => h.elim .inl fun h => .inr ⟨rfl, h⟩, fun h => h.elim .inl fun h => .inr h.2⟩
  | false =>
    rw [if_neg Bool.false_ne_true]
    exact ⟨.inl, fun h => h.elim id fun h => nomatch h.1⟩
theorem mem_if2 {b : Bool} {xs ys : List Nat} {m : Nat} : m ∈ (if b = true then xs ++ ys else ys) ↔ (b = true ∧ m ∈ xs) ∨ m ∈ ys := by
  cases b with
  | true =>
    rw [if_pos rfl, List.mem_append]
    exact ⟨fun h => h.elim (fun h => .inl ⟨rfl, h⟩) .inr, fun h => h.elim (fun h => .inl h.2) .inr⟩
  | false =>
    rw [if_neg Bool.false_ne_true]
    exact ⟨.inr, fun h => h.elim (fun h => nomatch h.1) id⟩
def Shp.seq (a b : Shp) : Shp := ⟨a.e && b.e, if a.e then a.fs ++ b.fs else a.fs, if b.e then a.ls ++ b.ls else b.ls, a.ps ++ b.ps ++ cross a.ls b.fs⟩
def Shp.cho (a b : Shp) : Shp := ⟨a.e || b.e, a.fs ++ b.fs, a.ls ++ b.ls, a.ps ++ b.ps⟩
def Shp.opt (a : Shp) : Shp := ⟨true, a.fs, a.ls, a.ps⟩
def Shp.loop (a : Shp) : Shp := ⟨a.e, a.fs, a.ls, a.ps ++ cross a.ls a.fs⟩
def Shp.rep (a : Shp) : Shp := ⟨true, a.fs, a.ls, a.ps ++ cross a.ls a.fs⟩
/-- a graph whose ways are a shape's: its nodes from lo below hi, entered at p, left at q, its leaves' nodes L, numbered from n -/
structure Box (E : Ed) (lo hi p q : Nat) (L : List Nat) (n : Nat) (s : Shp) : Prop where
  rng : ∀ x y, (x, y) ∈ E → (lo ≤ x ∧ x < hi) ∧ lo ≤ y ∧ y < hi
  lr : ∀ (i x : Nat), L[i]? = some x → lo ≤ x ∧ x + 1 < hi
  pr : lo ≤ p ∧ p < hi
  qr : lo ≤ q ∧ q < hi
  emp : Rc E p q ↔ s.e = true
  fst : ∀ (i x : Nat), L[i]? = some x → (Rc E p x ↔ n + i ∈ s.fs)
  lst : ∀ (i x : Nat), L[i]? = some x → (Rc E (x + 1) q ↔ n + i ∈ s.ls)
  prs : ∀ (i j x y : Nat), L[i]? = some x → L[j]? = some y → (Rc E (x + 1) y ↔ (n + i, n + j) ∈ s.ps)
  bf : ∀ m ∈ s.fs, n ≤ m ∧ m < n + L.length
  bl : ∀ m ∈ s.ls, n ≤ m ∧ m < n + L.length
  bp : ∀ m ∈ s.ps, (n ≤ m.1 ∧ m.1 < n + L.length) ∧ n ≤ m.2 ∧ m.2 < n + L.length
section
variable {E E1 E2 : Ed} {lo mid hi p q p1 q1 p2 q2 n : Nat} {L L1 L2 : List Nat} {s s1 s2 : Shp}
theorem Box.congr (h : Box E1 lo hi p q L n s) (k : ∀ x, x ∈ E1 ↔ x ∈ E2) : Box E2 lo hi p q L n s := by
  have m : ∀ {a b : Nat}, Rc E2 a b ↔ Rc E1 a b := ⟨Rc.mono fun x hx => (k x).mpr hx, Rc.mono fun x hx => (k x).mp hx⟩
  exact ⟨fun x y e => h.rng x y ((k _).mpr e), h.lr, h.pr, h.qr, m.trans h.emp, fun i x e => m.trans (h.fst i x e), fun i x e => m.trans (h.lst i x e), fun i j x y e f => m.trans (h.prs i j x y e f), h.bf, h.bl, h.bp⟩
theorem Box.stay (h : Box E lo hi p q L n s) {x y : Nat} (k : Rc E x y) (hx : lo ≤ x ∧ x < hi) : lo ≤ y ∧ y < hi := k.shut (fun z => lo ≤ z ∧ z < hi) (fun a b e _ => (h.rng a b e).2) hx
theorem at_app {i x : Nat} (h : (L1 ++ L2)[i]? = some x) : (L1[i]? = some x ∧ i < L1.length) ∨ (L2[i - L1.length]? = some x ∧ L1.length ≤ i) := by
  by_cases hi : i < L1.length
  · rw [List.getElem?_append_left hi] at h
    exact .inl ⟨h, hi⟩
  · rw [List.getElem?_append_right (by omega)] at h
    exact .inr ⟨h, by omega⟩
theorem at_lt {i x : Nat} (h : L[i]? = some x) : i < L.length := (List.getElem?_eq_some_iff.mp h).1
/-- a leaf -/
theorem box_leaf (lo n : Nat) : Box [] lo (lo + 2) lo (lo + 1) [lo] n ⟨false, [n], [n], []⟩ := by
  have no : ∀ {a b : Nat}, Rc [] a b → a = b := fun {a b} k => by
    cases k with
    | refl _ => rfl
    | step e _ => cases e
  have one : ∀ {i x : Nat}, [lo][i]? = some x → i = 0 ∧ x = lo := fun {i x} h => by
    cases i with
    | zero => exact ⟨rfl, (Option.some.inj h).symm⟩
    | succ i => cases h
  refine ⟨(fun _ _ h => nomatch h), fun i x h => ?_, ⟨Nat.le_refl _, by omega⟩, ⟨by omega, by omega⟩, ⟨fun k => ?_, fun k => nomatch k⟩, fun i x h => ?_, fun i x h => ?_, fun i j x y h k => ?_, fun m h => ?_, fun m h => ?_, (fun _ h => nomatch h)⟩
  · obtain ⟨_, rfl⟩ := one h
    omega
  · have := no k
    omega
  · obtain ⟨rfl, rfl⟩ := one h
    exact ⟨fun _ => List.mem_singleton.mpr rfl, fun _ => .refl _⟩
  · obtain ⟨rfl, rfl⟩ := one h
    exact ⟨fun _ => List.mem_singleton.mpr rfl, fun _ => .refl _⟩
  · obtain ⟨rfl, rfl⟩ := one h
    obtain ⟨rfl, rfl⟩ := one k
    refine ⟨fun z => ?_, fun z => nomatch z⟩
    have := no z
    omega
  · cases List.mem_singleton.mp h
    exact ⟨Nat.le_refl _, by show n < n + 1; omega⟩
  · cases List.mem_singleton.mp h
    exact ⟨Nat.le_refl _, by show n < n + 1; omega⟩
/-- one behind the other -/
theorem Box.seq (A : Box E1 lo mid p1 q1 L1 n s1) (B : Box E2 mid hi p2 q2 L2 (n + L1.length) s2) (ha : lo ≤ mid) (hb : mid ≤ hi) : Box (E1 ++ E2 ++ [(q1, p2)]) lo hi p1 q2 (L1 ++ L2) n (s1.seq s2) := by
  have cases3 : ∀ {x y : Nat}, (x, y) ∈ E1 ++ E2 ++ [(q1, p2)] → (x, y) ∈ E1 ∨ (x, y) ∈ E2 ∨ (x = q1 ∧ y = p2) := fun {x y} h => by
    rcases List.mem_append.mp h with h | h
    · rcases List.mem_append.mp h with h | h
      · exact .inl h
      · exact .inr (.inl h)
    · have := List.mem_singleton.mp h
      exact .inr (.inr ⟨congrArg Prod.fst this, congrArg Prod.snd this⟩)
  have m1 : ∀ {a b : Nat}, Rc E1 a b → Rc (E1 ++ E2 ++ [(q1, p2)]) a b := Rc.mono fun x hx => List.mem_append_left _ (List.mem_append_left _ hx)
  have m2 : ∀ {a b : Nat}, Rc E2 a b → Rc (E1 ++ E2 ++ [(q1, p2)]) a b := Rc.mono fun x hx => List.mem_append_left _ (List.mem_append_right _ hx)
  have lk : Rc (E1 ++ E2 ++ [(q1, p2)]) q1 p2 := .edge (List.mem_append_right _ (List.mem_singleton.mpr rfl))
  have inA : ∀ {x y : Nat}, x < mid → (Rc (E1 ++ E2 ++ [(q1, p2)]) x y ↔ (y < mid ∧ Rc E1 x y) ∨ (mid ≤ y ∧ Rc E1 x q1 ∧ Rc E2 p2 y)) := fun {x y} hx => by
    constructor
    · intro k
      refine k.shut (fun y => (y < mid ∧ Rc E1 x y) ∨ (mid ≤ y ∧ Rc E1 x q1 ∧ Rc E2 p2 y)) (fun a b e z => ?_) (.inl ⟨hx, .refl _⟩)
      rcases cases3 e with e | e | ⟨rfl, rfl⟩
      · have r := A.rng a b e
        rcases z with z | z
        · exact .inl ⟨r.2.2, z.2.trans (.edge e)⟩
        · omega
      · have r := B.rng a b e
        rcases z with z | z
        · omega
        · exact .inr ⟨r.2.1, z.2.1, z.2.2.trans (.edge e)⟩
      · rcases z with z | z
        · exact .inr ⟨B.pr.1, z.2, .refl _⟩
        · have := A.qr
          omega
    · rintro (⟨_, k⟩ | ⟨_, k, l⟩)
      · exact m1 k
      · exact ((m1 k).trans lk).trans (m2 l)
  have inB : ∀ {x y : Nat}, mid ≤ x → (Rc (E1 ++ E2 ++ [(q1, p2)]) x y ↔ mid ≤ y ∧ Rc E2 x y) := fun {x y} hx => by
    constructor
    · intro k
      refine k.shut (fun y => mid ≤ y ∧ Rc E2 x y) (fun a b e z => ?_) ⟨hx, .refl _⟩
      rcases cases3 e with e | e | ⟨rfl, rfl⟩
      · have r := A.rng a b e
        omega
      · have r := B.rng a b e
        exact ⟨r.2.1, z.2.trans (.edge e)⟩
      · have := A.qr
        omega
    · rintro ⟨_, k⟩
      exact m2 k
  have pa := A.pr
  have qa := A.qr
  have pb := B.pr
  have qb := B.qr
  have num : ∀ {i : Nat}, L1.length ≤ i → n + i = n + L1.length + (i - L1.length) := fun h => by omega
  refine ⟨fun x y h => ?_, fun i x h => ?_, by omega, by omega, ?_, fun i x h => ?_, fun i x h => ?_, fun i j x y h k => ?_, fun m h => ?_, fun m h => ?_, fun m h => ?_⟩
  · rcases cases3 h with e | e | ⟨rfl, rfl⟩
    · have := A.rng x y e
      omega
    · have := B.rng x y e
      omega
    · omega
  · rcases at_app h with ⟨h, _⟩ | ⟨h, _⟩
    · have := A.lr i x h
      omega
    · have := B.lr _ x h
      omega
  · rw [inA pa.2]
    show _ ↔ (s1.e && s2.e) = true
    rw [Bool.and_eq_true, ← A.emp, ← B.emp]
    constructor
    · rintro (⟨z, _⟩ | ⟨_, a, b⟩)
      · omega
      · exact ⟨a, b⟩
    · rintro ⟨a, b⟩
      exact .inr ⟨qb.1, a, b⟩
  · rw [inA pa.2]
    show _ ↔ n + i ∈ (if s1.e = true then s1.fs ++ s2.fs else s1.fs)
    rw [mem_if1]
    rcases at_app h with ⟨h, hl⟩ | ⟨h, hl⟩
    · have r := A.lr i x h
      rw [← A.fst i x h]
      refine ⟨fun z => z.elim (fun z => .inl z.2) (fun z => by omega), fun z => z.elim (fun z => .inl ⟨by omega, z⟩) (fun z => ?_)⟩
      have := B.bf _ z.2
      omega
    · have r := B.lr _ x h
      have b := B.fst _ x h
      rw [← num hl] at b
      rw [← b, ← A.emp]
      refine ⟨fun z => z.elim (fun z => by omega) (fun z => .inr z.2), fun z => z.elim (fun z => ?_) (fun z => .inr ⟨by omega, z⟩)⟩
      have := A.bf _ z
      omega
  · show _ ↔ n + i ∈ (if s2.e = true then s1.ls ++ s2.ls else s2.ls)
    rw [mem_if2]
    rcases at_app h with ⟨h, hl⟩ | ⟨h, hl⟩
    · have r := A.lr i x h
      rw [inA (by omega), ← A.lst i x h, ← B.emp]
      refine ⟨fun z => z.elim (fun z => by omega) (fun z => .inl ⟨z.2.2, z.2.1⟩), fun z => z.elim (fun z => .inr ⟨qb.1, z.2, z.1⟩) (fun z => ?_)⟩
      have := B.bl _ z
      omega
    · have r := B.lr _ x h
      have b := B.lst _ x h
      rw [← num hl] at b
      rw [inB (by omega), ← b]
      refine ⟨fun z => .inr z.2, fun z => z.elim (fun z => ?_) (fun z => ⟨qb.1, z⟩)⟩
      have := A.bl _ z.2
      omega
  · show _ ↔ (n + i, n + j) ∈ s1.ps ++ s2.ps ++ cross s1.ls s2.fs
    rw [List.mem_append, List.mem_append, mem_cross]
    rcases at_app h with ⟨h, hl⟩ | ⟨h, hl⟩
    · have r := A.lr i x h
      rw [inA (by omega)]
      rcases at_app k with ⟨k, kl⟩ | ⟨k, kl⟩
      · have r' := A.lr j y k
        rw [← A.prs i j x y h k]
        refine ⟨fun z => z.elim (fun z => .inl (.inl z.2)) (fun z => by omega), fun z => ?_⟩
        rcases z with (z | z) | z
        · exact .inl ⟨by omega, z⟩
        · have := B.bp _ z
          omega
        · have := B.bf _ z.2
          omega
      · have r' := B.lr _ y k
        have b := B.fst _ y k
        rw [← num kl] at b
        rw [← A.lst i x h, ← b]
        refine ⟨fun z => z.elim (fun z => by omega) (fun z => .inr z.2), fun z => ?_⟩
        rcases z with (z | z) | z
        · have := A.bp _ z
          omega
        · have := B.bp _ z
          omega
        · exact .inr ⟨by omega, z⟩
    · have r := B.lr _ x h
      rw [inB (by omega)]
      rcases at_app k with ⟨k, kl⟩ | ⟨k, kl⟩
      · have r' := A.lr j y k
        refine ⟨fun z => by omega, fun z => ?_⟩
        rcases z with (z | z) | z
        · have := A.bp _ z
          omega
        · have := B.bp _ z
          omega
        · have := A.bl _ z.1
          omega
      · have r' := B.lr _ y k
        have b := B.prs _ _ x y h k
        rw [← num hl, ← num kl] at b
        rw [← b]
        refine ⟨fun z => .inl (.inr z.2), fun z => ?_⟩
        rcases z with (z | z) | z
        · have := A.bp _ z
          omega
        · exact ⟨by omega, z⟩
        · have := A.bl _ z.1
          omega
  · have h' : m ∈ (if s1.e = true then s1.fs ++ s2.fs else s1.fs) := h
    have : m ∈ s1.fs ∨ m ∈ s2.fs := (mem_if1.mp h').imp id fun z => z.2
    rw [List.length_append]
    rcases this with z | z
    · have := A.bf _ z
      omega
    · have := B.bf _ z
      omega
  · have h' : m ∈ (if s2.e = true then s1.ls ++ s2.ls else s2.ls) := h
    have : m ∈ s1.ls ∨ m ∈ s2.ls := (mem_if2.mp h').imp (fun z => z.2) id
    rw [List.length_append]
    rcases this with z | z
    · have := A.bl _ z
      omega
    · have := B.bl _ z
      omega
  · have h' : m ∈ s1.ps ++ s2.ps ++ cross s1.ls s2.fs := h
    rw [List.length_append]
    rcases List.mem_append.mp h' with z | z
    · rcases List.mem_append.mp z with z | z
      · have := A.bp _ z
        omega
      · have := B.bp _ z
        omega
    · obtain ⟨a, b⟩ := m
      obtain ⟨z1, z2⟩ := mem_cross.mp z
      have := A.bl _ z1
      have := B.bf _ z2
      omega
/-- begin and end around it -/
theorem Box.wrap {b : Nat} (A : Box E1 (b + 2) hi p1 q1 L n s) (ha : b + 2 ≤ hi) : Box (E1 ++ [(b, p1), (q1, b + 1)]) b hi b (b + 1) L n s := by
  have cases3 : ∀ {x y : Nat}, (x, y) ∈ E1 ++ [(b, p1), (q1, b + 1)] → (x, y) ∈ E1 ∨ (x = b ∧ y = p1) ∨ (x = q1 ∧ y = b + 1) := fun {x y} h => by
    rcases List.mem_append.mp h with h | h
    · exact .inl h
    · rcases List.mem_cons.mp h with h | h
      · exact .inr (.inl ⟨congrArg Prod.fst h, congrArg Prod.snd h⟩)
      · have h := List.mem_singleton.mp h
        exact .inr (.inr ⟨congrArg Prod.fst h, congrArg Prod.snd h⟩)
  have m1 : ∀ {x y : Nat}, Rc E1 x y → Rc (E1 ++ [(b, p1), (q1, b + 1)]) x y := Rc.mono fun x hx => List.mem_append_left _ hx
  have l1 : Rc (E1 ++ [(b, p1), (q1, b + 1)]) b p1 := .edge (List.mem_append_right _ (List.mem_cons_self ..))
  have l2 : Rc (E1 ++ [(b, p1), (q1, b + 1)]) q1 (b + 1) := .edge (List.mem_append_right _ (List.mem_cons_of_mem _ (List.mem_singleton.mpr rfl)))
  have pa := A.pr
  have qa := A.qr
  have inA : ∀ {x y : Nat}, b + 2 ≤ x → (Rc (E1 ++ [(b, p1), (q1, b + 1)]) x y ↔ (b + 2 ≤ y ∧ Rc E1 x y) ∨ (y = b + 1 ∧ Rc E1 x q1)) := fun {x y} hx => by
    constructor
    · intro k
      refine k.shut (fun y => (b + 2 ≤ y ∧ Rc E1 x y) ∨ (y = b + 1 ∧ Rc E1 x q1)) (fun c d e z => ?_) (.inl ⟨hx, .refl _⟩)
      rcases cases3 e with e | ⟨rfl, rfl⟩ | ⟨rfl, rfl⟩
      · have r := A.rng c d e
        rcases z with z | z
        · exact .inl ⟨r.2.1, z.2.trans (.edge e)⟩
        · omega
      · rcases z with z | z <;> omega
      · rcases z with z | z
        · exact .inr ⟨rfl, z.2⟩
        · omega
    · rintro (⟨_, k⟩ | ⟨rfl, k⟩)
      · exact m1 k
      · exact (m1 k).trans l2
  have inP : ∀ {y : Nat}, Rc (E1 ++ [(b, p1), (q1, b + 1)]) b y ↔ y = b ∨ (b + 2 ≤ y ∧ Rc E1 p1 y) ∨ (y = b + 1 ∧ Rc E1 p1 q1) := fun {y} => by
    constructor
    · intro k
      cases k with
      | refl _ => exact .inl rfl
      | step e k =>
        rcases cases3 e with e | ⟨_, rfl⟩ | ⟨e, _⟩
        · have := A.rng _ _ e
          omega
        · exact .inr ((inA pa.1).mp k)
        · omega
    · rintro (rfl | h)
      · exact .refl _
      · exact l1.trans ((inA pa.1).mpr h)
  refine ⟨fun x y h => ?_, fun i x h => ?_, by omega, by omega, ?_, fun i x h => ?_, fun i x h => ?_, fun i j x y h k => ?_, A.bf, A.bl, A.bp⟩
  · rcases cases3 h with e | ⟨rfl, rfl⟩ | ⟨rfl, rfl⟩
    · have := A.rng x y e
      omega
    · omega
    · omega
  · have := A.lr i x h
    omega
  · rw [inP, ← A.emp]
    refine ⟨fun z => ?_, fun z => .inr (.inr ⟨rfl, z⟩)⟩
    rcases z with z | z | z
    · omega
    · omega
    · exact z.2
  · have r := A.lr i x h
    rw [inP, ← A.fst i x h]
    refine ⟨fun z => ?_, fun z => .inr (.inl ⟨r.1, z⟩)⟩
    rcases z with z | z | z
    · omega
    · exact z.2
    · omega
  · have r := A.lr i x h
    rw [inA (by omega), ← A.lst i x h]
    refine ⟨fun z => ?_, fun z => .inr ⟨rfl, z⟩⟩
    rcases z with z | z
    · omega
    · exact z.2
  · have r := A.lr i x h
    have r' := A.lr j y k
    rw [inA (by omega), ← A.prs i j x y h k]
    refine ⟨fun z => ?_, fun z => .inl ⟨r'.1, z⟩⟩
    rcases z with z | z
    · exact z.2
    · omega
/-- from the end to the begin -/
theorem Box.loop (A : Box E1 lo hi p1 q1 L n s) : Box (E1 ++ [(q1, p1)]) lo hi p1 q1 L n s.loop := by
  have cases2 : ∀ {x y : Nat}, (x, y) ∈ E1 ++ [(q1, p1)] → (x, y) ∈ E1 ∨ (x = q1 ∧ y = p1) := fun {x y} h => by
    rcases List.mem_append.mp h with h | h
    · exact .inl h
    · have h := List.mem_singleton.mp h
      exact .inr ⟨congrArg Prod.fst h, congrArg Prod.snd h⟩
  have m1 : ∀ {x y : Nat}, Rc E1 x y → Rc (E1 ++ [(q1, p1)]) x y := Rc.mono fun x hx => List.mem_append_left _ hx
  have lk : Rc (E1 ++ [(q1, p1)]) q1 p1 := .edge (List.mem_append_right _ (List.mem_singleton.mpr rfl))
  have way : ∀ {x y : Nat}, Rc (E1 ++ [(q1, p1)]) x y ↔ Rc E1 x y ∨ (Rc E1 x q1 ∧ Rc E1 p1 y) := fun {x y} => by
    constructor
    · intro k
      refine k.shut (fun y => Rc E1 x y ∨ (Rc E1 x q1 ∧ Rc E1 p1 y)) (fun c d e z => ?_) (.inl (.refl _))
      rcases cases2 e with e | ⟨rfl, rfl⟩
      · exact z.imp (fun z => z.trans (.edge e)) (fun z => ⟨z.1, z.2.trans (.edge e)⟩)
      · exact .inr ⟨z.elim id fun z => z.1, .refl _⟩
    · rintro (k | ⟨k, l⟩)
      · exact m1 k
      · exact ((m1 k).trans lk).trans (m1 l)
  refine ⟨fun x y h => ?_, A.lr, A.pr, A.qr, ?_, fun i x h => ?_, fun i x h => ?_, fun i j x y h k => ?_, A.bf, A.bl, fun m h => ?_⟩
  · rcases cases2 h with e | ⟨rfl, rfl⟩
    · exact A.rng x y e
    · exact ⟨A.qr, A.pr⟩
  · rw [way]
    exact ⟨fun z => A.emp.mp (z.elim id fun z => z.1), fun z => .inl (A.emp.mpr z)⟩
  · rw [way]
    exact ⟨fun z => (A.fst i x h).mp (z.elim id fun z => z.2), fun z => .inl ((A.fst i x h).mpr z)⟩
  · rw [way]
    exact ⟨fun z => (A.lst i x h).mp (z.elim id fun z => z.1), fun z => .inl ((A.lst i x h).mpr z)⟩
  · show _ ↔ (n + i, n + j) ∈ s.ps ++ cross s.ls s.fs
    rw [way, List.mem_append, mem_cross, A.prs i j x y h k, A.lst i x h, A.fst j y k]
  · have h' : m ∈ s.ps ++ cross s.ls s.fs := h
    rcases List.mem_append.mp h' with z | z
    · exact A.bp m z
    · obtain ⟨a, c⟩ := m
      obtain ⟨z1, z2⟩ := mem_cross.mp z
      exact ⟨A.bl _ z1, A.bf _ z2⟩
/-- a graph that nothing enters at its begin, nothing leaves at its end -/
structure Node (E : Ed) (b hi : Nat) (L : List Nat) (n : Nat) (s : Shp) : Prop where
  box : Box E b hi b (b + 1) L n s
  noIn : ∀ x y, (x, y) ∈ E → y ≠ b
  noOut : ∀ x y, (x, y) ∈ E → x ≠ b + 1
  low : ∀ (i x : Nat), L[i]? = some x → b + 2 ≤ x ∨ (x = b ∧ hi = b + 2)
theorem Node.congr {b : Nat} (h : Node E1 b hi L n s) (k : ∀ x, x ∈ E1 ↔ x ∈ E2) : Node E2 b hi L n s := ⟨h.box.congr k, fun x y e => h.noIn x y ((k _).mpr e), fun x y e => h.noOut x y ((k _).mpr e), h.low⟩
theorem node_leaf (b n : Nat) : Node [] b (b + 2) [b] n ⟨false, [n], [n], []⟩ := ⟨box_leaf b n, (fun _ _ h => nomatch h), (fun _ _ h => nomatch h), fun i x h => by
  cases i with
  | zero => exact .inr ⟨(Option.some.inj h).symm, rfl⟩
  | succ i => cases h⟩
theorem Box.node {b : Nat} (A : Box E1 (b + 2) hi p1 q1 L n s) (ha : b + 2 ≤ hi) : Node (E1 ++ [(b, p1), (q1, b + 1)]) b hi L n s := by
  have pa := A.pr
  have qa := A.qr
  refine ⟨A.wrap ha, fun x y h => ?_, fun x y h => ?_, fun i x h => .inl (A.lr i x h).1⟩
  all_goals
    rcases List.mem_append.mp h with h | h
    · have := A.rng x y h
      omega
    · rcases List.mem_cons.mp h with h | h
      · cases h
        omega
      · cases List.mem_singleton.mp h
        omega
/-- or nothing -/
theorem Node.opt {b : Nat} (A : Node E1 b hi L n s) (hl : ∀ (i x : Nat), L[i]? = some x → b + 2 ≤ x) : Node (E1 ++ [(b, b + 1)]) b hi L n s.opt := by
  have B := A.box
  have cases2 : ∀ {x y : Nat}, (x, y) ∈ E1 ++ [(b, b + 1)] → (x, y) ∈ E1 ∨ (x = b ∧ y = b + 1) := fun {x y} h => by
    rcases List.mem_append.mp h with h | h
    · exact .inl h
    · have h := List.mem_singleton.mp h
      exact .inr ⟨congrArg Prod.fst h, congrArg Prod.snd h⟩
  have m1 : ∀ {x y : Nat}, Rc E1 x y → Rc (E1 ++ [(b, b + 1)]) x y := Rc.mono fun x hx => List.mem_append_left _ hx
  have lk : Rc (E1 ++ [(b, b + 1)]) b (b + 1) := .edge (List.mem_append_right _ (List.mem_singleton.mpr rfl))
  have toB : ∀ {x : Nat}, Rc E1 x b → x = b := fun {x} k => by
    generalize hb : b = c at k
    induction k with
    | refl _ => rfl
    | step e k ih =>
      have := ih hb
      exact absurd (this.trans hb.symm) (A.noIn _ _ e)
  have inA : ∀ {x y : Nat}, x ≠ b → (Rc (E1 ++ [(b, b + 1)]) x y ↔ Rc E1 x y) := fun {x y} hx => by
    refine ⟨fun k => k.shut (fun y => Rc E1 x y) (fun c d e z => ?_) (.refl _), m1⟩
    rcases cases2 e with e | ⟨rfl, rfl⟩
    · exact z.trans (.edge e)
    · exact absurd (toB z) hx
  have inP : ∀ {y : Nat}, Rc (E1 ++ [(b, b + 1)]) b y ↔ Rc E1 b y ∨ y = b + 1 := fun {y} => by
    refine ⟨fun k => k.shut (fun y => Rc E1 b y ∨ y = b + 1) (fun c d e z => ?_) (.inl (.refl _)), ?_⟩
    · rcases cases2 e with e | ⟨rfl, rfl⟩
      · rcases z with z | z
        · exact .inl (z.trans (.edge e))
        · exact absurd z (A.noOut _ _ e)
      · exact .inr rfl
    · rintro (k | rfl)
      · exact m1 k
      · exact lk
  refine ⟨⟨fun x y h => ?_, B.lr, B.pr, B.qr, ?_, fun i x h => ?_, fun i x h => ?_, fun i j x y h k => ?_, B.bf, B.bl, B.bp⟩, fun x y h => ?_, fun x y h => ?_, fun i x h => .inl (hl i x h)⟩
  · rcases cases2 h with e | ⟨rfl, rfl⟩
    · exact B.rng x y e
    · exact ⟨B.pr, B.qr⟩
  · rw [inP]
    exact ⟨fun _ => rfl, fun _ => .inr rfl⟩
  · have r := hl i x h
    rw [inP]
    show _ ↔ n + i ∈ s.fs
    rw [← B.fst i x h]
    exact ⟨fun z => z.elim id fun z => by omega, .inl⟩
  · have r := hl i x h
    rw [inA (by omega)]
    exact B.lst i x h
  · have r := hl i x h
    rw [inA (by omega)]
    exact B.prs i j x y h k
  · rcases cases2 h with e | ⟨rfl, rfl⟩
    · exact A.noIn x y e
    · omega
  · rcases cases2 h with e | ⟨rfl, rfl⟩
    · exact A.noOut x y e
    · omega
/-- or another one -/
theorem Node.cho {b : Nat} (A : Node E1 b mid L1 n s1) (hl : ∀ (i x : Nat), L1[i]? = some x → b + 2 ≤ x) (B : Box E2 mid hi p2 q2 L2 (n + L1.length) s2) (ha : b + 2 ≤ mid) (hb : mid ≤ hi) :
    Node (E1 ++ E2 ++ [(b, p2), (q2, b + 1)]) b hi (L1 ++ L2) n (s1.cho s2) := by
  have X := A.box
  generalize hE : E1 ++ E2 ++ [(b, p2), (q2, b + 1)] = E
  have cases4 : ∀ {x y : Nat}, (x, y) ∈ E → (x, y) ∈ E1 ∨ (x, y) ∈ E2 ∨ (x = b ∧ y = p2) ∨ (x = q2 ∧ y = b + 1) := fun {x y} h => by
    rw [← hE] at h
    rcases List.mem_append.mp h with h | h
    · rcases List.mem_append.mp h with h | h
      · exact .inl h
      · exact .inr (.inl h)
    · rcases List.mem_cons.mp h with h | h
      · exact .inr (.inr (.inl ⟨congrArg Prod.fst h, congrArg Prod.snd h⟩))
      · have h := List.mem_singleton.mp h
        exact .inr (.inr (.inr ⟨congrArg Prod.fst h, congrArg Prod.snd h⟩))
  have m1 : ∀ {x y : Nat}, Rc E1 x y → Rc E x y := Rc.mono fun x hx => hE ▸ List.mem_append_left _ (List.mem_append_left _ hx)
  have m2 : ∀ {x y : Nat}, Rc E2 x y → Rc E x y := Rc.mono fun x hx => hE ▸ List.mem_append_left _ (List.mem_append_right _ hx)
  have l1 : Rc E b p2 := .edge (hE ▸ List.mem_append_right _ (List.mem_cons_self ..))
  have l2 : Rc E q2 (b + 1) := .edge (hE ▸ List.mem_append_right _ (List.mem_cons_of_mem _ (List.mem_singleton.mpr rfl)))
  have pb := B.pr
  have qb := B.qr
  have toB : ∀ {x : Nat}, Rc E1 x b → x = b := fun {x} k => by
    generalize hb : b = c at k
    induction k with
    | refl _ => rfl
    | step e k ih =>
      have := ih hb
      exact absurd (this.trans hb.symm) (A.noIn _ _ e)
  have inA : ∀ {x y : Nat}, x ≠ b → x < mid → (Rc E x y ↔ y < mid ∧ Rc E1 x y) := fun {x y} hx hm => by
    refine ⟨fun k => k.shut (fun y => y < mid ∧ Rc E1 x y) (fun c d e z => ?_) ⟨hm, .refl _⟩, fun k => m1 k.2⟩
    rcases cases4 e with e | e | ⟨rfl, rfl⟩ | ⟨rfl, rfl⟩
    · exact ⟨(X.rng c d e).2.2, z.2.trans (.edge e)⟩
    · have := B.rng c d e
      omega
    · exact absurd (toB z.2) hx
    · omega
  have inB : ∀ {x y : Nat}, mid ≤ x → (Rc E x y ↔ (mid ≤ y ∧ Rc E2 x y) ∨ (y = b + 1 ∧ Rc E2 x q2)) := fun {x y} hm => by
    constructor
    · intro k
      refine k.shut (fun y => (mid ≤ y ∧ Rc E2 x y) ∨ (y = b + 1 ∧ Rc E2 x q2)) (fun c d e z => ?_) (.inl ⟨hm, .refl _⟩)
      rcases cases4 e with e | e | ⟨rfl, rfl⟩ | ⟨rfl, rfl⟩
      · have r := X.rng c d e
        rcases z with z | z
        · omega
        · exact absurd z.1 (A.noOut _ _ e)
      · have r := B.rng c d e
        rcases z with z | z
        · exact .inl ⟨r.2.1, z.2.trans (.edge e)⟩
        · omega
      · rcases z with z | z <;> omega
      · rcases z with z | z
        · exact .inr ⟨rfl, z.2⟩
        · omega
    · rintro (⟨_, k⟩ | ⟨rfl, k⟩)
      · exact m2 k
      · exact (m2 k).trans l2
  have inP : ∀ {y : Nat}, Rc E b y ↔ (y < mid ∧ Rc E1 b y) ∨ (mid ≤ y ∧ Rc E2 p2 y) ∨ (y = b + 1 ∧ Rc E2 p2 q2) := fun {y} => by
    constructor
    · intro k
      refine k.shut (fun y => (y < mid ∧ Rc E1 b y) ∨ (mid ≤ y ∧ Rc E2 p2 y) ∨ (y = b + 1 ∧ Rc E2 p2 q2)) (fun c d e z => ?_) (.inl ⟨by omega, .refl _⟩)
      rcases cases4 e with e | e | ⟨rfl, rfl⟩ | ⟨rfl, rfl⟩
      · have r := X.rng c d e
        rcases z with z | z | z
        · exact .inl ⟨r.2.2, z.2.trans (.edge e)⟩
        · omega
        · exact absurd z.1 (A.noOut _ _ e)
      · have r := B.rng c d e
        rcases z with z | z | z
        · omega
        · exact .inr (.inl ⟨r.2.1, z.2.trans (.edge e)⟩)
        · omega
      · exact .inr (.inl ⟨pb.1, .refl _⟩)
      · rcases z with z | z | z
        · omega
        · exact .inr (.inr ⟨rfl, z.2⟩)
        · omega
    · rintro (⟨_, k⟩ | ⟨_, k⟩ | ⟨rfl, k⟩)
      · exact m1 k
      · exact l1.trans (m2 k)
      · exact (l1.trans (m2 k)).trans l2
  have num : ∀ {i : Nat}, L1.length ≤ i → n + i = n + L1.length + (i - L1.length) := fun h => by omega
  refine ⟨⟨fun x y h => ?_, fun i x h => ?_, by omega, by omega, ?_, fun i x h => ?_, fun i x h => ?_, fun i j x y h k => ?_, fun m h => ?_, fun m h => ?_, fun m h => ?_⟩, fun x y h => ?_, fun x y h => ?_, fun i x h => ?_⟩
  · rcases cases4 h with e | e | ⟨rfl, rfl⟩ | ⟨rfl, rfl⟩
    · have := X.rng x y e
      omega
    · have := B.rng x y e
      omega
    · omega
    · omega
  · rcases at_app h with ⟨h, _⟩ | ⟨h, _⟩
    · have := X.lr i x h
      omega
    · have := B.lr _ x h
      omega
  · rw [inP]
    show _ ↔ (s1.e || s2.e) = true
    rw [Bool.or_eq_true, ← X.emp, ← B.emp]
    refine ⟨fun z => ?_, fun z => z.elim (fun z => .inl ⟨by omega, z⟩) (fun z => .inr (.inr ⟨rfl, z⟩))⟩
    rcases z with z | z | z
    · exact .inl z.2
    · omega
    · exact .inr z.2
  · rw [inP]
    show _ ↔ n + i ∈ s1.fs ++ s2.fs
    rw [List.mem_append]
    rcases at_app h with ⟨h, hq⟩ | ⟨h, hq⟩
    · have r := X.lr i x h
      have r2 := hl i x h
      rw [← X.fst i x h]
      refine ⟨fun z => ?_, fun z => z.elim (fun z => .inl ⟨by omega, z⟩) (fun z => ?_)⟩
      · rcases z with z | z | z
        · exact .inl z.2
        · omega
        · omega
      · have := B.bf _ z
        omega
    · have r := B.lr _ x h
      have c := B.fst _ x h
      rw [← num hq] at c
      rw [← c]
      refine ⟨fun z => ?_, fun z => z.elim (fun z => ?_) (fun z => .inr (.inl ⟨by omega, z⟩))⟩
      · rcases z with z | z | z
        · omega
        · exact .inr z.2
        · omega
      · have := X.bf _ z
        omega
  · show _ ↔ n + i ∈ s1.ls ++ s2.ls
    rw [List.mem_append]
    rcases at_app h with ⟨h, hq⟩ | ⟨h, hq⟩
    · have r := X.lr i x h
      have r2 := hl i x h
      rw [inA (by omega) (by omega), ← X.lst i x h]
      refine ⟨fun z => .inl z.2, fun z => z.elim (fun z => ⟨by omega, z⟩) (fun z => ?_)⟩
      have := B.bl _ z
      omega
    · have r := B.lr _ x h
      have c := B.lst _ x h
      rw [← num hq] at c
      rw [inB (by omega), ← c]
      refine ⟨fun z => ?_, fun z => z.elim (fun z => ?_) (fun z => .inr ⟨rfl, z⟩)⟩
      · rcases z with z | z
        · omega
        · exact .inr z.2
      · have := X.bl _ z
        omega
  · show _ ↔ (n + i, n + j) ∈ s1.ps ++ s2.ps
    rw [List.mem_append]
    rcases at_app h with ⟨h, hq⟩ | ⟨h, hq⟩
    · have r := X.lr i x h
      have r2 := hl i x h
      rw [inA (by omega) (by omega)]
      rcases at_app k with ⟨k, kq⟩ | ⟨k, kq⟩
      · have r' := X.lr j y k
        rw [← X.prs i j x y h k]
        refine ⟨fun z => .inl z.2, fun z => z.elim (fun z => ⟨by omega, z⟩) (fun z => ?_)⟩
        have := B.bp _ z
        omega
      · have r' := B.lr _ y k
        refine ⟨fun z => by omega, fun z => z.elim (fun z => ?_) (fun z => ?_)⟩
        · have := X.bp _ z
          omega
        · have := B.bp _ z
          omega
    · have r := B.lr _ x h
      rw [inB (by omega)]
      rcases at_app k with ⟨k, kq⟩ | ⟨k, kq⟩
      · have r' := X.lr j y k
        have r2 := hl j y k
        refine ⟨fun z => by omega, fun z => z.elim (fun z => ?_) (fun z => ?_)⟩
        · have := X.bp _ z
          omega
        · have := B.bp _ z
          omega
      · have r' := B.lr _ y k
        have c := B.prs _ _ x y h k
        rw [← num hq, ← num kq] at c
        rw [← c]
        refine ⟨fun z => ?_, fun z => z.elim (fun z => ?_) (fun z => .inl ⟨by omega, z⟩)⟩
        · rcases z with z | z
          · exact .inr z.2
          · omega
        · have := X.bp _ z
          omega
  · rw [List.length_append]
    rcases List.mem_append.mp h with z | z
    · have := X.bf _ z
      omega
    · have := B.bf _ z
      omega
  · rw [List.length_append]
    rcases List.mem_append.mp h with z | z
    · have := X.bl _ z
      omega
    · have := B.bl _ z
      omega
  · rw [List.length_append]
    rcases List.mem_append.mp h with z | z
    · have := X.bp _ z
      omega
    · have := B.bp _ z
      omega
  · rcases cases4 h with e | e | ⟨rfl, rfl⟩ | ⟨rfl, rfl⟩
    · exact A.noIn x y e
    · have := B.rng x y e
      omega
    · omega
    · omega
  · rcases cases4 h with e | e | ⟨rfl, rfl⟩ | ⟨rfl, rfl⟩
    · exact A.noOut x y e
    · have := B.rng x y e
      omega
    · omega
    · omega
  · rcases at_app h with ⟨h, _⟩ | ⟨h, _⟩
    · exact .inl (hl i x h)
    · have := B.lr _ x h
      exact .inl (by omega)
end
end Gr
namespace Es
open PySem PySem.Spec PyProof.Rows L2 Evl PpSet
/-- an empty set, just laid -/
abbrev newSetO (w : World) : Obj := { cls := .type "set", dict := none, data := .set #[] 0 (.fresh 0 0 (!w.params.followText "set-order")) }
theorem set_fresh {hp : Heap} (w : World) : SetR w (hp.push (newSetO w)) hp.objs.size (fun _ => false) 0 := by
  refine ⟨_, #[], 0, _, Heap.get?_push_size _ rfl, ⟨rfl, rfl, rfl⟩, rfl, (fun e he => by simp at he), by simp, (fun k => by simp), by decide, by rfl, rfl, List.Pairwise.nil, ?_⟩
  show _ ∨ (!w.params.followText "set-order") = true
  by_cases z : w.params.followText "set-order" = true
  · exact .inl z
  · rw [Bool.eq_false_iff.mpr z]
    exact .inr rfl
section
variable {X : Cx}
/-- a set of whole numbers takes one more -/
theorem add_int {pins : List (Addr × Obj)} {σ : L2.St} {H : Hp} {s : Shared} {E : Value → Shared → Prop} {D : Addr} {S : Int → Bool} {n : Nat} {k : Int} {tk : Tok} {Q : Value → Shared → Prop} (J : Inv X pins σ H s) (at_ : H D = some (SetO X.w D S n)) (room : n + 1 < scanBound)
    (go : ∀ s', Inv X pins σ (upd H D (SetO X.w D (fun j => S j || decide (j = k)) (if S k = true then n else n + 1))) s' → Q .none s') : wpAny (model X.prog X.w) X.A (call (.builtin "set.add") [.ref D, .int k tk]) Q E s := by
  refine setR_add (setO_get J at_) room fun hp' same new => go _ ?_
  obtain ⟨ob, _, _, _, hob, _⟩ := id new
  exact J.write (e := D) (t' := s.toks + 1) (by rw [at_]; trivial) (.inl rfl) (fun b u nb hu => (same.2 b nb).trans hu) ⟨ob, hob⟩ (setO_new new)
/-- {elt for target in iter if ..}, elt a whole number: D the new set -/
def tSi (w : World) (wi : TI) (g : TG) (tt : TT) (te : TE) (vs : List Nat) : TE := fun σ H Q => wi σ H fun It H1 => ∀ D, H1 D = none → ∃ W : Nat → Nat → Hp → Prop, (∃ m, W 0 m (upd H1 D (SetO w D (fun _ => false) 0))) ∧ ∀ i m H, W i m H →
  (It.stop i H ∧ Q (.ref D) H) ∨ (It.go i H ∧ ∃ Nx : Hp → Prop, (∀ H', Nx H' → ∃ m', m' < m ∧ W (i + 1) m' H') ∧ ∀ x H', It.yld i H x H' → g x (wipe σ vs) H' fun σ2 H2 => wipe σ2 vs = wipe σ vs ∧ tt σ2 H2 fun b H3 =>
    if b = true then te σ2 H3 fun y H4 => ∃ (k : Int) (S : Int → Bool) (n : Nat), y = .int k ∧ H4 D = some (SetO w D S n) ∧ n + 1 < scanBound ∧ Nx (upd H4 D (SetO w D (fun j => S j || decide (j = k)) (if S k = true then n else n + 1))) else Nx H3)
theorem pe_si {elt tg iter : Expr} {ifs : List Expr} {scope : Scope} {own : List (Str × Nat)} {pos : Pos} {wi : TI} {g : TG} {tt : TT} {te : TE} (calm : X.calm = true) (nd : X.N.Nodup) (walk : PI X tg iter wi) (blk : BlkOk X.N X.env.scope scope own)
    (pg : ∀ (s : Shared) (H : Hp) (C : Addr) (cl : List (Str × Addr)) (fp : List Addr), PG (X.blk s H scope (compEnvC scope cl C X.env) fp) tg g)
    (pt : ∀ (s : Shared) (H : Hp) (C : Addr) (cl : List (Str × Addr)) (fp : List Addr), PTs (X.blk s H scope (compEnvC scope cl C X.env) fp) ifs tt)
    (pe : ∀ (s : Shared) (H : Hp) (C : Addr) (cl : List (Str × Addr)) (fp : List Addr), PE (X.blk s H scope (compEnvC scope cl C X.env) fp) elt te) (plain : ∀ x, foldedSetIterable iter X.env x = pure x := by intro _; rfl) :
    PE X (.SetComp elt [⟨tg, iter, ifs, 0⟩] scope pos) (tSi X.w wi g tt te (own.map (·.2))) := by
  refine ⟨fun pins s σ H Q I0 wish => ?_⟩
  rw [eval_SetComp]
  have free : ∀ y ∈ scope.names, y.2 = .free → ∃ c, X.env.cells.lookup y.1 = some c := fun y hy e => (blk.free y hy e).elim (fun k => I0.ok.has _ (.inl k)) fun k => I0.ok.has _ (.inr k)
  refine wpAny_comprehension_free rfl plain (closure_ok free) blk.kind (fun y hy e => by rw [blk.uniq y hy, e]) (thn (walk.run pins s σ H _ I0 wish) fun xv sA hx => thn hx fun itv sB h2 => ?_)
  obtain ⟨it, fp, tn, It, HB, eit, IB, Tn, stB, fB, q⟩ := h2
  subst eit
  refine newSet_ok (newEnv_comp ?_)
  have freshD : HB sB.heap.objs.size = none := IB.hok.fresh (Nat.le_refl _)
  obtain ⟨W, ⟨m0, w0⟩, turn⟩ := q _ freshD
  generalize dD : sB.heap.objs.size = D at freshD turn w0
  generalize dC : ({ sB with heap := sB.heap.push (newSetO X.w) } : Shared) = sC
  have hC : sC.heap = sB.heap.push (newSetO X.w) := by rw [← dC]
  have IC : Inv X pins σ (upd HB D (SetO X.w D (fun _ => false) 0)) sC := by
    subst dC dD
    exact IB.laid (t' := sB.toks) (fun b o e => Heap.get?_push_of_some _ e) (Nat.le_refl _) (setO_new (set_fresh X.w))
  have below : ∀ b ∈ fp, b < sB.heap.objs.size := fun b hb => by
    obtain ⟨o, e, _⟩ := Tn.obj _ _ stB b hb
    exact Heap.lt_size e
  have fC : ∀ b ∈ fp, FpOk X pins (upd HB D (SetO X.w D (fun _ => false) 0)) b ∧ b < sC.heap.objs.size := fun b hb => by
    have lt := below b hb
    refine ⟨⟨?_, (fB b hb).2⟩, ?_⟩
    · rw [upd_ne (Nat.ne_of_lt (dD ▸ lt))]
      exact (fB b hb).1
    · rw [hC, Heap.size_push]
      exact Nat.lt_succ_of_lt lt
  have stC : tn 0 sC.heap := Tn.keep _ _ _ stB fun b _ o e => by rw [hC]; exact Heap.get?_push_of_some _ e
  have ID := block_start IC blk nd fC
  have noneC : ∀ b ∈ fp, (upd HB D (SetO X.w D (fun _ => false) 0)) b = none := fun b hb => (fC b hb).1.1
  generalize upd HB D (SetO X.w D (fun _ => false) 0) = HC at IC fC ID noneC w0
  have pg' := pg sC HC sC.heap.objs.size (cellsFrom (sC.heap.objs.size + 1) scope.names (cloFrom X.env.cells scope.names [])) fp
  have pt' := pt sC HC sC.heap.objs.size (cellsFrom (sC.heap.objs.size + 1) scope.names (cloFrom X.env.cells scope.names [])) fp
  have pe' := pe sC HC sC.heap.objs.size (cellsFrom (sC.heap.objs.size + 1) scope.names (cloFrom X.env.cells scope.names [])) fp
  show codeAny _ _ (.compStart (.SetComp elt [⟨tg, iter, ifs, 0⟩] scope pos) 0 (.ref it) (.ref D) (compEnvC scope (cellsFrom (sC.heap.objs.size + 1) scope.names (cloFrom X.env.cells scope.names [])) sC.heap.objs.size X.env)) _ { sC with heap := pushCells (sC.heap.push { cls := .type "dict", data := .dict #[] }) scope.names }
  generalize dE : compEnvC scope (cellsFrom (sC.heap.objs.size + 1) scope.names (cloFrom X.env.cells scope.names [])) sC.heap.objs.size X.env = ce at ID pg' pt' pe' ⊢
  have loc : ce.locals = sC.heap.objs.size := by subst dE; rfl
  generalize dS : ({ sC with heap := pushCells (sC.heap.push { cls := .type "dict", data := .dict #[] }) scope.names } : Shared) = sD at ID ⊢
  have stD : tn 0 sD.heap := Tn.keep _ _ _ stC fun b _ o e => by rw [← dS]; exact pushCells_keeps _ _ _ _ (Heap.get?_push_of_some _ e)
  have own_ : ∀ {σ' : L2.St} {H' : Hp} {s' : Shared}, Inv (X.blk sC HC scope ce fp) [] σ' H' s' → (∀ b ∈ fp, H' b = none) → ∀ b ∈ fp, FpOk (X.blk sC HC scope ce fp) [] H' b := fun {σ' H' s'} J hn b hb =>
    ⟨hn b hb, (J.ok.exf b hb).1, J.ok.exfs b hb, .inl hb, fun x c e => (J.ok.exf b hb).2 x c e, fun p hp => absurd (show p ∈ ([] : List (Addr × Obj)) ++ [] from hp) (by simp)⟩
  refine (fun loop => codeAny_compStart_set loop (Tn.self X.A 0 _ _ _ stD loop) : codeAny (model X.prog X.w) X.A (.compLoop (.SetComp elt [⟨tg, iter, ifs, 0⟩] scope pos) 0 (.ref it) (.ref D) ce) _ sD → _) ?_
  refine compLoopS_any (fun n s' => ∃ i H', Inv (X.blk sC HC scope ce fp) [] (wipe σ (own.map (·.2))) H' s' ∧ tn i s'.heap ∧ (∀ b ∈ fp, H' b = none) ∧ W i n H') ?_ m0 ⟨0, HC, ID, stD, noneC, w0⟩
  rintro n sE ⟨i, HE, IE, stE, nE, wE⟩
  rcases turn i n HE wE with ⟨stop, done⟩ | ⟨go, Nx, less, step⟩
  · -- no item is left
    refine thnF (Tn.done (X.blk sC HC scope ce fp) rfl rfl rfl calm i [] sE _ HE (fun _ _ => False) IE (own_ IE nE) stE stop) ?_
    rintro r sF ⟨rfl, JF⟩
    have back : Inv X pins σ HE sF := IC.call' (ch := fp) JF.os JF.base JF.hok JF.bare fun b hb => ⟨(fC b hb).1.2.2.2.1, (fC b hb).1.2.1, (fC b hb).1.2.2.2.2.1, (fC b hb).1.2.2.2.2.2⟩
    have lfree : HE sC.heap.objs.size = none := by
      rw [← loc]
      exact JF.free
    obtain ⟨m, ns, _⟩ := JF.loc
    have ns' : sF.heap.Ns sC.heap.objs.size m := by
      rw [← loc]
      exact ns
    obtain ⟨z0, z1, z2, z3, z4, z5⟩ := IC.fpOk (Nat.le_refl _) lfree
    exact ⟨m, ns', fun hp'' sb => ⟨.ref D, HE, back.turned (t' := sF.toks) (fun b o hb e => (sb.2 b hb).trans e) z0 z1 z3 z4 z5, rfl, done⟩⟩
  · -- one more item
    refine thnF (Tn.item (X.blk sC HC scope ce fp) rfl rfl rfl calm i [] sE _ HE (fun _ _ => False) IE (own_ IE nE) stE go) ?_
    rintro r sF ⟨u, rfl, hF⟩
    refine thnF hF fun _ sG ⟨x, HG, IG, rG, yG, stG, nG⟩ => ?_
    have pinned := IG.pinned (own_ IG nG) (Tn.obj _ _ stG)
    refine thnF (pg'.run _ sG _ HG x u _ pinned rG (step x HG yG)) fun _ sH ⟨σH, HH, IH, wiped, qH⟩ => ?_
    refine thnF (pt'.run _ sH σH HH _ IH qH) fun b sI ⟨HI, II, qI⟩ => ?_
    have next : ∀ {s' : Shared} {H' : Hp}, Inv (X.blk sC HC scope ce fp) ([] ++ pinsAt fp sG.heap) σH H' s' → Nx H' → ∃ m, m < n ∧ ∃ i H', Inv (X.blk sC HC scope ce fp) [] (wipe σ (own.map (·.2))) H' s' ∧ tn i s'.heap ∧ (∀ b ∈ fp, H' b = none) ∧ W i m H' := by
      intro s' H' J nx
      obtain ⟨m', lt, w'⟩ := less H' nx
      have kept : ∀ b ∈ fp, ∀ o, sG.heap.get? b = some o → s'.heap.get? b = some o ∧ H' b = none := fun b hb o e => by
        have z := J.pin (b, o) (List.mem_append_right _ (List.mem_append_right _ (mem_pinsAt hb e)))
        exact ⟨z.1, z.2.1⟩
      have len : (wipe σ (own.map (·.2))).length = σH.length := by rw [← wiped, wipe_length]
      refine ⟨m', lt, i + 1, H', (J.unpinned (pins := [])).weak len (fun j v e => ?_), Tn.keep _ _ _ stG fun b hb o e => (kept b hb o e).1, fun b hb => ?_, w'⟩
      · rw [← wiped] at e
        exact (wipe_some e).1
      · obtain ⟨o, e, _⟩ := Tn.obj _ _ stG b hb
        exact (kept b hb o e).2
    cases b with
    | false =>
      simp only [Bool.false_eq_true, if_false] at qI ⊢
      exact next II qI
    | true =>
      simp only [if_true] at qI ⊢
      refine thnF (pe'.run _ sI σH HI _ II qI) ?_
      rintro z sJ ⟨yv, HJ, IJ, rJ, k, S, c, rfl, hS, room, nx⟩
      obtain ⟨tk, rfl⟩ := rJ
      exact add_int (X := X.blk sC HC scope ce fp) IJ hS room fun sK IK => next IK nx
end
end Es
namespace PyProof.Rows
open PySem
section
variable {prog : Program} {w : World} {A : Around} {E : Value → Shared → Prop} {s : Shared}
/-- the items of a tuple, gathered into a new list -/
theorem gather_tup {t : Addr} {us : List Value} {Q : List Value → Shared → Prop} (ht : s.heap.IsTuple t us.toArray) (few : us.length ≤ sizeLine)
    (z : Q us { s with heap := (s.heap.push (seqObj "list" #[] 0)).update s.heap.objs.size (Obj.mapSeq (· ++ us.toArray)) }) : wpAny (model prog w) A (collect (.ref t)) Q E s := by
  obtain ⟨ob, at_, cl, k, da⟩ := id ht
  unfold collect
  refine wpAny_bind (wpAny_runValue (codeAny_builtin entry_proto_collect' ?_))
  show wpAny _ _ (do again (.builtin "list.__iadd__" ⟨[← newList [], .ref t], []⟩)) _ _ s
  refine wpAny_bind (wpAny_newList (wpAny_pure ⟨Code.quiet_builtin _ (by decide +kernel), codeAny_builtin entry_list_iadd' ?_⟩))
  show wpAny _ _ (Builtin.List.listExtendWith (.ref s.heap.objs.size) (.ref t) (.ref s.heap.objs.size)) _ _ { s with heap := s.heap.push (seqObj "list" #[] 0) }
  unfold Builtin.List.listExtendWith
  have still : (s.heap.push (seqObj "list" #[] 0)).get? t = some ob := Heap.get?_push_of_some _ at_
  refine wpAny_bind (wpAny_typeOf (T := "tuple") ⟨ob, still, cl⟩ ?_)
  rw [if_pos (by rw [show (Value.type "tuple" == Value.type "tuple") = true from rfl, Bool.or_true])]
  refine wpAny_bind (listItems_at still da ?_)
  refine wpAny_bind (listItems_at (xs := #[]) (n := 0) (Heap.get?_push_size _ rfl) rfl ?_)
  rw [if_neg (by simp)]
  refine wpAny_bind (listUpdate_at (xs := #[]) (n := 0) (Heap.get?_push_size _ rfl) rfl ?_ (Nat.zero_le _) ?_)
  · refine wpAny_pure ?_
    show wpAny (model prog w) A (load s.heap.objs.size >>= fun o => match o.data with | .seq xs _ => pure xs.toList | _ => unsupported "internal:collect") Q E _
    refine wpAny_bind (wpAny_load (get?_update_seq (Heap.get?_push_size _ rfl) _) ?_)
    show wpAny _ _ (pure ((#[] : Array Value) ++ us.toArray).toList) Q E _
    rw [show ((#[] : Array Value) ++ us.toArray).toList = us by simp]
    exact wpAny_pure z
  · show (#[] ++ us.toArray).size ≤ sizeLine + 1
    simp only [Array.size_append, List.size_toArray, List.length_nil]
    omega
theorem sorted_tup {t : Addr} {us : List Value} {ns : List Int} {Q : Value → Shared → Prop} (ht : s.heap.IsTuple t us.toArray) (hii : IntsAre us ns) (few : us.length < 64)
    (z : ∀ (out : Array Value) (ms : List Int), IntsAre out.toList ms → ms.Perm ns → ms.Pairwise (· ≤ ·) → Q (.ref (s.heap.objs.size + 1)) { s with heap := sortedAll s.heap us out }) :
    wpAny (model prog w) A (call (.builtin "sorted") [.ref t]) Q E s := by
  have line : us.length ≤ sizeLine := Nat.le_trans (Nat.le_of_lt few) (by decide)
  refine Calls.call_function_entry kind_sorted plain_sorted entry_sorted (args_sorted1 _) ?_
  unfold Builtin.«sorted»
  refine wpAny_bind (m := checkCount "sorted" 1 1 _) (wpAny_pure ?_)
  refine wpAny_bind (gather_tup ht line ?_)
  refine wpAny_bind (wpAny_newList ?_)
  have one : ((s.heap.push (seqObj "list" #[] 0)).update s.heap.objs.size (Obj.mapSeq (· ++ us.toArray))).objs.size = s.heap.objs.size + 1 := by
    rw [Heap.size_update, size_push']
  have there : (((s.heap.push (seqObj "list" #[] 0)).update s.heap.objs.size (Obj.mapSeq (· ++ us.toArray))).push (seqObj "list" us.toArray 0)).get? (s.heap.objs.size + 1) = some (seqObj "list" us.toArray 0) := by
    rw [← one]
    exact Heap.get?_push_size _ rfl
  show wpAny _ _ _ _ _ { s with heap := ((s.heap.push (seqObj "list" #[] 0)).update s.heap.objs.size (Obj.mapSeq (· ++ us.toArray))).push (seqObj "list" us.toArray 0) }
  rw [one]
  refine wpAny_bind (wpAny_holding (wpAny_call_entry slot_list_sort ⟨_, there, rfl⟩ entry_list_sort (list_sort_tree there hii few fun out ms b1 b2 b3 => ⟨_, rfl, ?_⟩) (args_list_sort _)))
  exact wpAny_pure ⟨_, rfl, z out ms b1 b2 b3⟩
end
end PyProof.Rows
namespace Es
open PySem PySem.Spec PyProof.Rows L2 Evl
section
variable {X : Cx}
/-- sorted(a tuple of whole numbers) -/
def rSortTup (K : PySem.W.Frag) : List V → Hp → VK → Prop := fun xs H Q => ∃ (a : Addr) (ns : List Int), xs = [.ref a] ∧ SqT K H a (ns.map V.int) ∧ ns.length < 64 ∧
  ∀ (ms : List Int) (p : Addr), ms.Perm ns → ms.Pairwise (· ≤ ·) → H p = none → Q (.ref p) (upd H p (.lst (ms.map V.int)))
theorem cr_sortTup : CallR X (.builtin "sorted") (rSortTup X.K) := by
  intro pins s σ H xs us Q I r h
  obtain ⟨a, ns, rfl, hq, few, q⟩ := h
  obtain ⟨u, rfl, ru⟩ := vals1 r
  obtain rfl : u = Value.ref a := ru
  obtain ⟨its, rv, ht, _⟩ := I.tuple hq
  have hii := rv.ints
  refine sorted_tup ht hii (by rw [hii.length]; exact few) fun out ms b1 b2 b3 => ?_
  obtain ⟨ep, old⟩ := sortedAll_at s.heap its out
  refine ⟨.ref _, upd H (s.heap.objs.size + 1) (.lst (ms.map V.int)), I.laid (t' := s.toks) (fun _ _ => sortedAll_old) (Nat.le_succ _) ⟨?_, out.toList, ep, vals_of_ints b1, old⟩, rfl, q ms _ b2 b3 (I.hok.fresh (Nat.le_succ _))⟩
  rw [List.length_map, b2.length_eq]
  exact sz_of (by omega)
end
end Es
namespace Es
open PySem PySem.Spec PyProof.Rows L2 Evl
/-! shapes as they stand in the heap -/
def nums (ns : List Nat) : List V := ns.map fun (n : Nat) => V.int (n : Int)
theorem nums_len (ns : List Nat) : (nums ns).length = ns.length := List.length_map ..
theorem nums_app (a b : List Nat) : nums a ++ nums b = nums (a ++ b) := List.map_append.symm
inductive PrAll (H : Hp) : List V → List (Nat × Nat) → Prop
  | nil : PrAll H [] []
  | cons {c : Addr} {a b : Nat} {vs : List V} {ps : List (Nat × Nat)} : H c = some (.tup [.int (a : Int), .int (b : Int)]) → PrAll H vs ps → PrAll H (.ref c :: vs) ((a, b) :: ps)
section
variable {H H' : Hp}
theorem PrAll.up (e : Ex H H') : ∀ {vs : List V} {ps : List (Nat × Nat)}, PrAll H vs ps → PrAll H' vs ps
  | _, _, .nil => .nil
  | _, _, .cons h r => .cons (e _ _ h) (PrAll.up e r)
theorem PrAll.app : ∀ {vs ws : List V} {ps qs : List (Nat × Nat)}, PrAll H vs ps → PrAll H ws qs → PrAll H (vs ++ ws) (ps ++ qs)
  | _, _, _, _, .nil, h => h
  | _, _, _, _, .cons h r, k => .cons h (PrAll.app r k)
theorem PrAll.length : ∀ {vs : List V} {ps : List (Nat × Nat)}, PrAll H vs ps → vs.length = ps.length
  | _, _, .nil => rfl
  | _, _, .cons _ r => by rw [List.length_cons, List.length_cons, PrAll.length r]
theorem PrAll.get : ∀ {vs : List V} {ps : List (Nat × Nat)} {i : Nat} {v : V}, PrAll H vs ps → vs[i]? = some v → ∃ c a b, v = .ref c ∧ ps[i]? = some (a, b) ∧ H c = some (.tup [.int (a : Int), .int (b : Int)])
  | _, _, 0, _, .cons h _, e => by cases e; exact ⟨_, _, _, rfl, rfl, h⟩
  | _, _, i + 1, _, .cons _ r, e => PrAll.get (i := i) r e
theorem PrAll.mutL {l : Addr} {xs ys : List V} (hl : H l = some (.lst xs)) : ∀ {vs : List V} {ps : List (Nat × Nat)}, PrAll H vs ps → PrAll (upd H l (.lst ys)) vs ps
  | _, _, .nil => .nil
  | _, _, .cons h r => .cons (by rw [upd_ne (ne_of h hl (by intro z; cases z))]; exact h) (PrAll.mutL hl r)
end
def flds (e : Bool) (f l p : Addr) : List (Str × V) := [("empty", .bl e), ("firsts", .ref f), ("lasts", .ref l), ("pairs", .ref p)]
theorem put4 (e : Bool) (f l p : Addr) : putF "pairs" (.ref p) (putF "lasts" (.ref l) (putF "firsts" (.ref f) (putF "empty" (.bl e) []))) = flds e f l p := rfl
theorem fld_p (e : Bool) (f l p : Addr) : (flds e f l p).lookup ("pairs" : Str) = some (V.ref p) := by
  rw [← put4, lookup_putF, if_pos rfl]
theorem fld_l (e : Bool) (f l p : Addr) : (flds e f l p).lookup ("lasts" : Str) = some (V.ref l) := by
  rw [← put4, lookup_putF, if_neg (by decide), lookup_putF, if_pos rfl]
theorem fld_f (e : Bool) (f l p : Addr) : (flds e f l p).lookup ("firsts" : Str) = some (V.ref f) := by
  rw [← put4, lookup_putF, if_neg (by decide), lookup_putF, if_neg (by decide), lookup_putF, if_pos rfl]
theorem fld_e (e : Bool) (f l p : Addr) : (flds e f l p).lookup ("empty" : Str) = some (V.bl e) := by
  rw [← put4, lookup_putF, if_neg (by decide), lookup_putF, if_neg (by decide), lookup_putF, if_neg (by decide), lookup_putF, if_pos rfl]
/-- a shape -/
def ShAt (C : Addr) (H : Hp) (v : V) (s : Gr.Shp) : Prop := ∃ (a dx f l p : Addr) (pv : List V), v = .ref a ∧ H a = some (.ins C dx (flds s.e f l p)) ∧ H f = some (.tup (nums s.fs)) ∧ H l = some (.tup (nums s.ls)) ∧ H p = some (.tup pv) ∧ PrAll H pv s.ps
theorem ShAt.up {C : Addr} {H H' : Hp} {v : V} {s : Gr.Shp} (h : ShAt C H v s) (e : Ex H H') : ShAt C H' v s := by
  obtain ⟨a, dx, f, l, p, pv, h1, h2, h3, h4, h5, h6⟩ := h
  exact ⟨a, dx, f, l, p, pv, h1, e _ _ h2, e _ _ h3, e _ _ h4, e _ _ h5, h6.up e⟩
inductive ShAll (C : Addr) (H : Hp) : List V → List Gr.Shp → Prop
  | nil : ShAll C H [] []
  | cons {v : V} {vs : List V} {s : Gr.Shp} {ss : List Gr.Shp} : ShAt C H v s → ShAll C H vs ss → ShAll C H (v :: vs) (s :: ss)
section
variable {C : Addr} {H H' : Hp}
theorem ShAll.up (e : Ex H H') : ∀ {vs : List V} {ss : List Gr.Shp}, ShAll C H vs ss → ShAll C H' vs ss
  | _, _, .nil => .nil
  | _, _, .cons h r => .cons (h.up e) (ShAll.up e r)
theorem ShAll.app : ∀ {vs ws : List V} {ss us : List Gr.Shp}, ShAll C H vs ss → ShAll C H ws us → ShAll C H (vs ++ ws) (ss ++ us)
  | _, _, _, _, .nil, h => h
  | _, _, _, _, .cons h r, k => .cons h (ShAll.app r k)
theorem ShAll.length : ∀ {vs : List V} {ss : List Gr.Shp}, ShAll C H vs ss → vs.length = ss.length
  | _, _, .nil => rfl
  | _, _, .cons _ r => by rw [List.length_cons, List.length_cons, ShAll.length r]
theorem ShAt.mutL {l : Addr} {xs ys : List V} (hl : H l = some (.lst xs)) {v : V} {s : Gr.Shp} (h : ShAt C H v s) : ShAt C (upd H l (.lst ys)) v s := by
  obtain ⟨a, dx, f, q, p, pv, h1, h2, h3, h4, h5, h6⟩ := h
  have ne : ∀ {b : Addr} {o : HO}, H b = some o → o ≠ .lst xs → upd H l (.lst ys) b = some o := fun hb hn => by
    rw [upd_ne (ne_of hb hl hn)]
    exact hb
  exact ⟨a, dx, f, q, p, pv, h1, ne h2 (by intro z; cases z), ne h3 (by intro z; cases z), ne h4 (by intro z; cases z), ne h5 (by intro z; cases z), h6.mutL hl⟩
theorem ShAll.mutL {l : Addr} {xs ys : List V} (hl : H l = some (.lst xs)) : ∀ {vs : List V} {ss : List Gr.Shp}, ShAll C H vs ss → ShAll C (upd H l (.lst ys)) vs ss
  | _, _, .nil => .nil
  | _, _, .cons h r => .cons (h.mutL hl) (ShAll.mutL hl r)
theorem ShAll.get : ∀ {vs : List V} {ss : List Gr.Shp} {i : Nat} {v : V}, ShAll C H vs ss → vs[i]? = some v → ∃ s, ss[i]? = some s ∧ ShAt C H v s
  | _, _, 0, _, .cons h _, e => ⟨_, rfl, by cases e; exact h⟩
  | _, _, i + 1, _, .cons _ r, e => ShAll.get (i := i) r e
theorem ShAll.drop : ∀ {vs : List V} {ss : List Gr.Shp} (i : Nat), ShAll C H vs ss → ShAll C H (vs.drop i) (ss.drop i)
  | _, _, 0, h => h
  | _, _, _ + 1, .nil => .nil
  | _, _, i + 1, .cons _ r => ShAll.drop i r
end
/-! evaluations that give shapes, and tuples of pairs -/
section
variable {K : PySem.W.Frag} {σ : L2.St} {H : Hp} {te tf t1 t2 t3 t4 : TE} {ta : TA} {C : Addr} {s : Gr.Shp}
def EvH (C : Addr) (te : TE) (σ : L2.St) (H : Hp) (s : Gr.Shp) : Prop := ∀ H1, Ex H H1 → ∀ Q : VK, (∀ v H2, Ex H1 H2 → ShAt C H2 v s → Q v H2) → te σ H1 Q
def EvR (te : TE) (σ : L2.St) (H : Hp) (ps : List (Nat × Nat)) : Prop := ∀ H1, Ex H H1 → ∀ Q : VK, (∀ p pv H2, Ex H1 H2 → H2 p = some (.tup pv) → PrAll H2 pv ps → Q (.ref p) H2) → te σ H1 Q
theorem ew_if {t : TT} {b : Bool} {xs : List V} (h : EvT t σ H b) (h1 : b = true → EvW te σ H xs) (h2 : b = false → EvW tf σ H xs) : EvW (tIf t te tf) σ H xs := fun H1 e Q q => h H1 e _ fun H2 e2 => by
  cases b with
  | true => exact h1 rfl H2 (e.trans e2) Q fun p H3 e3 hp => q p H3 (e2.trans e3) hp
  | false => exact h2 rfl H2 (e.trans e2) Q fun p H3 e3 hp => q p H3 (e2.trans e3) hp
theorem ev_fe {i : Nat} {v : V} (h : σ[i]? = some (some v)) (hs : ShAt C H v s) (c : Cls K C) (n : NoAttr K C "empty") : Ev (tFld K (tVar i) "empty") σ H (.bl s.e) := fun H1 e Q q => by
  obtain ⟨a, dx, f, l, p, pv, rfl, h2, h3, h4, h5, h6⟩ := hs.up e
  exact ⟨_, h, a, C, dx, _, _, rfl, h2, c, n, fld_e _ _ _ _, q H1 (Ex.refl _)⟩
theorem ew_ff {i : Nat} {v : V} (h : σ[i]? = some (some v)) (hs : ShAt C H v s) (c : Cls K C) (n : NoAttr K C "firsts") : EvW (tFld K (tVar i) "firsts") σ H (nums s.fs) := fun H1 e Q q => by
  obtain ⟨a, dx, f, l, p, pv, rfl, h2, h3, h4, h5, h6⟩ := hs.up e
  exact ⟨_, h, a, C, dx, _, _, rfl, h2, c, n, fld_f _ _ _ _, q f H1 (Ex.refl _) h3⟩
theorem ew_fl {i : Nat} {v : V} (h : σ[i]? = some (some v)) (hs : ShAt C H v s) (c : Cls K C) (n : NoAttr K C "lasts") : EvW (tFld K (tVar i) "lasts") σ H (nums s.ls) := fun H1 e Q q => by
  obtain ⟨a, dx, f, l, p, pv, rfl, h2, h3, h4, h5, h6⟩ := hs.up e
  exact ⟨_, h, a, C, dx, _, _, rfl, h2, c, n, fld_l _ _ _ _, q l H1 (Ex.refl _) h4⟩
theorem er_f {i : Nat} {v : V} (h : σ[i]? = some (some v)) (hs : ShAt C H v s) (c : Cls K C) (n : NoAttr K C "pairs") : EvR (tFld K (tVar i) "pairs") σ H s.ps := fun H1 e Q q => by
  obtain ⟨a, dx, f, l, p, pv, rfl, h2, h3, h4, h5, h6⟩ := hs.up e
  exact ⟨_, h, a, C, dx, _, _, rfl, h2, c, n, fld_p _ _ _ _, q p pv H1 (Ex.refl _) h5 h6⟩
theorem er_var {i : Nat} {p : Addr} {pv : List V} {ps : List (Nat × Nat)} (h : σ[i]? = some (some (.ref p))) (hp : H p = some (.tup pv)) (hr : PrAll H pv ps) : EvR (tVar i) σ H ps := fun H1 e Q q => ⟨_, h, q p pv H1 (Ex.refl _) (e _ _ hp) (hr.up e)⟩
theorem er_cat {ps qs : List (Nat × Nat)} (h : EvR te σ H ps) (k : EvR tf σ H qs) (hl : ps.length + qs.length ≤ 100000) : EvR (tOp (rCatA K) te tf) σ H (ps ++ qs) := fun H1 e Q q =>
  h H1 e _ fun a av H2 e2 ha hav => k H2 (e.trans e2) _ fun b bv H3 e3 hb hbv => cat_join (e3 _ _ ha) hb (by rw [hav.length, hbv.length]; exact hl) fun c H4 e4 hc => q c _ H4 ((e2.trans e3).trans e4) hc (((hav.up e3).app hbv).up e4)
theorem er_nil : EvR (tTup tNil) σ H [] := fun H1 e Q q => ⟨sz_of (by decide), fun p np => q p [] _ (Ex.new np) upd_same .nil⟩
theorem ew_one {i : Nat} {n : Nat} (h : σ[i]? = some (some (.int (n : Int)))) : EvW (tTup (tCons (tVar i) tNil)) σ H (nums [n]) := ew_u (eu_tup (ea_cons (ev_var h) ea_nil) (by show 1 ≤ 100000; decide))
/-- what __init__ promises -/
def spShI (C : Addr) : Sp := fun vs H Q _ => ∃ (x dx f l p : Addr) (e : Bool), vs = [.ref x, .bl e, .ref f, .ref l, .ref p] ∧ H x = some (.ins C dx []) ∧ ∀ H', (∀ b o, b ≠ x → H b = some o → H' b = some o) → H' x = some (.ins C dx (flds e f l p)) → Q .non H'
/-- Shape(..) -/
theorem eh_make {e : Bool} {fs ls : List Nat} {ps : List (Nat × Nat)} (h1 : Ev t1 σ H (.bl e)) (h2 : EvW t2 σ H (nums fs)) (h3 : EvW t3 σ H (nums ls)) (h4 : EvR t4 σ H ps) : EvH C (tMake C (spShI C) [] E0 (tCons t1 (tCons t2 (tCons t3 (tCons t4 tNil))))) σ H ⟨e, fs, ls, ps⟩ := by
  intro H1 e1 Q q
  refine h1 H1 e1 _ fun H2 e2 => h2 H2 (e1.trans e2) _ fun f H3 e3 hf => h3 H3 ((e1.trans e2).trans e3) _ fun l H4 e4 hl => h4 H4 (((e1.trans e2).trans e3).trans e4) _ fun p pv H5 e5 hp hr => ?_
  intro x dx nx ndx ne
  refine ⟨x, dx, f, l, p, e, rfl, upd_same, fun H' keep hx => ⟨rfl, ?_⟩⟩
  have e6 : Ex H5 H' := fun b o hb => keep b o (ne_of_none hb nx) (by rw [upd_ne (ne_of_none hb nx), upd_ne (ne_of_none hb ndx)]; exact hb)
  exact q _ H' ((((e2.trans e3).trans e4).trans e5).trans e6) ⟨x, dx, f, l, p, pv, rfl, hx, e6 _ _ (e5 _ _ (e4 _ _ hf)), e6 _ _ (e5 _ _ hl), e6 _ _ hp, hr.up e6⟩
theorem s_retH {D : Ends} (h : EvH C te σ H s) (k : ∀ v H1, Ex H H1 → ShAt C H1 v s → D.rt v H1) : tRet te D σ H := h H (Ex.refl H) _ k
theorem q_asgH {D : Ends} {tz : TS} {i : Nat} (h : EvH C te σ H s) (k : ∀ v H1, Ex H H1 → ShAt C H1 v s → tz D (σ.set i (some v)) H1) : tSeq (tAsg te (gName i)) tz D σ H := h H (Ex.refl H) _ k
theorem q_asgR {D : Ends} {tz : TS} {i : Nat} {ps : List (Nat × Nat)} (h : EvR te σ H ps) (k : ∀ p pv H1, Ex H H1 → H1 p = some (.tup pv) → PrAll H1 pv ps → tz D (σ.set i (some (.ref p))) H1) : tSeq (tAsg te (gName i)) tz D σ H := h H (Ex.refl H) _ k
/-- promises that give shapes and pairs -/
def SpH (C : Addr) (sp : Sp) (vs : List V) (H : Hp) (s : Gr.Shp) : Prop := ∀ H1, Ex H H1 → ∀ Q : VK, (∀ v H2, Ex H1 H2 → ShAt C H2 v s → Q v H2) → ∀ E : XK, sp vs H1 Q E
theorem eh_call {sp : Sp} {vs : List V} (h : EvA ta σ H vs) (hs : SpH C sp vs H s) : EvH C (tCall sp [] E0 ta) σ H s := fun H1 e Q q =>
  h H1 e _ fun H2 e2 => by
    rw [List.append_nil]
    exact hs H2 (e.trans e2) Q (fun v H3 e3 h3 => q v H3 (e2.trans e3) h3) E0
def spCross : Sp := fun vs H Q _ => ∃ (l f : Addr) (ls fs : List Nat), vs = [.ref l, .ref f] ∧ H l = some (.tup (nums ls)) ∧ H f = some (.tup (nums fs)) ∧ ls.length ≤ 100 ∧ fs.length ≤ 100 ∧
  ∀ p pv H', Ex H H' → H' p = some (.tup pv) → PrAll H' pv (Gr.cross ls fs) → Q (.ref p) H'
theorem er_cross {ls fs : List Nat} (h : EvW te σ H (nums ls)) (k : EvW tf σ H (nums fs)) (h1 : ls.length ≤ 100) (h2 : fs.length ≤ 100) : EvR (tCall spCross [] E0 (tCons te (tCons tf tNil))) σ H (Gr.cross ls fs) := fun H1 e Q q =>
  h H1 e _ fun l H2 e2 hl => k H2 (e.trans e2) _ fun f H3 e3 hf => ⟨l, f, ls, fs, rfl, e3 _ _ hl, hf, h1, h2, fun p pv H4 e4 hp hr => q p pv H4 ((e2.trans e3).trans e4) hp hr⟩
end
end Es
namespace Es
open PySem PySem.Spec PyProof.Rows L2 Evl
/-- a walk, whatever is done at each turn -/
theorem walkW {J : It} {n : Nat} {G : Hp → Prop} {Y : Nat → Hp → V → Hp → Prop} (w : Walk J n G Y) {H0 : Hp} {Qd : Hp → Prop} {Body : V → Hp → (Hp → Prop) → Prop} (Pv : Nat → Hp → Prop) (h0 : Pv 0 H0) (hG : ∀ i H, i ≤ n → Pv i H → G H)
    (turn : ∀ i x H H', i < n → Pv i H → Y i H x H' → Body x H' (Pv (i + 1))) (hd : ∀ H, Pv n H → Qd H) :
    ∃ W : Nat → Nat → Hp → Prop, (∃ m, W 0 m H0) ∧ ∀ i m H, W i m H → (J.stop i H ∧ Qd H) ∨ (J.go i H ∧ ∃ Nx : Hp → Prop, (∀ H', Nx H' → ∃ m', m' < m ∧ W (i + 1) m' H') ∧ ∀ x H', J.yld i H x H' → Body x H' Nx) := by
  refine ⟨fun i m H => i ≤ n ∧ m + i = n ∧ Pv i H, ⟨n, Nat.zero_le _, rfl, h0⟩, ?_⟩
  rintro i m H ⟨le, hm, pv⟩
  have g := hG i H le pv
  rcases Nat.lt_or_ge i n with lt | ge
  · exact .inr ⟨w.goes i H lt g, Pv (i + 1), fun H' p => ⟨m - 1, by omega, by omega, by omega, p⟩, fun x H' y => turn i x H H' lt pv (w.yields i H x H' lt g y)⟩
  · obtain rfl : i = n := by omega
    exact .inl ⟨w.stops H g, hd H pv⟩
theorem cross_take (ls fs : List Nat) (i a : Nat) (h : ls[i]? = some a) : Gr.cross (ls.take (i + 1)) fs = Gr.cross (ls.take i) fs ++ fs.map fun f => (a, f) := by
  unfold Gr.cross
  rw [List.take_add_one, h, List.flatMap_append]
  show _ ++ (fs.map (fun f => (a, f)) ++ []) = _
  rw [List.append_nil]
theorem cross_len (ls fs : List Nat) : (Gr.cross ls fs).length = ls.length * fs.length := by
  unfold Gr.cross
  induction ls with
  | nil => rw [List.flatMap_nil, List.length_nil, List.length_nil, Nat.zero_mul]
  | cons l r ih =>
    rw [List.flatMap_cons, List.length_append, ih, List.length_map, List.length_cons, Nat.add_mul]
    omega
theorem nums_get {ns : List Nat} {i : Nat} {v : V} (h : (nums ns)[i]? = some v) : ∃ n, ns[i]? = some n ∧ v = .int (n : Int) := by
  unfold nums at h
  rw [List.getElem?_map] at h
  obtain ⟨n, hn, rfl⟩ := Option.map_eq_some_iff.mp h
  exact ⟨n, hn, rfl⟩
end Es
namespace Es
open Gr
/-! the shape of an expression -/
def stepS (k : PySem.Str) : Shp → Shp → Shp := if k = "sequence" then Shp.seq else Shp.cho
def joinS (k : PySem.Str) : List Shp → Shp
  | [] => ⟨false, [], [], []⟩
  | s :: r => r.foldl (stepS k) s
def wrapS (k : PySem.Str) (s : Shp) : Shp := if k = "repeat" then s.rep else if k = "optional" then s.opt else s
mutual
def Tr.shp : Tr → Nat → Shp
  | .leaf _ _, n => ⟨false, [n], [n], []⟩
  | .node k ps, n => wrapS k (joinS k (Tr.shps ps n))
def Tr.shps : List Tr → Nat → List Shp
  | [], _ => []
  | t :: r, n => t.shp n :: Tr.shps r (n + t.lv.length)
end
mutual
def Tr.nn : Tr → Nat
  | .leaf _ _ => 1
  | .node _ ps => 1 + Tr.nns ps
def Tr.nns : List Tr → Nat
  | [] => 0
  | t :: r => t.nn + Tr.nns r
end
theorem nn_pos : ∀ t : Tr, 1 ≤ t.nn
  | .leaf _ _ => Nat.le_refl _
  | .node _ ps => by
    show 1 ≤ 1 + Tr.nns ps
    omega
theorem lvs_cons (t : Tr) (r : List Tr) : (Tr.lvs (t :: r)).length = t.lv.length + (Tr.lvs r).length := List.length_append
theorem shps_len : ∀ (ts : List Tr) (n : Nat), (Tr.shps ts n).length = ts.length
  | [], _ => rfl
  | t :: r, n => by
    show (Tr.shps r (n + t.lv.length)).length + 1 = r.length + 1
    rw [shps_len]
/-- how many numbers, at most -/
def Bd (m b : Nat) (s : Shp) : Prop := s.fs.length ≤ m ∧ s.ls.length ≤ m ∧ s.ps.length ≤ b
theorem Bd.more {m b m' b' : Nat} {s : Shp} (h : Bd m b s) (h1 : m ≤ m') (h2 : b ≤ b') : Bd m' b' s := ⟨Nat.le_trans h.1 h1, Nat.le_trans h.2.1 h1, Nat.le_trans h.2.2 h2⟩
theorem len_if1 {b : Bool} {xs ys : List Nat} : (if b = true then xs ++ ys else xs).length ≤ xs.length + ys.length := by
  split
  · rw [List.length_append]
    exact Nat.le_refl _
  · omega
theorem len_if2 {b : Bool} {xs ys : List Nat} : (if b = true then xs ++ ys else ys).length ≤ xs.length + ys.length := by
  split
  · rw [List.length_append]
    exact Nat.le_refl _
  · omega
theorem Bd.step {M m1 m2 b1 b2 : Nat} {s1 s2 : Shp} (k : PySem.Str) (h1 : Bd m1 b1 s1) (h2 : Bd m2 b2 s2) (hM : m1 + m2 ≤ M) : Bd (m1 + m2) (b1 + b2 + M * M) (stepS k s1 s2) := by
  obtain ⟨a1, a2, a3⟩ := h1
  obtain ⟨c1, c2, c3⟩ := h2
  unfold stepS
  split
  · refine ⟨?_, ?_, ?_⟩
    · exact Nat.le_trans len_if1 (by omega)
    · exact Nat.le_trans len_if2 (by omega)
    · show (s1.ps ++ s2.ps ++ cross s1.ls s2.fs).length ≤ _
      have : s1.ls.length * s2.fs.length ≤ M * M := Nat.mul_le_mul (by omega) (by omega)
      rw [List.length_append, List.length_append, cross_len]
      omega
  · refine ⟨?_, ?_, ?_⟩
    · show (s1.fs ++ s2.fs).length ≤ _
      rw [List.length_append]
      omega
    · show (s1.ls ++ s2.ls).length ≤ _
      rw [List.length_append]
      omega
    · show (s1.ps ++ s2.ps).length ≤ _
      rw [List.length_append]
      omega
mutual
theorem shp_bd (M : Nat) : ∀ (t : Tr) (n : Nat), t.ok → t.lv.length ≤ M → 1 ≤ t.lv.length ∧ Bd t.lv.length (M * M * (t.nn - 1)) (t.shp n)
  | .leaf k x, n, _, _ => ⟨Nat.le_refl _, Nat.le_refl _, Nat.le_refl _, Nat.zero_le _⟩
  | .node k ps, n, h, hM => by
    obtain ⟨hk, hne, hok⟩ := h
    cases ps with
    | nil => exact absurd rfl hne
    | cons t r =>
      have hM' : (Tr.lvs (t :: r)).length ≤ M := hM
      rw [lvs_cons] at hM'
      obtain ⟨p1, b1⟩ := shp_bd M t n hok.1 (by omega)
      have hf := fold_bd M k r (n + t.lv.length) _ _ _ hok.2 b1 hM'
      have hn := nn_pos t
      have e1 : (Tr.node k (t :: r)).lv.length = t.lv.length + (Tr.lvs r).length := lvs_cons t r
      rw [e1]
      refine ⟨by omega, ?_⟩
      have e2 : (Tr.node k (t :: r)).nn - 1 = t.nn - 1 + Tr.nns r + 1 := by
        show 1 + (t.nn + Tr.nns r) - 1 = _
        omega
      rw [e2, Nat.mul_add, Nat.mul_add, Nat.mul_one]
      show Bd _ _ (wrapS k ((Tr.shps r (n + t.lv.length)).foldl (stepS k) (t.shp n)))
      generalize (Tr.shps r (n + t.lv.length)).foldl (stepS k) (t.shp n) = s at hf
      obtain ⟨f1, f2, f3⟩ := hf
      unfold wrapS
      split
      · refine ⟨f1, f2, ?_⟩
        show (s.ps ++ cross s.ls s.fs).length ≤ _
        have : s.ls.length * s.fs.length ≤ M * M := Nat.mul_le_mul (by omega) (by omega)
        rw [List.length_append, cross_len]
        omega
      · split
        · exact ⟨f1, f2, by show s.ps.length ≤ _; omega⟩
        · exact ⟨f1, f2, by omega⟩
theorem fold_bd (M : Nat) (k : PySem.Str) : ∀ (r : List Tr) (n : Nat) (s : Shp) (m b : Nat), Tr.oks r → Bd m b s → m + (Tr.lvs r).length ≤ M → Bd (m + (Tr.lvs r).length) (b + M * M * Tr.nns r) ((Tr.shps r n).foldl (stepS k) s)
  | [], n, s, m, b, _, hs, _ => hs.more (Nat.le_add_right _ _) (Nat.le_add_right _ _)
  | t :: r, n, s, m, b, hok, hs, hM => by
    rw [lvs_cons] at hM ⊢
    obtain ⟨p1, b1⟩ := shp_bd M t n hok.1 (by omega)
    have hn := nn_pos t
    have h2 := fold_bd M k r (n + t.lv.length) _ _ _ hok.2 (Bd.step (M := M) k hs b1 (by omega)) (by omega)
    refine h2.more (by omega) ?_
    have e : Tr.nns (t :: r) = t.nn - 1 + 1 + Tr.nns r := by
      show t.nn + Tr.nns r = _
      omega
    rw [e, Nat.mul_add, Nat.mul_add, Nat.mul_one]
    omega
end
/-! the first leaves ascend -/
def Up (lo hi : Nat) (xs : List Nat) : Prop := xs.Pairwise (· < ·) ∧ ∀ m ∈ xs, lo ≤ m ∧ m < hi
theorem Up.app {lo mid hi : Nat} {xs ys : List Nat} (h : Up lo mid xs) (k : Up mid hi ys) (h1 : lo ≤ mid) (h2 : mid ≤ hi) : Up lo hi (xs ++ ys) := by
  refine ⟨List.pairwise_append.mpr ⟨h.1, k.1, fun a ha b hb => ?_⟩, fun m hm => ?_⟩
  · have := h.2 a ha
    have := k.2 b hb
    omega
  · rcases List.mem_append.mp hm with z | z
    · have := h.2 m z
      omega
    · have := k.2 m z
      omega
theorem Up.more {lo hi hi' : Nat} {xs : List Nat} (h : Up lo hi xs) (k : hi ≤ hi') : Up lo hi' xs := ⟨h.1, fun m hm => by have := h.2 m hm; omega⟩
mutual
theorem shp_up : ∀ (t : Tr) (n : Nat), t.ok → Up n (n + t.lv.length) (t.shp n).fs
  | .leaf k x, n, _ => ⟨List.pairwise_singleton _ _, fun m hm => by
      cases List.mem_singleton.mp hm
      exact ⟨Nat.le_refl _, by show n < n + 1; omega⟩⟩
  | .node k ps, n, h => by
    obtain ⟨hk, hne, hok⟩ := h
    cases ps with
    | nil => exact absurd rfl hne
    | cons t r =>
      have h1 := shp_up t n hok.1
      have hf := fold_up k r (n + t.lv.length) _ n hok.2 h1 (by omega)
      have e1 : (Tr.node k (t :: r)).lv.length = t.lv.length + (Tr.lvs r).length := lvs_cons t r
      rw [e1]
      rw [Nat.add_assoc] at hf
      show Up _ _ (wrapS k ((Tr.shps r (n + t.lv.length)).foldl (stepS k) (t.shp n))).fs
      generalize (Tr.shps r (n + t.lv.length)).foldl (stepS k) (t.shp n) = s at hf
      unfold wrapS
      split
      · exact hf
      · split
        · exact hf
        · exact hf
theorem fold_up (k : PySem.Str) : ∀ (r : List Tr) (n : Nat) (s : Shp) (lo : Nat), Tr.oks r → Up lo n s.fs → lo ≤ n → Up lo (n + (Tr.lvs r).length) ((Tr.shps r n).foldl (stepS k) s).fs
  | [], n, s, lo, _, hs, _ => hs
  | t :: r, n, s, lo, hok, hs, hl => by
    have h1 := shp_up t n hok.1
    have h2 : Up lo (n + t.lv.length) (stepS k s (t.shp n)).fs := by
      unfold stepS
      split
      · show Up _ _ (if s.e = true then s.fs ++ (t.shp n).fs else s.fs)
        split
        · exact hs.app h1 hl (by omega)
        · exact hs.more (by omega)
      · exact hs.app h1 hl (by omega)
    have h3 := fold_up k r (n + t.lv.length) _ lo hok.2 h2 (by omega)
    rw [lvs_cons, ← Nat.add_assoc]
    exact h3
end
end Es
namespace Es
open Gr
/-! the graph of an expression, with two nodes for each part: its begin and, one more, its end -/
def chain : Nat → List Nat → Ed
  | _, [] => []
  | q, b :: r => (q, b) :: chain (b + 1) r
def lastE : Nat → List Nat → Nat
  | q, [] => q
  | _, b :: r => lastE (b + 1) r
/-- the edges that a part itself has -/
def ownE (k : PySem.Str) (lo : Nat) : List Nat → Ed
  | [] => []
  | b :: r => if k = "sequence" then chain (b + 1) r ++ [(lo, b), (lastE (b + 1) r, lo + 1)]
    else (b :: r).map (fun x => (lo, x)) ++ (b :: r).map (fun x => (x + 1, lo + 1)) ++ (if k ≠ "choice" then [(lo, lo + 1)] else []) ++ (if k = "repeat" then [(b + 1, b)] else [])
def Tr.begs : List Tr → Nat → List Nat
  | [], _ => []
  | t :: r, lo => lo :: Tr.begs r (lo + 2 * t.nn)
mutual
def Tr.eds : Tr → Nat → Ed
  | .leaf _ _, _ => []
  | .node k ps, lo => Tr.edsL ps (lo + 2) ++ ownE k lo (Tr.begs ps (lo + 2))
def Tr.edsL : List Tr → Nat → Ed
  | [], _ => []
  | t :: r, lo => t.eds lo ++ Tr.edsL r (lo + 2 * t.nn)
end
mutual
def Tr.lfs : Tr → Nat → List Nat
  | .leaf _ _, lo => [lo]
  | .node _ ps, lo => Tr.lfsL ps (lo + 2)
def Tr.lfsL : List Tr → Nat → List Nat
  | [], _ => []
  | t :: r, lo => t.lfs lo ++ Tr.lfsL r (lo + 2 * t.nn)
end
mutual
/-- what is repeated is one part -/
def Tr.uno : Tr → Prop
  | .leaf _ _ => True
  | .node k ps => (k = "repeat" → ps.length = 1) ∧ Tr.unos ps
def Tr.unos : List Tr → Prop
  | [] => True
  | t :: r => t.uno ∧ Tr.unos r
end
mutual
theorem lfs_len : ∀ (t : Tr) (lo : Nat), (t.lfs lo).length = t.lv.length
  | .leaf _ _, _ => rfl
  | .node _ ps, lo => lfsL_len ps (lo + 2)
theorem lfsL_len : ∀ (ts : List Tr) (lo : Nat), (Tr.lfsL ts lo).length = (Tr.lvs ts).length
  | [], _ => rfl
  | t :: r, lo => by
    show (t.lfs lo ++ Tr.lfsL r (lo + 2 * t.nn)).length = _
    rw [List.length_append, lfs_len, lfsL_len, lvs_cons]
end
mutual
theorem node_tr : ∀ (t : Tr) (lo n : Nat), t.ok → t.uno → Node (t.eds lo) lo (lo + 2 * t.nn) (t.lfs lo) n (t.shp n)
  | .leaf k x, lo, n, _, _ => node_leaf lo n
  | .node k ps, lo, n, h, hu => by
    obtain ⟨hk, hne, hok⟩ := h
    obtain ⟨h1, hus⟩ := hu
    cases ps with
    | nil => exact absurd rfl hne
    | cons t r =>
      have A := (node_tr t (lo + 2) n hok.1 hus.1).box
      have hp := nn_pos t
      have ehi : lo + 2 + 2 * t.nn + 2 * Tr.nns r = lo + 2 * (Tr.node k (t :: r)).nn := by
        show _ = lo + 2 * (1 + (t.nn + Tr.nns r))
        omega
      have eL : t.lfs (lo + 2) ++ Tr.lfsL r (lo + 2 + 2 * t.nn) = (Tr.node k (t :: r)).lfs lo := rfl
      have elen : (t.lfs (lo + 2)).length = t.lv.length := lfs_len _ _
      rw [← ehi, ← eL]
      by_cases hs : k = "sequence"
      · obtain ⟨E, B, hE⟩ := seq_fold r (lo + 2 + 2 * t.nn) _ (lo + 2) (lo + 2) (lo + 3) _ n _ hok.2 hus.2 A (by omega)
        have e1 : (Tr.node k (t :: r)).shp n = (Tr.shps r (n + (t.lfs (lo + 2)).length)).foldl Shp.seq (t.shp n) := by
          show wrapS k ((Tr.shps r (n + t.lv.length)).foldl (stepS k) (t.shp n)) = _
          rw [elen, hs]
          rfl
        rw [e1]
        refine (B.node (by omega)).congr fun x => ?_
        show _ ↔ x ∈ (t.eds (lo + 2) ++ Tr.edsL r (lo + 2 + 2 * t.nn)) ++ ownE k lo ((lo + 2) :: Tr.begs r (lo + 2 + 2 * t.nn))
        have e2 : ownE k lo ((lo + 2) :: Tr.begs r (lo + 2 + 2 * t.nn)) = chain (lo + 3) (Tr.begs r (lo + 2 + 2 * t.nn)) ++ [(lo, lo + 2), (lastE (lo + 3) (Tr.begs r (lo + 2 + 2 * t.nn)), lo + 1)] := by
          rw [hs]
          rfl
        rw [e2]
        simp only [List.mem_append, hE]
        constructor
        · rintro ((h | h | h) | h)
          · exact .inl (.inl h)
          · exact .inl (.inr h)
          · exact .inr (.inl h)
          · exact .inr (.inr h)
        · rintro ((h | h) | h | h)
          · exact .inl (.inl h)
          · exact .inl (.inr (.inl h))
          · exact .inl (.inr (.inr h))
          · exact .inr h
      · have e0 : ∀ m, (Tr.node k (t :: r)).shp m = wrapS k ((Tr.shps r (m + t.lv.length)).foldl Shp.cho (t.shp m)) := fun m => by
          show wrapS k ((Tr.shps r (m + t.lv.length)).foldl (stepS k) (t.shp m)) = _
          have : stepS k = Shp.cho := by
            unfold stepS
            rw [if_neg hs]
          rw [this]
        have e2 : ownE k lo (Tr.begs (t :: r) (lo + 2)) = ((lo + 2) :: Tr.begs r (lo + 2 + 2 * t.nn)).map (fun x => (lo, x)) ++ ((lo + 2) :: Tr.begs r (lo + 2 + 2 * t.nn)).map (fun x => (x + 1, lo + 1)) ++ (if k ≠ "choice" then [(lo, lo + 1)] else []) ++ (if k = "repeat" then [(lo + 3, lo + 2)] else []) := by
          show (if k = "sequence" then _ else _) = _
          rw [if_neg hs]
        by_cases hr : k = "repeat"
        · have hr0 : r = [] := by
            have := h1 hr
            exact List.eq_nil_of_length_eq_zero (by rw [List.length_cons] at this; omega)
          cases hr0
          have N := (A.loop.node (by omega)).opt fun i x e => (A.lr i x e).1
          have e1 : (Tr.node k [t]).shp n = (t.shp n).loop.opt := by
            rw [e0, hr]
            rfl
          rw [e1]
          rw [show t.lfs (lo + 2) ++ Tr.lfsL [] (lo + 2 + 2 * t.nn) = t.lfs (lo + 2) from List.append_nil _]
          refine Node.congr (hi := lo + 2 + 2 * t.nn) N fun x => ?_
          show _ ↔ x ∈ (t.eds (lo + 2) ++ []) ++ ownE k lo (Tr.begs [t] (lo + 2))
          rw [e2, hr]
          simp only [List.mem_append, List.mem_cons, List.mem_nil_iff, List.map_cons, List.map_nil, or_false, Tr.begs, if_pos, ne_eq, show ¬ ("repeat" : PySem.Str) = "choice" by decide, not_false_eq_true, if_true]
          constructor
          · rintro (((h | h) | h | h) | h)
            · exact .inl h
            · exact .inr (.inr h)
            · exact .inr (.inl (.inl (.inl h)))
            · exact .inr (.inl (.inl (.inr h)))
            · exact .inr (.inl (.inr h))
          · rintro (h | ((h | h) | h) | h)
            · exact .inl (.inl (.inl h))
            · exact .inl (.inr (.inl h))
            · exact .inl (.inr (.inr h))
            · exact .inr h
            · exact .inl (.inl (.inr h))
        · obtain ⟨E, B, hl, hE⟩ := cho_fold r (lo + 2 + 2 * t.nn) _ lo _ n _ hok.2 hus.2 (A.node (by omega)) (fun i x e => (A.lr i x e).1) (by omega)
          by_cases hc : k = "choice"
          · have e1 : (Tr.node k (t :: r)).shp n = (Tr.shps r (n + (t.lfs (lo + 2)).length)).foldl Shp.cho (t.shp n) := by
              rw [e0, elen, hc]
              rfl
            rw [e1]
            refine B.congr fun x => ?_
            show _ ↔ x ∈ (t.eds (lo + 2) ++ Tr.edsL r (lo + 2 + 2 * t.nn)) ++ ownE k lo (Tr.begs (t :: r) (lo + 2))
            rw [e2, hc]
            simp only [List.mem_append, hE, List.mem_cons, List.mem_nil_iff, List.map_cons, or_false, ne_eq, not_true_eq_false, if_false, show ¬ ("choice" : PySem.Str) = "repeat" by decide]
            constructor
            · rintro ((h | h | h) | h | h | h)
              · exact .inl (.inl h)
              · exact .inr (.inl (.inl h))
              · exact .inr (.inr (.inl h))
              · exact .inl (.inr h)
              · exact .inr (.inl (.inr h))
              · exact .inr (.inr (.inr h))
            · rintro ((h | h) | (h | h) | h | h)
              · exact .inl (.inl h)
              · exact .inr (.inl h)
              · exact .inl (.inr (.inl h))
              · exact .inr (.inr (.inl h))
              · exact .inl (.inr (.inr h))
              · exact .inr (.inr (.inr h))
          · have ho : k = "optional" := by
              have : ∀ z ∈ nodeKinds, z ≠ "sequence" → z ≠ "repeat" → z ≠ "choice" → z = "optional" := by decide +kernel
              exact this k hk hs hr hc
            have e1 : (Tr.node k (t :: r)).shp n = ((Tr.shps r (n + (t.lfs (lo + 2)).length)).foldl Shp.cho (t.shp n)).opt := by
              rw [e0, elen, ho]
              rfl
            rw [e1]
            refine (B.opt hl).congr fun x => ?_
            show _ ↔ x ∈ (t.eds (lo + 2) ++ Tr.edsL r (lo + 2 + 2 * t.nn)) ++ ownE k lo (Tr.begs (t :: r) (lo + 2))
            rw [e2, ho]
            simp only [List.mem_append, hE, List.mem_cons, List.mem_nil_iff, List.map_cons, or_false, ne_eq, show ¬ ("optional" : PySem.Str) = "choice" by decide, not_false_eq_true, if_true, show ¬ ("optional" : PySem.Str) = "repeat" by decide, if_false]
            constructor
            · rintro (((h | h | h) | h | h | h) | h)
              · exact .inl (.inl h)
              · exact .inr (.inl (.inl (.inl h)))
              · exact .inr (.inl (.inr (.inl h)))
              · exact .inl (.inr h)
              · exact .inr (.inl (.inl (.inr h)))
              · exact .inr (.inl (.inr (.inr h)))
              · exact .inr (.inr h)
            · rintro ((h | h) | ((h | h) | h | h) | h)
              · exact .inl (.inl (.inl h))
              · exact .inl (.inr (.inl h))
              · exact .inl (.inl (.inr (.inl h)))
              · exact .inl (.inr (.inr (.inl h)))
              · exact .inl (.inl (.inr (.inr h)))
              · exact .inl (.inr (.inr (.inr h)))
              · exact .inr h
theorem seq_fold : ∀ (r : List Tr) (mid : Nat) (E : Ed) (lo p q : Nat) (L : List Nat) (n : Nat) (s : Shp), Tr.oks r → Tr.unos r → Box E lo mid p q L n s → lo ≤ mid →
    ∃ E', Box E' lo (mid + 2 * Tr.nns r) p (lastE q (Tr.begs r mid)) (L ++ Tr.lfsL r mid) n ((Tr.shps r (n + L.length)).foldl Shp.seq s) ∧ ∀ x, x ∈ E' ↔ x ∈ E ∨ x ∈ Tr.edsL r mid ∨ x ∈ chain q (Tr.begs r mid)
  | [], mid, E, lo, p, q, L, n, s, _, _, B, _ => ⟨E, by
      show Box E lo mid p q (L ++ []) n s
      rw [List.append_nil]
      exact B, fun x => ⟨.inl, fun h => h.elim id fun h => h.elim (fun h => nomatch h) (fun h => nomatch h)⟩⟩
  | t :: r, mid, E, lo, p, q, L, n, s, hok, hu, B, hl => by
    have A := (node_tr t mid (n + L.length) hok.1 hu.1).box
    obtain ⟨E', B', hE'⟩ := seq_fold r (mid + 2 * t.nn) _ lo p (mid + 1) _ n _ hok.2 hu.2 (B.seq A hl (by omega)) (by omega)
    refine ⟨E', ?_, fun x => ?_⟩
    · rw [List.length_append, lfs_len, ← Nat.add_assoc, List.append_assoc] at B'
      have e : mid + 2 * Tr.nns (t :: r) = mid + 2 * t.nn + 2 * Tr.nns r := by
        show mid + 2 * (t.nn + Tr.nns r) = _
        omega
      rw [e]
      exact B'
    · rw [hE']
      show _ ↔ x ∈ E ∨ x ∈ t.eds mid ++ Tr.edsL r (mid + 2 * t.nn) ∨ x ∈ (q, mid) :: chain (mid + 1) (Tr.begs r (mid + 2 * t.nn))
      simp only [List.mem_append, List.mem_cons, List.mem_nil_iff, or_false]
      constructor
      · rintro (((h | h) | h) | h | h)
        · exact .inl h
        · exact .inr (.inl (.inl h))
        · exact .inr (.inr (.inl h))
        · exact .inr (.inl (.inr h))
        · exact .inr (.inr (.inr h))
      · rintro (h | (h | h) | h | h)
        · exact .inl (.inl (.inl h))
        · exact .inl (.inl (.inr h))
        · exact .inr (.inl h)
        · exact .inl (.inr h)
        · exact .inr (.inr h)
theorem cho_fold : ∀ (r : List Tr) (mid : Nat) (E : Ed) (b : Nat) (L : List Nat) (n : Nat) (s : Shp), Tr.oks r → Tr.unos r → Node E b mid L n s → (∀ (i x : Nat), L[i]? = some x → b + 2 ≤ x) → b + 2 ≤ mid →
    ∃ E', Node E' b (mid + 2 * Tr.nns r) (L ++ Tr.lfsL r mid) n ((Tr.shps r (n + L.length)).foldl Shp.cho s) ∧ (∀ (i x : Nat), (L ++ Tr.lfsL r mid)[i]? = some x → b + 2 ≤ x) ∧
      ∀ x, x ∈ E' ↔ x ∈ E ∨ x ∈ Tr.edsL r mid ∨ x ∈ (Tr.begs r mid).map (fun y => (b, y)) ∨ x ∈ (Tr.begs r mid).map (fun y => (y + 1, b + 1))
  | [], mid, E, b, L, n, s, _, _, B, hl, _ => ⟨E, by
      show Node E b mid (L ++ []) n s
      rw [List.append_nil]
      exact B, by
      show ∀ (i x : Nat), (L ++ [])[i]? = some x → b + 2 ≤ x
      rw [List.append_nil]
      exact hl, fun x => ⟨.inl, fun h => h.elim id fun h => h.elim (fun h => nomatch h) fun h => h.elim (fun h => nomatch h) (fun h => nomatch h)⟩⟩
  | t :: r, mid, E, b, L, n, s, hok, hu, B, hl, hm => by
    have A := (node_tr t mid (n + L.length) hok.1 hu.1).box
    have hl' : ∀ (i x : Nat), (L ++ t.lfs mid)[i]? = some x → b + 2 ≤ x := fun i x e => by
      rcases at_app e with ⟨h, _⟩ | ⟨h, _⟩
      · exact hl i x h
      · have := A.lr _ x h
        omega
    obtain ⟨E', B', hl2, hE'⟩ := cho_fold r (mid + 2 * t.nn) _ b _ n _ hok.2 hu.2 (B.cho hl A hm (by omega)) hl' (by omega)
    refine ⟨E', ?_, ?_, fun x => ?_⟩
    · rw [List.length_append, lfs_len, ← Nat.add_assoc, List.append_assoc] at B'
      have e : mid + 2 * Tr.nns (t :: r) = mid + 2 * t.nn + 2 * Tr.nns r := by
        show mid + 2 * (t.nn + Tr.nns r) = _
        omega
      rw [e]
      exact B'
    · rw [List.append_assoc] at hl2
      exact hl2
    · rw [hE']
      show _ ↔ x ∈ E ∨ x ∈ t.eds mid ++ Tr.edsL r (mid + 2 * t.nn) ∨ x ∈ (b, mid) :: (Tr.begs r (mid + 2 * t.nn)).map (fun y => (b, y)) ∨ x ∈ (mid + 1, b + 1) :: (Tr.begs r (mid + 2 * t.nn)).map (fun y => (y + 1, b + 1))
      simp only [List.mem_append, List.mem_cons, List.mem_nil_iff, or_false]
      constructor
      · rintro (((h | h) | h | h) | h | h | h)
        · exact .inl h
        · exact .inr (.inl (.inl h))
        · exact .inr (.inr (.inl (.inl h)))
        · exact .inr (.inr (.inr (.inl h)))
        · exact .inr (.inl (.inr h))
        · exact .inr (.inr (.inl (.inr h)))
        · exact .inr (.inr (.inr (.inr h)))
      · rintro (h | (h | h) | (h | h) | h | h)
        · exact .inl (.inl (.inl h))
        · exact .inl (.inl (.inr h))
        · exact .inr (.inl h)
        · exact .inl (.inr (.inl h))
        · exact .inr (.inr (.inl h))
        · exact .inl (.inr (.inr h))
        · exact .inr (.inr (.inr h))
end
end Es
namespace K04
open PySem PySem.Spec PyProof.Rows L2 Evl Es
def topS (i : Nat) : Stmt := PySem.Challenge.pw_errorspans_k04_which_leaf_may_follow.main.body.getD i (.Pass ⟨0, 0, 0, 0⟩)
def clsB : Stmt → List Stmt
  | .ClassDef _ _ _ body _ _ _ _ _ _ _ => body
  | _ => []
def initS (i : Nat) : Stmt := (clsB (topS i)).getD 0 (.Pass ⟨0, 0, 0, 0⟩)
abbrev sShI : Stmt := initS 2
abbrev sLeaves : Stmt := topS 3
abbrev sNext : Stmt := topS 4
abbrev sMay : Stmt := topS 5
abbrev sNum : Stmt := topS 6
abbrev sEnds : Stmt := topS 7
abbrev sShape : Stmt := topS 8
abbrev sShapes : Stmt := topS 9
abbrev sSeq : Stmt := topS 10
abbrev sCho : Stmt := topS 11
abbrev sCross : Stmt := topS 12
abbrev sPot : Stmt := topS 14
abbrev sTake : Stmt := topS 15
abbrev sPick : Stmt := topS 16
abbrev sExpr : Stmt := topS 17
abbrev sGraph : Stmt := topS 18
abbrev sNodes : Stmt := topS 19
abbrev sReach : Stmt := topS 20
abbrev sFollow : Stmt := topS 21
abbrev sSmall : Stmt := topS 22
abbrev sRight : Stmt := topS 23
abbrev sLaw : Stmt := topS 24
end K04
namespace K04
open PySem PySem.Spec PyProof.Rows L2 Evl Es
theorem scShI : FnScope ["self", "empty", "firsts", "lasts", "pairs"] ["self", "empty", "firsts", "lasts", "pairs"] (defScope sShI) := ⟨rfl, rfl, rfl, by decide +kernel, rfl, by decide +kernel, by decide +kernel⟩
theorem scCross : FnScope ["lasts", "firsts", "last", "first"] ["lasts", "firsts"] (defScope sCross) := ⟨rfl, rfl, rfl, by decide +kernel, rfl, by decide +kernel, by decide +kernel⟩
theorem scSeq : FnScope ["left", "right", "firsts", "lasts", "pairs"] ["left", "right"] (defScope sSeq) := ⟨rfl, rfl, rfl, by decide +kernel, rfl, by decide +kernel, by decide +kernel⟩
theorem scCho : FnScope ["left", "right", "empty"] ["left", "right"] (defScope sCho) := ⟨rfl, rfl, rfl, by decide +kernel, rfl, by decide +kernel, by decide +kernel⟩
/-- the class of the shapes -/
structure ShC (K : PySem.W.Frag) (mg : Str → Option Value) (C fI : Addr) (fd : FuncData) : Prop where
  cl : Cls K C
  nE : NoAttr K C "empty"
  nF : NoAttr K C "firsts"
  nL : NoAttr K C "lasts"
  nP : NoAttr K C "pairs"
  g : mg "Shape" = some (.ref C)
  mks : Mk K C fI
  In : Fun K "__init__" "Shape.__init__" sShI fI fd
section
variable {P : Program} {w : World} {K : PySem.W.Frag} {mg : Str → Option Value} {base : Heap} {C fI : Addr} {dI : FuncData}
theorem ok_shI {k : Nat} (T : ShC K mg C fI dI) : FnOk P w K mg base CX0 (k + 1) fI dI ["self", "empty", "firsts", "lasts", "pairs"] (spShI C) := by
  refine T.In.ok scShI (fun vs H Q E h => ?_) (fun cdv A outer s H vs Q E hr h => ?_)
  · obtain ⟨x, dx, f, l, p, e, rfl, _⟩ := h
    rfl
  · obtain ⟨x, dx, f, l, p, e, rfl, hx, q⟩ := h
    refine ⟨_, pss_cons (ps_fld (pv 0) (pv 1) rfl) (pss_cons (ps_fld (pv 0) (pv 2) rfl) (pss_cons (ps_fld (pv 0) (pv 3) rfl) (pss_one (ps_fld (pv 0) (pv 4) rfl)))), ?_⟩
    refine ⟨_, rfl, _, rfl, x, C, dx, _, rfl, hx, T.cl, T.nE, (by show 0 < 1000; decide), ?_⟩
    refine ⟨_, rfl, _, rfl, x, C, dx, _, rfl, upd_same, T.cl, T.nF, (by show 1 < 1000; decide), ?_⟩
    refine ⟨_, rfl, _, rfl, x, C, dx, _, rfl, upd_same, T.cl, T.nL, (by show 2 < 1000; decide), ?_⟩
    refine ⟨_, rfl, _, rfl, x, C, dx, _, rfl, upd_same, T.cl, T.nP, (by show 3 < 1000; decide), ?_⟩
    refine q _ (fun b o nb hb => ?_) ?_
    · rw [upd_ne nb, upd_ne nb, upd_ne nb, upd_ne nb]
      exact hb
    · rw [upd_same, put4]
theorem b_shI (T : ShC K mg C fI dI) : Binds K dI ["self", "empty", "firsts", "lasts", "pairs"] [] := T.In.binds fun _ _ _ _ _ _ us hl => match us, hl with | [_, _, _, _, _], _ => rfl
theorem ok_cross {f : Addr} {fd : FuncData} {k : Nat} (F : Fun K "crossed" "crossed" sCross f fd) (mT : mg "tuple" = none) : FnOk P w K mg base CX0 (k + 1) f fd ["lasts", "firsts"] spCross := by
  refine F.ok scCross (fun vs H Q E h => ?_) (fun cdv A outer s H vs Q E hr h => ?_)
  · obtain ⟨l, f, ls, fs, rfl, _⟩ := h
    rfl
  · obtain ⟨l, f, ls, fs, rfl, hl, hf, l1, l2, q⟩ := h
    refine ⟨_, pss_one (ps_ret (pe_callTy call_tuple_of (by rfl) mT (by decide +kernel) (pa_cons (pe_lc2 (own := [("last", 2), ("first", 3)]) (vs1 := [3]) (wi1 := iTup K (tVar 1)) (g := gName 2) (g1 := gName 3) (tt := tYes) (tt1 := tYes) rfl scCross.nd (pi_tup (pv 0))
      (blkOk_by (N := ["lasts", "firsts", "last", "first"]) (sc := defScope sCross) (own := [("last", 2), ("first", 3)]) (by decide +kernel)) (by decide) (fun _ _ _ _ _ => pg_name (i := 2) scCross.nd rfl (Or.inl rfl)) (fun _ _ _ _ _ => pts_nil)
      (fun _ _ _ _ _ => pi_tup (pv 1)) (fun _ _ _ _ _ => pg_name (i := 3) scCross.nd rfl (Or.inl rfl)) (fun _ _ _ _ _ => pts_nil) (fun _ _ _ _ _ => pe_tup (pa_cons (pv 2) (pa_cons (pv 3) pa_nil)))) pa_nil))), ?_⟩
    have b0 : ls.length * fs.length ≤ 100 * 100 := Nat.mul_le_mul l1 l2
    refine ⟨.ref l, rfl, l, rfl, ⟨_, st_of hl⟩, fun D nD => walkW (walk_tup (xs := nums ls)) (fun i H' => Ex H H' ∧ ∃ pv, H' D = some (.lst pv) ∧ PrAll H' pv (Gr.cross (ls.take i) fs)) ⟨Ex.new nD, [], upd_same, .nil⟩ (fun i H' _ x => st_of (x.1 _ _ hl)) ?_ ?_⟩
    · rintro i x H1 _ hi ⟨e1, pv, hD, hp⟩ ⟨rfl, hx⟩
      obtain ⟨a, ha, rfl⟩ := nums_get hx
      have hil : i < ls.length := (List.getElem?_eq_some_iff.mp ha).1
      refine ⟨rfl, .ref f, rfl, f, rfl, ⟨_, st_of (e1 _ _ hf)⟩, walkW (walk_tup (xs := nums fs)) (fun j H' => Ex H H' ∧ ∃ pv, H' D = some (.lst pv) ∧ PrAll H' pv (Gr.cross (ls.take i) fs ++ (fs.take j).map fun b => (a, b))) ⟨e1, pv, hD, by rw [List.take_zero, List.map_nil, List.append_nil]; exact hp⟩ (fun j H' _ x => st_of (x.1 _ _ hf)) ?_ ?_⟩
      · rintro j y H2 _ hj ⟨e2, pv2, hD2, hp2⟩ ⟨rfl, hy⟩
        obtain ⟨b, hb, rfl⟩ := nums_get hy
        have hjl : j < fs.length := (List.getElem?_eq_some_iff.mp hb).1
        refine ⟨rfl, .int (a : Int), rfl, .int (b : Int), rfl, sz_of (by show 2 ≤ 100000; decide), fun c nc => ?_⟩
        have ec := Ex.new (o := .tup [.int (a : Int), .int (b : Int)]) nc
        have hD3 := ec _ _ hD2
        have len := hp2.length
        rw [List.length_append, cross_len, List.length_map, List.length_take, List.length_take] at len
        have b1 : min i ls.length * fs.length ≤ 100 * 100 := Nat.mul_le_mul (by omega) l2
        refine ⟨pv2, hD3, sz_lt (by omega), Ex.mut (e2.trans ec) nD, pv2 ++ [.ref c], upd_same, ?_⟩
        rw [List.take_add_one, hb, List.map_append, ← List.append_assoc]
        exact ((hp2.up ec).app (.cons upd_same .nil)).mutL hD3
      · rintro H2 ⟨e2, pv2, hD2, hp2⟩
        rw [nums_len, List.take_length, ← cross_take ls fs i a ha] at hp2
        exact ⟨e2, pv2, hD2, hp2⟩
    · rintro H1 ⟨e1, pv, hD, hp⟩
      rw [nums_len, List.take_length] at hp
      refine ⟨D, pv, rfl, .inl ⟨sq_of hD, fun c nc => ?_⟩⟩
      exact q c pv _ (e1.trans (Ex.new nc)) upd_same (hp.up (Ex.new nc))
/-- how many numbers a shape has at most -/
def Fw (n : Nat) (s : Gr.Shp) : Prop := s.fs.length ≤ n ∧ s.ls.length ≤ n ∧ s.ps.length ≤ 500 * n
def spTwo (C : Addr) (op : Gr.Shp → Gr.Shp → Gr.Shp) : Sp := fun vs H Q _ => ∃ (x y : V) (a b : Gr.Shp), vs = [x, y] ∧ ShAt C H x a ∧ ShAt C H y b ∧ Fw 50 a ∧ Fw 50 b ∧ ∀ v H', Ex H H' → ShAt C H' v (op a b) → Q v H'
theorem ok_seq {f fX : Addr} {fd dX : FuncData} {k : Nat} (F : Fun K "in_sequence" "in_sequence" sSeq f fd) (T : ShC K mg C fI dI) (FX : Fun K "crossed" "crossed" sCross fX dX) (gX : mg "crossed" = some (.ref fX)) (mT : mg "tuple" = none) :
    FnOk P w K mg base CX0 (k + 3) f fd ["left", "right"] (spTwo C Gr.Shp.seq) := by
  have bX : Binds K dX ["lasts", "firsts"] [] := FX.binds fun _ _ _ _ _ _ us hl => match us, hl with | [_, _], _ => rfl
  refine F.ok scSeq (fun vs H Q E h => ?_) (fun cdv A outer s H vs Q E hr h => ?_)
  · obtain ⟨x, y, a, b, rfl, _⟩ := h
    rfl
  · obtain ⟨x, y, a, b, rfl, hx, hy, fa, fb, q⟩ := h
    have GX : FnOk P w K mg base CX0 (k + 2) fX dX ["lasts", "firsts"] spCross := ok_cross FX mT
    refine ⟨_, pss_cons (ps_set (i := 2) scSeq.nd rfl (.inl rfl) (pe_ifExp (pt_val (pe_fld (pv 0) rfl)) (pe_op op_catA (pe_fld (pv 0) rfl) (pe_fld (pv 1) rfl)) (pe_fld (pv 0) rfl)))
      (pss_cons (ps_set (i := 3) scSeq.nd rfl (.inl rfl) (pe_ifExp (pt_val (pe_fld (pv 1) rfl)) (pe_op op_catA (pe_fld (pv 0) rfl) (pe_fld (pv 1) rfl)) (pe_fld (pv 1) rfl)))
      (pss_cons (ps_set (i := 4) scSeq.nd rfl (.inl rfl) (pe_op op_catA (pe_op op_catA (pe_fld (pv 0) rfl) (pe_fld (pv 1) rfl)) (pe_call GX hr (by rfl) gX FX.kp bX .nil pass0 (pa_cons (pe_fld (pv 0) rfl) (pa_cons (pe_fld (pv 1) rfl) pa_nil)))))
      (pss_one (ps_ret (pe_make T.mks (ok_shI (k := k) T) hr (by rfl) T.g (b_shI T) .nil pass0 (pa_cons (pe_and (pe_fld (pv 0) rfl) (pe_one (pe_fld (pv 1) rfl))) (pa_cons (pv 2) (pa_cons (pv 3) (pa_cons (pv 4) pa_nil))))))))), ?_⟩
    obtain ⟨fa1, fa2, fa3⟩ := fa
    obtain ⟨fb1, fb2, fb3⟩ := fb
    have bc : a.ls.length * b.fs.length ≤ 50 * 50 := Nat.mul_le_mul fa2 fb1
    refine q_asgW (xs := nums (if a.e = true then a.fs ++ b.fs else a.fs)) (ew_if (et_B (ev_fe rfl hx T.cl T.nE)) (fun he => ?_) (fun he => ?_)) fun p1 H1 e1 h1 => ?_
    · rw [if_pos he, ← nums_app]
      exact ew_cat (ew_ff rfl hx T.cl T.nF) (ew_ff rfl hy T.cl T.nF) (by rw [nums_len, nums_len]; omega)
    · rw [if_neg (by rw [he]; decide)]
      exact ew_ff rfl hx T.cl T.nF
    have hx1 := hx.up e1
    have hy1 := hy.up e1
    refine q_asgW (xs := nums (if b.e = true then a.ls ++ b.ls else b.ls)) (ew_if (et_B (ev_fe rfl hy1 T.cl T.nE)) (fun he => ?_) (fun he => ?_)) fun p2 H2 e2 h2 => ?_
    · rw [if_pos he, ← nums_app]
      exact ew_cat (ew_fl rfl hx1 T.cl T.nL) (ew_fl rfl hy1 T.cl T.nL) (by rw [nums_len, nums_len]; omega)
    · rw [if_neg (by rw [he]; decide)]
      exact ew_fl rfl hy1 T.cl T.nL
    have hx2 := hx1.up e2
    have hy2 := hy1.up e2
    refine q_asgR (ps := a.ps ++ b.ps ++ Gr.cross a.ls b.fs) (er_cat (er_cat (er_f rfl hx2 T.cl T.nP) (er_f rfl hy2 T.cl T.nP) (by omega)) (er_cross (ew_fl rfl hx2 T.cl T.nL) (ew_ff rfl hy2 T.cl T.nF) (by omega) (by omega)) (by rw [List.length_append, cross_len]; omega)) fun p3 v3 H3 e3 h3 r3 => ?_
    have hx3 := hx2.up e3
    have hy3 := hy2.up e3
    refine s_retH (eh_make (ev_andV (ev_fe rfl hx3 T.cl T.nE) (fun _ => ev_fe rfl hy3 T.cl T.nE)) (ew_var rfl (e3 _ _ (e2 _ _ h1))) (ew_var rfl (e3 _ _ h2)) (er_var rfl h3 r3)) fun v H4 e4 h4 => ?_
    exact q v H4 (((e1.trans e2).trans e3).trans e4) h4
theorem ok_cho {f : Addr} {fd : FuncData} {k : Nat} (F : Fun K "in_choice" "in_choice" sCho f fd) (T : ShC K mg C fI dI) : FnOk P w K mg base CX0 (k + 3) f fd ["left", "right"] (spTwo C Gr.Shp.cho) := by
  refine F.ok scCho (fun vs H Q E h => ?_) (fun cdv A outer s H vs Q E hr h => ?_)
  · obtain ⟨x, y, a, b, rfl, _⟩ := h
    rfl
  · obtain ⟨x, y, a, b, rfl, hx, hy, fa, fb, q⟩ := h
    refine ⟨_, pss_cons (ps_set (i := 2) scCho.nd rfl (.inl rfl) (pe_or (pe_fld (pv 0) rfl) (pe_one (pe_fld (pv 1) rfl))))
      (pss_one (ps_ret (pe_make T.mks (ok_shI (k := k) T) hr (by rfl) T.g (b_shI T) .nil pass0 (pa_cons (pv 2) (pa_cons (pe_op op_catA (pe_fld (pv 0) rfl) (pe_fld (pv 1) rfl)) (pa_cons (pe_op op_catA (pe_fld (pv 0) rfl) (pe_fld (pv 1) rfl)) (pa_cons (pe_op op_catA (pe_fld (pv 0) rfl) (pe_fld (pv 1) rfl)) pa_nil))))))), ?_⟩
    obtain ⟨fa1, fa2, fa3⟩ := fa
    obtain ⟨fb1, fb2, fb3⟩ := fb
    refine q_asg (v := .bl (a.e || b.e)) (ev_orV (ev_fe rfl hx T.cl T.nE) (fun _ => ev_fe rfl hy T.cl T.nE)) fun H1 e1 => ?_
    have hx1 := hx.up e1
    have hy1 := hy.up e1
    refine s_retH (s := a.cho b) (eh_make (ev_var rfl) (ew_is (ew_cat (ew_ff rfl hx1 T.cl T.nF) (ew_ff rfl hy1 T.cl T.nF) (by rw [nums_len, nums_len]; omega)) (nums_app _ _)) (ew_is (ew_cat (ew_fl rfl hx1 T.cl T.nL) (ew_fl rfl hy1 T.cl T.nL) (by rw [nums_len, nums_len]; omega)) (nums_app _ _))
      (er_cat (er_f rfl hx1 T.cl T.nP) (er_f rfl hy1 T.cl T.nP) (by omega))) fun v H2 e2 h2 => ?_
    exact q v H2 (e1.trans e2) h2
end
end K04
namespace K04
open PySem PySem.Spec PyProof.Rows L2 Evl Es
theorem scEnds : FnScope ["shape", "number"] ["shape", "number"] (defScope sEnds) := ⟨rfl, rfl, rfl, by decide +kernel, rfl, by decide +kernel, by decide +kernel⟩
theorem scNum : FnScope ["shape", "number", "left", "right"] ["shape", "number"] (defScope sNum) := ⟨rfl, rfl, rfl, by decide +kernel, rfl, by decide +kernel, by decide +kernel⟩
section
variable {P : Program} {w : World} {K : PySem.W.Frag} {mg : Str → Option Value} {base : Heap} {C fI : Addr} {dI : FuncData}
theorem in_nums (k : Nat) : ∀ ns : List Nat, inV (.int (k : Int)) (nums ns) = decide (k ∈ ns)
  | [] => rfl
  | n :: r => by
    show (eqV (.int (n : Int)) (.int (k : Int)) || inV (.int (k : Int)) (nums r)) = _
    rw [in_nums k r]
    show (((n : Int) == (k : Int)) || decide (k ∈ r)) = _
    by_cases h : k = n
    · subst h
      rw [show ((k : Int) == (k : Int)) = true from beq_self_eq_true _, Bool.true_or]
      exact (decide_eq_true (List.mem_cons_self ..)).symm
    · rw [beq_eq_false_iff_ne.mpr (fun z => h (by omega)), Bool.false_or]
      exact decide_eq_decide.mpr ⟨fun z => List.mem_cons_of_mem _ z, fun z => (List.mem_cons.mp z).elim (fun y => absurd y h) id⟩
theorem flat_nums : ∀ ns : List Nat, (nums ns).all flatV = true
  | [] => rfl
  | n :: r => by
    show (flatV (.int (n : Int)) && (nums r).all flatV) = true
    rw [flat_nums r]
    rfl
theorem ev_opW {σ : L2.St} {H : Hp} {ta tb : TE} {r : R2} {x z : V} {ys : List V} (ha : Ev ta σ H x) (hb : EvW tb σ H ys) (hr : ∀ q H1, H1 q = some (.tup ys) → Ex H H1 → RV r x (.ref q) H1 z) : Ev (tOp r ta tb) σ H z := fun H1 e Q q =>
  ha H1 e _ fun H2 e2 => hb H2 (e.trans e2) _ fun p H3 e3 hp => hr p H3 hp ((e.trans e2).trans e3) H3 (Ex.refl _) Q fun H4 e4 => q H4 ((e2.trans e3).trans e4)
theorem zero_eq (k : Nat) : (decide (V.int (k : Int) = V.int 0)) = decide (k = 0) := by
  refine decide_eq_decide.mpr ⟨fun h => ?_, fun h => ?_⟩
  · have h2 : (k : Int) = 0 := V.int.inj h
    omega
  · subst h
    rfl
def endB (s : Gr.Shp) (k : Nat) : Bool := if k = 0 then s.e else decide (k ∈ s.ls)
def spEnds (C : Addr) : Sp := fun vs H Q _ => ∃ (x : V) (k : Nat) (s : Gr.Shp), vs = [x, .int (k : Int)] ∧ ShAt C H x s ∧ RetV (.bl (endB s k)) H Q
theorem ok_ends {f : Addr} {fd : FuncData} {k : Nat} (F : Fun K "ends_behind" "ends_behind" sEnds f fd) (T : ShC K mg C fI dI) : FnOk P w K mg base CX0 (k + 1) f fd ["shape", "number"] (spEnds C) := by
  refine F.ok scEnds (fun vs H Q E h => ?_) (fun cdv A outer s H vs Q E hr h => ?_)
  · obtain ⟨x, k, s, rfl, _⟩ := h
    rfl
  · obtain ⟨x, k, s, rfl, hx, q⟩ := h
    refine ⟨_, pss_one (ps_ret (pe_ifExp (pt_cmpR op_eq (pv 1) pe_int (nomark _)) (pe_fld (pv 0) rfl) (pe_cmpR op_in_seq (pv 1) (pe_fld (pv 0) rfl) (by rfl)))), ?_⟩
    refine s_ret (v := .bl (endB s k)) (ev_if (et_test (ev_op (ev_var rfl) ev_c (rv_eq rfl))) (fun hb => ?_) (fun hb => ?_)) fun H1 e1 => q H1 e1
    · rw [zero_eq] at hb
      unfold endB
      rw [if_pos (of_decide_eq_true hb)]
      exact ev_fe rfl hx T.cl T.nE
    · rw [zero_eq] at hb
      unfold endB
      rw [if_neg (of_decide_eq_false hb), ← in_nums]
      exact ev_opW (ev_var rfl) (ew_fl rfl hx T.cl T.nL) fun p H1 hp _ => rv_isT (st_of hp) rfl (flat_nums _)
/-- the numbers behind a leaf, ascending -/
def Behind (s : Gr.Shp) (k : Nat) (ns : List Nat) : Prop := ns.Pairwise (· < ·) ∧ ∀ m, m ∈ ns ↔ (if k = 0 then m ∈ s.fs else (k, m) ∈ s.ps)
def spNum (C : Addr) : Sp := fun vs H Q _ => ∃ (x : V) (k : Nat) (s : Gr.Shp), vs = [x, .int (k : Int)] ∧ ShAt C H x s ∧ s.fs.Pairwise (· < ·) ∧ s.fs.length < 64 ∧ (∃ M, M < 64 ∧ ∀ p ∈ s.ps, p.2 < M) ∧ s.ps.length ≤ 100000 ∧
  ∀ p ns H', Ex H H' → H' p = some (.tup (nums ns)) → Behind s k ns → Q (.ref p) H'
theorem ints_of (ns : List Nat) : nums ns = (ns.map fun (n : Nat) => (n : Int)).map V.int := by
  unfold nums
  rw [List.map_map]
  rfl
/-- whole numbers that are none below 0 -/
theorem nat_list {P : Nat → Prop} : ∀ ms : List Int, (∀ z : Int, z ∈ ms → ∃ n : Nat, z = (n : Int)) → ∃ ns : List Nat, ms = ns.map fun (n : Nat) => (n : Int)
  | [], _ => ⟨[], rfl⟩
  | z :: r, h => by
    obtain ⟨n, rfl⟩ := h z (List.mem_cons_self ..)
    obtain ⟨ns, e⟩ := nat_list (P := P) r fun y hy => h y (List.mem_cons_of_mem _ hy)
    exact ⟨n :: ns, by rw [e]; rfl⟩
theorem mem_cast {ns : List Nat} {m : Nat} : ((m : Int) ∈ ns.map fun (n : Nat) => (n : Int)) ↔ m ∈ ns := by
  constructor
  · intro h
    obtain ⟨n, hn, e⟩ := List.mem_map.mp h
    have e2 : (n : Int) = (m : Int) := e
    have : n = m := by omega
    exact this ▸ hn
  · intro h
    exact List.mem_map.mpr ⟨m, h, rfl⟩
theorem pw_cast {ns : List Nat} (h : (ns.map fun (n : Nat) => (n : Int)).Pairwise (· < ·)) : ns.Pairwise (· < ·) := by
  rw [List.pairwise_map] at h
  exact List.Pairwise.imp (R := fun (a b : Nat) => (a : Int) < (b : Int)) (fun {a b} z => Int.ofNat_lt.mp z) h
/-- the set so far -/
def SoFar (k : Nat) (ps : List (Nat × Nat)) (i : Nat) (S : Int → Bool) : Prop := ∀ z : Int, S z = true ↔ ∃ m : Nat, z = (m : Int) ∧ (k, m) ∈ ps.take i
theorem count_nd (M : Nat) : ∀ ns : List Int, ns.Nodup → (∀ z ∈ ns, 0 ≤ z ∧ z < (M : Int)) → ns.length ≤ M := by
  induction M with
  | zero =>
    intro ns _ h
    cases ns with
    | nil => exact Nat.le_refl _
    | cons z r =>
      have := h z (List.mem_cons_self ..)
      omega
  | succ M ih =>
    intro ns nd h
    by_cases hm : (M : Int) ∈ ns
    · have h1 := List.length_erase_of_mem hm
      have h2 := ih (ns.erase (M : Int)) (nd.erase _) fun z hz => by
        obtain ⟨z1, z2⟩ := (nd.mem_erase_iff).mp hz
        have := h z z2
        omega
      omega
    · have := ih ns nd fun z hz => by
        have h1 := h z hz
        have h2 : z ≠ (M : Int) := fun e => hm (e ▸ hz)
        omega
      omega
theorem ok_num {f : Addr} {fd : FuncData} {k : Nat} (F : Fun K "numbers_behind" "numbers_behind" sNum f fd) (T : ShC K mg C fI dI) (mT : mg "tuple" = none) (mS : mg "sorted" = none) : FnOk P w K mg base CX0 (k + 1) f fd ["shape", "number"] (spNum C) := by
  refine F.ok scNum (fun vs H Q E h => ?_) (fun cdv A outer s H vs Q E hr h => ?_)
  · obtain ⟨x, k, s, rfl, _⟩ := h
    rfl
  · obtain ⟨x, k, s, rfl, hx, hup, hlf, ⟨M, hM, hps⟩, hlp, q⟩ := h
    refine ⟨_, pss_cons (ps_if (pt_cmpR op_eq (pv 1) pe_int (nomark _)) (pss_one (ps_ret (pe_callTy call_tuple_of (by rfl) mT (by decide +kernel) (pa_cons (pe_callB cr_sortTup (by rfl) mS boot_sorted (pa_cons (pe_fld (pv 0) rfl) pa_nil)) pa_nil)))) pss_nil)
      (pss_one (ps_ret (pe_callTy call_tuple_of (by rfl) mT (by decide +kernel) (pa_cons (pe_callB (cr_sortedSet rfl) (by rfl) mS boot_sorted (pa_cons
        (pe_si (own := [("left", 2), ("right", 3)]) (g := gTup K 2 _) rfl scNum.nd (pi_tup (pe_fld (pv 0) rfl)) (blkOk_by (N := ["shape", "number", "left", "right"]) (sc := defScope sNum) (own := [("left", 2), ("right", 3)]) (by decide +kernel))
          (fun _ _ _ _ _ => pg_tup rfl (pgs_cons (pg_name (i := 2) scNum.nd rfl (Or.inl rfl)) (pgs_cons (pg_name (i := 3) scNum.nd rfl (Or.inl rfl)) pgs_nil))) (fun _ _ _ _ _ => pts_one (pt_cmpR op_eq (pv 2) (pv 1) (nomark _))) (fun _ _ _ _ _ => pv 3)) pa_nil)) pa_nil)))), ?_⟩
    refine q_when (et_test (ev_op (ev_var rfl) ev_c (rv_eq rfl))) (fun hb H1 e1 => ?_) (fun hb H1 e1 => ?_)
    · rw [zero_eq] at hb
      have hk : k = 0 := of_decide_eq_true hb
      obtain ⟨a, dx, f, l, p, pv, rfl, h2, h3, h4, h5, h6⟩ := hx.up e1
      refine ⟨_, rfl, a, C, dx, _, _, rfl, h2, T.cl, T.nF, fld_f _ _ _ _, f, _, rfl, by rw [← ints_of]; exact st_of h3, by rw [List.length_map]; exact hlf, fun ms r hperm hsrt nr => ?_⟩
      obtain ⟨ns, rfl⟩ := nat_list (P := fun _ => True) ms fun z hz => by
        obtain ⟨n, _, e⟩ := List.mem_map.mp (hperm.mem_iff.mp hz)
        exact ⟨n, e.symm⟩
      refine ⟨r, _, rfl, .inl ⟨sq_of upd_same, fun c nc => ?_⟩⟩
      have mem : ∀ m, m ∈ ns ↔ m ∈ s.fs := fun m => by rw [← mem_cast, hperm.mem_iff, mem_cast]
      refine q c ns _ (e1.trans ((Ex.new nr).trans (Ex.new nc))) (by rw [upd_same, ← ints_of]) ⟨?_, fun m => by rw [if_pos hk]; exact mem m⟩
      refine pw_cast ?_
      have nd : (ns.map fun (n : Nat) => (n : Int)).Nodup := (hperm.nodup_iff).mpr (by
        rw [List.nodup_iff_pairwise_ne, List.pairwise_map]
        exact hup.imp fun {a b} z => by
          intro e
          have e2 : (a : Int) = (b : Int) := e
          omega)
      exact (hsrt.and nd).imp fun {a b} z => by
        have := z.1
        have := z.2
        omega
    · rw [zero_eq] at hb
      have hk : ¬ k = 0 := of_decide_eq_false hb
      obtain ⟨a, dx, f, l, p, pv, rfl, h2, h3, h4, h5, h6⟩ := hx.up e1
      have hpl := h6.length
      refine ⟨_, rfl, a, C, dx, _, _, rfl, h2, T.cl, T.nP, fld_p _ _ _ _, p, rfl, ⟨_, st_of h5⟩, fun D nD => walkW (walk_tup (xs := pv)) (fun i H' => Ex H1 H' ∧ ∃ (S : Int → Bool) (n : Nat), H' D = some (SetO w D S n) ∧ SoFar k s.ps i S ∧ n ≤ i ∧ ∃ ns : List Int, ns.length = n ∧ ns.Nodup ∧ ∀ z, z ∈ ns ↔ S z = true) ?_ (fun i H' _ x => st_of (x.1 _ _ h5)) ?_ ?_⟩
      · refine ⟨Ex.new nD, fun _ => false, 0, upd_same, fun z => ⟨(fun h => nomatch h), fun h => ?_⟩, Nat.le_refl _, [], rfl, List.nodup_nil, fun z => ⟨(fun h => nomatch h), (fun h => nomatch h)⟩⟩
        obtain ⟨m, _, hm⟩ := h
        rw [List.take_zero] at hm
        cases hm
      · rintro i v H2 _ hi ⟨e2, S, n, hD, hS, hn, ns, hnl, hnd, hns⟩ ⟨rfl, hv⟩
        obtain ⟨c, a1, b1, rfl, hab, hc⟩ := h6.get hv
        have hc2 := e2 _ _ hc
        refine ⟨c, _, rfl, st_of hc2, rfl, .int (a1 : Int), [.int (b1 : Int)], rfl, .int (b1 : Int), [], rfl, rfl, rfl, .int (a1 : Int), rfl, .int (k : Int), rfl, rfl, _, rfl, ?_⟩
        have tk : s.ps.take (i + 1) = s.ps.take i ++ [(a1, b1)] := by rw [List.take_add_one, hab]; rfl
        refine ite2 (fun hb2 => ?_) (fun hb2 => ?_)
        · have hak : a1 = k := by
            have z := of_decide_eq_true hb2
            have z2 : (a1 : Int) = (k : Int) := V.int.inj z
            omega
          subst hak
          refine ⟨.int (b1 : Int), rfl, (b1 : Int), S, n, rfl, hD, ?_, Ex.mut e2 nD, _, _, upd_same, fun z => ?_, ?_, ?_⟩
          · have hnM : ns.length ≤ M := count_nd M ns hnd fun z hz => by
              obtain ⟨m, rfl, hm⟩ := (hS z).mp ((hns z).mp hz)
              have := hps _ (List.mem_of_mem_take hm)
              have h' : m < M := this
              omega
            exact Nat.lt_of_le_of_lt (show n + 1 ≤ 64 by omega) (by decide)
          · rw [tk]
            show (S z || decide (z = (b1 : Int))) = true ↔ _
            rw [Bool.or_eq_true, hS z, decide_eq_true_eq]
            constructor
            · rintro (⟨m, h1, h2⟩ | h)
              · exact ⟨m, h1, List.mem_append_left _ h2⟩
              · exact ⟨b1, h, List.mem_append_right _ (List.mem_singleton.mpr rfl)⟩
            · rintro ⟨m, h1, h2⟩
              rcases List.mem_append.mp h2 with h2 | h2
              · exact .inl ⟨m, h1, h2⟩
              · cases List.mem_singleton.mp h2
                exact .inr h1
          · split <;> omega
          · by_cases hin : S (b1 : Int) = true
            · rw [if_pos hin]
              refine ⟨ns, hnl, hnd, fun z => ?_⟩
              show _ ↔ (S z || decide (z = (b1 : Int))) = true
              rw [Bool.or_eq_true, hns z, decide_eq_true_eq]
              exact ⟨.inl, fun h => h.elim id fun h => h ▸ hin⟩
            · rw [if_neg hin]
              refine ⟨(b1 : Int) :: ns, by rw [List.length_cons, hnl], List.nodup_cons.mpr ⟨fun h => hin ((hns _).mp h), hnd⟩, fun z => ?_⟩
              show _ ↔ (S z || decide (z = (b1 : Int))) = true
              rw [Bool.or_eq_true, List.mem_cons, hns z, decide_eq_true_eq]
              exact ⟨fun h => h.symm, fun h => h.symm⟩
        · have hak : a1 ≠ k := fun z => hb2 (decide_eq_true (by rw [z]))
          refine ⟨e2, S, n, hD, fun z => ?_, by omega, ns, hnl, hnd, hns⟩
          rw [tk, hS z]
          constructor
          · rintro ⟨m, h1, h2⟩
            exact ⟨m, h1, List.mem_append_left _ h2⟩
          · rintro ⟨m, h1, h2⟩
            rcases List.mem_append.mp h2 with h2 | h2
            · exact ⟨m, h1, h2⟩
            · cases List.mem_singleton.mp h2
              exact absurd rfl hak
      · rintro H2 ⟨e2, S, n, hD, hS, hn, ns0, hnl, hnd, hns⟩
        rw [hpl] at hS
        have hS' : ∀ z : Int, S z = true ↔ ∃ m : Nat, z = (m : Int) ∧ (k, m) ∈ s.ps := fun z => by
          have := hS z
          rwa [List.take_length] at this
        -- its size
        have hn64 : n < 64 := by
          rw [← hnl]
          have hsub : ns0.length ≤ M := count_nd M ns0 hnd fun z hz => by
            obtain ⟨m, rfl, hm⟩ := (hS' z).mp ((hns z).mp hz)
            have h' : m < M := hps _ hm
            omega
          omega
        refine ⟨D, S, n, rfl, hD, hn64, fun ms r hasc hmem hlen nr => ?_⟩
        obtain ⟨ns, rfl⟩ := nat_list (P := fun _ => True) ms fun z hz => by
          obtain ⟨m, e, _⟩ := (hS' z).mp ((hmem z).mp hz)
          exact ⟨m, e⟩
        refine ⟨r, _, rfl, .inl ⟨sq_of upd_same, fun c nc => ?_⟩⟩
        refine q c ns _ (e1.trans (e2.trans ((Ex.new nr).trans (Ex.new nc)))) (by rw [upd_same, ← ints_of]) ⟨pw_cast hasc, fun m => ?_⟩
        rw [if_neg hk, ← mem_cast, hmem, hS']
        constructor
        · rintro ⟨m', e, h⟩
          have : m = m' := by omega
          exact this ▸ h
        · intro h
          exact ⟨m, rfl, h⟩
end
end K04
namespace K04
open PySem PySem.Spec PyProof.Rows L2 Evl Es
theorem scShapes : FnScope ["expression", "first", "shapes", "part"] ["expression", "first"] (defScope sShapes) := ⟨rfl, rfl, rfl, by decide +kernel, rfl, by decide +kernel, by decide +kernel⟩
theorem scShape : FnScope ["expression", "first", "shapes", "joined", "shape"] ["expression", "first"] (defScope sShape) := ⟨rfl, rfl, rfl, by decide +kernel, rfl, by decide +kernel, by decide +kernel⟩
theorem scNext : FnScope ["expression", "number"] ["expression", "number"] (defScope sNext) := ⟨rfl, rfl, rfl, by decide +kernel, rfl, by decide +kernel, by decide +kernel⟩
theorem scMay : FnScope ["expression", "number"] ["expression", "number"] (defScope sMay) := ⟨rfl, rfl, rfl, by decide +kernel, rfl, by decide +kernel, by decide +kernel⟩
theorem scLeaves : FnScope ["expression", "found", "part"] ["expression"] (defScope sLeaves) := ⟨rfl, rfl, rfl, by decide +kernel, rfl, by decide +kernel, by decide +kernel⟩
def spLeaves (d : Nat) : Sp := fun vs H Q _ => ∃ (p : Addr) (v : V) (t : Tr), vs = [v] ∧ TrAt p H v t ∧ t.ok ∧ t.dep < d ∧ t.big ≤ 3000 ∧
  ∀ a ws H', H a = none → Ex H H' → H' a = some (.tup ws) → TrAll p H' ws t.lv → Q (.ref a) H'
theorem cut_1 (xs : List V) : cutV xs (some 1) none = xs.drop 1 := by
  unfold cutV
  rw [HT.sIx_none, show HT.sIx xs.length 0 (some (1 : Int)) = min 1 xs.length from HT.sIx_nat xs.length 0 1]
  cases xs with
  | nil => rfl
  | cons x r =>
    have e : min 1 (x :: r).length = 1 := by rw [List.length_cons]; omega
    rw [e, List.take_of_length_le (by rw [List.length_drop]; omega)]
theorem lk_in : ∀ k ∈ leafKinds, inV (.str k) [.str "token", .str "block"] = true := by decide +kernel
theorem nk_in : ∀ k ∈ nodeKinds, inV (.str k) [.str "token", .str "block"] = false := by decide +kernel
theorem big_len : ∀ ts : List Tr, ts.length ≤ Tr.bigs ts
  | [] => Nat.le_refl _
  | t :: r => by
    have := big_len r
    show r.length + 1 ≤ t.big + 1 + Tr.bigs r
    omega
section
variable {P : Program} {w : World} {K : PySem.W.Frag} {mg : Str → Option Value} {base : Heap} {C fI : Addr} {dI : FuncData}
theorem ok_leaves {f aL : Addr} {fd : FuncData} (F : Fun K "leaves" "leaves" sLeaves f fd) (b : Binds K fd ["expression"] []) (g : mg "leaves" = some (.ref f)) (mT : mg "tuple" = none) (mL : mg "LEAF_KINDS" = some (.ref aL))
    (hL : ∀ H, SqT K H aL [.str "token", .str "block"]) : ∀ d : Nat, FnOk P w K mg base CX0 d f fd ["expression"] (spLeaves d) := by
  intro d
  induction d with
  | zero => exact ⟨fun vs H Q E ⟨_, _, _, _, _, _, h, _⟩ => absurd h (Nat.not_lt_zero _), fun _ _ _ _ _ _ _ _ _ _ _ _ _ ⟨_, _, _, _, _, _, h, _⟩ => absurd h (Nat.not_lt_zero _)⟩
  | succ d ih =>
    refine F.ok scLeaves (fun vs H Q E h => ?_) (fun cdv A outer s H vs Q E hr h => ?_)
    · obtain ⟨p, v, t, rfl, _⟩ := h
      rfl
    · obtain ⟨p, v, t, rfl, ht, hok, hd, hbg, q⟩ := h
      refine ⟨_, pss_cons (ps_if (pt_cmpR op_in_seq (pe_ix ix_tup (pv 0) pe_int (fun _ _ => rfl)) (pe_glob (v := .ref aL) (by rfl) mL rfl) (by rfl)) (pss_one (ps_ret (pe_tup (pa_cons (pv 0) pa_nil)))) pss_nil)
        (pss_cons (ps_set (i := 1) scLeaves.nd rfl (.inl rfl) (pe_lst pa_nil))
        (pss_cons (ps_for PassesOwn.never rfl (pi_tup (pe_slice sl_tup (pv 0) (po_some pe_int) po_none)) (pg_name (i := 2) scLeaves.nd rfl (.inl rfl))
          (pss_one (ps_expr (pe_bm PySem.F.plainAttrs_list PySem.F.slot_list_extend PySem.F.type_list_extend mt_extT (pv 1) (pa_cons (pe_call ih hr (by rfl) g F.kp b .nil pass0 (pa_cons (pv 2) pa_nil)) pa_nil)))))
        (pss_one (ps_ret (pe_callTy call_tuple_of (by rfl) mT (by decide +kernel) (pa_cons (pv 1) pa_nil)))))), ?_⟩
      cases ht with
      | @leaf a k n ne h =>
        refine q_when (et_test (ev_op (ev_op (ev_var rfl) ev_c (rv_ixT (st_of h) rfl)) ev_c (rv_isT (x := .str k) (hL _) rfl (by decide)))) (fun hb H1 e1 => ?_) (fun hb => ?_)
        · refine s_retU (eu_tup (ea_cons (ev_var rfl) ea_nil) (by show 1 ≤ 100000; decide)) fun c H2 hc e2 h2 => ?_
          exact q c _ H2 (fresh_back e1 hc) (e1.trans e2) h2 (.cons (.leaf ne (e2 _ _ (e1 _ _ h))) .nil)
        · rw [lk_in k hok.1] at hb
          cases hb
      | @node a k vs ps ne h hall =>
        refine q_when (et_test (ev_op (ev_op (ev_var rfl) ev_c (rv_ixT (st_of h) (atI_nat (j := 0) rfl))) ev_c (rv_isT (x := .str k) (hL _) rfl (by decide)))) (fun hb => ?_) (fun hb H1 e1 => ?_)
        · rw [nk_in k hok.1] at hb
          cases hb
        · refine q_asgL (el_lst ea_nil (by decide)) fun l H2 hl e2 h2 => ?_
          have ha := e2 _ _ (e1 _ _ h)
          have hlen := TrAll.length hall
          have hbl := big_len ps
          have hbig : Tr.bigs ps ≤ 3000 := by
            have : 9 + Tr.bigs ps ≤ 3000 := hbg
            omega
          refine ⟨.ref a, rfl, 1, rfl, a, _, rfl, st_of ha, ?_, fun sl nsl => ?_⟩
          · rw [show HT.sIx (V.str k :: vs).length 0 (some (1 : Int)) = min 1 (V.str k :: vs).length from HT.sIx_nat _ 0 1, List.length_cons]
            omega
          rw [cut_1]
          have e3 := Ex.new (o := .tup vs) nsl
          have nl : sl ≠ l := fun z => by
            subst z
            rw [h2] at nsl
            cases nsl
          refine ⟨sl, rfl, ⟨vs, st_of upd_same⟩, for_tup (fun i σ H' => Ex H1 H' ∧ H' sl = some (.tup vs) ∧ ∃ ws y, H' l = some (.lst ws) ∧ TrAll p H' ws (Tr.lvs (ps.take i)) ∧ σ = [some (.ref a), some (.ref l), y])
            ⟨e2.trans e3, upd_same, [], none, e3 _ _ h2, .nil, rfl⟩ (fun i σ H' _ x => st_of x.2.1) ?_ ?_⟩
          · rintro i x σ H' hx ⟨ei, hsl, ws, y, hw, hwa, rfl⟩
            obtain ⟨u, hu, hxu⟩ := hall.get hx
            have hxu' : TrAt p H' x u := hxu.up (e1.trans ei)
            have hdu := deps_get hu
            have hdd : Tr.deps ps + 1 < d + 1 := hd
            have hub : u.big + 1 ≤ Tr.bigs ps := bigs_get hu
            have hlw := TrAll.length hwa
            refine ⟨.ref l, rfl, .inl ⟨rfl, _, sq_of hw⟩, x, rfl, p, x, u, rfl, hxu', oks_get hok.2.2 hu, by omega, by omega, fun c zs H3 nc e4 hc hz => ?_⟩
            have hlz := TrAll.length hz
            have b1 := big_len u.lv
            have b2 := (lv_ok u (oks_get hok.2.2 hu)).2.1
            have b3 := big_len (Tr.lvs (ps.take i))
            have b4 : Tr.bigs (Tr.lvs (ps.take i)) ≤ Tr.bigs ps := lvs_take ps i hok.2.2
            refine ⟨l, c, ws, zs, rfl, rfl, e4 _ _ hw, hc, sz_of (by omega), ?_⟩
            have hl1 : H1 l = none := hl
            refine ⟨Ex.mut (ei.trans e4) hl1, ?_, ws ++ zs, some x, upd_same, ?_, rfl⟩
            · rw [upd_ne nl]
              exact e4 _ _ hsl
            · rw [lvs_snoc ps i u hu]
              exact ((hwa.up e4).append hz).mutL (e4 _ _ hw)
          · rintro σ H' ⟨ei, hsl, ws, y, hw, hwa, rfl⟩
            rw [hlen, List.take_length] at hwa
            refine ⟨.ref l, rfl, l, ws, rfl, .inl ⟨sq_of hw, fun c nc => ?_⟩⟩
            exact q c ws _ (fresh_back (e1.trans ei) nc) ((e1.trans ei).trans (Ex.new nc)) upd_same (hwa.up (Ex.new nc))

/-- small expressions -/
def Sml (t : Tr) : Prop := t.ok ∧ t.big ≤ 400 ∧ t.lv.length ≤ 20 ∧ t.nn ≤ 60
theorem Sml.fw {t : Tr} (h : Sml t) (n : Nat) : Fw 50 (t.shp n) := by
  obtain ⟨h1, h2, h3, h4⟩ := h
  obtain ⟨_, b1, b2, b3⟩ := shp_bd 20 t n h1 h3
  have : 20 * 20 * (t.nn - 1) ≤ 20 * 20 * 59 := Nat.mul_le_mul_left _ (by omega)
  exact ⟨by omega, by omega, by omega⟩
theorem nns_get : ∀ {ts : List Tr} {i : Nat} {t : Tr}, ts[i]? = some t → t.nn ≤ Tr.nns ts
  | x :: r, 0, _, e => by
    cases e
    show x.nn ≤ x.nn + Tr.nns r
    omega
  | x :: r, i + 1, t, e => by
    have := nns_get (i := i) (t := t) (ts := r) e
    show t.nn ≤ x.nn + Tr.nns r
    omega
theorem lvs_get : ∀ {ts : List Tr} {i : Nat} {t : Tr}, ts[i]? = some t → (Tr.lvs (ts.take i)).length + t.lv.length ≤ (Tr.lvs ts).length
  | x :: r, 0, _, e => by
    cases e
    rw [lvs_cons, List.take_zero]
    show 0 + x.lv.length ≤ _
    omega
  | x :: r, i + 1, t, e => by
    have := lvs_get (i := i) (t := t) (ts := r) e
    rw [List.take_succ_cons, lvs_cons, lvs_cons]
    omega
theorem shps_get : ∀ (ts : List Tr) (n i : Nat) (t : Tr), ts[i]? = some t → (Tr.shps ts n)[i]? = some (t.shp (n + (Tr.lvs (ts.take i)).length))
  | x :: r, n, 0, t, e => by
    cases e
    rfl
  | x :: r, n, i + 1, t, e => by
    have := shps_get r (n + x.lv.length) i t e
    show (Tr.shps r (n + x.lv.length))[i]? = _
    rw [this, List.take_succ_cons, lvs_cons, Nat.add_assoc]
def spShape (C : Addr) (d : Nat) : Sp := fun vs H Q _ => ∃ (p : Addr) (v : V) (t : Tr) (n : Nat), vs = [v, .int (n : Int)] ∧ TrAt p H v t ∧ Sml t ∧ t.dep < d ∧ ∀ x H', Ex H H' → ShAt C H' x (t.shp n) → Q x H'
def spShapes (C : Addr) (d : Nat) : Sp := fun vs H Q _ => ∃ (p : Addr) (v : V) (k : Str) (ps : List Tr) (n : Nat), vs = [v, .int (n : Int)] ∧ TrAt p H v (.node k ps) ∧ Sml (.node k ps) ∧ Tr.deps ps < d ∧
  ∀ l ws H', Ex H H' → H' l = some (.lst ws) → ShAll C H' ws (Tr.shps ps n) → Q (.ref l) H'
theorem eh_if {σ : L2.St} {H : Hp} {t : TT} {ta tb : TE} {b : Bool} {s : Gr.Shp} (h : EvT t σ H b) (h1 : b = true → EvH C ta σ H s) (h2 : b = false → EvH C tb σ H s) : EvH C (tIf t ta tb) σ H s := fun H1 e Q q => h H1 e _ fun H2 e2 => by
  cases b with
  | true => exact h1 rfl H2 (e.trans e2) Q fun v H3 e3 hv => q v H3 (e2.trans e3) hv
  | false => exact h2 rfl H2 (e.trans e2) Q fun v H3 e3 hv => q v H3 (e2.trans e3) hv
theorem str_eq (k z : Str) : (decide (V.str k = V.str z)) = decide (k = z) := decide_eq_decide.mpr ⟨fun h => V.str.inj h, fun h => by rw [h]⟩
theorem ok_shapes {f fS fL : Addr} {fd dS dL : FuncData} {d lv : Nat} (F : Fun K "shapes_of_parts" "shapes_of_parts" sShapes f fd) (GS : FnOk P w K mg base CX0 lv fS dS ["expression", "first"] (spShape C d)) (bS : Binds K dS ["expression", "first"] []) (gS : mg "shape_of" = some (.ref fS)) (kS : PySem.W.keepIn K (.ref fS) = true)
    (GL : FnOk P w K mg base CX0 lv fL dL ["expression"] (spLeaves d)) (bL : Binds K dL ["expression"] []) (gL : mg "leaves" = some (.ref fL)) (kL : PySem.W.keepIn K (.ref fL) = true) (ml : mg "len" = none) : FnOk P w K mg base CX0 (lv + 1) f fd ["expression", "first"] (spShapes C d) := by
  refine F.ok scShapes (fun vs H Q E h => ?_) (fun cdv A outer s H vs Q E hr h => ?_)
  · obtain ⟨p, v, kd, ps, n, rfl, _⟩ := h
    rfl
  · obtain ⟨p, v, kd, ps, n, rfl, ht, hsm, hd, q⟩ := h
    obtain ⟨hok, hbg, hlv, hnn⟩ := hsm
    refine ⟨_, pss_cons (ps_set (i := 2) scShapes.nd rfl (.inl rfl) (pe_lst pa_nil))
      (pss_cons (ps_for PassesOwn.never rfl (pi_tup (pe_slice sl_tup (pv 0) (po_some pe_int) po_none)) (pg_name (i := 3) scShapes.nd rfl (.inl rfl))
        (pss_cons (ps_expr (pe_bm PySem.F.plainAttrs_list PySem.F.slot_list_append PySem.F.type_list_append mt_append (pv 2) (pa_cons (pe_call GS hr (by rfl) gS kS bS .nil pass0 (pa_cons (pv 3) (pa_cons (pv 1) pa_nil))) pa_nil)))
        (pss_one (ps_aug (i := 1) scShapes.nd rfl (.inl rfl) (pe_callB call_len_seq (by rfl) ml PySem.boot_len (pa_cons (pe_call GL hr (by rfl) gL kL bL .nil pass0 (pa_cons (pv 3) pa_nil)) pa_nil)) ip_add))))
      (pss_one (ps_ret (pv 2)))), ?_⟩
    cases ht with
    | @node a _ vs _ ne h hall =>
      have hlen := TrAll.length hall
      have hbig : Tr.bigs ps ≤ 400 := by
        have : 9 + Tr.bigs ps ≤ 400 := hbg
        omega
      have hbl := big_len ps
      have hlv' : (Tr.lvs ps).length ≤ 20 := hlv
      have hnn' : 1 + Tr.nns ps ≤ 60 := hnn
      refine q_asgL (el_lst ea_nil (by decide)) fun l H1 hl e1 h1 => ?_
      have ha := e1 _ _ h
      refine ⟨.ref a, rfl, 1, rfl, a, _, rfl, st_of ha, ?_, fun sl nsl => ?_⟩
      · rw [show HT.sIx (V.str kd :: vs).length 0 (some (1 : Int)) = min 1 (V.str kd :: vs).length from HT.sIx_nat _ 0 1, List.length_cons]
        omega
      rw [cut_1]
      have e2 := Ex.new (o := .tup vs) nsl
      have nl : sl ≠ l := fun z => by
        subst z
        rw [h1] at nsl
        cases nsl
      refine ⟨sl, rfl, ⟨vs, st_of upd_same⟩, for_tup (fun i σ H' => Ex H H' ∧ H' sl = some (.tup vs) ∧ ∃ ws y, H' l = some (.lst ws) ∧ ShAll C H' ws ((Tr.shps ps n).take i) ∧ σ = [some (.ref a), some (.int ((n + (Tr.lvs (ps.take i)).length : Nat) : Int)), some (.ref l), y])
        ⟨e1.trans e2, upd_same, [], none, e2 _ _ h1, .nil, rfl⟩ (fun i σ H' _ x => st_of x.2.1) ?_ ?_⟩
      · rintro i x σ H' hx ⟨ei, hsl, ws, y, hw, hwa, rfl⟩
        obtain ⟨u, hu, hxu⟩ := hall.get hx
        have hxu' : TrAt p H' x u := hxu.up ei
        have hdu := deps_get hu
        have hub := bigs_get hu
        have hun := nns_get hu
        have hul := lvs_get hu
        have huok := oks_get hok.2.2 hu
        have hwl := hwa.length
        rw [List.length_take, shps_len] at hwl
        refine ⟨.ref l, rfl, .inl ⟨rfl, _, sq_of hw⟩, x, rfl, .int ((n + (Tr.lvs (ps.take i)).length : Nat) : Int), rfl, p, x, u, _, rfl, hxu', ⟨huok, by omega, by omega, by omega⟩, by omega, fun z H2 e3 hz => ?_⟩
        refine ⟨l, ws, z, rfl, rfl, e3 _ _ hw, sz_lt (by omega), ?_⟩
        have hw3 := e3 _ _ hw
        have e4 : Ex H (upd H2 l (.lst (ws ++ [z]))) := Ex.mut (ei.trans e3) hl
        have hxu4 : TrAt p (upd H2 l (.lst (ws ++ [z]))) x u := (hxu'.up e3).mutL hw3
        refine ⟨.int ((n + (Tr.lvs (ps.take i)).length : Nat) : Int), rfl, x, rfl, p, x, u, rfl, hxu4, huok, by omega, by omega, fun c zs H5 nc e5 hc hzs => ?_⟩
        refine ⟨c, zs, rfl, .inr (st_of hc), _, _, rfl, rfl, ?_⟩
        have hzl := hzs.length
        have hsl5 : H5 sl = some (.tup vs) := e5 _ _ (by rw [upd_ne nl]; exact e3 _ _ hsl)
        refine ⟨e4.trans e5, hsl5, ws ++ [z], some x, e5 _ _ upd_same, ?_, ?_⟩
        · rw [List.take_add_one, shps_get ps n i u hu]
          exact (((hwa.up e3).app (.cons hz .nil)).mutL hw3).up e5
        · rw [List.take_add_one, hu]
          have eq : (Tr.lvs (ps.take i ++ [u])).length = (Tr.lvs (ps.take i)).length + u.lv.length := by
            have : ∀ as : List Tr, (Tr.lvs (as ++ [u])).length = (Tr.lvs as).length + u.lv.length := by
              intro as
              induction as with
              | nil =>
                show (u.lv ++ []).length = 0 + u.lv.length
                rw [List.append_nil]
                omega
              | cons x r ih =>
                show (Tr.lvs (x :: (r ++ [u]))).length = _
                rw [lvs_cons, ih, lvs_cons]
                omega
            exact this _
          show _ = [some (V.ref a), some (V.int ((n + (Tr.lvs (ps.take i ++ [u])).length : Nat) : Int)), some (V.ref l), some x]
          rw [eq, hzl]
          show [some (V.ref a), some (V.int (((n + (Tr.lvs (ps.take i)).length : Nat) : Int) + (u.lv.length : Int))), some (V.ref l), some x] = _
          rw [show (((n + (Tr.lvs (ps.take i)).length : Nat) : Int) + (u.lv.length : Int)) = ((n + ((Tr.lvs (ps.take i)).length + u.lv.length) : Nat) : Int) by omega]
      · rintro σ H' ⟨ei, hsl, ws, y, hw, hwa, rfl⟩
        rw [hlen, ← shps_len ps n, List.take_length] at hwa
        exact ⟨.ref l, rfl, q l ws H' ei hw hwa⟩
theorem twoV {H : Hp} {op : Gr.Shp → Gr.Shp → Gr.Shp} {x y : V} {a b : Gr.Shp} (hx : ShAt C H x a) (hy : ShAt C H y b) (fa : Fw 50 a) (fb : Fw 50 b) : SpH C (spTwo C op) [x, y] H (op a b) := fun H1 e Q q E => ⟨x, y, a, b, rfl, hx.up e, hy.up e, fa, fb, fun v H2 e2 h2 => q v H2 e2 h2⟩
/-- all the defs that shape_of calls -/
structure ShT (K : PySem.W.Frag) (mg : Str → Option Value) (C fI fS fP fL fQ fO fX aL : Addr) (dI dS dP dL dQ dO dX : FuncData) : Prop where
  cls : ShC K mg C fI dI
  Sh : Fun K "shape_of" "shape_of" sShape fS dS
  Shs : Fun K "shapes_of_parts" "shapes_of_parts" sShapes fP dP
  Lv : Fun K "leaves" "leaves" sLeaves fL dL
  Sq : Fun K "in_sequence" "in_sequence" sSeq fQ dQ
  Co : Fun K "in_choice" "in_choice" sCho fO dO
  Cr : Fun K "crossed" "crossed" sCross fX dX
  gSh : mg "shape_of" = some (.ref fS)
  gShs : mg "shapes_of_parts" = some (.ref fP)
  gLv : mg "leaves" = some (.ref fL)
  gSq : mg "in_sequence" = some (.ref fQ)
  gCo : mg "in_choice" = some (.ref fO)
  gCr : mg "crossed" = some (.ref fX)
  gK : mg "LEAF_KINDS" = some (.ref aL)
  kinds : ∀ H, SqT K H aL [.str "token", .str "block"]
  tuple : mg "tuple" = none
  len : mg "len" = none
theorem ok_shape {fS fP fL fQ fO fX aL : Addr} {dS dP dL dQ dO dX : FuncData} (T : ShT K mg C fI fS fP fL fQ fO fX aL dI dS dP dL dQ dO dX) : ∀ d : Nat, FnOk P w K mg base CX0 (2 * d + 4) fS dS ["expression", "first"] (spShape C d) := by
  have bS : Binds K dS ["expression", "first"] [] := T.Sh.binds fun _ _ _ _ _ _ us hl => match us, hl with | [_, _], _ => rfl
  have bP : Binds K dP ["expression", "first"] [] := T.Shs.binds fun _ _ _ _ _ _ us hl => match us, hl with | [_, _], _ => rfl
  have bL : Binds K dL ["expression"] [] := T.Lv.binds fun _ _ _ _ _ _ us hl => match us, hl with | [_], _ => rfl
  have bQ : Binds K dQ ["left", "right"] [] := T.Sq.binds fun _ _ _ _ _ _ us hl => match us, hl with | [_, _], _ => rfl
  have bO : Binds K dO ["left", "right"] [] := T.Co.binds fun _ _ _ _ _ _ us hl => match us, hl with | [_, _], _ => rfl
  have bX : Binds K dX ["lasts", "firsts"] [] := T.Cr.binds fun _ _ _ _ _ _ us hl => match us, hl with | [_, _], _ => rfl
  intro d
  induction d with
  | zero => exact ⟨fun vs H Q E ⟨_, _, _, _, _, _, _, h, _⟩ => absurd h (Nat.not_lt_zero _), fun _ _ _ _ _ _ _ _ _ _ _ _ _ ⟨_, _, _, _, _, _, _, h, _⟩ => absurd h (Nat.not_lt_zero _)⟩
  | succ d ih =>
    have GL : FnOk P w K mg base CX0 (2 * d + 4) fL dL ["expression"] (spLeaves d) := (ok_leaves T.Lv bL T.gLv T.tuple T.gK T.kinds d).mono (by omega)
    have GP : FnOk P w K mg base CX0 (2 * d + 5) fP dP ["expression", "first"] (spShapes C d) := ok_shapes T.Shs ih bS T.gSh T.Sh.kp GL bL T.gLv T.Lv.kp T.len
    have GQ : FnOk P w K mg base CX0 (2 * d + 5) fQ dQ ["left", "right"] (spTwo C Gr.Shp.seq) := ok_seq (k := 2 * d + 2) T.Sq T.cls T.Cr T.gCr T.tuple
    have GO : FnOk P w K mg base CX0 (2 * d + 5) fO dO ["left", "right"] (spTwo C Gr.Shp.cho) := ok_cho (k := 2 * d + 2) T.Co T.cls
    have GX : FnOk P w K mg base CX0 (2 * d + 5) fX dX ["lasts", "firsts"] spCross := ok_cross T.Cr T.tuple
    have GI : FnOk P w K mg base CX0 (2 * d + 4) fI dI ["self", "empty", "firsts", "lasts", "pairs"] (spShI C) := ok_shI T.cls
    have c := T.cls
    refine T.Sh.ok scShape (fun vs H Q E h => ?_) (fun cdv A outer s H vs Q E hr h => ?_)
    · obtain ⟨p, v, t, n, rfl, _⟩ := h
      rfl
    · obtain ⟨p, v, t, n, rfl, ht, hsm, hd, q⟩ := h
      refine ⟨_, pss_cons (ps_if (pt_cmpR op_in_seq (pe_ix ix_tup (pv 0) pe_int (fun _ _ => rfl)) (pe_glob (v := .ref aL) (by rfl) T.gK rfl) (by rfl))
          (pss_one (ps_ret (pe_make c.mks GI hr (by rfl) c.g (b_shI c) .nil pass0 (pa_cons pe_bl (pa_cons (pe_tup (pa_cons (pv 1) pa_nil)) (pa_cons (pe_tup (pa_cons (pv 1) pa_nil)) (pa_cons (pe_tup pa_nil) pa_nil))))))) pss_nil)
        (pss_cons (ps_set (i := 2) scShape.nd rfl (.inl rfl) (pe_call GP hr (by rfl) T.gShs T.Shs.kp bP .nil pass0 (pa_cons (pv 0) (pa_cons (pv 1) pa_nil))))
        (pss_cons (ps_set (i := 3) scShape.nd rfl (.inl rfl) (pe_ix ix_list (pv 2) pe_int (fun _ _ => rfl)))
        (pss_cons (ps_for PassesOwn.never rfl (pi_list (pe_slice sl_list (pv 2) (po_some pe_int) po_none)) (pg_name (i := 4) scShape.nd rfl (.inl rfl))
          (pss_one (ps_set (i := 3) scShape.nd rfl (.inl rfl) (pe_ifExp (pt_cmpR op_eq (pe_ix ix_tup (pv 0) pe_int (fun _ _ => rfl)) pe_str (nomark _)) (pe_call GQ hr (by rfl) T.gSq T.Sq.kp bQ .nil pass0 (pa_cons (pv 3) (pa_cons (pv 4) pa_nil))) (pe_call GO hr (by rfl) T.gCo T.Co.kp bO .nil pass0 (pa_cons (pv 3) (pa_cons (pv 4) pa_nil)))))))
        (pss_cons (ps_if (pt_cmpR op_eq (pe_ix ix_tup (pv 0) pe_int (fun _ _ => rfl)) pe_str (nomark _))
          (pss_one (ps_ret (pe_make c.mks GI hr (by rfl) c.g (b_shI c) .nil pass0 (pa_cons pe_bl (pa_cons (pe_fld (pv 3) rfl) (pa_cons (pe_fld (pv 3) rfl) (pa_cons (pe_op op_catA (pe_fld (pv 3) rfl) (pe_call GX hr (by rfl) T.gCr T.Cr.kp bX .nil pass0 (pa_cons (pe_fld (pv 3) rfl) (pa_cons (pe_fld (pv 3) rfl) pa_nil)))) pa_nil))))))) pss_nil)
        (pss_cons (ps_if (pt_cmpR op_eq (pe_ix ix_tup (pv 0) pe_int (fun _ _ => rfl)) pe_str (nomark _))
          (pss_one (ps_ret (pe_make c.mks GI hr (by rfl) c.g (b_shI c) .nil pass0 (pa_cons pe_bl (pa_cons (pe_fld (pv 3) rfl) (pa_cons (pe_fld (pv 3) rfl) (pa_cons (pe_fld (pv 3) rfl) pa_nil))))))) pss_nil)
        (pss_one (ps_ret (pv 3)))))))), ?_⟩
      have hfw := hsm.fw n
      cases ht with
      | @leaf a k x ne h =>
        refine q_when (et_test (ev_op (ev_op (ev_var rfl) ev_c (rv_ixT (st_of h) rfl)) ev_c (rv_isT (x := .str k) (T.kinds _) rfl (by decide)))) (fun hb H1 e1 => ?_) (fun hb => ?_)
        · refine s_retH (s := ⟨false, [n], [n], []⟩) (eh_make ev_c (ew_one rfl) (ew_one rfl) er_nil) fun z H2 e2 hz => ?_
          exact q z H2 (e1.trans e2) hz
        · rw [lk_in k hsm.1.1] at hb
          cases hb
      | @node a k vs ps ne h hall =>
        have ix : ∀ {H1 : Hp} {σ : L2.St}, Ex H H1 → σ[0]? = some (some (.ref a)) → Ev (tOp (rIxT K) (tVar 0) (tC (.int 0))) σ H1 (.str k) := fun e h0 => ev_op (ev_var h0) ev_c (rv_ixT (st_of (e _ _ h)) (atI_nat (j := 0) rfl))
        refine q_when (et_test (ev_op (ix (Ex.refl _) rfl) ev_c (rv_isT (x := .str k) (T.kinds _) rfl (by decide)))) (fun hb => ?_) (fun hb H1 e1 => ?_)
        · rw [nk_in k hsm.1.1] at hb
          cases hb
        · have hdd : Tr.deps ps + 1 < d + 1 := hd
          refine ⟨.ref a, rfl, .int (n : Int), rfl, p, .ref a, k, ps, n, rfl, .node ne (e1 _ _ h) (hall.up e1), hsm, by omega, fun l ws H2 e2 hl hws => ?_⟩
          have hne := hsm.1.2.1
          cases ps with
          | nil => exact absurd rfl hne
          | cons t0 r =>
            have e02 := e1.trans e2
            obtain ⟨hok0, hokr⟩ := hsm.1.2.2
            obtain ⟨hbg, hlv, hnn⟩ := hsm.2
            have hlv' : (Tr.lvs (t0 :: r)).length ≤ 20 := hlv
            rw [lvs_cons] at hlv'
            have hnn' : 1 + (t0.nn + Tr.nns r) ≤ 60 := hnn
            have hwl := hws.length
            rw [shps_len] at hwl
            have hbl : (t0 :: r).length ≤ Tr.bigs (t0 :: r) := big_len _
            have hbg' : 9 + Tr.bigs (t0 :: r) ≤ 400 := hbg
            cases hws with
            | @cons v0 vr _ _ h0 hr0 =>
              refine q_asg (v := v0) (ev_op (ev_var rfl) ev_c (rv_ixL (sq_of hl) (atI_nat (j := 0) rfl))) fun H3 e3 => ?_
              have hl3 := e3 _ _ hl
              refine ⟨.ref l, rfl, 1, rfl, l, _, rfl, sq_of hl3, fun sl nsl => ?_⟩
              rw [cut_1]
              have e4 := Ex.new (o := .lst vr) nsl
              have h04 := (h0.up e3).up e4
              have hr4 := (hr0.up e3).up e4
              have e034 := (e02.trans e3).trans e4
              obtain ⟨_, hb0⟩ := shp_bd 20 t0 n hok0 (by omega)
              have hn0 := nn_pos t0
              -- joined so far
              have bound : ∀ i, Fw 50 (((Tr.shps r (n + t0.lv.length)).take i).foldl (stepS k) (t0.shp n)) := by
                intro i
                have hti : (Tr.shps r (n + t0.lv.length)).take i = Tr.shps (r.take i) (n + t0.lv.length) := by
                  have : ∀ (ts : List Tr) (m i : Nat), (Tr.shps ts m).take i = Tr.shps (ts.take i) m := by
                    intro ts
                    induction ts with
                    | nil => intro m i; rw [List.take_nil]; exact List.take_nil
                    | cons x y ih2 =>
                      intro m i
                      cases i with
                      | zero => rfl
                      | succ i =>
                        show x.shp m :: (Tr.shps y (m + x.lv.length)).take i = x.shp m :: Tr.shps (y.take i) (m + x.lv.length)
                        rw [ih2]
                  exact this r _ i
                rw [hti]
                have hsub : (Tr.lvs (r.take i)).length ≤ (Tr.lvs r).length ∧ Tr.nns (r.take i) ≤ Tr.nns r ∧ Tr.oks (r.take i) := by
                  have : ∀ (ts : List Tr) (i : Nat), Tr.oks ts → (Tr.lvs (ts.take i)).length ≤ (Tr.lvs ts).length ∧ Tr.nns (ts.take i) ≤ Tr.nns ts ∧ Tr.oks (ts.take i) := by
                    intro ts
                    induction ts with
                    | nil => intro i h; rw [List.take_nil]; exact ⟨Nat.le_refl _, Nat.le_refl _, trivial⟩
                    | cons x y ih2 =>
                      intro i h
                      cases i with
                      | zero => exact ⟨Nat.zero_le _, Nat.zero_le _, trivial⟩
                      | succ i =>
                        obtain ⟨a1, a2, a3⟩ := ih2 i h.2
                        rw [List.take_succ_cons, lvs_cons, lvs_cons]
                        refine ⟨by omega, ?_, h.1, a3⟩
                        show x.nn + Tr.nns (y.take i) ≤ x.nn + Tr.nns y
                        omega
                  exact this r i hokr
                obtain ⟨s1, s2, s3⟩ := hsub
                obtain ⟨g1, g2, g3⟩ := fold_bd 20 k (r.take i) (n + t0.lv.length) _ _ _ s3 hb0 (by omega)
                have : 20 * 20 * (t0.nn - 1) + 20 * 20 * Tr.nns (r.take i) ≤ 20 * 20 * 59 := by
                  rw [← Nat.mul_add]
                  exact Nat.mul_le_mul_left _ (by omega)
                exact ⟨by omega, by omega, by omega⟩
              refine ⟨sl, rfl, ⟨_, sq_of upd_same⟩, for_list (xs := vr) (fun i σ H' => Ex (upd H3 sl (.lst vr)) H' ∧ ∃ x y, ShAt C H' x (((Tr.shps r (n + t0.lv.length)).take i).foldl (stepS k) (t0.shp n)) ∧ σ = [some (.ref a), some (.int (n : Int)), some (.ref l), some x, y])
                ⟨Ex.refl _, v0, none, h04, rfl⟩ (fun i σ H' _ x => sq_of (x.1 _ _ upd_same)) ?_ ?_⟩
              · rintro i x σ H' hx ⟨ei, y, y4, hy, rfl⟩
                obtain ⟨si, hsi, hxs⟩ := hr4.get hx
                have hxs' := hxs.up ei
                obtain ⟨ti, hti⟩ : ∃ ti, r[i]? = some ti := by
                  have : i < r.length := by
                    have h1 := (List.getElem?_eq_some_iff.mp hx).1
                    have h2 := hr4.length
                    rw [shps_len] at h2
                    omega
                  exact ⟨_, List.getElem?_eq_getElem this⟩
                have hsi2 := shps_get r (n + t0.lv.length) i ti hti
                rw [hsi] at hsi2
                cases hsi2
                have hsmi : Sml ti := by
                  have a1 := bigs_get hti
                  have a2 := nns_get hti
                  have a3 := lvs_get hti
                  have a4 : Tr.bigs (t0 :: r) = t0.big + 1 + Tr.bigs r := rfl
                  exact ⟨oks_get hokr hti, by omega, by omega, by omega⟩
                have hfi := hsmi.fw (n + t0.lv.length + (Tr.lvs (r.take i)).length)
                have eqn : ((Tr.shps r (n + t0.lv.length)).take (i + 1)).foldl (stepS k) (t0.shp n) = stepS k (((Tr.shps r (n + t0.lv.length)).take i).foldl (stepS k) (t0.shp n)) (ti.shp (n + t0.lv.length + (Tr.lvs (r.take i)).length)) := by
                  rw [List.take_add_one, hsi, List.foldl_append]
                  rfl
                rw [eqn]
                have ev : EvH C (tIf (tTest (tOp rEq (tOp (rIxT K) (tVar 0) (tC (.int 0))) (tC (.str "sequence")))) (tCall (spTwo C Gr.Shp.seq) [] E0 (tCons (tVar 3) (tCons (tVar 4) tNil))) (tCall (spTwo C Gr.Shp.cho) [] E0 (tCons (tVar 3) (tCons (tVar 4) tNil)))) [some (.ref a), some (.int (n : Int)), some (.ref l), some y, some x] H'
                    (stepS k (((Tr.shps r (n + t0.lv.length)).take i).foldl (stepS k) (t0.shp n)) (ti.shp (n + t0.lv.length + (Tr.lvs (r.take i)).length))) := by
                  refine eh_if (et_test (ev_op (ix (e034.trans ei) rfl) ev_c (rv_eq rfl))) (fun hb => ?_) (fun hb => ?_)
                  · rw [str_eq] at hb
                    have hs : ∀ a b, stepS k a b = Gr.Shp.seq a b := fun a b => by
                      unfold stepS
                      rw [if_pos (of_decide_eq_true hb)]
                    rw [hs]
                    exact eh_call (ea_cons (ev_var rfl) (ea_cons (ev_var rfl) ea_nil)) (twoV hy hxs' (bound i) hfi)
                  · rw [str_eq] at hb
                    have hs : ∀ a b, stepS k a b = Gr.Shp.cho a b := fun a b => by
                      unfold stepS
                      rw [if_neg (of_decide_eq_false hb)]
                    rw [hs]
                    exact eh_call (ea_cons (ev_var rfl) (ea_cons (ev_var rfl) ea_nil)) (twoV hy hxs' (bound i) hfi)
                exact ev H' (Ex.refl _) _ fun z H5 e5 hz => ⟨ei.trans e5, z, some x, hz, rfl⟩
              · rintro σ H5 ⟨e5, x, y4, hx, rfl⟩
                have hrl := hr4.length
                rw [hrl, List.take_length] at hx
                have bnd := bound (Tr.shps r (n + t0.lv.length)).length
                rw [List.take_length] at bnd
                have whole : (Tr.node k (t0 :: r)).shp n = wrapS k ((Tr.shps r (n + t0.lv.length)).foldl (stepS k) (t0.shp n)) := rfl
                rw [whole] at q
                generalize (Tr.shps r (n + t0.lv.length)).foldl (stepS k) (t0.shp n) = sj at hx bnd q
                obtain ⟨n1, n2, n3⟩ := bnd
                have bc : sj.ls.length * sj.fs.length ≤ 50 * 50 := Nat.mul_le_mul n2 n1
                have e05 := e034.trans e5
                refine q_when (et_test (ev_op (ix e05 rfl) ev_c (rv_eq rfl))) (fun hb H6 e6 => ?_) (fun hb H6 e6 => ?_)
                · rw [str_eq] at hb
                  have hx6 := hx.up e6
                  refine s_retH (s := sj.rep) (eh_make ev_c (ew_ff rfl hx6 c.cl c.nF) (ew_fl rfl hx6 c.cl c.nL) (er_cat (er_f rfl hx6 c.cl c.nP) (er_cross (ew_fl rfl hx6 c.cl c.nL) (ew_ff rfl hx6 c.cl c.nF) (by omega) (by omega)) (by rw [cross_len]; omega))) fun z H7 e7 hz => ?_
                  refine q z H7 ((e05.trans e6).trans e7) ?_
                  unfold wrapS
                  rw [if_pos (of_decide_eq_true hb)]
                  exact hz
                rw [str_eq] at hb
                refine q_when (et_test (ev_op (ix (e05.trans e6) rfl) ev_c (rv_eq rfl))) (fun hb2 H7 e7 => ?_) (fun hb2 H7 e7 => ?_)
                · rw [str_eq] at hb2
                  have hx7 := (hx.up e6).up e7
                  refine s_retH (s := sj.opt) (eh_make ev_c (ew_ff rfl hx7 c.cl c.nF) (ew_fl rfl hx7 c.cl c.nL) (er_f rfl hx7 c.cl c.nP)) fun z H8 e8 hz => ?_
                  refine q z H8 (((e05.trans e6).trans e7).trans e8) ?_
                  unfold wrapS
                  rw [if_neg (of_decide_eq_false hb), if_pos (of_decide_eq_true hb2)]
                  exact hz
                · rw [str_eq] at hb2
                  refine ⟨x, rfl, q x H7 ((e05.trans e6).trans e7) ?_⟩
                  unfold wrapS
                  rw [if_neg (of_decide_eq_false hb), if_neg (of_decide_eq_false hb2)]
                  exact (hx.up e6).up e7
end
end K04
namespace K04
open PySem PySem.Spec PyProof.Rows L2 Evl Es
section
variable {P : Program} {w : World} {K : PySem.W.Frag} {mg : Str → Option Value} {base : Heap} {C fI : Addr} {dI : FuncData}
def spNext (d : Nat) : Sp := fun vs H Q _ => ∃ (p : Addr) (v : V) (t : Tr) (k : Nat), vs = [v, .int (k : Int)] ∧ TrAt p H v t ∧ Sml t ∧ t.uno ∧ t.dep < d ∧
  ∀ a ns H', Ex H H' → H' a = some (.tup (nums ns)) → Behind (t.shp 1) k ns → Q (.ref a) H'
def spMay (d : Nat) : Sp := fun vs H Q _ => ∃ (p : Addr) (v : V) (t : Tr) (k : Nat), vs = [v, .int (k : Int)] ∧ TrAt p H v t ∧ Sml t ∧ t.dep < d ∧ RetV (.bl (endB (t.shp 1) k)) H Q
theorem ok_next {f fS fN : Addr} {fd dS dN : FuncData} {d lv : Nat} (F : Fun K "next_leaves" "next_leaves" sNext f fd)
    (GS : FnOk P w K mg base CX0 lv fS dS ["expression", "first"] (spShape C d)) (bS : Binds K dS ["expression", "first"] []) (gS : mg "shape_of" = some (.ref fS)) (kS : PySem.W.keepIn K (.ref fS) = true)
    (GN : FnOk P w K mg base CX0 lv fN dN ["shape", "number"] (spNum C)) (bN : Binds K dN ["shape", "number"] []) (gN : mg "numbers_behind" = some (.ref fN)) (kN : PySem.W.keepIn K (.ref fN) = true) :
    FnOk P w K mg base CX0 (lv + 1) f fd ["expression", "number"] (spNext d) := by
  refine F.ok scNext (fun vs H Q E h => ?_) (fun cdv A outer s H vs Q E hr h => ?_)
  · obtain ⟨p, v, t, k, rfl, _⟩ := h
    rfl
  · obtain ⟨p, v, t, k, rfl, ht, hs, hu, hd, q⟩ := h
    refine ⟨_, pss_one (ps_ret (pe_call GN hr (by rfl) gN kN bN .nil pass0 (pa_cons (pe_call GS hr (by rfl) gS kS bS .nil pass0 (pa_cons (pv 0) (pa_cons pe_int pa_nil))) (pa_cons (pv 1) pa_nil)))), ?_⟩
    refine ⟨v, rfl, p, v, t, 1, rfl, ht, hs, hd, fun x H1 e1 hx => ?_⟩
    have hf := hs.fw 1
    have hup := shp_up t 1 hs.1
    have hb := (node_tr t 0 1 hs.1 hu).box.bp
    obtain ⟨h1, h2, h3, h4⟩ := hs
    obtain ⟨f1, f2, f3⟩ := hf
    refine ⟨.int (k : Int), rfl, x, k, t.shp 1, rfl, hx, hup.1, by omega, ⟨21, by decide, fun z hz => ?_⟩, by omega, fun a ns H2 e2 ha hns => q a ns H2 (e1.trans e2) ha hns⟩
    have := (hb z hz).2
    rw [lfs_len] at this
    omega
theorem ok_may {f fS fN : Addr} {fd dS dN : FuncData} {d lv : Nat} (F : Fun K "may_end" "may_end" sMay f fd)
    (GS : FnOk P w K mg base CX0 lv fS dS ["expression", "first"] (spShape C d)) (bS : Binds K dS ["expression", "first"] []) (gS : mg "shape_of" = some (.ref fS)) (kS : PySem.W.keepIn K (.ref fS) = true)
    (GN : FnOk P w K mg base CX0 lv fN dN ["shape", "number"] (spEnds C)) (bN : Binds K dN ["shape", "number"] []) (gN : mg "ends_behind" = some (.ref fN)) (kN : PySem.W.keepIn K (.ref fN) = true) :
    FnOk P w K mg base CX0 (lv + 1) f fd ["expression", "number"] (spMay d) := by
  refine F.ok scMay (fun vs H Q E h => ?_) (fun cdv A outer s H vs Q E hr h => ?_)
  · obtain ⟨p, v, t, k, rfl, _⟩ := h
    rfl
  · obtain ⟨p, v, t, k, rfl, ht, hs, hd, q⟩ := h
    refine ⟨_, pss_one (ps_ret (pe_call GN hr (by rfl) gN kN bN .nil pass0 (pa_cons (pe_call GS hr (by rfl) gS kS bS .nil pass0 (pa_cons (pv 0) (pa_cons pe_int pa_nil))) (pa_cons (pv 1) pa_nil)))), ?_⟩
    exact ⟨v, rfl, p, v, t, 1, rfl, ht, hs, hd, fun x H1 e1 hx => ⟨.int (k : Int), rfl, x, k, t.shp 1, rfl, hx, fun H2 e2 => q H2 (e1.trans e2)⟩⟩
/-- what the two say, of the graph -/
theorem asc_eq : ∀ {xs ys : List Nat}, xs.Pairwise (· < ·) → ys.Pairwise (· < ·) → (∀ m, m ∈ xs ↔ m ∈ ys) → xs = ys
  | [], [], _, _, _ => rfl
  | [], y :: r, _, _, h => nomatch (h y).mpr (List.mem_cons_self ..)
  | x :: r, [], _, _, h => nomatch (h x).mp (List.mem_cons_self ..)
  | x :: r, y :: z, hx, hy, h => by
    obtain ⟨x1, x2⟩ := List.pairwise_cons.mp hx
    obtain ⟨y1, y2⟩ := List.pairwise_cons.mp hy
    have e : x = y := by
      rcases List.mem_cons.mp ((h x).mp (List.mem_cons_self ..)) with z1 | z1
      · exact z1
      · rcases List.mem_cons.mp ((h y).mpr (List.mem_cons_self ..)) with z2 | z2
        · exact z2.symm
        · have := y1 x z1
          have := x1 y z2
          omega
    subst e
    rw [asc_eq x2 y2 fun m => ⟨fun hm => ?_, fun hm => ?_⟩]
    · rcases List.mem_cons.mp ((h m).mp (List.mem_cons_of_mem _ hm)) with z1 | z1
      · have := x1 m hm
        omega
      · exact z1
    · rcases List.mem_cons.mp ((h m).mpr (List.mem_cons_of_mem _ hm)) with z1 | z1
      · have := y1 m hm
        omega
      · exact z1
/-- the node where the way behind leaf k begins -/
def startN (t : Tr) (k : Nat) (x : Nat) : Prop := (k = 0 ∧ x = 0) ∨ ∃ b, (t.lfs 0)[k - 1]? = some b ∧ 1 ≤ k ∧ x = b + 1
theorem behind_graph {t : Tr} (h1 : t.ok) (h2 : t.uno) {k x : Nat} {ns : List Nat} (h : Behind (t.shp 1) k ns) (hx : startN t k x) {R : Nat → Bool} (hR : ∀ y, R y = true ↔ Gr.Rc (t.eds 0) x y) :
    ns = (List.range' 1 (t.lfs 0).length).filter (fun m => (t.lfs 0)[m - 1]?.any R) := by
  have N := (node_tr t 0 1 h1 h2).box
  obtain ⟨ha, hm⟩ := h
  refine asc_eq ha (List.Pairwise.filter _ (List.pairwise_lt_range' ..)) fun m => ?_
  rw [hm, List.mem_filter, List.mem_range'_1]
  have key : ∀ m, 1 ≤ m → m < 1 + (t.lfs 0).length → ((if k = 0 then m ∈ (t.shp 1).fs else (k, m) ∈ (t.shp 1).ps) ↔ (t.lfs 0)[m - 1]?.any R = true) := by
    intro m m1 m2
    have hlt : m - 1 < (t.lfs 0).length := by omega
    have hg : (t.lfs 0)[m - 1]? = some ((t.lfs 0)[m - 1]) := List.getElem?_eq_getElem hlt
    have e1 : 1 + (m - 1) = m := by omega
    rw [hg]
    show _ ↔ R _ = true
    rw [hR]
    rcases hx with ⟨rfl, rfl⟩ | ⟨b, hb, k1, rfl⟩
    · rw [if_pos rfl]
      have := N.fst _ _ hg
      rw [e1] at this
      exact this.symm
    · rw [if_neg (by omega)]
      have := N.prs _ _ _ _ hb hg
      rw [e1, show 1 + (k - 1) = k by omega] at this
      exact this.symm
  constructor
  · intro z
    have bd : 1 ≤ m ∧ m < 1 + (t.lfs 0).length := by
      by_cases k0 : k = 0
      · rw [if_pos k0] at z
        exact N.bf m z
      · rw [if_neg k0] at z
        exact (N.bp _ z).2
    exact ⟨bd, (key m bd.1 bd.2).mp z⟩
  · intro z
    exact (key m z.1.1 z.1.2).mpr z.2
theorem ends_graph {t : Tr} (h1 : t.ok) (h2 : t.uno) {k x : Nat} (hx : startN t k x) {R : Nat → Bool} (hR : ∀ y, R y = true ↔ Gr.Rc (t.eds 0) x y) : endB (t.shp 1) k = R 1 := by
  have N := (node_tr t 0 1 h1 h2).box
  have : endB (t.shp 1) k = true ↔ R 1 = true := by
    rw [hR]
    unfold endB
    rcases hx with ⟨rfl, rfl⟩ | ⟨b, hb, k1, rfl⟩
    · rw [if_pos rfl]
      exact N.emp.symm
    · rw [if_neg (by omega)]
      have := N.lst _ _ hb
      rw [show 1 + (k - 1) = k by omega] at this
      exact decide_eq_true_iff.trans this.symm
  cases e1 : endB (t.shp 1) k with
  | true => exact (this.mp e1).symm
  | false =>
    cases e2 : R 1 with
    | true => rw [this.mpr e2] at e1; cases e1
    | false => rfl
end
end K04
namespace K04
open PySem PySem.Spec PyProof.Rows L2 Evl Es
abbrev nReach : List Str := ["_law_edges", "_law_starts", "_law_found", "_law_waiting", "_law_node"]
theorem scReach : FnScope nReach ["_law_edges", "_law_starts"] (defScope sReach) := ⟨rfl, rfl, rfl, by decide +kernel, rfl, by decide +kernel, by decide +kernel⟩
/-- the dict of edges at F -/
def FreeAt (H : Hp) (F : Addr) (E : Gr.Ed) : Prop := ∃ kvs : List (Key × V), H F = some (.dK kvs) ∧ kvs.length ≤ 1000 ∧ ∀ x : Nat, (valV kvs (Sum.inl (x : Int)) = none ∧ ∀ y, (x, y) ∉ E) ∨
  ∃ l ys, valV kvs (Sum.inl (x : Int)) = some (.ref l) ∧ H l = some (.lst (nums ys)) ∧ ys.length ≤ 100 ∧ ∀ y, (x, y) ∈ E ↔ y ∈ ys
theorem FreeAt.up {H H' : Hp} {F : Addr} {E : Gr.Ed} (h : FreeAt H F E) (e : Ex H H') : FreeAt H' F E := by
  obtain ⟨kvs, h1, hl, h2⟩ := h
  refine ⟨kvs, e _ _ h1, hl, fun x => ?_⟩
  rcases h2 x with z | ⟨l, ys, a, b, c⟩
  · exact .inl z
  · exact .inr ⟨l, ys, a, e _ _ b, c⟩
def trues (S : List Nat) : List (Key × V) := S.map fun (x : Nat) => (Sum.inl (x : Int), V.bl true)
theorem trues_val (k : Nat) : ∀ S : List Nat, valV (trues S) (Sum.inl (k : Int)) = if k ∈ S then some (.bl true) else none
  | [] => rfl
  | x :: r => by
    show valV ((Sum.inl (x : Int), V.bl true) :: trues r) (Sum.inl (k : Int)) = _
    by_cases h : x = k
    · subst h
      rw [valV_pos rfl, if_pos (List.mem_cons_self ..)]
    · rw [valV_neg (fun z => h (by have := Sum.inl.inj z; omega)), trues_val k r]
      by_cases h2 : k ∈ r
      · rw [if_pos h2, if_pos (List.mem_cons_of_mem _ h2)]
      · rw [if_neg h2, if_neg (fun z => (List.mem_cons.mp z).elim (fun y => h y.symm) h2)]
theorem trues_some (k : Nat) (S : List Nat) : (valV (trues S) (Sum.inl (k : Int))).isSome = decide (k ∈ S) := by
  rw [trues_val]
  by_cases h : k ∈ S
  · rw [if_pos h, decide_eq_true h]
    rfl
  · rw [if_neg h, decide_eq_false h]
    rfl
def spReach : Sp := fun vs H Q _ => ∃ (F st : Addr) (E : Gr.Ed) (x : Nat), vs = [.ref F, .ref st] ∧ FreeAt H F E ∧ H st = some (.lst [.int (x : Int)]) ∧ x < 64 ∧ (∀ a b, (a, b) ∈ E → b < 64) ∧
  ∀ d S H', Ex H H' → H d = none → H' d = some (.dK (trues S)) → (∀ y, y ∈ S ↔ Gr.Rc E x y) → Q (.ref d) H'
/-- what a heap holds there, counted -/
def cntD (H : Hp) (d : Addr) : Nat := match H d with | some (.dK kvs) => kvs.length | _ => 0
def cntL (H : Hp) (l : Addr) : Nat := match H l with | some (.lst xs) => xs.length | _ => 0
def intsD (ws : List Nat) : List PyData := ws.map fun (n : Nat) => PyData.int (n : Int)
theorem intsD_can : ∀ ws : List Nat, PyData.canLayAll0 (intsD ws) = true
  | [] => rfl
  | n :: r => by
    show (PyData.canLay0 (.int (n : Int)) && PyData.canLayAll0 (intsD r)) = true
    rw [intsD_can r]
    rfl
theorem intsD_dep : ∀ ws : List Nat, PyData.depthAll (intsD ws) ≤ 1
  | [] => by decide
  | n :: r => by
    have := intsD_dep r
    show max (PyData.depth (.int (n : Int))) (PyData.depthAll (intsD r)) ≤ 1
    have h : PyData.depth (.int (n : Int)) ≤ 1 := by
      simp [PyData.depth]
    omega
theorem intsD_shaped (ws : List Nat) : SeqAt.shaped (.list (intsD ws)) = true := by
  have h1 := intsD_can ws
  have h2 := intsD_dep ws
  unfold SeqAt.shaped
  have h3 : PyData.depth (.list (intsD ws)) ≤ 64 := by
    simp only [PyData.depth]
    omega
  rw [decide_eq_true h3, Bool.and_true]
  exact h1
theorem dp_nums {K : PySem.W.Frag} {H : Hp} : ∀ ws : List Nat, DpAll K H (nums ws) (intsD ws)
  | [] => .nil
  | n :: r => .cons (.int _) (dp_nums r)
theorem nums_snoc (us : List Nat) (m : Nat) : nums (us ++ [m]) = nums us ++ [.int (m : Int)] := List.map_append
theorem putT (S : List Nat) (k : Nat) (h : k ∉ S) : putK (trues S) (Sum.inl (k : Int)) (.bl true) = trues (S ++ [k]) := by
  rw [putK_new]
  · unfold trues
    rw [List.map_append]
    rfl
  · rw [trues_val, if_neg h]
section
variable {P : Program} {w : World} {K : PySem.W.Frag} {mg : Str → Option Value} {base : Heap}
theorem ok_reach {f : Addr} {fd : FuncData} {k : Nat} (F : Fun K "_law_reached" "_law_reached" sReach f fd) (mL : mg "list" = none) : FnOk P w K mg base CX0 (k + 1) f fd ["_law_edges", "_law_starts"] spReach := by
  refine F.ok scReach (fun vs H Q E h => ?_) (fun cdv A outer s H vs Q E hr h => ?_)
  · obtain ⟨F, st, E, x, rfl, _⟩ := h
    rfl
  · obtain ⟨F, st, E, x, rfl, hF, hst, hx, hE, q⟩ := h
    have hu := hu_of hr
    refine ⟨_, pss_cons (ps_par rfl scReach.nd rfl rfl (by decide) rfl rfl (i := 2) (j := 3) (pa_cons pe_dnewK (pa_cons (pe_callTy call_list_of (by rfl) mL (by decide +kernel) (pa_cons (pv 1) pa_nil)) pa_nil)) (by rfl))
      (pss_cons (ps_while PassesOwn.never (pt_cmpR (op_neD hr.units) (pv 3) (pe_lst pa_nil) (nomark _))
        (pss_cons (ps_set (i := 4) scReach.nd rfl (.inl rfl) (pe_bm0 PySem.F.plainAttrs_list PySem.F.slot_list_pop PySem.F.type_list_pop mt_pop (pv 3)))
        (pss_one (ps_if (pt_cmp (pc_dnotin hu (pv 4) (pv 2)))
          (pss_cons (ps_dput hu (pv 2) (pv 4) pe_bl rfl)
          (pss_one (ps_expr (pe_bm PySem.F.plainAttrs_list PySem.F.slot_list_extend PySem.F.type_list_extend mt_extend (pv 3) (pa_cons (pe_dget2 hu (pv 0) (pv 4) (pe_lst pa_nil) ⟨rfl, rfl, rfl, rfl⟩) pa_nil))))) pss_nil))))
      (pss_one (ps_ret (pv 2)))), ?_⟩
    refine fun d nd => ⟨.ref st, rfl, st, _, rfl, .inl (sq_of ((Ex.new nd) _ _ hst)), fun l nl => ⟨.ref d, .ref l, rfl, ?_⟩⟩
    have e1 := Ex.new (o := .dK []) nd
    have e2 := Ex.new (o := .lst [.int (x : Int)]) nl
    have hdl : d ≠ l := fun z => by
      subst z
      rw [upd_same] at nl
      cases nl
    have hd0 : H d = none := nd
    have hl0 : H l = none := fresh_back e1 nl
    have hFd : F ≠ d := fun z => by
      obtain ⟨kvs, h, _⟩ := hF
      rw [z, nd] at h
      cases h
    refine while_by (fun σ H' => ∃ (S ws : List Nat) (y : Option V), σ = [some (.ref F), some (.ref st), some (.ref d), some (.ref l), y] ∧ Ex H H' ∧ H' d = some (.dK (trues S)) ∧ H' l = some (.lst (nums ws)) ∧ S.Nodup ∧ (∀ z ∈ S, Gr.Rc E x z) ∧ (∀ z ∈ ws, Gr.Rc E x z) ∧ (x ∈ S ∨ x ∈ ws) ∧ (∀ a ∈ S, ∀ b, (a, b) ∈ E → b ∈ S ∨ b ∈ ws) ∧ (∀ z ∈ S, z < 64) ∧ (∀ z ∈ ws, z < 64) ∧ ws.length ≤ 1 + 100 * S.length)
      (fun σ H' => (7000 - 101 * cntD H' d) + cntL H' l) ?_ ?_ ?_
    · refine ⟨[], [x], none, rfl, e1.trans e2, e2 _ _ upd_same, upd_same, .nil, (fun _ h => nomatch h), fun z hz => ?_, .inr (List.mem_singleton.mpr rfl), (fun _ h => nomatch h), (fun _ h => nomatch h), fun z hz => ?_, by show 1 ≤ 1 + 100 * 0; decide⟩
      · cases List.mem_singleton.mp hz
        exact .refl _
      · cases List.mem_singleton.mp hz
        exact hx
    · rintro σ H' ⟨S, ws, y, rfl, ei, hd, hl, snd, sR, wR, hin, hcl, s64, w64, hlen⟩
      have hS : S.length ≤ 64 := by
        have := List.Nodup.length_le_of_subset (l₂ := List.range 64) snd fun z hz => List.mem_range.mpr (s64 z hz)
        rwa [List.length_range] at this
      refine ⟨.ref l, rfl, sz_of (by decide), fun p np => ?_⟩
      have e3 := Ex.new (o := .lst []) np
      refine ⟨.list (intsD ws), .list [], .lst (sq_of (e3 _ _ hl)) (dp_nums ws), .lst (sq_of upd_same) .nil, intsD_shaped ws, rfl, _, rfl, ?_⟩
      have hd3 := e3 _ _ hd
      have hl3 := e3 _ _ hl
      have ei3 := ei.trans e3
      generalize upd H' p (.lst []) = H3 at hd3 hl3 ei3
      rcases List.eq_nil_or_concat ws with rfl | ⟨us, m, rfl⟩
      · -- done
        refine ite2 (fun hb => absurd hb (by decide)) fun _ => ?_
        refine ⟨.ref d, rfl, q d S H3 ei3 hd0 hd3 fun z => ⟨sR z, fun hz => ?_⟩⟩
        have : ∀ {a b}, Gr.Rc E a b → a ∈ S → b ∈ S := fun {a b} h ha => h.shut (fun c => c ∈ S) (fun a b e ha => (hcl a ha b e).elim id (fun h => nomatch h)) ha
        exact this hz (hin.elim id (fun h => nomatch h))
      · have hne : (!PyData.eqv (.list (intsD (us.concat m))) (.list [])) = true := by
          cases us <;> rfl
        refine ite2 (fun _ => ?_) fun hb => absurd hne hb
        rw [List.concat_eq_append] at hl3 hl wR hin hcl w64 hlen
        rw [nums_snoc] at hl3 hl
        have hul : (nums us).length = us.length := List.length_map ..
        have hlast : (nums us ++ [V.int (m : Int)])[(nums us ++ [V.int (m : Int)]).length - 1]? = some (.int (m : Int)) := by
          rw [List.length_append, List.getElem?_append_right (by rw [List.length_singleton]; omega)]
          rw [show (nums us).length + [V.int (m : Int)].length - 1 - (nums us).length = 0 by rw [List.length_singleton]; omega]
          rfl
        refine ⟨.ref l, rfl, .inl ⟨rfl, _, sq_of hl3⟩, l, _, .int (m : Int), rfl, rfl, hl3, hlast, ?_⟩
        rw [List.dropLast_concat]
        have ei4 : Ex H (upd H3 l (.lst (nums us))) := Ex.mut ei3 hl0
        have hd4 : (upd H3 l (.lst (nums us))) d = some (.dK (trues S)) := by
          rw [upd_ne hdl]
          exact hd3
        have hl4 : (upd H3 l (.lst (nums us))) l = some (.lst (nums us)) := upd_same
        have c1 : cntD H' d = S.length := by
          unfold cntD
          rw [hd]
          exact List.length_map ..
        have c2 : cntL H' l = us.length + 1 := by
          unfold cntL
          rw [hl]
          show (nums us ++ [V.int (m : Int)]).length = _
          rw [List.length_append, hul]
          rfl
        rw [c1, c2]
        generalize upd H3 l (.lst (nums us)) = H4 at ei4 hd4 hl4 ⊢
        have hml : m ∈ us ++ [m] := List.mem_append.mpr (.inr (List.mem_singleton.mpr rfl))
        have hm64 := w64 m hml
        have hmR := wR m hml
        rw [List.length_append, List.length_singleton] at hlen
        refine ⟨.int (m : Int), rfl, .ref d, rfl, d, _, rfl, DGet.k (k := Sum.inl (m : Int)) hd4, _, rfl, ite2 (fun hb => ?_) (fun hb => ?_)⟩
        · rw [trues_some] at hb
          have hmS : m ∉ S := of_decide_eq_false (by cases h : decide (m ∈ S) with
            | true => rw [h] at hb; cases hb
            | false => rfl)
          have snd' : (S ++ [m]).Nodup := List.nodup_append.mpr ⟨snd, List.pairwise_singleton _ m, fun a ha b hb2 z => hmS (by rw [← List.mem_singleton.mp hb2, ← z]; exact ha)⟩
          have s64' : ∀ z ∈ S ++ [m], z < 64 := fun z hz => (List.mem_append.mp hz).elim (s64 z) fun h => by
            cases List.mem_singleton.mp h
            exact hm64
          have hS' : S.length + 1 ≤ 64 := by
            have := List.Nodup.length_le_of_subset (l₂ := List.range 64) snd' fun z hz => List.mem_range.mpr (s64' z hz)
            rwa [List.length_range, List.length_append] at this
          refine ⟨.ref d, rfl, .int (m : Int), rfl, d, _, rfl, DPut.k (k := Sum.inl (m : Int)) hd4 (sz_lt (by rw [show (trues S).length = S.length from List.length_map ..]; omega)), ?_⟩
          rw [putT S m hmS]
          have ei5 : Ex H (upd H4 d (.dK (trues (S ++ [m])))) := Ex.mut ei4 hd0
          have hd5 : (upd H4 d (.dK (trues (S ++ [m])))) d = some (.dK (trues (S ++ [m]))) := upd_same
          have hl5 : (upd H4 d (.dK (trues (S ++ [m])))) l = some (.lst (nums us)) := by
            rw [upd_ne hdl.symm]
            exact hl4
          generalize upd H4 d (.dK (trues (S ++ [m]))) = H5 at ei5 hd5 hl5 ⊢
          have hF5 := hF.up ei5
          refine ⟨.ref l, rfl, .inl ⟨rfl, _, sq_of hl5⟩, .ref F, rfl, F, rfl, ?_, .int (m : Int), rfl, sz_of (by decide), fun p2 np2 => ?_⟩
          · obtain ⟨kvs, h, _⟩ := hF5
            exact .inl ⟨kvs, .inl h⟩
          have e6 := Ex.new (o := .lst []) np2
          have key : ∃ o b ys, DGet (upd H5 p2 (.lst [])) F (kV (Sum.inl (m : Int))) o ∧ o.getD (.ref p2) = .ref b ∧ (upd H5 p2 (.lst [])) b = some (.lst (nums ys)) ∧ ys.length ≤ 100 ∧ ∀ y, (m, y) ∈ E ↔ y ∈ ys := by
            obtain ⟨kvs, h, _, hv⟩ := hF5
            rcases hv m with ⟨h1, h2⟩ | ⟨l2, ys, h1, h2, h3, h4⟩
            · exact ⟨none, p2, [], by rw [← h1]; exact DGet.k (k := Sum.inl (m : Int)) (e6 _ _ h), rfl, upd_same, by decide, fun y => ⟨fun z => absurd z (h2 y), fun z => nomatch z⟩⟩
            · exact ⟨some (.ref l2), l2, ys, by rw [← h1]; exact DGet.k (k := Sum.inl (m : Int)) (e6 _ _ h), rfl, e6 _ _ h2, h3, h4⟩
          obtain ⟨o, b, ys, hg, ho, hb6, hys, hyE⟩ := key
          have hyl : (nums ys).length = ys.length := List.length_map ..
          refine ⟨o, hg, l, b, nums us, nums ys, rfl, by rw [ho], e6 _ _ hl5, hb6, sz_of (by rw [hul, hyl]; omega), ?_⟩
          rw [show nums us ++ nums ys = nums (us ++ ys) from List.map_append.symm]
          refine ⟨⟨S ++ [m], us ++ ys, some (.int (m : Int)), rfl, Ex.mut (ei5.trans e6) hl0, by rw [upd_ne hdl]; exact e6 _ _ hd5, upd_same, snd', fun z hz => (List.mem_append.mp hz).elim (sR z) fun h => ?_, fun z hz => (List.mem_append.mp hz).elim (fun h => wR z (List.mem_append.mpr (.inl h))) fun h => ?_, ?_, fun a ha c hac => ?_, s64', fun z hz => (List.mem_append.mp hz).elim (fun h => w64 z (List.mem_append.mpr (.inl h))) fun h => ?_, ?_⟩, ?_⟩
          · cases List.mem_singleton.mp h
            exact hmR
          · exact hmR.trans (Gr.Rc.edge ((hyE z).mpr h))
          · rcases hin with h | h
            · exact .inl (List.mem_append.mpr (.inl h))
            · rcases List.mem_append.mp h with h | h
              · exact .inr (List.mem_append.mpr (.inl h))
              · exact .inl (List.mem_append.mpr (.inr h))
          · rcases List.mem_append.mp ha with h | h
            · rcases hcl a h c hac with h | h
              · exact .inl (List.mem_append.mpr (.inl h))
              · rcases List.mem_append.mp h with h | h
                · exact .inr (List.mem_append.mpr (.inl h))
                · exact .inl (List.mem_append.mpr (.inr h))
            · cases List.mem_singleton.mp h
              exact .inr (List.mem_append.mpr (.inr ((hyE c).mp hac)))
          · exact hE m z ((hyE z).mpr h)
          · rw [List.length_append, List.length_append, List.length_singleton]
            omega
          · have d1 : cntD (upd (upd H5 p2 (.lst [])) l (.lst (nums (us ++ ys)))) d = S.length + 1 := by
              unfold cntD
              rw [upd_ne hdl, e6 _ _ hd5]
              show (trues (S ++ [m])).length = _
              rw [show (trues (S ++ [m])).length = (S ++ [m]).length from List.length_map .., List.length_append]
              rfl
            have d2 : cntL (upd (upd H5 p2 (.lst [])) l (.lst (nums (us ++ ys)))) l = us.length + ys.length := by
              unfold cntL
              rw [upd_same]
              show (nums (us ++ ys)).length = _
              rw [show (nums (us ++ ys)).length = (us ++ ys).length from List.length_map .., List.length_append]
            rw [d1, d2]
            omega
        · rw [trues_some] at hb
          have hmS : m ∈ S := of_decide_eq_true (by cases h : decide (m ∈ S) with
            | true => rfl
            | false => rw [h] at hb; exact absurd rfl hb)
          refine ⟨⟨S, us, some (.int (m : Int)), rfl, ei4, hd4, hl4, snd, sR, fun z hz => wR z (List.mem_append.mpr (.inl hz)), ?_, fun a ha c hac => ?_, s64, fun z hz => w64 z (List.mem_append.mpr (.inl hz)), by omega⟩, ?_⟩
          · rcases hin with h | h
            · exact .inl h
            · rcases List.mem_append.mp h with h | h
              · exact .inr h
              · cases List.mem_singleton.mp h
                exact .inl hmS
          · rcases hcl a ha c hac with h | h
            · exact .inl h
            · rcases List.mem_append.mp h with h | h
              · exact .inr h
              · cases List.mem_singleton.mp h
                exact .inl hmS
          · have d1 : cntD H4 d = S.length := by
              unfold cntD
              rw [hd4]
              exact List.length_map ..
            have d2 : cntL H4 l = us.length := by
              unfold cntL
              rw [hl4]
              exact hul
            rw [d1, d2]
            omega
    · rintro σ H' Q1 Q2 hq ⟨v, hv, hsz, h⟩
      exact ⟨v, hv, hsz, fun a ha => let ⟨d, e, h1, h2, h3, h4, b, hb, hQ⟩ := h a ha; ⟨d, e, h1, h2, h3, h4, b, hb, hq b _ hQ⟩⟩
end
end K04
namespace K04
open PySem PySem.Spec PyProof.Rows L2 Evl Es
abbrev nNodes : List Str := ["_law_graph_here", "_law_expression_here", "_law_begin", "_law_end", "_law_free", "_law_kind", "_law_ends", "_law_edges", "_law_one", "_law_two", "_law_part"]
theorem scNodes : FnScope nNodes ["_law_graph_here", "_law_expression_here"] (defScope sNodes) := ⟨rfl, rfl, rfl, by decide +kernel, rfl, by decide +kernel, by decide +kernel⟩
/-- the edges so far, at most as many entries and successors as there are edges -/
def FreeB (H : Hp) (F : Addr) (E : Gr.Ed) : Prop := ∃ kvs : List (Key × V), H F = some (.dK kvs) ∧ kvs.length ≤ E.length ∧ ∀ x : Nat, (valV kvs (Sum.inl (x : Int)) = none ∧ ∀ y, (x, y) ∉ E) ∨
  ∃ l ys, valV kvs (Sum.inl (x : Int)) = some (.ref l) ∧ H l = some (.lst (nums ys)) ∧ ys.length ≤ E.length ∧ ys ≠ [] ∧ ∀ y, (x, y) ∈ E ↔ y ∈ ys
/-- the leaves so far -/
def LeafAt (H : Hp) (L : Addr) (Ls : List Nat) : Prop := ∃ kvs : List (Key × V), H L = some (.dK kvs) ∧ kvs.map (·.1) = (List.range' 1 Ls.length).map (fun (i : Nat) => (Sum.inl (i : Int) : Key)) ∧
  ∀ (i b : Nat), Ls[i]? = some b → ∃ a v, valV kvs (Sum.inl ((i + 1 : Nat) : Int)) = some (.ref a) ∧ H a = some (.tup [.int (b : Int), .int ((b + 1 : Nat) : Int), v])
def grD (F L : Addr) (sz : Nat) : List (Key × V) := [(Sum.inr "free", .ref F), (Sum.inr "leaf", .ref L), (Sum.inr "size", .int (sz : Int))]
structure Gst (H : Hp) (G F L : Addr) (sz : Nat) (E : Gr.Ed) (Ls : List Nat) : Prop where
  gf : G ≠ F
  gl : G ≠ L
  fl : F ≠ L
  g : H G = some (.dK (grD F L sz))
  f : FreeB H F E
  l : LeafAt H L Ls
/-- all else stays -/
def Fm (G F L : Addr) (H H' : Hp) : Prop := ∀ a o, a ≠ G → a ≠ F → a ≠ L → H a = some o → H' a = some o
theorem Fm.refl {G F L : Addr} {H : Hp} : Fm G F L H H := fun _ _ _ _ _ h => h
theorem Fm.trans {G F L : Addr} {H H1 H2 : Hp} (h : Fm G F L H H1) (k : Fm G F L H1 H2) : Fm G F L H H2 := fun a o x y z e => k a o x y z (h a o x y z e)
theorem Fm.ex {G F L : Addr} {H H1 : Hp} (h : Ex H H1) : Fm G F L H H1 := fun a o _ _ _ e => h a o e
theorem Fm.g {G F L : Addr} {H : Hp} {o : HO} : Fm G F L H (upd H G o) := fun a _ x _ _ e => by rw [upd_ne x]; exact e
theorem Fm.f {G F L : Addr} {H : Hp} {o : HO} : Fm G F L H (upd H F o) := fun a _ _ x _ e => by rw [upd_ne x]; exact e
theorem Fm.l {G F L : Addr} {H : Hp} {o : HO} : Fm G F L H (upd H L o) := fun a _ _ _ x e => by rw [upd_ne x]; exact e
section
variable {H H' : Hp} {G F L : Addr} {sz : Nat} {E : Gr.Ed} {Ls : List Nat}
theorem FreeB.keep (h : FreeB H F E) (e : ∀ o, H F = some o → H' F = some o) (k : ∀ a xs, H a = some (.lst xs) → H' a = some (.lst xs)) : FreeB H' F E := by
  obtain ⟨kvs, h1, hl, h2⟩ := h
  refine ⟨kvs, e _ h1, hl, fun x => ?_⟩
  rcases h2 x with z | ⟨l, ys, a, b, c⟩
  · exact .inl z
  · exact .inr ⟨l, ys, a, k _ _ b, c⟩
theorem LeafAt.keep (h : LeafAt H L Ls) (e : ∀ o, H L = some o → H' L = some o) (k : ∀ a xs, H a = some (.tup xs) → H' a = some (.tup xs)) : LeafAt H' L Ls := by
  obtain ⟨kvs, h1, hl, h2⟩ := h
  refine ⟨kvs, e _ h1, hl, fun i b hb => ?_⟩
  obtain ⟨a, v, h3, h4⟩ := h2 i b hb
  exact ⟨a, v, h3, k _ _ h4⟩
theorem Gst.up (h : Gst H G F L sz E Ls) (e : Ex H H') : Gst H' G F L sz E Ls := ⟨h.gf, h.gl, h.fl, e _ _ h.g, h.f.keep (e _) (fun a xs => e a _), h.l.keep (e _) (fun a xs => e a _)⟩
theorem Gst.isF (h : Gst H G F L sz E Ls) : ∃ kvs, H F = some (.dK kvs) := let ⟨kvs, h1, _⟩ := h.f; ⟨kvs, h1⟩
theorem Gst.isL (h : Gst H G F L sz E Ls) : ∃ kvs, H L = some (.dK kvs) := let ⟨kvs, h1, _⟩ := h.l; ⟨kvs, h1⟩
/-- what is no dict stays -/
theorem Gst.stay (h : Gst H G F L sz E Ls) (m : Fm G F L H H') {a : Addr} {o : HO} (ha : H a = some o) (no : ∀ kvs, o ≠ .dK kvs) : H' a = some o := by
  obtain ⟨k1, f1⟩ := h.isF
  obtain ⟨k2, f2⟩ := h.isL
  refine m a o (fun z => ?_) (fun z => ?_) (fun z => ?_) ha
  · subst z
    rw [h.g] at ha
    exact no _ (Option.some.inj ha).symm
  · subst z
    rw [f1] at ha
    exact no _ (Option.some.inj ha).symm
  · subst z
    rw [f2] at ha
    exact no _ (Option.some.inj ha).symm
theorem Gst.dsize (h : Gst H G F L sz E Ls) : DGet H G (.str "size") (some (.int (sz : Int))) := DGet.k (k := Sum.inr "size") h.g
theorem Gst.dfree (h : Gst H G F L sz E Ls) : DGet H G (.str "free") (some (.ref F)) := DGet.k (k := Sum.inr "free") h.g
theorem Gst.dleaf (h : Gst H G F L sz E Ls) : DGet H G (.str "leaf") (some (.ref L)) := DGet.k (k := Sum.inr "leaf") h.g
theorem Gst.grow (h : Gst H G F L sz E Ls) (n : Nat) : Gst (upd H G (.dK (grD F L n))) G F L n E Ls := by
  obtain ⟨k1, f1⟩ := h.isF
  refine ⟨h.gf, h.gl, h.fl, upd_same, h.f.keep (fun o e => by rw [upd_ne h.gf.symm]; exact e) (fun a xs e => ?_), h.l.keep (fun o e => by rw [upd_ne h.gl.symm]; exact e) (fun a xs e => ?_)⟩
  · exact h.stay Fm.g e (fun _ z => nomatch z)
  · exact h.stay Fm.g e (fun _ z => nomatch z)
theorem put_size : putK (grD F L sz) (Sum.inr "size") (.int ((sz : Int) + 2)) = grD F L (sz + 2) := by
  have e : ((sz + 2 : Nat) : Int) = (sz : Int) + 2 := by omega
  unfold grD
  rw [e]
  rfl
mutual
theorem TrAt.tups {p : Addr} (k : ∀ a xs, H a = some (.tup xs) → H' a = some (.tup xs)) : ∀ {v : V} {t : Tr}, TrAt p H v t → TrAt p H' v t
  | _, _, .leaf n h => .leaf n (k _ _ h)
  | _, _, .node n h r => .node n (k _ _ h) (TrAll.tups k r)
theorem TrAll.tups {p : Addr} (k : ∀ a xs, H a = some (.tup xs) → H' a = some (.tup xs)) : ∀ {vs : List V} {ts : List Tr}, TrAll p H vs ts → TrAll p H' vs ts
  | _, _, .nil => .nil
  | _, _, .cons h r => .cons (TrAt.tups k h) (TrAll.tups k r)
end
theorem val_stay {kvs : List (Key × V)} {v : V} {n : Nat} (hk : kvs.map (·.1) = (List.range' 1 n).map (fun (i : Nat) => (Sum.inl (i : Int) : Key))) : valV kvs (Sum.inl ((n + 1 : Nat) : Int)) = none := by
  have h0 : ∀ kv ∈ kvs, kv.1 ≠ Sum.inl ((n + 1 : Nat) : Int) := fun kv hkv z => by
    have : kv.1 ∈ kvs.map (·.1) := List.mem_map_of_mem hkv
    rw [hk] at this
    obtain ⟨i, hi, e⟩ := List.mem_map.mp this
    rw [z] at e
    have := Sum.inl.inj e
    have := (List.mem_range'_1.mp hi).2
    omega
  unfold valV
  rw [List.find?_eq_none.mpr fun kv hkv => by rw [decide_eq_true_iff]; exact h0 kv hkv]
  rfl
/-- one leaf more -/
theorem LeafAt.put {kvs : List (Key × V)} (h : LeafAt H L Ls) (hk : H L = some (.dK kvs)) {a : Addr} {b : Nat} {v : V} (ha : H a = some (.tup [.int (b : Int), .int ((b + 1 : Nat) : Int), v])) : LeafAt (upd H L (.dK (putK kvs (Sum.inl ((Ls.length + 1 : Nat) : Int)) (.ref a)))) L (Ls ++ [b]) := by
  obtain ⟨kvs', h1, h2, h3⟩ := h
  rw [hk] at h1
  cases h1
  have hn := val_stay (v := v) h2
  rw [putK_new _ hn]
  refine ⟨_, upd_same, ?_, fun i c hc => ?_⟩
  · rw [List.map_append, h2, List.length_append, List.length_singleton, List.range'_concat, List.map_append]
    show _ = _ ++ [(Sum.inl ((1 + 1 * Ls.length : Nat) : Int) : Key)]
    rw [show 1 + 1 * Ls.length = Ls.length + 1 by omega]
    rfl
  · rw [valV_snoc _ _ _ _ hn]
    have ne : ∀ {c : Addr} {xs : List V}, H c = some (.tup xs) → c ≠ L := fun {c xs} e z => by
      rw [z, hk] at e
      cases e
    rcases Gr.at_app hc with ⟨z, hi⟩ | ⟨z, hi⟩
    · obtain ⟨x, u, q1, q2⟩ := h3 i c z
      refine ⟨x, u, ?_, by rw [upd_ne (ne q2)]; exact q2⟩
      rw [if_neg (fun e => by have := Sum.inl.inj e; omega)]
      exact q1
    · have hi0 : i - Ls.length = 0 := by
        have := Gr.at_lt z
        rw [List.length_singleton] at this
        omega
      rw [hi0] at z
      cases z
      refine ⟨a, v, ?_, by rw [upd_ne (ne ha)]; exact ha⟩
      rw [if_pos (by rw [show i = Ls.length by omega])]
/-- one edge more -/
theorem FreeB.put {kvs : List (Key × V)} (h : FreeB H F E) (hk : H F = some (.dK kvs)) {x y : Nat} {l : Addr} {ys : List Nat} (hl : H l = some (.lst (nums (ys ++ [y])))) (hx : (valV kvs (Sum.inl (x : Int)) = none ∧ ys = []) ∨ ∃ l0, valV kvs (Sum.inl (x : Int)) = some (.ref l0) ∧ H l0 = some (.lst (nums ys))) :
    FreeB (upd H F (.dK (putK kvs (Sum.inl (x : Int)) (.ref l)))) F (E ++ [(x, y)]) := by
  obtain ⟨kvs', h1, h2, h3⟩ := h
  rw [hk] at h1
  cases h1
  have ne : ∀ {c : Addr} {xs : List V}, H c = some (.lst xs) → c ≠ F := fun {c xs} e z => by
    rw [z, hk] at e
    cases e
  have inj : ∀ {as bs : List Nat}, nums as = nums bs → as = bs := fun {as} => by
    induction as with
    | nil => intro bs e; cases bs with
      | nil => rfl
      | cons b r => cases e
    | cons a r ih => intro bs e; cases bs with
      | nil => cases e
      | cons b z =>
        have e1 : V.int (a : Int) = V.int (b : Int) := (List.cons.inj e).1
        have e2 := V.int.inj e1
        rw [ih (List.cons.inj e).2, show a = b by omega]
  refine ⟨_, upd_same, ?_, fun z => ?_⟩
  · have := length_putK kvs (Sum.inl (x : Int)) (.ref l)
    rw [List.length_append, List.length_singleton]
    omega
  · rw [valV_put]
    by_cases hz : z = x
    · subst hz
      rw [if_pos rfl]
      have hy : ys.length ≤ E.length ∧ ∀ y', (z, y') ∈ E ↔ y' ∈ ys := by
        rcases h3 z with ⟨a1, a2⟩ | ⟨l1, ys1, a1, a2, a3, a5, a4⟩
        · rcases hx with ⟨_, rfl⟩ | ⟨l0, b1, _⟩
          · exact ⟨Nat.zero_le _, fun y' => ⟨fun e => absurd e (a2 y'), fun e => nomatch e⟩⟩
          · rw [a1] at b1
            cases b1
        · rcases hx with ⟨b1, _⟩ | ⟨l0, b1, b2⟩
          · rw [a1] at b1
            cases b1
          · rw [a1] at b1
            cases b1
            rw [a2] at b2
            have : ys1 = ys := inj (by
              have := Option.some.inj b2
              injection this)
            subst this
            exact ⟨a3, a4⟩
      refine .inr ⟨l, ys ++ [y], rfl, by rw [upd_ne (ne hl)]; exact hl, by rw [List.length_append, List.length_append, List.length_singleton, List.length_singleton]; omega, by simp, fun y' => ?_⟩
      rw [List.mem_append, List.mem_append, hy.2, List.mem_singleton, List.mem_singleton]
      exact ⟨fun e => e.imp id fun e => by cases e; rfl, fun e => e.imp id fun e => by cases e; rfl⟩
    · rw [if_neg (fun e => hz (by have := Sum.inl.inj e; omega))]
      have hm : ∀ y', (z, y') ∈ E ++ [(x, y)] ↔ (z, y') ∈ E := fun y' => by
        rw [List.mem_append, List.mem_singleton]
        exact ⟨fun e => e.elim id fun e => absurd (Prod.mk.inj e).1 hz, .inl⟩
      rcases h3 z with ⟨a1, a2⟩ | ⟨l1, ys1, a1, a2, a3, a5, a4⟩
      · exact .inl ⟨a1, fun y' e => a2 y' ((hm y').mp e)⟩
      · exact .inr ⟨l1, ys1, a1, by rw [upd_ne (ne a2)]; exact a2, by rw [List.length_append]; omega, a5, fun y' => (hm y').trans (a4 y')⟩
end
def spNodes (d : Nat) : Sp := fun vs H Q _ => ∃ (p G F L : Addr) (v : V) (t : Tr) (sz : Nat) (E : Gr.Ed) (Ls : List Nat), vs = [.ref G, v] ∧ TrAt p H v t ∧ t.ok ∧ t.uno ∧ t.dep < d ∧ Gst H G F L sz E Ls ∧
  E.length + 4 * t.nn ≤ 100 ∧ Ls.length + t.lv.length ≤ 60 ∧ sz + 2 * t.nn ≤ 1000 ∧ t.big ≤ 400 ∧
  ∀ a H', Fm G F L H H' → H' a = some (.tup [.int (sz : Int), .int ((sz + 1 : Nat) : Int)]) → Gst H' G F L (sz + 2 * t.nn) (E ++ t.eds sz) (Ls ++ t.lfs sz) → Q (.ref a) H'
theorem call_lenD {X : Cx} : CallR X (.builtin "len") (fun xs H Q => ∃ a kvs, xs = [.ref a] ∧ Rd H a (.dK kvs) ∧ Q (.int kvs.length) H) := by
  intro pins s σ H xs us Q I r h
  obtain ⟨a, kvs, rfl, hd, q⟩ := h
  obtain ⟨u, rfl, rx⟩ := vals1 r
  cases rx
  exact d_len I hd fun t s' I' => ⟨.int kvs.length, H, I', ⟨t, rfl⟩, q⟩
/-- the pairs of the parts' two nodes -/
inductive Ends2 (H : Hp) : List V → List Nat → Prop
  | nil : Ends2 H [] []
  | cons {a : Addr} {b : Nat} {rs : List V} {bs : List Nat} : H a = some (.tup [.int (b : Int), .int ((b + 1 : Nat) : Int)]) → Ends2 H rs bs → Ends2 H (.ref a :: rs) (b :: bs)
theorem Ends2.keep {H H' : Hp} (k : ∀ a xs, H a = some (.tup xs) → H' a = some (.tup xs)) : ∀ {rs : List V} {bs : List Nat}, Ends2 H rs bs → Ends2 H' rs bs
  | _, _, .nil => .nil
  | _, _, .cons h r => .cons (k _ _ h) (Ends2.keep k r)
theorem Ends2.app {H : Hp} : ∀ {rs ss : List V} {bs cs : List Nat}, Ends2 H rs bs → Ends2 H ss cs → Ends2 H (rs ++ ss) (bs ++ cs)
  | _, _, _, _, .nil, h => h
  | _, _, _, _, .cons h r, k => .cons h (Ends2.app r k)
theorem Ends2.length {H : Hp} : ∀ {rs : List V} {bs : List Nat}, Ends2 H rs bs → rs.length = bs.length
  | _, _, .nil => rfl
  | _, _, .cons _ r => by rw [List.length_cons, List.length_cons, Ends2.length r]
theorem Ends2.get {H : Hp} : ∀ {rs : List V} {bs : List Nat} {i : Nat} {v : V}, Ends2 H rs bs → rs[i]? = some v → ∃ a b, v = .ref a ∧ bs[i]? = some b ∧ H a = some (.tup [.int (b : Int), .int ((b + 1 : Nat) : Int)])
  | _, _, 0, _, .cons h _, e => by
    cases e
    exact ⟨_, _, rfl, rfl, h⟩
  | _, _, i + 1, _, .cons _ r, e => Ends2.get (i := i) r e
theorem Ends2.refs {H : Hp} : ∀ {rs : List V} {bs : List Nat}, Ends2 H rs bs → ∀ v ∈ rs, ∃ a, v = .ref a
  | _, _, .cons _ r, v, hv => (List.mem_cons.mp hv).elim (fun e => ⟨_, e⟩) (Ends2.refs r v)
/-- a list of references that changes is none of the lists of edges -/
theorem Gst.mutL {H : Hp} {G F L D : Addr} {sz : Nat} {E : Gr.Ed} {Ls : List Nat} {rs ss : List V} (h : Gst H G F L sz E Ls) (hD : H D = some (.lst rs)) (hr : ∀ v ∈ rs, ∃ a, v = .ref a) : Gst (upd H D (.lst ss)) G F L sz E Ls := by
  obtain ⟨k1, f1⟩ := h.isF
  obtain ⟨k2, f2⟩ := h.isL
  have ne : ∀ {c : Addr} {kvs : List (Key × V)}, H c = some (.dK kvs) → c ≠ D := fun {c kvs} e z => by
    rw [z, hD] at e
    cases e
  have nt : ∀ {c : Addr} {xs : List V}, H c = some (.tup xs) → c ≠ D := fun {c kvs} e z => by
    rw [z, hD] at e
    cases e
  refine ⟨h.gf, h.gl, h.fl, by rw [upd_ne (ne h.g)]; exact h.g, ?_, h.l.keep (fun o e => by rw [upd_ne (ne f2)]; exact e) (fun b xs e => by rw [upd_ne (nt e)]; exact e)⟩
  obtain ⟨kvs, h1, hl, h2⟩ := h.f
  refine ⟨kvs, by rw [upd_ne (ne h1)]; exact h1, hl, fun x => ?_⟩
  rcases h2 x with z | ⟨l, ys, a, b, c, c2, c3⟩
  · exact .inl z
  · refine .inr ⟨l, ys, a, ?_, c, c2, c3⟩
    have : l ≠ D := fun z => by
      rw [z, hD] at b
      have e : rs = nums ys := by
        have := Option.some.inj b
        injection this
      cases ys with
      | nil => exact c2 rfl
      | cons y r =>
        obtain ⟨a, ha⟩ := hr (.int (y : Int)) (by rw [e]; exact List.mem_cons_self ..)
        cases ha
    rw [upd_ne this]
    exact b
theorem Fm.mut {G F L D : Addr} {H H1 : Hp} {o : HO} (h : Fm G F L H H1) (n : H D = none) : Fm G F L H (upd H1 D o) := fun a o' x y z e => by
  rw [upd_ne (fun w => by rw [w, n] at e; cases e)]
  exact h a o' x y z e
theorem nns_snoc (t : Tr) : ∀ ts : List Tr, Tr.nns (ts ++ [t]) = Tr.nns ts + t.nn
  | [] => by
    show t.nn + 0 = 0 + t.nn
    omega
  | x :: r => by
    have := nns_snoc t r
    show x.nn + Tr.nns (r ++ [t]) = x.nn + Tr.nns r + t.nn
    omega
theorem begs_snoc (t : Tr) : ∀ (ts : List Tr) (lo : Nat), Tr.begs (ts ++ [t]) lo = Tr.begs ts lo ++ [lo + 2 * Tr.nns ts]
  | [], lo => rfl
  | x :: r, lo => by
    have := begs_snoc t r (lo + 2 * x.nn)
    show lo :: Tr.begs (r ++ [t]) (lo + 2 * x.nn) = lo :: (Tr.begs r (lo + 2 * x.nn) ++ [lo + 2 * (x.nn + Tr.nns r)])
    rw [this, show lo + 2 * x.nn + 2 * Tr.nns r = lo + 2 * (x.nn + Tr.nns r) by omega]
theorem edsL_snoc (t : Tr) : ∀ (ts : List Tr) (lo : Nat), Tr.edsL (ts ++ [t]) lo = Tr.edsL ts lo ++ t.eds (lo + 2 * Tr.nns ts)
  | [], lo => by
    show t.eds lo ++ [] = [] ++ t.eds lo
    rw [List.append_nil]
    rfl
  | x :: r, lo => by
    have := edsL_snoc t r (lo + 2 * x.nn)
    show x.eds lo ++ Tr.edsL (r ++ [t]) (lo + 2 * x.nn) = x.eds lo ++ Tr.edsL r (lo + 2 * x.nn) ++ t.eds (lo + 2 * (x.nn + Tr.nns r))
    rw [this, List.append_assoc, show lo + 2 * x.nn + 2 * Tr.nns r = lo + 2 * (x.nn + Tr.nns r) by omega]
theorem lfsL_snoc (t : Tr) : ∀ (ts : List Tr) (lo : Nat), Tr.lfsL (ts ++ [t]) lo = Tr.lfsL ts lo ++ t.lfs (lo + 2 * Tr.nns ts)
  | [], lo => by
    show t.lfs lo ++ [] = [] ++ t.lfs lo
    rw [List.append_nil]
    rfl
  | x :: r, lo => by
    have := lfsL_snoc t r (lo + 2 * x.nn)
    show x.lfs lo ++ Tr.lfsL (r ++ [t]) (lo + 2 * x.nn) = x.lfs lo ++ Tr.lfsL r (lo + 2 * x.nn) ++ t.lfs (lo + 2 * (x.nn + Tr.nns r))
    rw [this, List.append_assoc, show lo + 2 * x.nn + 2 * Tr.nns r = lo + 2 * (x.nn + Tr.nns r) by omega]
theorem own_len (k : Str) (lo : Nat) : ∀ bs : List Nat, (ownE k lo bs).length ≤ 2 * bs.length + 2
  | [] => Nat.zero_le _
  | b :: r => by
    have hc : ∀ (q : Nat) (bs : List Nat), (chain q bs).length = bs.length := fun q bs => by
      induction bs generalizing q with
      | nil => rfl
      | cons x y ih =>
        show (chain (x + 1) y).length + 1 = y.length + 1
        rw [ih]
    show List.length (if k = "sequence" then _ else _) ≤ _
    split
    · rw [List.length_append, hc, List.length_cons]
      show r.length + 2 ≤ 2 * (r.length + 1) + 2
      omega
    · rw [List.length_append, List.length_append, List.length_append, List.length_map, List.length_map, List.length_cons]
      have h1 : (if k ≠ "choice" then [(lo, lo + 1)] else []).length ≤ 1 := by split <;> simp
      have h2 : (if k = "repeat" then [(b + 1, b)] else []).length ≤ 1 := by split <;> simp
      omega
theorem begs_len : ∀ (ts : List Tr) (lo : Nat), (Tr.begs ts lo).length = ts.length
  | [], _ => rfl
  | t :: r, lo => by
    show (Tr.begs r (lo + 2 * t.nn)).length + 1 = r.length + 1
    rw [begs_len]
end K04
namespace K04
open PySem PySem.Spec PyProof.Rows L2 Evl Es
mutual
theorem eds_len : ∀ (t : Tr) (lo : Nat), (t.eds lo).length + 2 ≤ 4 * t.nn
  | .leaf _ _, _ => by
    show 0 + 2 ≤ 4 * 1
    decide
  | .node k ps, lo => by
    have h1 := edsL_len ps (lo + 2)
    have h2 := own_len k lo (Tr.begs ps (lo + 2))
    rw [begs_len] at h2
    show (Tr.edsL ps (lo + 2) ++ ownE k lo (Tr.begs ps (lo + 2))).length + 2 ≤ 4 * (1 + Tr.nns ps)
    rw [List.length_append]
    omega
theorem edsL_len : ∀ (ts : List Tr) (lo : Nat), (Tr.edsL ts lo).length + 2 * ts.length ≤ 4 * Tr.nns ts
  | [], _ => by
    show 0 + 2 * 0 ≤ 4 * 0
    decide
  | t :: r, lo => by
    have h1 := eds_len t lo
    have h2 := edsL_len r (lo + 2 * t.nn)
    show (t.eds lo ++ Tr.edsL r (lo + 2 * t.nn)).length + 2 * (r.length + 1) ≤ 4 * (t.nn + Tr.nns r)
    rw [List.length_append]
    omega
end
theorem nns_take : ∀ {ts : List Tr} {i : Nat} {t : Tr}, ts[i]? = some t → Tr.nns (ts.take i) + t.nn ≤ Tr.nns ts
  | x :: r, 0, _, e => by
    cases e
    show 0 + x.nn ≤ x.nn + Tr.nns r
    omega
  | x :: r, i + 1, t, e => by
    have := nns_take (i := i) (t := t) (ts := r) e
    show x.nn + Tr.nns (r.take i) + t.nn ≤ x.nn + Tr.nns r
    omega
theorem unos_get : ∀ {ts : List Tr} {i : Nat} {t : Tr}, Tr.unos ts → ts[i]? = some t → t.uno
  | x :: r, 0, _, h, e => by
    cases e
    exact h.1
  | x :: r, i + 1, t, h, e => unos_get (i := i) h.2 e
theorem chain_get : ∀ (b : Nat) (r : List Nat) (i x y : Nat), (b :: r)[i]? = some x → r[i]? = some y → (chain (b + 1) r)[i]? = some (x + 1, y)
  | b, c :: r, 0, x, y, h1, h2 => by
    cases h1
    cases h2
    rfl
  | b, c :: r, i + 1, x, y, h1, h2 => chain_get c r i x y h1 h2
theorem chain_len : ∀ (q : Nat) (bs : List Nat), (chain q bs).length = bs.length
  | _, [] => rfl
  | _, b :: r => by
    show (chain (b + 1) r).length + 1 = r.length + 1
    rw [chain_len]
theorem atI_last {α : Type} {xs : List α} {v : α} (h : xs[xs.length - 1]? = some v) : atI xs (-1) = some v := by
  have hl : 0 < xs.length := by
    have := (List.getElem?_eq_some_iff.mp h).1
    omega
  unfold atI ixN
  rw [if_neg (by decide), if_pos (by omega)]
  show xs[((xs.length : Int) + -1).toNat]? = some v
  rw [show ((xs.length : Int) + -1).toNat = xs.length - 1 by omega]
  exact h
theorem ends_last {H : Hp} : ∀ {rs : List V} {b : Nat} {r : List Nat}, Ends2 H rs (b :: r) → ∃ (a : Addr) (x : Nat), rs[rs.length - 1]? = some (.ref a) ∧ H a = some (.tup [.int (x : Int), .int ((x + 1 : Nat) : Int)]) ∧ x + 1 = lastE (b + 1) r
  | _, b, [], .cons h .nil => ⟨_, b, rfl, h, rfl⟩
  | _, b, c :: r, .cons h k => by
    obtain ⟨a, x, h1, h2, h3⟩ := ends_last k
    refine ⟨a, x, ?_, h2, h3⟩
    cases k with
    | cons h' k' => exact h1
section
variable {P : Program} {w : World} {K : PySem.W.Frag} {mg : Str → Option Value} {base : Heap}
theorem ok_nodes {f : Addr} {fd : FuncData} (F : Fun K "_law_nodes" "_law_nodes" sNodes f fd) (bF : Binds K fd ["_law_graph_here", "_law_expression_here"] []) (gF : mg "_law_nodes" = some (.ref f)) (ml : mg "len" = none) (mz : mg "zip" = none) :
    ∀ d : Nat, FnOk P w K mg base CX0 (d + 1) f fd ["_law_graph_here", "_law_expression_here"] (spNodes d) := by
  intro d
  induction d with
  | zero => exact ⟨fun vs H Q E ⟨_, _, _, _, _, _, _, _, _, _, _, _, _, h, _⟩ => absurd h (Nat.not_lt_zero _), fun _ _ _ _ _ _ _ _ _ _ _ _ _ ⟨_, _, _, _, _, _, _, _, _, _, _, _, _, h, _⟩ => absurd h (Nat.not_lt_zero _)⟩
  | succ d ih =>
    refine F.ok scNodes (fun vs H Q E h => ?_) (fun cdv A outer s H vs Q E hr h => ?_)
    · obtain ⟨_, _, _, _, _, _, _, _, _, rfl, _⟩ := h
      rfl
    · obtain ⟨p, G, F', L, v, t, sz, E, Ls, rfl, ht, hok, hun, hd, hG, hE, hLs, hsz, hbig, q⟩ := h
      have hu := hu_of hr
      refine ⟨_, pss_cons (ps_asg (pe_tup (pa_cons (pe_dget hu (pv 0) pe_str (fun _ _ => rfl)) (pa_cons (pe_op op_add (pe_dget hu (pv 0) pe_str (fun _ _ => rfl)) pe_int) pa_nil))) (pg_tup rfl (pgs_cons (pg_name (i := 2) scNodes.nd rfl (.inr rfl)) (pgs_cons (pg_name (i := 3) scNodes.nd rfl (.inr rfl)) pgs_nil))))
        (pss_cons (ps_dput hu (pv 0) pe_str (pe_op op_add (pe_dget hu (pv 0) pe_str (fun _ _ => rfl)) pe_int) rfl)
        (pss_cons (ps_par rfl scNodes.nd rfl rfl (by decide) rfl rfl (i := 4) (j := 5) (pa_cons (pe_dget hu (pv 0) pe_str (fun _ _ => rfl)) (pa_cons (pe_ix ix_tup (pv 1) pe_int (fun _ _ => rfl)) pa_nil)) (by rfl))
        (pss_cons (ps_if (pt_cmpR op_in_seq (pv 5) (pe_tup (pa_cons pe_str (pa_cons pe_str pa_nil))) (by rfl))
          (pss_cons (ps_dput hu (pe_dget hu (pv 0) pe_str (fun _ _ => rfl)) (pe_op op_add (pe_callB call_lenD (by rfl) ml PySem.boot_len (pa_cons (pe_dget hu (pv 0) pe_str (fun _ _ => rfl)) pa_nil)) pe_int) (pe_tup (pa_cons (pv 2) (pa_cons (pv 3) (pa_cons (pv 1) pa_nil)))) rfl)
          (pss_one (ps_ret (pe_tup (pa_cons (pv 2) (pa_cons (pv 3) pa_nil)))))) pss_nil)
        (pss_cons (ps_setLc (i := 6) (own := [("_law_part", 10)]) (g := gName 10) (tt := tYes) rfl scNodes.nd rfl rfl (sw_true rfl rfl rfl (by decide +kernel))
          (pi_tup (pe_slice sl_tup (pv 1) (po_some pe_int) po_none))
          (blkOk_by (N := nNodes) (sc := defScope sNodes) (own := [("_law_part", 10)]) (by decide +kernel)) (fun _ _ _ _ _ => pg_name (i := 10) scNodes.nd rfl (Or.inl rfl)) (fun _ _ _ _ _ => pts_nil)
          (fun _ _ _ _ _ => pe_call ih hr (by rfl) gF F.kp bF .nil pass0 (pa_cons (pv 0) (pa_cons (pv 10) pa_nil))))
        (Evl.pss_cut (ps_if (pt_cmpR op_eq (pv 5) pe_str (nomark _))
          (pss_cons (ps_setLc (i := 7) (own := [("_law_one", 8), ("_law_two", 9)]) (g := gTup K 2 _) (tt := tYes) rfl scNodes.nd rfl rfl (sw_true rfl rfl rfl (by decide +kernel))
            (pi_zip (by rfl) mz (pa_cons (pv 6) (pa_cons (pe_slice sl_list (pv 6) (po_some pe_int) po_none) pa_nil)))
            (blkOk_by (N := nNodes) (sc := defScope sNodes) (own := [("_law_one", 8), ("_law_two", 9)]) (by decide +kernel))
            (fun _ _ _ _ _ => pg_tup rfl (pgs_cons (pg_name (i := 8) scNodes.nd rfl (Or.inl rfl)) (pgs_cons (pg_name (i := 9) scNodes.nd rfl (Or.inl rfl)) pgs_nil))) (fun _ _ _ _ _ => pts_nil)
            (fun _ _ _ _ _ => pe_tup (pa_cons (pe_ix (r := rIxT K) ix_tup (pv 8) pe_int (fun _ _ => rfl)) (pa_cons (pe_ix (r := rIxT K) ix_tup (pv 9) pe_int (fun _ _ => rfl)) pa_nil))))
          (pss_one (ps_set (i := 7) scNodes.nd rfl (.inl rfl) (pe_op op_cat (pv 7) (pe_lst (pa_cons (pe_tup (pa_cons (pv 2) (pa_cons (pe_ix ix_tup (pe_ix ix_list (pv 6) pe_int (fun _ _ => rfl)) pe_int (fun _ _ => rfl)) pa_nil))) (pa_cons (pe_tup (pa_cons (pe_ix ix_tup (pe_ix ix_list (pv 6) (pe_un un_neg pe_int) (fun _ _ => rfl)) pe_int (fun _ _ => rfl)) (pa_cons (pv 3) pa_nil))) pa_nil)))))))
          (pss_cons (ps_set (i := 7) scNodes.nd rfl (.inl rfl) (pe_op op_cat
              (pe_lc (own := [("_law_one", 8)]) (g := gName 8) (tt := tYes) rfl scNodes.nd (pi_list (pv 6)) (blkOk_by (N := nNodes) (sc := defScope sNodes) (own := [("_law_one", 8)]) (by decide +kernel)) (fun _ _ _ _ _ => pg_name (i := 8) scNodes.nd rfl (Or.inl rfl)) (fun _ _ _ _ _ => pts_nil)
                (fun _ _ _ _ _ => pe_tup (pa_cons (pv 2) (pa_cons (pe_ix (r := rIxT K) ix_tup (pv 8) pe_int (fun _ _ => rfl)) pa_nil))))
              (pe_lc (own := [("_law_one", 8)]) (g := gName 8) (tt := tYes) rfl scNodes.nd (pi_list (pv 6)) (blkOk_by (N := nNodes) (sc := defScope sNodes) (own := [("_law_one", 8)]) (by decide +kernel)) (fun _ _ _ _ _ => pg_name (i := 8) scNodes.nd rfl (Or.inl rfl)) (fun _ _ _ _ _ => pts_nil)
                (fun _ _ _ _ _ => pe_tup (pa_cons (pe_ix (r := rIxT K) ix_tup (pv 8) pe_int (fun _ _ => rfl)) (pa_cons (pv 3) pa_nil))))))
          (Evl.pss_cut (ps_if (pt_cmpR op_ne (pv 5) pe_str (nomark _)) (pss_one (ps_expr (pe_bm PySem.F.plainAttrs_list PySem.F.slot_list_append PySem.F.type_list_append mt_append (pv 7) (pa_cons (pe_tup (pa_cons (pv 2) (pa_cons (pv 3) pa_nil))) pa_nil)))) pss_nil)
          (pss_one (ps_if (pt_cmpR op_eq (pv 5) pe_str (nomark _)) (pss_one (ps_expr (pe_bm PySem.F.plainAttrs_list PySem.F.slot_list_append PySem.F.type_list_append mt_append (pv 7) (pa_cons (pe_tup (pa_cons (pe_ix ix_tup (pe_ix ix_list (pv 6) pe_int (fun _ _ => rfl)) pe_int (fun _ _ => rfl)) (pa_cons (pe_ix ix_tup (pe_ix ix_list (pv 6) pe_int (fun _ _ => rfl)) pe_int (fun _ _ => rfl)) pa_nil))) pa_nil)))) pss_nil)))))
        (pss_cons (ps_for PassesOwn.never rfl (pi_list (pv 7)) (pg_tup rfl (pgs_cons (pg_name (i := 8) scNodes.nd rfl (Or.inl rfl)) (pgs_cons (pg_name (i := 9) scNodes.nd rfl (Or.inl rfl)) pgs_nil)))
          (pss_one (ps_dput hu (pv 4) (pv 8) (pe_op op_cat (pe_dget2 hu (pv 4) (pv 8) (pe_lst pa_nil) ⟨rfl, rfl, rfl, rfl⟩) (pe_lst (pa_cons (pv 9) pa_nil))) rfl)))
        (pss_one (ps_ret (pe_tup (pa_cons (pv 2) (pa_cons (pv 3) pa_nil))))))))))), ?_⟩
      refine ⟨.ref G, rfl, G, _, rfl, hG.dsize, .ref G, rfl, G, _, rfl, hG.dsize, _, 1, rfl, rfl, sz_of (by show 2 ≤ 100000; decide), fun c1 n1 => ?_⟩
      have e1 := Ex.new (o := .tup [.int (sz : Int), .int ((sz : Int) + 1)]) n1
      refine ⟨c1, _, rfl, st_of upd_same, rfl, ?_⟩
      have hG1 := hG.up e1
      have ht1 := ht.up e1
      generalize upd H c1 (.tup [.int (sz : Int), .int ((sz : Int) + 1)]) = H1 at e1 hG1 ht1 ⊢
      refine ⟨_, _, rfl, _, _, rfl, rfl, .ref G, rfl, G, _, rfl, hG1.dsize, _, 2, rfl, rfl, .ref G, rfl, G, _, rfl, DPut.k (k := Sum.inr "size") hG1.g (sz_lt (by show 3 < 100000; decide)), ?_⟩
      rw [put_size]
      have hG2 := hG1.grow (sz + 2)
      have m2 : Fm G F' L H (upd H1 G (.dK (grD F' L (sz + 2)))) := (Fm.ex e1).trans Fm.g
      have ht2 : TrAt p (upd H1 G (.dK (grD F' L (sz + 2)))) v t := TrAt.tups (fun a xs e => hG1.stay Fm.g e (fun _ z => nomatch z)) ht1
      generalize upd H1 G (.dK (grD F' L (sz + 2))) = H2 at hG2 m2 ht2 ⊢
      refine ⟨.ref G, rfl, G, _, rfl, hG2.dfree, v, rfl, ?_⟩
      cases ht2 with
      | @leaf a k x ne h =>
        refine ⟨a, _, 0, .str k, rfl, rfl, st_of h, atI_nat (j := 0) rfl, _, _, rfl, ?_⟩
        refine ⟨.str k, rfl, sz_of (by show 2 ≤ 100000; decide), fun c2 n2 => ⟨c2, _, rfl, .inr (st_of upd_same), rfl, by decide, _, rfl, ite2 (fun hb => ?_) (fun hb => ?_)⟩⟩
        · have e3 := Ex.new (o := .tup [.str "token", .str "block"]) n2
          have hG3 := hG2.up e3
          have m3 := m2.trans (Fm.ex e3)
          generalize upd H2 c2 (.tup [.str "token", .str "block"]) = H3 at e3 hG3 m3 ⊢
          refine ⟨.int (sz : Int), rfl, .int ((sz : Int) + 1), rfl, .ref a, rfl, sz_of (by show 3 ≤ 100000; decide), fun c3 n3 => ?_⟩
          have e4 := Ex.new (o := .tup [.int (sz : Int), .int ((sz : Int) + 1), .ref a]) n3
          have hG4 := hG3.up e4
          have m4 := m3.trans (Fm.ex e4)
          have hc3 : (upd H3 c3 (.tup [.int (sz : Int), .int ((sz : Int) + 1), .ref a])) c3 = some (.tup [.int (sz : Int), .int ((sz + 1 : Nat) : Int), .ref a]) := upd_same
          generalize upd H3 c3 (.tup [.int (sz : Int), .int ((sz : Int) + 1), .ref a]) = H4 at e4 hG4 m4 hc3 ⊢
          obtain ⟨kvs, hL4, hk4, _⟩ := hG4.l
          have hkl : kvs.length = Ls.length := by
            have := congrArg List.length hk4
            rw [List.length_map, List.length_map, List.length_range'] at this
            exact this
          refine ⟨.ref G, rfl, G, _, rfl, hG4.dleaf, .ref G, rfl, G, _, rfl, hG4.dleaf, L, kvs, rfl, .inl hL4, _, 1, rfl, rfl, L, _, rfl, DPut.k (k := Sum.inl ((kvs.length : Int) + 1)) hL4 (sz_lt (by have : 1 ≤ (Tr.leaf k x).lv.length := Nat.le_refl 1; omega)), ?_⟩
          rw [show ((kvs.length : Int) + 1) = ((Ls.length + 1 : Nat) : Int) by omega]
          have hL5 := hG4.l.put hL4 hc3
          have m5 : Fm G F' L H (upd H4 L (.dK (putK kvs (Sum.inl ((Ls.length + 1 : Nat) : Int)) (.ref c3)))) := m4.trans Fm.l
          have hG5 : Gst (upd H4 L (.dK (putK kvs (Sum.inl ((Ls.length + 1 : Nat) : Int)) (.ref c3)))) G F' L (sz + 2) E (Ls ++ [sz]) := ⟨hG4.gf, hG4.gl, hG4.fl, by rw [upd_ne hG4.gl]; exact hG4.g, hG4.f.keep (fun o e => by rw [upd_ne hG4.fl]; exact e) (fun b xs e => hG4.stay Fm.l e (fun _ z => nomatch z)), hL5⟩
          refine ⟨.int (sz : Int), rfl, .int ((sz : Int) + 1), rfl, sz_of (by show 2 ≤ 100000; decide), fun c4 n4 => ?_⟩
          have e6 := Ex.new (o := .tup [.int (sz : Int), .int ((sz : Int) + 1)]) n4
          refine q c4 _ (m5.trans (Fm.ex e6)) upd_same ?_
          rw [show E ++ (Tr.leaf k x).eds sz = E from List.append_nil _]
          exact hG5.up e6
        · rw [show inV (.str k) [.str "token", .str "block"] = true from lk_in k hok.1] at hb
          exact absurd rfl hb
      | @node a k vs ps ne h hall =>
        refine ⟨a, _, 0, .str k, rfl, rfl, st_of h, atI_nat (j := 0) rfl, _, _, rfl, ?_⟩
        refine ⟨.str k, rfl, sz_of (by show 2 ≤ 100000; decide), fun c2 n2 => ⟨c2, _, rfl, .inr (st_of upd_same), rfl, by decide, _, rfl, ite2 (fun hb => ?_) (fun hb => ?_)⟩⟩
        · rw [show inV (.str k) [.str "token", .str "block"] = false from nk_in k hok.1] at hb
          cases hb
        have e3 := Ex.new (o := .tup [.str "token", .str "block"]) n2
        have hG3 := hG2.up e3
        have m3 := m2.trans (Fm.ex e3)
        have h3 := e3 _ _ h
        have hall3 := hall.up e3
        generalize upd H2 c2 (.tup [.str "token", .str "block"]) = H3 at e3 hG3 m3 h3 hall3 ⊢
        have hlen := TrAll.length hall3
        have hbg : 9 + Tr.bigs ps ≤ 400 := hbig
        have hbl := big_len ps
        have hnn : (Tr.node k ps).nn = 1 + Tr.nns ps := rfl
        have hlv : (Tr.node k ps).lv.length = (Tr.lvs ps).length := rfl
        have hdd : Tr.deps ps + 1 < d + 1 := hd
        refine ⟨.ref a, rfl, 1, rfl, a, _, rfl, st_of h3, ?_, fun sl nsl => ?_⟩
        · rw [show HT.sIx (V.str k :: vs).length 0 (some (1 : Int)) = min 1 (V.str k :: vs).length from HT.sIx_nat _ 0 1, List.length_cons]
          omega
        rw [cut_1, show (V.str k :: vs).drop 1 = vs from rfl]
        have e4 := Ex.new (o := .tup vs) nsl
        have hG4 := hG3.up e4
        have m4 := m3.trans (Fm.ex e4)
        have hall4 := hall3.up e4
        have hsl : (upd H3 sl (.tup vs)) sl = some (.tup vs) := upd_same
        refine ⟨sl, rfl, ⟨vs, st_of hsl⟩, fun D nD => ?_⟩
        show ∃ W : Nat → Nat → Hp → Prop, _
        change (upd H3 sl (.tup vs)) D = none at nD
        generalize upd H3 sl (.tup vs) = H4 at e4 hG4 m4 hall4 hsl nD ⊢
        have hnoD : ∀ {b : Addr} {o : HO}, H4 b = some o → b ≠ D := fun {b o} e z => by
          rw [z, nD] at e
          cases e
        obtain ⟨kF, hF4⟩ := hG4.isF
        obtain ⟨kL, hL4⟩ := hG4.isL
        have hHD : H D = none := by
          cases hh : H D with
          | none => rfl
          | some o => rw [m4 D o (hnoD hG4.g).symm (hnoD hF4).symm (hnoD hL4).symm hh] at nD; cases nD
        refine lc_it (walk_tup (xs := vs)) (fun i H' => Fm G F' L H H' ∧ (∀ b xs, H4 b = some (.tup xs) → H' b = some (.tup xs)) ∧ ∃ rs : List V, H' D = some (.lst rs) ∧ Ends2 H' rs (Tr.begs (ps.take i) (sz + 2)) ∧ Gst H' G F' L (sz + 2 + 2 * Tr.nns (ps.take i)) (E ++ Tr.edsL (ps.take i) (sz + 2)) (Ls ++ Tr.lfsL (ps.take i) (sz + 2))) ?_ ?_ ?_ ?_
        · refine ⟨m4.mut hHD, fun b xs e => by rw [upd_ne (hnoD e)]; exact e, [], upd_same, .nil, ?_⟩
          have := hG4.up (Ex.new (o := .lst []) nD)
          show Gst _ G F' L (sz + 2 + 2 * 0) (E ++ []) (Ls ++ [])
          rw [List.append_nil, List.append_nil]
          exact this
        · exact fun i H' _ x => st_of (x.2.1 _ _ hsl)
        · rintro i x H5 H6 hi ⟨m5, t5, rs, hD5, hE5, hG5⟩ ⟨rfl, hx⟩
          obtain ⟨u, hu, hxu⟩ := hall4.get hx
          have hxu5 : TrAt p H6 x u := TrAt.tups t5 hxu
          have b1 := nns_take hu
          have b2 := lvs_get hu
          have b3 := deps_get hu
          have b4 := bigs_get hu
          have b5 := edsL_len (ps.take i) (sz + 2)
          have b6 := lfsL_len (ps.take i) (sz + 2)
          refine ⟨rfl, .ref G, rfl, x, rfl, p, G, F', L, x, u, _, _, _, rfl, hxu5, oks_get hok.2.2 hu, unos_get hun.2 hu, by omega, hG5, by rw [List.length_append]; omega, by rw [List.length_append]; omega, by omega, by omega, fun c H7 m7 hc hG7 => ?_⟩
          have hD7 : H7 D = some (.lst rs) := hG5.stay m7 hD5 (fun _ z => nomatch z)
          have t7 : ∀ b xs, H6 b = some (.tup xs) → H7 b = some (.tup xs) := fun b xs e => hG5.stay m7 e (fun _ z => nomatch z)
          have hE7 := hE5.keep t7
          have hrl := hE5.length
          rw [begs_len, List.length_take] at hrl
          have t8 : ∀ b xs, H7 b = some (.tup xs) → (upd H7 D (.lst (rs ++ [.ref c]))) b = some (.tup xs) := fun b xs e => by
            rw [upd_ne (fun z => by rw [z, hD7] at e; cases e)]
            exact e
          refine ⟨rs, hD7, sz_lt (by omega), (m5.trans m7).mut hHD, fun b xs e => t8 _ _ (t7 _ _ (t5 _ _ e)), rs ++ [.ref c], upd_same, ?_, ?_⟩
          · rw [List.take_add_one, hu]
            show Ends2 _ _ (Tr.begs (ps.take i ++ [u]) (sz + 2))
            rw [begs_snoc]
            exact (hE7.keep t8).app (.cons (t8 _ _ hc) .nil)
          · rw [List.take_add_one, hu]
            show Gst _ G F' L (sz + 2 + 2 * Tr.nns (ps.take i ++ [u])) (E ++ Tr.edsL (ps.take i ++ [u]) (sz + 2)) (Ls ++ Tr.lfsL (ps.take i ++ [u]) (sz + 2))
            rw [nns_snoc, edsL_snoc, lfsL_snoc, ← List.append_assoc, ← List.append_assoc, show sz + 2 + 2 * (Tr.nns (ps.take i) + u.nn) = sz + 2 + 2 * Tr.nns (ps.take i) + 2 * u.nn by omega]
            exact hG7.mutL hD7 hE7.refs
        rintro H5 ⟨m5, t5, rs, hD5, hE5, hG5⟩
        rw [hlen, List.take_length] at hE5 hG5
        have hbl2 := begs_len ps (sz + 2)
        refine ⟨fun σ' H' => ∃ (De : Addr) (es : List V) (y8 y9 y10 : Option V), σ' = [some (.ref G), some (.ref a), some (.int (sz : Int)), some (.int ((sz : Int) + 1)), some (.ref F'), some (.str k), some (.ref D), some (.ref De), y8, y9, y10] ∧ Ex H5 H' ∧ H' De = some (.lst es) ∧ PrAll H' es (ownE k sz (Tr.begs ps (sz + 2))), ?_, ?_⟩
        · cases ps with
          | nil => exact absurd rfl hok.2.1
          | cons t0 r =>
            have hbeg : Tr.begs (t0 :: r) (sz + 2) = (sz + 2) :: Tr.begs r (sz + 2 + 2 * t0.nn) := rfl
            rw [hbeg] at hE5 ⊢
            have hbrl : (Tr.begs r (sz + 2 + 2 * t0.nn)).length = r.length := begs_len _ _
            have hps : (t0 :: r).length = r.length + 1 := rfl
            generalize Tr.begs r (sz + 2 + 2 * t0.nn) = br at hE5 hbrl ⊢
            have hrl : rs.length = br.length + 1 := hE5.length
            have hrs0 : ∃ a0, rs[0]? = some (.ref a0) ∧ H5 a0 = some (.tup [.int ((sz + 2 : Nat) : Int), .int ((sz + 2 + 1 : Nat) : Int)]) := by
              cases hE5 with
              | cons h0 _ => exact ⟨_, rfl, h0⟩
            obtain ⟨a0, hr0, ha0⟩ := hrs0
            refine ⟨.str k, rfl, rfl, _, rfl, ite2 (fun hb => ?_) (fun hb => ?_)⟩
            · have hk : k = "sequence" := V.str.inj (of_decide_eq_true hb)
              have hown : ownE k sz ((sz + 2) :: br) = chain (sz + 2 + 1) br ++ [(sz, sz + 2), (lastE (sz + 2 + 1) br, sz + 1)] := by
                rw [hk]
                rfl
              rw [hown]
              refine ⟨.ref D, rfl, .ref D, rfl, 1, rfl, D, _, rfl, sq_of hD5, fun s2 ns2 => ?_⟩
              rw [cut_1]
              have g1 := Ex.new (o := .lst (rs.drop 1)) ns2
              have hs2 : (upd H5 s2 (.lst (rs.drop 1))) s2 = some (.lst (rs.drop 1)) := upd_same
              refine ⟨D, s2, rs, rs.drop 1, rfl, sq_of (g1 _ _ hD5), sq_of hs2, fun De nDe => ?_⟩
              have g2 := Ex.new (o := .lst []) nDe
              have nDe5 : H5 De = none := fresh_back g1 nDe
              have hsD : s2 ≠ De := fun z => by
                rw [← z, hs2] at nDe
                cases nDe
              have hds : (rs.drop 1).length = br.length := by
                rw [List.length_drop]
                omega
              refine lc_it (walk_zip (xs := rs) (ys := rs.drop 1) (n := br.length) (by rw [hds]; omega)) (fun i H' => Ex H5 H' ∧ H' s2 = some (.lst (rs.drop 1)) ∧ ∃ es, H' De = some (.lst es) ∧ PrAll H' es ((chain (sz + 2 + 1) br).take i)) ?_ ?_ ?_ ?_
              · exact ⟨g1.trans g2, g2 _ _ hs2, [], upd_same, .nil⟩
              · exact fun i H' _ x => ⟨sq_of (x.1 _ _ hD5), sq_of x.2.1⟩
              · rintro i v J J' hi ⟨ei, hs, es, hDe, hPr⟩ ⟨T, x, y, rfl, nT, rfl, hx, hy⟩
                obtain ⟨ax, bx, rfl, hbx, hax⟩ := hE5.get hx
                have hy' : rs[i + 1]? = some y := by
                  have hy1 : (rs.drop 1)[i]? = some y := hy
                  rw [List.getElem?_drop] at hy1
                  rw [Nat.add_comm]
                  exact hy1
                obtain ⟨ay, by', rfl, hby, hay⟩ := hE5.get hy'
                have g3 := Ex.new (o := .tup [.ref ax, .ref ay]) nT
                have hcg := chain_get (sz + 2) br i bx by' hbx hby
                refine ⟨T, _, rfl, st_of upd_same, rfl, _, _, rfl, _, _, rfl, rfl, rfl, ?_⟩
                have hax' := g3 _ _ (ei _ _ hax)
                have hay' := g3 _ _ (ei _ _ hay)
                have hDe' := g3 _ _ hDe
                have hs' := g3 _ _ hs
                have ei' := ei.trans g3
                have hPr' := hPr.up g3
                generalize upd J T (.tup [.ref ax, .ref ay]) = J1 at hax' hay' hDe' hs' ei' hPr' ⊢
                refine ⟨.ref ax, rfl, ax, _, 1, .int ((bx + 1 : Nat) : Int), rfl, rfl, st_of hax', atI_nat (j := 1) rfl, .ref ay, rfl, ay, _, 0, .int (by' : Int), rfl, rfl, st_of hay', atI_nat (j := 0) rfl, sz_of (by show 2 ≤ 100000; decide), fun c nc => ?_⟩
                have g4 := Ex.new (o := .tup [.int ((bx + 1 : Nat) : Int), .int (by' : Int)]) nc
                have hPl := hPr.length
                rw [List.length_take] at hPl
                have hDe4 := g4 _ _ hDe'
                refine ⟨es, hDe4, sz_lt (by omega), Ex.mut (ei'.trans g4) nDe5, ?_, es ++ [.ref c], upd_same, ?_⟩
                · rw [upd_ne hsD]
                  exact g4 _ _ hs'
                · rw [List.take_add_one, hcg]
                  exact (((hPr'.up g4).app (.cons upd_same .nil))).mutL hDe4
              rintro H6 ⟨e6, hs6, es, hDe6, hPr6⟩
              rw [show br.length = (chain (sz + 2 + 1) br).length from (chain_len _ _).symm, List.take_length] at hPr6
              obtain ⟨al, xl, hal, hal5, hxl⟩ := ends_last hE5
              have hesl := hPr6.length
              rw [chain_len] at hesl
              refine ⟨.ref De, rfl, .int (sz : Int), rfl, .ref D, rfl, D, _, 0, .ref a0, rfl, rfl, sq_of (e6 _ _ hD5), atI_nat (j := 0) hr0, a0, _, 0, .int ((sz + 2 : Nat) : Int), rfl, rfl, st_of (e6 _ _ ha0), atI_nat (j := 0) rfl, sz_of (by show 2 ≤ 100000; decide), fun c1 n1 => ?_⟩
              have g3 := Ex.new (o := .tup [.int (sz : Int), .int ((sz + 2 : Nat) : Int)]) n1
              have e7 := e6.trans g3
              refine ⟨.ref D, rfl, 1, rfl, D, _, -1, .ref al, rfl, rfl, sq_of (e7 _ _ hD5), atI_last hal, al, _, 1, .int ((xl + 1 : Nat) : Int), rfl, rfl, st_of (e7 _ _ hal5), atI_nat (j := 1) rfl, .int ((sz : Int) + 1), rfl, sz_of (by show 2 ≤ 100000; decide), fun c2 n2 => ?_⟩
              have g4 := Ex.new (o := .tup [.int ((xl + 1 : Nat) : Int), .int ((sz : Int) + 1)]) n2
              refine ⟨sz_of (by show 2 ≤ 100000; decide), fun l nl => ?_⟩
              have g5 := Ex.new (o := .lst [.ref c1, .ref c2]) nl
              have g35 := (g3.trans g4).trans g5
              refine ⟨De, l, es, [.ref c1, .ref c2], rfl, rfl, g35 _ _ hDe6, upd_same, sz_of (by show es.length + 2 ≤ 100000; omega), fun pn np => ?_⟩
              have g6 := Ex.new (o := .lst (es ++ [.ref c1, .ref c2])) np
              refine ⟨pn, _, none, none, none, rfl, (e6.trans g35).trans g6, upd_same, ?_⟩
              refine PrAll.app ((hPr6.up g35).up g6) (.cons (g6 _ _ (g5 _ _ (g4 _ _ upd_same))) (.cons ?_ .nil))
              rw [← hxl]
              exact g6 _ _ (g5 _ _ upd_same)
            · have hk : ¬ k = "sequence" := fun z => hb (decide_eq_true (by rw [z]))
              have hown : ownE k sz ((sz + 2) :: br) = ((sz + 2) :: br).map (fun x => (sz, x)) ++ ((sz + 2) :: br).map (fun x => (x + 1, sz + 1)) ++ (if k ≠ "choice" then [(sz, sz + 1)] else []) ++ (if k = "repeat" then [(sz + 2 + 1, sz + 2)] else []) := by
                show (if k = "sequence" then _ else _) = _
                rw [if_neg hk]
              rw [hown]
              have hbsl : ((sz + 2) :: br).length = br.length + 1 := rfl
              generalize hbs : (sz + 2) :: br = bs at hE5 hbsl ⊢
              refine ⟨.ref D, rfl, D, rfl, ⟨rs, sq_of hD5⟩, fun D1 nD1 => ?_⟩
              have g1 := Ex.new (o := .lst []) nD1
              refine lc_it (walk_list (xs := rs)) (fun i H' => Ex H5 H' ∧ ∃ es, H' D1 = some (.lst es) ∧ PrAll H' es ((bs.map (fun x => (sz, x))).take i)) ?_ ?_ ?_ ?_
              · exact ⟨g1, [], upd_same, .nil⟩
              · exact fun i H' _ x => sq_of (x.1 _ _ hD5)
              · rintro i x J J' hi ⟨ei, es, hDe, hPr⟩ ⟨rfl, hx⟩
                obtain ⟨ax, bx, rfl, hbx, hax⟩ := hE5.get hx
                have hPl := hPr.length
                rw [List.length_take, List.length_map] at hPl
                refine ⟨rfl, .int (sz : Int), rfl, .ref ax, rfl, ax, _, 0, .int (bx : Int), rfl, rfl, st_of (ei _ _ hax), atI_nat (j := 0) rfl, sz_of (by show 2 ≤ 100000; decide), fun c nc => ?_⟩
                have g4 := Ex.new (o := .tup [.int (sz : Int), .int (bx : Int)]) nc
                have hDe4 := g4 _ _ hDe
                refine ⟨es, hDe4, sz_lt (by omega), Ex.mut (ei.trans g4) nD1, es ++ [.ref c], upd_same, ?_⟩
                rw [List.take_add_one, List.getElem?_map, hbx]
                exact (((hPr.up g4).app (.cons upd_same .nil))).mutL hDe4
              rintro H6 ⟨e6, es1, hD6, hPr6⟩
              rw [show rs.length = (bs.map (fun x => (sz, x))).length by rw [List.length_map]; omega, List.take_length] at hPr6
              refine ⟨.ref D, rfl, D, rfl, ⟨rs, sq_of (e6 _ _ hD5)⟩, fun D2 nD2 => ?_⟩
              have g2 := Ex.new (o := .lst []) nD2
              refine lc_it (walk_list (xs := rs)) (fun i H' => Ex H6 H' ∧ ∃ es, H' D2 = some (.lst es) ∧ PrAll H' es ((bs.map (fun x => (x + 1, sz + 1))).take i)) ?_ ?_ ?_ ?_
              · exact ⟨g2, [], upd_same, .nil⟩
              · exact fun i H' _ x => sq_of (x.1 _ _ (e6 _ _ hD5))
              · rintro i x J J' hi ⟨ei, es, hDe, hPr⟩ ⟨rfl, hx⟩
                obtain ⟨ax, bx, rfl, hbx, hax⟩ := hE5.get hx
                have hPl := hPr.length
                rw [List.length_take, List.length_map] at hPl
                refine ⟨rfl, .ref ax, rfl, ax, _, 1, .int ((bx + 1 : Nat) : Int), rfl, rfl, st_of (ei _ _ (e6 _ _ hax)), atI_nat (j := 1) rfl, .int ((sz : Int) + 1), rfl, sz_of (by show 2 ≤ 100000; decide), fun c nc => ?_⟩
                have g4 := Ex.new (o := .tup [.int ((bx + 1 : Nat) : Int), .int ((sz : Int) + 1)]) nc
                have hDe4 := g4 _ _ hDe
                refine ⟨es, hDe4, sz_lt (by omega), Ex.mut (ei.trans g4) nD2, es ++ [.ref c], upd_same, ?_⟩
                rw [List.take_add_one, List.getElem?_map, hbx]
                exact (((hPr.up g4).app (.cons upd_same .nil))).mutL hDe4
              rintro H7 ⟨e7, es2, hD7, hPr7⟩
              rw [show rs.length = (bs.map (fun x => (x + 1, sz + 1))).length by rw [List.length_map]; omega, List.take_length] at hPr7
              have l1 := hPr6.length
              have l2 := hPr7.length
              rw [List.length_map] at l1 l2
              refine ⟨D1, D2, es1, es2, rfl, rfl, e7 _ _ hD6, hD7, sz_of (by omega), fun pn np => ?_⟩
              have g8 := Ex.new (o := .lst (es1 ++ es2)) np
              have e57 := e6.trans e7
              have np5 : H5 pn = none := fresh_back e57 np
              refine ⟨fun σ' H' => ∃ es, σ' = [some (.ref G), some (.ref a), some (.int (sz : Int)), some (.int ((sz : Int) + 1)), some (.ref F'), some (.str k), some (.ref D), some (.ref pn), none, none, none] ∧ Ex H5 H' ∧ H' pn = some (.lst es) ∧ PrAll H' es (bs.map (fun x => (sz, x)) ++ bs.map (fun x => (x + 1, sz + 1)) ++ (if k ≠ "choice" then [(sz, sz + 1)] else [])) ∧ es.length ≤ 1000, ?_, ?_⟩
              · have hp8 : PrAll (upd H7 pn (.lst (es1 ++ es2))) (es1 ++ es2) (bs.map (fun x => (sz, x)) ++ bs.map (fun x => (x + 1, sz + 1))) := ((hPr6.up e7).up g8).app (hPr7.up g8)
                have hp8' : (upd H7 pn (.lst (es1 ++ es2))) pn = some (.lst (es1 ++ es2)) := upd_same
                have e58 := e57.trans g8
                generalize upd H7 pn (.lst (es1 ++ es2)) = H8 at hp8 hp8' e58 ⊢
                refine ⟨.str k, rfl, rfl, _, rfl, ite2 (fun hb2 => ?_) (fun hb2 => ?_)⟩
                · have hc : k ≠ "choice" := fun z => by
                    rw [z] at hb2
                    exact absurd hb2 (by decide)
                  rw [if_pos hc]
                  refine ⟨.ref pn, rfl, .inl ⟨rfl, _, sq_of hp8'⟩, .int (sz : Int), rfl, .int ((sz : Int) + 1), rfl, sz_of (by show 2 ≤ 100000; decide), fun c nc => ?_⟩
                  have g9 := Ex.new (o := .tup [.int (sz : Int), .int ((sz : Int) + 1)]) nc
                  have hp9 := g9 _ _ hp8'
                  refine ⟨pn, _, .ref c, rfl, rfl, hp9, sz_lt (by rw [List.length_append]; omega), es1 ++ es2 ++ [.ref c], rfl, Ex.mut (e58.trans g9) np5, upd_same, ?_, by rw [List.length_append, List.length_append, List.length_singleton]; omega⟩
                  exact (((hp8.up g9).app (.cons upd_same .nil))).mutL hp9
                · have hc : ¬ k ≠ "choice" := fun z => hb2 (by
                    have : ¬ V.str k = V.str "choice" := fun e => z (V.str.inj e)
                    simp [this])
                  rw [if_neg hc, List.append_nil]
                  exact ⟨es1 ++ es2, rfl, e58, hp8', hp8, by rw [List.length_append]; omega⟩
              rintro σ9 H9 ⟨es, rfl, e9, h9, hPr9, hl9⟩
              refine ⟨.str k, rfl, rfl, _, rfl, ite2 (fun hb2 => ?_) (fun hb2 => ?_)⟩
              · have hc : k = "repeat" := V.str.inj (of_decide_eq_true hb2)
                refine ⟨.ref pn, rfl, .inl ⟨rfl, _, sq_of h9⟩, .ref D, rfl, D, _, 0, .ref a0, rfl, rfl, sq_of (e9 _ _ hD5), atI_nat (j := 0) hr0, a0, _, 1, .int ((sz + 2 + 1 : Nat) : Int), rfl, rfl, st_of (e9 _ _ ha0), atI_nat (j := 1) rfl,
                  .ref D, rfl, D, _, 0, .ref a0, rfl, rfl, sq_of (e9 _ _ hD5), atI_nat (j := 0) hr0, a0, _, 0, .int ((sz + 2 : Nat) : Int), rfl, rfl, st_of (e9 _ _ ha0), atI_nat (j := 0) rfl, sz_of (by show 2 ≤ 100000; decide), fun c nc => ?_⟩
                have g9 := Ex.new (o := .tup [.int ((sz + 2 + 1 : Nat) : Int), .int ((sz + 2 : Nat) : Int)]) nc
                have hp9 := g9 _ _ h9
                refine ⟨pn, _, .ref c, rfl, rfl, hp9, sz_lt (by omega), pn, es ++ [.ref c], none, none, none, rfl, Ex.mut (e9.trans g9) np5, upd_same, ?_⟩
                rw [if_pos hc]
                exact (((hPr9.up g9).app (.cons upd_same .nil))).mutL hp9
              · have hc : ¬ k = "repeat" := fun z => hb2 (decide_eq_true (by rw [z]))
                rw [if_neg hc, List.append_nil]
                exact ⟨pn, es, none, none, none, rfl, e9, h9, hPr9⟩
        rintro σ6 H6 ⟨De, es, y8, y9, y10, rfl, e6, hDe, hPr⟩
        have hG6 := hG5.up e6
        have m6 := m5.trans (Fm.ex e6)
        have hol := own_len k sz (Tr.begs ps (sz + 2))
        have hpl := hPr.length
        have hel := edsL_len ps (sz + 2)
        refine ⟨.ref De, rfl, De, rfl, ⟨_, sq_of hDe⟩, for_it (walk_list (xs := es)) (fun i σ H' => Fm G F' L H6 H' ∧ Gst H' G F' L (sz + 2 + 2 * Tr.nns ps) (E ++ Tr.edsL ps (sz + 2) ++ (ownE k sz (Tr.begs ps (sz + 2))).take i) (Ls ++ Tr.lfsL ps (sz + 2)) ∧ ∃ y8 y9, σ = [some (.ref G), some (.ref a), some (.int (sz : Int)), some (.int ((sz : Int) + 1)), some (.ref F'), some (.str k), some (.ref D), some (.ref De), y8, y9, y10]) ?_ ?_ ?_ ?_⟩
        · refine ⟨Fm.refl, ?_, y8, y9, rfl⟩
          rw [List.take_zero, List.append_nil]
          exact hG6
        · rintro i σ H' _ ⟨mi, _⟩
          exact sq_of (hG6.stay mi hDe (fun _ z => nomatch z))
        · rintro i x σ J J' hi ⟨mi, hGi, y8', y9', rfl⟩ ⟨rfl, hx⟩
          obtain ⟨c, x1, x2, rfl, hpi, hc⟩ := hPr.get hx
          have hcJ := hG6.stay mi hc (fun _ z => nomatch z)
          refine ⟨c, _, rfl, st_of hcJ, rfl, _, _, rfl, _, _, rfl, rfl, ?_⟩
          obtain ⟨kvs, hkF, hkl, hkv⟩ := hGi.f
          have hElen : (E ++ Tr.edsL ps (sz + 2) ++ (ownE k sz (Tr.begs ps (sz + 2))).take i).length ≤ 200 := by
            rw [List.length_append, List.length_append, List.length_take]
            have h0 : (Tr.node k ps).nn = 1 + Tr.nns ps := rfl
            omega
          refine ⟨.ref F', rfl, F', rfl, .inl ⟨kvs, .inl hkF⟩, .int (x1 : Int), rfl, sz_of (by decide), fun p1 n1 => ?_⟩
          have f1 := Ex.new (o := .lst []) n1
          have key : ∃ o b ys, DGet (upd J' p1 (.lst [])) F' (kV (Sum.inl (x1 : Int))) o ∧ o.getD (.ref p1) = .ref b ∧ (upd J' p1 (.lst [])) b = some (.lst (nums ys)) ∧ ys.length ≤ 200 ∧ ((valV kvs (Sum.inl (x1 : Int)) = none ∧ ys = []) ∨ ∃ l0, valV kvs (Sum.inl (x1 : Int)) = some (.ref l0) ∧ J' l0 = some (.lst (nums ys))) := by
            rcases hkv x1 with ⟨h1, h2⟩ | ⟨l2, ys, h1, h2, h3, h4⟩
            · exact ⟨none, p1, [], by rw [← h1]; exact DGet.k (k := Sum.inl (x1 : Int)) (f1 _ _ hkF), rfl, upd_same, by decide, .inl ⟨h1, rfl⟩⟩
            · exact ⟨some (.ref l2), l2, ys, by rw [← h1]; exact DGet.k (k := Sum.inl (x1 : Int)) (f1 _ _ hkF), rfl, f1 _ _ h2, by omega, .inr ⟨l2, h1, h2⟩⟩
          obtain ⟨o, b, ys, hg, ho, hb1, hys, hcase⟩ := key
          have hyl : (nums ys).length = ys.length := List.length_map ..
          refine ⟨o, hg, .int (x2 : Int), rfl, sz_of (by show 1 ≤ 100000; decide), fun p2 n2 => ?_⟩
          have f2 := Ex.new (o := .lst [.int (x2 : Int)]) n2
          refine ⟨b, p2, nums ys, [.int (x2 : Int)], ho, rfl, f2 _ _ hb1, upd_same, sz_of (by rw [hyl, List.length_singleton]; omega), fun p3 n3 => ?_⟩
          have f3 := Ex.new (o := .lst (nums ys ++ [.int (x2 : Int)])) n3
          have f13 := (f1.trans f2).trans f3
          have hp3 : (upd (upd (upd J' p1 (.lst [])) p2 (.lst [.int (x2 : Int)])) p3 (.lst (nums ys ++ [.int (x2 : Int)]))) p3 = some (.lst (nums (ys ++ [x2]))) := by
            rw [nums_snoc]
            exact upd_same
          generalize upd (upd (upd J' p1 (.lst [])) p2 (.lst [.int (x2 : Int)])) p3 (.lst (nums ys ++ [.int (x2 : Int)])) = J3 at f13 hp3 ⊢
          have hG3' := hGi.up f13
          have hk3 := f13 _ _ hkF
          refine ⟨.ref F', rfl, .int (x1 : Int), rfl, F', _, rfl, DPut.k (k := Sum.inl (x1 : Int)) hk3 (sz_lt (by omega)), ?_⟩
          refine ⟨(mi.trans (Fm.ex f13)).trans Fm.f, ?_, some (.int (x1 : Int)), some (.int (x2 : Int)), rfl⟩
          have hput := hG3'.f.put hk3 hp3 (hcase.imp id fun ⟨l0, q1, q2⟩ => ⟨l0, q1, f13 _ _ q2⟩)
          rw [List.take_add_one, hpi]
          show Gst _ G F' L _ (E ++ Tr.edsL ps (sz + 2) ++ ((ownE k sz (Tr.begs ps (sz + 2))).take i ++ [(x1, x2)])) _
          rw [← List.append_assoc]
          exact ⟨hG3'.gf, hG3'.gl, hG3'.fl, by rw [upd_ne hG3'.gf]; exact hG3'.g, hput, hG3'.l.keep (fun o e => by rw [upd_ne hG3'.fl.symm]; exact e) (fun b xs e => hG3'.stay Fm.f e (fun _ z => nomatch z))⟩
        · rintro σ H7 ⟨m7, hG7, y8', y9', rfl⟩
          rw [hpl, List.take_length] at hG7
          refine ⟨.int (sz : Int), rfl, .int ((sz : Int) + 1), rfl, sz_of (by show 2 ≤ 100000; decide), fun c4 n4 => ?_⟩
          have f4 := Ex.new (o := .tup [.int (sz : Int), .int ((sz : Int) + 1)]) n4
          refine q c4 _ ((m6.trans m7).trans (Fm.ex f4)) upd_same ?_
          have := hG7.up f4
          rw [List.append_assoc] at this
          rw [show sz + 2 * (Tr.node k ps).nn = sz + 2 + 2 * Tr.nns ps by omega]
          exact this
end
end K04
namespace K04
open PySem PySem.Spec PyProof.Rows L2 Evl Es
abbrev nGraph : List Str := ["_law_expression_here", "_law_graph_here", "_law_begin", "_law_end"]
theorem scGraph : FnScope nGraph ["_law_expression_here"] (defScope sGraph) := ⟨rfl, rfl, rfl, by decide +kernel, rfl, by decide +kernel, by decide +kernel⟩
/-- expressions that are small enough for a graph -/
def Gsm (t : Tr) : Prop := t.ok ∧ t.uno ∧ 4 * t.nn ≤ 100 ∧ t.lv.length ≤ 60 ∧ t.big ≤ 400
def spGraph (d : Nat) : Sp := fun vs H Q _ => ∃ (p : Addr) (v : V) (t : Tr), vs = [v] ∧ TrAt p H v t ∧ Gsm t ∧ t.dep < d ∧
  ∀ a F L H', Ex H H' → H' a = some (.tup [.ref F, .ref L, .int 0, .int 1]) → FreeB H' F (t.eds 0) → LeafAt H' L (t.lfs 0) → Q (.ref a) H'
section
variable {P : Program} {w : World} {K : PySem.W.Frag} {mg : Str → Option Value} {base : Heap}
theorem ok_graph {f fN : Addr} {fd dN : FuncData} {d lv : Nat} (F : Fun K "_law_graph" "_law_graph" sGraph f fd)
    (GN : FnOk P w K mg base CX0 lv fN dN ["_law_graph_here", "_law_expression_here"] (spNodes d)) (bN : Binds K dN ["_law_graph_here", "_law_expression_here"] []) (gN : mg "_law_nodes" = some (.ref fN)) (kN : PySem.W.keepIn K (.ref fN) = true) :
    FnOk P w K mg base CX0 (lv + 1) f fd ["_law_expression_here"] (spGraph d) := by
  refine F.ok scGraph (fun vs H Q E h => ?_) (fun cdv A outer s H vs Q E hr h => ?_)
  · obtain ⟨p, v, t, rfl, _⟩ := h
    rfl
  · obtain ⟨p, v, t, rfl, ht, ⟨hok, hun, hn, hlv, hbig⟩, hd, q⟩ := h
    have hu := hu_of hr
    refine ⟨_, pss_cons (ps_set (i := 1) scGraph.nd rfl (.inl rfl) (pe_disp (pps_cons pe_str pe_dnewK (pps_cons pe_str pe_dnewK (pps_cons pe_str pe_int pps_nil))) (by rfl) (by rfl) (fun z => by cases z) (by decide)))
      (pss_cons (ps_asg (pe_call GN hr (by rfl) gN kN bN .nil pass0 (pa_cons (pv 1) (pa_cons (pv 0) pa_nil))) (pg_tup rfl (pgs_cons (pg_name (i := 2) scGraph.nd rfl (.inl rfl)) (pgs_cons (pg_name (i := 3) scGraph.nd rfl (.inl rfl)) pgs_nil))))
      (pss_one (ps_ret (pe_tup (pa_cons (pe_dget hu (pv 1) pe_str (fun _ _ => rfl)) (pa_cons (pe_dget hu (pv 1) pe_str (fun _ _ => rfl)) (pa_cons (pv 2) (pa_cons (pv 3) pa_nil)))))))), ?_⟩
    refine fun G nG => ?_
    have e1 := Ex.new (o := .dK []) nG
    refine fun F nF => ?_
    have e2 := Ex.new (o := .dK []) nF
    refine fun L nL => ?_
    have e3 := Ex.new (o := .dK []) nL
    have hGF : G ≠ F := fun z => by
      rw [← z, upd_same] at nF
      cases nF
    have hGL : G ≠ L := fun z => by
      rw [← z, e2 _ _ upd_same] at nL
      cases nL
    have hFL : F ≠ L := fun z => by
      rw [← z, upd_same] at nL
      cases nL
    have nF0 : H F = none := fresh_back e1 nF
    have nL0 : H L = none := fresh_back (e1.trans e2) nL
    have e13 := (e1.trans e2).trans e3
    refine ⟨e3 _ _ (e2 _ _ upd_same), grD F L 0, rfl, by show 3 ≤ 15; decide, ?_⟩
    have hmk : mergeK [] (grD F L 0) = grD F L 0 := rfl
    rw [hmk]
    have e4 : Ex H (upd (upd (upd (upd H G (.dK [])) F (.dK [])) L (.dK [])) G (.dK (grD F L 0))) := Ex.mut e13 nG
    have hG4 : Gst (upd (upd (upd (upd H G (.dK [])) F (.dK [])) L (.dK [])) G (.dK (grD F L 0))) G F L 0 [] [] := by
      refine ⟨hGF, hGL, hFL, upd_same, ⟨[], ?_, Nat.le_refl _, fun x => .inl ⟨rfl, fun y h => nomatch h⟩⟩, ⟨[], ?_, rfl, fun i b h => nomatch h⟩⟩
      · rw [upd_ne hGF.symm]
        exact e3 _ _ upd_same
      · rw [upd_ne hGL.symm]
        exact upd_same
    generalize upd (upd (upd (upd H G (.dK [])) F (.dK [])) L (.dK [])) G (.dK (grD F L 0)) = H4 at e4 hG4 ⊢
    refine ⟨.ref G, rfl, v, rfl, p, G, F, L, v, t, 0, [], [], rfl, ht.up e4, hok, hun, hd, hG4, by show 0 + 4 * t.nn ≤ 100; omega, by show 0 + t.lv.length ≤ 60; omega, by omega, hbig, fun a H5 m5 ha hG5 => ?_⟩
    refine ⟨a, _, rfl, st_of ha, rfl, _, _, rfl, _, _, rfl, rfl, .ref G, rfl, G, _, rfl, hG5.dfree, .ref G, rfl, G, _, rfl, hG5.dleaf, .int 0, rfl, .int 1, rfl, sz_of (by show 4 ≤ 100000; decide), fun c nc => ?_⟩
    have e6 := Ex.new (o := .tup [.ref F, .ref L, .int 0, .int 1]) nc
    have e5 : Ex H H5 := fun b o hb => m5 b o (fun z => by rw [z, nG] at hb; cases hb) (fun z => by rw [z, nF0] at hb; cases hb) (fun z => by rw [z, nL0] at hb; cases hb) (e4 _ _ hb)
    have hG6 := hG5.up e6
    exact q c F L _ (e5.trans e6) upd_same hG6.f hG6.l
end
end K04
namespace K04
open PySem PySem.Spec PyProof.Rows L2 Evl Es
abbrev nFollow : List Str := ["_law_expression_here", "_law_free", "_law_places", "_law_begin", "_law_end", "_law_follow_here", "_law_ends", "_law_number", "_law_near", "_law_later"]
theorem scFollow : FnScope nFollow ["_law_expression_here"] (defScope sFollow) := ⟨rfl, rfl, rfl, by decide +kernel, rfl, by decide +kernel, by decide +kernel⟩
/-- what may follow, by the graph, for the first n numbers -/
def FolAt (H : Hp) (A B : Addr) (t : Tr) (n : Nat) : Prop := ∃ kvs : List (Key × V), H A = some (.dK kvs) ∧ kvs.map (·.1) = (List.range n).map (fun (i : Nat) => (Sum.inl (i : Int) : Key)) ∧
  ∀ k < n, ∃ l ns, valV kvs (Sum.inl (k : Int)) = some (.ref l) ∧ H l = some (.lst (nums ns)) ∧ l ≠ B ∧ ns.length ≤ 100 ∧ ∀ ms, Behind (t.shp 1) k ms → ms = ns
def EndAt (H : Hp) (B : Addr) (t : Tr) (n : Nat) : Prop := ∃ es : List Nat, H B = some (.lst (nums es)) ∧ es.length ≤ n ∧ (∀ k ∈ es, k < n) ∧ ∀ k < n, (k ∈ es ↔ endB (t.shp 1) k = true)
def spFollow (d : Nat) : Sp := fun vs H Q _ => ∃ (p : Addr) (v : V) (t : Tr), vs = [v] ∧ TrAt p H v t ∧ Gsm t ∧ t.dep < d ∧
  ∀ a A B H', Ex H H' → H' a = some (.tup [.ref A, .ref B]) → FolAt H' A B t (t.lv.length + 1) → EndAt H' B t (t.lv.length + 1) → H A = none → A ≠ B → Q (.ref a) H'
def upI (n : Nat) : List Int := (List.range' 1 n).map fun (i : Nat) => (i : Int)
theorem upI_asc (n : Nat) : (upI n).Pairwise (· ≤ ·) := List.Pairwise.map _ (fun a b h => by
  have : a < b := h
  omega) (List.pairwise_lt_range' (s := 1) (n := n))
theorem sort_upI {n : Nat} {ys : List Int} (h : ys.Perm (upI n)) (k : ys.Pairwise (· ≤ ·)) : ys.map V.int = nums (List.range' 1 n) := by
  rw [List.Perm.eq_of_pairwise (fun a b _ _ h1 h2 => Int.le_antisymm h1 h2) k (upI_asc n) h]
  unfold upI nums
  rw [List.map_map]
  rfl
theorem upI_keys {kvs : List (Key × V)} {n : Nat} (h : kvs.map (·.1) = (List.range' 1 n).map (fun (i : Nat) => (Sum.inl (i : Int) : Key))) : kvs.map (·.1) = (upI n).map Sum.inl := by
  rw [h]
  unfold upI
  rw [List.map_map]
  rfl
theorem upI_len (n : Nat) : (upI n).length = n := by
  unfold upI
  rw [List.length_map, List.length_range']
theorem FolAt.keep {H H' : Hp} {A B : Addr} {t : Tr} {n : Nat} (h : FolAt H A B t n) (e : ∀ o, H A = some o → H' A = some o) (k : ∀ a xs, H a = some (.lst xs) → a ≠ A → a ≠ B → H' a = some (.lst xs)) : FolAt H' A B t n := by
  obtain ⟨kvs, h1, h2, h3⟩ := h
  refine ⟨kvs, e _ h1, h2, fun j hj => ?_⟩
  obtain ⟨l, ns, a, b, c, c2⟩ := h3 j hj
  exact ⟨l, ns, a, k _ _ b (fun z => by rw [z, h1] at b; cases b) c, c, c2⟩
theorem val_fresh {kvs : List (Key × V)} {n : Nat} (hk : kvs.map (·.1) = (List.range n).map (fun (i : Nat) => (Sum.inl (i : Int) : Key))) : valV kvs (Sum.inl (n : Int)) = none := by
  have h0 : ∀ kv ∈ kvs, kv.1 ≠ Sum.inl (n : Int) := fun kv hkv z => by
    have : kv.1 ∈ kvs.map (·.1) := List.mem_map_of_mem hkv
    rw [hk] at this
    obtain ⟨i, hi, e⟩ := List.mem_map.mp this
    rw [z] at e
    have := Sum.inl.inj e
    have := List.mem_range.mp hi
    omega
  unfold valV
  rw [List.find?_eq_none.mpr fun kv hkv => by rw [decide_eq_true_iff]; exact h0 kv hkv]
  rfl
theorem FolAt.put {H : Hp} {A B l : Addr} {t : Tr} {n : Nat} {ns : List Nat} {kvs : List (Key × V)} (h : FolAt H A B t n) (hk : H A = some (.dK kvs)) (hl : H l = some (.lst (nums ns))) (hB : l ≠ B) (h100 : ns.length ≤ 100) (hns : ∀ ms, Behind (t.shp 1) n ms → ms = ns) :
    FolAt (upd H A (.dK (putK kvs (Sum.inl (n : Int)) (.ref l)))) A B t (n + 1) := by
  obtain ⟨kvs', h1, h2, h3⟩ := h
  rw [hk] at h1
  cases h1
  have hn := val_fresh h2
  rw [putK_new _ hn]
  have ne : ∀ {c : Addr} {xs : List V}, H c = some (.lst xs) → c ≠ A := fun {c xs} e z => by
    rw [z, hk] at e
    cases e
  refine ⟨_, upd_same, ?_, fun k hkn => ?_⟩
  · rw [List.map_append, h2, List.range_succ, List.map_append]
    rfl
  · rw [valV_snoc _ _ _ _ hn]
    by_cases hkk : k = n
    · subst hkk
      exact ⟨l, ns, if_pos rfl, by rw [upd_ne (ne hl)]; exact hl, hB, h100, hns⟩
    · obtain ⟨l1, ns1, q1, q2, q3⟩ := h3 k (by omega)
      exact ⟨l1, ns1, by rw [if_neg (fun e => hkk (by have := Sum.inl.inj e; omega))]; exact q1, by rw [upd_ne (ne q2)]; exact q2, q3⟩
section
variable {P : Program} {w : World} {K : PySem.W.Frag} {mg : Str → Option Value} {base : Heap}
theorem ok_follow {f fG fR : Addr} {fd dG dR : FuncData} {d lv : Nat} (F : Fun K "_law_follow" "_law_follow" sFollow f fd)
    (GG : FnOk P w K mg base CX0 lv fG dG ["_law_expression_here"] (spGraph d)) (bG : Binds K dG ["_law_expression_here"] []) (gG : mg "_law_graph" = some (.ref fG)) (kG : PySem.W.keepIn K (.ref fG) = true)
    (GR : FnOk P w K mg base CX0 lv fR dR ["_law_edges", "_law_starts"] spReach) (bR : Binds K dR ["_law_edges", "_law_starts"] []) (gR : mg "_law_reached" = some (.ref fR)) (kR : PySem.W.keepIn K (.ref fR) = true)
    (mS : mg "sorted" = none) (mI : mg "int" = none) :
    FnOk P w K mg base CX0 (lv + 1) f fd ["_law_expression_here"] (spFollow d) := by
  refine F.ok scFollow (fun vs H Q E h => ?_) (fun cdv A outer s H vs Q E hr h => ?_)
  · obtain ⟨p, v, t, rfl, _⟩ := h
    rfl
  · obtain ⟨p, v, t, rfl, ht, hsm, hd, q⟩ := h
    have hu := hu_of hr
    refine ⟨_, pss_cons (ps_asg (pe_call GG hr (by rfl) gG kG bG .nil pass0 (pa_cons (pv 0) pa_nil)) (pg_tup rfl (pgs_cons (pg_name (i := 1) scFollow.nd rfl (.inl rfl)) (pgs_cons (pg_name (i := 2) scFollow.nd rfl (.inr rfl)) (pgs_cons (pg_name (i := 3) scFollow.nd rfl (.inl rfl)) (pgs_cons (pg_name (i := 4) scFollow.nd rfl (.inl rfl)) pgs_nil))))))
      (pss_cons (ps_par rfl scFollow.nd rfl rfl (by decide) rfl rfl (i := 5) (j := 6) (pa_cons pe_dnewK (pa_cons (pe_lst pa_nil) pa_nil)) (by rfl))
      (pss_cons (ps_for PassesOwn.never rfl (pi_list (pe_op op_cat (pe_lst (pa_cons pe_int pa_nil)) (pe_callB (call_sortedDI rfl) (by rfl) mS (by decide +kernel) (pa_cons (pv 2) pa_nil)))) (pg_name (i := 7) scFollow.nd rfl (.inl rfl))
        (pss_cons (ps_set (i := 8) scFollow.nd rfl (.inr rfl) (pe_call GR hr (by rfl) gR kR bR .nil pass0 (pa_cons (pv 1) (pa_cons (pe_lst (pa_cons (pe_ifExp (pt_cmpR op_eq (pv 7) pe_int (nomark _)) (pv 3) (pe_ix ix_tup (pe_dget hu (pv 2) (pv 7) (fun _ _ => rfl)) pe_int (fun _ _ => rfl))) pa_nil)) pa_nil))))
        (pss_cons (ps_dput hu (pv 5) (pv 7) (pe_lc (own := [("_law_later", 9)]) (g := gName 9) (tt := tB (tDIn (tOp (rIxT K) (tDGet (tVar 2) (tVar 9)) (tC (.int 0))) (tVar 8))) rfl scFollow.nd (pi_list (pe_callB (call_sortedDI rfl) (by rfl) mS (by decide +kernel) (pa_cons (pv 2) pa_nil)))
            (blkOk_by (N := nFollow) (sc := defScope sFollow) (own := [("_law_later", 9)]) (by decide +kernel)) (fun _ _ _ _ _ => pg_name (i := 9) scFollow.nd rfl (Or.inl rfl))
            (fun _ _ _ _ _ => pts_one (pt_cmp (pc_din hu (pe_ix (r := rIxT K) ix_tup (pe_dget hu (pv 2) (pv 9) (fun _ _ => rfl)) pe_int (fun _ _ => rfl)) (pv 8)))) (fun _ _ _ _ _ => pv 9)) rfl)
        (pss_one (ps_expr (pe_bm PySem.F.plainAttrs_list PySem.F.slot_list_extend PySem.F.type_list_extend mt_extend (pv 6) (pa_cons (pe_op op_rep (pe_lst (pa_cons (pv 7) pa_nil)) (pe_callTy call_int1 (by rfl) mI (by decide +kernel) (pa_cons (pe_cmp (pc_din hu (pv 4) (pv 8)) rfl) pa_nil))) pa_nil)))))))
      (pss_one (ps_ret (pe_tup (pa_cons (pv 5) (pa_cons (pv 6) pa_nil))))))), ?_⟩
    refine ⟨v, rfl, p, v, t, rfl, ht, hsm, hd, fun c F' L H1 e1 hc hF hL => ?_⟩
    refine ⟨c, _, rfl, st_of hc, rfl, _, _, rfl, _, _, rfl, _, _, rfl, _, _, rfl, rfl, ?_⟩
    refine fun A nA => ⟨sz_of (by decide), fun B nB => ⟨_, _, rfl, ?_⟩⟩
    have e2 := Ex.new (o := .dK []) nA
    have e3 := Ex.new (o := .lst []) nB
    have nB1 : H1 B = none := fresh_back e2 nB
    have hAB : A ≠ B := fun z => by
      rw [← z, upd_same] at nB
      cases nB
    have nA0 : H A = none := fresh_back e1 nA
    obtain ⟨hok, hun, hn, hlv, hbig⟩ := hsm
    have hN := (node_tr t 0 1 hok hun).box
    have hlen := lfs_len t 0
    obtain ⟨kvs, hLk, hkeys, hLv⟩ := hL
    rw [hlen] at hkeys
    have hkeys' := upI_keys hkeys
    have hFE : FreeAt H1 F' (t.eds 0) := by
      obtain ⟨kf, f1, f2, f3⟩ := hF
      have := eds_len t 0
      refine ⟨kf, f1, by omega, fun x => (f3 x).imp id fun ⟨l, ys, q1, q2, q3, q4, q5⟩ => ⟨l, ys, q1, q2, by omega, q5⟩⟩
    have hA3 : (upd (upd H1 A (.dK [])) B (.lst [])) A = some (.dK []) := e3 _ _ upd_same
    have hB3 : (upd (upd H1 A (.dK [])) B (.lst [])) B = some (.lst []) := upd_same
    have e13 := e2.trans e3
    generalize upd (upd H1 A (.dK [])) B (.lst []) = H3 at e13 hA3 hB3 ⊢
    refine ⟨sz_of (by show 1 ≤ 100000; decide), fun l0 nl0 => ⟨.ref L, rfl, ?_⟩⟩
    have g1 := Ex.new (o := .lst [.int 0]) nl0
    refine ⟨L, kvs, upI t.lv.length, rfl, .inl (g1 _ _ (e13 _ _ hLk)), hkeys', by rw [upI_len]; omega, fun ys p1 hperm hasc np1 => ?_⟩
    rw [sort_upI hperm hasc]
    have g2 := Ex.new (o := .lst (nums (List.range' 1 t.lv.length))) np1
    have hrl : (nums (List.range' 1 t.lv.length)).length = t.lv.length := by
      unfold nums
      rw [List.length_map, List.length_range']
    refine ⟨l0, p1, _, _, rfl, rfl, g2 _ _ upd_same, upd_same, sz_of (by rw [hrl, List.length_singleton]; omega), fun ln nln => ?_⟩
    have hits : [V.int 0] ++ nums (List.range' 1 t.lv.length) = nums (List.range (t.lv.length + 1)) := by
      rw [List.range_eq_range', List.range'_succ]
      rfl
    rw [hits]
    have g3 := Ex.new (o := .lst (nums (List.range (t.lv.length + 1)))) nln
    have g13 := (g1.trans g2).trans g3
    have hln : (upd (upd (upd H3 l0 (.lst [.int 0])) p1 (.lst (nums (List.range' 1 t.lv.length)))) ln (.lst (nums (List.range (t.lv.length + 1))))) ln = some (.lst (nums (List.range (t.lv.length + 1)))) := upd_same
    have nln3 : H3 ln = none := fresh_back (g1.trans g2) nln
    generalize upd (upd (upd H3 l0 (.lst [.int 0])) p1 (.lst (nums (List.range' 1 t.lv.length)))) ln (.lst (nums (List.range (t.lv.length + 1)))) = H4 at g13 hln ⊢
    have hlnA : ln ≠ A := fun z => by
      rw [z, hA3] at nln3
      cases nln3
    have hlnB : ln ≠ B := fun z => by
      rw [z, hB3] at nln3
      cases nln3
    refine ⟨ln, rfl, ⟨_, sq_of hln⟩, for_it (walk_list (xs := nums (List.range (t.lv.length + 1)))) (fun i σ H' => Ex H1 H' ∧ H' ln = some (.lst (nums (List.range (t.lv.length + 1)))) ∧ FolAt H' A B t i ∧ EndAt H' B t i ∧ ∃ y7 y8, σ = [some v, some (.ref F'), some (.ref L), some (.int 0), some (.int 1), some (.ref A), some (.ref B), y7, y8, none]) ?_ ?_ ?_ ?_⟩
    · exact ⟨e13.trans g13, hln, ⟨[], g13 _ _ hA3, rfl, fun k hk => absurd hk (Nat.not_lt_zero _)⟩, ⟨[], g13 _ _ hB3, Nat.le_refl _, (fun _ h => nomatch h), fun k hk => absurd hk (Nat.not_lt_zero _)⟩, none, none, rfl⟩
    · exact fun i σ H' _ x => sq_of x.2.1
    · rintro i x σ J J' hi ⟨ej, hlnJ, hAJ, hBJ, y7, y8, rfl⟩ ⟨rfl, hx⟩
      have hll : (nums (List.range (t.lv.length + 1))).length = t.lv.length + 1 := by
        unfold nums
        rw [List.length_map, List.length_range]
      rw [hll] at hi
      have hxi : x = .int (i : Int) := by
        unfold nums at hx
        rw [List.getElem?_map, List.getElem?_range hi] at hx
        exact (Option.some.inj hx).symm
      subst hxi
      have hLJ := ej _ _ hLk
      -- where the way begins
      have hstart : ∃ x0 : Nat, startN t i x0 ∧ x0 < 64 ∧ Ev (tIf (tTest (tOp rEq (tVar 7) (tC (.int 0)))) (tVar 3) (tOp (rIxT K) (tDGet (tVar 2) (tVar 7)) (tC (.int 1)))) [some v, some (.ref F'), some (.ref L), some (.int 0), some (.int 1), some (.ref A), some (.ref B), some (.int (i : Int)), y8, none] J' (.int (x0 : Int)) := by
        by_cases h0 : i = 0
        · refine ⟨0, .inl ⟨h0, rfl⟩, by decide, ev_if (et_test (ev_op (ev_var rfl) ev_c (rv_eq rfl))) (fun hb => ev_var rfl) (fun hb => ?_)⟩
          rw [zero_eq, decide_eq_true h0] at hb
          cases hb
        · have hi1 : i - 1 < (t.lfs 0).length := by omega
          have hb0 : (t.lfs 0)[i - 1]? = some ((t.lfs 0)[i - 1]) := List.getElem?_eq_getElem hi1
          obtain ⟨a1, v1, hv1, ha1⟩ := hLv _ _ hb0
          rw [show i - 1 + 1 = i by omega] at hv1
          have hr := hN.lr _ _ hb0
          refine ⟨(t.lfs 0)[i - 1] + 1, .inr ⟨_, hb0, by omega, rfl⟩, by omega, ev_if (et_test (ev_op (ev_var rfl) ev_c (rv_eq rfl))) (fun hb => ?_) (fun hb => ?_)⟩
          · rw [zero_eq, decide_eq_false h0] at hb
            cases hb
          · intro J1 ee Q1 q1
            exact ⟨.ref L, rfl, .int (i : Int), rfl, L, .ref a1, rfl, by rw [← hv1]; exact DGet.k (k := Sum.inl (i : Int)) (ee _ _ hLJ), a1, _, 1, _, rfl, rfl, st_of (ee _ _ (ej _ _ ha1)), atI_nat (j := 1) rfl, q1 J1 (Ex.refl _)⟩
      obtain ⟨x0, hx0, hx64, hEv⟩ := hstart
      refine ⟨.ref F', rfl, hEv J' (Ex.refl _) _ fun J1 ee1 => ⟨sz_of (by show 1 ≤ 100000; decide), fun ls nls => ?_⟩⟩
      have f1 := Ex.new (o := .lst [.int (x0 : Int)]) nls
      have hJ1 := ej.trans (ee1.trans f1)
      refine ⟨F', ls, t.eds 0, x0, rfl, hFE.up hJ1, upd_same, hx64, fun a b h => by have := (hN.rng a b h).2; omega, fun dn S J2 ee2 ndn hdn hS => ?_⟩
      have eJ2 := (ee1.trans f1).trans ee2
      have hR : ∀ y, (decide (y ∈ S)) = true ↔ Gr.Rc (t.eds 0) x0 y := fun y => decide_eq_true_iff.trans (hS y)
      have e12 := ej.trans eJ2
      -- the followers
      refine ⟨.ref L, rfl, L, kvs, upI t.lv.length, rfl, .inl (e12 _ _ hLk), hkeys', by rw [upI_len]; omega, fun ys p2 hperm2 hasc2 np2 => ?_⟩
      rw [sort_upI hperm2 hasc2]
      have f2 := Ex.new (o := .lst (nums (List.range' 1 t.lv.length))) np2
      refine ⟨p2, rfl, ⟨_, sq_of upd_same⟩, fun Dl nDl => ?_⟩
      have f3 := Ex.new (o := .lst []) nDl
      have nDl2 : J2 Dl = none := fresh_back f2 nDl
      have hDp : p2 ≠ Dl := fun z => by
        rw [← z, upd_same] at nDl
        cases nDl
      refine lc_it (walk_list (xs := nums (List.range' 1 t.lv.length))) (fun j H' => Ex J2 H' ∧ H' p2 = some (.lst (nums (List.range' 1 t.lv.length))) ∧ H' Dl = some (.lst (nums (((List.range' 1 t.lv.length).take j).filter (fun m => (t.lfs 0)[m - 1]?.any fun y => decide (y ∈ S)))))) ?_ ?_ ?_ ?_
      · exact ⟨f2.trans f3, f3 _ _ upd_same, upd_same⟩
      · exact fun j H' _ x => sq_of x.2.1
      · rintro j x J3 J4 hj ⟨e3j, hp3, hD3⟩ ⟨rfl, hxj⟩
        rw [hrl] at hj
        have hg : (List.range' 1 t.lv.length)[j]? = some (1 + j) := by
          rw [List.getElem?_range' hj]
          rw [Nat.one_mul]
        have hxe : x = .int ((j + 1 : Nat) : Int) := by
          unfold nums at hxj
          rw [List.getElem?_map, hg] at hxj
          rw [Nat.add_comm j 1]
          exact (Option.some.inj hxj).symm
        subst hxe
        have hj1 : j < (t.lfs 0).length := by omega
        have hb0 : (t.lfs 0)[j]? = some ((t.lfs 0)[j]) := List.getElem?_eq_getElem hj1
        obtain ⟨a1, v1, hv1, ha1⟩ := hLv _ _ hb0
        have e14 := e12.trans e3j
        have hpred : ((t.lfs 0)[1 + j - 1]?.any fun y => decide (y ∈ S)) = decide ((t.lfs 0)[j] ∈ S) := by
          rw [show 1 + j - 1 = j by omega, hb0]
          rfl
        have hfl : (((List.range' 1 t.lv.length).take j).filter (fun m => (t.lfs 0)[m - 1]?.any fun y => decide (y ∈ S))).length ≤ j := by
          refine Nat.le_trans (List.length_filter_le _ _) ?_
          rw [List.length_take]
          omega
        refine ⟨rfl, .ref L, rfl, .int ((j + 1 : Nat) : Int), rfl, L, .ref a1, rfl, by rw [← hv1]; exact DGet.k (k := Sum.inl ((j + 1 : Nat) : Int)) (e14 _ _ hLk), a1, _, 0, _, rfl, rfl, st_of (e14 _ _ ha1), atI_nat (j := 0) rfl, .ref dn, rfl, dn, _, rfl, DGet.k (k := Sum.inl (((t.lfs 0)[j] : Nat) : Int)) (e3j _ _ hdn), _, rfl, ite2 (fun hb => ?_) (fun hb => ?_)⟩
        · rw [trues_some] at hb
          refine ⟨.int ((j + 1 : Nat) : Int), rfl, _, hD3, sz_lt (by unfold nums; rw [List.length_map]; omega), Ex.mut e3j nDl2, by rw [upd_ne hDp]; exact hp3, ?_⟩
          rw [upd_same, List.take_add_one, hg, List.filter_append, ← nums_snoc]
          show _ = some (HO.lst (nums (_ ++ List.filter _ [1 + j])))
          rw [List.filter_cons_of_pos (by rw [hpred]; exact hb), List.filter_nil, Nat.add_comm j 1]
        · rw [trues_some] at hb
          refine ⟨e3j, hp3, ?_⟩
          rw [hD3, List.take_add_one, hg, List.filter_append]
          show _ = some (HO.lst (nums (_ ++ List.filter _ [1 + j])))
          rw [List.filter_cons_of_neg (by rw [hpred]; exact hb), List.filter_nil, List.append_nil]
      rintro J5 ⟨e25, hp5, hD5⟩
      rw [hrl, show (List.range' 1 t.lv.length).take t.lv.length = List.range' 1 t.lv.length from List.take_of_length_le (by rw [List.length_range']; omega)] at hD5
      have e15 := eJ2.trans e25
      have hAA := hAJ
      obtain ⟨ka, hka, hkk, _⟩ := hAJ
      obtain ⟨es, hes, hesl, hesn, hesE⟩ := hBJ
      have hkl : ka.length = i := by
        have := congrArg List.length hkk
        rw [List.length_map, List.length_map, List.length_range] at this
        exact this
      have hDB : Dl ≠ B := fun z => by
        rw [z, eJ2 _ _ hes] at nDl2
        cases nDl2
      have hDA : Dl ≠ A := fun z => by
        rw [z, eJ2 _ _ hka] at nDl2
        cases nDl2
      have hfol5 : FolAt J5 A B t i := hAA.keep (e15 _) fun a xs e _ _ => e15 _ _ e
      have hflt : (((List.range' 1 t.lv.length)).filter (fun m => (t.lfs 0)[m - 1]?.any fun y => decide (y ∈ S))).length ≤ 100 := by
        refine Nat.le_trans (List.length_filter_le _ _) ?_
        rw [List.length_range']
        omega
      have hfol6 := hfol5.put (e15 _ _ hka) hD5 hDB hflt fun ms hms => by
        have := behind_graph hok hun hms hx0 (R := fun y => decide (y ∈ S)) hR
        rw [hlen] at this
        exact this
      refine ⟨.ref A, rfl, .int (i : Int), rfl, A, _, rfl, DPut.k (k := Sum.inl (i : Int)) (e15 _ _ hka) (sz_lt (by omega)), ?_⟩
      have hB6 : (upd J5 A (.dK (putK ka (Sum.inl (i : Int)) (.ref Dl)))) B = some (.lst (nums es)) := by
        rw [upd_ne hAB.symm]
        exact e15 _ _ hes
      have hdnA : dn ≠ A := fun z => by
        rw [z, (ee1.trans f1) _ _ hka] at ndn
        cases ndn
      have hdn6 : (upd J5 A (.dK (putK ka (Sum.inl (i : Int)) (.ref Dl)))) dn = some (.dK (trues S)) := by
        rw [upd_ne hdnA]
        exact e25 _ _ hdn
      have hln6 : (upd J5 A (.dK (putK ka (Sum.inl (i : Int)) (.ref Dl)))) ln = some (.lst (nums (List.range (t.lv.length + 1)))) := by
        rw [upd_ne hlnA]
        exact e15 _ _ hlnJ
      have e16 : Ex H1 (upd J5 A (.dK (putK ka (Sum.inl (i : Int)) (.ref Dl)))) := Ex.mut (ej.trans e15) nA
      generalize upd J5 A (.dK (putK ka (Sum.inl (i : Int)) (.ref Dl))) = J6 at hfol6 hB6 hdn6 hln6 e16 ⊢
      refine ⟨.ref B, rfl, .inl ⟨rfl, _, sq_of hB6⟩, .int (i : Int), rfl, sz_of (by show 1 ≤ 100000; decide), fun l1 nl1 => ?_⟩
      have h7 := Ex.new (o := .lst [.int (i : Int)]) nl1
      refine ⟨.int 1, rfl, .ref dn, rfl, dn, _, rfl, DGet.k (k := Sum.inl ((1 : Nat) : Int)) (h7 _ _ hdn6), .inr ⟨_, rfl, ?_⟩⟩
      rw [trues_some]
      have hbe : endB (t.shp 1) i = decide (1 ∈ S) := ends_graph hok hun hx0 (R := fun y => decide (y ∈ S)) hR
      rw [← hbe]
      generalize hbb : endB (t.shp 1) i = bb at hbe ⊢
      have hrep : (List.replicate (if bb = true then (1 : Int) else 0).toNat [V.int (i : Int)]).flatten = nums (if bb = true then [i] else []) := by
        cases bb <;> rfl
      have hexl : (if bb = true then [i] else []).length ≤ 1 := by
        cases bb
        · exact Nat.zero_le _
        · exact Nat.le_refl _
      have hnl : ∀ xs : List Nat, (nums xs).length = xs.length := fun xs => List.length_map ..
      refine ⟨l1, _, [.int (i : Int)], rfl, rfl, upd_same, by cases bb <;> decide, by cases bb <;> decide, sz_of (by rw [List.length_singleton]; cases bb <;> decide), fun l2 nl2 => ?_⟩
      rw [hrep]
      have h8 := Ex.new (o := .lst (nums (if bb = true then [i] else []))) nl2
      have h68 := h7.trans h8
      refine ⟨B, l2, nums es, _, rfl, rfl, h68 _ _ hB6, upd_same, sz_of (by rw [hnl, hnl]; omega), ?_⟩
      rw [show nums es ++ nums (if bb = true then [i] else []) = nums (es ++ (if bb = true then [i] else [])) from List.map_append.symm]
      refine ⟨Ex.mut (e16.trans h68) nB1, by rw [upd_ne hlnB]; exact h68 _ _ hln6, ?_, ⟨es ++ (if bb = true then [i] else []), upd_same, by rw [List.length_append]; omega, fun k hk => ?_, fun k hk => ?_⟩, _, _, rfl⟩
      · refine hfol6.keep (fun o e => by rw [upd_ne hAB]; exact h68 _ _ e) fun a xs e _ hb => by rw [upd_ne hb]; exact h68 _ _ e
      · rcases List.mem_append.mp hk with h | h
        · have := hesn k h
          omega
        · cases bb with
          | true =>
            have : k = i := List.mem_singleton.mp h
            omega
          | false => exact nomatch h
      · rw [List.mem_append]
        by_cases hki : k = i
        · subst hki
          rw [hbb]
          constructor
          · rintro (h | h)
            · have := hesn k h
              omega
            · cases bb with
              | true => rfl
              | false => exact nomatch h
          · intro h
            subst h
            exact .inr (List.mem_singleton.mpr rfl)
        · rw [← hesE k (by omega)]
          constructor
          · rintro (h | h)
            · exact h
            · cases bb with
              | true => exact absurd (List.mem_singleton.mp h) hki
              | false => exact nomatch h
          · exact .inl
    · rintro σ H5 ⟨e5, hln5, hA5, hB5, y7, y8, rfl⟩
      have hll : (nums (List.range (t.lv.length + 1))).length = t.lv.length + 1 := by
        unfold nums
        rw [List.length_map, List.length_range]
      rw [hll] at hA5 hB5
      refine ⟨.ref A, rfl, .ref B, rfl, sz_of (by show 2 ≤ 100000; decide), fun c4 n4 => ?_⟩
      have f4 := Ex.new (o := .tup [.ref A, .ref B]) n4
      obtain ⟨es, hb, hb2⟩ := hB5
      exact q c4 A B _ ((e1.trans e5).trans f4) upd_same (hA5.keep (f4 _) fun a xs e _ _ => f4 _ _ e) ⟨es, f4 _ _ hb, hb2⟩ nA0 hAB
end
end K04
namespace K04
open PySem PySem.Spec PyProof.Rows L2 Evl Es
theorem scPot : FnScope ["_law_script", "_law_k", "_law_cell", "_law_great"] ["_law_script", "_law_k"] (defScope sPot) := ⟨rfl, rfl, rfl, by decide +kernel, rfl, by decide +kernel, by decide +kernel⟩
theorem scTake : FnScope ["_law_pot_here", "_law_size", "_law_digit", "_law_prime", "_law_mixed"] ["_law_pot_here", "_law_size"] (defScope sTake) := ⟨rfl, rfl, rfl, by decide +kernel, rfl, by decide +kernel, by decide +kernel⟩
theorem scPick : FnScope ["_law_pot_here", "_law_some"] ["_law_pot_here", "_law_some"] (defScope sPick) := ⟨rfl, rfl, rfl, by decide +kernel, rfl, by decide +kernel, by decide +kernel⟩
section
variable {P : Program} {w : World} {K : PySem.W.Frag} {mg : Str → Option Value} {base : Heap}
def primes : List V := [.int 2147483647, .int 2147483629, .int 2147483587, .int 2147483579, .int 2147483563]
theorem prime_at (j : Int) (h0 : 0 ≤ j) (h5 : j < 5) : ∃ r : Int, atI primes j = some (.int r) ∧ 0 < r ∧ r ≤ 2147483647 := by
  have : j = 0 ∨ j = 1 ∨ j = 2 ∨ j = 3 ∨ j = 4 := by omega
  rcases this with h | h | h | h | h <;> subst h <;> exact ⟨_, rfl, by decide, by decide⟩
theorem ok_take {f : Addr} {fd : FuncData} {k : Nat} (F : Fun K "_law_take" "_law_take" sTake f fd) : FnOk P w K mg base CX0 (k + 1) f fd ["_law_pot_here", "_law_size"] spTake := by
  refine F.ok scTake (fun vs H Q E h => ?_) (fun cdv A outer s H vs Q E hr h => ?_)
  · obtain ⟨p, n, m, rfl, _⟩ := h
    rfl
  · obtain ⟨p, n, m, rfl, hn1, hn2, hm, hP, q⟩ := h
    obtain ⟨g, s0, c, hp, hg, hs0, hs1, hc0, hc1⟩ := hP
    refine ⟨_, pss_cons (ps_if (pt_cmpR op_gt (pe_ix ix_list (pv 0) pe_int (fun _ _ => rfl)) pe_int (nomark _))
        (pss_cons (ps_set (i := 2) scTake.nd rfl (.inl rfl) (pe_op op_mod (pe_ix ix_list (pv 0) pe_int (fun _ _ => rfl)) (pv 1)))
        (pss_cons (ps_asg (pe_op op_fdiv (pe_ix ix_list (pv 0) pe_int (fun _ _ => rfl)) (pv 1)) (pg_sub (pv 0) pe_int set_list))
        (pss_one (ps_ret (pv 2))))) pss_nil)
      (pss_cons (ps_asg (pe_op op_add (pe_ix ix_list (pv 0) pe_int (fun _ _ => rfl)) pe_int) (pg_sub (pv 0) pe_int set_list))
      (pss_cons (ps_set (i := 3) scTake.nd rfl (.inl rfl) (pe_ix ix_list (pe_lst (pa_cons pe_int (pa_cons pe_int (pa_cons pe_int (pa_cons pe_int (pa_cons pe_int pa_nil)))))) (pe_op op_mod (pe_ix ix_list (pv 0) pe_int (fun _ _ => rfl)) pe_int) (fun _ _ => rfl)))
      (pss_cons (ps_set (i := 4) scTake.nd rfl (.inl rfl) (pe_op op_mod (pe_op op_pow (pe_op op_add (pe_op op_add (pe_ix ix_list (pv 0) pe_int (fun _ _ => rfl))
        (pe_op op_mul (pe_op op_mul pe_int (pe_ix ix_list (pv 0) pe_int (fun _ _ => rfl))) (pe_ix ix_list (pv 0) pe_int (fun _ _ => rfl)))) pe_int) pe_int) (pv 3)))
      (pss_one (ps_ret (pe_op op_mod (pe_op op_fdiv (pe_op op_mod (pe_op op_mul (pv 4) (pe_op op_add (pe_op op_mod (pv 4) pe_int) (pe_op op_mul pe_int (pe_ix ix_list (pv 0) pe_int (fun _ _ => rfl))))) pe_int) pe_int) (pv 1))))))), ?_⟩
    have ix : ∀ {H1 : Hp} {σ : L2.St} {xs : List V} {j : Int} {v : V}, H1 p = some (.lst xs) → σ[0]? = some (some (.ref p)) → atI xs j = some v → Ev (tOp (rIxL K) (tVar 0) (tC (.int j))) σ H1 v :=
      fun h h0 ha => ev_op (ev_var h0) ev_c (rv_ixL (sq_of h) ha)
    refine q_when (et_test (ev_op (ix hp rfl rfl) ev_c rv_I0)) (fun hb H1 e1 => ?_) (fun hb H1 e1 => ?_)
    · refine q_asg (ev_op (ix (e1 _ _ hp) rfl rfl) (ev_var rfl) (rv_I (by show (0 : Int) < n; omega))) fun H2 e2 => ?_
      refine q_setL (j := 0) (e2 _ _ (e1 _ _ hp)) (ev_op (ix (e2 _ _ (e1 _ _ hp)) rfl rfl) (ev_var rfl) (rv_I ⟨by omega, by omega⟩)) (ev_var rfl) ev_c (by show 0 < 3; decide) fun H3 e3 => ?_
      refine s_ret (ev_var rfl) fun H4 e4 => ?_
      refine q (g % n) H4 (Int.emod_nonneg _ (by omega)) (Int.emod_lt_of_pos _ (by omega)) (((Xp.ex ((e1.trans e2).trans e3)).trans Xp.upd).trans (Xp.ex e4)) ?_
      exact ⟨g / n, s0, c, e4 _ _ upd_same, Int.ediv_nonneg hg (by omega), hs0, hs1, hc0, by omega⟩
    · refine q_setL (j := 2) (e1 _ _ hp) (ev_op (ix (e1 _ _ hp) rfl rfl) ev_c rv_I0) (ev_var rfl) ev_c (by show 2 < 3; decide) fun H2 e2 => ?_
      generalize hH3 : upd H2 p _ = H3
      have hp3 : H3 p = some (.lst [.int g, .int s0, .int (c + 1)]) := by rw [← hH3]; exact upd_same
      have x3 : Xp p H H3 := (Xp.ex (e1.trans e2)).trans (by rw [← hH3]; exact Xp.upd)
      obtain ⟨r, hr1, hr2, hr3⟩ := prime_at ((c + 1) % 5) (Int.emod_nonneg _ (by omega)) (Int.emod_lt_of_pos _ (by omega))
      refine q_asg (v := .int r) (ev_opL1 (el_lst (ea_cons ev_c (ea_cons ev_c (ea_cons ev_c (ea_cons ev_c (ea_cons ev_c ea_nil))))) (by decide)) (fun H4 e4 => ev_op (ix (e4 _ _ hp3) rfl rfl) ev_c (rv_I (by show (0 : Int) < 5; decide)))
        (fun l H4 hl e4 => rv_ixL (sq_of hl) hr1)) fun H4 e4 => ?_
      have hp4 := e4 _ _ hp3
      have b1 : (c + 1) * (c + 1) ≤ 200000 * 200000 := Int.mul_le_mul (by omega) (by omega) (by omega) (by omega)
      have b0 : 0 ≤ (c + 1) * (c + 1) := Int.mul_nonneg (by omega) (by omega)
      have b2 : 40009 * (c + 1) * (c + 1) = 40009 * ((c + 1) * (c + 1)) := Int.mul_assoc _ _ _
      generalize (c + 1) * (c + 1) = cc at b1 b0 b2
      refine q_asg (ev_op (ev_op (ev_op (ev_op (ix hp4 rfl rfl) (ev_op (ev_op ev_c (ix hp4 rfl rfl) (rv_I (.inl ⟨by decide, by decide⟩))) (ix hp4 rfl rfl) (rv_I (.inl ⟨by show -(2 ^ 64) < 40009 * (c + 1); omega, by show 40009 * (c + 1) < 2 ^ 64; omega⟩))) rv_I0) ev_c rv_I0) ev_c
        (rv_I ⟨by decide, by decide, by rw [b2]; omega⟩)) (ev_var rfl) (rv_I (by show (0 : Int) < r; exact hr2))) fun H5 e5 => ?_
      generalize hM : ((s0 + 40009 * (c + 1) * (c + 1) + 31) ^ (3 : Int).toNat % r : Int) = M
      have M0 : 0 ≤ M := by rw [← hM]; exact Int.emod_nonneg _ (by omega)
      have M1 : M < r := by rw [← hM]; exact Int.emod_lt_of_pos _ hr2
      refine s_ret (ev_op (ev_op (ev_op (ev_op (ev_var rfl) (ev_op (ev_op (ev_var rfl) ev_c (rv_I (by show (0 : Int) < 10009; decide))) (ev_op ev_c (ix (e5 _ _ hp4) rfl rfl) (rv_I (.inl ⟨by decide, by decide⟩))) rv_I0)
        (rv_I (.inl ⟨by show -(2 ^ 64) < M; omega, by show M < 2 ^ 64; omega⟩))) ev_c (rv_I (by show (0 : Int) < 2305843009213693907; decide))) ev_c (rv_I ⟨by decide, by decide⟩)) (ev_var rfl) (rv_I (by show (0 : Int) < n; omega))) fun H6 e6 => ?_
      exact q _ H6 (Int.emod_nonneg _ (by omega)) (Int.emod_lt_of_pos _ (by omega)) (x3.trans (Xp.ex ((e4.trans e5).trans e6))) ⟨g, s0, c + 1, e6 _ _ (e5 _ _ hp4), hg, hs0, hs1, by omega, by omega⟩
def absI (i : Int) : Int := if i < 0 then -i else i
theorem abs_nn (i : Int) : 0 ≤ absI i := by
  unfold absI
  split <;> omega
def rAbs : List V → Hp → VK → Prop := fun xs H Q => ∃ i, xs = [.int i] ∧ Q (.int (absI i)) H
theorem rc_abs {H : Hp} {i : Int} : RC rAbs [.int i] H (.int (absI i)) := fun H1 _ _ q => ⟨i, rfl, q H1 (Ex.refl _)⟩
theorem rc_lenL {H : Hp} {a : Addr} {xs : List V} (h : SqL K H a xs) : RC (rLenS K) [.ref a] H (.int (xs.length : Int)) := fun H1 e _ q => ⟨a, xs, rfl, .inl (ex_l e h), q H1 (Ex.refl _)⟩
/-- the pot of a cell -/
def spPot (K : PySem.W.Frag) : Sp := fun vs H Q _ => ∃ (a : Addr) (k : Nat) (ns : List Int), vs = [.ref a, .int (k : Int)] ∧ k ≤ 10 ∧ SqL K H a (ns.map V.int) ∧
  ∀ p H', H p = none → Ex H H' → Pot H' p 0 → Q (.ref p) H'
theorem ok_pot {f : Addr} {fd : FuncData} {k : Nat} (F : Fun K "_law_pot" "_law_pot" sPot f fd) (ml : mg "len" = none) (ma : mg "abs" = none) : FnOk P w K mg base CX0 (k + 1) f fd ["_law_script", "_law_k"] (spPot K) := by
  refine F.ok scPot (fun vs H Q E h => ?_) (fun cdv A outer s H vs Q E hr h => ?_)
  · obtain ⟨a, n, ns, rfl, _⟩ := h
    rfl
  · obtain ⟨a, n, ns, rfl, hn, hS, q⟩ := h
    refine ⟨_, pss_cons (ps_set (i := 2) scPot.nd rfl (.inl rfl) (pe_ifExp (pt_cmpR op_lt (pv 1) (pe_callB call_len_seq (by rfl) ml PySem.boot_len (pa_cons (pv 0) pa_nil)) (nomark _))
        (pe_ix ix_list (pv 0) (pv 1) (fun _ _ => rfl)) (pe_op op_add (pe_op op_mul pe_int (pv 1)) pe_int)))
      (pss_cons (ps_set (i := 3) scPot.nd rfl (.inl rfl) (pe_ifExp (pt_cmpR op_ge (pe_callB call_abs (by rfl) ma boot_abs (pa_cons (pv 2) pa_nil)) (pe_op op_pow pe_int pe_int) (nomark _))
        (pe_op op_mod (pe_callB call_abs (by rfl) ma boot_abs (pa_cons (pv 2) pa_nil)) (pe_op op_powW (pe_op op_pow pe_int pe_int) pe_int)) pe_int))
      (pss_one (ps_ret (pe_lst (pa_cons (pv 3) (pa_cons (pe_op op_mod (pe_op op_add (pe_op op_add (pe_op op_mul (pe_op op_mod (pv 2) pe_int) pe_int) (pe_op op_mul (pe_op op_mul pe_int (pv 1)) (pv 1))) pe_int) pe_int) (pa_cons pe_int pa_nil))))))), ?_⟩
    have hcell : ∃ c : Int, ((n : Int) < ((ns.map V.int).length : Int) → atI (ns.map V.int) (n : Int) = some (.int c)) ∧ (¬ (n : Int) < ((ns.map V.int).length : Int) → 17 * (n : Int) + 3 = c) := by
      by_cases hlt : n < ns.length
      · refine ⟨ns[n], fun _ => atI_nat ?_, fun z => absurd (by rw [List.length_map]; omega) z⟩
        rw [List.getElem?_map, List.getElem?_eq_getElem hlt]
        rfl
      · exact ⟨_, fun z => absurd z (by rw [List.length_map]; omega), fun _ => rfl⟩
    obtain ⟨c, hc1, hc2⟩ := hcell
    refine q_asg (v := .int c) (ev_if (et_test (ev_op (ev_var rfl) (ev_cb (ea_cons (ev_var rfl) ea_nil) (rc_lenL hS)) rv_I0)) (fun hb => ev_op (ev_var rfl) (ev_var rfl) (rv_ixL hS (hc1 (of_decide_eq_true hb))))
      (fun hb => ev_is (ev_op (ev_op ev_c (ev_var rfl) (rv_I (.inl ⟨by decide, by decide⟩))) ev_c rv_I0) (by rw [hc2 (of_decide_eq_false hb)]))) fun H1 e1 => ?_
    have hgr : ∃ g : Int, 0 ≤ g ∧ (absI c ≥ 10 ^ (18 : Int).toNat → absI c % (10 ^ (60 : Int).toNat) ^ (3 : Int).toNat = g) ∧ (¬ absI c ≥ 10 ^ (18 : Int).toNat → (0 : Int) = g) := by
      by_cases h : absI c ≥ 10 ^ (18 : Int).toNat
      · exact ⟨_, Int.emod_nonneg _ (by decide), fun _ => rfl, fun z => absurd h z⟩
      · exact ⟨0, Int.le_refl _, fun z => absurd z h, fun _ => rfl⟩
    obtain ⟨g, hg0, hg1, hg2⟩ := hgr
    refine q_asg (v := .int g) (ev_if (et_test (ev_op (ev_cb (ea_cons (ev_var rfl) ea_nil) rc_abs) (ev_op ev_c ev_c (rv_I ⟨by decide, by decide, by decide⟩)) rv_I0))
      (fun hb => ev_is (ev_op (ev_cb (ea_cons (ev_var rfl) ea_nil) rc_abs) (ev_op (ev_op ev_c ev_c (rv_I ⟨by decide, by decide, by decide⟩)) ev_c (rv_I (show CPowW _ _ from ⟨by decide, by decide +kernel⟩))) (rv_I (by decide))) (by rw [hg1 (of_decide_eq_true hb)]))
      (fun hb => ev_is ev_c (by rw [← hg2 (of_decide_eq_false hb)]))) fun H2 e2 => ?_
    have m0 := Int.emod_nonneg c (show (2305843009213693951 : Int) ≠ 0 by decide)
    have m1 := Int.emod_lt_of_pos c (show (0 : Int) < 2305843009213693951 by decide)
    refine s_retL (el_lst (ea_cons (ev_var rfl) (ea_cons (ev_op (ev_op (ev_op (ev_op (ev_op (ev_var rfl) ev_c (rv_I (by show (0 : Int) < 2305843009213693951; decide))) ev_c (rv_I (.inl ⟨by omega, by omega⟩)))
      (ev_op (ev_op ev_c (ev_var rfl) (rv_I (.inl ⟨by decide, by decide⟩))) (ev_var rfl) (rv_I (.inr ⟨by omega, by omega⟩))) rv_I0) ev_c rv_I0) ev_c (rv_I (by show (0 : Int) < 2305843009213693921; decide))) (ea_cons ev_c ea_nil))) (by show 3 ≤ 100000; decide)) fun p H3 hp e3 h3 => ?_
    refine q p H3 (fresh_back (e1.trans e2) hp) ((e1.trans e2).trans e3) ⟨g, _, 0, h3, hg0, Int.emod_nonneg _ (by decide), ?_, by decide, by decide⟩
    refine Int.lt_trans (Int.emod_lt_of_pos _ (by decide)) (by decide)
def spPickL : Sp := fun vs H Q _ => ∃ (p a : Addr) (m : Int) (xs : List V), vs = [.ref p, .ref a] ∧ m ≤ 100000 ∧ Pot H p m ∧ a ≠ p ∧ H a = some (.lst xs) ∧ 1 ≤ xs.length ∧ xs.length ≤ 1000 ∧
  ∀ v H', v ∈ xs → Xp p H H' → Pot H' p (m + 1) → Q v H'
theorem ok_pickL {f fT : Addr} {fd fdT : FuncData} {k : Nat} (F : Fun K "_law_pick" "_law_pick" sPick f fd) (FT : Fun K "_law_take" "_law_take" sTake fT fdT) (bT : Binds K fdT ["_law_pot_here", "_law_size"] []) (gT : mg "_law_take" = some (.ref fT)) (ml : mg "len" = none) :
    FnOk P w K mg base CX0 (k + 2) f fd ["_law_pot_here", "_law_some"] spPickL := by
  refine F.ok scPick (fun vs H Q E h => ?_) (fun cdv A outer s H vs Q E hr h => ?_)
  · obtain ⟨p, a, m, xs, rfl, _⟩ := h
    rfl
  · obtain ⟨p, a, m, xs, rfl, hm, hP, hne, ha, h1, h2, q⟩ := h
    refine ⟨_, pss_one (ps_ret (pe_ix ix_list (pv 1) (pe_call (ok_take FT) hr (by rfl) gT FT.kp bT .nil pass0 (pa_cons (pv 0) (pa_cons (pe_callB call_len_seq (by rfl) ml PySem.boot_len (pa_cons (pv 1) pa_nil)) pa_nil))) (fun _ _ => rfl))), ?_⟩
    refine ⟨_, rfl, _, rfl, _, rfl, a, xs, rfl, .inl (sq_of ha), p, _, m, rfl, by omega, by omega, hm, hP, fun r H' h0 h3 x pp => ?_⟩
    have hc : r.toNat < xs.length := by omega
    refine ⟨a, xs, r, xs[r.toNat], rfl, rfl, sq_of (x a _ hne ha), ?_, q _ H' (List.getElem_mem hc) x pp⟩
    have := atI_nat (xs := xs) (j := r.toNat) (v := xs[r.toNat]) (List.getElem?_eq_getElem hc)
    rw [Int.toNat_of_nonneg h0] at this
    exact this
end
end K04
namespace K04
open PySem PySem.Spec PyProof.Rows L2 Evl Es
abbrev nExpr : List Str := ["_law_pot_here", "_law_leaf_menu", "_law_depth", "_law_kind", "_law_parts", "_law_turn"]
theorem scExpr : FnScope nExpr ["_law_pot_here", "_law_leaf_menu", "_law_depth"] (defScope sExpr) := ⟨rfl, rfl, rfl, by decide +kernel, rfl, by decide +kernel, by decide +kernel⟩
def cnn : Nat → Nat
  | 0 => 1
  | n + 1 => 1 + 3 * cnn n
theorem cnn_pos : ∀ n, 1 ≤ cnn n
  | 0 => Nat.le_refl _
  | n + 1 => by
    show 1 ≤ 1 + 3 * cnn n
    omega
/-- an expression drawn, where what is repeated is one part -/
def spExprU (d : Nat) : Sp := fun vs H Q _ => ∃ (p m : Addr) (n : Nat) (c : Int), vs = [.ref p, .ref m, .int (n : Int)] ∧ n < d ∧ n ≤ 8 ∧ 0 ≤ c ∧ c + cost n ≤ 90000 ∧ Pot H p c ∧ Menu p H m ∧
  ∀ v t H', Xp p H H' → TrAt p H' v t → t.ok → t.dep ≤ n → t.big ≤ bg n → Pot H' p (c + cost n) → t.uno → t.nn ≤ cnn n → Q v H'
def PartsU (p : Addr) (H : Hp) (n : Nat) (vs : List V) (ts : List Tr) : Prop := TrAll p H vs ts ∧ Tr.oks ts ∧ Tr.deps ts ≤ n ∧ Tr.bigs ts ≤ ts.length * (bg n + 1) ∧ Tr.unos ts ∧ Tr.nns ts ≤ ts.length * cnn n
theorem unos_app : ∀ {ts us : List Tr}, Tr.unos ts → Tr.unos us → Tr.unos (ts ++ us)
  | [], _, _, k => k
  | _ :: _, _, h, k => ⟨h.1, unos_app h.2 k⟩
theorem nns_sn (t : Tr) : ∀ ts : List Tr, Tr.nns (ts ++ [t]) = Tr.nns ts + t.nn
  | [] => by
    show t.nn + 0 = 0 + t.nn
    omega
  | x :: r => by
    have := nns_sn t r
    show x.nn + Tr.nns (r ++ [t]) = x.nn + Tr.nns r + t.nn
    omega
theorem dep0_nn : ∀ {t : Tr}, t.ok → t.dep = 0 → t.uno ∧ t.nn = 1
  | .leaf _ _, _, _ => ⟨trivial, rfl⟩
  | .node _ ps, _, h => by
    have : Tr.deps ps + 1 = 0 := h
    omega
theorem kind3_no (r : Int) (h1 : 4 ≤ r) (h2 : r < 7) (kd : Str) (h : atI [V.str "sequence", V.str "choice", V.str "sequence"] (r - 4) = some (.str kd)) : kd ≠ "repeat" := by
  have : r = 4 ∨ r = 5 ∨ r = 6 := by omega
  rcases this with rfl | rfl | rfl
  · have e : V.str "sequence" = V.str kd := Option.some.inj h
    rw [← V.str.inj e]
    decide
  · have e : V.str "choice" = V.str kd := Option.some.inj h
    rw [← V.str.inj e]
    decide
  · have e : V.str "sequence" = V.str kd := Option.some.inj h
    rw [← V.str.inj e]
    decide
section
variable {P : Program} {w : World} {K : PySem.W.Frag} {mg : Str → Option Value} {base : Heap}
theorem ok_expr {f fT fP : Addr} {fd fdT fdP : FuncData} (F : Fun K "_law_expression" "_law_expression" sExpr f fd) (bF : Binds K fd ["_law_pot_here", "_law_leaf_menu", "_law_depth"] []) (gF : mg "_law_expression" = some (.ref f))
    (FT : Fun K "_law_take" "_law_take" sTake fT fdT) (bT : Binds K fdT ["_law_pot_here", "_law_size"] []) (gT : mg "_law_take" = some (.ref fT))
    (FP : Fun K "_law_pick" "_law_pick" sPick fP fdP) (bP : Binds K fdP ["_law_pot_here", "_law_some"] []) (gP : mg "_law_pick" = some (.ref fP)) (ml : mg "len" = none) (mr : mg "range" = none) (mt : mg "tuple" = none) :
    ∀ d : Nat, FnOk P w K mg base CX0 (d + 3) f fd ["_law_pot_here", "_law_leaf_menu", "_law_depth"] (spExprU d) := by
  intro d
  induction d with
  | zero => exact ⟨fun vs H Q E ⟨_, _, _, _, _, h, _⟩ => absurd h (Nat.not_lt_zero _), fun _ _ _ _ _ _ _ _ _ _ _ _ _ ⟨_, _, _, _, _, h, _⟩ => absurd h (Nat.not_lt_zero _)⟩
  | succ d ih =>
    have G1 : FnOk P w K mg base CX0 (d + 3) fT fdT ["_law_pot_here", "_law_size"] spTake := ok_take FT
    have G3 : FnOk P w K mg base CX0 (d + 3) fP fdP ["_law_pot_here", "_law_some"] spPickL := ok_pickL FP FT bT gT ml
    refine F.ok scExpr (fun vs H Q E h => ?_) (fun cdv A outer s H vs Q E hr h => ?_)
    · obtain ⟨p, m, n, c, rfl, _⟩ := h
      rfl
    · obtain ⟨p, m, n, c, rfl, hnd, hn8, hc0, hc1, hP, hM, q⟩ := h
      refine ⟨_, Evl.pss_cut (ps_set (i := 3) scExpr.nd rfl (.inl rfl) (pe_ifExp (pt_cmpR op_gt (pv 2) pe_int (nomark _)) (pe_call G1 hr (by rfl) gT FT.kp bT .nil pass0 (pa_cons (pv 0) (pa_cons pe_int pa_nil))) pe_int))
        (pss_cons (ps_if (pt_cmpR op_lt (pv 3) pe_int (nomark _)) (pss_one (ps_ret (pe_call G3 hr (by rfl) gP FP.kp bP .nil pass0 (pa_cons (pv 0) (pa_cons (pv 1) pa_nil))))) pss_nil)
        (pss_cons (ps_if (pt_cmpR op_lt (pv 3) pe_int (nomark _)) (pss_one (ps_ret (pe_tup (pa_cons (pe_ix ix_list (pe_lst (pa_cons pe_str (pa_cons pe_str pa_nil))) (pe_op op_sub (pv 3) pe_int) (fun _ _ => rfl))
            (pa_cons (pe_call ih hr (by rfl) gF F.kp bF .nil pass0 (pa_cons (pv 0) (pa_cons (pv 1) (pa_cons (pe_op op_sub (pv 2) pe_int) pa_nil)))) pa_nil))))) pss_nil)
        (pss_cons (ps_setLc (i := 4) (own := [("_law_turn", 5)]) (g := gName 5) (tt := tYes) rfl scExpr.nd rfl rfl (sw_true rfl rfl rfl (by decide +kernel))
          (pi_range1 (by rfl) mr (pa_cons (pe_op op_add pe_int (pe_call G1 hr (by rfl) gT FT.kp bT .nil pass0 (pa_cons (pv 0) (pa_cons pe_int pa_nil)))) pa_nil))
          (blkOk_by (N := nExpr) (sc := defScope sExpr) (own := [("_law_turn", 5)]) (by decide +kernel)) (fun _ _ _ _ _ => pg_name (i := 5) scExpr.nd rfl (Or.inl rfl)) (fun _ _ _ _ _ => pts_nil)
          (fun _ _ _ _ _ => pe_call ih hr (by rfl) gF F.kp bF .nil pass0 (pa_cons (pv 0) (pa_cons (pv 1) (pa_cons (pe_op op_sub (pv 2) pe_int) pa_nil)))))
        (pss_one (ps_ret (pe_op op_catT (pe_tup (pa_cons (pe_ix ix_list (pe_lst (pa_cons pe_str (pa_cons pe_str (pa_cons pe_str pa_nil)))) (pe_op op_sub (pv 3) pe_int) (fun _ _ => rfl)) pa_nil))
          (pe_callTy call_tuple_of (by rfl) mt (by decide +kernel) (pa_cons (pv 4) pa_nil)))))))), ?_⟩
      -- the kind
      refine ⟨fun σ' H1 => ∃ r : Int, σ' = [some (.ref p), some (.ref m), some (.int (n : Int)), some (.int r), none, none] ∧ 0 ≤ r ∧ r < 7 ∧ (r < 2 ∨ 1 ≤ n) ∧ Xp p H H1 ∧ Pot H1 p (c + min (n : Int) 1), ?_, ?_⟩
      · refine ⟨.int (n : Int), rfl, (n : Int), 0, rfl, rfl, _, rfl, ite2 (fun hb => ?_) (fun hb => ?_)⟩
        · have hn : (0 : Int) < n := of_decide_eq_true hb
          exact ⟨.ref p, rfl, p, 7, c, rfl, by decide, by decide, by have := cost_pos n; omega, hP, fun r H1 r0 r1 x1 P1 => ⟨r, rfl, r0, r1, .inr (by omega), x1, P1.more (by omega)⟩⟩
        · have hn : ¬ (0 : Int) < n := fun z => hb (decide_eq_true z)
          exact ⟨0, rfl, by decide, by decide, .inl (by decide), Xp.refl _ _, hP.more (by omega)⟩
      rintro σ' H1 ⟨r, rfl, r0, r7, hrn, x1, P1⟩
      have hM1 := hM.xp x1
      have hbg := bg_ge n
      have hcp := cost_pos n
      have hcn : 1 ≤ n → cost n = 3 + 3 * cost (n - 1) ∧ bg n = 12 + 3 * bg (n - 1) := fun h => by
        obtain ⟨k, rfl⟩ : ∃ k, n = k + 1 := ⟨n - 1, by omega⟩
        exact ⟨rfl, rfl⟩
      refine ⟨.int r, rfl, r, 2, rfl, rfl, _, rfl, ite2 (fun hb => ?_) (fun hb => ?_)⟩
      · -- a leaf of the menu
        obtain ⟨hmp, ms, hm, m1, m2, m3⟩ := hM1
        have hmin : min (n : Int) 1 + 1 ≤ cost n := by
          cases n with
          | zero => decide
          | succ k =>
            have := (hcn (by omega)).1
            have := cost_pos (k + 1 - 1)
            omega
        refine ⟨.ref p, rfl, .ref m, rfl, p, m, _, ms, rfl, by omega, P1, hmp, hm, m1, by omega, fun v H2 hv x2 P2 => ?_⟩
        obtain ⟨t, ht, hok, hdp⟩ := m3 v hv
        have hz := dep0_nn hok hdp
        exact q v t H2 (x1.trans x2) (ht.xp x2) hok (by omega) (by rw [dep0_big hdp]; exact hbg) (P2.more (by omega)) hz.1 (by rw [hz.2]; exact cnn_pos n)
      have r2 : ¬ r < 2 := fun z => hb (decide_eq_true z)
      have n1 : 1 ≤ n := hrn.resolve_left r2
      obtain ⟨k, rfl⟩ : ∃ k, n = k + 1 := ⟨n - 1, by omega⟩
      have hck : cost (k + 1) = 3 + 3 * cost k := rfl
      have hbk : bg (k + 1) = 12 + 3 * bg k := rfl
      have hk1 := cost_pos k
      have hk2 := bg_ge k
      have ek : (((k + 1 : Nat) : Int) - 1) = (k : Int) := by omega
      have P1' : Pot H1 p (c + 1) := P1.more (by omega)
      refine ⟨.int r, rfl, r, 4, rfl, rfl, _, rfl, ite2 (fun hb => ?_) (fun hb => ?_)⟩
      · -- one part
        have r4 : r < 4 := of_decide_eq_true hb
        obtain ⟨kd, hkd, hat⟩ := kind2 r (by omega) r4
        refine ⟨sz_of (by decide), fun l nl => ⟨.int r, rfl, r, 2, rfl, rfl, l, _, r - 2, .str kd, rfl, rfl, sq_of upd_same, hat, ?_⟩⟩
        have e1 := Ex.new (o := .lst [.str "repeat", .str "optional"]) nl
        refine ⟨.ref p, rfl, .ref m, rfl, .int ((k + 1 : Nat) : Int), rfl, _, 1, rfl, rfl, p, m, k, c + 1, by show [V.ref p, V.ref m, V.int (((k + 1 : Nat) : Int) - 1)] = _; rw [ek], by omega, by omega, by omega, by omega, P1'.up e1, hM1.xp (Xp.ex e1), fun v t H2 x2 ht hok hdp hbig P2 hun hnn => ?_⟩
        refine ⟨sz_of (by show 2 ≤ 100000; decide), fun a na => ?_⟩
        have e2 := Ex.new (o := .tup [.str kd, v]) na
        refine q (.ref a) (.node kd [t]) _ (((x1.trans (Xp.ex e1)).trans x2).trans (Xp.ex e2)) (.node (P2.ne na) upd_same (.cons (ht.up e2) .nil)) ⟨hkd, by simp, hok, trivial⟩ ?_ ?_ ((P2.up e2).more (by omega)) ⟨fun _ => rfl, hun, trivial⟩ (by show 1 + (t.nn + 0) ≤ 1 + 3 * cnn k; omega)
        · show max t.dep 0 + 1 ≤ k + 1
          omega
        · show 9 + (t.big + 1 + 0) ≤ bg (k + 1)
          omega
      -- two or three parts
      have r4 : ¬ r < 4 := fun z => hb (decide_eq_true z)
      obtain ⟨kd, hkd, hat⟩ := kind3 r (by omega) r7
      refine ⟨.ref p, rfl, p, 2, c + 1, rfl, by decide, by decide, by omega, P1', fun r3 H2 s0 s1 x2 P2 => ?_⟩
      refine ⟨2, r3, rfl, rfl, 2 + r3, rfl, by omega, by omega, fun D nD => ?_⟩
      refine lc_range (lo := 0) (n := (2 + r3).toNat) (fun i H' => Xp p H2 H' ∧ Pot H' p (c + 2 + i * cost k) ∧ ∃ vs ts, H' D = some (.lst vs) ∧ ts.length = i ∧ PartsU p H' k vs ts) ?_ ?_ ?_
      · exact ⟨(Xp.refl _ _).mut nD, (P2.up (Ex.new nD)).more (by omega), [], [], upd_same, rfl, .nil, trivial, Nat.zero_le _, Nat.zero_le _, trivial, Nat.zero_le _⟩
      · rintro i H' hi ⟨xi, Pi, vs, ts, hD, hl, h1, h2, h3, h4, h5, h6⟩
        have hi3 : (i : Int) ≤ 2 := by omega
        have hic : (i : Int) * cost k ≤ 2 * cost k := Int.mul_le_mul_of_nonneg_right hi3 (by omega)
        have hic0 : 0 ≤ (i : Int) * cost k := Int.mul_nonneg (by omega) (by omega)
        refine ⟨rfl, .ref p, rfl, .ref m, rfl, .int ((k + 1 : Nat) : Int), rfl, _, 1, rfl, rfl, p, m, k, c + 2 + i * cost k, by show [V.ref p, V.ref m, V.int (((k + 1 : Nat) : Int) - 1)] = _; rw [ek], by omega, by omega, by omega, by omega, Pi, (hM1.xp x2).xp xi, fun v t H3 x3 ht hok hdp hbig P3 hun hnn => ?_⟩
        have nDp : D ≠ p := P2.ne nD
        have hD3 := x3 D _ nDp hD
        have hlv := h1.length
        refine ⟨vs, hD3, sz_lt (by omega), (xi.trans x3).mut nD, ?_, vs ++ [v], ts ++ [t], upd_same, by rw [List.length_append, hl]; rfl, ?_, oks_app h2 ⟨hok, trivial⟩, ?_, ?_, unos_app h5 ⟨hun, trivial⟩, by rw [nns_sn, List.length_append, List.length_singleton, Nat.add_mul]; omega⟩
        · obtain ⟨g, s0', c0, hh, q1, q2, q3, q4, q5⟩ := P3
          refine ⟨g, s0', c0, ?_, q1, q2, q3, q4, ?_⟩
          · rw [upd_ne nDp.symm]
            exact hh
          · have : ((i + 1 : Nat) : Int) * cost k = i * cost k + cost k := by
              rw [Int.natCast_add, Int.add_mul]
              omega
            rw [this]
            omega
        · exact ((h1.xp x3).append (.cons ht .nil)).mutL hD3
        · rw [deps_app]
          show max (Tr.deps ts) (max t.dep 0) ≤ k
          omega
        · rw [bigs_app, List.length_append]
          show Tr.bigs ts + (t.big + 1 + 0) ≤ (ts.length + 1) * (bg k + 1)
          rw [Nat.add_mul]
          omega
      rintro H3 ⟨x3, P3, vs, ts, hD, hl, h1, h2, h3, h4, h5, h6⟩
      have hlv := h1.length
      have nDp : D ≠ p := P2.ne nD
      refine ⟨sz_of (by decide), fun l nl => ⟨.int r, rfl, r, 4, rfl, rfl, l, _, r - 4, .str kd, rfl, rfl, sq_of upd_same, hat, ?_⟩⟩
      have e1 := Ex.new (o := .lst [.str "sequence", .str "choice", .str "sequence"]) nl
      refine ⟨sz_of (by show 1 ≤ 100000; decide), fun a na => ?_⟩
      have e2 := Ex.new (o := .tup [.str kd]) na
      refine ⟨.ref D, rfl, D, vs, rfl, .inl ⟨sq_of (e2 _ _ (e1 _ _ hD)), fun b nb => ?_⟩⟩
      have e3 := Ex.new (o := .tup vs) nb
      have hts : ts.length = (2 + r3).toNat := hl
      refine ⟨a, b, [.str kd], vs, rfl, rfl, st_of (e3 _ _ upd_same), st_of upd_same, by simp, sz_of (by rw [List.length_singleton]; omega), fun z => ?_, fun _ t nt => ?_⟩
      · rw [z] at hlv
        have : ts.length = 0 := hlv.symm
        omega
      have e4 := Ex.new (o := .tup ([.str kd] ++ vs)) nt
      have e14 := ((e1.trans e2).trans e3).trans e4
      have c3 : (((2 + r3).toNat : Nat) : Int) * cost k ≤ 3 * cost k := Int.mul_le_mul_of_nonneg_right (by omega) (by omega)
      refine q (.ref t) (.node kd ts) _ (((x1.trans x2).trans x3).trans (Xp.ex e14)) (.node ((P3.up ((e1.trans e2).trans e3)).ne nt) upd_same (h1.up e14)) ⟨hkd, ?_, h2⟩ ?_ ?_ ((P3.up e14).more (by omega)) ⟨fun z => absurd z (kind3_no r (by omega) r7 kd hat), h5⟩ (by
        show 1 + Tr.nns ts ≤ 1 + 3 * cnn k
        have : ts.length * cnn k ≤ 3 * cnn k := Nat.mul_le_mul_right _ (by omega)
        omega)
      · intro z
        rw [z] at hts
        have : 0 = (2 + r3).toNat := hts
        omega
      · show Tr.deps ts + 1 ≤ k + 1
        omega
      · show 9 + Tr.bigs ts ≤ bg (k + 1)
        have : ts.length * (bg k + 1) ≤ 3 * (bg k + 1) := Nat.mul_le_mul_right _ (by omega)
        omega
end
end K04
namespace K04
open PySem PySem.Spec PyProof.Rows L2 Evl Es
theorem scSmall : FnScope ["_law_pot_here", "_law_menu", "_law_inner"] ["_law_pot_here", "_law_menu"] (defScope sSmall) := ⟨rfl, rfl, rfl, by decide +kernel, rfl, by decide +kernel, by decide +kernel⟩
mutual
theorem lv_nn : ∀ t : Tr, t.lv.length ≤ t.nn
  | .leaf _ _ => Nat.le_refl _
  | .node _ ps => by
    have := lvs_nns ps
    show (Tr.lvs ps).length ≤ 1 + Tr.nns ps
    omega
theorem lvs_nns : ∀ ts : List Tr, (Tr.lvs ts).length ≤ Tr.nns ts
  | [] => Nat.le_refl _
  | t :: r => by
    have h1 := lv_nn t
    have h2 := lvs_nns r
    rw [lvs_cons]
    show _ ≤ t.nn + Tr.nns r
    omega
end
/-- the expressions of the law -/
def Sm4 (t : Tr) : Prop := t.ok ∧ t.uno ∧ t.nn ≤ 18 ∧ t.big ≤ 300 ∧ t.dep ≤ 3
theorem Sm4.sml {t : Tr} (h : Sm4 t) : Sml t := by
  obtain ⟨h1, h2, h3, h4, h5⟩ := h
  have := lv_nn t
  exact ⟨h1, by omega, by omega, by omega⟩
theorem Sm4.gsm {t : Tr} (h : Sm4 t) : Gsm t := by
  obtain ⟨h1, h2, h3, h4, h5⟩ := h
  have := lv_nn t
  exact ⟨h1, h2, by omega, by omega, by omega⟩
def spSmall : Sp := fun vs H Q _ => ∃ (p m : Addr) (c : Int) (v0 v1 : V) (r : List V), vs = [.ref p, .ref m] ∧ 0 ≤ c ∧ c + 100 ≤ 90000 ∧ Pot H p c ∧ Menu p H m ∧ H m = some (.lst (v0 :: v1 :: r)) ∧
  ∀ v t H', Xp p H H' → TrAt p H' v t → Sm4 t → Pot H' p (c + 100) → Q v H'
section
variable {P : Program} {w : World} {K : PySem.W.Frag} {mg : Str → Option Value} {base : Heap}
theorem ok_small {f fX fP : Addr} {fd dX dP : FuncData} {lv : Nat} (F : Fun K "_law_small" "_law_small" sSmall f fd)
    (GX : FnOk P w K mg base CX0 lv fX dX ["_law_pot_here", "_law_leaf_menu", "_law_depth"] (spExprU 3)) (bX : Binds K dX ["_law_pot_here", "_law_leaf_menu", "_law_depth"] []) (gX : mg "_law_expression" = some (.ref fX)) (kX : PySem.W.keepIn K (.ref fX) = true)
    (GP : FnOk P w K mg base CX0 lv fP dP ["_law_pot_here", "_law_some"] spPickL) (bP : Binds K dP ["_law_pot_here", "_law_some"] []) (gP : mg "_law_pick" = some (.ref fP)) (kP : PySem.W.keepIn K (.ref fP) = true) :
    FnOk P w K mg base CX0 (lv + 1) f fd ["_law_pot_here", "_law_menu"] spSmall := by
  refine F.ok scSmall (fun vs H Q E h => ?_) (fun cdv A outer s H vs Q E hr h => ?_)
  · obtain ⟨p, m, c, v0, v1, r, rfl, _⟩ := h
    rfl
  · obtain ⟨p, m, c, v0, v1, r, rfl, hc0, hc1, hP, hM, hm, q⟩ := h
    refine ⟨_, pss_cons (ps_set (i := 2) scSmall.nd rfl (.inl rfl) (pe_call GX hr (by rfl) gX kX bX .nil pass0 (pa_cons (pv 0) (pa_cons (pv 1) (pa_cons pe_int pa_nil)))))
      (pss_one (ps_ret (pe_call GP hr (by rfl) gP kP bP .nil pass0 (pa_cons (pv 0) (pa_cons (pe_lst (pa_cons (pv 2) (pa_cons (pv 2) (pa_cons (pe_tup (pa_cons pe_str (pa_cons (pv 2) pa_nil))) (pa_cons (pe_tup (pa_cons pe_str (pa_cons (pv 2) (pa_cons (pe_ix ix_list (pv 1) pe_int (fun _ _ => rfl)) (pa_cons (pe_tup (pa_cons pe_str (pa_cons (pe_ix ix_list (pv 1) pe_int (fun _ _ => rfl)) pa_nil))) pa_nil))))) pa_nil))))) pa_nil))))), ?_⟩
    refine ⟨.ref p, rfl, .ref m, rfl, p, m, 2, c, rfl, by decide, by decide, hc0, by show c + (3 + 3 * (3 + 3 * 1)) ≤ 90000; omega, hP, hM, fun v t H1 x1 ht hok hdp hbig P1 hun hnn => ?_⟩
    have hbig' : t.big ≤ 183 := hbig
    have hnn' : t.nn ≤ 13 := hnn
    have hM1 := hM.xp x1
    obtain ⟨hmp, ms, hms, m1, m2, m3⟩ := hM1
    have hm1 := x1 m _ hmp hm
    rw [hms] at hm1
    have hmm : ms = v0 :: v1 :: r := by
      have := Option.some.inj hm1
      injection this
    subst hmm
    obtain ⟨t0, ht0, hok0, hd0⟩ := m3 v0 (List.mem_cons_self ..)
    obtain ⟨t1, ht1, hok1, hd1⟩ := m3 v1 (List.mem_cons_of_mem _ (List.mem_cons_self ..))
    have P1' : Pot H1 p (c + 99) := P1.more (by show c + (3 + 3 * (3 + 3 * 1)) ≤ c + 99; omega)
    refine ⟨.ref p, rfl, v, rfl, v, rfl, v, rfl, sz_of (by show 2 ≤ 100000; decide), fun c1 n1 => ?_⟩
    have e1 := Ex.new (o := .tup [.str "repeat", v]) n1
    have Q1 := P1'.up e1
    refine ⟨v, rfl, .ref m, rfl, m, _, 0, v0, rfl, rfl, sq_of (e1 _ _ hms), atI_nat (j := 0) rfl, .ref m, rfl, m, _, 1, v1, rfl, rfl, sq_of (e1 _ _ hms), atI_nat (j := 1) rfl, sz_of (by show 2 ≤ 100000; decide), fun c2 n2 => ⟨sz_of (by show 4 ≤ 100000; decide), fun c3 n3 => ⟨sz_of (by show 4 ≤ 100000; decide), fun l nl => ?_⟩⟩⟩
    have e2 := Ex.new (o := .tup [.str "optional", v1]) n2
    have Q2 := Q1.up e2
    have e3 := Ex.new (o := .tup [.str "sequence", v, v0, .ref c2]) n3
    have Q3 := Q2.up e3
    have e4 := Ex.new (o := .lst [v, v, .ref c1, .ref c3]) nl
    have Q4 := Q3.up e4
    have e24 := (e2.trans e3).trans e4
    have e14 := e1.trans e24
    refine ⟨p, l, _, _, rfl, by omega, Q4, Q3.ne nl, upd_same, by simp, by show 4 ≤ _; decide, fun v' H2 hv x2 P2 => ?_⟩
    have hx := x1.trans ((Xp.ex e14).trans x2)
    have hA := (ht.up e14).xp x2
    have h0A := (ht0.up e14).xp x2
    have h1A := (ht1.up e14).xp x2
    have z0 := dep0_nn hok0 hd0
    have z1 := dep0_nn hok1 hd1
    have y0 := dep0_big hd0
    have y1 := dep0_big hd1
    have PF : Pot H2 p (c + 100) := P2.more (by omega)
    have tst : ∀ {a : Addr} {o : HO}, a ≠ p → (upd (upd (upd (upd H1 c1 (.tup [.str "repeat", v])) c2 (.tup [.str "optional", v1])) c3 (.tup [.str "sequence", v, v0, .ref c2])) l (.lst [v, v, .ref c1, .ref c3])) a = some o → H2 a = some o := fun {a o} ha e => x2 a o ha e
    rcases List.mem_cons.mp hv with rfl | hv
    · exact q _ t H2 hx hA ⟨hok, hun, by omega, by omega, by omega⟩ PF
    rcases List.mem_cons.mp hv with rfl | hv
    · exact q _ t H2 hx hA ⟨hok, hun, by omega, by omega, by omega⟩ PF
    rcases List.mem_cons.mp hv with rfl | hv
    · refine q _ (.node "repeat" [t]) H2 hx (.node (P1'.ne n1) (tst (P1'.ne n1) (e24 _ _ upd_same)) (.cons hA .nil)) ⟨⟨by decide, by simp, hok, trivial⟩, ⟨fun _ => rfl, hun, trivial⟩, by show 1 + (t.nn + 0) ≤ 18; omega, by show 9 + (t.big + 1 + 0) ≤ 300; omega, by show max t.dep 0 + 1 ≤ 3; omega⟩ PF
    · cases List.mem_singleton.mp hv
      have hop : TrAt p H2 (.ref c2) (.node "optional" [t1]) := .node (Q1.ne n2) (tst (Q1.ne n2) (e4 _ _ (e3 _ _ upd_same))) (.cons h1A .nil)
      refine q _ (.node "sequence" [t, t0, .node "optional" [t1]]) H2 hx (.node (Q2.ne n3) (tst (Q2.ne n3) (e4 _ _ upd_same)) (.cons hA (.cons h0A (.cons hop .nil))))
        ⟨⟨by decide, by simp, hok, hok0, ⟨by decide, by simp, hok1, trivial⟩, trivial⟩, ⟨fun z => absurd z (by decide), hun, z0.1, ⟨fun z => absurd z (by decide), z1.1, trivial⟩, trivial⟩, ?_, ?_, ?_⟩ PF
      · show 1 + (t.nn + (t0.nn + (1 + (t1.nn + 0) + 0))) ≤ 18
        omega
      · show 9 + (t.big + 1 + (t0.big + 1 + (9 + (t1.big + 1 + 0) + 1 + 0))) ≤ 300
        omega
      · show max t.dep (max t0.dep (max (max t1.dep 0 + 1) 0)) + 1 ≤ 3
        omega
end
end K04
namespace K04
open PySem PySem.Spec PyProof.Rows L2 Evl Es
abbrev nRight : List Str := ["_law_pot_here", "_law_menu", "_law_turn", "_law_expression_here", "_law_follow_here", "_law_ends", "_law_number"]
theorem scRight : FnScope nRight ["_law_pot_here"] (defScope sRight) := ⟨rfl, rfl, rfl, by decide +kernel, rfl, by decide +kernel, by decide +kernel⟩
theorem room200 {k : Nat} {A : Around} (r : Room k A) : A.units + 200 < cLine := by
  have := r.un
  omega
theorem fit_small : ∀ m < 64, Fit 0 (.int ((m : Nat) : Int)) := fun m hm => fit_int ((by decide +kernel : ∀ m < 64, (((m : Nat) : Int)).natAbs.log2 < 1920) m hm) ((by decide +kernel : ∀ m < 64, (PyData.shown (.int ((m : Nat) : Int))).length ≤ 30) m hm)
theorem fits_small : ∀ ns : List Nat, (∀ m ∈ ns, m < 64) → Fits ns.length (intsD ns)
  | [], _ => Fits.nil
  | n :: r, h => (Fits.cons (fit_small n (h n (List.mem_cons_self ..))) (fits_small r fun m hm => h m (List.mem_cons_of_mem _ hm))).more (by rw [List.length_cons]; omega)
theorem dd_nums {H : Hp} : ∀ ns : List Nat, DdAll none H (nums ns) (intsD ns)
  | [] => .nil
  | n :: r => .cons (.int _) (dd_nums r)
theorem behind_small {t : Tr} (h : Sm4 t) {k : Nat} {ms : List Nat} (b : Behind (t.shp 1) k ms) : (∀ m ∈ ms, m < 64) ∧ ms.length ≤ 64 := by
  have hN := (node_tr t 0 1 h.1 h.2.1).box
  have hl := lfs_len t 0
  have hs := h.sml.2.2.1
  have h1 : ∀ m ∈ ms, m < 64 := fun m hm => by
    have z := (b.2 m).mp hm
    by_cases k0 : k = 0
    · rw [if_pos k0] at z
      have := hN.bf m z
      omega
    · rw [if_neg k0] at z
      have := (hN.bp _ z).2
      omega
  refine ⟨h1, ?_⟩
  have nd : ms.Nodup := b.1.imp fun h => Nat.ne_of_lt h
  have := List.Nodup.length_le_of_subset (l₂ := List.range 64) nd fun z hz => List.mem_range.mpr (h1 z hz)
  rwa [List.length_range] at this
def spRight : Sp := fun vs H Q _ => ∃ (p : Addr), vs = [.ref p] ∧ Pot H p 0 ∧ ∀ H', Xp p H H' → Q (.bl true) H'
section
variable {P : Program} {w : World} {K : PySem.W.Frag} {mg : Str → Option Value} {base : Heap}
theorem ok_right {f fS fF fN fM : Addr} {fd dS dF dN dM : FuncData} {lv : Nat} (F : Fun K "_law_right" "_law_right" sRight f fd)
    (GS : FnOk P w K mg base CX0 lv fS dS ["_law_pot_here", "_law_menu"] spSmall) (bS : Binds K dS ["_law_pot_here", "_law_menu"] []) (gS : mg "_law_small" = some (.ref fS)) (kS : PySem.W.keepIn K (.ref fS) = true)
    (GF : FnOk P w K mg base CX0 lv fF dF ["_law_expression_here"] (spFollow 4)) (bF : Binds K dF ["_law_expression_here"] []) (gF : mg "_law_follow" = some (.ref fF)) (kF : PySem.W.keepIn K (.ref fF) = true)
    (GN : FnOk P w K mg base CX0 lv fN dN ["expression", "number"] (spNext 4)) (bN : Binds K dN ["expression", "number"] []) (gN : mg "next_leaves" = some (.ref fN)) (kN : PySem.W.keepIn K (.ref fN) = true)
    (GM : FnOk P w K mg base CX0 lv fM dM ["expression", "number"] (spMay 4)) (bM : Binds K dM ["expression", "number"] []) (gM : mg "may_end" = some (.ref fM)) (kM : PySem.W.keepIn K (.ref fM) = true)
    (mR : mg "range" = none) (mT : mg "tuple" = none) (mP : mg "repr" = none) :
    GnOk P w K mg base (lv + 1) f fd ["_law_pot_here"] spRight := by
  refine gn_of F scRight (fun vs H Q E h => ?_) (fun cdv A outer s H vs Q E hg hr h => ?_)
  · obtain ⟨p, rfl, _⟩ := h
    rfl
  · obtain ⟨p, rfl, hP, q⟩ := h
    have hu := hu_of hr
    refine ⟨_, pss_cons (ps_set (i := 1) scRight.nd rfl (.inl rfl) (pe_lst (pa_cons (pe_tup (pa_cons pe_str (pa_cons pe_str pa_nil))) (pa_cons (pe_tup (pa_cons pe_str (pa_cons pe_str pa_nil))) (pa_cons (pe_tup (pa_cons pe_str (pa_cons pe_str pa_nil))) pa_nil)))))
      (pss_cons (ps_for PassesOwn.never rfl (pi_range1 (by rfl) mR (pa_cons pe_int pa_nil)) (pg_name (i := 2) scRight.nd rfl (.inl rfl))
        (pss_cons (ps_set (i := 3) scRight.nd rfl (.inl rfl) (pe_call GS hr (by rfl) gS kS bS .nil pass0 (pa_cons (pv 0) (pa_cons (pv 1) pa_nil))))
        (pss_cons (ps_asg (pe_call GF hr (by rfl) gF kF bF .nil pass0 (pa_cons (pv 3) pa_nil)) (pg_tup rfl (pgs_cons (pg_name (i := 4) scRight.nd rfl (.inl rfl)) (pgs_cons (pg_name (i := 5) scRight.nd rfl (.inl rfl)) pgs_nil))))
        (pss_one (ps_lock (ps_for PassesOwn.never rfl (pi_keys (pv 4)) (pg_name (i := 6) scRight.nd rfl (.inl rfl))
          (pss_cons (ps_if (pt_cmpR op_ne (pe_callB (cr_reprX hg (room200 hr)) (by rfl) mP boot_repr (pa_cons (pe_call GN hr (by rfl) gN kN bN .nil pass0 (pa_cons (pv 3) (pa_cons (pv 6) pa_nil))) pa_nil))
              (pe_callB (cr_reprX hg (room200 hr)) (by rfl) mP boot_repr (pa_cons (pe_callTy call_tuple_of (by rfl) mT (by decide +kernel) (pa_cons (pe_dget hu (pv 4) (pv 6) (fun _ _ => rfl)) pa_nil)) pa_nil)) (nomark _)) (pss_one (ps_ret pe_bl)) pss_nil)
          (pss_one (ps_if (pt_cmpR op_ne (pe_callB (cr_reprX hg (room200 hr)) (by rfl) mP boot_repr (pa_cons (pe_call GM hr (by rfl) gM kM bM .nil pass0 (pa_cons (pv 3) (pa_cons (pv 6) pa_nil))) pa_nil))
              (pe_callB (cr_reprX hg (room200 hr)) (by rfl) mP boot_repr (pa_cons (pe_cmpR op_in_seq (pv 6) (pv 5) (by rfl)) pa_nil)) (nomark _)) (pss_one (ps_ret pe_bl)) pss_nil)))))))))
      (pss_one (ps_ret pe_bl))), ?_⟩
    refine ⟨sz_of (by show 2 ≤ 100000; decide), fun c1 n1 => ⟨sz_of (by show 2 ≤ 100000; decide), fun c2 n2 => ⟨sz_of (by show 2 ≤ 100000; decide), fun c3 n3 => ⟨sz_of (by show 3 ≤ 100000; decide), fun m nm => ?_⟩⟩⟩⟩
    have e1 := Ex.new (o := .tup [.str "token", .str "a"]) n1
    have P1 := hP.up e1
    have e2 := Ex.new (o := .tup [.str "token", .str "num"]) n2
    have P2 := P1.up e2
    have e3 := Ex.new (o := .tup [.str "block", .str "b"]) n3
    have P3 := P2.up e3
    have e4 := Ex.new (o := .lst [.ref c1, .ref c2, .ref c3]) nm
    have P4 := P3.up e4
    have hm : (upd (upd (upd (upd H c1 (.tup [.str "token", .str "a"])) c2 (.tup [.str "token", .str "num"])) c3 (.tup [.str "block", .str "b"])) m (.lst [.ref c1, .ref c2, .ref c3])) m = some (.lst [.ref c1, .ref c2, .ref c3]) := upd_same
    have hmp : m ≠ p := P3.ne nm
    have hM : Menu p (upd (upd (upd (upd H c1 (.tup [.str "token", .str "a"])) c2 (.tup [.str "token", .str "num"])) c3 (.tup [.str "block", .str "b"])) m (.lst [.ref c1, .ref c2, .ref c3])) m := by
      refine ⟨hmp, _, hm, by show 1 ≤ 3; decide, by show 3 ≤ 20; decide, fun v hv => ?_⟩
      rcases List.mem_cons.mp hv with rfl | hv
      · exact ⟨_, .leaf (hP.ne n1) (e4 _ _ (e3 _ _ (e2 _ _ upd_same))), ⟨by decide, by decide⟩, rfl⟩
      rcases List.mem_cons.mp hv with rfl | hv
      · exact ⟨_, .leaf (P1.ne n2) (e4 _ _ (e3 _ _ upd_same)), ⟨by decide, by decide⟩, rfl⟩
      · cases List.mem_singleton.mp hv
        exact ⟨_, .leaf (P2.ne n3) (e4 _ _ upd_same), ⟨by decide, by decide⟩, rfl⟩
    have e14 := ((e1.trans e2).trans e3).trans e4
    generalize upd (upd (upd (upd H c1 (.tup [.str "token", .str "a"])) c2 (.tup [.str "token", .str "num"])) c3 (.tup [.str "block", .str "b"])) m (.lst [.ref c1, .ref c2, .ref c3]) = H4 at e4 P4 hm hM e14 ⊢
    refine ⟨5, rfl, by decide, by decide, for_it (walk_range (lo := 0) (n := 5)) (fun i σ H' => Xp p H4 H' ∧ Pot H' p (100 * i) ∧ ∃ y2 y3 y4 y5 y6, σ = [some (.ref p), some (.ref m), y2, y3, y4, y5, y6]) ?_ (fun _ _ _ _ _ => trivial) ?_ ?_⟩
    · exact ⟨Xp.refl _ _, P4.more (by omega), _, _, _, _, _, rfl⟩
    · rintro i x σ J J' hi ⟨xj, Pj, y2, y3, y4, y5, y6, rfl⟩ ⟨rfl, rfl⟩
      refine ⟨.ref p, rfl, .ref m, rfl, p, m, 100 * i, _, _, _, rfl, by omega, by omega, Pj, hM.xp xj, xj _ _ hmp hm, fun v t H5 x5 ht ht4 P5 => ?_⟩
      refine ⟨v, rfl, p, v, t, rfl, ht, ht4.gsm, by have := ht4.2.2.2.2; omega, fun c A B H6 e6 hc hA hB nA hAB => ?_⟩
      refine ⟨c, _, rfl, st_of hc, rfl, _, _, rfl, _, _, rfl, rfl, ?_⟩
      obtain ⟨kvs, hAk, hkeys, hfol⟩ := hA
      obtain ⟨es, hBe, hel, hen, hend⟩ := hB
      have hdep : t.dep < 4 := by have := ht4.2.2.2.2; omega
      have hkl : kvs.length = t.lv.length + 1 := by
        have := congrArg List.length hkeys
        rw [List.length_map, List.length_map, List.length_range] at this
        exact this
      refine ⟨A, .dK kvs, hAk, trivial, fun od => ?_⟩
      have hAL : (upd H6 A (.frz od (.dK kvs))) A = some (.frz od (.dK kvs)) := upd_same
      have hoth : ∀ a o, a ≠ A → H6 a = some o → (upd H6 A (.frz od (.dK kvs))) a = some o := fun a o ha e => by
        rw [upd_ne ha]
        exact e
      have neT : ∀ {a : Addr} {xs : List V}, H6 a = some (.tup xs) → a ≠ A := fun {a xs} e z => by
        rw [z, hAk] at e
        cases e
      have neL : ∀ {a : Addr} {xs : List V}, H6 a = some (.lst xs) → a ≠ A := fun {a xs} e z => by
        rw [z, hAk] at e
        cases e
      have htL : TrAt p (upd H6 A (.frz od (.dK kvs))) v t := TrAt.tups (fun a xs e => hoth _ _ (neT e) e) (ht.up e6)
      have hBL := hoth _ _ (neL hBe) hBe
      have hfL : ∀ k < t.lv.length + 1, ∃ l ns, valV kvs (Sum.inl (k : Int)) = some (.ref l) ∧ (upd H6 A (.frz od (.dK kvs))) l = some (.lst (nums ns)) ∧ ∀ ms, Behind (t.shp 1) k ms → ms = ns := fun k hk => by
        obtain ⟨l, ns, q1, q2, _, _, q5⟩ := hfol k hk
        exact ⟨l, ns, q1, hoth _ _ (neL q2) q2, q5⟩
      have P6 := P5.up e6
      have hpA : A ≠ p := fun z => by
        obtain ⟨g, s0, c0, hh, _⟩ := P6
        rw [← z, hAk] at hh
        cases hh
      refine ⟨.ref A, rfl, A, od, rfl, .inl ⟨kvs, hAL, for_it walk_keys (fun j σ H' => Ex (upd H6 A (.frz od (.dK kvs))) H' ∧ ∃ y6, σ = [some (.ref p), some (.ref m), some (.int (0 + (i : Int))), some v, some (.ref A), some (.ref B), y6]) ⟨Ex.refl _, _, rfl⟩ (fun j σ H' _ x => x.1 _ _ hAL) ?_ ?_⟩⟩
      · rintro j x σ J J2 hj ⟨ej, y6', rfl⟩ ⟨rfl, k, v', hkj, rfl⟩
        rw [hkl] at hj
        have hk : k = Sum.inl (j : Int) := by
          have h1 : (kvs.map (·.1))[j]? = some k := by rw [List.getElem?_map, hkj]; rfl
          rw [hkeys, List.getElem?_map, List.getElem?_range hj] at h1
          exact (Option.some.inj h1).symm
        subst hk
        obtain ⟨l, ns, hval, hl, hns⟩ := hfL j hj
        refine ⟨v, rfl, .int (j : Int), rfl, p, v, t, j, rfl, htL.up ej, ht4.sml, ht4.2.1, hdep, fun a ms J3 e3j ha hbeh => ?_⟩
        have hsm := behind_small ht4 hbeh
        have hfit : Fit 190 (.tuple (intsD ms)) := (fits_small ms hsm.1).tup.more (by omega)
        have hmn := hns ms hbeh
        subst hmn
        have e13 := ej.trans e3j
        refine ⟨.ref a, .tuple (intsD ms), none, rfl, .tup sn0 ha (dd_nums ms), hfit, .ref A, rfl, .int (j : Int), rfl, A, .ref l, rfl, .inl ⟨kvs, Sum.inl (j : Int), .inr ⟨od, e13 _ _ hAL⟩, rfl, hval.symm⟩, l, _, rfl, .inl ⟨sq_of (e13 _ _ hl), fun c4 n4 => ?_⟩⟩
        have e4j := Ex.new (o := .tup (nums ms)) n4
        have e14j := e13.trans e4j
        refine ⟨.ref c4, .tuple (intsD ms), none, rfl, .tup sn0 upd_same (dd_nums ms), hfit, rfl, _, rfl, ?_⟩
        rw [decide_eq_true rfl]
        refine iteF ?_
        refine ⟨v, rfl, .int (j : Int), rfl, p, v, t, j, rfl, htL.up e14j, ht4.sml, hdep, fun J5 e5j => ?_⟩
        have e15j := e14j.trans e5j
        refine ⟨.bl _, .bool _, none, rfl, .bl _, (fit_bl _).more (by omega), .int (j : Int), rfl, .ref B, rfl, B, _, rfl, .inl (sq_of (e15j _ _ hBL)), rfl, flat_nums es, .bl _, .bool _, none, rfl, .bl _, (fit_bl _).more (by omega), rfl, _, rfl, ?_⟩
        have heq : (if false = true then !inV (.int (j : Int)) (nums es) else inV (.int (j : Int)) (nums es)) = endB (t.shp 1) j := by
          show inV (.int (j : Int)) (nums es) = _
          rw [in_nums]
          cases hbb : endB (t.shp 1) j with
          | true => exact decide_eq_true ((hend j hj).mpr hbb)
          | false => exact decide_eq_false fun z => by rw [(hend j hj).mp z] at hbb; cases hbb
        rw [heq, decide_eq_true rfl]
        refine iteF ?_
        exact ⟨e15j, _, rfl⟩
      · rintro σ H7 ⟨e7, y6', rfl⟩
        refine ⟨e7 _ _ hAL, ?_⟩
        refine ⟨fun b o hb e => ?_, ?_, _, _, _, _, _, rfl⟩
        · have h5 := x5 b o hb (xj b o hb e)
          have hbA : b ≠ A := fun z => by
            rw [z, nA] at h5
            cases h5
          rw [upd_ne hbA]
          exact e7 _ _ (hoth _ _ hbA (e6 _ _ h5))
        · obtain ⟨g, s0, c0, hh, q1, q2, q3, q4, q5⟩ := P6
          refine ⟨g, s0, c0, ?_, q1, q2, q3, q4, by omega⟩
          rw [upd_ne hpA.symm]
          exact e7 _ _ (hoth _ _ hpA.symm hh)
    · rintro σ H5 ⟨x5, P5, y2, y3, y4, y5, y6, rfl⟩
      exact q H5 ((Xp.ex e14).trans x5)
end
end K04
namespace K04
open PySem PySem.Spec PyProof.Rows L2 Evl Es
abbrev nLaw : List Str := ["_law_script", "_law_k"]
theorem scLaw : FnScope nLaw ["_law_script"] (defScope sLaw) := ⟨rfl, rfl, rfl, by decide +kernel, rfl, by decide +kernel, by decide +kernel⟩
def spLaw (K : PySem.W.Frag) : Sp := fun vs H Q _ => ∃ (a : Addr) (ns : List Int), vs = [.ref a] ∧ SqL K H a (ns.map V.int) ∧ ∀ H', Q (.bl true) H'
theorem rep_all : ∀ n : Nat, (List.replicate n true).all id = true
  | 0 => rfl
  | n + 1 => by
    rw [List.replicate_succ, List.all_cons, rep_all n]
    rfl
structure Top (K : PySem.W.Frag) (mg : Str → Option Value) (C fI aL f0 f1 f2 f3 f4 f5 f6 f7 f8 f9 f10 f11 f12 f13 f14 f15 f16 f17 f18 f19 : Addr) (dI d0 d1 d2 d3 d4 d5 d6 d7 d8 d9 d10 d11 d12 d13 d14 d15 d16 d17 d18 d19 : FuncData) : Prop where
  cls : ShC K mg C fI dI
  F0 : Fun K "leaves" "leaves" sLeaves f0 d0
  F1 : Fun K "next_leaves" "next_leaves" sNext f1 d1
  F2 : Fun K "may_end" "may_end" sMay f2 d2
  F3 : Fun K "numbers_behind" "numbers_behind" sNum f3 d3
  F4 : Fun K "ends_behind" "ends_behind" sEnds f4 d4
  F5 : Fun K "shape_of" "shape_of" sShape f5 d5
  F6 : Fun K "shapes_of_parts" "shapes_of_parts" sShapes f6 d6
  F7 : Fun K "in_sequence" "in_sequence" sSeq f7 d7
  F8 : Fun K "in_choice" "in_choice" sCho f8 d8
  F9 : Fun K "crossed" "crossed" sCross f9 d9
  F10 : Fun K "_law_pot" "_law_pot" sPot f10 d10
  F11 : Fun K "_law_take" "_law_take" sTake f11 d11
  F12 : Fun K "_law_pick" "_law_pick" sPick f12 d12
  F13 : Fun K "_law_expression" "_law_expression" sExpr f13 d13
  F14 : Fun K "_law_graph" "_law_graph" sGraph f14 d14
  F15 : Fun K "_law_nodes" "_law_nodes" sNodes f15 d15
  F16 : Fun K "_law_reached" "_law_reached" sReach f16 d16
  F17 : Fun K "_law_follow" "_law_follow" sFollow f17 d17
  F18 : Fun K "_law_small" "_law_small" sSmall f18 d18
  F19 : Fun K "_law_right" "_law_right" sRight f19 d19
  g0 : mg "leaves" = some (.ref f0)
  g1 : mg "next_leaves" = some (.ref f1)
  g2 : mg "may_end" = some (.ref f2)
  g3 : mg "numbers_behind" = some (.ref f3)
  g4 : mg "ends_behind" = some (.ref f4)
  g5 : mg "shape_of" = some (.ref f5)
  g6 : mg "shapes_of_parts" = some (.ref f6)
  g7 : mg "in_sequence" = some (.ref f7)
  g8 : mg "in_choice" = some (.ref f8)
  g9 : mg "crossed" = some (.ref f9)
  g10 : mg "_law_pot" = some (.ref f10)
  g11 : mg "_law_take" = some (.ref f11)
  g12 : mg "_law_pick" = some (.ref f12)
  g13 : mg "_law_expression" = some (.ref f13)
  g14 : mg "_law_graph" = some (.ref f14)
  g15 : mg "_law_nodes" = some (.ref f15)
  g16 : mg "_law_reached" = some (.ref f16)
  g17 : mg "_law_follow" = some (.ref f17)
  g18 : mg "_law_small" = some (.ref f18)
  g19 : mg "_law_right" = some (.ref f19)
  kinds : ∀ H, SqT K H aL [.str "token", .str "block"]
  gK : mg "LEAF_KINDS" = some (.ref aL)
  zlen : mg "len" = none
  ztuple : mg "tuple" = none
  zsorted : mg "sorted" = none
  zzip : mg "zip" = none
  zlist : mg "list" = none
  zint : mg "int" = none
  zrange : mg "range" = none
  zrepr : mg "repr" = none
  zall : mg "all" = none
  zmax : mg "max" = none
  zmin : mg "min" = none
  zabs : mg "abs" = none
section
variable {P : Program} {w : World} {K : PySem.W.Frag} {mg : Str → Option Value} {base : Heap} {C fI aL f0 f1 f2 f3 f4 f5 f6 f7 f8 f9 f10 f11 f12 f13 f14 f15 f16 f17 f18 f19 : Addr} {dI d0 d1 d2 d3 d4 d5 d6 d7 d8 d9 d10 d11 d12 d13 d14 d15 d16 d17 d18 d19 : FuncData}
theorem ok_law {f : Addr} {fd : FuncData} (F : Fun K "law" "law" sLaw f fd) (T : Top K mg C fI aL f0 f1 f2 f3 f4 f5 f6 f7 f8 f9 f10 f11 f12 f13 f14 f15 f16 f17 f18 f19 dI d0 d1 d2 d3 d4 d5 d6 d7 d8 d9 d10 d11 d12 d13 d14 d15 d16 d17 d18 d19) : GnOk P w K mg base 15 f fd ["_law_script"] (spLaw K) := by
  have b0 : Binds K d0 ["expression"] [] := T.F0.binds fun _ _ _ _ _ _ us hl => match us, hl with | [_], _ => rfl
  have b1 : Binds K d1 ["expression", "number"] [] := T.F1.binds fun _ _ _ _ _ _ us hl => match us, hl with | [_, _], _ => rfl
  have b2 : Binds K d2 ["expression", "number"] [] := T.F2.binds fun _ _ _ _ _ _ us hl => match us, hl with | [_, _], _ => rfl
  have b3 : Binds K d3 ["shape", "number"] [] := T.F3.binds fun _ _ _ _ _ _ us hl => match us, hl with | [_, _], _ => rfl
  have b4 : Binds K d4 ["shape", "number"] [] := T.F4.binds fun _ _ _ _ _ _ us hl => match us, hl with | [_, _], _ => rfl
  have b5 : Binds K d5 ["expression", "first"] [] := T.F5.binds fun _ _ _ _ _ _ us hl => match us, hl with | [_, _], _ => rfl
  have b10 : Binds K d10 ["_law_script", "_law_k"] [] := T.F10.binds fun _ _ _ _ _ _ us hl => match us, hl with | [_, _], _ => rfl
  have b11 : Binds K d11 ["_law_pot_here", "_law_size"] [] := T.F11.binds fun _ _ _ _ _ _ us hl => match us, hl with | [_, _], _ => rfl
  have b12 : Binds K d12 ["_law_pot_here", "_law_some"] [] := T.F12.binds fun _ _ _ _ _ _ us hl => match us, hl with | [_, _], _ => rfl
  have b13 : Binds K d13 ["_law_pot_here", "_law_leaf_menu", "_law_depth"] [] := T.F13.binds fun _ _ _ _ _ _ us hl => match us, hl with | [_, _, _], _ => rfl
  have b14 : Binds K d14 ["_law_expression_here"] [] := T.F14.binds fun _ _ _ _ _ _ us hl => match us, hl with | [_], _ => rfl
  have b15 : Binds K d15 ["_law_graph_here", "_law_expression_here"] [] := T.F15.binds fun _ _ _ _ _ _ us hl => match us, hl with | [_, _], _ => rfl
  have b16 : Binds K d16 ["_law_edges", "_law_starts"] [] := T.F16.binds fun _ _ _ _ _ _ us hl => match us, hl with | [_, _], _ => rfl
  have b17 : Binds K d17 ["_law_expression_here"] [] := T.F17.binds fun _ _ _ _ _ _ us hl => match us, hl with | [_], _ => rfl
  have b18 : Binds K d18 ["_law_pot_here", "_law_menu"] [] := T.F18.binds fun _ _ _ _ _ _ us hl => match us, hl with | [_, _], _ => rfl
  have b19 : Binds K d19 ["_law_pot_here"] [] := T.F19.binds fun _ _ _ _ _ _ us hl => match us, hl with | [_], _ => rfl
  have TS : ShT K mg C fI f5 f6 f0 f7 f8 f9 aL dI d5 d6 d0 d7 d8 d9 := ⟨T.cls, T.F5, T.F6, T.F0, T.F7, T.F8, T.F9, T.g5, T.g6, T.g0, T.g7, T.g8, T.g9, T.gK, T.kinds, T.ztuple, T.zlen⟩
  have G5 : FnOk P w K mg base CX0 12 f5 d5 ["expression", "first"] (spShape C 4) := ok_shape TS 4
  have G3 : FnOk P w K mg base CX0 12 f3 d3 ["shape", "number"] (spNum C) := ok_num (k := 11) T.F3 T.cls T.ztuple T.zsorted
  have G4 : FnOk P w K mg base CX0 12 f4 d4 ["shape", "number"] (spEnds C) := ok_ends (k := 11) T.F4 T.cls
  have G1 : FnOk P w K mg base CX0 13 f1 d1 ["expression", "number"] (spNext 4) := ok_next T.F1 G5 b5 T.g5 T.F5.kp G3 b3 T.g3 T.F3.kp
  have G2 : FnOk P w K mg base CX0 13 f2 d2 ["expression", "number"] (spMay 4) := ok_may T.F2 G5 b5 T.g5 T.F5.kp G4 b4 T.g4 T.F4.kp
  have G15 : FnOk P w K mg base CX0 5 f15 d15 ["_law_graph_here", "_law_expression_here"] (spNodes 4) := ok_nodes T.F15 b15 T.g15 T.zlen T.zzip 4
  have G14 : FnOk P w K mg base CX0 12 f14 d14 ["_law_expression_here"] (spGraph 4) := ok_graph T.F14 (G15.mono (by decide : 5 ≤ 11)) b15 T.g15 T.F15.kp
  have G16 : FnOk P w K mg base CX0 12 f16 d16 ["_law_edges", "_law_starts"] spReach := ok_reach (k := 11) T.F16 T.zlist
  have G17 : FnOk P w K mg base CX0 13 f17 d17 ["_law_expression_here"] (spFollow 4) := ok_follow T.F17 G14 b14 T.g14 T.F14.kp G16 b16 T.g16 T.F16.kp T.zsorted T.zint
  have G13 : FnOk P w K mg base CX0 6 f13 d13 ["_law_pot_here", "_law_leaf_menu", "_law_depth"] (spExprU 3) := ok_expr T.F13 b13 T.g13 T.F11 b11 T.g11 T.F12 b12 T.g12 T.zlen T.zrange T.ztuple 3
  have G12 : FnOk P w K mg base CX0 12 f12 d12 ["_law_pot_here", "_law_some"] spPickL := ok_pickL T.F12 T.F11 b11 T.g11 T.zlen
  have G18 : FnOk P w K mg base CX0 13 f18 d18 ["_law_pot_here", "_law_menu"] spSmall := ok_small T.F18 (G13.mono (by decide : 6 ≤ 12)) b13 T.g13 T.F13.kp G12 b12 T.g12 T.F12.kp
  have G19 : GnOk P w K mg base 14 f19 d19 ["_law_pot_here"] spRight := ok_right T.F19 G18 b18 T.g18 T.F18.kp G17 b17 T.g17 T.F17.kp G1 b1 T.g1 T.F1.kp G2 b2 T.g2 T.F2.kp T.zrange T.ztuple T.zrepr
  have G10 : FnOk P w K mg base CX0 14 f10 d10 ["_law_script", "_law_k"] (spPot K) := ok_pot T.F10 T.zlen T.zabs
  refine gn_of (N := nLaw) F scLaw (fun vs H Q E h => ?_) (fun cd A out s H vs Q E hg hr h => ?_)
  · obtain ⟨a, ns, rfl, _⟩ := h
    rfl
  · obtain ⟨a, ns, rfl, hS, q⟩ := h
    refine ⟨_, pss_one (ps_ret (pe_callB (cr_all rfl) (by rfl) T.zall boot_all (pa_cons (pe_lc (own := [("_law_k", 1)]) (g := gName 1) (tt := tYes) rfl scLaw.nd
      (pi_range1 (by rfl) T.zrange (pa_cons (pe_callB (call_max2 rfl) (by rfl) T.zmax boot_max (pa_cons pe_int (pa_cons (pe_callB (call_min2 rfl) (by rfl) T.zmin boot_min (pa_cons pe_int (pa_cons (pe_callB call_len_seq (by rfl) T.zlen PySem.boot_len (pa_cons (pv 0) pa_nil)) pa_nil))) pa_nil))) pa_nil))
      (blkOk_by (N := nLaw) (sc := defScope sLaw) (own := [("_law_k", 1)]) (by decide +kernel)) (fun _ _ _ _ _ => pg_name (i := 1) scLaw.nd rfl (Or.inl rfl)) (fun _ _ _ _ _ => pts_nil)
      (fun _ _ _ _ _ => pe_callG G19 hg hr (by rfl) T.g19 T.F19.kp b19 (pa_cons (pe_call G10 hr (by rfl) T.g10 T.F10.kp b10 .nil pass0 (pa_cons (pv 0) (pa_cons (pv 1) pa_nil))) pa_nil))) pa_nil))), ?_⟩
    obtain ⟨n, hn0, hn3, hn⟩ : ∃ n : Int, 0 ≤ n ∧ n ≤ 3 ∧ (if (if ((ns.map V.int).length : Int) < 3 then ((ns.map V.int).length : Int) else 3) > 1 then (if ((ns.map V.int).length : Int) < 3 then ((ns.map V.int).length : Int) else 3) else 1) = n := by
      refine ⟨_, ?_, ?_, rfl⟩ <;> (split <;> split <;> omega)
    refine ⟨.ref a, rfl, a, _, rfl, .inl hS, 3, _, rfl, 1, _, rfl, _, rfl, ?_⟩
    rw [hn]
    refine ⟨by omega, by omega, fun D nD => ?_⟩
    refine lc_range (lo := 0) (n := n.toNat) (g := gName 1) (tt := tYes) (vs := [1]) (fun i H' => Ex H H' ∧ H' D = some (.lst ((List.replicate i true).map V.bl))) ?_ ?_ ?_
    · exact ⟨Ex.new nD, upd_same⟩
    · rintro i H' hi ⟨e, hD⟩
      refine ⟨rfl, .ref a, rfl, .int (0 + (i : Int)), rfl, a, i, ns, by rw [Int.zero_add]; rfl, by omega, ex_l e hS, fun p H1 np e1 P1 => ?_⟩
      refine ⟨p, rfl, P1, fun H2 x2 => ?_⟩
      have hnp : ∀ b o, H' b = some o → H2 b = some o := fun b o hb => x2 b o (ne_of_none hb np) (e1 b o hb)
      refine ⟨_, hnp _ _ hD, ?_, Ex.mut (e.trans hnp) nD, ?_⟩
      · rw [List.length_map, List.length_replicate]
        exact sz_lt (by omega)
      · rw [upd_same, List.replicate_succ', List.map_append]
        rfl
    · rintro H' ⟨e, hD⟩
      refine ⟨D, List.replicate n.toNat true, rfl, sq_of hD, ?_⟩
      rw [rep_all]
      exact q H'
end
theorem all_mk {l : PySem.W.OpenLaw} {w : World} {K : PySem.W.Frag} {h : Heap} {mg : Str → Option Value} {fa : Addr} (X : K.In h) (G : h.Ns mainGlobals mg) (hfa : mg "law" = some (.ref fa))
    {f0 : Addr} {od0 an0 : Option Addr} {sl0 : Array (Option Value)} {oc0 kV0 dc0 pm0 cd0 ct0 : Value}
    {f1 : Addr} {od1 an1 : Option Addr} {sl1 : Array (Option Value)} {oc1 kV1 dc1 pm1 cd1 ct1 : Value}
    {f2 : Addr} {od2 an2 : Option Addr} {sl2 : Array (Option Value)} {oc2 kV2 dc2 pm2 cd2 ct2 : Value}
    {f3 : Addr} {od3 an3 : Option Addr} {sl3 : Array (Option Value)} {oc3 kV3 dc3 pm3 cd3 ct3 : Value}
    {f4 : Addr} {od4 an4 : Option Addr} {sl4 : Array (Option Value)} {oc4 kV4 dc4 pm4 cd4 ct4 : Value}
    {f5 : Addr} {od5 an5 : Option Addr} {sl5 : Array (Option Value)} {oc5 kV5 dc5 pm5 cd5 ct5 : Value}
    {f6 : Addr} {od6 an6 : Option Addr} {sl6 : Array (Option Value)} {oc6 kV6 dc6 pm6 cd6 ct6 : Value}
    {f7 : Addr} {od7 an7 : Option Addr} {sl7 : Array (Option Value)} {oc7 kV7 dc7 pm7 cd7 ct7 : Value}
    {f8 : Addr} {od8 an8 : Option Addr} {sl8 : Array (Option Value)} {oc8 kV8 dc8 pm8 cd8 ct8 : Value}
    {f9 : Addr} {od9 an9 : Option Addr} {sl9 : Array (Option Value)} {oc9 kV9 dc9 pm9 cd9 ct9 : Value}
    {f10 : Addr} {od10 an10 : Option Addr} {sl10 : Array (Option Value)} {oc10 kV10 dc10 pm10 cd10 ct10 : Value}
    {f11 : Addr} {od11 an11 : Option Addr} {sl11 : Array (Option Value)} {oc11 kV11 dc11 pm11 cd11 ct11 : Value}
    {f12 : Addr} {od12 an12 : Option Addr} {sl12 : Array (Option Value)} {oc12 kV12 dc12 pm12 cd12 ct12 : Value}
    {f13 : Addr} {od13 an13 : Option Addr} {sl13 : Array (Option Value)} {oc13 kV13 dc13 pm13 cd13 ct13 : Value}
    {f14 : Addr} {od14 an14 : Option Addr} {sl14 : Array (Option Value)} {oc14 kV14 dc14 pm14 cd14 ct14 : Value}
    {f15 : Addr} {od15 an15 : Option Addr} {sl15 : Array (Option Value)} {oc15 kV15 dc15 pm15 cd15 ct15 : Value}
    {f16 : Addr} {od16 an16 : Option Addr} {sl16 : Array (Option Value)} {oc16 kV16 dc16 pm16 cd16 ct16 : Value}
    {f17 : Addr} {od17 an17 : Option Addr} {sl17 : Array (Option Value)} {oc17 kV17 dc17 pm17 cd17 ct17 : Value}
    {f18 : Addr} {od18 an18 : Option Addr} {sl18 : Array (Option Value)} {oc18 kV18 dc18 pm18 cd18 ct18 : Value}
    {f19 : Addr} {od19 an19 : Option Addr} {sl19 : Array (Option Value)} {oc19 kV19 dc19 pm19 cd19 ct19 : Value}
    {f20 : Addr} {od20 an20 : Option Addr} {sl20 : Array (Option Value)} {oc20 kV20 dc20 pm20 cd20 ct20 : Value}
    {C fI : Addr} {odI anI : Option Addr} {slI : Array (Option Value)} {ocI kVI dcI pmI cdI ctI : Value}
    {u0 : Addr} {ud0 : Option Addr} {un0 : Nat} {us0 : Array (Option Value)} {ut0_0 : Tok} {ut0_1 : Tok}
    (a0 : PySem.W.nsIn K mainGlobals "leaves" = some (some (.ref f0))) (l0 : K.lookup f0 = some ⟨oc0, od0, .func (PySem.W.fnOf "leaves" "leaves" (defArgs sLeaves) (defBody sLeaves) (defScope sLeaves) .none kV0 dc0 pm0 an0 cd0 ct0), sl0⟩)
      (c0 : PySem.W.codeIn K cd0 "leaves" = true) (k0 : PySem.W.keepIn K (.ref f0) = true)
    (a1 : PySem.W.nsIn K mainGlobals "next_leaves" = some (some (.ref f1))) (l1 : K.lookup f1 = some ⟨oc1, od1, .func (PySem.W.fnOf "next_leaves" "next_leaves" (defArgs sNext) (defBody sNext) (defScope sNext) .none kV1 dc1 pm1 an1 cd1 ct1), sl1⟩)
      (c1 : PySem.W.codeIn K cd1 "next_leaves" = true) (k1 : PySem.W.keepIn K (.ref f1) = true)
    (a2 : PySem.W.nsIn K mainGlobals "may_end" = some (some (.ref f2))) (l2 : K.lookup f2 = some ⟨oc2, od2, .func (PySem.W.fnOf "may_end" "may_end" (defArgs sMay) (defBody sMay) (defScope sMay) .none kV2 dc2 pm2 an2 cd2 ct2), sl2⟩)
      (c2 : PySem.W.codeIn K cd2 "may_end" = true) (k2 : PySem.W.keepIn K (.ref f2) = true)
    (a3 : PySem.W.nsIn K mainGlobals "numbers_behind" = some (some (.ref f3))) (l3 : K.lookup f3 = some ⟨oc3, od3, .func (PySem.W.fnOf "numbers_behind" "numbers_behind" (defArgs sNum) (defBody sNum) (defScope sNum) .none kV3 dc3 pm3 an3 cd3 ct3), sl3⟩)
      (c3 : PySem.W.codeIn K cd3 "numbers_behind" = true) (k3 : PySem.W.keepIn K (.ref f3) = true)
    (a4 : PySem.W.nsIn K mainGlobals "ends_behind" = some (some (.ref f4))) (l4 : K.lookup f4 = some ⟨oc4, od4, .func (PySem.W.fnOf "ends_behind" "ends_behind" (defArgs sEnds) (defBody sEnds) (defScope sEnds) .none kV4 dc4 pm4 an4 cd4 ct4), sl4⟩)
      (c4 : PySem.W.codeIn K cd4 "ends_behind" = true) (k4 : PySem.W.keepIn K (.ref f4) = true)
    (a5 : PySem.W.nsIn K mainGlobals "shape_of" = some (some (.ref f5))) (l5 : K.lookup f5 = some ⟨oc5, od5, .func (PySem.W.fnOf "shape_of" "shape_of" (defArgs sShape) (defBody sShape) (defScope sShape) .none kV5 dc5 pm5 an5 cd5 ct5), sl5⟩)
      (c5 : PySem.W.codeIn K cd5 "shape_of" = true) (k5 : PySem.W.keepIn K (.ref f5) = true)
    (a6 : PySem.W.nsIn K mainGlobals "shapes_of_parts" = some (some (.ref f6))) (l6 : K.lookup f6 = some ⟨oc6, od6, .func (PySem.W.fnOf "shapes_of_parts" "shapes_of_parts" (defArgs sShapes) (defBody sShapes) (defScope sShapes) .none kV6 dc6 pm6 an6 cd6 ct6), sl6⟩)
      (c6 : PySem.W.codeIn K cd6 "shapes_of_parts" = true) (k6 : PySem.W.keepIn K (.ref f6) = true)
    (a7 : PySem.W.nsIn K mainGlobals "in_sequence" = some (some (.ref f7))) (l7 : K.lookup f7 = some ⟨oc7, od7, .func (PySem.W.fnOf "in_sequence" "in_sequence" (defArgs sSeq) (defBody sSeq) (defScope sSeq) .none kV7 dc7 pm7 an7 cd7 ct7), sl7⟩)
      (c7 : PySem.W.codeIn K cd7 "in_sequence" = true) (k7 : PySem.W.keepIn K (.ref f7) = true)
    (a8 : PySem.W.nsIn K mainGlobals "in_choice" = some (some (.ref f8))) (l8 : K.lookup f8 = some ⟨oc8, od8, .func (PySem.W.fnOf "in_choice" "in_choice" (defArgs sCho) (defBody sCho) (defScope sCho) .none kV8 dc8 pm8 an8 cd8 ct8), sl8⟩)
      (c8 : PySem.W.codeIn K cd8 "in_choice" = true) (k8 : PySem.W.keepIn K (.ref f8) = true)
    (a9 : PySem.W.nsIn K mainGlobals "crossed" = some (some (.ref f9))) (l9 : K.lookup f9 = some ⟨oc9, od9, .func (PySem.W.fnOf "crossed" "crossed" (defArgs sCross) (defBody sCross) (defScope sCross) .none kV9 dc9 pm9 an9 cd9 ct9), sl9⟩)
      (c9 : PySem.W.codeIn K cd9 "crossed" = true) (k9 : PySem.W.keepIn K (.ref f9) = true)
    (a10 : PySem.W.nsIn K mainGlobals "_law_pot" = some (some (.ref f10))) (l10 : K.lookup f10 = some ⟨oc10, od10, .func (PySem.W.fnOf "_law_pot" "_law_pot" (defArgs sPot) (defBody sPot) (defScope sPot) .none kV10 dc10 pm10 an10 cd10 ct10), sl10⟩)
      (c10 : PySem.W.codeIn K cd10 "_law_pot" = true) (k10 : PySem.W.keepIn K (.ref f10) = true)
    (a11 : PySem.W.nsIn K mainGlobals "_law_take" = some (some (.ref f11))) (l11 : K.lookup f11 = some ⟨oc11, od11, .func (PySem.W.fnOf "_law_take" "_law_take" (defArgs sTake) (defBody sTake) (defScope sTake) .none kV11 dc11 pm11 an11 cd11 ct11), sl11⟩)
      (c11 : PySem.W.codeIn K cd11 "_law_take" = true) (k11 : PySem.W.keepIn K (.ref f11) = true)
    (a12 : PySem.W.nsIn K mainGlobals "_law_pick" = some (some (.ref f12))) (l12 : K.lookup f12 = some ⟨oc12, od12, .func (PySem.W.fnOf "_law_pick" "_law_pick" (defArgs sPick) (defBody sPick) (defScope sPick) .none kV12 dc12 pm12 an12 cd12 ct12), sl12⟩)
      (c12 : PySem.W.codeIn K cd12 "_law_pick" = true) (k12 : PySem.W.keepIn K (.ref f12) = true)
    (a13 : PySem.W.nsIn K mainGlobals "_law_expression" = some (some (.ref f13))) (l13 : K.lookup f13 = some ⟨oc13, od13, .func (PySem.W.fnOf "_law_expression" "_law_expression" (defArgs sExpr) (defBody sExpr) (defScope sExpr) .none kV13 dc13 pm13 an13 cd13 ct13), sl13⟩)
      (c13 : PySem.W.codeIn K cd13 "_law_expression" = true) (k13 : PySem.W.keepIn K (.ref f13) = true)
    (a14 : PySem.W.nsIn K mainGlobals "_law_graph" = some (some (.ref f14))) (l14 : K.lookup f14 = some ⟨oc14, od14, .func (PySem.W.fnOf "_law_graph" "_law_graph" (defArgs sGraph) (defBody sGraph) (defScope sGraph) .none kV14 dc14 pm14 an14 cd14 ct14), sl14⟩)
      (c14 : PySem.W.codeIn K cd14 "_law_graph" = true) (k14 : PySem.W.keepIn K (.ref f14) = true)
    (a15 : PySem.W.nsIn K mainGlobals "_law_nodes" = some (some (.ref f15))) (l15 : K.lookup f15 = some ⟨oc15, od15, .func (PySem.W.fnOf "_law_nodes" "_law_nodes" (defArgs sNodes) (defBody sNodes) (defScope sNodes) .none kV15 dc15 pm15 an15 cd15 ct15), sl15⟩)
      (c15 : PySem.W.codeIn K cd15 "_law_nodes" = true) (k15 : PySem.W.keepIn K (.ref f15) = true)
    (a16 : PySem.W.nsIn K mainGlobals "_law_reached" = some (some (.ref f16))) (l16 : K.lookup f16 = some ⟨oc16, od16, .func (PySem.W.fnOf "_law_reached" "_law_reached" (defArgs sReach) (defBody sReach) (defScope sReach) .none kV16 dc16 pm16 an16 cd16 ct16), sl16⟩)
      (c16 : PySem.W.codeIn K cd16 "_law_reached" = true) (k16 : PySem.W.keepIn K (.ref f16) = true)
    (a17 : PySem.W.nsIn K mainGlobals "_law_follow" = some (some (.ref f17))) (l17 : K.lookup f17 = some ⟨oc17, od17, .func (PySem.W.fnOf "_law_follow" "_law_follow" (defArgs sFollow) (defBody sFollow) (defScope sFollow) .none kV17 dc17 pm17 an17 cd17 ct17), sl17⟩)
      (c17 : PySem.W.codeIn K cd17 "_law_follow" = true) (k17 : PySem.W.keepIn K (.ref f17) = true)
    (a18 : PySem.W.nsIn K mainGlobals "_law_small" = some (some (.ref f18))) (l18 : K.lookup f18 = some ⟨oc18, od18, .func (PySem.W.fnOf "_law_small" "_law_small" (defArgs sSmall) (defBody sSmall) (defScope sSmall) .none kV18 dc18 pm18 an18 cd18 ct18), sl18⟩)
      (c18 : PySem.W.codeIn K cd18 "_law_small" = true) (k18 : PySem.W.keepIn K (.ref f18) = true)
    (a19 : PySem.W.nsIn K mainGlobals "_law_right" = some (some (.ref f19))) (l19 : K.lookup f19 = some ⟨oc19, od19, .func (PySem.W.fnOf "_law_right" "_law_right" (defArgs sRight) (defBody sRight) (defScope sRight) .none kV19 dc19 pm19 an19 cd19 ct19), sl19⟩)
      (c19 : PySem.W.codeIn K cd19 "_law_right" = true) (k19 : PySem.W.keepIn K (.ref f19) = true)
    (a20 : PySem.W.nsIn K mainGlobals "law" = some (some (.ref f20))) (l20 : K.lookup f20 = some ⟨oc20, od20, .func (PySem.W.fnOf "law" "law" (defArgs sLaw) (defBody sLaw) (defScope sLaw) .none kV20 dc20 pm20 an20 cd20 ct20), sl20⟩)
      (c20 : PySem.W.codeIn K cd20 "law" = true) (k20 : PySem.W.keepIn K (.ref f20) = true)
    (aC : PySem.W.nsIn K mainGlobals "Shape" = some (some (.ref C)))
    (aI : PySem.W.findIn K (.ref C) "__init__" = some (some (.ref fI))) (iI : PySem.W.isFn K (.ref fI) = true) (lI : K.lookup fI = some ⟨ocI, odI, .func (PySem.W.fnOf "__init__" "Shape.__init__" (defArgs sShI) (defBody sShI) (defScope sShI) .none kVI dcI pmI anI cdI ctI), slI⟩) (cI : PySem.W.codeIn K cdI "Shape.__init__" = true) (kI : PySem.W.keepIn K (.ref fI) = true)
    (pg : PySem.W.plainGet K C Str.empty = true) (hd : PySem.W.hasDictIn K C = true) (po : PySem.W.plainOver K C = true) (sa : PySem.W.findIn K (.ref C) "__setattr__" = some (some (.builtin "object.__setattr__"))) (mk : PySem.W.makesIn K C = true) (kc : PySem.W.keepIn K (.ref C) = true)
    (nE : PySem.W.findIn K (.ref C) "empty" = some none) (nF : PySem.W.findIn K (.ref C) "firsts" = some none) (nL : PySem.W.findIn K (.ref C) "lasts" = some none) (nP : PySem.W.findIn K (.ref C) "pairs" = some none)
    (w0 : PySem.W.nsIn K mainGlobals "LEAF_KINDS" = some (some (.ref u0))) (x0 : K.lookup u0 = some ⟨.type "tuple", ud0, .seq #[.str "token" ut0_0, .str "block" ut0_1] un0, us0⟩)
    (z0 : PySem.W.nsIn K mainGlobals "len" = some none)
    (z1 : PySem.W.nsIn K mainGlobals "tuple" = some none)
    (z2 : PySem.W.nsIn K mainGlobals "sorted" = some none)
    (z3 : PySem.W.nsIn K mainGlobals "zip" = some none)
    (z4 : PySem.W.nsIn K mainGlobals "list" = some none)
    (z5 : PySem.W.nsIn K mainGlobals "int" = some none)
    (z6 : PySem.W.nsIn K mainGlobals "range" = some none)
    (z7 : PySem.W.nsIn K mainGlobals "repr" = some none)
    (z8 : PySem.W.nsIn K mainGlobals "all" = some none)
    (z9 : PySem.W.nsIn K mainGlobals "max" = some none)
    (z10 : PySem.W.nsIn K mainGlobals "min" = some none)
    (z11 : PySem.W.nsIn K mainGlobals "abs" = some none) :
    ∃ fd : FuncData, (∀ (s : Shared) (v : Value), BindsTo s fd ⟨[v], []⟩ [("_law_script", v)]) ∧ ∀ bs : Heap, K.In bs → bs.Ns mainGlobals mg → GnOk l.prog w K mg bs 15 fa fd ["_law_script"] (spLaw K) := by
  have e := hfa.symm.trans (PySem.W.mg_of X G a20)
  cases e
  have F0 := fun_mk (st := sLeaves) l0 c0 k0
  have F1 := fun_mk (st := sNext) l1 c1 k1
  have F2 := fun_mk (st := sMay) l2 c2 k2
  have F3 := fun_mk (st := sNum) l3 c3 k3
  have F4 := fun_mk (st := sEnds) l4 c4 k4
  have F5 := fun_mk (st := sShape) l5 c5 k5
  have F6 := fun_mk (st := sShapes) l6 c6 k6
  have F7 := fun_mk (st := sSeq) l7 c7 k7
  have F8 := fun_mk (st := sCho) l8 c8 k8
  have F9 := fun_mk (st := sCross) l9 c9 k9
  have F10 := fun_mk (st := sPot) l10 c10 k10
  have F11 := fun_mk (st := sTake) l11 c11 k11
  have F12 := fun_mk (st := sPick) l12 c12 k12
  have F13 := fun_mk (st := sExpr) l13 c13 k13
  have F14 := fun_mk (st := sGraph) l14 c14 k14
  have F15 := fun_mk (st := sNodes) l15 c15 k15
  have F16 := fun_mk (st := sReach) l16 c16 k16
  have F17 := fun_mk (st := sFollow) l17 c17 k17
  have F18 := fun_mk (st := sSmall) l18 c18 k18
  have F19 := fun_mk (st := sRight) l19 c19 k19
  have F20 := fun_mk (st := sLaw) l20 c20 k20
  have FI := fun_mk (st := sShI) lI cI kI
  exact ⟨_, fun s v => .of_eq rfl, fun bs _ _ => ok_law F20 ⟨⟨⟨pg, hd, po, sa⟩, nE, nF, nL, nP, PySem.W.mg_of X G aC, ⟨mk, aI, iI, kc⟩, FI⟩, F0, F1, F2, F3, F4, F5, F6, F7, F8, F9, F10, F11, F12, F13, F14, F15, F16, F17, F18, F19, PySem.W.mg_of X G a0, PySem.W.mg_of X G a1, PySem.W.mg_of X G a2, PySem.W.mg_of X G a3, PySem.W.mg_of X G a4, PySem.W.mg_of X G a5, PySem.W.mg_of X G a6, PySem.W.mg_of X G a7, PySem.W.mg_of X G a8, PySem.W.mg_of X G a9, PySem.W.mg_of X G a10, PySem.W.mg_of X G a11, PySem.W.mg_of X G a12, PySem.W.mg_of X G a13, PySem.W.mg_of X G a14, PySem.W.mg_of X G a15, PySem.W.mg_of X G a16, PySem.W.mg_of X G a17, PySem.W.mg_of X G a18, PySem.W.mg_of X G a19, (fun _ => .inr ⟨_, _, _, x0, rfl, rfl, by show 2 ≤ sizeLine; decide, (.cons ⟨_, rfl⟩ (.cons ⟨_, rfl⟩ .nil))⟩), PySem.W.mg_of X G w0, PySem.W.mg_none_of X G z0, PySem.W.mg_none_of X G z1, PySem.W.mg_none_of X G z2, PySem.W.mg_none_of X G z3, PySem.W.mg_none_of X G z4, PySem.W.mg_none_of X G z5, PySem.W.mg_none_of X G z6, PySem.W.mg_none_of X G z7, PySem.W.mg_none_of X G z8, PySem.W.mg_none_of X G z9, PySem.W.mg_none_of X G z10, PySem.W.mg_none_of X G z11⟩⟩
end K04
open PySem PySem.W PyProof.Rows
set_option maxHeartbeats 0 in
theorem PySem.Challenge.cw_errorspans_k04_which_leaf_may_follow_holds : PySem.Challenge.rw_errorspans_k04_which_leaf_may_follow.Holds := by
  w_on; o_law; k_head; (case hw => w_witness2)
  k_fill
  refine Es.walk_ofG (l := PySem.Challenge.rw_errorspans_k04_which_leaf_may_follow) (n := 63) (k := 15) (x := "_law_script") (sp := K04.spLaw) rfl (by decide) rfl ⟨rfl, by decide, by decide⟩ (fun w h Y => PySem.W.kIn_of Y) ?F (fun _ _ a ns _ _ hS => ⟨a, ns, rfl, hS, fun _ => rfl⟩)
  case F =>
    intro w mg fa h KX G hmg
    refine' K04.all_mk KX G hmg ?a0 ?l0 ?c0 ?k0 ?a1 ?l1 ?c1 ?k1 ?a2 ?l2 ?c2 ?k2 ?a3 ?l3 ?c3 ?k3 ?a4 ?l4 ?c4 ?k4 ?a5 ?l5 ?c5 ?k5 ?a6 ?l6 ?c6 ?k6 ?a7 ?l7 ?c7 ?k7 ?a8 ?l8 ?c8 ?k8 ?a9 ?l9 ?c9 ?k9 ?a10 ?l10 ?c10 ?k10 ?a11 ?l11 ?c11 ?k11 ?a12 ?l12 ?c12 ?k12 ?a13 ?l13 ?c13 ?k13 ?a14 ?l14 ?c14 ?k14 ?a15 ?l15 ?c15 ?k15 ?a16 ?l16 ?c16 ?k16 ?a17 ?l17 ?c17 ?k17 ?a18 ?l18 ?c18 ?k18 ?a19 ?l19 ?c19 ?k19 ?a20 ?l20 ?c20 ?k20 ?aC ?aI ?iI ?lI ?cI ?kI ?pg ?hd ?po ?sa ?mk ?kc ?nE ?nF ?nL ?nP ?w0 ?x0 ?z0 ?z1 ?z2 ?z3 ?z4 ?z5 ?z6 ?z7 ?z8 ?z9 ?z10 ?z11
    (case a0 => k_is); (case l0 => k_is); (case c0 => k_is); (case k0 => k_is); (case a1 => k_is); (case l1 => k_is); (case c1 => k_is); (case k1 => k_is)
    (case a2 => k_is); (case l2 => k_is); (case c2 => k_is); (case k2 => k_is); (case a3 => k_is); (case l3 => k_is); (case c3 => k_is); (case k3 => k_is)
    (case a4 => k_is); (case l4 => k_is); (case c4 => k_is); (case k4 => k_is); (case a5 => k_is); (case l5 => k_is); (case c5 => k_is); (case k5 => k_is)
    (case a6 => k_is); (case l6 => k_is); (case c6 => k_is); (case k6 => k_is); (case a7 => k_is); (case l7 => k_is); (case c7 => k_is); (case k7 => k_is)
    (case a8 => k_is); (case l8 => k_is); (case c8 => k_is); (case k8 => k_is); (case a9 => k_is); (case l9 => k_is); (case c9 => k_is); (case k9 => k_is)
    (case a10 => k_is); (case l10 => k_is); (case c10 => k_is); (case k10 => k_is); (case a11 => k_is); (case l11 => k_is); (case c11 => k_is); (case k11 => k_is)
    (case a12 => k_is); (case l12 => k_is); (case c12 => k_is); (case k12 => k_is); (case a13 => k_is); (case l13 => k_is); (case c13 => k_is); (case k13 => k_is)
    (case a14 => k_is); (case l14 => k_is); (case c14 => k_is); (case k14 => k_is); (case a15 => k_is); (case l15 => k_is); (case c15 => k_is); (case k15 => k_is)
    (case a16 => k_is); (case l16 => k_is); (case c16 => k_is); (case k16 => k_is); (case a17 => k_is); (case l17 => k_is); (case c17 => k_is); (case k17 => k_is)
    (case a18 => k_is); (case l18 => k_is); (case c18 => k_is); (case k18 => k_is); (case a19 => k_is); (case l19 => k_is); (case c19 => k_is); (case k19 => k_is)
    (case a20 => k_is); (case l20 => k_is); (case c20 => k_is); (case k20 => k_is); (case aC => k_is); (case aI => k_is); (case iI => k_is); (case lI => k_is)
    (case cI => k_is); (case kI => k_is); (case pg => k_is); (case hd => k_is); (case po => k_is); (case sa => k_is); (case mk => k_is); (case kc => k_is)
    (case nE => k_is); (case nF => k_is); (case nL => k_is); (case nP => k_is); (case w0 => k_is); (case x0 => k_is); (case z0 => k_is); (case z1 => k_is)
    (case z2 => k_is); (case z3 => k_is); (case z4 => k_is); (case z5 => k_is); (case z6 => k_is); (case z7 => k_is); (case z8 => k_is); (case z9 => k_is)
    (case z10 => k_is); (case z11 => k_is)
