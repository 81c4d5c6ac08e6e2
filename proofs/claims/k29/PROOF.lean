import PyProof.Rows.All
import Wide.All
import OpenK.AllK
import Wide.FinOn
import HandS.ForMost
import HandS.IsInst
import HandS.Evl
import HandS.Walk
import KE.GoesEnum
import HandS.TupAny
import HandS.Style
import HandS.TupMul
import HandS.Conv
import PySem.Challenge.RW_errorspans_k29_apply_repair
set_option Elab.async false
set_option linter.all false
set_option maxRecDepth 100000
set_option maxHeartbeats 2000000
namespace Es
open PySem PySem.Spec PyProof.Rows L2 Evl
section
variable {X : Cx}
/-- repr of a truth value -/
theorem cr_reprB : CallR X (.builtin "repr") (fun xs H Q => ∃ b : Bool, xs = [.bl b] ∧ Q (.str (if b then "True" else "False")) H) := by
  intro pins s σ H xs us Q I r h
  obtain ⟨b, rfl, q⟩ := h
  obtain ⟨u, rfl, ru⟩ := vals1 r
  obtain rfl : u = Value.bool b := ru
  exact PySem.P.repr_of_bool ⟨.str _, H, I.tok _, ⟨_, rfl⟩, q⟩
/-- repr of data that lies at an address -/
theorem cr_reprD (hg : X.A.guards = some []) (hu : X.A.units + 64 < cLine) : CallR X (.builtin "repr")
    (fun xs H Q => ∃ (a : Addr) (d : PyData), xs = [.ref a] ∧ Dp X.K H (.ref a) d ∧ d.showable = true ∧ d.hasDict = false ∧ d.depth ≤ 60 ∧ d.shown.length ≤ sizeLine ∧ Q (.str d.shown) H) := by
  intro pins s σ H xs us Q I r h
  obtain ⟨a, d, rfl, hd, hs, hn, hdp, hz, q⟩ := h
  obtain ⟨u, rfl, ru⟩ := vals1 r
  obtain rfl : u = Value.ref a := ru
  obtain ⟨as, rd⟩ := Dp.reads I d _ _ hd rfl
  refine repr_of_reads' rd hs (fun z => ?_) hg (by omega) (fun _ _ e => e) (fun h' u tk hk => ?_) hz
  · rw [hn] at z; cases z
  · exact ⟨.str d.shown, H, I.kept (t' := tk) hk, ⟨_, rfl⟩, q⟩
/-- powers of great numbers -/
def CPowW (i j : Int) : Prop := 0 ≤ j ∧ (Builtin.Int.intBits i : Int) * j ≤ 2 ^ 27
theorem op_powW : OpR X (binaryOp .Pow) (rI CPowW fun i j => .int (i ^ j.toNat)) := opI fun _ _ _ _ _ _ _ hc q => pow_int hc.1 hc.2 q
end
/-- a def's promise, given where no repr is under way -/
structure GnOk (P : Program) (w : World) (K : PySem.W.Frag) (mg : Str → Option Value) (bs : Heap) (k : Nat) (f : Addr) (fd : FuncData) (ps : List Str) (sp : Sp) : Prop where
  len : ∀ vs H Q E, sp vs H Q E → vs.length = ps.length
  run : ∀ (A : Around) (out : List Env) (s : Shared) (H : Hp) (ar : Args) (us : List Value) (vs : List V) (Q : VK) (E : XK), A.guards = some [] → Room k A →
    Env0 P w K mg bs A out s H → BindsTo s fd ar (ps.zip us) → Vals vs us → sp vs H Q E → codeAny (model P w) A (.call (.ref f) ar) (CR CX0 out P w H s Q E) s
section
variable {P : Program} {w : World} {K : PySem.W.Frag} {mg : Str → Option Value} {bs : Heap} {k : Nat} {f : Addr} {fd : FuncData} {ps : List Str} {sp : Sp}
theorem GnOk.ofF (F : FnOk P w K mg bs CX0 k f fd ps sp) : GnOk P w K mg bs k f fd ps sp := ⟨F.len, fun A out s H ar us vs Q E _ => F.run A out s H ar us vs Q E⟩
theorem GnOk.mono {j : Nat} (F : GnOk P w K mg bs j f fd ps sp) (h : j ≤ k) : GnOk P w K mg bs k f fd ps sp := ⟨F.len, fun A out s H ar us vs Q E g hr => F.run A out s H ar us vs Q E g (hr.mono h)⟩
theorem gn_of {x qual : Str} {st : Stmt} {N : List Str} (F : Fun K x qual st f fd) (S : FnScope N ps (defScope st)) (len : ∀ vs H Q E, sp vs H Q E → vs.length = ps.length)
    (hb : ∀ (cd : Value) (A : Around) (out : List Env) (s : Shared) (H : Hp) (vs : List V) (Q : VK) (E : XK), A.guards = some [] → Room k (A.deeper (envOfC qual (defScope st) s.heap.objs.size f cd)) →
      sp vs H Q E → ∃ t, PSs (cxOf CX0 P w K mg bs N qual (defScope st) f cd A out s H E).nox (defBody st) t ∧ t { nx := fun _ H' => Q .non H', rt := Q } (start N vs) H) :
    GnOk P w K mg bs (k + 1) f fd ps sp := by
  obtain ⟨oc, od, kV, dc, pm, an, cd, ct, sl, rfl, lk, hcd⟩ := F.ex
  refine ⟨len, ?_⟩
  intro A out s H ar us vs Q E g hr e0 hbd rv hs
  have up := fun b o (e : bs.get? b = some o) => (e0.bs b o e).1
  have kin := e0.mod.kin.keeps up
  have ln := len _ _ _ _ hs
  obtain ⟨t, ht, hq⟩ := hb cd A out s H vs Q E g (hr.deeper _) hs
  have hk : ∀ y ∈ ps.zip us, (defScope st).names.lookup y.1 = some .local ∨ ((defScope st).names.lookup y.1 = some .cell ∧ ((cellsFrom (s.heap.objs.size + 1) (defScope st).names []).lookup y.1).isSome = true) := by
    intro ⟨n, v⟩ hy
    rcases S.par n (List.of_mem_zip hy).1 with q | q
    · exact Or.inl q
    · exact Or.inr ⟨q, PySem.W.cellsFrom_some _ _ _ (.inl q)⟩
  refine codeAny_call_function hr.depth (kin _ _ lk) rfl S.co S.gen rfl (PySem.W.codeRec_of kin hcd) (hbd _ _ _ _ ?_)
  refine wpAny_newFunctionEnv_cells S.kind hk ?_
  intro en he s1 x
  subst he
  refine ⟨(e0.mod.nolimit.keeps up).keeps x.toInCall.keep, codeAny_func ?_⟩
  have I := inv_start (CX := CX0) (P := P) (w := w) (K := K) (mg := mg) (base := bs) (E := E) S hr.hd e0 ln rv x
  refine wpAny_mono (ht.nox.run [] s1 (start N vs) H _ I hq) ?_ (fun e s' hs => hs)
  intro fl s' z
  have fin : ∀ {σ' : L2.St} {H' : Hp} {v : V} {u : Value}, Inv (cxOf CX0 P w K mg bs N qual (defScope st) f cd A out s H E) [] σ' H' s' → RelV v u → Q v H' → CE out P w H s Q u s' :=
    fun J r q => ⟨_, _, J.os, J.bare, J.base, J.hok, r, q⟩
  match fl, z with
  | .ret u, ⟨v, σ', H', J, r, q⟩ => exact fin J r q
  | .next, ⟨σ', H', J, q⟩ => exact fin (v := V.non) (u := Value.none) J rfl q
  | .brk, ⟨_, _, _, q⟩ => exact q.elim
  | .cont, ⟨_, _, _, q⟩ => exact q.elim
end
section
variable {X : Cx} {k : Nat} {f : Addr} {fd : FuncData} {ps ks : List Str} {sp : Sp} {x : Str} {p pos : Pos} {e : Expr} {es : List Expr} {kws : List Keyword} {t tk : TA}
theorem run_gn {pins : List (Addr × Obj)} {σ : L2.St} {H : Hp} {s : Shared} {Q : VK} {us : List Value} {vs : List V} (F : GnOk X.prog X.w X.K X.mg X.base k f fd ps sp) (g : X.A.guards = some []) (hr : Room k X.A)
    (hb : Binds X.K fd ps []) (I : Inv X pins σ H s) (r : Vals vs us) (h : sp vs H Q E0) : wpAny (model X.prog X.w) X.A (call (.ref f) us) (EP X pins σ Q) X.xe s := by
  have ln := F.len _ _ _ _ h
  have hb' := hb s us I.kIn (by rw [List.append_nil, ← r.length]; exact ln)
  rw [List.append_nil] at hb'
  refine wpAny_call (codeAny_mono (F.run X.A X.stack s H ⟨us, []⟩ us vs Q E0 g hr I.env0 hb' r h) ?_)
  intro rs s' z
  match rs, z with
  | .ok (.ret u), z => exact I.after z
def tCallG (sp : Sp) (t : TA) : TE := fun σ H Q => t σ H fun vs H1 => sp vs H1 Q E0
/-- f(e, ..), f one that may ask for a repr -/
theorem pe_callG (F : GnOk X.prog X.w X.K X.mg X.base k f fd ps sp) (g : X.A.guards = some []) (hr : Room k X.A) (hg : Gl X x) (hm : X.mg x = some (.ref f)) (hk : PySem.W.keepIn X.K (.ref f) = true)
    (hb : Binds X.K fd ps []) (ha : PA X (e :: es) t) (hdb : (x == ("__debug__" : Str)) = false := by decide)
    (he : starEach (e :: es) X.env = (false, eval e X.env) :: starEach es X.env := by rfl) (hpl : (backTo pos (starEach es X.env)).any (·.1) = false := by rfl) :
    PE X (.Call (.Name x p) (e :: es) [] pos) (tCallG sp t) := by
  refine ⟨?_⟩
  intro pins s σ H Q I h
  refine wpAny_Call_Name_kw (ld_glob I hg hm ?_ hdb)
  refine PySem.W.callWith_K (h₀ := X.base) I.ok.mod.kin hk (thn (ha.run pos pins s σ H _ I h) ?_) he hpl
  rintro us s1 ⟨vs, H1, I1, r, q⟩
  exact ⟨I1.kIn, run_gn F g hr hb I1 r q⟩
/-- f(k = v, ..): keywords alone -/
theorem pe_callK0 {gg : List Value → List Value → List Value} {gV : List V → List V → List V} (F : FnOk X.prog X.w X.K X.mg X.base CX0 k f fd ps sp) (hr : Room k X.A) (hg : Gl X x) (hm : X.mg x = some (.ref f)) (hk : PySem.W.keepIn X.K (.ref f) = true)
    (hb : KBinds X.K fd ps ks gg gV) (hkw : PK X kws tk) (hall : (backToKw pos (keywordEach kws X.env)).all (·.1.isSome) = true := by rfl) (hks : (backToKw pos (keywordEach kws X.env)).filterMap (·.1) = ks := by rfl)
    (hdb : (x == ("__debug__" : Str)) = false := by decide) (hpl : ((backTo pos (starEach [] X.env)).any (·.1) || (backToKw pos (keywordEach kws X.env)).any (·.1.isNone)) = false := by rfl) :
    PE X (.Call (.Name x p) [] kws pos) (fun σ H Q => tk σ H fun zs H1 => sp (gV [] zs) H1 Q E0) := by
  refine ⟨?_⟩
  intro pins s σ H Q I h
  refine wpAny_Call_Name_kw (ld_glob I hg hm ?_ hdb)
  refine PySem.W.callWith_KW0 (h₀ := X.base) I.ok.mod.kin hk hall (thn (hkw.run pos pins s σ H _ I h) ?_) hpl
  rintro ws s2 ⟨zs, H2, I2, rz, q2⟩
  refine ⟨I2.kIn, ?_⟩
  rw [hks]
  exact run_fnk F hr hb pass0 I2 .nil rz q2
end
/-! the law's own call -/
section
variable {P : Program} {w : World} {K : PySem.W.Frag} {mg mb : Str → Option Value} {k : Nat} {fa a : Addr} {fd : FuncData} {x : Str} {sp : Sp} {s1 : Shared} {vs : List Value} {ns : List Int}
def LawEnd (s1 : Shared) : Result → Shared → Prop := fun r s' => r = .ok (.ret (.bool true)) ∧ OldK s1.heap s'.heap ∧ s'.os = s1.os ∧ AllBare s'.gens
theorem law_core (KX : K.In s1.heap) (hns : s1.heap.Ns mainGlobals mg) (hb : s1.heap.Ns builtinsNs mb) (hbb : ∀ x : Str, x ≠ "__name__" → mb x = bootBuiltins x) (hlim : s1.heap.NoLimit) (hg : s1.gens = #[])
    (ha : s1.heap.get? a = some { cls := .type "list", data := .seq vs.toArray }) (hr : Room k callerA)
    (F : ∀ bs : Heap, K.In bs → bs.Ns mainGlobals mg → GnOk P w K mg bs k fa fd [x] sp) (hbd : ∀ (s : Shared) (u : Value), BindsTo s fd ⟨[u], []⟩ [(x, u)])
    (H : Hp) (hO : Only H) (hok : HOk P w H s1.heap) (hA : ∀ b, H b ≠ none → b = a) (hK : H a ≠ none → K.lookup a = none) (hs : sp [.ref a] H (fun v _ => v = .bl true) E0) :
    codeAny (model P w) callerA (.call (.ref fa) ⟨[.ref a], []⟩) (LawEnd s1) s1 := by
  have isA : ∀ {b : Addr} {u : HO}, H b = some u → b = a := fun q => hA _ (by rw [q]; simp)
  have nodict : ∀ {b : Addr} {o : Obj} {es : Array DictEntry} {ep : Nat}, s1.heap.get? b = some o → o.data = .dict es ep → H b = none := by
    intro b o es ep e d
    cases q : H b with
    | none => rfl
    | some u =>
      cases isA q
      rw [ha] at e
      cases e
      cases d
  have low : ∀ {b : Addr} {o : Obj}, s1.heap.get? b = some o → H b = none → (hidT s1.heap H).get? b = some o := fun e n => hidT_get e n
  have nsl : ∀ {b : Addr} {m : Str → Option Value}, s1.heap.Ns b m → (hidT s1.heap H).Ns b m := by
    rintro b m ⟨o, es, ep, e, d, r⟩
    exact ⟨o, es, ep, low e (nodict e d), d, r⟩
  have kl : K.In (hidT s1.heap H) := by
    intro b o e
    refine low (KX b o e) ?_
    cases q : H b with
    | none => rfl
    | some u =>
      cases isA q
      rw [hK (by rw [q]; simp)] at e
      cases e
  obtain ⟨mc, hm1, hm2⟩ := hlim
  have md : Mod K mg (hidT s1.heap H) := ⟨kl, nsl hns, ⟨mb, nsl hb, hbb⟩, ⟨mc, nsl hm1, hm2⟩⟩
  have e0 : Env0 P w K mg (hidT s1.heap H) callerA [] s1 H :=
    ⟨rfl, md, fun b o e => of_hidT e, Nat.le_of_eq (hidT_size _ _), trivial, fun b z => absurd (show b ∈ ([] : List Addr) from z) (by simp), hok, .of_eq hg⟩
  refine codeAny_mono ((F _ kl (nsl hns)).run callerA [] s1 H ⟨[.ref a], []⟩ [.ref a] [.ref a] _ _ rfl hr e0 (hbd s1 (.ref a)) (.cons rfl .nil) hs) ?_
  intro r s' z
  match r, z with
  | .ok (.ret u), ⟨v, H', os, bare, un, hok', rv, q⟩ =>
    cases (show v = .bl true from q)
    obtain rfl : u = Value.bool true := rv
    refine ⟨rfl, OldK.of_keep ?_, os, bare⟩
    intro b o e
    cases q : H b with
    | none => exact un.keep b o e q (by intro z; exact absurd (show b ∈ ([] : List Addr) from z) (by simp)) (by simp)
    | some u =>
      rcases hO b with z | ⟨ob, xs, z⟩
      · rw [q] at z
        cases z
      · obtain ⟨g1, _⟩ := hok b _ z
        obtain ⟨g2, _⟩ := hok' b _ (un.frzs b ob _ z)
        rw [e] at g1
        cases g1
        exact g2
theorem law_callG (KX : K.In s1.heap) (hns : s1.heap.Ns mainGlobals mg) (hb : s1.heap.Ns builtinsNs mb) (hbb : ∀ x : Str, x ≠ "__name__" → mb x = bootBuiltins x) (hlim : s1.heap.NoLimit) (hg : s1.gens = #[])
    (ha : s1.heap.get? a = some { cls := .type "list", data := .seq vs.toArray }) (hi : IntsAre vs ns) (hl : ns.length ≤ sizeLine) (hr : Room k callerA)
    (F : ∀ bs : Heap, K.In bs → bs.Ns mainGlobals mg → GnOk P w K mg bs k fa fd [x] sp) (hbd : ∀ (s : Shared) (u : Value), BindsTo s fd ⟨[u], []⟩ [(x, u)])
    (hsp : ∀ H : Hp, Only H → SqL K H a (ns.map V.int) → sp [.ref a] H (fun v _ => v = .bl true) E0) :
    codeAny (model P w) callerA (.call (.ref fa) ⟨[.ref a], []⟩) (LawEnd s1) s1 := by
  have rv := vals_ints hi
  cases hk : K.lookup a with
  | some o =>
    have e := KX a o hk
    rw [ha] at e
    cases e
    have hO : Only (fun _ => none) := fun _ => .inl rfl
    refine law_core KX hns hb hbb hlim hg ha hr F hbd (fun _ => none) hO (fun b u z => nomatch z) (fun b z => absurd rfl z) (fun z => absurd rfl z) (hsp _ hO ?_)
    exact .inr ⟨_, vs.toArray, _, hk, rfl, rfl, rfl, by rw [List.size_toArray, hi.length]; exact hl, by simpa using rv⟩
  | none =>
    let Z : Hp := fun b => if b = a then some (.frz { cls := .type "list", data := .seq vs.toArray } (.lst (ns.map V.int))) else none
    have hZ : Z a = some (.frz { cls := .type "list", data := .seq vs.toArray } (.lst (ns.map V.int))) := if_pos rfl
    have hZn : ∀ b, b ≠ a → Z b = none := fun b h => if_neg h
    have hO : Only Z := fun b => by
      by_cases h : b = a
      · subst h
        exact .inr ⟨_, _, hZ⟩
      · exact .inl (hZn b h)
    refine law_core KX hns hb hbb hlim hg ha hr F hbd Z hO (fun b u z => ?_) (fun b z => ?_) (fun _ => hk) (hsp Z hO (.inl (.inr ⟨_, hZ⟩)))
    · by_cases h : b = a
      · subst h
        rw [hZ] at z
        cases z
        exact ⟨ha, by rw [List.length_map]; exact hl, vs, _, rv, ha⟩
      · rw [hZn b h] at z
        cases z
    · by_cases h : b = a
      · exact h
      · exact absurd (hZn b h) z
end
theorem walk_ofG {l : PySem.W.OpenLaw} {n k : Nat} {q : Program} {loose : List Str} {XP : (Str → Option Value) → Heap → Prop} {YP : World → Heap → Prop} {d : DefRec} {K : Params → PySem.W.Frag} {sp : PySem.W.Frag → Sp} {x : Str}
    (hn : l.most = some n) (hn2 : n ≤ sizeLine) (hdf : d.params.defaults = []) (hr : Room k callerA) (hY : ∀ (w : World) (h : Heap), YP w h → (K w.params).In h)
    (F : ∀ (w : World) (mg : Str → Option Value) (fa : Addr) (h : Heap), (K w.params).In h → h.Ns mainGlobals mg → mg d.name = some (.ref fa) →
      ∃ fd : FuncData, (∀ (s : Shared) (u : Value), BindsTo s fd ⟨[u], []⟩ [(x, u)]) ∧
        ∀ bs : Heap, (K w.params).In bs → bs.Ns mainGlobals mg → GnOk l.prog w (K w.params) mg bs k fa fd [x] (sp (K w.params)))
    (hsp : ∀ (K : PySem.W.Frag) (H : Hp) (a : Addr) (ns : List Int), ns.length ≤ n → Only H → SqL K H a (ns.map V.int) → sp K [.ref a] H (fun v _ => v = .bl true) E0) :
    PySem.W.WalkO q loose XP YP l.row.toRowW d [] (fun f vs => PySem.call f vs) := by
  refine Att.attach_call hn hdf ?_
  intro w s0 s1 mg mb fa o pm cd dc a vs ns G Y ho hd hcd hmg hobj hints hlen hgn
  have KX := hY w _ Y
  obtain ⟨fd, hb, hF⟩ := F w mg fa _ KX G.T.g hmg
  exact law_callG KX G.T.g G.T.b G.T.builtins G.T.nolimit hgn hobj hints (Nat.le_trans hlen hn2) hr hF hb fun H hO hS => hsp _ H a ns hlen hO hS
end Es
namespace Es
open PySem PySem.Spec PyProof.Rows L2 Evl
section
variable {K : PySem.W.Frag} {σ : L2.St} {H H' : Hp} {ta tb tc te : TE} {x y z v w : V} {r r' : R2}
theorem ev_chain {k k' : Bool} (ha : Ev ta σ H x) (hb : Ev tb σ H y) (hr : RV r x y H (.bl k)) (hc : k = true → Ev tc σ H w) (hr' : k = true → RV r' y w H (.bl k')) : Ev (tChain r r' ta tb tc) σ H (.bl (k && k')) := by
  intro H1 e Q q
  refine ha H1 e _ fun H2 e2 => hb H2 (e.trans e2) _ fun H3 e3 => hr H3 ((e.trans e2).trans e3) _ fun H4 e4 => ⟨k, rfl, ?_⟩
  have e14 := (e2.trans e3).trans e4
  cases k with
  | true => exact hc rfl H4 (e.trans e14) _ fun H5 e5 => hr' rfl H5 ((e.trans e14).trans e5) Q fun H6 e6 => q H6 ((e14.trans e5).trans e6)
  | false => exact q H4 e14
/-- a text walked by a comprehension without tests, each sign giving f of it -/
theorem el_lcS {s : Str} {tl : TE} {j : Nat} {vs : List Nat} (f : Nat → V) (h : Ev tl σ H (.str s)) (hz : s.cps.size ≤ 40000) (hw : ∀ x, wipe ((wipe σ vs).set j (some x)) vs = wipe σ vs)
    (he : ∀ (c : Nat) H1, Ex H H1 → c ∈ s.cps.toList → Ev te ((wipe σ vs).set j (some (.str ⟨#[c]⟩))) H1 (f c)) :
    EvL (tLc (iStr tl) (gName j) tYes te vs) σ H (s.cps.toList.map f) := by
  intro H0 e Q q
  refine h H0 e _ fun H1 e1 => ⟨s, rfl, fun D hD => ?_⟩
  refine lc_it walk_str (fun i H' => Ex H1 H' ∧ H' D = some (.lst ((s.cps.toList.take i).map f))) ⟨Ex.new hD, upd_same⟩ (fun _ _ _ _ => trivial) (fun i x Ha Hb hi p y => ?_) (fun Hc p => ?_)
  · obtain ⟨rfl, c, hc, rfl⟩ := y
    refine ⟨hw _, ?_⟩
    show te _ Hb _
    have hm : s.cps.toList[i]? = some c := by rw [Array.getElem?_toList]; exact hc
    refine he c Hb ((e.trans e1).trans p.1) (List.mem_of_getElem? hm) Hb (Ex.refl _) _ fun Hc ec => ⟨_, ec D _ p.2, ?_, Ex.mut (p.1.trans ec) hD, ?_⟩
    · rw [List.length_map, List.length_take]
      exact sz_lt (by rw [Array.length_toList]; omega)
    · rw [upd_same, List.take_add_one, hm, List.map_append]
      rfl
  · have p2 := p.2
    rw [List.take_of_length_le (by rw [Array.length_toList]; exact Nat.le_refl _)] at p2
    exact q D Hc (fresh_back e1 hD) (e1.trans p.1) p2
theorem ev_cbL {r : List V → Hp → VK → Prop} {ta : TE} {xs : List V} (h : EvL ta σ H xs) (hr : ∀ p H1, H1 p = some (.lst xs) → Ex H H1 → RC r [.ref p] H1 z) : Ev (tCB r (tCons ta tNil)) σ H z := fun H1 e Q q =>
  h H1 e _ fun p H2 _ e2 hp => hr p H2 hp (e.trans e2) H2 (Ex.refl _) Q fun H3 e3 => q H3 (e2.trans e3)
/-- the values that a value of any kind may be -/
inductive Thing (H : Hp) : V → Prop
  | non : Thing H .non
  | bl (b : Bool) : Thing H (.bl b)
  | int (i : Int) : Thing H (.int i)
  | str (s : Str) : s.length ≤ 1000 → Thing H (.str s)
  | lst {a : Addr} {xs : List V} : H a = some (.lst xs) → Thing H (.ref a)
  | tup {a : Addr} {xs : List V} : H a = some (.tup xs) → Thing H (.ref a)
  | dK {a : Addr} {kvs : List (Key × V)} : H a = some (.dK kvs) → Thing H (.ref a)
theorem Thing.up (h : Thing H v) (e : Ex H H') : Thing H' v := by
  cases h with
  | non => exact .non
  | bl b => exact .bl b
  | int i => exact .int i
  | str s hs => exact .str s hs
  | lst h => exact .lst (e _ _ h)
  | tup h => exact .tup (e _ _ h)
  | dK h => exact .dK (e _ _ h)
def isS : V → Bool
  | .str _ => true
  | _ => false
theorem Thing.ty (h : Thing H v) : ∃ t : String, TyX K H v (.type t) ∧ kitB t "str" = some (isS v) := by
  cases h with
  | non => exact ⟨_, .base .non, show kitB "NoneType" "str" = some false by decide +kernel⟩
  | bl b => exact ⟨_, .base (.bl b), show kitB "bool" "str" = some false by decide +kernel⟩
  | int i => exact ⟨_, .base (.int i), show kitB "int" "str" = some false by decide +kernel⟩
  | str s hs => exact ⟨_, .base (.str s), show kitB "str" "str" = some true by decide +kernel⟩
  | lst h => exact ⟨_, .base (.lst h), show kitB "list" "str" = some false by decide +kernel⟩
  | tup h => exact ⟨_, .base (.tup h), show kitB "tuple" "str" = some false by decide +kernel⟩
  | dK h => exact ⟨_, .base (.dK h), show kitB "dict" "str" = some false by decide +kernel⟩
theorem Thing.isi (h : Thing H v) : RC (rIsi K) [v, .ty "str"] H (.bl (isS v)) := by
  intro H1 e Q q
  obtain ⟨t, h1, h2⟩ := (h.up e).ty (K := K)
  exact ⟨v, _, _, _, _, rfl, .ty _, h1, kit_ty h2, q H1 (Ex.refl _)⟩
def rLen1 (K : PySem.W.Frag) : List V → Hp → VK → Prop := fun xs H Q => ∃ x n, xs = [x] ∧ LenV K x H n ∧ Q (.int n) H
theorem rc_lenS {s : Str} (h : s.length ≤ 1000) : RC (rLen1 K) [.str s] H (.int (s.length : Int)) := fun H1 _ _ q => ⟨.str s, s.length, rfl, ⟨sz_of (by omega), rfl⟩, q H1 (Ex.refl _)⟩
theorem rc_all {p : Addr} {bs : List Bool} (h : H p = some (.lst (bs.map V.bl))) : RC (rAll K) [.ref p] H (.bl (bs.all id)) := fun H1 e _ q => ⟨p, bs, rfl, sq_of (e _ _ h), q H1 (Ex.refl _)⟩
theorem rc_any {p : Addr} {bs : List Bool} (h : H p = some (.lst (bs.map V.bl))) : RC (rAny K) [.ref p] H (.bl (bs.any id)) := fun H1 e _ q => ⟨p, bs, rfl, sq_of (e _ _ h), q H1 (Ex.refl _)⟩
def rInSign : R2 := fun x y H Q => ∃ (c : Nat) (z : Str), x = .str ⟨#[c]⟩ ∧ y = .str z ∧ Q (.bl (decide (c ∈ z.cps.toList))) H
theorem rv_inSign {c : Nat} {s : Str} : RV rInSign (.str ⟨#[c]⟩) (.str s) H (.bl (decide (c ∈ s.cps.toList))) := fun H1 _ _ q => ⟨c, s, rfl, rfl, q H1 (Ex.refl _)⟩
def rNotInSign : R2 := fun x y H Q => ∃ (c : Nat) (z : Str), x = .str ⟨#[c]⟩ ∧ y = .str z ∧ Q (.bl (!decide (c ∈ z.cps.toList))) H
theorem rv_notInSign {c : Nat} {s : Str} : RV rNotInSign (.str ⟨#[c]⟩) (.str s) H (.bl (!decide (c ∈ s.cps.toList))) := fun H1 _ _ q => ⟨c, s, rfl, rfl, q H1 (Ex.refl _)⟩
end
end Es
namespace Es
open PySem PySem.Spec PyProof.Rows L2 Evl
/-- all but the object at p stays -/
def Xp (p : Addr) (H H' : Hp) : Prop := ∀ a o, a ≠ p → H a = some o → H' a = some o
theorem Xp.refl (p : Addr) (H : Hp) : Xp p H H := fun _ _ _ h => h
theorem Xp.ex {p : Addr} {H H' : Hp} (e : Ex H H') : Xp p H H' := fun a o _ h => e a o h
theorem Xp.trans {p : Addr} {H H1 H2 : Hp} (a : Xp p H H1) (b : Xp p H1 H2) : Xp p H H2 := fun x o n h => b x o n (a x o n h)
theorem Xp.upd {p : Addr} {H : Hp} {o : HO} : Xp p H (upd H p o) := fun a u n h => by
  rw [upd_ne n]
  exact h
/-- a pot: three ints -/
def Pot (H : Hp) (p : Addr) (n : Int) : Prop := ∃ g s c : Int, H p = some (.lst [.int g, .int s, .int c]) ∧ 0 ≤ g ∧ 0 ≤ s ∧ s < 2 ^ 61 ∧ 0 ≤ c ∧ c ≤ n
theorem Pot.up {H H' : Hp} {p : Addr} {n : Int} (h : Pot H p n) (e : Ex H H') : Pot H' p n := by
  obtain ⟨g, s, c, h, r⟩ := h
  exact ⟨g, s, c, e _ _ h, r⟩
theorem Pot.more {H : Hp} {p : Addr} {n m : Int} (h : Pot H p n) (e : n ≤ m) : Pot H p m := by
  obtain ⟨g, s, c, h, r1, r2, r3, r4, r5⟩ := h
  exact ⟨g, s, c, h, r1, r2, r3, r4, by omega⟩
theorem Pot.back {H H' : Hp} {p q : Addr} {n : Int} (h : Pot H' p n) (e : Xp p H H') (hq : H' q = none) : H q = none := by
  obtain ⟨g, s, c, h, _⟩ := h
  cases hh : H q with
  | none => rfl
  | some o =>
    by_cases z : q = p
    · subst z
      rw [h] at hq
      cases hq
    · rw [e q o z hh] at hq
      cases hq
theorem Pot.ne {H : Hp} {p q : Addr} {n : Int} (h : Pot H p n) (hq : H q = none) : q ≠ p := by
  obtain ⟨g, s, c, h, _⟩ := h
  intro z
  subst z
  rw [h] at hq
  cases hq
def spTake : Sp := fun vs H Q _ => ∃ (p : Addr) (n m : Int), vs = [.ref p, .int n] ∧ 1 ≤ n ∧ n ≤ 1000 ∧ m ≤ 100000 ∧ Pot H p m ∧
  ∀ (r : Int) H', 0 ≤ r → r < n → Xp p H H' → Pot H' p (m + 1) → Q (.int r) H'
end Es
namespace Es
open PySem PySem.Spec PyProof.Rows L2 Evl
theorem Xp.mut {p D : Addr} {H H' : Hp} {o : HO} (e : Xp p H H') (h : H D = none) : Xp p H (L2.upd H' D o) := fun a u n ha => by
  rw [upd_ne (ne_of_none ha h)]
  exact e a u n ha
theorem len_glue : ∀ ys : List Str, (∀ y ∈ ys, y.length = 1) → (Str.join "" ys).length = ys.length
  | [], _ => rfl
  | [y], h => h y (List.mem_singleton.mpr rfl)
  | x :: z :: r, h => by
    show (x ++ "" ++ Str.join "" (z :: r)).length = r.length + 1 + 1
    rw [PySem.Str.length_append, PySem.Str.length_append, len_glue (z :: r) (fun y hy => h y (List.mem_cons_of_mem _ hy)), h x (List.mem_cons_self ..)]
    show 1 + 0 + (r.length + 1) = r.length + 1 + 1
    omega
theorem cut_le (z : Str) (lo hi : Option Int) : (cutS z lo hi).length ≤ z.length := by
  show (List.toArray _).size ≤ z.cps.size
  rw [List.size_toArray, List.length_take, List.length_drop, Array.length_toList]
  omega
end Es
namespace Es
open PySem PySem.Spec PyProof.Rows L2 Evl
section
variable {K : PySem.W.Frag} {σ : L2.St} {H H' : Hp} {ta tb te : TE} {tk : TA} {x y z v w : V} {sp : Sp}
def rReprB : List V → Hp → VK → Prop := fun xs H Q => ∃ b : Bool, xs = [.bl b] ∧ Q (.str (if b then "True" else "False")) H
def rReprD (K : PySem.W.Frag) : List V → Hp → VK → Prop := fun xs H Q => ∃ (a : Addr) (d : PyData), xs = [.ref a] ∧ Dp K H (.ref a) d ∧ d.showable = true ∧ d.hasDict = false ∧ d.depth ≤ 60 ∧ d.shown.length ≤ sizeLine ∧ Q (.str d.shown) H
theorem rc_reprB {b : Bool} : RC rReprB [.bl b] H (.str (if b then "True" else "False")) := fun H1 _ _ q => ⟨b, rfl, q H1 (Ex.refl _)⟩
/-- [b, b] written -/
def two (b : Bool) : PyData := .list [.bool b, .bool b]
theorem rc_repr2 {p : Addr} {b : Bool} (h : H p = some (.lst [.bl b, .bl b])) : RC (rReprD K) [.ref p] H (.str (two b).shown) := fun H1 e _ q =>
  ⟨p, two b, rfl, .lst (sq_of (e _ _ h)) (.cons (.bl b) (.cons (.bl b) .nil)), by cases b <;> decide +kernel, by cases b <;> decide +kernel, by cases b <;> decide +kernel, by cases b <;> decide +kernel, q H1 (Ex.refl _)⟩
theorem el_rep {xs : List V} {n : Int} (h : EvL ta σ H xs) (hn : 0 ≤ n ∧ n ≤ 100) (hl : xs.length ≤ 100) : EvL (tOp rRep ta (tC (.int n))) σ H (List.replicate n.toNat xs).flatten := by
  intro H1 e Q q
  refine h H1 e _ fun p H2 hp e2 h2 => ⟨p, n, xs, rfl, rfl, h2, by omega, by omega, ?_, fun r hr => q r _ (fresh_back e2 hr) (e2.trans (Ex.new hr)) upd_same⟩
  have : xs.length * n.toNat ≤ 100 * 100 := Nat.mul_le_mul hl (by omega)
  exact sz_of (by omega)
theorem ev_callK0 {gV : List V → List V → List V} {vs : List V} (h : EvA tk σ H vs) (hs : SpV sp (gV [] vs) H z) : Ev (fun σ H Q => tk σ H fun zs H1 => sp (gV [] zs) H1 Q E0) σ H z := fun H1 e Q q =>
  h H1 e _ fun H2 e2 => hs H2 (e.trans e2) Q (fun H3 e3 => q H3 (e2.trans e3)) E0
end
/-- one keyword alone -/
def kwV : List V → List V → List V
  | [], zs => zs
  | _ :: _, _ => []
def kwU : List Value → List Value → List Value
  | [], zs => zs
  | _ :: _, _ => []
theorem kw_rel {vs zs : List V} {us ws : List Value} (r : Vals vs us) (rz : Vals zs ws) : Vals (kwV vs zs) (kwU us ws) := by
  cases r with
  | nil => exact rz
  | cons _ _ => exact .nil
end Es
section
open PySem PySem.Sem PySem.Builtin PySem.Builtin.List
/-- a list grows by a tuple's items -/
theorem PySem.es_ext (l : Addr) (its : Array Value) (n : Nat) (b : Addr) (jts : Array Value) (n2 : Nat) (dd : Option Addr) (sl : Array (Option Value)) (hs0 : ¬(!its.isEmpty && listTooLong (its.size + jts.size)) = true)
    (hs1 : its.size ≤ sizeLine) (hs2 : its.size + jts.size ≤ sizeLine + 1) :
    Meets (Builtin.«list.extend» ⟨[.ref l, .ref b], []⟩) (fun _ R s => s.heap.get? l = some { cls := .type "list", dict := none, data := .seq its n, slots := #[] } ∧
      s.heap.get? b = some { cls := .type "tuple", dict := dd, data := .seq jts n2, slots := sl } ∧ R (.ok (.ret Value.none)) { s with heap := s.heap.update l (Obj.mapSeq fun x => x ++ jts), toks := s.toks }) :=
  .of_wp fun prog w A R s h => by
    obtain ⟨hp, g, d, tk, os⟩ := s
    obtain ⟨hl, hb, h⟩ := h
    have f1 := F.sub_tuple_tuple
    have f2 := F.sub_list_list
    have f3 := F.sub_tuple_list
    have f4 := F.sub_list_tuple
    have hz' : (its ++ jts).size ≤ sizeLine + 1 := by
      rw [Array.size_append]
      exact hs2
    wp_walk using (wpAny_updateSeq hl rfl (hz := hs1) (_hz' := hz')), wpAny_loadPart' hl, wpAny_loadPart' hb
    exact ⟨_, rfl, h⟩
end
namespace Es
open PySem PySem.Spec PyProof.Rows L2 Evl
/-- expressions -/
inductive Tr where
  | leaf (k n : Str)
  | node (k : Str) (ps : List Tr)
mutual
def Tr.toD : Tr → PyData
  | .leaf k n => .tuple [.str k, .str n]
  | .node k ps => .tuple (.str k :: Tr.toDs ps)
def Tr.toDs : List Tr → List PyData
  | [] => []
  | t :: r => t.toD :: Tr.toDs r
end
mutual
/-- the leaves from left to right -/
def Tr.lv : Tr → List Tr
  | .leaf k n => [.leaf k n]
  | .node _ ps => Tr.lvs ps
def Tr.lvs : List Tr → List Tr
  | [] => []
  | t :: r => t.lv ++ Tr.lvs r
end
mutual
def Tr.dep : Tr → Nat
  | .leaf _ _ => 0
  | .node _ ps => Tr.deps ps + 1
def Tr.deps : List Tr → Nat
  | [] => 0
  | t :: r => max t.dep (Tr.deps r)
end
def leafKinds : List Str := ["token", "block"]
def nodeKinds : List Str := ["repeat", "optional", "sequence", "choice"]
def names : List Str := ["a", "num", "b", "x", "abcdefgh"]
mutual
def Tr.ok : Tr → Prop
  | .leaf k n => k ∈ leafKinds ∧ n ∈ names
  | .node k ps => k ∈ nodeKinds ∧ ps ≠ [] ∧ Tr.oks ps
def Tr.oks : List Tr → Prop
  | [] => True
  | t :: r => t.ok ∧ Tr.oks r
end
mutual
def Tr.big : Tr → Nat
  | .leaf _ _ => 15
  | .node _ ps => 9 + Tr.bigs ps
def Tr.bigs : List Tr → Nat
  | [] => 0
  | t :: r => t.big + 1 + Tr.bigs r
end
mutual
/-- where an expression stands: not at p -/
inductive TrAt (p : Addr) (H : Hp) : V → Tr → Prop
  | leaf {a : Addr} {k n : Str} : a ≠ p → H a = some (.tup [.str k, .str n]) → TrAt p H (.ref a) (.leaf k n)
  | node {a : Addr} {k : Str} {vs : List V} {ps : List Tr} : a ≠ p → H a = some (.tup (.str k :: vs)) → TrAll p H vs ps → TrAt p H (.ref a) (.node k ps)
inductive TrAll (p : Addr) (H : Hp) : List V → List Tr → Prop
  | nil : TrAll p H [] []
  | cons {v : V} {vs : List V} {t : Tr} {ts : List Tr} : TrAt p H v t → TrAll p H vs ts → TrAll p H (v :: vs) (t :: ts)
end
section
variable {p : Addr} {H H' : Hp} {K : PySem.W.Frag}
mutual
theorem TrAt.xp (e : Xp p H H') : ∀ {v : V} {t : Tr}, TrAt p H v t → TrAt p H' v t
  | _, _, .leaf n h => .leaf n (e _ _ n h)
  | _, _, .node n h r => .node n (e _ _ n h) (TrAll.xp e r)
theorem TrAll.xp (e : Xp p H H') : ∀ {vs : List V} {ts : List Tr}, TrAll p H vs ts → TrAll p H' vs ts
  | _, _, .nil => .nil
  | _, _, .cons h r => .cons (TrAt.xp e h) (TrAll.xp e r)
end
theorem TrAt.up {v : V} {t : Tr} (h : TrAt p H v t) (e : Ex H H') : TrAt p H' v t := h.xp (Xp.ex e)
theorem TrAll.up {v : List V} {t : List Tr} (h : TrAll p H v t) (e : Ex H H') : TrAll p H' v t := h.xp (Xp.ex e)
mutual
theorem TrAt.dp : ∀ {v : V} {t : Tr}, TrAt p H v t → Dp K H v t.toD
  | _, _, .leaf _ h => .tup (st_of h) (.cons (.str _) (.cons (.str _) .nil))
  | _, _, .node _ h r => .tup (st_of h) (.cons (.str _) (TrAll.dp r))
theorem TrAll.dp : ∀ {vs : List V} {ts : List Tr}, TrAll p H vs ts → DpAll K H vs (Tr.toDs ts)
  | _, _, .nil => .nil
  | _, _, .cons h r => .cons (TrAt.dp h) (TrAll.dp r)
end
mutual
theorem TrAt.mutL {l : Addr} {xs ys : List V} (hl : H l = some (.lst xs)) : ∀ {v : V} {t : Tr}, TrAt p H v t → TrAt p (upd H l (.lst ys)) v t
  | _, _, .leaf n h => .leaf n (by rw [upd_ne (ne_of h hl (by intro z; cases z))]; exact h)
  | _, _, .node n h r => .node n (by rw [upd_ne (ne_of h hl (by intro z; cases z))]; exact h) (TrAll.mutL hl r)
theorem TrAll.mutL {l : Addr} {xs ys : List V} (hl : H l = some (.lst xs)) : ∀ {vs : List V} {ts : List Tr}, TrAll p H vs ts → TrAll p (upd H l (.lst ys)) vs ts
  | _, _, .nil => .nil
  | _, _, .cons h r => .cons (TrAt.mutL hl h) (TrAll.mutL hl r)
end
theorem TrAll.append : ∀ {vs ws : List V} {ts us : List Tr}, TrAll p H vs ts → TrAll p H ws us → TrAll p H (vs ++ ws) (ts ++ us)
  | _, _, _, _, .nil, h => h
  | _, _, _, _, .cons h r, k => .cons h (TrAll.append r k)
theorem TrAll.length : ∀ {vs : List V} {ts : List Tr}, TrAll p H vs ts → vs.length = ts.length
  | _, _, .nil => rfl
  | _, _, .cons _ r => by rw [List.length_cons, List.length_cons, TrAll.length r]
theorem TrAll.get : ∀ {vs : List V} {ts : List Tr} {i : Nat} {v : V}, TrAll p H vs ts → vs[i]? = some v → ∃ t, ts[i]? = some t ∧ TrAt p H v t
  | _, _, 0, _, .cons h _, e => ⟨_, rfl, by cases e; exact h⟩
  | _, _, i + 1, _, .cons _ r, e => TrAll.get (i := i) r e
end
theorem oks_get : ∀ {ts : List Tr} {i : Nat} {t : Tr}, Tr.oks ts → ts[i]? = some t → t.ok
  | t :: _, 0, _, h, e => by cases e; exact h.1
  | _ :: r, i + 1, _, h, e => oks_get (i := i) h.2 e
theorem deps_get : ∀ {ts : List Tr} {i : Nat} {t : Tr}, ts[i]? = some t → t.dep ≤ Tr.deps ts
  | t :: r, 0, _, e => by cases e; exact Nat.le_max_left _ _
  | t :: r, i + 1, _, e => Nat.le_trans (deps_get (i := i) e) (Nat.le_max_right _ _)
theorem bigs_get : ∀ {ts : List Tr} {i : Nat} {t : Tr}, ts[i]? = some t → t.big + 1 ≤ Tr.bigs ts
  | t :: r, 0, _, e => by
    cases e
    show t.big + 1 ≤ t.big + 1 + Tr.bigs r
    omega
  | t :: r, i + 1, u, e => by
    have := bigs_get (i := i) (t := u) (ts := r) e
    show u.big + 1 ≤ t.big + 1 + Tr.bigs r
    omega
theorem lvs_snoc : ∀ (ts : List Tr) (i : Nat) (t : Tr), ts[i]? = some t → Tr.lvs (ts.take (i + 1)) = Tr.lvs (ts.take i) ++ t.lv
  | x :: r, 0, t, e => by
    cases e
    show x.lv ++ Tr.lvs (r.take 0) = [] ++ x.lv
    rw [List.take_zero]
    show x.lv ++ [] = [] ++ x.lv
    simp
  | x :: r, i + 1, t, e => by
    show x.lv ++ Tr.lvs (r.take (i + 1)) = (x.lv ++ Tr.lvs (r.take i)) ++ t.lv
    rw [lvs_snoc r i t e, List.append_assoc]
/-! what its writing asks -/
theorem kind_small : ∀ k ∈ leafKinds ++ nodeKinds, k.cps.size ≤ 8 ∧ (k.cps.toList.all fun c => decide (c < 16 ^ 8)) = true := by decide +kernel
theorem name_small : ∀ k ∈ names, k.cps.size ≤ 8 ∧ (k.cps.toList.all fun c => decide (c < 16 ^ 8)) = true := by decide +kernel
theorem lk_size : ∀ k ∈ leafKinds, k.cps.size = 5 := by decide +kernel
mutual
theorem ok_show : ∀ t : Tr, t.ok → t.toD.showable = true ∧ t.toD.hasDict = false ∧ t.toD.leavesShort 30 = true ∧ t.toD.bulk ≤ t.big ∧ t.toD.depth ≤ t.dep + 1
  | .leaf k n, h => by
    obtain ⟨h1, h2⟩ := h
    have a := kind_small k (List.mem_append_left _ h1)
    have b := name_small n h2
    have c := lk_size k h1
    refine ⟨rfl, rfl, ?_, ?_, by show max 0 (max 0 0) + 1 ≤ 0 + 1; decide⟩
    · show ((k.cps.toList.all fun c => decide (c < 16 ^ 8)) && ((n.cps.toList.all fun c => decide (c < 16 ^ 8)) && true)) = true
      rw [a.2, b.2]
      rfl
    · show k.cps.size + 1 + (n.cps.size + 1 + 0) ≤ 15
      omega
  | .node k ps, h => by
    obtain ⟨h1, _, h3⟩ := h
    have a := kind_small k (List.mem_append_right _ h1)
    obtain ⟨r1, r2, r3, r4, r5⟩ := oks_show ps h3
    refine ⟨?_, ?_, ?_, ?_, ?_⟩
    · show (true && PyData.showableAll (Tr.toDs ps)) = true
      rw [r1]
      rfl
    · show (false || PyData.hasDictAll (Tr.toDs ps)) = false
      rw [r2]
      rfl
    · show ((k.cps.toList.all fun c => decide (c < 16 ^ 8)) && PyData.leavesShortAll 30 (Tr.toDs ps)) = true
      rw [a.2, r3]
      rfl
    · show k.cps.size + 1 + PyData.bulkAll (Tr.toDs ps) ≤ 9 + Tr.bigs ps
      omega
    · show max 0 (PyData.depthAll (Tr.toDs ps)) + 1 ≤ Tr.deps ps + 1 + 1
      omega
theorem oks_show : ∀ ts : List Tr, Tr.oks ts → PyData.showableAll (Tr.toDs ts) = true ∧ PyData.hasDictAll (Tr.toDs ts) = false ∧ PyData.leavesShortAll 30 (Tr.toDs ts) = true ∧ PyData.bulkAll (Tr.toDs ts) ≤ Tr.bigs ts ∧ PyData.depthAll (Tr.toDs ts) ≤ Tr.deps ts + 1
  | [], _ => ⟨rfl, rfl, rfl, Nat.le_refl _, Nat.zero_le _⟩
  | t :: r, h => by
    obtain ⟨a1, a2, a3, a4, a5⟩ := ok_show t h.1
    obtain ⟨b1, b2, b3, b4, b5⟩ := oks_show r h.2
    refine ⟨?_, ?_, ?_, ?_, ?_⟩
    · show (t.toD.showable && PyData.showableAll (Tr.toDs r)) = true
      rw [a1, b1]
      rfl
    · show (t.toD.hasDict || PyData.hasDictAll (Tr.toDs r)) = false
      rw [a2, b2]
      rfl
    · show (t.toD.leavesShort 30 && PyData.leavesShortAll 30 (Tr.toDs r)) = true
      rw [a3, b3]
      rfl
    · show t.toD.bulk + 1 + PyData.bulkAll (Tr.toDs r) ≤ t.big + 1 + Tr.bigs r
      omega
    · show max t.toD.depth (PyData.depthAll (Tr.toDs r)) ≤ max t.dep (Tr.deps r) + 1
      omega
end
/-- what repr wants of data -/
def Fine (d : PyData) : Prop := d.showable = true ∧ d.hasDict = false ∧ d.depth ≤ 60 ∧ d.shown.length ≤ 100000
theorem fine_of {d : PyData} {n : Nat} (h1 : d.showable = true) (h2 : d.hasDict = false) (h3 : d.leavesShort 30 = true) (h4 : d.bulk ≤ n) (hn : n ≤ 3000) (h5 : d.depth ≤ 60) : Fine d := by
  refine ⟨h1, h2, h5, ?_⟩
  have := PyData.shown_le_bulk 30 (by decide) d h3
  omega
theorem fine_tr {t : Tr} (h : t.ok) (hb : t.big ≤ 3000) (hd : t.dep ≤ 50) : Fine t.toD := by
  obtain ⟨h1, h2, h3, h4, h5⟩ := ok_show t h
  exact fine_of h1 h2 h3 h4 hb (by omega)
theorem fine_trs {ts : List Tr} (h : Tr.oks ts) (hb : Tr.bigs ts ≤ 3000) (hd : Tr.deps ts ≤ 50) : Fine (.tuple (Tr.toDs ts)) := by
  obtain ⟨h1, h2, h3, h4, h5⟩ := oks_show ts h
  refine fine_of (n := Tr.bigs ts) h1 h2 h3 h4 hb ?_
  show PyData.depthAll (Tr.toDs ts) + 1 ≤ 60
  omega
theorem rc_repr {K : PySem.W.Frag} {H : Hp} {a : Addr} {d : PyData} (h : Dp K H (.ref a) d) (f : Fine d) (up : ∀ H1, Ex H H1 → Dp K H1 (.ref a) d) : RC (rReprD K) [.ref a] H (.str d.shown) := fun H1 e _ q =>
  ⟨a, d, rfl, up H1 e, f.1, f.2.1, f.2.2.1, sz_of f.2.2.2, q H1 (Ex.refl _)⟩
mutual
theorem lv_ok : ∀ t : Tr, t.ok → Tr.oks t.lv ∧ Tr.bigs t.lv ≤ t.big + 1 ∧ Tr.deps t.lv = 0
  | .leaf k n, h => ⟨⟨h, trivial⟩, Nat.le_refl _, rfl⟩
  | .node k ps, h => by
    obtain ⟨a, b, c⟩ := lvs_ok ps h.2.2
    exact ⟨a, by show Tr.bigs (Tr.lvs ps) ≤ 9 + Tr.bigs ps + 1; omega, c⟩
theorem lvs_ok : ∀ ts : List Tr, Tr.oks ts → Tr.oks (Tr.lvs ts) ∧ Tr.bigs (Tr.lvs ts) ≤ Tr.bigs ts ∧ Tr.deps (Tr.lvs ts) = 0
  | [], _ => ⟨trivial, Nat.le_refl _, rfl⟩
  | t :: r, h => by
    obtain ⟨a, b, c⟩ := lv_ok t h.1
    obtain ⟨a', b', c'⟩ := lvs_ok r h.2
    refine ⟨oks_app a a', ?_, ?_⟩
    · show Tr.bigs (t.lv ++ Tr.lvs r) ≤ t.big + 1 + Tr.bigs r
      rw [bigs_app]
      omega
    · show Tr.deps (t.lv ++ Tr.lvs r) = 0
      rw [deps_app, c, c']
      rfl
theorem lvs_take : ∀ (ts : List Tr) (i : Nat), Tr.oks ts → Tr.bigs (Tr.lvs (ts.take i)) ≤ Tr.bigs ts
  | [], i, _ => by rw [List.take_nil]; exact Nat.le_refl _
  | t :: r, 0, _ => Nat.zero_le _
  | t :: r, i + 1, h => by
    have a := (lv_ok t h.1).2.1
    have b := lvs_take r i h.2
    show Tr.bigs (t.lv ++ Tr.lvs (r.take i)) ≤ t.big + 1 + Tr.bigs r
    rw [bigs_app]
    omega
theorem oks_app : ∀ {ts us : List Tr}, Tr.oks ts → Tr.oks us → Tr.oks (ts ++ us)
  | [], _, _, h => h
  | t :: r, _, h, k => ⟨h.1, oks_app h.2 k⟩
theorem bigs_app : ∀ (ts us : List Tr), Tr.bigs (ts ++ us) = Tr.bigs ts + Tr.bigs us
  | [], us => by show Tr.bigs us = 0 + Tr.bigs us; omega
  | t :: r, us => by
    show t.big + 1 + Tr.bigs (r ++ us) = t.big + 1 + Tr.bigs r + Tr.bigs us
    rw [bigs_app r us]
    omega
theorem deps_app : ∀ (ts us : List Tr), Tr.deps (ts ++ us) = max (Tr.deps ts) (Tr.deps us)
  | [], us => by show Tr.deps us = max 0 (Tr.deps us); omega
  | t :: r, us => by
    show max t.dep (Tr.deps (r ++ us)) = max (max t.dep (Tr.deps r)) (Tr.deps us)
    rw [deps_app r us]
    omega
end
section
variable {X : Cx}
/-- xs.extend(a tuple) -/
def rExtT (K : PySem.W.Frag) : V → List V → Hp → VK → Prop := fun x vs H Q => ∃ l b xs zs, x = .ref l ∧ vs = [.ref b] ∧ H l = some (.lst xs) ∧ H b = some (.tup zs) ∧ xs.length + zs.length ≤ sizeLine ∧ Q .non (upd H l (.lst (xs ++ zs)))
theorem mt_extT : MtM X "list.extend" (rExtT X.K) := by
  intro pins s σ H x vs v us Q I rx rv h
  obtain ⟨l, b, xs, zs, rfl, rfl, hH, hB, hz, q⟩ := h
  cases rx
  obtain ⟨u, rfl, ru⟩ := rv.one
  cases ru
  obtain ⟨z, its, n, r, hl, e⟩ := I.lstM hH
  obtain ⟨its2, r2, it2, z2⟩ := I.tuple (st_of hB)
  obtain ⟨⟨cls, dd, data, sl⟩, ho, hc, n2, hd⟩ := it2
  cases (show cls = Value.type "tuple" from hc)
  cases (show data = Data.seq its2.toArray n2 from hd)
  have l2 := r2.length
  have hsz : its.toArray.size + its2.toArray.size ≤ sizeLine := by rw [List.size_toArray, List.size_toArray]; omega
  have hlong : ¬ (!its.toArray.isEmpty && Builtin.List.listTooLong (its.toArray.size + its2.toArray.size)) = true := by
    rw [notLongL hsz, Bool.and_false]
    decide
  refine call_meets F.slot_list_extend ⟨_, e, rfl⟩ F.entry_list_extend (F.args_list_extend_2 _ _) (PySem.es_ext l its.toArray n b its2.toArray n2 dd sl hlong (by rw [List.size_toArray]; omega) (by omega)) ⟨e, ho, ?_⟩
  refine ⟨.non, _, I.lset (its' := its ++ its2) hH e (by simp) (r.append r2) ?_, rfl, q⟩
  rw [List.length_append]
  exact hz
end
end Es
namespace Es
open PySem PySem.Spec PyProof.Rows L2 Evl
/-- a list of leaves to draw from -/
def Menu (p : Addr) (H : Hp) (m : Addr) : Prop := m ≠ p ∧ ∃ ms : List V, H m = some (.lst ms) ∧ 1 ≤ ms.length ∧ ms.length ≤ 20 ∧ ∀ v ∈ ms, ∃ t, TrAt p H v t ∧ t.ok ∧ t.dep = 0
theorem Menu.xp {p m : Addr} {H H' : Hp} (h : Menu p H m) (e : Xp p H H') : Menu p H' m := by
  obtain ⟨n, ms, hm, h1, h2, h3⟩ := h
  refine ⟨n, ms, e _ _ n hm, h1, h2, fun v hv => ?_⟩
  obtain ⟨t, a, b, c⟩ := h3 v hv
  exact ⟨t, a.xp e, b, c⟩
theorem dep0_big {t : Tr} (h : t.dep = 0) : t.big = 15 := by
  cases t with
  | leaf k n => rfl
  | node k ps =>
    have : Tr.deps ps + 1 = 0 := h
    omega
def cost : Nat → Int
  | 0 => 1
  | n + 1 => 3 + 3 * cost n
def bg : Nat → Nat
  | 0 => 15
  | n + 1 => 12 + 3 * bg n
theorem cost_pos : ∀ n, 1 ≤ cost n
  | 0 => by decide
  | n + 1 => by
    have := cost_pos n
    show 1 ≤ 3 + 3 * cost n
    omega
theorem bg_ge : ∀ n, 15 ≤ bg n
  | 0 => by decide
  | n + 1 => by
    have := bg_ge n
    show 15 ≤ 12 + 3 * bg n
    omega
def spExpr (d : Nat) : Sp := fun vs H Q _ => ∃ (p m : Addr) (n : Nat) (c : Int), vs = [.ref p, .ref m, .int (n : Int)] ∧ n < d ∧ n ≤ 8 ∧ 0 ≤ c ∧ c + cost n ≤ 90000 ∧ Pot H p c ∧ Menu p H m ∧
  ∀ v t H', Xp p H H' → TrAt p H' v t → t.ok → t.dep ≤ n → t.big ≤ bg n → Pot H' p (c + cost n) → Q v H'
theorem kind2 (r : Int) (h0 : 2 ≤ r) (h1 : r < 4) : ∃ k ∈ nodeKinds, atI [V.str "repeat", V.str "optional"] (r - 2) = some (V.str k) := by
  have : r = 2 ∨ r = 3 := by omega
  rcases this with h | h <;> subst h
  · exact ⟨"repeat", by decide, rfl⟩
  · exact ⟨"optional", by decide, rfl⟩
theorem kind3 (r : Int) (h0 : 4 ≤ r) (h1 : r < 7) : ∃ k ∈ nodeKinds, atI [V.str "sequence", V.str "choice", V.str "sequence"] (r - 4) = some (V.str k) := by
  have : r = 4 ∨ r = 5 ∨ r = 6 := by omega
  rcases this with h | h | h <;> subst h
  · exact ⟨"sequence", by decide, rfl⟩
  · exact ⟨"choice", by decide, rfl⟩
  · exact ⟨"sequence", by decide, rfl⟩
/-- parts made so far: each of depth at most n -/
def Parts (p : Addr) (H : Hp) (n : Nat) (vs : List V) (ts : List Tr) : Prop := TrAll p H vs ts ∧ Tr.oks ts ∧ Tr.deps ts ≤ n ∧ Tr.bigs ts ≤ ts.length * (bg n + 1)
end Es
namespace PySem.SeqAt
open PySem Builtin
/-- dict.__eq__ of a text, str.__eq__ of a dict -/
theorem es_dict_str (l : Addr) (es : Array DictEntry) (n : Nat) (dd : Option Addr) (sl : Array (Option Value)) (b : Str) (u : Tok) :
    Meets (Builtin.«dict.__eq__» ⟨[.ref l, .str b u], []⟩) (fun _ R s => s.heap.get? l = some { cls := .type "dict", dict := dd, data := .dict es n, slots := sl } ∧ R (.ok (.ret .notImplemented)) s) :=
  .of_wp fun prog w A R s h => by
    obtain ⟨hp, g, d, tk, os⟩ := s
    obtain ⟨hl, h⟩ := h
    have f1 := F.sub_str_dict
    wp_walk using wpAny_loadPart' hl, wpAny_load hl
    exact ⟨_, rfl, h⟩
theorem es_str_dict (l : Addr) (es : Array DictEntry) (n : Nat) (dd : Option Addr) (sl : Array (Option Value)) (b : Str) (u : Tok) :
    Meets (Builtin.«str.__eq__» ⟨[.str b u, .ref l], []⟩) (fun _ R s => s.heap.get? l = some { cls := .type "dict", dict := dd, data := .dict es n, slots := sl } ∧ R (.ok (.ret .notImplemented)) s) :=
  .of_wp fun prog w A R s h => by
    obtain ⟨hp, g, d, tk, os⟩ := s
    obtain ⟨hl, h⟩ := h
    have f1 := F.sub_dict_str
    wp_walk using wpAny_loadPart' hl, wpAny_load hl
    exact ⟨_, rfl, h⟩
section
variable {A : Around} {s : Shared}
def IsDic (h : Heap) (l : Addr) : Prop := ∃ dd es n sl, h.get? l = some { cls := .type "dict", dict := dd, data := .dict es n, slots := sl }
theorem es_rc_dict_str {l : Addr} (b : Str) (u : Tok) (hl : IsDic s.heap l) (hu : A.units < cLine) : RcAt A s (.ref l) (.str b u) false := fun prog w E Q h => by
  obtain ⟨dd, es, n, sl, ho⟩ := hl
  exact rc_eq_decline_or (k := false) ⟨_, ho, rfl⟩ (typeIs_str s b u) (by decide) F.sub_str_dict F.slot_dict_eq F.slot_str_eq_refl
    (fun _ hq => call_meets F.slot_dict_eq ⟨_, ho, rfl⟩ F.entry_dict_eq (F.args_dict_eq_2 _ _) (es_dict_str l es n dd sl b u) ⟨ho, hq⟩)
    (fun _ hq => call_meets F.slot_str_eq_refl (typeIs_str s b u) F.entry_str_eq (F.args_str_eq_2 _ _) (es_str_dict l es n dd sl b u) ⟨ho, hq⟩)
    (fun _ hq => wpAny_of_eq (rfl : isSame (.ref l) (.str b u) = pure false) hq) (.inr hu) h
theorem es_rc_str_dict {l : Addr} (b : Str) (u : Tok) (hl : IsDic s.heap l) (hu : A.units < cLine) : RcAt A s (.str b u) (.ref l) false := fun prog w E Q h => by
  obtain ⟨dd, es, n, sl, ho⟩ := hl
  exact rc_eq_decline_or (k := false) (typeIs_str s b u) ⟨_, ho, rfl⟩ (by decide) F.sub_dict_str F.slot_str_eq F.slot_dict_eq_refl
    (fun _ hq => call_meets F.slot_str_eq (typeIs_str s b u) F.entry_str_eq (F.args_str_eq_2 _ _) (es_str_dict l es n dd sl b u) ⟨ho, hq⟩)
    (fun _ hq => call_meets F.slot_dict_eq_refl ⟨_, ho, rfl⟩ F.entry_dict_eq (F.args_dict_eq_2 _ _) (es_dict_str l es n dd sl b u) ⟨ho, hq⟩)
    (fun _ hq => wpAny_of_eq (rfl : isSame (.str b u) (.ref l) = pure false) hq) (.inr hu) h
theorem es_eq_dict_str {l : Addr} (b : Str) (u : Tok) (hl : IsDic s.heap l) (hu : A.units < cLine) : EqAt A s (.ref l) (.str b u) false := fun prog w E Q h => by
  unfold eqBool
  refine wpAny_holding (wpAny_ite_split (fun hab => absurd (eq_of_beq hab) nofun) (fun _ => ?_))
  exact wpAny_bind (es_rc_dict_str b u hl hu prog w E _ (wpAny_truthy_bool h))
theorem es_eq_str_dict {l : Addr} (b : Str) (u : Tok) (hl : IsDic s.heap l) (hu : A.units < cLine) : EqAt A s (.str b u) (.ref l) false := fun prog w E Q h => by
  unfold eqBool
  refine wpAny_holding (wpAny_ite_split (fun hab => absurd (eq_of_beq hab) nofun) (fun _ => ?_))
  exact wpAny_bind (es_rc_str_dict b u hl hu prog w E _ (wpAny_truthy_bool h))
end
end PySem.SeqAt
namespace Es
open PySem PySem.Spec PyProof.Rows L2 Evl
/-- where data does not stand: at a pot, nor at some lists -/
structure Sx where
  p : Addr
  m : Addr → Prop
def out : Option Sx → Addr → Prop
  | none, _ => False
  | some S, a => a = S.p ∨ S.m a
mutual
/-- data that stands in the heap, not at p; dicts of at most one pair, its key a text -/
inductive Dd (p : Option Sx) (H : Hp) : V → PyData → Prop
  | non : Dd p H .non .none
  | bl (b : Bool) : Dd p H (.bl b) (.bool b)
  | int (i : Int) : Dd p H (.int i) (.int i)
  | str (x : Str) : Dd p H (.str x) (.str x)
  | lst {a : Addr} {xs : List V} {ds : List PyData} : ¬ out p a → a ≠ sysModules → H a = some (.lst xs) → DdAll p H xs ds → Dd p H (.ref a) (.list ds)
  | tup {a : Addr} {xs : List V} {ds : List PyData} : ¬ out p a → H a = some (.tup xs) → DdAll p H xs ds → Dd p H (.ref a) (.tuple ds)
  | dk0 {a : Addr} : ¬ out p a → H a = some (.dK []) → Dd p H (.ref a) (.dict [])
  | dk1 {a : Addr} {k : Str} {v : V} {d : PyData} : ¬ out p a → H a = some (.dK [(Sum.inr k, v)]) → Dd p H v d → Dd p H (.ref a) (.dict [(.str k, d)])
inductive DdAll (p : Option Sx) (H : Hp) : List V → List PyData → Prop
  | nil : DdAll p H [] []
  | cons {v : V} {vs : List V} {d : PyData} {ds : List PyData} : Dd p H v d → DdAll p H vs ds → DdAll p H (v :: vs) (d :: ds)
end
theorem sn0 {a : Addr} : ¬ out none a := fun h => h
theorem no_p {S : Sx} {a : Addr} (h : ¬ out (some S) a) : a ≠ S.p := fun e => h (.inl e)
section
variable {p : Option Sx} {H H' : Hp}
mutual
theorem Dd.xp {q : Sx} (e : Xp q.p H H') : ∀ {v : V} {d : PyData}, Dd (some q) H v d → Dd (some q) H' v d
  | _, _, .non => .non
  | _, _, .bl b => .bl b
  | _, _, .int i => .int i
  | _, _, .str x => .str x
  | _, _, .lst n m h r => .lst n m (e _ _ (no_p n) h) (DdAll.xp e r)
  | _, _, .tup n h r => .tup n (e _ _ (no_p n) h) (DdAll.xp e r)
  | _, _, .dk0 n h => .dk0 n (e _ _ (no_p n) h)
  | _, _, .dk1 n h r => .dk1 n (e _ _ (no_p n) h) (Dd.xp e r)
theorem DdAll.xp {q : Sx} (e : Xp q.p H H') : ∀ {vs : List V} {ds : List PyData}, DdAll (some q) H vs ds → DdAll (some q) H' vs ds
  | _, _, .nil => .nil
  | _, _, .cons h r => .cons (Dd.xp e h) (DdAll.xp e r)
end
mutual
theorem Dd.ups (e : Ex H H') : ∀ {v : V} {d : PyData}, Dd p H v d → Dd p H' v d
  | _, _, .non => .non
  | _, _, .bl b => .bl b
  | _, _, .int i => .int i
  | _, _, .str x => .str x
  | _, _, .lst n m h r => .lst n m (e _ _ h) (DdAll.ups e r)
  | _, _, .tup n h r => .tup n (e _ _ h) (DdAll.ups e r)
  | _, _, .dk0 n h => .dk0 n (e _ _ h)
  | _, _, .dk1 n h r => .dk1 n (e _ _ h) (Dd.ups e r)
theorem DdAll.ups (e : Ex H H') : ∀ {vs : List V} {ds : List PyData}, DdAll p H vs ds → DdAll p H' vs ds
  | _, _, .nil => .nil
  | _, _, .cons h r => .cons (Dd.ups e h) (DdAll.ups e r)
end
theorem Dd.up {v : V} {d : PyData} (h : Dd p H v d) (e : Ex H H') : Dd p H' v d := h.ups e
theorem DdAll.up {v : List V} {d : List PyData} (h : DdAll p H v d) (e : Ex H H') : DdAll p H' v d := h.ups e
theorem DdAll.length : ∀ {vs : List V} {ds : List PyData}, DdAll p H vs ds → vs.length = ds.length
  | _, _, .nil => rfl
  | _, _, .cons _ r => by rw [List.length_cons, List.length_cons, DdAll.length r]
theorem DdAll.append : ∀ {vs ws : List V} {ds es : List PyData}, DdAll p H vs ds → DdAll p H ws es → DdAll p H (vs ++ ws) (ds ++ es)
  | _, _, _, _, .nil, h => h
  | _, _, _, _, .cons h r, k => .cons h (DdAll.append r k)
theorem DdAll.drop : ∀ {vs : List V} {ds : List PyData} (i : Nat), DdAll p H vs ds → DdAll p H (vs.drop i) (ds.drop i)
  | _, _, 0, h => h
  | _, _, _ + 1, .nil => .nil
  | _, _, i + 1, .cons _ r => DdAll.drop i r
theorem DdAll.take : ∀ {vs : List V} {ds : List PyData} (i : Nat), DdAll p H vs ds → DdAll p H (vs.take i) (ds.take i)
  | _, _, 0, h => .nil
  | _, _, _ + 1, .nil => .nil
  | _, _, i + 1, .cons h r => .cons h (DdAll.take i r)
theorem DdAll.get : ∀ {vs : List V} {ds : List PyData} {i : Nat} {v : V}, DdAll p H vs ds → vs[i]? = some v → ∃ d, ds[i]? = some d ∧ Dd p H v d
  | _, _, 0, _, .cons h _, e => ⟨_, rfl, by cases e; exact h⟩
  | _, _, i + 1, _, .cons _ r, e => DdAll.get (i := i) r e
theorem Dd.thing {v : V} {d : PyData} (h : Dd p H v d) (hs : ∀ x, d = .str x → x.length ≤ 1000) : Thing H v := by
  cases h with
  | non => exact .non
  | bl b => exact .bl b
  | int i => exact .int i
  | str x => exact .str x (hs x rfl)
  | lst n m h r => exact .lst h
  | tup n h r => exact .tup h
  | dk0 n h => exact .dK h
  | dk1 n h r => exact .dK h
end
section
variable {X : Cx} {pins : List (Addr × Obj)} {σ : L2.St} {H : Hp} {s : Shared} {p : Option Sx}
theorem dic_of (I : Inv X pins σ H s) {a : Addr} {kvs : List (Key × V)} (h : H a = some (.dK kvs)) : SeqAt.IsDic s.heap a ∧ a ≠ sysModules := by
  obtain ⟨_, hs, vs, rv, hd⟩ := (show ObjOk X.prog X.w H s.heap a (.dK kvs) from I.hok a _ h)
  obtain ⟨⟨cls, dd, data, sl⟩, es, ep, ho, ⟨h1, h2, h3⟩, h4, _⟩ := hd
  cases (show cls = _ from h1)
  cases (show data = _ from h4)
  exact ⟨⟨dd, es, ep, sl, ho⟩, beq_eq_false_iff_ne.mp hs⟩
end
end Es
namespace Es
open PySem PySem.Spec PyProof.Rows L2 Evl
section
variable {X : Cx} {pins : List (Addr × Obj)} {σ : L2.St} {H : Hp} {s : Shared} {p : Option Sx}
mutual
theorem Dd.reads (I : Inv X pins σ H s) : ∀ {v : V} {d : PyData} {u : Value}, Dd p H v d → RelV v u → ∃ as, Reads s.heap u d as ∧ sysModules ∉ as
  | _, _, _, .non, r => by
    cases r
    exact ⟨_, Reads.none, List.not_mem_nil⟩
  | _, _, _, .bl b, r => by
    cases r
    exact ⟨_, Reads.bool b, List.not_mem_nil⟩
  | _, _, _, .int i, r => by
    obtain ⟨t, rfl⟩ := r
    exact ⟨_, Reads.int i t, List.not_mem_nil⟩
  | _, _, _, .str x, r => by
    obtain ⟨t, rfl⟩ := r
    exact ⟨_, Reads.str x t, List.not_mem_nil⟩
  | _, _, _, .lst n m h q, r => by
    cases r
    obtain ⟨its, rv, ⟨o, k, ho, hc, _, hd⟩, _⟩ := I.list (sq_of h)
    obtain ⟨as, hr, hn⟩ := DdAll.reads I q rv
    refine ⟨_, Reads.list ho hc hd hr, fun z => ?_⟩
    rcases List.mem_cons.mp z with e | e
    · exact m e.symm
    · exact hn e
  | _, _, _, .tup n h q, r => by
    cases r
    obtain ⟨its, rv, ⟨o, ho, hc, k, hd⟩, _⟩ := I.tuple (st_of h)
    obtain ⟨as, hr, hn⟩ := DdAll.reads I q rv
    exact ⟨_, Reads.tuple ho hc hd hr, hn⟩
  | _, _, _, @Dd.dk0 _ _ a n h, r => by
    cases r
    have hm := (dic_of I h).2
    obtain ⟨_, _, vs, rv, hd⟩ := (show ObjOk X.prog X.w H s.heap a (.dK []) from I.hok a _ h)
    obtain ⟨o, es, ep, ho, hx, hdt, hk, hp, _⟩ := hd
    cases rv
    have he : es.toList = [] := by
      generalize es.toList = l at hp
      cases hp
      rfl
    refine ⟨_, Reads.dict (kvs := []) ho hx.1 hdt (as := []) (bs := []) (by rw [he]; exact .nil) (by rw [he]; exact .nil), fun z => ?_⟩
    rcases List.mem_cons.mp z with e | e
    · exact hm e.symm
    · cases e
  | _, _, _, @Dd.dk1 _ _ a k v d n h q, r => by
    cases r
    have hm := (dic_of I h).2
    obtain ⟨_, _, vs, rv, hd⟩ := (show ObjOk X.prog X.w H s.heap a (.dK [(Sum.inr k, v)]) from I.hok a _ h)
    obtain ⟨o, es, ep, ho, hx, hdt, hk, hp, _⟩ := hd
    obtain ⟨w, rfl, rw⟩ : ∃ w, vs = [(Sum.inr k, w)] ∧ RelV v w := by
      unfold KV at rv
      match vs, rv with
      | [(y1, y2)], .cons q1 .nil =>
        have e1 : Sum.inr k = y1 := q1.1
        subst e1
        exact ⟨y2, rfl, q1.2⟩
    obtain ⟨as, ar, an⟩ := Dd.reads I q rw
    obtain ⟨e, t, he, hkey, hval⟩ : ∃ (e : DictEntry) (t : Tok), es.toList = [e] ∧ e.key = .str k t ∧ e.val = w := by
      generalize es.toList = l at hp
      cases hp with
      | cons z1 z2 z3 =>
        cases z3
        rename_i e
        rcases keyIs_shape (k := Sum.inr k) (v := e.key) z1 with ⟨i, t, e1, _⟩ | ⟨x, t, e1, e2⟩
        · cases e1
        · cases e1
          exact ⟨e, t, rfl, e2, z2⟩
    refine ⟨_, Reads.dict (kvs := [(.str k, d)]) ho hx.1 hdt (as := [] ++ []) (bs := as ++ []) (by rw [he, List.map_singleton, hkey]; exact .cons (.str k t) .nil) (by rw [he, List.map_singleton, hval]; exact .cons ar .nil), fun z => ?_⟩
    rcases List.mem_cons.mp z with y | y
    · exact hm y.symm
    · rw [List.append_nil] at y
      exact an (by simpa using y)
theorem DdAll.reads (I : Inv X pins σ H s) : ∀ {vs : List V} {ds : List PyData} {us : List Value}, DdAll p H vs ds → Vals vs us → ∃ as, ReadsAll s.heap us ds as ∧ sysModules ∉ as
  | _, _, _, .nil, r => by
    cases r
    exact ⟨_, ReadsAll.nil, List.not_mem_nil⟩
  | _, _, _, .cons h q, r => by
    cases r with
    | cons r1 r2 =>
      obtain ⟨as, a1, a2⟩ := Dd.reads I h r1
      obtain ⟨bs, b1, b2⟩ := DdAll.reads I q r2
      exact ⟨_, ReadsAll.cons a1 b1, fun z => (List.mem_append.mp z).elim a2 b2⟩
end
end
/-- what repr asks of data, dicts among it -/
def Fit (n : Nat) (d : PyData) : Prop := d.showable = true ∧ d.leavesShort 30 = true ∧ d.bulk ≤ 8 * n ∧ d.depth ≤ n
theorem Fit.more {n m : Nat} {d : PyData} (h : Fit n d) (e : n ≤ m) : Fit m d := ⟨h.1, h.2.1, (by have := h.2.2.1; omega), Nat.le_trans h.2.2.2 e⟩
theorem Fit.len {n : Nat} {d : PyData} (h : Fit n d) : d.shown.length ≤ 256 * n + 30 := by
  have := PyData.shown_le_bulk 30 (by decide) d h.2.1
  have := h.2.2.1
  omega
def Fits (n : Nat) (ds : List PyData) : Prop := PyData.showableAll ds = true ∧ PyData.leavesShortAll 30 ds = true ∧ PyData.bulkAll ds ≤ 8 * n ∧ PyData.depthAll ds ≤ n
theorem Fits.nil : Fits 0 [] := ⟨rfl, rfl, Nat.le_refl _, Nat.le_refl _⟩
theorem Fits.cons {n m : Nat} {d : PyData} {ds : List PyData} (h : Fit n d) (k : Fits m ds) : Fits (n + 1 + m) (d :: ds) := by
  obtain ⟨a1, a2, a3, a4⟩ := h
  obtain ⟨b1, b2, b3, b4⟩ := k
  refine ⟨?_, ?_, ?_, ?_⟩
  · show (d.showable && PyData.showableAll ds) = true
    rw [a1, b1]
    rfl
  · show (d.leavesShort 30 && PyData.leavesShortAll 30 ds) = true
    rw [a2, b2]
    rfl
  · show d.bulk + 1 + PyData.bulkAll ds ≤ 8 * (n + 1 + m)
    omega
  · show max d.depth (PyData.depthAll ds) ≤ n + 1 + m
    omega
theorem Fits.more {n m : Nat} {d : List PyData} (h : Fits n d) (e : n ≤ m) : Fits m d := ⟨h.1, h.2.1, (by have := h.2.2.1; omega), Nat.le_trans h.2.2.2 e⟩
theorem Fits.tup {n : Nat} {ds : List PyData} (h : Fits n ds) : Fit (n + 1) (.tuple ds) := by
  obtain ⟨a1, a2, a3, a4⟩ := h
  refine ⟨a1, a2, ?_, ?_⟩
  · show PyData.bulkAll ds ≤ 8 * (n + 1)
    omega
  · show PyData.depthAll ds + 1 ≤ n + 1
    omega
theorem Fits.lst {n : Nat} {ds : List PyData} (h : Fits n ds) : Fit (n + 1) (.list ds) := by
  obtain ⟨a1, a2, a3, a4⟩ := h
  refine ⟨a1, a2, ?_, ?_⟩
  · show PyData.bulkAll ds ≤ 8 * (n + 1)
    omega
  · show PyData.depthAll ds + 1 ≤ n + 1
    omega
theorem fit_non : Fit 0 .none := ⟨rfl, rfl, Nat.le_refl _, Nat.le_refl _⟩
theorem fit_bl (b : Bool) : Fit 0 (.bool b) := ⟨rfl, rfl, Nat.le_refl _, Nat.le_refl _⟩
theorem fit_str {x : Str} {n : Nat} (h : (x.cps.toList.all fun c => decide (c < 16 ^ 8)) = true) (hn : x.length ≤ 8 * n) : Fit n (.str x) := ⟨rfl, h, hn, Nat.zero_le _⟩
theorem fit_int {i : Int} (h : i.natAbs.log2 < 1920) (hl : (PyData.shown (.int i)).length ≤ 30) : Fit 0 (.int i) := ⟨decide_eq_true h, decide_eq_true hl, Nat.le_refl _, Nat.le_refl _⟩
theorem fit_dk0 : Fit 1 (.dict []) := ⟨rfl, rfl, Nat.zero_le _, Nat.le_refl _⟩
theorem fit_dk1 {k : Str} {d : PyData} {n : Nat} (hk : (k.cps.toList.all fun c => decide (c < 16 ^ 8)) = true) (hkl : k.length ≤ 10) (h : Fit n d) : Fit (n + 13) (.dict [(.str k, d)]) := by
  obtain ⟨a1, a2, a3, a4⟩ := h
  refine ⟨?_, ?_, ?_, ?_⟩
  · show (true && d.showable && true) = true
    rw [a1]
    rfl
  · show ((k.cps.toList.all fun c => decide (c < 16 ^ 8)) && d.leavesShort 30 && true) = true
    rw [hk, a2]
    rfl
  · show k.cps.size + d.bulk + 2 + 0 ≤ 8 * (n + 13)
    have : k.cps.size ≤ 10 := hkl
    omega
  · show max (max 0 d.depth) 0 + 1 ≤ n + 13
    omega
section
variable {X : Cx}
def rReprX : List V → Hp → VK → Prop := fun xs H Q => ∃ (v : V) (d : PyData) (p : Option Sx), xs = [v] ∧ Dd p H v d ∧ Fit 190 d ∧ Q (.str d.shown) H
theorem cr_reprX (hg : X.A.guards = some []) (hu : X.A.units + 200 < cLine) : CallR X (.builtin "repr") rReprX := by
  intro pins s σ H xs us Q I r h
  obtain ⟨v, d, p, rfl, hd, hf, q⟩ := h
  obtain ⟨u, rfl, ru⟩ := vals1 r
  obtain ⟨as, rd, hn⟩ := hd.reads I ru
  have hz : d.shown.length ≤ sizeLine := sz_of (Nat.le_trans hf.len (by decide))
  have big : ∀ a, v = .ref a → wpAny (model X.prog X.w) X.A (call (.builtin "repr") [u]) (EP X pins σ Q) X.xe s := by
    rintro a rfl
    obtain rfl : u = Value.ref a := ru
    refine repr_of_reads' rd hf.1 (fun _ => hn) hg (by have := hf.2.2.2; omega) (fun _ _ e => e) (fun h' u tk hk => ?_) hz
    exact ⟨.str d.shown, H, I.kept (t' := tk) hk, ⟨_, rfl⟩, q⟩
  cases hd with
  | non =>
    cases ru
    exact PySem.P.repr_of_none ⟨.str _, H, I.tok _, ⟨_, rfl⟩, q⟩
  | bl b =>
    obtain rfl : u = Value.bool b := ru
    exact PySem.P.repr_of_bool ⟨.str _, H, I.tok _, ⟨_, rfl⟩, q⟩
  | int i =>
    obtain ⟨t, rfl⟩ := ru
    exact PySem.P.repr_of_int (of_decide_eq_true hf.1) ⟨.str _, H, I.tok _, ⟨_, rfl⟩, q⟩
  | str x =>
    obtain ⟨t, rfl⟩ := ru
    exact PySem.P.repr_of_str ⟨.str _, H, I.tok _, ⟨_, rfl⟩, q⟩ hz
  | lst n m h r => exact big _ rfl
  | tup n h r => exact big _ rfl
  | dk0 n h => exact big _ rfl
  | dk1 n h r => exact big _ rfl
/-- is the datum this text? -/
def isT (z : Str) : PyData → Bool
  | .str y => y == z
  | _ => false
theorem eqAt_dS {pins : List (Addr × Obj)} {σ : L2.St} {H : Hp} {s : Shared} {p : Option Sx} {v : V} {d : PyData} {u : Value} {z : Str} {t : Tok} {A : Around} (I : Inv X pins σ H s) (h : Dd p H v d) (r : RelV v u) (hu : A.units < cLine) :
    SeqAt.EqAt A s u (.str z t) (isT z d) := by
  cases h with
  | non =>
    cases r
    exact SeqAt.EqAt.none_str _ _
  | bl b =>
    obtain rfl : u = Value.bool b := r
    exact SeqAt.EqAt.bool_str _ _ _
  | int i =>
    obtain ⟨t', rfl⟩ := r
    exact SeqAt.EqAt.int_str _ _ _ _
  | str x =>
    obtain ⟨t', rfl⟩ := r
    exact SeqAt.EqAt.str_str _ _ _ _
  | lst n m h q =>
    cases r
    obtain ⟨its, rv, pl, _⟩ := I.list (sq_of h)
    exact SeqAt.EqAt.list_str _ _ pl.isList hu
  | tup n h q =>
    cases r
    obtain ⟨its, rv, ⟨o, ho, hc, k, hd⟩, _⟩ := I.tuple (st_of h)
    exact SeqAt.EqAt.tuple_str _ _ ⟨o, ho, hc, k, hd⟩ hu
  | dk0 n h =>
    cases r
    exact SeqAt.es_eq_dict_str _ _ (dic_of I h).1 hu
  | dk1 n h q =>
    cases r
    exact SeqAt.es_eq_dict_str _ _ (dic_of I h).1 hu
theorem eqAt_Sd {pins : List (Addr × Obj)} {σ : L2.St} {H : Hp} {s : Shared} {p : Option Sx} {v : V} {d : PyData} {u : Value} {z : Str} {t : Tok} {A : Around} (I : Inv X pins σ H s) (h : Dd p H v d) (r : RelV v u) (hu : A.units < cLine) :
    SeqAt.EqAt A s (.str z t) u (isT z d) := by
  cases h with
  | non =>
    cases r
    exact SeqAt.EqAt.str_none _ _
  | bl b =>
    obtain rfl : u = Value.bool b := r
    exact SeqAt.EqAt.str_bool _ _ _
  | int i =>
    obtain ⟨t', rfl⟩ := r
    exact SeqAt.EqAt.str_int _ _ _ _
  | str x =>
    obtain ⟨t', rfl⟩ := r
    have e : isT z (.str x) = (z == x) := by
      show (x == z) = (z == x)
      by_cases h : x = z
      · rw [h]
      · rw [beq_eq_false_iff_ne.mpr h, beq_eq_false_iff_ne.mpr (Ne.symm h)]
    rw [e]
    exact SeqAt.EqAt.str_str _ _ _ _
  | lst n m h q =>
    cases r
    obtain ⟨its, rv, pl, _⟩ := I.list (sq_of h)
    exact SeqAt.EqAt.str_list _ _ pl.isList hu
  | tup n h q =>
    cases r
    obtain ⟨its, rv, ⟨o, ho, hc, k, hd⟩, _⟩ := I.tuple (st_of h)
    exact SeqAt.EqAt.str_tuple _ _ ⟨o, ho, hc, k, hd⟩ hu
  | dk0 n h =>
    cases r
    exact SeqAt.es_eq_str_dict _ _ (dic_of I h).1 hu
  | dk1 n h q =>
    cases r
    exact SeqAt.es_eq_str_dict _ _ (dic_of I h).1 hu
end
end Es
namespace PySem
/-- enumerate of one thing -/
theorem es_enum_new {v : Value} {o : Obj} {H : Heap → Prop} (B : Begins v o H) :
    Meets (Builtin.«enumerate.__new__» ⟨[.type "enumerate", v], []⟩) (fun _ R s => H s.heap ∧
      R (.ok (.ret (.ref (s.heap.push o).objs.size))) { s with heap := (s.heap.push o).push { cls := .type "enumerate", data := .fields #[.none, .bool false, .ref s.heap.objs.size, rawInt 0, .none, .none] } }) :=
  .of_wp fun prog w A R s h => by
    obtain ⟨hp, g, d, tk, os⟩ := s
    obtain ⟨h1, h⟩ := h
    have hs := sub_enumerate
    have b1 : ∀ {A' : Around} {E : Value → Shared → Prop} {Q : Value → Shared → Prop}, Q (.ref hp.objs.size) ⟨hp.push o, g, d, tk, os⟩ → wpAny (model prog w) A' (pyIter v) Q E ⟨hp, g, d, tk, os⟩ :=
      fun q => B.iter prog w _ _ ⟨hp, g, d, tk, os⟩ _ h1 q
    wp_walk using b1
    refine wpAny_stack_any fun st => wpAny_pure ?_
    split
    · rename_i c _ _ _ _ _
      cases (c == Value.type "enumerate") <;> (wp_walk using b1; exact ⟨_, rfl, h⟩)
    · wp_walk using b1
      exact ⟨_, rfl, h⟩
theorem es_enum_tup {prog : Program} {w : World} {A : Around} {E : Value → Shared → Prop} {s : Shared} {l : Addr} {its : Array Value} {Q : Value → Shared → Prop} (hL : s.heap.IsTuple l its)
    (h : ∀ h', IsEnum h' (s.heap.objs.size + 1) s.heap.objs.size 0 .none → h'.IsTupleIter s.heap.objs.size l 0 → h'.objs.size = s.heap.objs.size + 2 →
      (∀ b o, s.heap.get? b = some o → h'.get? b = some o) → Q (.ref (s.heap.objs.size + 1)) { s with heap := h' }) :
    wpAny (model prog w) A (call (.type "enumerate") [.ref l]) Q E s := by
  have B := begins_tuple l its
  refine callType_new F.called_enumerate (by decide) (F.typeCall_enumerate_1 _) (F.newCall_enumerate_1 _) (fun obj => F.args_object_init_2 obj _) F.entry_enumerate_new (es_enum_new B) ⟨hL, ?_⟩
  have hz : (s.heap.push { cls := .type "tuple_iterator", data := .fields #[.ref l, .int 0 0] }).objs.size = s.heap.objs.size + 1 := Heap.size_push ..
  show _ ∧ _
  rw [hz]
  have he : IsEnum ((s.heap.push { cls := .type "tuple_iterator", data := .fields #[.ref l, .int 0 0] }).push { cls := .type "enumerate", data := .fields #[.none, .bool false, .ref s.heap.objs.size, rawInt 0, .none, .none] }) (s.heap.objs.size + 1) s.heap.objs.size 0 .none := by
    have := Heap.get?_push_size (s.heap.push { cls := .type "tuple_iterator", data := .fields #[.ref l, .int 0 0] }) (o := { cls := .type "enumerate", data := .fields #[.none, .bool false, .ref s.heap.objs.size, rawInt 0, .none, .none] }) rfl
    rw [hz] at this
    exact this
  refine ⟨⟨_, he, rfl⟩, h _ he ⟨_, Heap.get?_push_of_some _ (Heap.get?_push_size _ rfl), rfl, rfl⟩ (by rw [Heap.size_push, hz]) ?_⟩
  intro b o x
  exact Heap.get?_push_of_some _ (Heap.get?_push_of_some _ x)
end PySem
namespace Es
open PySem PySem.Spec PyProof.Rows L2 Evl
/-- the tuple at a, each item with its number in a new pair -/
def Iet (K : PySem.W.Frag) (a : Addr) : It :=
  ⟨fun i H => ∃ (xs : List V) (x : V), SqT K H a xs ∧ xs[i]? = some x, fun i H v H' => ∃ T x, v = .ref T ∧ H T = none ∧ H' = upd H T (.tup [.int (i : Nat), x]) ∧ ∀ xs, SqT K H a xs → xs[i]? = some x,
    fun i H => ∃ xs : List V, SqT K H a xs ∧ xs.length = i⟩
theorem turn_et {P : Program} {w : World} {K : PySem.W.Frag} {elts : List Expr} {kk : Nat} {tpos : Pos} (a e it : Addr) :
    Turn P w K (.Tuple elts kk tpos) (Iet K a) [e, it] e (fun i h => (∃ old, IsEnum h e it ((i : Nat) : Int) old) ∧ h.IsTupleIter it a i ∧ e ≠ it ∧ a ≠ it ∧ e ≠ a) where
  mem := by simp
  obj := fun i h st b hb => by
    obtain ⟨⟨old, he⟩, ⟨o, ho, hc, hd⟩, _⟩ := st
    rcases List.mem_cons.mp hb with z | z
    · subst z
      exact ⟨_, he, fun v q => nomatch q⟩
    · cases List.mem_singleton.mp z
      exact ⟨o, ho, fun v q => by rw [hd] at q; cases q⟩
  keep := fun i h h' st k => by
    obtain ⟨⟨old, he⟩, hi, r⟩ := st
    exact ⟨⟨old, k e (by simp) _ he⟩, hi.at fun o q => k it (by simp) o q, r⟩
  item := by
    intro X hP hw hK hc i pins s σ H E I hf st hg
    subst hP hw hK
    obtain ⟨⟨old, he⟩, hit, hne, hai, hea⟩ := st
    obtain ⟨xs, x, hq, hx⟩ := hg
    obtain ⟨its, rv, it0, hz⟩ := I.tuple hq
    obtain ⟨u, hu, ru⟩ := rv.get hx
    have hel : e < s.heap.objs.size := Heap.lt_size he
    have hil : it < s.heap.objs.size := by
      obtain ⟨_, q, _⟩ := hit
      exact Heap.lt_size q
    have hlt : i < its.toArray.size := by
      rw [List.size_toArray]
      exact (List.getElem?_eq_some_iff.mp hu).1
    have D := Draws.tuple (prog := X.prog) (w := X.w) (A := X.A.in1) (I.ok.hd hc) it a hai its.toArray
    refine wpAny_pyNext_enum_itemD D he ⟨hit, it0⟩ hlt hne (by simp [hne, hea]) ?_
    intro y h' tk hy ho hst hT hsz hk
    have hyu : y = u := by
      have h1 : its.toArray[i]? = some y := hy
      have h2 : its.toArray[i]? = some u := by simpa using hu
      exact Option.some.inj (h1.symm.trans h2)
    subst hyu
    refine ⟨_, rfl, wpAny_letOwnedTupleGo_enum (s := { s with heap := h', toks := tk + 1 }) ho ?_⟩
    intro h'' he' sb
    have hT2 : h''.get? s.heap.objs.size = some { cls := .type "tuple", data := .seq #[.int i tk, y] } := (sb.2 _ (Nat.ne_of_gt hel)).trans hT
    have new : ObjOk X.prog X.w (upd H s.heap.objs.size (.tup [.int (i : Nat), x])) h'' s.heap.objs.size (.tup [.int (i : Nat), x]) :=
      ⟨by show 2 ≤ sizeLine; decide, [.int i tk, y], .cons ⟨_, rfl⟩ (.cons ru .nil), ⟨_, hT2, rfl, _, rfl⟩⟩
    have I1 : Inv X pins σ (upd H s.heap.objs.size (.tup [.int (i : Nat), x])) { s with heap := h'', toks := tk + 1 } :=
      I.turnedNew (ch := [e, it]) (fun b ob hb q => (sb.2 b (fun z => hb (by simp [z]))).trans (hk b ob (fun z => hb (by simp [z])) (fun z => hb (by simp [z])) q)) hf (Nat.le_refl _) new
    refine ⟨.ref s.heap.objs.size, _, I1, rfl, ⟨_, x, rfl, I.hok.fresh (Nat.le_refl _), rfl, fun ys hy => by rw [I.tuple_inj hy hq]; exact hx⟩, ⟨⟨y, ?_⟩, hst.1.at fun o q => (sb.2 it (Ne.symm hne)).trans q, hne, hai, hea⟩, fun b hb => ?_⟩
    · rw [show ((i + 1 : Nat) : Int) = (i : Int) + 1 by omega]
      exact he'
    · have hb' : b < s.heap.objs.size := by
        rcases List.mem_cons.mp hb with z | z
        · subst z
          exact hel
        · cases List.mem_singleton.mp z
          exact hil
      rw [upd_ne (Nat.ne_of_lt hb')]
      exact (hf b hb).1
  done := by
    intro X hP hw hK hc i pins s σ H E I hf st hg
    subst hP hw hK
    obtain ⟨⟨old, he⟩, hit, hne, hai, hea⟩ := st
    obtain ⟨xs, hq, hx⟩ := hg
    obtain ⟨its, rv, it0, hz⟩ := I.tuple hq
    obtain ⟨f0, f1, f2, f3, f4, f5⟩ := hf it (by simp)
    have D := Draws.tuple (prog := X.prog) (w := X.w) (A := X.A.in1) (I.ok.hd hc) it a hai its.toArray
    have hl := rv.length
    have hn : its.toArray.size = i := by
      rw [List.size_toArray]
      omega
    refine wpAny_pyNext_enum_endD D he (by rw [hn]; exact ⟨hit, it0⟩) ?_
    intro h' eb
    exact ⟨rfl, I.turned (t' := s.toks) (fun b o hb q => eb b o hb q) f0 f1 f3 f4 f5⟩
  self := fun A i s Q E st h => wpAny_pyIter_enum st.1.choose_spec h
def iEt (K : PySem.W.Frag) (ta : TA) : TI := fun σ H R => ta σ H fun vs H1 => ∃ a xs, vs = [.ref a] ∧ SqT K H1 a xs ∧ R (Iet K a) H1
theorem pi_et {X : Cx} {e : Expr} {ta : TA} {p pos tpos : Pos} {elts : List Expr} {kk : Nat} (hg : Gl X "enumerate") (hm : X.mg "enumerate" = none) (ha : PA X [e] ta) (hs : starEach [e] X.env = [(false, eval e X.env)] := by rfl) :
    PI X (.Tuple elts kk tpos) (.Call (.Name "enumerate" p) [e] [] pos) (iEt X.K ta) := by
  refine ⟨?_⟩
  intro pins s σ H R I h
  refine Call_ (ld_blt I hg hm boot_enumerate (PyProof.Rows.callWith_type1 (thn (ha.run pos pins s σ H _ I h) ?_) hs rfl))
  rintro us s1 ⟨vs, H1, I1, r1, a, xs, rfl, hq, q⟩
  cases r1 with
  | cons r rr =>
    cases rr
    cases r
    obtain ⟨its, rv, it0, hz⟩ := I1.tuple hq
    have hlt : a < s1.heap.objs.size := it0.lt
    refine es_enum_tup it0 ?_
    intro h' he hit hsz hk
    refine wpAny_pyIter_enum he ?_
    have I2 : Inv X pins σ H1 { s1 with heap := h' } := I1.kept (t' := s1.toks) hk
    refine ⟨s1.heap.objs.size + 1, [s1.heap.objs.size + 1, s1.heap.objs.size], _, _, H1, rfl, I2, turn_et a (s1.heap.objs.size + 1) s1.heap.objs.size, ⟨⟨.none, he⟩, hit, Nat.succ_ne_self _, Nat.ne_of_lt hlt, Nat.ne_of_gt (Nat.lt_succ_of_lt hlt)⟩, fun b hb => ?_, q⟩
    have hle : s1.heap.objs.size ≤ b := by
      rcases List.mem_cons.mp hb with z | z
      · subst z
        exact Nat.le_succ _
      · cases List.mem_singleton.mp z
        exact Nat.le_refl _
    exact I1.fpOk hle (I1.hok.fresh hle)
theorem walk_et {K : PySem.W.Frag} {a : Addr} {xs : List V} : Walk (Iet K a) xs.length (fun H => SqT K H a xs) (YPair (fun i => some (.int (i : Nat))) (fun i => xs[i]?)) := by
  refine ⟨fun i _ hi q => ⟨xs, xs[i], q, by simp [hi]⟩, fun _ q => ⟨xs, q, rfl⟩, fun i H v H' _ q y => ?_⟩
  obtain ⟨T, x, h1, h2, h3, h4⟩ := y
  exact ⟨T, .int (i : Nat), x, h1, h2, h3, rfl, h4 xs q⟩
end Es
namespace Es
open PySem PySem.Spec PyProof.Rows L2 Evl
section
variable {X : Cx} {es : List Expr} {t : TA} {pos : Pos}
/-- a written list: its place is none of the interpreter's own -/
def tLst1 (t : TA) : TE := fun σ H Q => t σ H fun xs H1 => xs.length ≤ sizeLine ∧ ∀ p, p ≠ sysModules → H1 p = none → Q (.ref p) (upd H1 p (.lst xs))
theorem pe_lst1 (h : PA X es t) : PE X (.List es pos) (tLst1 t) := by
  refine ⟨?_⟩
  intro pins s σ H Q I hq
  refine wpAny_List_spliced (thn (h.run pos pins s σ H _ I hq) ?_)
  rintro us s1 ⟨xs, H1, I1, r, z, q⟩
  have nf : H1 s1.heap.objs.size = none := I1.hok.fresh (Nat.le_refl _)
  refine ⟨by rw [← r.length]; exact z, .ref s1.heap.objs.size, upd H1 s1.heap.objs.size (.lst xs), I1.laid (t' := s1.toks) (fun b u e => Heap.get?_push_of_some _ e) (Nat.le_refl _) ?_, rfl, q _ (Nat.ne_of_gt I1.big) nf⟩
  exact ⟨z, us, 0, r, Heap.get?_push_size _ rfl⟩
/-- list(a tuple), likewise -/
def rListT1 (K : PySem.W.Frag) : List V → Hp → VK → Prop := fun xs H Q => ∃ p ys, xs = [.ref p] ∧ SqT K H p ys ∧ ∀ l, l ≠ sysModules → H l = none → Q (.ref l) (upd H l (.lst ys))
theorem cr_listT1 : CallR X (.type "list") (rListT1 X.K) := by
  intro pins s σ H xs us Q I r h
  obtain ⟨p, ys, rfl, hq, q⟩ := h
  obtain ⟨u, rfl, rx⟩ := vals1 r
  cases rx
  obtain ⟨its, r', ⟨o, ho, hc, n, hd⟩, hz⟩ := I.tuple hq
  have hl := r'.length
  refine call_list_seq p (.inr rfl) ho hc hd ?_ (by rw [List.size_toArray]; omega)
  intro h' c' kp e
  refine ⟨.ref s.heap.objs.size, _, I.laid (t' := s.toks) kp (Nat.le_refl _) (show ObjOk X.prog X.w _ h' _ (.lst ys) from ⟨hz, its, c', r', e⟩), rfl, q _ (Nat.ne_of_gt I.big) (I.hok.fresh (Nat.le_refl _))⟩
/-- == of a tuple of at most one item with a tuple of one text -/
def rEqT1 (K : PySem.W.Frag) : R2 := fun x y H Q => ∃ a b xs z, x = .ref a ∧ y = .ref b ∧ SqT K H a xs ∧ SqT K H b [.str z] ∧
  ((xs = [] ∧ Q (.bl false) H) ∨ ∃ v d p, xs = [v] ∧ Dd p H v d ∧ Q (.bl (isT z d)) H)
theorem all0 (z : Value) : ((List.range (min (#[] : Array Value).size #[z].size)).all (fun _ => true) && (#[] : Array Value).size == #[z].size) = false := rfl
theorem all1 (y z : Value) (b : Bool) : ((List.range (min #[y].size #[z].size)).all (fun _ => b) && #[y].size == #[z].size) = b := by
  show ((b && true) && true) = b
  cases b <;> rfl
theorem rc_t0 {A : Around} {s : Shared} {a b : Addr} {z : Value} (hu : A.units < cLine) (t1 : s.heap.IsTuple a #[]) (t2 : s.heap.IsTuple b #[z]) : SeqAt.RcAt A s (.ref a) (.ref b) false := by
  have R := SeqAt.RcAt.tuples (e := fun _ => true) t1 t2 hu (fun j h1 _ => absurd h1 (Nat.not_lt_zero _))
  rw [all0] at R
  exact R
theorem rc_t1 {A : Around} {s : Shared} {a b : Addr} {y z : Value} {k : Bool} (hu : A.units < cLine) (t1 : s.heap.IsTuple a #[y]) (t2 : s.heap.IsTuple b #[z]) (he : SeqAt.EqAt A.in1 s y z k) : SeqAt.RcAt A s (.ref a) (.ref b) k := by
  have R := SeqAt.RcAt.tuples (e := fun _ => k) t1 t2 hu (fun j h1 h2 => by
    have hj : j = 0 := by
      have : j < 1 := h1
      omega
    subst hj
    exact he)
  rw [all1] at R
  exact R
theorem vals_nil {us : List Value} (r : Vals [] us) : us = [] := by
  cases r
  rfl
theorem vals_one {v : V} {us : List Value} (r : Vals [v] us) : ∃ u, us = [u] ∧ RelV v u := by
  obtain ⟨u, e, q⟩ := vals1 r
  exact ⟨u, e, q⟩
theorem op_eqT1 (hu : X.A.units + 64 < cLine) : OpR X (compareOp .Eq) (rEqT1 X.K) := by
  intro pins s σ H x y v u Q I rx ry h
  obtain ⟨a, b, xs, z, rfl, rfl, ha, hb, h⟩ := h
  cases rx
  cases ry
  obtain ⟨its, r1, t1, _⟩ := I.tuple ha
  obtain ⟨jts, r2, t2, _⟩ := I.tuple hb
  obtain ⟨w, rfl, hw⟩ := vals_one r2
  obtain ⟨tk, rfl⟩ := hw
  have hu1 : X.A.units < cLine := by omega
  rcases h with ⟨rfl, q⟩ | ⟨v, d, p, rfl, hd, q⟩
  · cases vals_nil r1
    exact rc_t0 hu1 t1 t2 X.prog X.w X.xe _ ⟨.bl false, H, I, rfl, q⟩
  · obtain ⟨w, rfl, hw⟩ := vals_one r1
    exact rc_t1 hu1 t1 t2 (eqAt_dS I hd hw (by show X.A.units + 1 < cLine; omega)) X.prog X.w X.xe _ ⟨.bl (isT z d), H, I, rfl, q⟩
end
section
variable {K : PySem.W.Frag} {p : Option Sx} {H H' : Hp} {v : V} {d : PyData}
def tyD : PyData → String
  | .none => "NoneType"
  | .bool _ => "bool"
  | .int _ => "int"
  | .str _ => "str"
  | .list _ => "list"
  | .tuple _ => "tuple"
  | .dict _ => "dict"
theorem Dd.ty (h : Dd p H v d) : TyX K H v (.type (tyD d)) := by
  cases h with
  | non => exact .base .non
  | bl b => exact .base (.bl b)
  | int i => exact .base (.int i)
  | str x => exact .base (.str x)
  | lst n m h r => exact .base (.lst h)
  | tup n h r => exact .base (.tup h)
  | dk0 n h => exact .base (.dK h)
  | dk1 n h r => exact .base (.dK h)
def isStr : PyData → Bool
  | .str _ => true
  | _ => false
def isTup : PyData → Bool
  | .tuple _ => true
  | _ => false
theorem kit_str (d : PyData) : kitB (tyD d) "str" = some (isStr d) := by
  cases d with
  | none => show kitB "NoneType" "str" = some false; decide +kernel
  | bool b => show kitB "bool" "str" = some false; decide +kernel
  | int i => show kitB "int" "str" = some false; decide +kernel
  | str x => show kitB "str" "str" = some true; decide +kernel
  | list xs => show kitB "list" "str" = some false; decide +kernel
  | tuple xs => show kitB "tuple" "str" = some false; decide +kernel
  | dict kvs => show kitB "dict" "str" = some false; decide +kernel
theorem kit_tup (d : PyData) : kitB (tyD d) "tuple" = some (isTup d) := by
  cases d with
  | none => show kitB "NoneType" "tuple" = some false; decide +kernel
  | bool b => show kitB "bool" "tuple" = some false; decide +kernel
  | int i => show kitB "int" "tuple" = some false; decide +kernel
  | str x => show kitB "str" "tuple" = some false; decide +kernel
  | list xs => show kitB "list" "tuple" = some false; decide +kernel
  | tuple xs => show kitB "tuple" "tuple" = some true; decide +kernel
  | dict kvs => show kitB "dict" "tuple" = some false; decide +kernel
theorem Dd.isiS (h : Dd p H v d) : RC (rIsi K) [v, .ty "str"] H (.bl (isStr d)) := fun H1 e _ q => ⟨v, _, _, _, _, rfl, .ty _, (h.up e).ty, kit_ty (kit_str d), q H1 (Ex.refl _)⟩
theorem Dd.isiT (h : Dd p H v d) : RC (rIsi K) [v, .ty "tuple"] H (.bl (isTup d)) := fun H1 e _ q => ⟨v, _, _, _, _, rfl, .ty _, (h.up e).ty, kit_ty (kit_tup d), q H1 (Ex.refl _)⟩
end
end Es
namespace Es
open PySem PySem.Spec PyProof.Rows L2 Evl
/-! making data while a pot at p is drawn from: k draws at the most -/
/-- the pot, and that the lists are there -/
def PotS (S : Sx) (H : Hp) (c : Int) : Prop := Pot H S.p c ∧ ∀ a, S.m a → ∃ xs, H a = some (.lst xs)
theorem PotS.sn {S : Sx} {H : Hp} {c : Int} (h : PotS S H c) {a : Addr} (n : H a = none) : ¬ out (some S) a := by
  rintro (z | z)
  · exact h.1.ne n z
  · obtain ⟨xs, e⟩ := h.2 a z
    rw [n] at e
    cases e
theorem PotS.ne {S : Sx} {H : Hp} {c : Int} (h : PotS S H c) {a : Addr} (n : H a = none) : a ≠ S.p := h.1.ne n
theorem PotS.more {S : Sx} {H : Hp} {c d : Int} (h : PotS S H c) (e : c ≤ d) : PotS S H d := ⟨h.1.more e, h.2⟩
theorem PotS.up {S : Sx} {H H' : Hp} {c : Int} (h : PotS S H c) (e : Ex H H') : PotS S H' c := ⟨h.1.up e, fun a z => by
  obtain ⟨xs, y⟩ := h.2 a z
  exact ⟨xs, e _ _ y⟩⟩
theorem PotS.step {S : Sx} {H H' : Hp} {c d : Int} (h : PotS S H c) (e : Xp S.p H H') (k : Pot H' S.p d) : PotS S H' d := ⟨k, fun a z => by
  obtain ⟨xs, y⟩ := h.2 a z
  by_cases ha : a = S.p
  · subst ha
    obtain ⟨g, s0, c0, hp, _⟩ := k
    exact ⟨_, hp⟩
  · exact ⟨xs, e _ _ ha y⟩⟩
section
variable (S : Sx)
def EvP (k : Int) (te : TE) (σ : L2.St) (H : Hp) (D : PyData → Prop) : Prop := ∀ H1 c, Xp S.p H H1 → PotS S H1 c → 0 ≤ c → c + k ≤ 90000 → ∀ Q : VK, (∀ v d H2, Xp S.p H1 H2 → PotS S H2 (c + k) → Dd (some S) H2 v d → D d → Q v H2) → te σ H1 Q
def EvPA (k : Int) (ta : TA) (σ : L2.St) (H : Hp) (D : List PyData → Prop) : Prop := ∀ H1 c, Xp S.p H H1 → PotS S H1 c → 0 ≤ c → c + k ≤ 90000 → ∀ Q : List V → Hp → Prop, (∀ vs ds H2, Xp S.p H1 H2 → PotS S H2 (c + k) → DdAll (some S) H2 vs ds → D ds → Q vs H2) → ta σ H1 Q
/-- a list of data, to be read -/
def EvPL (k : Int) (te : TE) (σ : L2.St) (H : Hp) (D : List PyData → Prop) : Prop := ∀ H1 c, Xp S.p H H1 → PotS S H1 c → 0 ≤ c → c + k ≤ 90000 → ∀ Q : VK, (∀ l vs ds H2, Xp S.p H1 H2 → PotS S H2 (c + k) → l ≠ S.p → H2 l = some (.lst vs) → DdAll (some S) H2 vs ds → D ds → Q (.ref l) H2) → te σ H1 Q
end
/-- a tuple of small items -/
def Tu (n : Nat) (d : PyData) : Prop := ∃ ds, d = .tuple ds ∧ Fits n ds
theorem Tu.fit {n : Nat} {d : PyData} (h : Tu n d) : Fit (n + 1) d := by
  obtain ⟨ds, rfl, h⟩ := h
  exact h.tup
def AllFit (n : Nat) (ds : List PyData) : Prop := ∀ d ∈ ds, Fit n d
theorem AllFit.nil {n : Nat} : AllFit n [] := fun _ h => nomatch h
theorem AllFit.cons {n : Nat} {d : PyData} {ds : List PyData} (h : Fit n d) (k : AllFit n ds) : AllFit n (d :: ds) := fun x hx => by
  rcases List.mem_cons.mp hx with e | e
  · rw [e]
    exact h
  · exact k x e
theorem AllFit.app {n : Nat} {ds es : List PyData} (h : AllFit n ds) (k : AllFit n es) : AllFit n (ds ++ es) := fun x hx => by
  rcases List.mem_append.mp hx with e | e
  · exact h x e
  · exact k x e
theorem Fits.app : ∀ {n m : Nat} {ds es : List PyData}, Fits n ds → Fits m es → Fits (n + m) (ds ++ es) := by
  intro n m ds es h k
  obtain ⟨b1, b2, b3, b4⟩ := k
  have : ∀ ds : List PyData, PyData.showableAll (ds ++ es) = (PyData.showableAll ds && PyData.showableAll es) ∧ PyData.leavesShortAll 30 (ds ++ es) = (PyData.leavesShortAll 30 ds && PyData.leavesShortAll 30 es) ∧
      PyData.bulkAll (ds ++ es) = PyData.bulkAll ds + PyData.bulkAll es ∧ PyData.depthAll (ds ++ es) = max (PyData.depthAll ds) (PyData.depthAll es) := by
    intro ds
    induction ds with
    | nil =>
      refine ⟨rfl, rfl, ?_, ?_⟩
      · show PyData.bulkAll es = 0 + PyData.bulkAll es
        omega
      · show PyData.depthAll es = max 0 (PyData.depthAll es)
        omega
    | cons x r ih =>
      obtain ⟨i1, i2, i3, i4⟩ := ih
      refine ⟨?_, ?_, ?_, ?_⟩
      · show (x.showable && PyData.showableAll (r ++ es)) = (x.showable && PyData.showableAll r && PyData.showableAll es)
        rw [i1, Bool.and_assoc]
      · show (x.leavesShort 30 && PyData.leavesShortAll 30 (r ++ es)) = (x.leavesShort 30 && PyData.leavesShortAll 30 r && PyData.leavesShortAll 30 es)
        rw [i2, Bool.and_assoc]
      · show x.bulk + 1 + PyData.bulkAll (r ++ es) = x.bulk + 1 + PyData.bulkAll r + PyData.bulkAll es
        omega
      · show max x.depth (PyData.depthAll (r ++ es)) = max (max x.depth (PyData.depthAll r)) (PyData.depthAll es)
        omega
  obtain ⟨i1, i2, i3, i4⟩ := this ds
  obtain ⟨a1, a2, a3, a4⟩ := h
  exact ⟨by rw [i1, a1, b1]; rfl, by rw [i2, a2, b2]; rfl, by omega, by omega⟩
theorem Fits.sub {n : Nat} {ds : List PyData} (h : Fits n ds) : (∀ i, Fits n (ds.drop i)) ∧ ∀ i, Fits n (ds.take i) := by
  induction ds generalizing n with
  | nil => exact ⟨fun i => by rw [List.drop_nil]; exact h, fun i => by rw [List.take_nil]; exact h⟩
  | cons x r ih =>
    obtain ⟨a1, a2, a3, a4⟩ := h
    have a1' : (x.showable && PyData.showableAll r) = true := a1
    have a2' : (x.leavesShort 30 && PyData.leavesShortAll 30 r) = true := a2
    rw [Bool.and_eq_true] at a1' a2'
    have a3' : x.bulk + 1 + PyData.bulkAll r ≤ 8 * n := a3
    have a4' : max x.depth (PyData.depthAll r) ≤ n := a4
    have k : Fits n r := ⟨a1'.2, a2'.2, by omega, by omega⟩
    refine ⟨fun i => ?_, fun i => ?_⟩
    · cases i with
      | zero => exact ⟨a1, a2, a3, a4⟩
      | succ i => exact (ih k).1 i
    · cases i with
      | zero => exact ⟨rfl, rfl, Nat.zero_le _, Nat.zero_le _⟩
      | succ i =>
        obtain ⟨c1, c2, c3, c4⟩ := (ih (n := PyData.bulkAll r + PyData.depthAll r) ⟨a1'.2, a2'.2, by omega, by omega⟩).2 i
        have c3' : PyData.bulkAll (r.take i) ≤ PyData.bulkAll r ∧ PyData.depthAll (r.take i) ≤ PyData.depthAll r := by
          clear ih k a1 a2 a3 a4 a1' a2' a3' a4' c1 c2 c3 c4
          induction r generalizing i with
          | nil =>
            rw [List.take_nil]
            exact ⟨Nat.le_refl _, Nat.le_refl _⟩
          | cons y s ih2 =>
            cases i with
            | zero => exact ⟨Nat.zero_le _, Nat.zero_le _⟩
            | succ i =>
              have := ih2 i
              refine ⟨?_, ?_⟩
              · show y.bulk + 1 + PyData.bulkAll (s.take i) ≤ y.bulk + 1 + PyData.bulkAll s
                omega
              · show max y.depth (PyData.depthAll (s.take i)) ≤ max y.depth (PyData.depthAll s)
                omega
        refine ⟨?_, ?_, ?_, ?_⟩
        · show (x.showable && PyData.showableAll (r.take i)) = true
          rw [a1'.1, c1]
          rfl
        · show (x.leavesShort 30 && PyData.leavesShortAll 30 (r.take i)) = true
          rw [a2'.1, c2]
          rfl
        · show x.bulk + 1 + PyData.bulkAll (r.take i) ≤ 8 * n
          omega
        · show max x.depth (PyData.depthAll (r.take i)) ≤ n
          omega
section
variable {S : Sx} {K : PySem.W.Frag} {σ : L2.St} {H : Hp} {te tf : TE} {ta : TA} {k j : Int} {D E : PyData → Prop} {L M : List PyData → Prop}
theorem evp_imp (h : EvP S k te σ H D) (hi : ∀ d, D d → E d) : EvP S k te σ H E := fun H1 c x P c0 c1 Q q => h H1 c x P c0 c1 Q fun v d H2 x2 P2 hd hD => q v d H2 x2 P2 hd (hi d hD)
theorem evp_xp {H' : Hp} (h : EvP S k te σ H D) (e : Xp S.p H H') : EvP S k te σ H' D := fun H1 c x P c0 c1 Q q => h H1 c (e.trans x) P c0 c1 Q q
theorem evp_var {i : Nat} {v : V} {d : PyData} (h : σ[i]? = some (some v)) (hd : Dd (some S) H v d) (hD : D d) : EvP S 0 (tVar i) σ H D := fun H1 c x P c0 c1 Q q => ⟨v, h, q v d H1 (Xp.refl _ _) (P.more (by omega)) (hd.xp x) hD⟩
theorem evp_str {z : Str} (hD : D (.str z)) : EvP S 0 (tC (.str z)) σ H D := fun H1 c x P c0 c1 Q q => q _ _ H1 (Xp.refl _ _) (P.more (by omega)) (.str z) hD
theorem evp_int {z : Int} (hD : D (.int z)) : EvP S 0 (tC (.int z)) σ H D := fun H1 c x P c0 c1 Q q => q _ _ H1 (Xp.refl _ _) (P.more (by omega)) (.int z) hD
theorem evp_bl {z : Bool} (hD : D (.bool z)) : EvP S 0 (tC (.bl z)) σ H D := fun H1 c x P c0 c1 Q q => q _ _ H1 (Xp.refl _ _) (P.more (by omega)) (.bl z) hD
theorem evp_non (hD : D .none) : EvP S 0 (tC .non) σ H D := fun H1 c x P c0 c1 Q q => q _ _ H1 (Xp.refl _ _) (P.more (by omega)) .non hD
theorem evpa_nil (h : L []) : EvPA S 0 tNil σ H L := fun H1 c x P c0 c1 Q q => q [] [] H1 (Xp.refl _ _) (P.more (by omega)) .nil h
theorem evpa_cons (h : EvP S k te σ H D) (r : EvPA S j ta σ H L) (hk : 0 ≤ k) (hj : 0 ≤ j) (hL : ∀ d ds, D d → L ds → M (d :: ds)) : EvPA S (k + j) (tCons te ta) σ H M := by
  intro H1 c x P c0 c1 Q q
  refine h H1 c x P c0 (by omega) _ fun v d H2 x2 P2 hd hD => ?_
  exact r H2 (c + k) (x.trans x2) P2 (by omega) (by omega) _ fun vs ds H3 x3 P3 hds hL' => q _ _ H3 (x2.trans x3) (P3.more (by omega)) (.cons (hd.xp x3) hds) (hL d ds hD hL')
theorem evpa_c0 (h : EvP S 0 te σ H D) (r : EvPA S j ta σ H L) (hj : 0 ≤ j) (hL : ∀ d ds, D d → L ds → M (d :: ds)) : EvPA S j (tCons te ta) σ H M := by
  have := evpa_cons h r (by decide) hj hL
  rw [Int.zero_add] at this
  exact this
/-- items of a tuple, their sizes added up -/
theorem evpa_t {n m : Nat} (h : EvP S 0 te σ H (Fit n)) (r : EvPA S j ta σ H (Fits m)) (hj : 0 ≤ j) : EvPA S j (tCons te ta) σ H (Fits (n + 1 + m)) := evpa_c0 h r hj fun _ _ a b => Fits.cons a b
theorem evpa_tk {n m : Nat} (h : EvP S k te σ H (Fit n)) (r : EvPA S j ta σ H (Fits m)) (hk : 0 ≤ k) (hj : 0 ≤ j) : EvPA S (k + j) (tCons te ta) σ H (Fits (n + 1 + m)) := evpa_cons h r hk hj fun _ _ a b => Fits.cons a b
theorem evpa_l {n : Nat} (h : EvP S 0 te σ H (Fit n)) (r : EvPA S j ta σ H (AllFit n)) (hj : 0 ≤ j) : EvPA S j (tCons te ta) σ H (AllFit n) := evpa_c0 h r hj fun _ _ a b => AllFit.cons a b
theorem evpa_lk {n : Nat} (h : EvP S k te σ H (Fit n)) (r : EvPA S j ta σ H (AllFit n)) (hk : 0 ≤ k) (hj : 0 ≤ j) : EvPA S (k + j) (tCons te ta) σ H (AllFit n) := evpa_cons h r hk hj fun _ _ a b => AllFit.cons a b
theorem Fits.length {n : Nat} {ds : List PyData} (h : Fits n ds) : ds.length ≤ 8 * n := by
  have h3 := h.2.2.1
  clear h
  generalize 8 * n = m at h3
  clear n
  induction ds generalizing m with
  | nil => exact Nat.zero_le _
  | cons y r ih =>
    have h3' : y.bulk + 1 + PyData.bulkAll r ≤ m := h3
    have := ih (m - 1) (by omega)
    show r.length + 1 ≤ m
    omega
theorem evp_tup {n : Nat} (h : EvPA S k ta σ H (Fits n)) (hn : n ≤ 10000) : EvP S k (tTup ta) σ H (Tu n) := by
  intro H1 c x P c0 c1 Q q
  refine h H1 c x P c0 c1 _ fun vs ds H2 x2 P2 hds hL => ⟨?_, fun a na => ?_⟩
  · have l1 := hds.length
    have := hL.length
    exact sz_of (by omega)
  · have e := Ex.new (o := .tup vs) na
    exact q _ _ _ (x2.trans (Xp.ex e)) (P2.up e) (.tup (P2.sn na) upd_same (hds.up e)) ⟨ds, rfl, hL⟩
theorem evp_tup' {n m : Nat} (h : EvPA S k ta σ H (Fits n)) (hn : n + 1 ≤ m) (hm : m ≤ 10000) : EvP S k (tTup ta) σ H (Fit m) := evp_imp (evp_tup h (by omega)) fun d hd => hd.fit.more hn
theorem evp_cat {n m : Nat} (h : EvP S k te σ H (Tu n)) (r : EvP S j tf σ H (Tu m)) (hk : 0 ≤ k) (hj : 0 ≤ j) (hn : n + m ≤ 10000) : EvP S (k + j) (tOp (rCatA K) te tf) σ H (Tu (n + m)) := by
  intro H1 c x P c0 c1 Q q
  refine h H1 c x P c0 (by omega) _ fun v d H2 x2 P2 hd hD => ?_
  refine r H2 (c + k) (x.trans x2) P2 (by omega) (by omega) _ fun u e H3 x3 P3 he hE => ?_
  obtain ⟨ds, rfl, f1⟩ := hD
  obtain ⟨es, rfl, f2⟩ := hE
  have hd3 := hd.xp x3
  have l1 := f1.length
  have l2 := f2.length
  cases hd3 with
  | @tup a xs _ na ha hxs =>
    cases he with
    | @tup b ys _ nb hb hys =>
      have m1 := hxs.length
      have m2 := hys.length
      refine ⟨a, b, xs, ys, rfl, rfl, st_of ha, st_of hb, sz_of (by omega), fun z => ?_, fun _ z => ?_, fun _ _ t nt => ?_⟩
      · subst z
        cases hxs
        exact q _ _ H3 (x2.trans x3) (P3.more (by omega)) (.tup nb hb hys) ⟨es, rfl, f2.more (by omega)⟩
      · subst z
        cases hys
        exact q _ _ H3 (x2.trans x3) (P3.more (by omega)) (.tup na ha hxs) ⟨ds, rfl, f1.more (by omega)⟩
      · have e := Ex.new (o := .tup (xs ++ ys)) nt
        exact q _ _ _ ((x2.trans x3).trans (Xp.ex e)) ((P3.up e).more (by omega)) (.tup (P3.sn nt) upd_same ((hxs.append hys).up e)) ⟨_, rfl, f1.app f2⟩
theorem evp_cat0 {n m : Nat} (h : EvP S 0 te σ H (Tu n)) (r : EvP S 0 tf σ H (Tu m)) (hn : n + m ≤ 10000) : EvP S 0 (tOp (rCatA K) te tf) σ H (Tu (n + m)) := evp_cat h r (by decide) (by decide) hn
/-- t[:i], t[i:] of a tuple at a name -/
theorem evp_cutL {i : Nat} {a : Addr} {xs : List V} {ds : List PyData} {n : Nat} {tl : TO} {u : Int} (h : σ[i]? = some (some (.ref a))) (hd : Dd (some S) H (.ref a) (.tuple ds)) (f : Fits n ds) (hu : 0 ≤ u)
    (ho : ∀ H1 (Q : Option Int → Hp → Prop), Q (some u) H1 → tl σ H1 Q) : EvP S 0 (tSl (rSlA K) (tVar i) tNoPart tl) σ H (Tu n) := by
  intro H1 c x P c0 c1 Q q
  have hd1 := hd.xp x
  cases hd1 with
  | @tup _ xs _ na ha hxs =>
    refine ⟨.ref a, h, ho H1 _ ⟨a, xs, rfl, st_of ha, fun _ => ?_, fun _ t nt => ?_⟩⟩
    · exact q _ _ H1 (Xp.refl _ _) (P.more (by omega)) (.tup na ha hxs) ⟨ds, rfl, f⟩
    · have e := Ex.new (o := .tup (cutV xs none (some u))) nt
      have hc : DdAll (some S) H1 (cutV xs none (some u)) (ds.take (min u.toNat ds.length)) := by
        have m1 := hxs.length
        unfold cutV
        rw [HT.sIx_none, List.drop_zero, Nat.sub_zero, show (some u) = some ((u.toNat : Nat) : Int) by rw [Int.toNat_of_nonneg hu], HT.sIx_nat, m1]
        exact hxs.take _
      exact q _ _ _ (Xp.ex e) ((P.up e).more (by omega)) (.tup (P.sn nt) upd_same (hc.up e)) ⟨_, rfl, f.sub.2 _⟩
theorem evp_cutR {i : Nat} {a : Addr} {xs : List V} {ds : List PyData} {n : Nat} {tl : TO} {u : Int} (h : σ[i]? = some (some (.ref a))) (hd : Dd (some S) H (.ref a) (.tuple ds)) (f : Fits n ds) (hu : 0 ≤ u)
    (ho : ∀ H1 (Q : Option Int → Hp → Prop), Q (some u) H1 → tl σ H1 Q) : EvP S 0 (tSl (rSlA K) (tVar i) tl tNoPart) σ H (Tu n) := by
  intro H1 c x P c0 c1 Q q
  have hd1 := hd.xp x
  cases hd1 with
  | @tup _ xs _ na ha hxs =>
    refine ⟨.ref a, h, ho H1 _ ⟨a, xs, rfl, st_of ha, fun _ => ?_, fun _ t nt => ?_⟩⟩
    · exact q _ _ H1 (Xp.refl _ _) (P.more (by omega)) (.tup na ha hxs) ⟨ds, rfl, f⟩
    · have e := Ex.new (o := .tup (cutV xs (some u) none)) nt
      have hc : DdAll (some S) H1 (cutV xs (some u) none) (ds.drop (min u.toNat ds.length)) := by
        have m1 := hxs.length
        unfold cutV
        rw [HT.sIx_none, show (some u) = some ((u.toNat : Nat) : Int) by rw [Int.toNat_of_nonneg hu], HT.sIx_nat, List.take_of_length_le (by rw [List.length_drop]; omega), m1]
        exact hxs.drop _
      exact q _ _ _ (Xp.ex e) ((P.up e).more (by omega)) (.tup (P.sn nt) upd_same (hc.up e)) ⟨_, rfl, f.sub.1 _⟩
/-- lists of data -/
theorem evl_lst {N : Nat} (h : EvPA S k ta σ H (fun ds => L ds ∧ ds.length = N)) (hN : N ≤ 10000) : EvPL S k (tLst ta) σ H (fun ds => L ds ∧ ds.length = N) := by
  intro H1 c x P c0 c1 Q q
  refine h H1 c x P c0 c1 _ fun vs ds H2 x2 P2 hds hL => ⟨?_, fun l nl => ?_⟩
  · have := hds.length
    have := hL.2
    exact sz_of (by omega)
  · have e := Ex.new (o := .lst vs) nl
    exact q l vs ds _ (x2.trans (Xp.ex e)) (P2.up e) (P2.ne nl) upd_same (hds.up e) hL
theorem evl_var {i : Nat} {l : Addr} {vs : List V} {ds : List PyData} (h : σ[i]? = some (some (.ref l))) (nl : l ≠ S.p) (hl : H l = some (.lst vs)) (hd : DdAll (some S) H vs ds) (hL : L ds) : EvPL S 0 (tVar i) σ H L :=
  fun H1 c x P c0 c1 Q q => ⟨.ref l, h, q l vs ds H1 (Xp.refl _ _) (P.more (by omega)) nl (x _ _ nl hl) (hd.xp x) hL⟩
theorem evl_cat {A B : Nat} (h : EvPL S k te σ H (fun ds => L ds ∧ ds.length = A)) (r : EvPL S j tf σ H (fun ds => L ds ∧ ds.length = B)) (hk : 0 ≤ k) (hj : 0 ≤ j) (hn : A + B ≤ 10000) (hL : ∀ ds es, L ds → L es → L (ds ++ es)) :
    EvPL S (k + j) (tOp rCat te tf) σ H (fun ds => L ds ∧ ds.length = A + B) := by
  intro H1 c x P c0 c1 Q q
  refine h H1 c x P c0 (by omega) _ fun l vs ds H2 x2 P2 nl hl hds hD => ?_
  refine r H2 (c + k) (x.trans x2) P2 (by omega) (by omega) _ fun m ws es H3 x3 P3 nm hm hes hE => ?_
  have l1 := hds.length
  have l2 := hes.length
  have d1 := hD.2
  have d2 := hE.2
  refine ⟨l, m, vs, ws, rfl, rfl, x3 _ _ nl hl, hm, sz_of (by omega), fun a na => ?_⟩
  have e := Ex.new (o := .lst (vs ++ ws)) na
  refine q a _ (ds ++ es) _ ((x2.trans x3).trans (Xp.ex e)) ((P3.up e).more (by omega)) (P3.ne na) upd_same (((hds.xp x3).append hes).up e) ⟨hL _ _ hD.1 hE.1, ?_⟩
  rw [List.length_append]
  omega
theorem evpa_n {N : Nat} (h : EvPA S k ta σ H (AllFit N)) : EvPA S k ta σ H (AllFit N) := h
/-- the same with the number of items told -/
theorem evpan_nil {n : Nat} : EvPA S 0 tNil σ H (fun ds => AllFit n ds ∧ ds.length = 0) := evpa_nil ⟨.nil, rfl⟩
theorem evpan {n m : Nat} (h : EvP S 0 te σ H (Fit n)) (r : EvPA S j ta σ H (fun ds => AllFit n ds ∧ ds.length = m)) (hj : 0 ≤ j) : EvPA S j (tCons te ta) σ H (fun ds => AllFit n ds ∧ ds.length = m + 1) :=
  evpa_c0 h r hj fun _ _ a b => ⟨.cons a b.1, congrArg Nat.succ b.2⟩
theorem evpank {n m : Nat} (h : EvP S k te σ H (Fit n)) (r : EvPA S j ta σ H (fun ds => AllFit n ds ∧ ds.length = m)) (hk : 0 ≤ k) (hj : 0 ≤ j) : EvPA S (k + j) (tCons te ta) σ H (fun ds => AllFit n ds ∧ ds.length = m + 1) :=
  evpa_cons h r hk hj fun _ _ a b => ⟨.cons a b.1, congrArg Nat.succ b.2⟩
theorem evp_lst1 {n : Nat} (h : EvPA S k ta σ H (Fits n)) (hn : n ≤ 10000) : EvP S k (tLst1 ta) σ H (Fit (n + 1)) := by
  intro H1 c x P c0 c1 Q q
  refine h H1 c x P c0 c1 _ fun vs ds H2 x2 P2 hds hL => ⟨?_, fun a ns na => ?_⟩
  · have l1 := hds.length
    have := hL.length
    exact sz_of (by omega)
  · have e := Ex.new (o := .lst vs) na
    exact q _ _ _ (x2.trans (Xp.ex e)) (P2.up e) (.lst (P2.sn na) ns upd_same (hds.up e)) hL.lst
theorem evp_dk0 : EvP S 0 tDNewK σ H (Fit 1) := fun H1 c x P c0 c1 Q q a na => by
  have e := Ex.new (o := .dK []) na
  exact q _ _ _ (Xp.ex e) ((P.up e).more (by omega)) (.dk0 (P.sn na) upd_same) fit_dk0
theorem evp_dk1 {n i : Nat} {z : Str} {v : V} {d : PyData} (h : σ[i]? = some (some v)) (hd : Dd (some S) H v d) (hf : Fit n d) (hz : (z.cps.toList.all fun c => decide (c < 16 ^ 8)) = true) (hl : z.length ≤ 10) : EvP S 0 (tDisp [(tC (.str z), tVar i)]) σ H (Fit (n + 13)) := by
  intro H1 c x P c0 c1 Q q a na
  refine ⟨v, h, upd_same, [(Sum.inr z, v)], rfl, by show 1 ≤ 15; decide, ?_⟩
  have e := Ex.mut (o := .dK (mergeK [] [(Sum.inr z, v)])) (Ex.new (o := .dK []) na) na
  exact q _ _ _ (Xp.ex e) ((P.up e).more (by omega)) (.dk1 (P.sn na) upd_same ((hd.xp x).up e)) (fit_dk1 hz hl hf)
theorem evp_neg {i : Int} (hD : D (.int (-i))) : EvP S 0 (tUn (rU fun i => .int (-i)) (tC (.int i))) σ H D := fun H1 c x P c0 c1 Q q => ⟨i, rfl, q _ _ H1 (Xp.refl _ _) (P.more (by omega)) (.int _) hD⟩
theorem DdAll.mem : ∀ {vs : List V} {ds : List PyData} {v : V}, DdAll (some S) H vs ds → v ∈ vs → ∃ d ∈ ds, Dd (some S) H v d
  | _, _, _, .cons h r, hv => by
    rcases List.mem_cons.mp hv with e | e
    · subst e
      exact ⟨_, List.mem_cons_self .., h⟩
    · obtain ⟨d, a, b⟩ := DdAll.mem r e
      exact ⟨d, List.mem_cons_of_mem _ a, b⟩
theorem evp_listT {n i : Nat} {a : Addr} {ds : List PyData} (h : σ[i]? = some (some (.ref a))) (hd : Dd (some S) H (.ref a) (.tuple ds)) (hf : Fits n ds) : EvP S 0 (tCB (rListT1 K) (tCons (tVar i) tNil)) σ H (Fit (n + 1)) := by
  intro H1 c x P c0 c1 Q q
  have hd1 := hd.xp x
  cases hd1 with
  | @tup _ xs _ na ha hxs =>
    refine ⟨.ref a, h, a, xs, rfl, st_of ha, fun l ns nl => ?_⟩
    have e := Ex.new (o := .lst xs) nl
    exact q _ _ _ (Xp.ex e) ((P.up e).more (by omega)) (.lst (P.sn nl) ns upd_same (hxs.up e)) hf.lst
theorem qp_asg {F : Ends} {tz : TS} {i : Nat} (h : te σ H fun v H1 => tz F (σ.set i (some v)) H1) : tSeq (tAsg te (gName i)) tz F σ H := h
theorem sp_asg {F : Ends} {i : Nat} (h : te σ H fun v H1 => F.nx (σ.set i (some v)) H1) : tAsg te (gName i) F σ H := h
theorem op_of {r : R2} {Q : VK} (h : te σ H fun x H1 => tf σ H1 fun y H2 => r x y H2 Q) : tOp r te tf σ H Q := h
theorem cons_of {Q : List V → Hp → Prop} (h : te σ H fun x H1 => ta σ H1 fun xs H2 => Q (x :: xs) H2) : tCons te ta σ H Q := h
theorem call_of {sp : Sp} {dvs : List V} {E : XK} {Q : VK} (h : ta σ H fun vs H1 => sp (vs ++ dvs) H1 Q E) : tCall sp dvs E ta σ H Q := h
end
end Es
namespace HT
open PySem PySem.Spec PyProof.Rows
section
variable {prog : Program} {w : World} {A : Around} {E : Value → Shared → Prop} {s : Shared}
theorem es_applied_rev {sl : Addr} {vl vu vs : Value} {n : Nat} {Q : Int × Int × Nat → Shared → Prop} (hs : s.heap.IsSliceOf sl vl vu vs) (pl : IsPart vl none) (pu : IsPart vu none) (ps : IsPart vs (some (-1)))
    (h : Q ((n : Int) - 1, -1, n) s) : wpAny (model prog w) A (Builtin.Slice.sliceApplied (.ref sl) (pure (n : Int))) Q E s := by
  obtain ⟨os, hos, hcs, hds⟩ := id hs
  unfold Builtin.Slice.sliceApplied Builtin.Slice.sliceFields
  refine wpAny_bind (wpAny_bind (wpAny_field hos hds (x := vl) rfl (wpAny_bind (wpAny_field hos hds (x := vu) rfl (wpAny_bind (wpAny_field hos hds (x := vs) rfl (wpAny_pure ?_)))))))
  refine wpAny_bind (slicePart_ ps ?_)
  show wpAny _ _ (if ((-1 : Int) == 0) = true then _ else _) _ _ s
  rw [if_neg (by decide)]
  refine wpAny_bind (slicePart_ pl (wpAny_bind (slicePart_ pu (wpAny_bind (wpAny_pure ?_)))))
  show wpAny _ _ (match Builtin.Slice.sliceAdjust none none (-1) (n : Int) with | (lo, hi) => pure (lo, (-1 : Int), Builtin.Slice.slicePlaces lo hi (-1))) _ _ s
  show wpAny _ _ (pure ((n : Int) - 1, (-1 : Int), Builtin.Slice.slicePlaces ((n : Int) - 1) (-1) (-1))) _ _ s
  have e : Builtin.Slice.slicePlaces ((n : Int) - 1) (-1) (-1) = n := by
    unfold Builtin.Slice.slicePlaces
    rw [if_neg (by decide)]
    by_cases hn : n = 0
    · subst hn
      rfl
    · rw [if_pos (by omega)]
      show (((n : Int) - 1 - -1 - 1) / 1 + 1).toNat = n
      rw [Int.ediv_one]
      omega
  rw [e]
  exact wpAny_pure h
theorem es_fm {α β : Type} (f g : α → Option β) : ∀ l : List α, (∀ x ∈ l, f x = g x) → l.filterMap f = l.filterMap g
  | [], _ => rfl
  | x :: r, h => by
    rw [List.filterMap_cons, List.filterMap_cons, h x (List.mem_cons_self ..), es_fm f g r fun y hy => h y (List.mem_cons_of_mem _ hy)]
theorem es_pick_rev (xs : Array Value) : ((List.range xs.size).filterMap fun (m : Nat) => xs[((xs.size : Int) - 1 + (m : Int) * (-1)).toNat]?).toArray = xs.toList.reverse.toArray := by
  have h1 : ((List.range xs.size).filterMap fun (m : Nat) => xs[((xs.size : Int) - 1 + (m : Int) * (-1)).toNat]?) = (List.range xs.size).filterMap fun (m : Nat) => (xs.toList.reverse.toArray)[((0 : Nat) + (m : Int) * 1).toNat]? := by
    have e0 : ∀ m ∈ List.range xs.size, xs[((xs.size : Int) - 1 + (m : Int) * (-1)).toNat]? = (xs.toList.reverse.toArray)[((0 : Nat) + (m : Int) * 1).toNat]? := by
      intro m hm
      have hm' : m < xs.size := List.mem_range.mp hm
      rw [show ((xs.size : Int) - 1 + (m : Int) * (-1)).toNat = xs.size - 1 - m by omega, show (((0 : Nat) : Int) + (m : Int) * 1).toNat = m by omega]
      have e1 : (xs.toList.reverse.toArray)[m]? = xs.toList.reverse[m]? := List.getElem?_toArray ..
      rw [e1, List.getElem?_reverse (by rw [Array.length_toList]; exact hm'), Array.length_toList, Array.getElem?_toList]
    exact es_fm _ _ _ e0
  rw [h1]
  have := pick_gen xs.toList.reverse.toArray 0 xs.size
  rw [this]
  rw [List.drop_zero, List.take_of_length_le (by rw [List.length_reverse, Array.length_toList]; exact Nat.le_refl _)]
theorem es_tuple_rev {t sl : Addr} {items : Array Value} {vl vu vs : Value} {Q : Value → Shared → Prop} (ht : IsTup s.heap t items) (hs : s.heap.IsSliceOf sl vl vu vs) (pl : IsPart vl none) (pu : IsPart vu none) (ps : IsPart vs (some (-1)))
    (h : Q (.ref s.heap.objs.size) { s with heap := s.heap.push { cls := .type "tuple", data := .seq items.toList.reverse.toArray } })
    (hsz : items.size ≤ sizeLine) : wpAny (model prog w) A (getItem (.ref t) (.ref sl)) Q E s := by
  have htake : sizeOk (.seq items.toList.reverse.toArray) := by
    show items.toList.reverse.toArray.size ≤ sizeLine
    rw [List.size_toArray, List.length_reverse, Array.length_toList]
    exact hsz
  obtain ⟨os, hos, hcs, hds⟩ := id hs
  have hTs : s.TypeIs (.ref sl) "slice" := ⟨os, hos, hcs⟩
  unfold getItem
  try with_reducible refine wpAny_holding ?_
  first | refine wpAny_bind (wpAny_pure ?_) | skip
  refine wpAny_bind (wpAny_sequenceKey ht.typeIs (by decide) ?_)
  refine wpAny_bind (wpAny_callSpecial?_slot (name := Str.ofString "__getitem__") ht.typeIs PyProof.Rows.slot_tuple_getitem
    (wpAny_call_entry PyProof.Rows.slot_tuple_getitem ht.typeIs entry_tuple_getitem ?_ (args_tuple_getitem _ _)))
  show wpAny _ _ (Builtin.Tuple.tupleItemsOf (.ref t) >>= _) _ _ s
  refine wpAny_bind (tupleItemsOf_ ht ?_)
  refine wpAny_bind (wpAny_typeOf hTs ?_)
  rw [if_pos (by decide)]
  refine wpAny_bind (es_applied_rev hs pl pu ps ?_)
  have hno : ¬ (((((items.size : Int) - 1) == 0) && ((-1 : Int) == 1) && (items.size == items.size)) = true) := by
    rw [show ((-1 : Int) == 1) = false from rfl, Bool.and_false, Bool.false_and]
    exact Bool.false_ne_true
  show wpAny _ _ (if (((((items.size : Int) - 1) == 0) && ((-1 : Int) == 1) && (items.size == items.size)) = true) then _ else _) _ _ s
  rw [if_neg hno, es_pick_rev]
  first
    | exact wpAny_bind (m := Builtin.Tuple.tupleExact _) (wpAny_newObj_type (wpAny_pure ⟨_, rfl, wpAny_pure h⟩) htake)
    | exact wpAny_bind (m := Builtin.Tuple.tupleExact _) (wpAny_newObj_type (wpAny_bind (wpAny_pure (wpAny_pure ⟨_, rfl, wpAny_pure h⟩))) htake)
    | exact wpAny_bind (wpAny_bind (m := Builtin.Tuple.tupleExact _) (wpAny_newObj_type (wpAny_pure (wpAny_pure ⟨_, rfl, wpAny_pure h⟩)) htake))
    | exact wpAny_bind (wpAny_bind (m := Builtin.Tuple.tupleExact _) (wpAny_newObj_type (wpAny_pure ⟨_, rfl, wpAny_pure h⟩) htake))
end
end HT
namespace Es
open PySem PySem.Spec PyProof.Rows L2 Evl
section
variable {X : Cx}
def tRevT (K : PySem.W.Frag) (te : TE) : TE := fun σ H Q => te σ H fun x H1 => ∃ a xs, x = .ref a ∧ SqT K H1 a xs ∧ ∀ p, H1 p = none → Q (.ref p) (upd H1 p (.tup xs.reverse))
theorem pe_revT {e : Expr} {te : TE} {k : Nat} {p1 p2 p3 pos : Pos} (he : PE X e te) : PE X (.Subscript e (.Slice none none (some (.UnaryOp .USub (.Constant (.int 1) k p1) p2)) p3) pos) (tRevT X.K te) := by
  refine ⟨fun pins s σ H Q I h => ?_⟩
  refine Subscript_ (thn (he.run pins s σ H _ I h) fun v s1 ⟨x, H1, I1, r1, q1⟩ => ?_)
  obtain ⟨a, xs, ex, hx, q⟩ := q1
  subst ex
  cases r1
  have hst : PO X (some (.UnaryOp .USub (.Constant (.int 1) k p1) p2)) (tPart (tUn (rU fun i => .int (-i)) (tC (.int 1)))) := po_some (pe_un un_neg pe_int)
  refine wpAny_Slice (thn (po_none.run pins s1 σ H1 (fun o H2 => o = none ∧ H2 = H1) I1 ⟨rfl, rfl⟩) fun vl s2 ⟨l, H2, I2, pl, el, e2⟩ => ?_)
  subst el e2
  refine thn (po_none.run pins s2 σ H2 (fun o H3 => o = none ∧ H3 = H2) I2 ⟨rfl, rfl⟩) fun vu s3 ⟨u, H3, I3, pu, eu, e3⟩ => ?_
  subst eu e3
  refine thn (hst.run pins s3 σ H3 (fun o H4 => o = some (-1) ∧ H4 = H3) I3 ⟨1, rfl, -1, rfl, rfl, rfl⟩) fun vs s4 ⟨o, H4, I4, ps, eo, e4⟩ => ?_
  subst eo e4
  have I5 : Inv X pins σ H4 { s4 with heap := s4.heap.push { cls := .type "slice", data := .fields #[vl, vu, vs] } } := I4.kept (t' := s4.toks) fun b ob q => Heap.get?_push_of_some _ q
  obtain ⟨its, r, ht, hz⟩ := I5.tuple hx
  have hlen := r.length
  show wpAny (model X.prog X.w) X.A (subscriptTail e (.Slice none none (some (.UnaryOp .USub (.Constant (.int 1) k p1) p2)) p3) (.ref a) (.ref s4.heap.objs.size)) (EP X pins σ Q) X.xe { s4 with heap := s4.heap.push { cls := .type "slice", data := .fields #[vl, vu, vs] } }
  refine tail_any (ops := [.ref a, .ref s4.heap.objs.size]) ht.typeIs (PyProof.Rows.slot_tuple_getitem.lookup) ?_ (by with_unfolding_all rfl)
  refine HT.es_tuple_rev ht (Heap.IsSliceOf.new _ vl vu vs) pl pu ps ?_ (by rw [List.size_toArray]; omega)
  refine ⟨.ref _, _, I5.laid (t' := s4.toks) (o := .tup xs.reverse) (fun b ob q => Heap.get?_push_of_some _ q) (Nat.le_refl _) ?_, rfl, q _ (I5.hok.fresh (Nat.le_refl _))⟩
  exact ⟨by rw [List.length_reverse]; exact hz, _, r.reverse, ⟨_, Heap.get?_push_size _ rfl, rfl, _, rfl⟩⟩
/-- z * 8 -/
def rep8 (z : Str) : Str := ⟨(List.replicate 8 z.cps).foldl (· ++ ·) #[]⟩
theorem rep8_len (z : Str) : (rep8 z).length = 8 * z.length := by
  show (#[] ++ z.cps ++ z.cps ++ z.cps ++ z.cps ++ z.cps ++ z.cps ++ z.cps ++ z.cps).size = 8 * z.cps.size
  rw [Array.size_append, Array.size_append, Array.size_append, Array.size_append, Array.size_append, Array.size_append, Array.size_append, Array.size_append]
  show 0 + z.cps.size + z.cps.size + z.cps.size + z.cps.size + z.cps.size + z.cps.size + z.cps.size + z.cps.size = _
  omega
def rMul8 : R2 := fun x y H Q => ∃ z : Str, x = .str z ∧ y = .int 8 ∧ 1 ≤ z.length ∧ z.length ≤ 1000 ∧ Q (.str (rep8 z)) H
theorem op_mul8 : OpR X (binaryOp .Mult) rMul8 := by
  intro pins s σ H x y v u Q I rx ry h
  obtain ⟨z, rfl, rfl, h1, h2, q⟩ := h
  obtain ⟨t, rfl⟩ := rx
  obtain ⟨t', rfl⟩ := ry
  have e : ((8 : Int) == 1 || z.length == 0) = false := by
    rw [show ((8 : Int) == 1) = false from rfl, Bool.false_or]
    exact beq_eq_false_iff_ne.mpr (by omega)
  have ht : Builtin.Str.tooLong (z.length * (8 : Int).toNat) = false := by
    refine decide_eq_false fun hh => ?_
    have : z.length * (8 : Int).toNat ≤ sizeLine := sz_of (by show z.length * 8 ≤ 100000; omega)
    omega
  refine P.mul_str (by decide) (fun _ _ => ?_) (fun _ _ => ht) ?_
  · show ¬ ((z.length : Int) > (2 ^ 63 - 1) / 8)
    omega
  · rw [if_neg (by decide), e]
    exact ⟨sz_of (by show (rep8 z).length ≤ 100000; rw [rep8_len z]; omega), .str (rep8 z), H, I.tok _, ⟨_, rfl⟩, q⟩
end
theorem all_app (es : List PyData) : ∀ ds : List PyData, PyData.showableAll (ds ++ es) = (PyData.showableAll ds && PyData.showableAll es) ∧ PyData.leavesShortAll 30 (ds ++ es) = (PyData.leavesShortAll 30 ds && PyData.leavesShortAll 30 es) ∧
      PyData.bulkAll (ds ++ es) = PyData.bulkAll ds + PyData.bulkAll es ∧ PyData.depthAll (ds ++ es) = max (PyData.depthAll ds) (PyData.depthAll es)
  | [] => by
    refine ⟨rfl, rfl, ?_, ?_⟩
    · show PyData.bulkAll es = 0 + PyData.bulkAll es
      omega
    · show PyData.depthAll es = max 0 (PyData.depthAll es)
      omega
  | x :: r => by
    obtain ⟨i1, i2, i3, i4⟩ := all_app es r
    refine ⟨?_, ?_, ?_, ?_⟩
    · show (x.showable && PyData.showableAll (r ++ es)) = (x.showable && PyData.showableAll r && PyData.showableAll es)
      rw [i1, Bool.and_assoc]
    · show (x.leavesShort 30 && PyData.leavesShortAll 30 (r ++ es)) = (x.leavesShort 30 && PyData.leavesShortAll 30 r && PyData.leavesShortAll 30 es)
      rw [i2, Bool.and_assoc]
    · show x.bulk + 1 + PyData.bulkAll (r ++ es) = x.bulk + 1 + PyData.bulkAll r + PyData.bulkAll es
      omega
    · show max x.depth (PyData.depthAll (r ++ es)) = max (max x.depth (PyData.depthAll r)) (PyData.depthAll es)
      omega
theorem all_rev : ∀ ds : List PyData, PyData.showableAll ds.reverse = PyData.showableAll ds ∧ PyData.leavesShortAll 30 ds.reverse = PyData.leavesShortAll 30 ds ∧ PyData.bulkAll ds.reverse = PyData.bulkAll ds ∧ PyData.depthAll ds.reverse = PyData.depthAll ds
  | [] => ⟨rfl, rfl, rfl, rfl⟩
  | x :: r => by
    obtain ⟨i1, i2, i3, i4⟩ := all_rev r
    obtain ⟨a1, a2, a3, a4⟩ := all_app [x] r.reverse
    rw [List.reverse_cons]
    refine ⟨?_, ?_, ?_, ?_⟩
    · rw [a1, i1]
      show (PyData.showableAll r && (x.showable && true)) = (x.showable && PyData.showableAll r)
      rw [Bool.and_true, Bool.and_comm]
    · rw [a2, i2]
      show (PyData.leavesShortAll 30 r && (x.leavesShort 30 && true)) = (x.leavesShort 30 && PyData.leavesShortAll 30 r)
      rw [Bool.and_true, Bool.and_comm]
    · rw [a3, i3]
      show PyData.bulkAll r + (x.bulk + 1 + 0) = x.bulk + 1 + PyData.bulkAll r
      omega
    · rw [a4, i4]
      show max (PyData.depthAll r) (max x.depth 0) = max x.depth (PyData.depthAll r)
      omega
theorem Fits.rev {n : Nat} {ds : List PyData} (h : Fits n ds) : Fits n ds.reverse := by
  obtain ⟨i1, i2, i3, i4⟩ := all_rev ds
  unfold Fits
  rw [i1, i2, i3, i4]
  exact h
theorem DdAll.rev {p : Option Sx} {H : Hp} : ∀ {vs : List V} {ds : List PyData}, DdAll p H vs ds → DdAll p H vs.reverse ds.reverse
  | _, _, .nil => .nil
  | _, _, .cons h r => by
    rw [List.reverse_cons, List.reverse_cons]
    exact (DdAll.rev r).append (.cons h .nil)
section
variable {S : Sx} {K : PySem.W.Frag} {σ : L2.St} {H : Hp} {te tf : TE} {ta : TA} {k j : Int} {D E : PyData → Prop} {L M : List PyData → Prop}
/-- t[lo:hi] of a tuple at a name, any bounds -/
theorem evp_cutG {i : Nat} {a : Addr} {ds : List PyData} {n : Nat} {tl th : TO} {lo hi : Option Int} (h : σ[i]? = some (some (.ref a))) (hd : Dd (some S) H (.ref a) (.tuple ds)) (f : Fits n ds)
    (hlo : ∀ H1 (Q : Option Int → Hp → Prop), Q lo H1 → tl σ H1 Q) (hhi : ∀ H1 (Q : Option Int → Hp → Prop), Q hi H1 → th σ H1 Q) : EvP S 0 (tSl (rSlA K) (tVar i) tl th) σ H (Tu n) := by
  intro H1 c x P c0 c1 Q q
  have hd1 := hd.xp x
  cases hd1 with
  | @tup _ xs _ na ha hxs =>
    refine ⟨.ref a, h, hlo H1 _ (hhi H1 _ ⟨a, xs, rfl, st_of ha, fun _ => ?_, fun _ t nt => ?_⟩)⟩
    · exact q _ _ H1 (Xp.refl _ _) (P.more (by omega)) (.tup na ha hxs) ⟨ds, rfl, f⟩
    · have e := Ex.new (o := .tup (cutV xs lo hi)) nt
      have hc : DdAll (some S) H1 (cutV xs lo hi) ((ds.drop (HT.sIx xs.length 0 lo)).take (HT.sIx xs.length xs.length hi - HT.sIx xs.length 0 lo)) := (hxs.drop _).take _
      exact q _ _ _ (Xp.ex e) ((P.up e).more (by omega)) (.tup (P.sn nt) upd_same (hc.up e)) ⟨_, rfl, (f.sub.1 _).sub.2 _⟩
theorem evp_rev {i : Nat} {a : Addr} {ds : List PyData} {n : Nat} (h : σ[i]? = some (some (.ref a))) (hd : Dd (some S) H (.ref a) (.tuple ds)) (f : Fits n ds) : EvP S 0 (tRevT K (tVar i)) σ H (Tu n) := by
  intro H1 c x P c0 c1 Q q
  have hd1 := hd.xp x
  cases hd1 with
  | @tup _ xs _ na ha hxs =>
    refine ⟨.ref a, h, a, xs, rfl, st_of ha, fun t nt => ?_⟩
    have e := Ex.new (o := .tup xs.reverse) nt
    exact q _ _ _ (Xp.ex e) ((P.up e).more (by omega)) (.tup (P.sn nt) upd_same (hxs.rev.up e)) ⟨_, rfl, f.rev⟩
theorem evl_two {A n : Nat} (h : EvPL S k te σ H (fun ds => AllFit n ds ∧ ds.length = A)) (hk : 0 ≤ k) (hA : A ≤ 1000) : EvPL S k (tOp rRep te (tC (.int 2))) σ H (fun ds => AllFit n ds ∧ ds.length = A + A) := by
  intro H1 c x P c0 c1 Q q
  refine h H1 c x P c0 c1 _ fun l vs ds H2 x2 P2 nl hl hds hD => ?_
  have l1 := hds.length
  have d1 := hD.2
  refine ⟨l, 2, vs, rfl, rfl, hl, by decide, by decide, sz_of (by show vs.length * 2 ≤ 100000; omega), fun a na => ?_⟩
  have e := Ex.new (o := .lst (List.replicate 2 vs).flatten) na
  have ev : (List.replicate 2 vs).flatten = vs ++ vs := by
    show vs ++ (vs ++ []) = vs ++ vs
    rw [List.append_nil]
  refine q a _ (ds ++ ds) _ (x2.trans (Xp.ex e)) (P2.up e) (P2.ne na) (by show upd H2 a (.lst (List.replicate 2 vs).flatten) a = some (.lst (vs ++ vs)); rw [upd_same, ev]) ((hds.append hds).up e) ⟨hD.1.app hD.1, by rw [List.length_append, d1]⟩
theorem evl_cut {i : Nat} {l : Addr} {vs : List V} {ds : List PyData} {n A : Nat} {u : Int} (h : σ[i]? = some (some (.ref l))) (nl : l ≠ S.p) (hl : H l = some (.lst vs)) (hd : DdAll (some S) H vs ds) (hL : AllFit n ds) (hu : 0 ≤ u) (hA : A = min u.toNat ds.length) :
    EvPL S 0 (tSl (rSlL K) (tVar i) tNoPart (tPart (tC (.int u)))) σ H (fun ds => AllFit n ds ∧ ds.length = A) := by
  intro H1 c x P c0 c1 Q q
  have hl1 := x _ _ nl hl
  have l1 := hd.length
  refine ⟨.ref l, h, u, rfl, l, vs, rfl, sq_of hl1, fun t nt => ?_⟩
  have e := Ex.new (o := .lst (cutV vs none (some u))) nt
  have hc : DdAll (some S) H1 (cutV vs none (some u)) (ds.take (min u.toNat ds.length)) := by
    unfold cutV
    rw [HT.sIx_none, List.drop_zero, Nat.sub_zero, show (some u) = some ((u.toNat : Nat) : Int) by rw [Int.toNat_of_nonneg hu], HT.sIx_nat, l1]
    exact (hd.xp x).take _
  refine q t _ _ _ (Xp.ex e) ((P.up e).more (by omega)) (P.ne nt) upd_same (hc.up e) ⟨fun d hd => hL d (List.mem_of_mem_take hd), ?_⟩
  rw [List.length_take, hA]
  omega
end
theorem PotS.tn {S : Sx} {H : Hp} {c : Int} (P : PotS S H c) {a : Addr} {xs : List V} (n : a ≠ S.p) (h : H a = some (.tup xs)) : ¬ out (some S) a := by
  rintro (z | z)
  · exact n z
  · obtain ⟨ys, e⟩ := P.2 a z
    rw [h] at e
    cases e
mutual
theorem TrAt.dd {S : Sx} {H : Hp} {c : Int} (P : PotS S H c) : ∀ {v : V} {t : Tr}, TrAt S.p H v t → Dd (some S) H v t.toD
  | _, _, .leaf n h => .tup (P.tn n h) h (.cons (.str _) (.cons (.str _) .nil))
  | _, _, .node n h r => .tup (P.tn n h) h (.cons (.str _) (TrAll.dd P r))
theorem TrAll.dd {S : Sx} {H : Hp} {c : Int} (P : PotS S H c) : ∀ {vs : List V} {ts : List Tr}, TrAll S.p H vs ts → DdAll (some S) H vs (Tr.toDs ts)
  | _, _, .nil => .nil
  | _, _, .cons h r => .cons (TrAt.dd P h) (TrAll.dd P r)
end
end Es
namespace Es
open PySem PySem.Spec PyProof.Rows L2 Evl
section
variable {X : Cx}
/-- list(a text) -/
def rListStr : List V → Hp → VK → Prop := fun xs H Q => ∃ z : Str, xs = [.str z] ∧ z.length ≤ 1000 ∧ ∀ l, H l = none → Q (.ref l) (upd H l (.lst (z.cps.toList.map fun c => V.str ⟨#[c]⟩)))
theorem cr_listStr (hc : X.calm = true) : CallR X (.type "list") rListStr := by
  intro pins s σ H xs us Q I r h
  obtain ⟨z, rfl, hz, q⟩ := h
  obtain ⟨u, rfl, ru⟩ := vals1 r
  obtain ⟨t, rfl⟩ := ru
  have hn : z.cps.size ≤ sizeLine := sz_of (by show z.length ≤ 100000; omega)
  refine call_list_str (I.ok.hd hc) z t (hn := hn) (fun h' tk acc' c' hk hS hacc => ?_)
  refine ⟨.ref s.heap.objs.size, upd H s.heap.objs.size (.lst (z.cps.toList.map fun c => V.str ⟨#[c]⟩)), I.laid hk (Nat.le_refl _) (show ObjOk X.prog X.w _ _ _ (.lst (z.cps.toList.map fun c => V.str ⟨#[c]⟩)) from ⟨?_, acc'.toList, c', ?_, ?_⟩), rfl, q _ (I.hok.fresh (Nat.le_refl _))⟩
  · rw [List.length_map, Array.length_toList]
    exact hn
  · refine vals_of_at (by rw [List.length_map, Array.length_toList, Array.length_toList, hacc.1]) fun j x w h1 h2 => ?_
    obtain ⟨c, u, hcu, rfl⟩ := hacc.2 j w (by rw [← Array.getElem?_toList]; exact h2)
    rw [List.getElem?_map, Array.getElem?_toList, hcu] at h1
    cases h1
    exact ⟨_, rfl⟩
  · rw [Array.toArray_toList]
    exact hS
end
/-! words: short texts of ordinary signs -/
def Wd (x : Str) : Prop := x.length ≤ 8 ∧ (x.cps.toList.all fun c => decide (c < 16 ^ 8)) = true
def txts (ws : List Str) : List V := ws.map V.str
def dtxts (ws : List Str) : List PyData := ws.map PyData.str
theorem fits_words : ∀ ws : List Str, (∀ x ∈ ws, Wd x) → PyData.showableAll (dtxts ws) = true ∧ PyData.hasDictAll (dtxts ws) = false ∧ PyData.leavesShortAll 30 (dtxts ws) = true ∧ PyData.bulkAll (dtxts ws) ≤ 9 * ws.length ∧ PyData.depthAll (dtxts ws) = 0
  | [], _ => ⟨rfl, rfl, rfl, Nat.le_refl _, rfl⟩
  | x :: r, h => by
    obtain ⟨a1, a2, a3, a4, a5⟩ := fits_words r fun y hy => h y (List.mem_cons_of_mem _ hy)
    obtain ⟨b1, b2⟩ := h x (List.mem_cons_self ..)
    refine ⟨?_, ?_, ?_, ?_, ?_⟩
    · show (true && PyData.showableAll (dtxts r)) = true
      rw [a1]
      rfl
    · show (false || PyData.hasDictAll (dtxts r)) = false
      rw [a2]
      rfl
    · show ((x.cps.toList.all fun c => decide (c < 16 ^ 8)) && PyData.leavesShortAll 30 (dtxts r)) = true
      rw [b2, a3]
      rfl
    · show x.cps.size + 1 + PyData.bulkAll (dtxts r) ≤ 9 * (r.length + 1)
      have : x.cps.size ≤ 8 := b1
      omega
    · show max 0 (PyData.depthAll (dtxts r)) = 0
      rw [a5]
      rfl
theorem dp_words {K : PySem.W.Frag} {H : Hp} : ∀ ws : List Str, DpAll K H (txts ws) (dtxts ws)
  | [] => .nil
  | x :: r => .cons (.str x) (dp_words r)

/-! cut tuples -/
theorem cut_nn (xs : List V) (n m : Nat) : cutV xs (some (n : Int)) (some (m : Int)) = (xs.drop n).take (m - n) := by
  unfold cutV
  rw [HT.sIx_nat, HT.sIx_nat]
  by_cases h : n ≤ xs.length
  · rw [Nat.min_eq_left h]
    by_cases h2 : m ≤ xs.length
    · rw [Nat.min_eq_left h2]
    · rw [Nat.min_eq_right (by omega), List.take_of_length_le (by rw [List.length_drop]; omega), List.take_of_length_le (by rw [List.length_drop]; omega)]
  · have e : min n xs.length = xs.length := Nat.min_eq_right (by omega)
    rw [e, List.drop_of_length_le (Nat.le_refl _), List.drop_of_length_le (i := n) (by omega), List.take_nil, List.take_nil]
theorem cut_n (xs : List V) (n : Nat) : cutV xs (some (n : Int)) none = xs.drop n := by
  unfold cutV
  rw [HT.sIx_nat, HT.sIx_none]
  by_cases h : n ≤ xs.length
  · rw [Nat.min_eq_left h, List.take_of_length_le (by rw [List.length_drop]; omega)]
  · have e : min n xs.length = xs.length := Nat.min_eq_right (by omega)
    rw [e, List.drop_of_length_le (Nat.le_refl _), List.drop_of_length_le (i := n) (by omega), List.take_nil]
theorem cut_0 (xs : List V) (m : Nat) : cutV xs none (some (m : Int)) = xs.take m := by
  unfold cutV
  rw [HT.sIx_nat, HT.sIx_none, List.drop_zero, Nat.sub_zero]
  by_cases h : m ≤ xs.length
  · rw [Nat.min_eq_left h]
  · have e : min m xs.length = xs.length := Nat.min_eq_right (by omega)
    rw [e, List.take_of_length_le (Nat.le_refl _), List.take_of_length_le (i := m) (by omega)]
section
variable {K : PySem.W.Frag} {σ : L2.St} {H : Hp} {te tf : TE}
theorem sl_join {Q : VK} {a : Addr} {xs : List V} {lo hi : Option Int} (ha : H a = some (.tup xs)) (q : ∀ b H2, Ex H H2 → H2 b = some (.tup (cutV xs lo hi)) → Q (.ref b) H2) : rSlA K (.ref a) lo hi H Q := by
  refine ⟨a, xs, rfl, st_of ha, fun h => q a H (Ex.refl _) ?_, fun _ p np => q p _ (Ex.new np) upd_same⟩
  unfold cutV
  rw [h.1, h.2, List.drop_zero, Nat.sub_zero, List.take_length]
  exact ha
theorem cat_join {Q : VK} {a b : Addr} {xs ys : List V} (ha : H a = some (.tup xs)) (hb : H b = some (.tup ys)) (hl : xs.length + ys.length ≤ 100000) (q : ∀ c H2, Ex H H2 → H2 c = some (.tup (xs ++ ys)) → Q (.ref c) H2) : rCatA K (.ref a) (.ref b) H Q := by
  refine ⟨a, b, xs, ys, rfl, rfl, st_of ha, st_of hb, sz_of hl, fun z => q b H (Ex.refl _) ?_, fun _ z => q a H (Ex.refl _) ?_, fun _ _ p np => q p _ (Ex.new np) upd_same⟩
  · rw [z]
    exact hb
  · rw [z, List.append_nil]
    exact ha
/-- a tuple, new or not -/
def EvW (te : TE) (σ : L2.St) (H : Hp) (xs : List V) : Prop := ∀ H1, Ex H H1 → ∀ Q : VK, (∀ p H2, Ex H1 H2 → H2 p = some (.tup xs) → Q (.ref p) H2) → te σ H1 Q
theorem ew_var {i : Nat} {a : Addr} {xs : List V} (h : σ[i]? = some (some (.ref a))) (ha : H a = some (.tup xs)) : EvW (tVar i) σ H xs := fun H1 e _ q => ⟨.ref a, h, q a H1 (Ex.refl _) (e _ _ ha)⟩
theorem ew_u {xs : List V} (h : EvU te σ H xs) : EvW te σ H xs := fun H1 e Q q => h H1 e Q fun p H2 _ e2 h2 => q p H2 e2 h2
theorem ew_cat {xs ys : List V} (h1 : EvW te σ H xs) (h2 : EvW tf σ H ys) (hl : xs.length + ys.length ≤ 100000) : EvW (tOp (rCatA K) te tf) σ H (xs ++ ys) := fun H1 e Q q =>
  h1 H1 e _ fun a H2 e2 ha => h2 H2 (e.trans e2) _ fun b H3 e3 hb => cat_join (e3 _ _ ha) hb hl fun c H4 e4 hc => q c H4 ((e2.trans e3).trans e4) hc
theorem ew_sl {xs : List V} {tl th : TO} {lo hi : Option Int} (h : EvW te σ H xs) (h1 : EvO tl σ H lo) (h2 : EvO th σ H hi) : EvW (tSl (rSlA K) te tl th) σ H (cutV xs lo hi) := fun H1 e Q q =>
  h H1 e _ fun a H2 e2 ha => h1 H2 (e.trans e2) _ fun H3 e3 => h2 H3 ((e.trans e2).trans e3) _ fun H4 e4 => sl_join (e4 _ _ (e3 _ _ ha)) fun b H5 e5 hb => q b H5 (((e2.trans e3).trans e4).trans e5) hb
theorem ew_is {xs ys : List V} (h : EvW te σ H xs) (e : xs = ys) : EvW te σ H ys := by
  subst e
  exact h
theorem s_asgW {D : Ends} {i : Nat} {xs : List V} (h : EvW te σ H xs) (k : ∀ p H1, Ex H H1 → H1 p = some (.tup xs) → D.nx (σ.set i (some (.ref p))) H1) : tAsg te (gName i) D σ H := h H (Ex.refl H) _ k
theorem q_asgW {D : Ends} {tz : TS} {i : Nat} {xs : List V} (h : EvW te σ H xs) (k : ∀ p H1, Ex H H1 → H1 p = some (.tup xs) → tz D (σ.set i (some (.ref p))) H1) : tSeq (tAsg te (gName i)) tz D σ H := s_asgW (D := { D with nx := tz D }) h k
end
end Es
namespace K29
open PySem PySem.Spec PyProof.Rows L2 Evl Es
section
variable {α : Type}
/-- from the left -/
def chg (t : List α) (done : Nat) : List (Nat × List α) → List α
  | [] => t.drop done
  | (n, ws) :: r => (t.drop done).take (n - done) ++ ws ++ chg t (n + 1) r
/-- from the right -/
def due (t : List α) : List (Nat × List α) → List α
  | [] => t
  | (n, ws) :: r => (due t r).take n ++ ws ++ (due t r).drop (n + 1)
def Asc (len : Nat) : Nat → List (Nat × List α) → Prop
  | _, [] => True
  | lo, (n, _) :: r => lo ≤ n ∧ n ≤ len ∧ Asc len (n + 1) r
theorem due_eq (t : List α) : ∀ (es : List (Nat × List α)) (lo : Nat), Asc t.length lo es → due t es = t.take lo ++ chg t lo es
  | [], lo, _ => (List.take_append_drop lo t).symm
  | (n, ws) :: r, lo, ⟨h1, h2, h3⟩ => by
    have ih := due_eq t r (n + 1) h3
    show (due t r).take n ++ ws ++ (due t r).drop (n + 1) = t.take lo ++ ((t.drop lo).take (n - lo) ++ ws ++ chg t (n + 1) r)
    have e1 : (due t r).take n = t.take n := by
      rw [ih, List.take_append_of_le_length (by rw [List.length_take]; omega), List.take_take, show min n (n + 1) = n by omega]
    have e2 : (due t r).drop (n + 1) = chg t (n + 1) r := by
      by_cases hn : n + 1 ≤ t.length
      · rw [ih, List.drop_append_of_le_length (by rw [List.length_take]; omega), List.drop_of_length_le (by rw [List.length_take]; omega), List.nil_append]
      · cases r with
        | nil =>
          show t.drop (n + 1) = t.drop (n + 1)
          rfl
        | cons e r => exact absurd h3.1 (by have := h3.2.1; omega)
    have e3 : t.take n = t.take lo ++ (t.drop lo).take (n - lo) := by
      rw [← List.take_add, show lo + (n - lo) = n by omega]
    rw [e1, e2, e3]
    simp only [List.append_assoc]
theorem due_eq0 (t : List α) (es : List (Nat × List α)) (h : Asc t.length 0 es) : due t es = chg t 0 es := due_eq t es 0 h
theorem asc_snoc (len : Nat) : ∀ (es : List (Nat × List α)) (lo n : Nat) (ws : List α), Asc len lo es → (∀ e ∈ es, e.1 < n) → lo ≤ n → n ≤ len → Asc len lo (es ++ [(n, ws)])
  | [], lo, n, ws, _, _, h1, h2 => ⟨h1, h2, trivial⟩
  | (m, us) :: r, lo, n, ws, ⟨a, b, c⟩, h, h1, h2 => ⟨a, b, asc_snoc len r (m + 1) n ws c (fun e he => h e (List.mem_cons_of_mem _ he)) (h (m, us) (List.mem_cons_self ..)) h2⟩
/-- so much of the walk from the left -/
def got (t : List α) : Nat → List (Nat × List α) → List α
  | _, [] => []
  | done, (n, ws) :: r => (t.drop done).take (n - done) ++ ws ++ got t (n + 1) r
def stop : Nat → List (Nat × List α) → Nat
  | done, [] => done
  | _, (n, _) :: r => stop (n + 1) r
theorem got_snoc (t : List α) : ∀ (es : List (Nat × List α)) (done n : Nat) (ws : List α), got t done (es ++ [(n, ws)]) = got t done es ++ ((t.drop (stop done es)).take (n - stop done es) ++ ws)
  | [], done, n, ws => by
    show (t.drop done).take (n - done) ++ ws ++ [] = [] ++ _
    rw [List.append_nil, List.nil_append]
    rfl
  | (m, us) :: r, done, n, ws => by
    show (t.drop done).take (m - done) ++ us ++ got t (m + 1) (r ++ [(n, ws)]) = (t.drop done).take (m - done) ++ us ++ got t (m + 1) r ++ _
    rw [got_snoc t r (m + 1) n ws]
    show (t.drop done).take (m - done) ++ us ++ (got t (m + 1) r ++ ((t.drop (stop (m + 1) r)).take (n - stop (m + 1) r) ++ ws)) = (t.drop done).take (m - done) ++ us ++ got t (m + 1) r ++ ((t.drop (stop (m + 1) r)).take (n - stop (m + 1) r) ++ ws)
    simp only [List.append_assoc]
theorem stop_snoc : ∀ (es : List (Nat × List α)) (done n : Nat) (ws : List α), stop done (es ++ [(n, ws)]) = n + 1
  | [], _, _, _ => rfl
  | (m, us) :: r, done, n, ws => stop_snoc r (m + 1) n ws
theorem got_end (t : List α) : ∀ (es : List (Nat × List α)) (done : Nat), got t done es ++ t.drop (stop done es) = chg t done es
  | [], done => rfl
  | (m, us) :: r, done => by
    show (t.drop done).take (m - done) ++ us ++ got t (m + 1) r ++ t.drop (stop (m + 1) r) = (t.drop done).take (m - done) ++ us ++ chg t (m + 1) r
    rw [List.append_assoc, got_end t r (m + 1)]
theorem asc_stop (len : Nat) : ∀ (es : List (Nat × List α)) (lo n : Nat) (ws : List α), Asc len lo (es ++ [(n, ws)]) → stop lo es ≤ n ∧ n ≤ len
  | [], lo, n, ws, h => ⟨h.1, h.2.1⟩
  | (m, us) :: r, lo, n, ws, h => asc_stop len r (m + 1) n ws h.2.2
/-- how many at most -/
def wide : List (Nat × List α) → Nat
  | [] => 0
  | (_, ws) :: r => ws.length + wide r
theorem wide_app : ∀ a b : List (Nat × List α), wide (a ++ b) = wide a + wide b
  | [], b => by show wide b = 0 + wide b; omega
  | (n, ws) :: r, b => by
    show ws.length + wide (r ++ b) = ws.length + wide r + wide b
    rw [wide_app r b]
    omega
theorem wide_take : ∀ (es : List (Nat × List α)) (i : Nat), wide (es.take i) ≤ wide es
  | [], i => by rw [List.take_nil]; exact Nat.le_refl _
  | e :: r, 0 => Nat.zero_le _
  | (n, ws) :: r, i + 1 => by
    have := wide_take r i
    show ws.length + wide (r.take i) ≤ ws.length + wide r
    omega
theorem asc_take (len : Nat) : ∀ (es : List (Nat × List α)) (lo i : Nat), Asc len lo es → Asc len lo (es.take i)
  | [], lo, i, _ => by rw [List.take_nil]; trivial
  | e :: r, lo, 0, _ => trivial
  | (n, ws) :: r, lo, i + 1, h => ⟨h.1, h.2.1, asc_take len r (n + 1) i h.2.2⟩
theorem got_len (t : List α) : ∀ (es : List (Nat × List α)) (done : Nat), Asc t.length done es → (got t done es).length + done ≤ stop done es + wide es
  | [], done, _ => by
    show 0 + done ≤ done + 0
    omega
  | (m, us) :: r, done, h => by
    have := got_len t r (m + 1) h.2.2
    have := h.1
    have := h.2.1
    show ((t.drop done).take (m - done) ++ us ++ got t (m + 1) r).length + done ≤ stop (m + 1) r + (us.length + wide r)
    rw [List.length_append, List.length_append, List.length_take, List.length_drop]
    omega
theorem stop_le (len : Nat) : ∀ (es : List (Nat × List α)) (lo : Nat), Asc len lo es → lo ≤ len + 1 → stop lo es ≤ len + 1
  | [], lo, _, h => h
  | (m, us) :: r, lo, h, _ => stop_le len r (m + 1) h.2.2 (by have := h.2.1; omega)
theorem chg_len (t : List α) (es : List (Nat × List α)) (h : Asc t.length 0 es) : (chg t 0 es).length ≤ t.length + 1 + wide es := by
  rw [← got_end, List.length_append, List.length_drop]
  have a := got_len t es 0 h
  have b := stop_le t.length es 0 h (by omega)
  omega
theorem chg_mem (t : List α) (P : α → Prop) (ht : ∀ x ∈ t, P x) : ∀ (es : List (Nat × List α)) (done : Nat), (∀ e ∈ es, ∀ x ∈ e.2, P x) → ∀ x ∈ chg t done es, P x
  | [], done, _, x, hx => ht x (List.mem_of_mem_drop hx)
  | (m, us) :: r, done, h, x, hx => by
    rcases List.mem_append.mp hx with z | z
    · rcases List.mem_append.mp z with y | y
      · exact ht x (List.mem_of_mem_drop (List.mem_of_mem_take y))
      · exact h (m, us) (List.mem_cons_self ..) x y
    · exact chg_mem t P ht r (m + 1) (fun e he => h e (List.mem_cons_of_mem _ he)) x z
/-- from the right, so much of it -/
theorem due_take (t : List α) (es : List (Nat × List α)) (i : Nat) (e : Nat × List α) (h : es.reverse[i]? = some e) : due t ((es.reverse.take (i + 1)).reverse) = (due t ((es.reverse.take i).reverse)).take e.1 ++ e.2 ++ (due t ((es.reverse.take i).reverse)).drop (e.1 + 1) := by
  rw [List.take_add_one, h, List.reverse_append]
  rfl
end
end K29
namespace K29
open PySem PySem.Spec PyProof.Rows L2 Evl Es
def topS (i : Nat) : Stmt := PySem.Challenge.pw_errorspans_k29_apply_repair.main.body.getD i (.Pass ⟨0, 0, 0, 0⟩)
abbrev sChd : Stmt := topS 1
abbrev sApp : Stmt := topS 4
abbrev sSrc : Stmt := topS 6
abbrev sDraw : Stmt := topS 7
abbrev sPick : Stmt := topS 8
abbrev sWords : Stmt := topS 9
abbrev sChs : Stmt := topS 10
abbrev sLaw : Stmt := topS 11
theorem scChd : FnScope ["text", "changes", "width", "found", "done", "number", "tokens"] ["text", "changes", "width"] (defScope sChd) := ⟨rfl, rfl, rfl, by decide +kernel, rfl, by decide +kernel, by decide +kernel⟩
theorem scApp : FnScope ["text", "changes"] ["text", "changes"] (defScope sApp) := ⟨rfl, rfl, rfl, by decide +kernel, rfl, by decide +kernel, by decide +kernel⟩
abbrev Ed := Nat × List Str
/-- edits as they stand, not at p -/
inductive EdAt (p : Addr) (H : Hp) : V → Ed → Prop
  | mk {c d : Addr} {n : Nat} {ws : List Str} : c ≠ p → d ≠ p → H c = some (.tup [.int (n : Int), .ref d]) → H d = some (.tup (txts ws)) → EdAt p H (.ref c) (n, ws)
inductive EdAll (p : Addr) (H : Hp) : List V → List Ed → Prop
  | nil : EdAll p H [] []
  | cons {v : V} {vs : List V} {e : Ed} {es : List Ed} : EdAt p H v e → EdAll p H vs es → EdAll p H (v :: vs) (e :: es)
section
variable {p : Addr} {H H' : Hp} {K : PySem.W.Frag}
theorem EdAt.xp {v : V} {e : Ed} (h : EdAt p H v e) (x : Xp p H H') : EdAt p H' v e := by
  cases h with
  | mk a b c d => exact .mk a b (x _ _ a c) (x _ _ b d)
theorem EdAll.xp (x : Xp p H H') : ∀ {vs : List V} {es : List Ed}, EdAll p H vs es → EdAll p H' vs es
  | _, _, .nil => .nil
  | _, _, .cons h r => .cons (h.xp x) (EdAll.xp x r)
theorem EdAll.up {vs : List V} {es : List Ed} (h : EdAll p H vs es) (e : Ex H H') : EdAll p H' vs es := h.xp (Xp.ex e)
theorem EdAt.mutL {l : Addr} {xs ys : List V} (hl : H l = some (.lst xs)) {v : V} {e : Ed} (h : EdAt p H v e) : EdAt p (upd H l (.lst ys)) v e := by
  cases h with
  | mk a b c d => exact .mk a b (by rw [upd_ne (ne_of c hl (by intro z; cases z))]; exact c) (by rw [upd_ne (ne_of d hl (by intro z; cases z))]; exact d)
theorem EdAll.mutL {l : Addr} {xs ys : List V} (hl : H l = some (.lst xs)) : ∀ {vs : List V} {es : List Ed}, EdAll p H vs es → EdAll p (upd H l (.lst ys)) vs es
  | _, _, .nil => .nil
  | _, _, .cons h r => .cons (h.mutL hl) (EdAll.mutL hl r)
theorem EdAll.append : ∀ {vs ws : List V} {es fs : List Ed}, EdAll p H vs es → EdAll p H ws fs → EdAll p H (vs ++ ws) (es ++ fs)
  | _, _, _, _, .nil, h => h
  | _, _, _, _, .cons h r, k => .cons h (EdAll.append r k)
theorem EdAll.length : ∀ {vs : List V} {es : List Ed}, EdAll p H vs es → vs.length = es.length
  | _, _, .nil => rfl
  | _, _, .cons _ r => by rw [List.length_cons, List.length_cons, EdAll.length r]
theorem EdAll.get : ∀ {vs : List V} {es : List Ed} {i : Nat} {v : V}, EdAll p H vs es → vs[i]? = some v → ∃ e, es[i]? = some e ∧ EdAt p H v e
  | _, _, 0, _, .cons h _, e => ⟨_, rfl, by cases e; exact h⟩
  | _, _, i + 1, _, .cons _ r, e => EdAll.get (i := i) r e
theorem EdAll.rev : ∀ {vs : List V} {es : List Ed}, EdAll p H vs es → EdAll p H vs.reverse es.reverse
  | _, _, .nil => .nil
  | _, _, .cons h r => by
    rw [List.reverse_cons, List.reverse_cons]
    exact (EdAll.rev r).append (.cons h .nil)
/-- their data -/
def edD (e : Ed) : PyData := .tuple [.int (e.1 : Int), .tuple (dtxts e.2)]
theorem EdAll.dp : ∀ {vs : List V} {es : List Ed}, EdAll p H vs es → DpAll K H vs (es.map edD)
  | _, _, .nil => .nil
  | _, _, .cons (.mk _ _ h1 h2) r => .cons (.tup (st_of h1) (.cons (.int _) (.cons (.tup (st_of h2) (dp_words _)) .nil))) (EdAll.dp r)
end
theorem txts_drop (ws : List Str) (n : Nat) : (txts ws).drop n = txts (ws.drop n) := List.map_drop.symm
theorem txts_take (ws : List Str) (n : Nat) : (txts ws).take n = txts (ws.take n) := List.map_take.symm
theorem txts_app (a b : List Str) : txts a ++ txts b = txts (a ++ b) := List.map_append.symm
theorem txts_len (a : List Str) : (txts a).length = a.length := List.length_map ..
/-- the text with the edits done -/
def spApp (fill : List V) : Sp := fun vs H Q _ => ∃ (p a b : Addr) (t : List Str) (us : List V) (es : List Ed), vs = [.ref a, .ref b] ++ fill ∧ H a = some (.tup (txts t)) ∧ H b = some (.tup us) ∧ EdAll p H us es ∧
  Asc t.length 0 es ∧ t.length ≤ 1000 ∧ wide es ≤ 1000 ∧ ∀ c H', Ex H H' → H' c = some (.tup (txts (chg t 0 es))) → Q (.ref c) H'
section
variable {P : Program} {w : World} {K : PySem.W.Frag} {mg : Str → Option Value} {base : Heap}
theorem ok_chd {f : Addr} {fd : FuncData} {k : Nat} (F : Fun K "changed" "changed" sChd f fd) (mT : mg "tuple" = none) : FnOk P w K mg base CX0 (k + 1) f fd ["text", "changes", "width"] (spApp [.int 1]) := by
  refine F.ok scChd (fun vs H Q E h => ?_) (fun cdv A outer s H vs Q E hr h => ?_)
  · obtain ⟨p, a, b, t, us, es, rfl, _⟩ := h
    rfl
  · obtain ⟨p, a, b, t, us, es, rfl, ha, hb, hE, hA, ht, hw, q⟩ := h
    refine ⟨_, pss_cons (ps_set (i := 3) scChd.nd rfl (.inl rfl) (pe_lst pa_nil))
      (pss_cons (ps_set (i := 4) scChd.nd rfl (.inl rfl) pe_int)
      (pss_cons (ps_for PassesOwn.never rfl (pi_tup (pv 1)) (pg_tup rfl (pgs_cons (pg_name (i := 5) scChd.nd rfl (.inl rfl)) (pgs_cons (pg_name (i := 6) scChd.nd rfl (.inl rfl)) pgs_nil)))
        (pss_cons (ps_expr (pe_bm PySem.F.plainAttrs_list PySem.F.slot_list_extend PySem.F.type_list_extend mt_extT (pv 3) (pa_cons (pe_slice sl_tupA (pv 0) (po_some (pv 4)) (po_some (pv 5))) pa_nil)))
        (pss_cons (ps_expr (pe_bm PySem.F.plainAttrs_list PySem.F.slot_list_extend PySem.F.type_list_extend mt_extT (pv 3) (pa_cons (pv 6) pa_nil)))
        (pss_one (ps_set (i := 4) scChd.nd rfl (.inl rfl) (pe_op op_add (pv 5) (pv 2)))))))
      (pss_cons (ps_expr (pe_bm PySem.F.plainAttrs_list PySem.F.slot_list_extend PySem.F.type_list_extend mt_extT (pv 3) (pa_cons (pe_slice sl_tupA (pv 0) (po_some (pv 4)) po_none) pa_nil)))
      (pss_one (ps_ret (pe_callTy call_tuple_of (by rfl) mT (by decide +kernel) (pa_cons (pv 3) pa_nil))))))), ?_⟩
    refine q_asgL (el_lst ea_nil (by decide)) fun l H1 hl e1 h1 => ?_
    refine q_asg (v := .int 0) ev_c fun H2 e2 => ?_
    have e12 := e1.trans e2
    have hlen := hE.length
    refine ⟨.ref b, rfl, b, rfl, ⟨_, st_of (e12 _ _ hb)⟩, for_tup (xs := us) (fun i σ H' => Ex H H' ∧ H' l = some (.lst (txts (got t 0 (es.take i)))) ∧ ∃ y5 y6, σ = [some (.ref a), some (.ref b), some (.int 1), some (.ref l), some (.int (stop 0 (es.take i) : Nat)), y5, y6])
      ⟨e12, e2 _ _ h1, none, none, rfl⟩ (fun i σ H' _ x => st_of (x.1 _ _ hb)) ?_ ?_⟩
    · rintro i x σ H' hx ⟨ei, hli, y5, y6, rfl⟩
      obtain ⟨ed, hed, hat⟩ := hE.get hx
      have hat' := hat.xp (Xp.ex ei)
      have hasc : Asc t.length 0 (es.take i ++ [ed]) := by
        have := asc_take t.length es 0 (i + 1) hA
        rwa [List.take_add_one, hed] at this
      have hwi : wide (es.take i ++ [ed]) ≤ 1000 := by
        have := wide_take es (i + 1)
        rw [List.take_add_one, hed] at this
        exact Nat.le_trans this hw
      cases hat' with
      | @mk c d n ws _ _ hc hd =>
      have hst := asc_stop t.length (es.take i) 0 n ws hasc
      have hgl := got_len t (es.take i) 0 (asc_take t.length es 0 i hA)
      rw [wide_app] at hwi
      have hwi' : wide (es.take i) + (ws.length + 0) ≤ 1000 := hwi
      refine ⟨c, [.int (n : Int), .ref d], rfl, st_of hc, rfl, .int (n : Int), [.ref d], rfl, .ref d, [], rfl, rfl, ?_⟩
      refine ⟨.ref l, rfl, .inl ⟨rfl, _, sq_of hli⟩, .ref a, rfl, .int (stop 0 (es.take i) : Nat), rfl, _, rfl, .int (n : Int), rfl, _, rfl, sl_join (ei _ _ ha) fun b1 H3 e3 hb1 => ?_⟩
      rw [cut_nn, txts_drop, txts_take] at hb1
      have hl0 : H l = none := hl
      have hl3 := e3 _ _ hli
      refine ⟨l, b1, _, _, rfl, rfl, hl3, hb1, sz_of (by rw [txts_len, txts_len, List.length_take, List.length_drop]; omega), ?_⟩
      have hd3 := e3 _ _ hd
      refine ⟨.ref l, rfl, .inl ⟨rfl, _, sq_of upd_same⟩, .ref d, rfl, l, d, _, _, rfl, rfl, upd_same, by rw [upd_ne (ne_of hd3 hl3 (by intro z; cases z))]; exact hd3, sz_of (by rw [List.length_append, txts_len, txts_len, txts_len, List.length_take, List.length_drop]; omega), ?_⟩
      refine ⟨.int (n : Int), rfl, .int 1, rfl, (n : Int), 1, rfl, rfl, ?_⟩
      refine ⟨Ex.mut (Ex.mut (ei.trans e3) hl0) hl0, ?_, some (.int (n : Int)), some (.ref d), ?_⟩
      · rw [upd_same, List.take_add_one, hed, txts_app, txts_app]
        show some (HO.lst (txts (got t 0 (es.take i) ++ List.take (n - stop 0 (es.take i)) (List.drop (stop 0 (es.take i)) t) ++ ws))) = some (HO.lst (txts (got t 0 (es.take i ++ [(n, ws)]))))
        rw [got_snoc, List.append_assoc]
      · rw [List.take_add_one, hed]
        show _ = [some (V.ref a), some (V.ref b), some (V.int 1), some (V.ref l), some (V.int ((stop 0 (es.take i ++ [(n, ws)]) : Nat) : Int)), some (V.int (n : Int)), some (V.ref d)]
        rw [stop_snoc]
        rfl
    · rintro σ H' ⟨ei, hli, y5, y6, rfl⟩
      rw [hlen, List.take_length] at hli
      rw [hlen, List.take_length]
      have hgl := got_len t es 0 hA
      have hsl := stop_le t.length es 0 hA (by omega)
      refine ⟨.ref l, rfl, .inl ⟨rfl, _, sq_of hli⟩, .ref a, rfl, .int (stop 0 es : Nat), rfl, _, rfl, ?_⟩
      dsimp only [tNoPart]
      refine sl_join (ei _ _ ha) fun b1 H3 e3 hb1 => ?_
      rw [cut_n, txts_drop] at hb1
      have hl3 := e3 _ _ hli
      refine ⟨l, b1, _, _, rfl, rfl, hl3, hb1, sz_of (by rw [txts_len, txts_len, List.length_drop]; omega), ?_⟩
      refine ⟨.ref l, rfl, l, _, rfl, .inl ⟨sq_of upd_same, fun c nc => ?_⟩⟩
      refine q c _ ((Ex.mut (ei.trans e3) hl).trans (Ex.new nc)) ?_
      rw [upd_same, txts_app, got_end]
theorem ok_app {f fC : Addr} {fd dC : FuncData} {k : Nat} {tP : Tok} (F : Fun K "apply_repair" "apply_repair" sApp f fd) (FC : Fun K "changed" "changed" sChd fC dC) (gC : mg "changed" = some (.ref fC)) (mP : mg "PLACE" = some (.int 1 tP)) (mT : mg "tuple" = none) :
    FnOk P w K mg base CX0 (k + 2) f fd ["text", "changes"] (spApp []) := by
  have b1 : Binds K dC ["text", "changes", "width"] [] := FC.binds fun _ _ _ _ _ _ us hl => match us, hl with | [_, _, _], _ => rfl
  refine F.ok scApp (fun vs H Q E h => ?_) (fun cdv A outer s H vs Q E hr h => ?_)
  · obtain ⟨p, a, b, t, us, es, rfl, _⟩ := h
    rfl
  · obtain ⟨p, a, b, t, us, es, rfl, h⟩ := h
    refine ⟨_, pss_one (ps_ret (pe_call (ok_chd FC mT) hr (by rfl) gC FC.kp b1 .nil pass0 (pa_cons (pv 0) (pa_cons (pv 1) (pa_cons (pe_glob (v := .int 1) (by rfl) mP ⟨_, rfl⟩) pa_nil))))), ?_⟩
    exact ⟨.ref a, rfl, .ref b, rfl, p, a, b, t, us, es, rfl, h⟩
/-- by names: the edits first -/
def kwAV : List V → List V → List V
  | [], [c, t] => [t, c]
  | _, _ => []
def kwAU : List Value → List Value → List Value
  | [], [c, t] => [t, c]
  | _, _ => []
theorem kwA_rel {vs zs : List V} {us ws : List Value} (r : Vals vs us) (rz : Vals zs ws) : Vals (kwAV vs zs) (kwAU us ws) := by
  cases r with
  | cons _ _ => exact .nil
  | nil =>
    cases rz with
    | nil => exact .nil
    | cons r1 rz =>
      cases rz with
      | nil => exact .nil
      | cons r2 rz =>
        cases rz with
        | nil => exact .cons r2 (.cons r1 .nil)
        | cons _ _ => exact .nil
theorem kb_app {f : Addr} {fd : FuncData} (F : Fun K "apply_repair" "apply_repair" sApp f fd) : KBinds K fd ["text", "changes"] ["changes", "text"] kwAU kwAV := by
  obtain ⟨oc, od, kV, dc, pm, an, cd, ct, sl, rfl, lk, hcd⟩ := F.ex
  refine ⟨fun s us ws _ hl => ?_, kwA_rel⟩
  match us, ws, hl with
  | [], [_, _], _ => exact .of_eq rfl
  | _ :: _, _, h => exact absurd h (by simp [kwAU])
  | [], [], h => exact absurd h (by simp [kwAU])
  | [], [_], h => exact absurd h (by simp [kwAU])
  | [], _ :: _ :: _ :: _, h => exact absurd h (by simp [kwAU])
end
end K29
namespace K29
open PySem PySem.Spec PyProof.Rows L2 Evl Es
theorem scSrc : FnScope ["_law_script", "_law_k", "_law_cell", "_law_own"] ["_law_script", "_law_k"] (defScope sSrc) := ⟨rfl, rfl, rfl, by decide +kernel, rfl, by decide +kernel, by decide +kernel⟩
theorem scDraw : FnScope ["_law_source_here", "_law_limit", "_law_digit", "_law_turn", "_law_prime", "_law_mixed"] ["_law_source_here", "_law_limit"] (defScope sDraw) := ⟨rfl, rfl, rfl, by decide +kernel, rfl, by decide +kernel, by decide +kernel⟩
theorem scPick : FnScope ["_law_source_here", "_law_some"] ["_law_source_here", "_law_some"] (defScope sPick) := ⟨rfl, rfl, rfl, by decide +kernel, rfl, by decide +kernel, by decide +kernel⟩
section
variable {P : Program} {w : World} {K : PySem.W.Frag} {mg : Str → Option Value} {base : Heap}
def primes : List V := [.int 2147483647, .int 2147483629, .int 2147483587, .int 2147483579, .int 2147483563]
theorem prime_at (j : Int) (h0 : 0 ≤ j) (h5 : j < 5) : ∃ r : Int, atI primes j = some (.int r) ∧ 0 < r ∧ r ≤ 2147483647 := by
  have : j = 0 ∨ j = 1 ∨ j = 2 ∨ j = 3 ∨ j = 4 := by omega
  rcases this with h | h | h | h | h <;> subst h <;> exact ⟨_, rfl, by decide, by decide⟩
theorem ok_draw {f : Addr} {fd : FuncData} {k : Nat} (F : Fun K "_law_draw" "_law_draw" sDraw f fd) : FnOk P w K mg base CX0 (k + 1) f fd ["_law_source_here", "_law_limit"] spTake := by
  refine F.ok scDraw (fun vs H Q E h => ?_) (fun cdv A outer s H vs Q E hr h => ?_)
  · obtain ⟨p, n, m, rfl, _⟩ := h
    rfl
  · obtain ⟨p, n, m, rfl, hn1, hn2, hm, hP, q⟩ := h
    obtain ⟨g, s0, c, hp, hg, hs0, hs1, hc0, hc1⟩ := hP
    refine ⟨_, pss_cons (ps_if (pt_cmpR op_gt (pe_ix ix_list (pv 0) pe_int (fun _ _ => rfl)) pe_int (nomark _))
        (pss_cons (ps_set (i := 2) scDraw.nd rfl (.inl rfl) (pe_op op_mod (pe_ix ix_list (pv 0) pe_int (fun _ _ => rfl)) (pv 1)))
        (pss_cons (ps_asg (pe_op op_fdiv (pe_ix ix_list (pv 0) pe_int (fun _ _ => rfl)) (pv 1)) (pg_sub (pv 0) pe_int set_list))
        (pss_one (ps_ret (pv 2))))) pss_nil)
      (pss_cons (ps_asg (pe_op op_add (pe_ix ix_list (pv 0) pe_int (fun _ _ => rfl)) pe_int) (pg_sub (pv 0) pe_int set_list))
      (pss_cons (ps_set (i := 3) scDraw.nd rfl (.inl rfl) (pe_ix ix_list (pv 0) pe_int (fun _ _ => rfl)))
      (pss_cons (ps_set (i := 4) scDraw.nd rfl (.inl rfl) (pe_ix ix_list (pe_lst (pa_cons pe_int (pa_cons pe_int (pa_cons pe_int (pa_cons pe_int (pa_cons pe_int pa_nil)))))) (pe_op op_mod (pv 3) pe_int) (fun _ _ => rfl)))
      (pss_cons (ps_set (i := 5) scDraw.nd rfl (.inl rfl) (pe_op op_mod (pe_op op_pow (pe_op op_add (pe_op op_add (pe_ix ix_list (pv 0) pe_int (fun _ _ => rfl))
        (pe_op op_mul (pe_op op_mul pe_int (pv 3)) (pv 3))) (pe_op op_mul pe_int (pv 3))) pe_int) (pv 4)))
      (pss_one (ps_ret (pe_op op_mod (pe_op op_fdiv (pe_op op_mod (pe_op op_mul (pv 5) (pe_op op_add (pe_op op_add (pe_op op_mod (pv 5) pe_int) (pe_op op_mul pe_int (pv 3))) pe_int)) (pv 4)) pe_int) (pv 1)))))))), ?_⟩
    have ix : ∀ {H1 : Hp} {σ : L2.St} {xs : List V} {j : Int} {v : V}, H1 p = some (.lst xs) → σ[0]? = some (some (.ref p)) → atI xs j = some v → Ev (tOp (rIxL K) (tVar 0) (tC (.int j))) σ H1 v :=
      fun h h0 ha => ev_op (ev_var h0) ev_c (rv_ixL (sq_of h) ha)
    refine q_when (et_test (ev_op (ix hp rfl rfl) ev_c rv_I0)) (fun hb H1 e1 => ?_) (fun hb H1 e1 => ?_)
    · refine q_asg (ev_op (ix (e1 _ _ hp) rfl rfl) (ev_var rfl) (rv_I (by show (0 : Int) < n; omega))) fun H2 e2 => ?_
      refine q_setL (j := 0) (e2 _ _ (e1 _ _ hp)) (ev_op (ix (e2 _ _ (e1 _ _ hp)) rfl rfl) (ev_var rfl) (rv_I ⟨by omega, by omega⟩)) (ev_var rfl) ev_c (by show 0 < 3; decide) fun H3 e3 => ?_
      refine s_ret (ev_var rfl) fun H4 e4 => ?_
      refine q (g % n) H4 (Int.emod_nonneg _ (by omega)) (Int.emod_lt_of_pos _ (by omega)) (((Xp.ex ((e1.trans e2).trans e3)).trans Xp.upd).trans (Xp.ex e4)) ?_
      exact ⟨g / n, s0, c, e4 _ _ upd_same, Int.ediv_nonneg hg (by omega), hs0, hs1, hc0, by omega⟩
    · refine q_setL (j := 2) (e1 _ _ hp) (ev_op (ix (e1 _ _ hp) rfl rfl) ev_c rv_I0) (ev_var rfl) ev_c (by show 2 < 3; decide) fun H2 e2 => ?_
      generalize hH3 : upd H2 p _ = H3
      have hp3 : H3 p = some (.lst [.int g, .int s0, .int (c + 1)]) := by rw [← hH3]; exact upd_same
      have x3 : Xp p H H3 := (Xp.ex (e1.trans e2)).trans (by rw [← hH3]; exact Xp.upd)
      refine q_asg (v := .int (c + 1)) (ix hp3 rfl rfl) fun H3' e3' => ?_
      have hp3' := e3' _ _ hp3
      obtain ⟨r, hr1, hr2, hr3⟩ := prime_at ((c + 1) % 5) (Int.emod_nonneg _ (by omega)) (Int.emod_lt_of_pos _ (by omega))
      refine q_asg (v := .int r) (ev_opL1 (el_lst (ea_cons ev_c (ea_cons ev_c (ea_cons ev_c (ea_cons ev_c (ea_cons ev_c ea_nil))))) (by decide)) (fun H4 e4 => ev_op (ev_var rfl) ev_c (rv_I (by show (0 : Int) < 5; decide)))
        (fun l H4 hl e4 => rv_ixL (sq_of hl) hr1)) fun H4 e4 => ?_
      have hp4 := e4 _ _ hp3'
      have b1 : (c + 1) * (c + 1) ≤ 200000 * 200000 := Int.mul_le_mul (by omega) (by omega) (by omega) (by omega)
      have b0 : 0 ≤ (c + 1) * (c + 1) := Int.mul_nonneg (by omega) (by omega)
      have b2 : 7919 * (c + 1) * (c + 1) = 7919 * ((c + 1) * (c + 1)) := Int.mul_assoc _ _ _
      generalize (c + 1) * (c + 1) = cc at b1 b0 b2
      refine q_asg (ev_op (ev_op (ev_op (ev_op (ix hp4 rfl rfl) (ev_op (ev_op ev_c (ev_var rfl) (rv_I (.inl ⟨by decide, by decide⟩))) (ev_var rfl) (rv_I (.inl ⟨by show -(2 ^ 64) < 7919 * (c + 1); omega, by show 7919 * (c + 1) < 2 ^ 64; omega⟩))) rv_I0)
        (ev_op ev_c (ev_var rfl) (rv_I (.inl ⟨by decide, by decide⟩))) rv_I0) ev_c
        (rv_I ⟨by decide, by decide, by rw [b2]; omega⟩)) (ev_var rfl) (rv_I (by show (0 : Int) < r; exact hr2))) fun H5 e5 => ?_
      generalize hM : ((s0 + 7919 * (c + 1) * (c + 1) + 23 * (c + 1)) ^ (3 : Int).toNat % r : Int) = M
      have M0 : 0 ≤ M := by rw [← hM]; exact Int.emod_nonneg _ (by omega)
      have M1 : M < r := by rw [← hM]; exact Int.emod_lt_of_pos _ hr2
      refine s_ret (ev_op (ev_op (ev_op (ev_op (ev_var rfl) (ev_op (ev_op (ev_op (ev_var rfl) ev_c (rv_I (by show (0 : Int) < 1013; decide))) (ev_op ev_c (ev_var rfl) (rv_I (.inl ⟨by decide, by decide⟩))) rv_I0) ev_c rv_I0)
        (rv_I (.inl ⟨by show -(2 ^ 64) < M; omega, by show M < 2 ^ 64; omega⟩))) (ev_var rfl) (rv_I (by show (0 : Int) < r; exact hr2))) ev_c (rv_I ⟨by decide, by decide⟩)) (ev_var rfl) (rv_I (by show (0 : Int) < n; omega))) fun H6 e6 => ?_
      exact q _ H6 (Int.emod_nonneg _ (by omega)) (Int.emod_lt_of_pos _ (by omega)) (x3.trans (Xp.ex (((e3'.trans e4).trans e5).trans e6))) ⟨g, s0, c + 1, e6 _ _ (e5 _ _ hp4), hg, hs0, hs1, by omega, by omega⟩
def absI (i : Int) : Int := if i < 0 then -i else i
def rAbs : List V → Hp → VK → Prop := fun xs H Q => ∃ i, xs = [.int i] ∧ Q (.int (absI i)) H
theorem rc_abs {H : Hp} {i : Int} : RC rAbs [.int i] H (.int (absI i)) := fun H1 _ _ q => ⟨i, rfl, q H1 (Ex.refl _)⟩
theorem rc_lenL {H : Hp} {a : Addr} {xs : List V} (h : SqL K H a xs) : RC (rLenS K) [.ref a] H (.int (xs.length : Int)) := fun H1 e _ q => ⟨a, xs, rfl, .inl (ex_l e h), q H1 (Ex.refl _)⟩
def rInt1 : List V → Hp → VK → Prop := fun xs H Q => (∃ i, xs = [.int i] ∧ Q (.int i) H) ∨ ∃ k, xs = [.bl k] ∧ Q (.int (if k then 1 else 0)) H
theorem rc_intB {H : Hp} {b : Bool} : RC rInt1 [.bl b] H (.int (if b = true then 1 else 0)) := fun H1 _ _ q => .inr ⟨b, rfl, q H1 (Ex.refl _)⟩
/-- the pot of a cell -/
def spSrc (K : PySem.W.Frag) : Sp := fun vs H Q _ => ∃ (a : Addr) (k : Nat) (ns : List Int), vs = [.ref a, .int (k : Int)] ∧ k ≤ 10 ∧ SqL K H a (ns.map V.int) ∧
  ∀ p H', H p = none → Ex H H' → Pot H' p 0 → Q (.ref p) H'
theorem ok_src {f : Addr} {fd : FuncData} {k : Nat} (F : Fun K "_law_source" "_law_source" sSrc f fd) (ml : mg "len" = none) (ma : mg "abs" = none) (mI : mg "int" = none) : FnOk P w K mg base CX0 (k + 1) f fd ["_law_script", "_law_k"] (spSrc K) := by
  refine F.ok scSrc (fun vs H Q E h => ?_) (fun cdv A outer s H vs Q E hr h => ?_)
  · obtain ⟨a, n, ns, rfl, _⟩ := h
    rfl
  · obtain ⟨a, n, ns, rfl, hn, hS, q⟩ := h
    refine ⟨_, pss_cons (ps_set (i := 2) scSrc.nd rfl (.inl rfl) (pe_ifExp (pt_cmpR op_lt (pv 1) (pe_callB call_len_seq (by rfl) ml PySem.boot_len (pa_cons (pv 0) pa_nil)) (nomark _))
        (pe_ix ix_list (pv 0) (pv 1) (fun _ _ => rfl)) (pe_op op_add (pe_op op_mul pe_int (pv 1)) pe_int)))
      (pss_cons (ps_set (i := 3) scSrc.nd rfl (.inl rfl) (pe_op op_mul (pe_op op_mod (pe_callB call_abs (by rfl) ma boot_abs (pa_cons (pv 2) pa_nil)) (pe_op op_powW (pe_op op_pow pe_int pe_int) pe_int))
        (pe_callTy call_int1 (by rfl) mI (by decide +kernel) (pa_cons (pe_cmpR op_ge (pe_callB call_abs (by rfl) ma boot_abs (pa_cons (pv 2) pa_nil)) (pe_op op_pow pe_int pe_int) (nomark _)) pa_nil))))
      (pss_one (ps_ret (pe_lst (pa_cons (pv 3) (pa_cons (pe_op op_mod (pe_op op_mul (pe_op op_add (pe_op op_add (pe_op op_mod (pv 2) pe_int) (pe_op op_mul pe_int (pv 1))) pe_int) pe_int) pe_int) (pa_cons pe_int pa_nil))))))), ?_⟩
    have hcell : ∃ c : Int, ((n : Int) < ((ns.map V.int).length : Int) → atI (ns.map V.int) (n : Int) = some (.int c)) ∧ (¬ (n : Int) < ((ns.map V.int).length : Int) → 13 * (n : Int) + 7 = c) := by
      by_cases hlt : n < ns.length
      · refine ⟨ns[n], fun _ => atI_nat ?_, fun z => absurd (by rw [List.length_map]; omega) z⟩
        rw [List.getElem?_map, List.getElem?_eq_getElem hlt]
        rfl
      · exact ⟨_, fun z => absurd z (by rw [List.length_map]; omega), fun _ => rfl⟩
    obtain ⟨c, hc1, hc2⟩ := hcell
    refine q_asg (v := .int c) (ev_if (et_test (ev_op (ev_var rfl) (ev_cb (ea_cons (ev_var rfl) ea_nil) (rc_lenL hS)) rv_I0)) (fun hb => ev_op (ev_var rfl) (ev_var rfl) (rv_ixL hS (hc1 (of_decide_eq_true hb))))
      (fun hb => ev_is (ev_op (ev_op ev_c (ev_var rfl) (rv_I (.inl ⟨by decide, by decide⟩))) ev_c rv_I0) (by rw [hc2 (of_decide_eq_false hb)]))) fun H1 e1 => ?_
    obtain ⟨g, hg0, hge⟩ : ∃ g : Int, 0 ≤ g ∧ absI c % (10 ^ (60 : Int).toNat) ^ (4 : Int).toNat * (if decide (absI c ≥ 10 ^ (18 : Int).toNat) = true then 1 else 0) = g := by
      refine ⟨_, Int.mul_nonneg (Int.emod_nonneg _ (by decide)) ?_, rfl⟩
      split <;> decide
    refine q_asg (v := .int g) (ev_is (ev_op (ev_op (ev_cb (ea_cons (ev_var rfl) ea_nil) rc_abs) (ev_op (ev_op ev_c ev_c (rv_I ⟨by decide, by decide, by decide⟩)) ev_c (rv_I (show CPowW _ _ from ⟨by decide, by decide +kernel⟩))) (rv_I (by decide)))
      (ev_cb (ea_cons (ev_op (ev_cb (ea_cons (ev_var rfl) ea_nil) rc_abs) (ev_op ev_c ev_c (rv_I ⟨by decide, by decide, by decide⟩)) rv_I0) ea_nil) (rc_intB)) (rv_I (.inr (by split <;> decide)))) (by rw [hge])) fun H2 e2 => ?_
    have m0 := Int.emod_nonneg c (show (2305843009213693951 : Int) ≠ 0 by decide)
    have m1 := Int.emod_lt_of_pos c (show (0 : Int) < 2305843009213693951 by decide)
    refine s_retL (el_lst (ea_cons (ev_var rfl) (ea_cons (ev_op (ev_op (ev_op (ev_op (ev_op (ev_var rfl) ev_c (rv_I (by show (0 : Int) < 2305843009213693951; decide)))
      (ev_op ev_c (ev_var rfl) (rv_I (.inl ⟨by decide, by decide⟩))) rv_I0) ev_c rv_I0) ev_c (rv_I (.inr ⟨by decide, by decide⟩))) ev_c (rv_I (by show (0 : Int) < 2147483399; decide))) (ea_cons ev_c ea_nil))) (by show 3 ≤ 100000; decide)) fun p H3 hp e3 h3 => ?_
    refine q p H3 (fresh_back (e1.trans e2) hp) ((e1.trans e2).trans e3) ⟨g, _, 0, h3, hg0, Int.emod_nonneg _ (by decide), ?_, by decide, by decide⟩
    refine Int.lt_trans (Int.emod_lt_of_pos _ (by decide)) (by decide)
def spPickL : Sp := fun vs H Q _ => ∃ (p a : Addr) (m : Int) (xs : List V), vs = [.ref p, .ref a] ∧ m ≤ 100000 ∧ Pot H p m ∧ a ≠ p ∧ H a = some (.lst xs) ∧ 1 ≤ xs.length ∧ xs.length ≤ 1000 ∧
  ∀ v H', v ∈ xs → Xp p H H' → Pot H' p (m + 1) → Q v H'
theorem ok_pickL {f fT : Addr} {fd fdT : FuncData} {k : Nat} (F : Fun K "_law_pick" "_law_pick" sPick f fd) (FT : Fun K "_law_draw" "_law_draw" sDraw fT fdT) (bT : Binds K fdT ["_law_source_here", "_law_limit"] []) (gT : mg "_law_draw" = some (.ref fT)) (ml : mg "len" = none) :
    FnOk P w K mg base CX0 (k + 2) f fd ["_law_source_here", "_law_some"] spPickL := by
  refine F.ok scPick (fun vs H Q E h => ?_) (fun cdv A outer s H vs Q E hr h => ?_)
  · obtain ⟨p, a, m, xs, rfl, _⟩ := h
    rfl
  · obtain ⟨p, a, m, xs, rfl, hm, hP, hne, ha, h1, h2, q⟩ := h
    refine ⟨_, pss_one (ps_ret (pe_ix ix_list (pv 1) (pe_call (ok_draw FT) hr (by rfl) gT FT.kp bT .nil pass0 (pa_cons (pv 0) (pa_cons (pe_callB call_len_seq (by rfl) ml PySem.boot_len (pa_cons (pv 1) pa_nil)) pa_nil))) (fun _ _ => rfl))), ?_⟩
    refine ⟨_, rfl, _, rfl, _, rfl, a, xs, rfl, .inl (sq_of ha), p, _, m, rfl, by omega, by omega, hm, hP, fun r H' h0 h3 x pp => ?_⟩
    have hc : r.toNat < xs.length := by omega
    refine ⟨a, xs, r, xs[r.toNat], rfl, rfl, sq_of (x a _ hne ha), ?_, q _ H' (List.getElem_mem hc) x pp⟩
    have := atI_nat (xs := xs) (j := r.toNat) (v := xs[r.toNat]) (List.getElem?_eq_getElem hc)
    rw [Int.toNat_of_nonneg h0] at this
    exact this
end
end K29
namespace K29
open PySem PySem.Spec PyProof.Rows L2 Evl Es
abbrev nWords : List Str := ["_law_source_here", "_law_many", "_law_stem", "_law_first", "_law_leap", "_law_at", "_law_letters", "_law_k", "_law_letter"]
theorem scWords : FnScope nWords ["_law_source_here", "_law_many"] (defScope sWords) := ⟨rfl, rfl, rfl, by decide +kernel, rfl, by decide +kernel, by decide +kernel⟩
abbrev nChs : List Str := ["_law_source_here", "_law_words_here", "_law_size", "_law_found", "_law_spot", "_law_k"]
theorem scChs : FnScope nChs ["_law_source_here", "_law_words_here", "_law_size"] (defScope sChs) := ⟨rfl, rfl, rfl, by decide +kernel, rfl, by decide +kernel, by decide +kernel⟩
/-- ordinary signs -/
def Sm (x : Str) : Prop := (x.cps.toList.all fun c => decide (c < 16 ^ 8)) = true
theorem Sm.app {x y : Str} (a : Sm x) (b : Sm y) : Sm (x ++ y) := by
  unfold Sm at *
  show ((x.cps ++ y.cps).toList.all _) = true
  rw [Array.toList_append, List.all_append, a, b]
  rfl
theorem Sm.cut {x : Str} (a : Sm x) (lo hi : Option Int) : Sm (cutS x lo hi) := by
  unfold Sm at *
  rw [List.all_eq_true] at *
  intro c hc
  refine a c ?_
  have hc' : c ∈ (List.toArray ((x.cps.toList.drop (HT.sIx x.cps.size 0 lo)).take (HT.sIx x.cps.size x.cps.size hi - HT.sIx x.cps.size 0 lo))).toList := hc
  rw [List.toList_toArray] at hc'
  exact List.mem_of_mem_drop (List.mem_of_mem_take hc')
theorem Sm.glue : ∀ ys : List Str, (∀ y ∈ ys, Sm y) → Sm (Str.join "" ys)
  | [], _ => rfl
  | [y], h => h y (List.mem_singleton.mpr rfl)
  | x :: z :: r, h => by
    show Sm (x ++ "" ++ Str.join "" (z :: r))
    exact ((h x (List.mem_cons_self ..)).app (show Sm "" from rfl)).app (Sm.glue (z :: r) fun y hy => h y (List.mem_cons_of_mem _ hy))
def six : Str := "aeknrt"
def abc : Str := "abcdefghijklmnopqrstuvwxyz"
theorem six_sm : ∀ v ∈ six.cps.toList.map (fun c => V.str ⟨#[c]⟩), ∃ y : Str, v = .str y ∧ y.length = 1 ∧ Sm y := by
  intro v hv
  obtain ⟨c, hc, rfl⟩ := List.mem_map.mp hv
  refine ⟨_, rfl, rfl, ?_⟩
  have : ∀ c ∈ six.cps.toList, c < 16 ^ 8 := by decide
  show (([c] : List Nat).all fun c => decide (c < 16 ^ 8)) = true
  simp [this c hc]
theorem abc_sm (r : Nat) (h : r < 26) : ∃ c, abc.cps[r]? = some c ∧ Sm ⟨#[c]⟩ := by
  have hs : r < abc.cps.size := h
  refine ⟨abc.cps[r], by simp [hs], ?_⟩
  have : ∀ c ∈ abc.cps.toList, c < 16 ^ 8 := by decide
  have := this abc.cps[r] (by simp)
  show (([abc.cps[r]] : List Nat).all fun c => decide (c < 16 ^ 8)) = true
  simp [this]
section
variable {P : Program} {w : World} {K : PySem.W.Frag} {mg : Str → Option Value} {base : Heap}
/-- a list of words to draw from -/
def Bag (p : Addr) (H : Hp) (m : Addr) : Prop := m ≠ p ∧ ∃ W : List Str, H m = some (.lst (txts W)) ∧ W.length = 4 ∧ ∀ x ∈ W, Wd x
theorem Bag.xp {p m : Addr} {H H' : Hp} (h : Bag p H m) (e : Xp p H H') : Bag p H' m := by
  obtain ⟨n, W, hm, h1, h2⟩ := h
  exact ⟨n, W, e _ _ n hm, h1, h2⟩
def spWords : Sp := fun vs H Q _ => ∃ (p : Addr) (m : Int), vs = [.ref p, .int 4] ∧ 0 ≤ m ∧ m ≤ 90000 ∧ Pot H p m ∧ ∀ b H', Bag p H' b → Xp p H H' → Pot H' p (m + 10) → Q (.ref b) H'
theorem ok_words {f fT fP : Addr} {fd fdT fdP : FuncData} {k : Nat} (F : Fun K "_law_words" "_law_words" sWords f fd) (FT : Fun K "_law_draw" "_law_draw" sDraw fT fdT) (bT : Binds K fdT ["_law_source_here", "_law_limit"] []) (gT : mg "_law_draw" = some (.ref fT))
    (FP : Fun K "_law_pick" "_law_pick" sPick fP fdP) (bP : Binds K fdP ["_law_source_here", "_law_some"] []) (gP : mg "_law_pick" = some (.ref fP)) (ml : mg "len" = none) (mr : mg "range" = none) (mL : mg "list" = none) :
    FnOk P w K mg base CX0 (k + 3) f fd ["_law_source_here", "_law_many"] spWords := by
  refine F.ok scWords (fun vs H Q E h => ?_) (fun cdv A outer s H vs Q E hr h => ?_)
  · obtain ⟨p, m, rfl, _⟩ := h
    rfl
  · obtain ⟨p, m, rfl, hm0, hm, hP, q⟩ := h
    have G1 : FnOk P w K mg base CX0 (k + 2) fT fdT ["_law_source_here", "_law_limit"] spTake := ok_draw FT
    have G3 : FnOk P w K mg base CX0 (k + 2) fP fdP ["_law_source_here", "_law_some"] spPickL := ok_pickL FP FT bT gT ml
    refine ⟨_, pss_cons (ps_set (i := 2) scWords.nd rfl (.inr rfl) (pe_join pe_str (pe_lc (own := [("_law_k", 7)]) (g := gName 7) (tt := tYes) rfl scWords.nd
          (pi_range1 (by rfl) mr (pa_cons (pe_call G1 hr (by rfl) gT FT.kp bT .nil pass0 (pa_cons (pv 0) (pa_cons pe_int pa_nil))) pa_nil))
          (blkOk_by (N := nWords) (sc := defScope sWords) (own := [("_law_k", 7)]) (by decide +kernel)) (fun _ _ _ _ _ => pg_name (i := 7) scWords.nd rfl (Or.inl rfl)) (fun _ _ _ _ _ => pts_nil)
          (fun _ _ _ _ _ => pe_call G3 hr (by rfl) gP FP.kp bP .nil pass0 (pa_cons (pv 0) (pa_cons (pe_callTy (cr_listStr rfl) (by rfl) mL (by decide +kernel) (pa_cons pe_str pa_nil)) pa_nil))))))
      (pss_cons (ps_asg (pe_tup (pa_cons (pe_call G1 hr (by rfl) gT FT.kp bT .nil pass0 (pa_cons (pv 0) (pa_cons pe_int pa_nil)))
          (pa_cons (pe_call G3 hr (by rfl) gP FP.kp bP .nil pass0 (pa_cons (pv 0) (pa_cons (pe_lst (pa_cons pe_int (pa_cons pe_int (pa_cons pe_int (pa_cons pe_int (pa_cons pe_int (pa_cons pe_int pa_nil))))))) pa_nil))) pa_nil)))
          (pg_tup rfl (pgs_cons (pg_name (i := 3) scWords.nd rfl (.inr rfl)) (pgs_cons (pg_name (i := 4) scWords.nd rfl (.inr rfl)) pgs_nil))))
      (pss_cons (ps_set (i := 5) scWords.nd rfl (.inr rfl) (pe_call G1 hr (by rfl) gT FT.kp bT .nil pass0 (pa_cons (pv 0) (pa_cons (pe_op op_add (pe_callB call_len (by rfl) ml PySem.boot_len (pa_cons (pv 2) pa_nil)) pe_int) pa_nil))))
      (pss_cons (ps_setLc (i := 6) (own := [("_law_k", 7)]) (g := gName 7) (tt := tYes) rfl scWords.nd rfl rfl (sw_true rfl rfl rfl (by decide +kernel))
          (pi_range1 (by rfl) mr (pa_cons (pv 1) pa_nil))
          (blkOk_by (N := nWords) (sc := defScope sWords) (own := [("_law_k", 7)]) (by decide +kernel)) (fun _ _ _ _ _ => pg_name (i := 7) scWords.nd rfl (Or.inl rfl)) (fun _ _ _ _ _ => pts_nil)
          (fun _ _ _ _ _ => pe_item_str pe_str (pe_op op_mod (pe_op op_add (pv 3) (pe_op op_mul (pv 4) (pv 7))) pe_int) (fun _ _ => rfl)))
      (pss_one (ps_ret (pe_lc (own := [("_law_letter", 8)]) (g := gName 8) (tt := tYes) rfl scWords.nd (pi_list (pv 6))
          (blkOk_by (N := nWords) (sc := defScope sWords) (own := [("_law_letter", 8)]) (by decide +kernel)) (fun _ _ _ _ _ => pg_name (i := 8) scWords.nd rfl (Or.inl rfl)) (fun _ _ _ _ _ => pts_nil)
          (fun _ _ _ _ _ => pe_op op_add_str (pe_op op_add_str (pe_slice sl_str (pv 2) po_none (po_some (pv 5))) (pv 8)) (pe_slice sl_str (pv 2) (po_some (pv 5)) po_none)))))))), ?_⟩
    -- the stem
    refine ⟨⟨_, rfl⟩, .ref p, rfl, p, 4, m, rfl, by decide, by decide, by omega, hP, fun n H2 n0 n1 x2 P2 => ?_⟩
    refine ⟨n, rfl, by omega, by omega, fun D nD => lc_range (lo := 0) (n := n.toNat) (g := gName 7) (tt := tYes) (vs := [7]) (fun i H' => Xp p H2 H' ∧ Pot H' p (m + 1 + i) ∧ ∃ ys : List Str, H' D = some (.lst (ys.map V.str)) ∧ ys.length = i ∧ (∀ y ∈ ys, y.length = 1) ∧ ∀ y ∈ ys, Sm y) ?_ ?_ ?_⟩
    · exact ⟨(Xp.refl _ _).mut nD, (P2.up (Ex.new nD)).more (by omega), [], upd_same, rfl, (fun _ z => nomatch z), (fun _ z => nomatch z)⟩
    · rintro i H' hi ⟨xi, Pi, ys, hD, hl, h1, h2⟩
      refine ⟨rfl, .ref p, rfl, six, rfl, by decide, fun l nl => ?_⟩
      have el := Ex.new (o := .lst (six.cps.toList.map fun c => V.str ⟨#[c]⟩)) nl
      refine ⟨p, l, m + 1 + i, _, rfl, by omega, Pi.up el, Pi.ne nl, upd_same, by decide, by decide, fun v H3 hv x3 P3 => ?_⟩
      obtain ⟨y, rfl, y1, y2⟩ := six_sm v hv
      refine ⟨ys.map V.str, x3 D _ (P2.ne nD) (el _ _ hD), ?_, ((xi.trans (Xp.ex el)).trans x3).mut nD, ?_, ys ++ [y], ?_, ?_, ?_, ?_⟩
      · rw [List.length_map]
        exact sz_lt (by omega)
      · obtain ⟨g, s0, c0, hh, r1, r2, r3, r4, r5⟩ := P3
        refine ⟨g, s0, c0, ?_, r1, r2, r3, r4, by omega⟩
        rw [upd_ne (P2.ne nD).symm]
        exact hh
      · rw [upd_same, List.map_append]
        rfl
      · rw [List.length_append, hl]
        rfl
      · intro y' hy
        rcases List.mem_append.mp hy with z | z
        · exact h1 y' z
        · rw [List.mem_singleton.mp z]
          exact y1
      · intro y' hy
        rcases List.mem_append.mp hy with z | z
        · exact h2 y' z
        · rw [List.mem_singleton.mp z]
          exact y2
    rintro H3 ⟨x3, P3, ys, hD, hl, h1, h2⟩
    have hsum : (ys.map (·.length)).sum = ys.length := by
      clear hD hl h2
      induction ys with
      | nil => rfl
      | cons y r ih =>
        rw [List.map_cons, List.sum_cons, ih (fun z hz => h1 z (List.mem_cons_of_mem _ hz)), h1 y (List.mem_cons_self ..), List.length_cons]
        omega
    refine ⟨"", D, ys, rfl, rfl, .inl (sq_of hD), ?_, ?_⟩
    · rw [hsum]
      show ys.length + ys.length * 0 ≤ 16777216
      omega
    have hz : (Txt.join "" ys).length ≤ 3 := by
      rw [TL.join_eq, len_glue ys h1]
      omega
    have hzs : Sm (Txt.join "" ys) := by
      rw [TL.join_eq]
      exact Sm.glue ys h2
    generalize Txt.join "" ys = z at hz hzs
    have P3' : Pot H3 p (m + 4) := P3.more (by omega)
    clear P3 hD h1 h2 hsum
    -- first, leap
    refine ⟨.ref p, rfl, p, 26, m + 4, rfl, by decide, by decide, by omega, P3', fun fst H4 f0 f1 x4 P4 => ?_⟩
    refine ⟨.ref p, rfl, sz_of (by decide), fun l nl => ?_⟩
    have el := Ex.new (o := .lst [.int 1, .int 3, .int 5, .int 7, .int 9, .int 11]) nl
    refine ⟨p, l, m + 4 + 1, _, rfl, by omega, P4.up el, P4.ne nl, upd_same, by decide, by decide, fun lv H5 hlv x5 P5 => ?_⟩
    obtain ⟨leap, rfl, l0, l1⟩ : ∃ leap : Int, lv = .int leap ∧ 0 ≤ leap ∧ leap ≤ 11 := by
      simp only [List.mem_cons, List.not_mem_nil, or_false] at hlv
      rcases hlv with rfl | rfl | rfl | rfl | rfl | rfl <;> exact ⟨_, rfl, by decide, by decide⟩
    refine ⟨sz_of (by show 2 ≤ 100000; decide), fun tp ntp => ?_⟩
    have et := Ex.new (o := .tup [.int fst, .int leap]) ntp
    refine ⟨tp, [.int fst, .int leap], rfl, st_of upd_same, rfl, .int fst, [.int leap], rfl, .int leap, [], rfl, rfl, ?_⟩
    -- the place
    refine ⟨.ref p, rfl, .str z, rfl, .str z, z.length, rfl, ⟨sz_of (by omega), rfl⟩, (z.length : Int), 1, rfl, rfl, p, _, m + 4 + 1 + 1, rfl, by omega, by omega, by omega, P5.up et, fun at_ H6 a0 a1 x6 P6 => ?_⟩
    -- the letters
    refine ⟨.int 4, rfl, 4, rfl, by decide, by decide, fun D2 nD2 => lc_range (lo := 0) (n := 4) (g := gName 7) (tt := tYes) (vs := [7]) (fun i H' => Ex H6 H' ∧ ∃ ys : List Str, H' D2 = some (.lst (ys.map V.str)) ∧ ys.length = i ∧ (∀ y ∈ ys, y.length = 1) ∧ ∀ y ∈ ys, Sm y) ?_ ?_ ?_⟩
    · exact ⟨Ex.new nD2, [], upd_same, rfl, (fun _ z => nomatch z), (fun _ z => nomatch z)⟩
    · rintro i H' hi ⟨ei, ys, hD, hl, h1, h2⟩
      have hm0' : 0 ≤ (fst + leap * (0 + (i : Int))) % 26 := Int.emod_nonneg _ (by decide)
      have hm1' : (fst + leap * (0 + (i : Int))) % 26 < 26 := Int.emod_lt_of_pos _ (by decide)
      obtain ⟨c, hc, hcs⟩ := abc_sm ((fst + leap * (0 + (i : Int))) % 26).toNat (by omega)
      refine ⟨rfl, .int fst, rfl, .int leap, rfl, .int (0 + (i : Int)), rfl, leap, 0 + (i : Int), rfl, rfl, .inl ⟨by omega, by omega⟩, fst, _, rfl, rfl, _, 26, rfl, rfl, by show (0 : Int) < 26; decide, abc, _, c, rfl, rfl, hm0', by omega, by show _ < (26 : Int); exact hm1', hc, ?_⟩
      refine ⟨ys.map V.str, hD, ?_, Ex.mut ei nD2, ys ++ [⟨#[c]⟩], ?_, ?_, ?_, ?_⟩
      · rw [List.length_map]
        exact sz_lt (by omega)
      · rw [upd_same, List.map_append]
        rfl
      · rw [List.length_append, hl]
        rfl
      · intro y' hy
        rcases List.mem_append.mp hy with z | z
        · exact h1 y' z
        · rw [List.mem_singleton.mp z]
          rfl
      · intro y' hy
        rcases List.mem_append.mp hy with z | z
        · exact h2 y' z
        · rw [List.mem_singleton.mp z]
          exact hcs
    rintro H7 ⟨e7, ys2, hD2, hl2, h12, h22⟩
    -- the words
    have hl2' : ys2.length = 4 := hl2
    refine ⟨.ref D2, rfl, D2, rfl, ⟨_, sq_of hD2⟩, fun D3 nD3 => lc_list (xs := ys2.map V.str) (g := gName 8) (tt := tYes) (vs := [8]) (fun i H' => Ex H7 H' ∧ ∃ W : List Str, H' D3 = some (.lst (txts W)) ∧ W.length = i ∧ ∀ x ∈ W, Wd x) ⟨Ex.new nD3, [], upd_same, rfl, (fun _ z => nomatch z)⟩ (fun i H' _ x => sq_of (x.1 _ _ hD2)) ?_ ?_⟩
    · rintro i x H' hx ⟨ei, W, hW, hWl, hWd⟩
      rw [List.getElem?_map] at hx
      obtain ⟨y, hy, rfl⟩ := Option.map_eq_some_iff.mp hx
      have hym := List.mem_of_getElem? hy
      have c1 := cut_le z none (some at_)
      have c2 := cut_le z (some at_) none
      have y1 := h12 y hym
      have hi4 : i < 4 := by
        have := (List.getElem?_eq_some_iff.mp hy).1
        omega
      refine ⟨rfl, .str z, rfl, .int at_, rfl, at_, rfl, z, rfl, sz_of (by omega), .str y, rfl, _, _, rfl, rfl, sz_of (by omega), .str z, rfl, .int at_, rfl, at_, rfl, z, rfl, sz_of (by omega), _, _, rfl, rfl, sz_of (by rw [PySem.Str.length_append]; omega), ?_⟩
      refine ⟨txts W, hW, ?_, Ex.mut ei nD3, W ++ [cutS z none (some at_) ++ y ++ cutS z (some at_) none], ?_, ?_, ?_⟩
      · rw [txts_len]
        exact sz_lt (by omega)
      · rw [upd_same, ← txts_app]
        rfl
      · rw [List.length_append, hWl]
        rfl
      · intro x' hx'
        rcases List.mem_append.mp hx' with u | u
        · exact hWd x' u
        · rw [List.mem_singleton.mp u]
          refine ⟨?_, ((hzs.cut none (some at_)).app (h22 y hym)).app (hzs.cut (some at_) none)⟩
          rw [PySem.Str.length_append, PySem.Str.length_append]
          omega
    rintro H8 ⟨e8, W, hW, hWl, hWd⟩
    have P6' : Pot H7 p (m + 10) := (P6.up e7).more (by omega)
    refine q D3 H8 ⟨P6'.ne nD3, W, hW, by rw [hWl, List.length_map]; exact hl2', hWd⟩ ?_ (P6'.up e8)
    exact (((((x2.trans x3).trans x4).trans ((Xp.ex el).trans x5)).trans ((Xp.ex et).trans x6)).trans (Xp.ex (e7.trans e8)))
end
end K29
namespace K29
open PySem PySem.Spec PyProof.Rows L2 Evl Es
/-- words drawn so far -/
def Few (n : Nat) (ws : List Str) : Prop := ws.length ≤ n ∧ ∀ x ∈ ws, Wd x
section
variable {P : Program} {w : World} {K : PySem.W.Frag} {mg : Str → Option Value} {base : Heap}
/-- edits as the law draws them -/
def Good (n : Nat) (es : List Ed) : Prop := Asc n 0 es ∧ (∀ e ∈ es, Few 3 e.2) ∧ es.length ≤ n + 1
def spChs : Sp := fun vs H Q _ => ∃ (p m : Addr) (n : Nat) (c : Int), vs = [.ref p, .ref m, .int (n : Int)] ∧ n ≤ 12 ∧ 0 ≤ c ∧ c ≤ 90000 ∧ Pot H p c ∧ Bag p H m ∧
  ∀ a us es H', Xp p H H' → Pot H' p (c + 100) → a ≠ p → H' a = some (.tup us) → EdAll p H' us es → Good n es → Q (.ref a) H'
theorem mem_take_snoc {α : Type} (es : List α) (e : α) (P : α → Prop) (h : ∀ x ∈ es, P x) (he : P e) : ∀ x ∈ es ++ [e], P x := by
  intro x hx
  rcases List.mem_append.mp hx with z | z
  · exact h x z
  · rw [List.mem_singleton.mp z]
    exact he
theorem ok_chs {f fT fP : Addr} {fd fdT fdP : FuncData} {k : Nat} (F : Fun K "_law_changes" "_law_changes" sChs f fd) (FT : Fun K "_law_draw" "_law_draw" sDraw fT fdT) (bT : Binds K fdT ["_law_source_here", "_law_limit"] []) (gT : mg "_law_draw" = some (.ref fT))
    (FP : Fun K "_law_pick" "_law_pick" sPick fP fdP) (bP : Binds K fdP ["_law_source_here", "_law_some"] []) (gP : mg "_law_pick" = some (.ref fP)) (ml : mg "len" = none) (mr : mg "range" = none) (mT : mg "tuple" = none) :
    FnOk P w K mg base CX0 (k + 3) f fd ["_law_source_here", "_law_words_here", "_law_size"] spChs := by
  refine F.ok scChs (fun vs H Q E h => ?_) (fun cdv A outer s H vs Q E hr h => ?_)
  · obtain ⟨p, m, n, c, rfl, _⟩ := h
    rfl
  · obtain ⟨p, m, n, c, rfl, hn, hc0, hc1, hP, hM, q⟩ := h
    have G1 : FnOk P w K mg base CX0 (k + 2) fT fdT ["_law_source_here", "_law_limit"] spTake := ok_draw FT
    have G3 : FnOk P w K mg base CX0 (k + 2) fP fdP ["_law_source_here", "_law_some"] spPickL := ok_pickL FP FT bT gT ml
    refine ⟨_, pss_cons (ps_set (i := 3) scChs.nd rfl (.inl rfl) (pe_lst pa_nil))
      (pss_cons (ps_for PassesOwn.never rfl (pi_range1 (by rfl) mr (pa_cons (pe_op op_add (pv 2) pe_int) pa_nil)) (pg_name (i := 4) scChs.nd rfl (.inl rfl))
        (pss_one (ps_if (pt_cmpR op_eq (pe_call G1 hr (by rfl) gT FT.kp bT .nil pass0 (pa_cons (pv 0) (pa_cons pe_int pa_nil))) pe_int (nomark _))
          (pss_one (ps_expr (pe_bm PySem.F.plainAttrs_list PySem.F.slot_list_append PySem.F.type_list_append mt_append (pv 3) (pa_cons (pe_tup (pa_cons (pv 4) (pa_cons
            (pe_callTy call_tuple_of (by rfl) mT (by decide +kernel) (pa_cons (pe_lc (own := [("_law_k", 5)]) (g := gName 5) (tt := tYes) rfl scChs.nd
              (pi_range1 (by rfl) mr (pa_cons (pe_call G1 hr (by rfl) gT FT.kp bT .nil pass0 (pa_cons (pv 0) (pa_cons pe_int pa_nil))) pa_nil))
              (blkOk_by (N := nChs) (sc := defScope sChs) (own := [("_law_k", 5)]) (by decide +kernel)) (fun _ _ _ _ _ => pg_name (i := 5) scChs.nd rfl (Or.inl rfl)) (fun _ _ _ _ _ => pts_nil)
              (fun _ _ _ _ _ => pe_call G3 hr (by rfl) gP FP.kp bP .nil pass0 (pa_cons (pv 0) (pa_cons (pv 1) pa_nil)))) pa_nil)) pa_nil))) pa_nil)))) pss_nil)))
      (pss_one (ps_ret (pe_callTy call_tuple_of (by rfl) mT (by decide +kernel) (pa_cons (pv 3) pa_nil))))), ?_⟩
    refine q_asgL (el_lst ea_nil (by decide)) fun l H1 hl e1 h1 => ?_
    have nlp : l ≠ p := hP.ne hl
    refine ⟨.int (n : Int), rfl, (n : Int), 1, rfl, rfl, (n : Int) + 1, rfl, by omega, by omega, for_range (lo := 0) (n := ((n : Int) + 1).toNat) (fun i σ H' => Xp p H H' ∧ Pot H' p (c + i * 6) ∧ ∃ us es y4, H' l = some (.lst us) ∧ EdAll p H' us es ∧ Asc n 0 es ∧ (∀ e ∈ es, e.1 < i) ∧ (∀ e ∈ es, Few 3 e.2) ∧ es.length ≤ i ∧
      σ = [some (.ref p), some (.ref m), some (.int (n : Int)), some (.ref l), y4, none]) ?_ ?_ ?_⟩
    · exact ⟨Xp.ex e1, (hP.up e1).more (by omega), [], [], none, h1, .nil, trivial, (fun _ z => nomatch z), (fun _ z => nomatch z), Nat.le_refl _, rfl⟩
    · rintro i σ H2 hi ⟨x2, P2, us, es, y4, hu, hE, hA, hlt, hF, hel, rfl⟩
      have hi' : i ≤ n := by omega
      refine ⟨.ref p, rfl, p, 3, c + i * 6, rfl, by decide, by decide, by omega, P2, fun r H3 r0 r1 x3 P3 => ?_⟩
      refine ⟨rfl, _, rfl, ite2 (fun hb => ?_) (fun hb => ?_)⟩
      · refine ⟨.ref l, rfl, .inl ⟨rfl, _, sq_of (x3 _ _ nlp hu)⟩, .int (0 + (i : Int)), rfl, .ref p, rfl, p, 4, c + i * 6 + 1, rfl, by decide, by decide, by omega, P3, fun n3 H4 n0 n1 x4 P4 => ?_⟩
        refine ⟨n3, rfl, by omega, by omega, fun D nD => lc_range (lo := 0) (n := n3.toNat) (g := gName 5) (tt := tYes) (vs := [5]) (fun j H' => Xp p H4 H' ∧ Pot H' p (c + i * 6 + 2 + j) ∧ ∃ ws : List Str, H' D = some (.lst (txts ws)) ∧ ws.length = j ∧ ∀ x ∈ ws, Wd x) ?_ ?_ ?_⟩
        · exact ⟨(Xp.refl _ _).mut nD, (P4.up (Ex.new nD)).more (by omega), [], upd_same, rfl, (fun _ z => nomatch z)⟩
        · rintro j H' hj ⟨xj, Pj, ws, hD, hwl, hwd⟩
          obtain ⟨nmp, W, hm, hW1, hW2⟩ := (((hM.xp x2).xp x3).xp x4).xp xj
          refine ⟨rfl, .ref p, rfl, .ref m, rfl, p, m, c + i * 6 + 2 + j, _, rfl, by omega, Pj, nmp, hm, by rw [txts_len]; omega, by rw [txts_len]; omega, fun v H5 hv x5 P5 => ?_⟩
          obtain ⟨x, hx, rfl⟩ := List.mem_map.mp hv
          refine ⟨txts ws, x5 D _ (P4.ne nD) hD, ?_, (xj.trans x5).mut nD, ?_, ws ++ [x], ?_, ?_, mem_take_snoc _ _ _ hwd (hW2 x hx)⟩
          · rw [txts_len]
            exact sz_lt (by omega)
          · obtain ⟨g, s0, c0, hh, q1, q2, q3, q4, q5⟩ := P5
            refine ⟨g, s0, c0, ?_, q1, q2, q3, q4, by omega⟩
            rw [upd_ne (P4.ne nD).symm]
            exact hh
          · rw [upd_same, ← txts_app]
            rfl
          · rw [List.length_append, hwl]
            rfl
        rintro H5 ⟨x5, P5, ws, hD, hwl, hwd⟩
        refine ⟨D, _, rfl, .inl ⟨sq_of hD, fun d nd => ?_⟩⟩
        have ed := Ex.new (o := .tup (txts ws)) nd
        refine ⟨sz_of (by show 2 ≤ 100000; decide), fun t nt => ?_⟩
        have et := Ex.new (o := .tup [.int (0 + (i : Int)), .ref d]) nt
        have x25 : Xp p H2 H5 := (x3.trans x4).trans x5
        have hu5 := x25 _ _ nlp hu
        have hul := (ed.trans et) _ _ hu5
        have hlen := hE.length
        have hln : H l = none := hl
        refine ⟨l, us, .ref t, rfl, rfl, hul, sz_lt (by omega), ?_⟩
        have ei : (0 + (i : Int)) = (i : Int) := by omega
        refine ⟨((x2.trans x25).trans (Xp.ex (ed.trans et))).mut hln, ?_, us ++ [.ref t], es ++ [(i, ws)], some (.int (0 + (i : Int))), upd_same, ?_, ?_, ?_, ?_, ?_, rfl⟩
        · obtain ⟨g, s0, c0, hh, q1, q2, q3, q4, q5⟩ := P5.up (ed.trans et)
          refine ⟨g, s0, c0, ?_, q1, q2, q3, q4, by omega⟩
          rw [upd_ne nlp.symm]
          exact hh
        · refine (((hE.xp x25).up (ed.trans et)).append (.cons (.mk ((P5.up ed).ne nt) (P5.ne nd) ?_ (et _ _ upd_same)) .nil)).mutL hul
          rw [upd_same, ei]
        · exact asc_snoc n es 0 i ws hA hlt (Nat.zero_le _) hi'
        · exact mem_take_snoc _ _ _ (fun e he => Nat.lt_succ_of_lt (hlt e he)) (Nat.lt_succ_self i)
        · exact mem_take_snoc _ _ _ hF ⟨by show ws.length ≤ 3; omega, hwd⟩
        · rw [List.length_append]
          show es.length + 1 ≤ i + 1
          omega
      · exact ⟨x2.trans x3, P3.more (by omega), us, es, some (.int (0 + (i : Int))), x3 _ _ nlp hu, hE.xp x3, hA, fun e he => Nat.lt_succ_of_lt (hlt e he), hF, by omega, rfl⟩
    · rintro σ H2 ⟨x2, P2, us, es, y4, hu, hE, hA, hlt, hF, hel, rfl⟩
      refine ⟨.ref l, rfl, l, us, rfl, .inl ⟨sq_of hu, fun a na => ?_⟩⟩
      have ea := Ex.new (o := .tup us) na
      exact q a us es _ (x2.trans (Xp.ex ea)) ((P2.up ea).more (by omega)) (P2.ne na) upd_same (hE.up ea) ⟨hA, hF, by omega⟩
end
/-! what the writings ask -/
theorem int_fit (n : Nat) (h : n ≤ 12) : (PyData.int (n : Int)).showable = true ∧ (PyData.int (n : Int)).leavesShort 30 = true := by
  have : n = 0 ∨ n = 1 ∨ n = 2 ∨ n = 3 ∨ n = 4 ∨ n = 5 ∨ n = 6 ∨ n = 7 ∨ n = 8 ∨ n = 9 ∨ n = 10 ∨ n = 11 ∨ n = 12 := by omega
  rcases this with h | h | h | h | h | h | h | h | h | h | h | h | h <;> subst h <;> exact ⟨by decide +kernel, by decide +kernel⟩
theorem fits_eds : ∀ es : List Ed, (∀ e ∈ es, Few 3 e.2) → (∀ e ∈ es, e.1 ≤ 12) → PyData.showableAll (es.map edD) = true ∧ PyData.hasDictAll (es.map edD) = false ∧ PyData.leavesShortAll 30 (es.map edD) = true ∧ PyData.bulkAll (es.map edD) ≤ 40 * es.length ∧ PyData.depthAll (es.map edD) ≤ 2
  | [], _, _ => ⟨rfl, rfl, rfl, Nat.le_refl _, Nat.zero_le _⟩
  | e :: r, h, h2 => by
    obtain ⟨a1, a2, a3, a4, a5⟩ := fits_eds r (fun y hy => h y (List.mem_cons_of_mem _ hy)) (fun y hy => h2 y (List.mem_cons_of_mem _ hy))
    obtain ⟨f1, f2⟩ := h e (List.mem_cons_self ..)
    obtain ⟨b1, b2, b3, b4, b5⟩ := fits_words e.2 f2
    obtain ⟨i1, i2⟩ := int_fit e.1 (h2 e (List.mem_cons_self ..))
    refine ⟨?_, ?_, ?_, ?_, ?_⟩
    · show (((PyData.int (e.1 : Int)).showable && (PyData.showableAll (dtxts e.2) && true)) && PyData.showableAll (r.map edD)) = true
      rw [i1, b1, a1]
      rfl
    · show ((false || (PyData.hasDictAll (dtxts e.2) || false)) || PyData.hasDictAll (r.map edD)) = false
      rw [b2, a2]
      rfl
    · show (((PyData.int (e.1 : Int)).leavesShort 30 && (PyData.leavesShortAll 30 (dtxts e.2) && true)) && PyData.leavesShortAll 30 (r.map edD)) = true
      rw [i2, b3, a3]
      rfl
    · show (0 + 1 + (PyData.bulkAll (dtxts e.2) + 1 + 0)) + 1 + PyData.bulkAll (r.map edD) ≤ 40 * (r.length + 1)
      omega
    · show max (max 0 (max (PyData.depthAll (dtxts e.2) + 1) 0) + 1) (PyData.depthAll (r.map edD)) ≤ 2
      rw [b5]
      omega
theorem asc_le (len : Nat) : ∀ (es : List Ed) (lo : Nat), Asc len lo es → ∀ e ∈ es, e.1 ≤ len
  | [], _, _, e, he => nomatch he
  | (n, ws) :: r, lo, h, e, he => by
    rcases List.mem_cons.mp he with z | z
    · subst z
      exact h.2.1
    · exact asc_le len r (n + 1) h.2.2 e z
theorem wide_le : ∀ es : List Ed, (∀ e ∈ es, Few 3 e.2) → wide es ≤ 3 * es.length
  | [], _ => Nat.le_refl _
  | (n, ws) :: r, h => by
    have := wide_le r fun y hy => h y (List.mem_cons_of_mem _ hy)
    have := (h (n, ws) (List.mem_cons_self ..)).1
    show ws.length + wide r ≤ 3 * (r.length + 1)
    have h3 : ws.length ≤ 3 := (h (n, ws) (List.mem_cons_self ..)).1
    omega
theorem fine_pair {t : List Str} {es : List Ed} (ht : Few 12 t) (hE : Good t.length es) : Fine (.tuple [.tuple (dtxts t), .tuple (es.map edD)]) := by
  obtain ⟨t1, t2⟩ := ht
  obtain ⟨g1, g2, g3⟩ := hE
  obtain ⟨b1, b2, b3, b4, b5⟩ := fits_words t t2
  obtain ⟨a1, a2, a3, a4, a5⟩ := fits_eds es g2 fun e he => Nat.le_trans (asc_le t.length es 0 g1 e he) t1
  refine fine_of (n := 1000) ?_ ?_ ?_ ?_ (by decide) ?_
  · show (PyData.showableAll (dtxts t) && (PyData.showableAll (es.map edD) && true)) = true
    rw [b1, a1]
    rfl
  · show (PyData.hasDictAll (dtxts t) || (PyData.hasDictAll (es.map edD) || false)) = false
    rw [b2, a2]
    rfl
  · show (PyData.leavesShortAll 30 (dtxts t) && (PyData.leavesShortAll 30 (es.map edD) && true)) = true
    rw [b3, a3]
    rfl
  · show PyData.bulkAll (dtxts t) + 1 + (PyData.bulkAll (es.map edD) + 1 + 0) ≤ 1000
    omega
  · show max (PyData.depthAll (dtxts t) + 1) (max (PyData.depthAll (es.map edD) + 1) 0) + 1 ≤ 60
    rw [b5]
    omega
theorem fine_two {t : List Str} (ht : Few 60 t) : Fine (.list [.tuple (dtxts t), .tuple (dtxts t)]) := by
  obtain ⟨t1, t2⟩ := ht
  obtain ⟨b1, b2, b3, b4, b5⟩ := fits_words t t2
  refine fine_of (n := 1200) ?_ ?_ ?_ ?_ (by decide) ?_
  · show (PyData.showableAll (dtxts t) && (PyData.showableAll (dtxts t) && true)) = true
    rw [b1]
    rfl
  · show (PyData.hasDictAll (dtxts t) || (PyData.hasDictAll (dtxts t) || false)) = false
    rw [b2]
    rfl
  · show (PyData.leavesShortAll 30 (dtxts t) && (PyData.leavesShortAll 30 (dtxts t) && true)) = true
    rw [b3]
    rfl
  · show PyData.bulkAll (dtxts t) + 1 + (PyData.bulkAll (dtxts t) + 1 + 0) ≤ 1200
    omega
  · show max (PyData.depthAll (dtxts t) + 1) (max (PyData.depthAll (dtxts t) + 1) 0) + 1 ≤ 60
    rw [b5]
    omega
end K29
namespace K29
open PySem PySem.Spec PyProof.Rows L2 Evl Es
abbrev nLaw : List Str := ["_law_script", "_law_k", "_law_source_here", "_law_words_here", "_law_turn", "_law_given", "_law_edits", "_law_due", "_law_spot", "_law_words_in", "_law_before", "_law_results", "_law_at"]
theorem scLaw : FnScope nLaw ["_law_script"] (defScope sLaw) := ⟨rfl, rfl, rfl, by decide +kernel, rfl, by decide +kernel, by decide +kernel⟩
/-- what stands at the top -/
structure Top (K : PySem.W.Frag) (mg : Str → Option Value) (fChd fApp fSrc fDraw fPick fWords fChs : Addr) (dChd dApp dSrc dDraw dPick dWords dChs : FuncData) : Prop where
  Chd : Fun K "changed" "changed" sChd fChd dChd
  App : Fun K "apply_repair" "apply_repair" sApp fApp dApp
  Src : Fun K "_law_source" "_law_source" sSrc fSrc dSrc
  Draw : Fun K "_law_draw" "_law_draw" sDraw fDraw dDraw
  Pick : Fun K "_law_pick" "_law_pick" sPick fPick dPick
  Words : Fun K "_law_words" "_law_words" sWords fWords dWords
  Chs : Fun K "_law_changes" "_law_changes" sChs fChs dChs
  gChd : mg "changed" = some (.ref fChd)
  gApp : mg "apply_repair" = some (.ref fApp)
  gSrc : mg "_law_source" = some (.ref fSrc)
  gDraw : mg "_law_draw" = some (.ref fDraw)
  gPick : mg "_law_pick" = some (.ref fPick)
  gWords : mg "_law_words" = some (.ref fWords)
  gChs : mg "_law_changes" = some (.ref fChs)
  Pl : ∃ t, mg "PLACE" = some (.int 1 t)
  tuple : mg "tuple" = none
  len : mg "len" = none
  abs : mg "abs" = none
  int : mg "int" = none
  range : mg "range" = none
  list : mg "list" = none
  max : mg "max" = none
  min : mg "min" = none
  repr : mg "repr" = none
def spLaw (K : PySem.W.Frag) : Sp := fun vs H Q _ => ∃ (a : Addr) (ns : List Int), vs = [.ref a] ∧ SqL K H a (ns.map V.int) ∧ ∀ H', Q (.bl true) H'
theorem due_few {t : List Str} {es : List Ed} (ht : Few 12 t) (hE : Good t.length es) : Few 60 (chg t 0 es) := by
  have h1 := chg_len t es hE.1
  have h2 := wide_le es hE.2.1
  have h3 := hE.2.2
  have h4 := ht.1
  exact ⟨by omega, chg_mem t Wd ht.2 es 0 fun e he => (hE.2.1 e he).2⟩
section
variable {P : Program} {w : World} {K : PySem.W.Frag} {mg : Str → Option Value} {base : Heap} {fChd fApp fSrc fDraw fPick fWords fChs : Addr} {dChd dApp dSrc dDraw dPick dWords dChs : FuncData}
theorem ok_law {f : Addr} {fd : FuncData} (F : Fun K "law" "law" sLaw f fd) (T : Top K mg fChd fApp fSrc fDraw fPick fWords fChs dChd dApp dSrc dDraw dPick dWords dChs) : GnOk P w K mg base 6 f fd ["_law_script"] (spLaw K) := by
  obtain ⟨tP, mP⟩ := T.Pl
  have b1 : Binds K dApp ["text", "changes"] [] := T.App.binds fun _ _ _ _ _ _ us hl => match us, hl with | [_, _], _ => rfl
  have b2 : Binds K dSrc ["_law_script", "_law_k"] [] := T.Src.binds fun _ _ _ _ _ _ us hl => match us, hl with | [_, _], _ => rfl
  have b3 : Binds K dDraw ["_law_source_here", "_law_limit"] [] := T.Draw.binds fun _ _ _ _ _ _ us hl => match us, hl with | [_, _], _ => rfl
  have b4 : Binds K dPick ["_law_source_here", "_law_some"] [] := T.Pick.binds fun _ _ _ _ _ _ us hl => match us, hl with | [_, _], _ => rfl
  have b5 : Binds K dWords ["_law_source_here", "_law_many"] [] := T.Words.binds fun _ _ _ _ _ _ us hl => match us, hl with | [_, _], _ => rfl
  have b6 : Binds K dChs ["_law_source_here", "_law_words_here", "_law_size"] [] := T.Chs.binds fun _ _ _ _ _ _ us hl => match us, hl with | [_, _, _], _ => rfl
  have G1 : FnOk P w K mg base CX0 5 fApp dApp ["text", "changes"] (spApp []) := ok_app T.App T.Chd T.gChd mP T.tuple
  have G2 : FnOk P w K mg base CX0 5 fSrc dSrc ["_law_script", "_law_k"] (spSrc K) := ok_src T.Src T.len T.abs T.int
  have G3 : FnOk P w K mg base CX0 5 fDraw dDraw ["_law_source_here", "_law_limit"] spTake := ok_draw T.Draw
  have G4 : FnOk P w K mg base CX0 5 fPick dPick ["_law_source_here", "_law_some"] spPickL := ok_pickL T.Pick T.Draw b3 T.gDraw T.len
  have G5 : FnOk P w K mg base CX0 5 fWords dWords ["_law_source_here", "_law_many"] spWords := ok_words T.Words T.Draw b3 T.gDraw T.Pick b4 T.gPick T.len T.range T.list
  have G6 : FnOk P w K mg base CX0 5 fChs dChs ["_law_source_here", "_law_words_here", "_law_size"] spChs := ok_chs T.Chs T.Draw b3 T.gDraw T.Pick b4 T.gPick T.len T.range T.tuple
  refine gn_of (N := nLaw) F scLaw (fun vs H Q E h => ?_) (fun cd A out s H vs Q E hg hr h => ?_)
  · obtain ⟨a, ns, rfl, _⟩ := h
    rfl
  · obtain ⟨a, ns, rfl, hS, q⟩ := h
    refine ⟨_, pss_cons (ps_for PassesOwn.never rfl (pi_range1 (by rfl) T.range (pa_cons (pe_callB (call_max2 rfl) (by rfl) T.max boot_max (pa_cons pe_int (pa_cons (pe_callB (call_min2 rfl) (by rfl) T.min boot_min (pa_cons pe_int (pa_cons (pe_callB call_len_seq (by rfl) T.len PySem.boot_len (pa_cons (pv 0) pa_nil)) pa_nil))) pa_nil))) pa_nil))
        (pg_name (i := 1) scLaw.nd rfl (.inl rfl))
        (pss_cons (ps_set (i := 2) scLaw.nd rfl (.inr rfl) (pe_call G2 hr (by rfl) T.gSrc T.Src.kp b2 .nil pass0 (pa_cons (pv 0) (pa_cons (pv 1) pa_nil))))
        (pss_cons (ps_set (i := 3) scLaw.nd rfl (.inr rfl) (pe_call G5 hr (by rfl) T.gWords T.Words.kp b5 .nil pass0 (pa_cons (pv 2) (pa_cons pe_int pa_nil))))
        (pss_one (ps_for PassesOwn.never rfl (pi_range1 (by rfl) T.range (pa_cons pe_int pa_nil)) (pg_name (i := 4) scLaw.nd rfl (.inl rfl))
          (pss_cons (ps_set (i := 5) scLaw.nd rfl (.inl rfl) (pe_callTy call_tuple_of (by rfl) T.tuple (by decide +kernel) (pa_cons (pe_lc (own := [("_law_at", 12)]) (g := gName 12) (tt := tYes) rfl scLaw.nd
              (pi_range1 (by rfl) T.range (pa_cons (pe_call G3 hr (by rfl) T.gDraw T.Draw.kp b3 .nil pass0 (pa_cons (pv 2) (pa_cons pe_int pa_nil))) pa_nil))
              (blkOk_by (N := nLaw) (sc := defScope sLaw) (own := [("_law_at", 12)]) (by decide +kernel)) (fun _ _ _ _ _ => pg_name (i := 12) scLaw.nd rfl (Or.inl rfl)) (fun _ _ _ _ _ => pts_nil)
              (fun _ _ _ _ _ => pe_call G4 hr (by rfl) T.gPick T.Pick.kp b4 .nil pass0 (pa_cons (pv 2) (pa_cons (pv 3) pa_nil)))) pa_nil)))
          (pss_cons (ps_par rfl scLaw.nd rfl rfl (by decide) rfl rfl (i := 6) (j := 7) (pa_cons (pe_call G6 hr (by rfl) T.gChs T.Chs.kp b6 .nil pass0 (pa_cons (pv 2) (pa_cons (pv 3) (pa_cons (pe_callB call_len_seq (by rfl) T.len PySem.boot_len (pa_cons (pv 5) pa_nil)) pa_nil)))) (pa_cons (pv 5) pa_nil)) (by rfl))
          (pss_cons (ps_for PassesOwn.never rfl (pi_tup (pe_revT (pv 6))) (pg_tup rfl (pgs_cons (pg_name (i := 8) scLaw.nd rfl (.inl rfl)) (pgs_cons (pg_name (i := 9) scLaw.nd rfl (.inl rfl)) pgs_nil)))
            (pss_one (ps_set (i := 7) scLaw.nd rfl (.inl rfl) (pe_op op_catA (pe_op op_catA (pe_slice sl_tupA (pv 7) po_none (po_some (pv 8))) (pv 9)) (pe_slice sl_tupA (pv 7) (po_some (pe_op op_add (pv 8) pe_int)) po_none)))))
          (pss_cons (ps_set (i := 10) scLaw.nd rfl (.inl rfl) (pe_callB (cr_reprD hg hr.units) (by rfl) T.repr boot_repr (pa_cons (pe_tup (pa_cons (pv 5) (pa_cons (pv 6) pa_nil))) pa_nil)))
          (pss_cons (ps_set (i := 11) scLaw.nd rfl (.inl rfl) (pe_lst (pa_cons (pe_call G1 hr (by rfl) T.gApp T.App.kp b1 .nil pass0 (pa_cons (pv 5) (pa_cons (pv 6) pa_nil)))
              (pa_cons (pe_callK0 G1 hr (by rfl) T.gApp T.App.kp (kb_app T.App) (pk_cons (pv 6) (pk_cons (pv 5) pk_nil))) pa_nil))))
          (pss_one (ps_if (PW.pt (pw_or (pt_cmpR op_ne (pe_callB (cr_reprD hg hr.units) (by rfl) T.repr boot_repr (pa_cons (pv 11) pa_nil))
                (pe_callB (cr_reprD hg hr.units) (by rfl) T.repr boot_repr (pa_cons (pe_lst (pa_cons (pv 7) (pa_cons (pv 7) pa_nil))) pa_nil)) (nomark _))
              (pw_or1 (pt_cmpR op_ne (pe_callB (cr_reprD hg hr.units) (by rfl) T.repr boot_repr (pa_cons (pe_tup (pa_cons (pv 5) (pa_cons (pv 6) pa_nil))) pa_nil)) (pv 10) (nomark _)))))
              (pss_one (ps_ret pe_bl)) pss_nil))))))))))))
      (pss_one (ps_ret pe_bl)), ?_⟩
    obtain ⟨n, hn0, hn3, hn⟩ : ∃ n : Int, 0 ≤ n ∧ n ≤ 3 ∧ (if (if ((ns.map V.int).length : Int) < 3 then ((ns.map V.int).length : Int) else 3) > 1 then (if ((ns.map V.int).length : Int) < 3 then ((ns.map V.int).length : Int) else 3) else 1) = n := by
      refine ⟨_, ?_, ?_, rfl⟩ <;> (split <;> split <;> omega)
    refine ⟨.ref a, rfl, a, _, rfl, .inl hS, 3, _, rfl, 1, _, rfl, _, rfl, ?_⟩
    rw [hn]
    refine ⟨by omega, by omega, for_range (lo := 0) (n := n.toNat) (fun i σ H' => Ex H H' ∧ ∃ y1 y2 y3 y4 y5 y6 y7 y8 y9 y10 y11, σ = [some (.ref a), y1, y2, y3, y4, y5, y6, y7, y8, y9, y10, y11, none]) ⟨Ex.refl _, none, none, none, none, none, none, none, none, none, none, none, rfl⟩ ?_ ?_⟩
    · rintro i σ H1 hi ⟨e1, y1, y2, y3, y4, y5, y6, y7, y8, y9, y10, y11, rfl⟩
      refine ⟨.ref a, rfl, .int (0 + (i : Int)), rfl, a, i, ns, by rw [Int.zero_add]; rfl, by omega, ex_l e1 hS, fun p H2 np e2 P2 => ?_⟩
      refine ⟨.ref p, rfl, p, 0, rfl, by decide, by decide, P2, fun m H3 hM x3 P3 => ?_⟩
      refine ⟨6, rfl, by decide, by decide, for_range (lo := 0) (n := 6) (fun j σ H' => Xp p H3 H' ∧ Pot H' p (10 + j * 200) ∧ ∃ y4 y5 y6 y7 y8 y9 y10 y11, σ = [some (.ref a), some (.int (0 + (i : Int))), some (.ref p), some (.ref m), y4, y5, y6, y7, y8, y9, y10, y11, none])
        ⟨Xp.refl _ _, P3.more (by omega), y4, y5, y6, y7, y8, y9, y10, y11, rfl⟩ ?_ ?_⟩
      · rintro j σ H4 hj ⟨x4, P4, y4, y5, y6, y7, y8, y9, y10, y11, rfl⟩
        have hj6 : j < 6 := by omega
        -- the text
        refine ⟨.ref p, rfl, p, 13, 10 + j * 200, rfl, by decide, by decide, by omega, P4, fun n5 H5 n50 n51 x5 P5 => ?_⟩
        refine ⟨n5, rfl, by omega, by omega, fun D nD => lc_range (lo := 0) (n := n5.toNat) (g := gName 12) (tt := tYes) (vs := [12]) (fun q H' => Xp p H5 H' ∧ Pot H' p (10 + j * 200 + 1 + q) ∧ ∃ ws : List Str, H' D = some (.lst (txts ws)) ∧ ws.length = q ∧ ∀ x ∈ ws, Wd x) ?_ ?_ ?_⟩
        · exact ⟨(Xp.refl _ _).mut nD, (P5.up (Ex.new nD)).more (by omega), [], upd_same, rfl, (fun _ z => nomatch z)⟩
        · rintro r H' hr' ⟨xj, Pj, ws, hD, hwl, hwd⟩
          obtain ⟨nmp, W, hm, hW1, hW2⟩ := ((hM.xp x4).xp x5).xp xj
          refine ⟨rfl, .ref p, rfl, .ref m, rfl, p, m, 10 + j * 200 + 1 + r, _, rfl, by omega, Pj, nmp, hm, by rw [txts_len]; omega, by rw [txts_len]; omega, fun v H6 hv x6 P6 => ?_⟩
          obtain ⟨x, hx, rfl⟩ := List.mem_map.mp hv
          refine ⟨txts ws, x6 D _ (P5.ne nD) hD, ?_, (xj.trans x6).mut nD, ?_, ws ++ [x], ?_, ?_, mem_take_snoc _ _ _ hwd (hW2 x hx)⟩
          · rw [txts_len]
            exact sz_lt (by omega)
          · obtain ⟨g, s0, c0, hh, q1, q2, q3, q4, q5⟩ := P6
            refine ⟨g, s0, c0, ?_, q1, q2, q3, q4, by omega⟩
            rw [upd_ne (P5.ne nD).symm]
            exact hh
          · rw [upd_same, ← txts_app]
            rfl
          · rw [List.length_append, hwl]
            rfl
        rintro H6 ⟨x6, P6, t, hD, htl, htd⟩
        have htl' : t.length ≤ 12 := by omega
        refine ⟨D, _, rfl, .inl ⟨sq_of hD, fun g ng => ?_⟩⟩
        have eg := Ex.new (o := .tup (txts t)) ng
        have ngp : g ≠ p := P6.ne ng
        have x46 : Xp p H4 H6 := x5.trans x6
        have P7 : Pot (upd H6 g (.tup (txts t))) p (10 + j * 200 + 20) := (P6.up eg).more (by omega)
        have hg7 : upd H6 g (.tup (txts t)) g = some (.tup (txts t)) := upd_same
        have hM7 : Bag p (upd H6 g (.tup (txts t))) m := ((hM.xp x4).xp x46).xp (Xp.ex eg)
        have x47 := x46.trans (Xp.ex (p := p) eg)
        generalize upd H6 g (.tup (txts t)) = H7 at P7 hg7 hM7 x47
        clear eg x46 x6 x5 hD
        -- the edits
        refine ⟨.ref p, rfl, .ref m, rfl, .ref g, rfl, g, _, rfl, .inr (st_of hg7), p, m, t.length, 10 + j * 200 + 20, by rw [txts_len]; rfl, htl', by omega, by omega, P7, hM7, fun b us es H8 x8 P8 nb hb hE hG => ?_⟩
        have hg8 := x8 _ _ ngp hg7
        refine ⟨.ref g, rfl, .ref b, .ref g, rfl, ?_⟩
        have hb9 := hb
        have hg9 := hg8
        have hE9 := hE
        have P9 := P8
        have x49 := x47.trans x8
        clear x47 x8 hb hg8 hE hg7 hM7 P7 P8
        have hF : Few 12 t := ⟨htl', htd⟩
        have hdu := due_few hF hG
        have hdue := due_eq0 t es hG.1
        have hul := hE9.length
        -- from the right
        refine ⟨.ref b, rfl, b, us, rfl, st_of hb9, fun rv nrv => ?_⟩
        have er := Ex.new (o := .tup us.reverse) nrv
        refine ⟨rv, rfl, ⟨_, st_of upd_same⟩, for_tup (xs := us.reverse) (fun q σ H' => Ex (upd H8 rv (.tup us.reverse)) H' ∧ ∃ (c : Addr) (y8 y9 : Option V), H' c = some (.tup (txts (due t ((es.reverse.take q).reverse)))) ∧
          σ = [some (.ref a), some (.int (0 + (i : Int))), some (.ref p), some (.ref m), some (.int (0 + (j : Int))), some (.ref g), some (.ref b), some (.ref c), y8, y9, y10, y11, none])
          ⟨Ex.refl _, g, y8, y9, er _ _ hg9, rfl⟩ (fun q σ H' _ x => st_of (x.1 _ _ upd_same)) ?_ ?_⟩
        · rintro r x σ H' hx ⟨ei, c, y8, y9, hc, rfl⟩
          obtain ⟨ed, hed, hat⟩ := (hE9.rev).get hx
          have hat' := hat.xp (Xp.ex (p := p) (er.trans ei))
          have hdt := due_take t es r ed hed
          cases hat' with
          | @mk c1 d1 n1 ws _ _ hc1 hd1 =>
          have hws : ws.length ≤ 3 := (hG.2.1 (n1, ws) (List.mem_reverse.mp (List.mem_of_getElem? hed))).1
          have hsz : (due t ((es.reverse.take r).reverse)).length ≤ 2000 := by
            have hrr : (es.reverse.take r).reverse = es.drop (es.length - r) := by
              rw [List.take_reverse, List.reverse_reverse]
            rw [hrr]
            have : ∀ fs : List Ed, (∀ e ∈ fs, Few 3 e.2) → (due t fs).length ≤ t.length + 3 * fs.length + fs.length := by
              intro fs
              induction fs with
              | nil => intro _; exact Nat.le_refl _
              | cons e r ih =>
                intro hh
                have i1 := ih fun y hy => hh y (List.mem_cons_of_mem _ hy)
                have i2 := (hh e (List.mem_cons_self ..)).1
                show ((due t r).take e.1 ++ e.2 ++ (due t r).drop (e.1 + 1)).length ≤ t.length + 3 * (r.length + 1) + (r.length + 1)
                rw [List.length_append, List.length_append, List.length_take, List.length_drop]
                omega
            have h1 := this (es.drop (es.length - r)) fun e he => hG.2.1 e (List.mem_of_mem_drop he)
            have h2 := hG.2.2
            rw [List.length_drop] at h1
            omega
          refine ⟨c1, [.int (n1 : Int), .ref d1], rfl, st_of hc1, rfl, .int (n1 : Int), [.ref d1], rfl, .ref d1, [], rfl, rfl, ?_⟩
          have e2 : ((n1 : Int) + 1) = ((n1 + 1 : Nat) : Int) := by omega
          refine s_asgW (ew_cat (ew_cat (ew_sl (ew_var rfl hc) eo_none (eo_some (ev_var rfl))) (ew_var rfl hd1) ?_) (ew_sl (ew_var rfl hc) (eo_some (ev_op (ev_var rfl) ev_c rv_I0)) eo_none) ?_) fun c2 H2' e2' hc2 => ?_
          · rw [cut_0, txts_take, txts_len, txts_len, List.length_take]
            omega
          · rw [cut_0, e2, cut_n, txts_take, txts_drop, List.length_append, txts_len, txts_len, txts_len, List.length_take, List.length_drop]
            omega
          rw [cut_0, e2, cut_n, txts_take, txts_drop, txts_app, txts_app] at hc2
          refine ⟨ei.trans e2', c2, some (.int (n1 : Int)), some (.ref d1), ?_, rfl⟩
          rw [hc2, hdt]
        rintro σ H10 ⟨ei, c, y8, y9, hc, rfl⟩
        rw [List.length_reverse, hul, ← List.length_reverse (as := es), List.take_length, List.reverse_reverse, hdue] at hc
        have e910 := er.trans ei
        have hb10 := e910 _ _ hb9
        have hg10 := e910 _ _ hg9
        have hE10 := hE9.up e910
        have P10 := P9.up e910
        have x10 := x49.trans (Xp.ex (p := p) e910)
        clear er ei e910 hb9 hg9 hE9 P9 x49
        have hf1 := fine_pair hF hG
        have hf2 := fine_two hdu
        -- what was written
        refine ⟨.ref g, rfl, .ref b, rfl, sz_of (by show 2 ≤ 100000; decide), fun w1 nw1 => ?_⟩
        have ew1 := Ex.new (o := .tup [.ref g, .ref b]) nw1
        refine ⟨w1, _, rfl, .tup (st_of upd_same) (.cons (.tup (st_of (ew1 _ _ hg10)) (dp_words t)) (.cons (.tup (st_of (ew1 _ _ hb10)) (hE10.up ew1).dp) .nil)), hf1.1, hf1.2.1, hf1.2.2.1, sz_of hf1.2.2.2, ?_⟩
        have hwid := wide_le es hG.2.1
        have hgl := hG.2.2
        -- the results
        refine ⟨.ref g, rfl, .ref b, rfl, p, g, b, t, us, es, rfl, ew1 _ _ hg10, ew1 _ _ hb10, hE10.up ew1, hG.1, by omega, by omega, fun r1 H11 e11 hr1 => ?_⟩
        have e12 := ew1.trans e11
        refine ⟨.ref b, rfl, .ref g, rfl, p, g, b, t, us, es, rfl, e12 _ _ hg10, e12 _ _ hb10, hE10.up e12, hG.1, by omega, by omega, fun r2 H12 e13 hr2 => ?_⟩
        refine ⟨sz_of (by show 2 ≤ 100000; decide), fun l1 nl1 => ?_⟩
        have el := Ex.new (o := .lst [.ref r1, .ref r2]) nl1
        have e14 := (e12.trans e13).trans el
        refine ⟨.ref l1, rfl, l1, .list [.tuple (dtxts (chg t 0 es)), .tuple (dtxts (chg t 0 es))], rfl, .lst (sq_of upd_same) (.cons (.tup (st_of ((e13.trans el) _ _ hr1)) (dp_words _)) (.cons (.tup (st_of (el _ _ hr2)) (dp_words _)) .nil)), hf2.1, hf2.2.1, hf2.2.2.1, sz_of hf2.2.2.2, ?_⟩
        refine ⟨.ref c, rfl, .ref c, rfl, sz_of (by show 2 ≤ 100000; decide), fun l2 nl2 => ?_⟩
        have el2 := Ex.new (o := .lst [.ref c, .ref c]) nl2
        have e15 := e14.trans el2
        refine ⟨l2, .list [.tuple (dtxts (chg t 0 es)), .tuple (dtxts (chg t 0 es))], rfl, .lst (sq_of upd_same) (.cons (.tup (st_of (e15 _ _ hc)) (dp_words _)) (.cons (.tup (st_of (e15 _ _ hc)) (dp_words _)) .nil)), hf2.1, hf2.2.1, hf2.2.2.1, sz_of hf2.2.2.2, rfl, _, rfl, ?_⟩
        rw [decide_eq_true rfl]
        refine iteF ?_
        refine ⟨.ref g, rfl, .ref b, rfl, sz_of (by show 2 ≤ 100000; decide), fun w2 nw2 => ?_⟩
        have ew2 := Ex.new (o := .tup [.ref g, .ref b]) nw2
        have e16 := e15.trans ew2
        refine ⟨w2, _, rfl, .tup (st_of upd_same) (.cons (.tup (st_of (e16 _ _ hg10)) (dp_words t)) (.cons (.tup (st_of (e16 _ _ hb10)) (hE10.up e16).dp) .nil)), hf1.1, hf1.2.1, hf1.2.2.1, sz_of hf1.2.2.2, _, rfl, rfl, _, rfl, ?_⟩
        rw [decide_eq_true rfl]
        refine iteF ?_
        exact ⟨(x4.trans x10).trans (Xp.ex e16), (P10.up e16).more (by omega), _, _, _, _, _, _, _, _, rfl⟩
      · rintro σ H4 ⟨x4, P4, y4, y5, y6, y7, y8, y9, y10, y11, rfl⟩
        refine ⟨fun b o hb => x4 b o ?_ (x3 b o ?_ (e2 b o (e1 b o hb))), _, _, _, _, _, _, _, _, _, _, _, rfl⟩
        · exact ne_of_none (e1 b o hb) np
        · exact ne_of_none (e1 b o hb) np
    · rintro σ H1 ⟨e1, y1, y2, y3, y4, y5, y6, y7, y8, y9, y10, y11, rfl⟩
      exact q H1
end
theorem all_mk {l : PySem.W.OpenLaw} {w : World} {K : PySem.W.Frag} {h : Heap} {mg : Str → Option Value} {fa : Addr} (X : K.In h) (G : h.Ns mainGlobals mg) (hfa : mg "law" = some (.ref fa))
    {f0 : Addr} {od0 an0 : Option Addr} {sl0 : Array (Option Value)} {oc0 kV0 dc0 pm0 cd0 ct0 : Value}
    {f1 : Addr} {od1 an1 : Option Addr} {sl1 : Array (Option Value)} {oc1 kV1 dc1 pm1 cd1 ct1 : Value}
    {f2 : Addr} {od2 an2 : Option Addr} {sl2 : Array (Option Value)} {oc2 kV2 dc2 pm2 cd2 ct2 : Value}
    {f3 : Addr} {od3 an3 : Option Addr} {sl3 : Array (Option Value)} {oc3 kV3 dc3 pm3 cd3 ct3 : Value}
    {f4 : Addr} {od4 an4 : Option Addr} {sl4 : Array (Option Value)} {oc4 kV4 dc4 pm4 cd4 ct4 : Value}
    {f5 : Addr} {od5 an5 : Option Addr} {sl5 : Array (Option Value)} {oc5 kV5 dc5 pm5 cd5 ct5 : Value}
    {f6 : Addr} {od6 an6 : Option Addr} {sl6 : Array (Option Value)} {oc6 kV6 dc6 pm6 cd6 ct6 : Value}
    {f7 : Addr} {od7 an7 : Option Addr} {sl7 : Array (Option Value)} {oc7 kV7 dc7 pm7 cd7 ct7 : Value}
    {t0 : Tok}
    (a0 : PySem.W.nsIn K mainGlobals "changed" = some (some (.ref f0))) (l0 : K.lookup f0 = some ⟨oc0, od0, .func (PySem.W.fnOf "changed" "changed" (defArgs sChd) (defBody sChd) (defScope sChd) .none kV0 dc0 pm0 an0 cd0 ct0), sl0⟩)
      (c0 : PySem.W.codeIn K cd0 "changed" = true) (k0 : PySem.W.keepIn K (.ref f0) = true)
    (a1 : PySem.W.nsIn K mainGlobals "apply_repair" = some (some (.ref f1))) (l1 : K.lookup f1 = some ⟨oc1, od1, .func (PySem.W.fnOf "apply_repair" "apply_repair" (defArgs sApp) (defBody sApp) (defScope sApp) .none kV1 dc1 pm1 an1 cd1 ct1), sl1⟩)
      (c1 : PySem.W.codeIn K cd1 "apply_repair" = true) (k1 : PySem.W.keepIn K (.ref f1) = true)
    (a2 : PySem.W.nsIn K mainGlobals "_law_source" = some (some (.ref f2))) (l2 : K.lookup f2 = some ⟨oc2, od2, .func (PySem.W.fnOf "_law_source" "_law_source" (defArgs sSrc) (defBody sSrc) (defScope sSrc) .none kV2 dc2 pm2 an2 cd2 ct2), sl2⟩)
      (c2 : PySem.W.codeIn K cd2 "_law_source" = true) (k2 : PySem.W.keepIn K (.ref f2) = true)
    (a3 : PySem.W.nsIn K mainGlobals "_law_draw" = some (some (.ref f3))) (l3 : K.lookup f3 = some ⟨oc3, od3, .func (PySem.W.fnOf "_law_draw" "_law_draw" (defArgs sDraw) (defBody sDraw) (defScope sDraw) .none kV3 dc3 pm3 an3 cd3 ct3), sl3⟩)
      (c3 : PySem.W.codeIn K cd3 "_law_draw" = true) (k3 : PySem.W.keepIn K (.ref f3) = true)
    (a4 : PySem.W.nsIn K mainGlobals "_law_pick" = some (some (.ref f4))) (l4 : K.lookup f4 = some ⟨oc4, od4, .func (PySem.W.fnOf "_law_pick" "_law_pick" (defArgs sPick) (defBody sPick) (defScope sPick) .none kV4 dc4 pm4 an4 cd4 ct4), sl4⟩)
      (c4 : PySem.W.codeIn K cd4 "_law_pick" = true) (k4 : PySem.W.keepIn K (.ref f4) = true)
    (a5 : PySem.W.nsIn K mainGlobals "_law_words" = some (some (.ref f5))) (l5 : K.lookup f5 = some ⟨oc5, od5, .func (PySem.W.fnOf "_law_words" "_law_words" (defArgs sWords) (defBody sWords) (defScope sWords) .none kV5 dc5 pm5 an5 cd5 ct5), sl5⟩)
      (c5 : PySem.W.codeIn K cd5 "_law_words" = true) (k5 : PySem.W.keepIn K (.ref f5) = true)
    (a6 : PySem.W.nsIn K mainGlobals "_law_changes" = some (some (.ref f6))) (l6 : K.lookup f6 = some ⟨oc6, od6, .func (PySem.W.fnOf "_law_changes" "_law_changes" (defArgs sChs) (defBody sChs) (defScope sChs) .none kV6 dc6 pm6 an6 cd6 ct6), sl6⟩)
      (c6 : PySem.W.codeIn K cd6 "_law_changes" = true) (k6 : PySem.W.keepIn K (.ref f6) = true)
    (a7 : PySem.W.nsIn K mainGlobals "law" = some (some (.ref f7))) (l7 : K.lookup f7 = some ⟨oc7, od7, .func (PySem.W.fnOf "law" "law" (defArgs sLaw) (defBody sLaw) (defScope sLaw) .none kV7 dc7 pm7 an7 cd7 ct7), sl7⟩)
      (c7 : PySem.W.codeIn K cd7 "law" = true) (k7 : PySem.W.keepIn K (.ref f7) = true)
    (v0 : PySem.W.nsIn K mainGlobals "PLACE" = some (some (.int 1 t0)))
    (z0 : PySem.W.nsIn K mainGlobals "tuple" = some none)
    (z1 : PySem.W.nsIn K mainGlobals "len" = some none)
    (z2 : PySem.W.nsIn K mainGlobals "abs" = some none)
    (z3 : PySem.W.nsIn K mainGlobals "int" = some none)
    (z4 : PySem.W.nsIn K mainGlobals "range" = some none)
    (z5 : PySem.W.nsIn K mainGlobals "list" = some none)
    (z6 : PySem.W.nsIn K mainGlobals "max" = some none)
    (z7 : PySem.W.nsIn K mainGlobals "min" = some none)
    (z8 : PySem.W.nsIn K mainGlobals "repr" = some none) :
    ∃ fd : FuncData, (∀ (s : Shared) (v : Value), BindsTo s fd ⟨[v], []⟩ [("_law_script", v)]) ∧ ∀ bs : Heap, K.In bs → bs.Ns mainGlobals mg → GnOk l.prog w K mg bs 6 fa fd ["_law_script"] (spLaw K) := by
  have e := hfa.symm.trans (PySem.W.mg_of X G a7)
  cases e
  have F0 := fun_mk (st := sChd) l0 c0 k0
  have F1 := fun_mk (st := sApp) l1 c1 k1
  have F2 := fun_mk (st := sSrc) l2 c2 k2
  have F3 := fun_mk (st := sDraw) l3 c3 k3
  have F4 := fun_mk (st := sPick) l4 c4 k4
  have F5 := fun_mk (st := sWords) l5 c5 k5
  have F6 := fun_mk (st := sChs) l6 c6 k6
  have F7 := fun_mk (st := sLaw) l7 c7 k7
  exact ⟨_, fun s v => .of_eq rfl, fun bs _ _ => ok_law F7 ⟨F0, F1, F2, F3, F4, F5, F6, PySem.W.mg_of X G a0, PySem.W.mg_of X G a1, PySem.W.mg_of X G a2, PySem.W.mg_of X G a3, PySem.W.mg_of X G a4, PySem.W.mg_of X G a5, PySem.W.mg_of X G a6, ⟨_, PySem.W.mg_of X G v0⟩, PySem.W.mg_none_of X G z0, PySem.W.mg_none_of X G z1, PySem.W.mg_none_of X G z2, PySem.W.mg_none_of X G z3, PySem.W.mg_none_of X G z4, PySem.W.mg_none_of X G z5, PySem.W.mg_none_of X G z6, PySem.W.mg_none_of X G z7, PySem.W.mg_none_of X G z8⟩⟩
end K29
open PySem PySem.W PyProof.Rows
set_option maxHeartbeats 0 in
theorem PySem.Challenge.cw_errorspans_k29_apply_repair_holds : PySem.Challenge.rw_errorspans_k29_apply_repair.Holds := by
  w_on; o_law; k_head; (case hw => w_witness2)
  k_fill
  refine Es.walk_ofG (l := PySem.Challenge.rw_errorspans_k29_apply_repair) (n := 63) (k := 6) (x := "_law_script") (sp := K29.spLaw) rfl (by decide) rfl ⟨rfl, by decide, by decide⟩ (fun w h Y => PySem.W.kIn_of Y) ?F (fun _ _ a ns _ _ hS => ⟨a, ns, rfl, hS, fun _ => rfl⟩)
  case F =>
    intro w mg fa h KX G hmg
    refine' K29.all_mk KX G hmg ?a0 ?l0 ?c0 ?k0 ?a1 ?l1 ?c1 ?k1 ?a2 ?l2 ?c2 ?k2 ?a3 ?l3 ?c3 ?k3 ?a4 ?l4 ?c4 ?k4 ?a5 ?l5 ?c5 ?k5 ?a6 ?l6 ?c6 ?k6 ?a7 ?l7 ?c7 ?k7 ?v0 ?z0 ?z1 ?z2 ?z3 ?z4 ?z5 ?z6 ?z7 ?z8
    (case a0 => k_is); (case l0 => k_is); (case c0 => k_is); (case k0 => k_is); (case a1 => k_is); (case l1 => k_is); (case c1 => k_is); (case k1 => k_is)
    (case a2 => k_is); (case l2 => k_is); (case c2 => k_is); (case k2 => k_is); (case a3 => k_is); (case l3 => k_is); (case c3 => k_is); (case k3 => k_is)
    (case a4 => k_is); (case l4 => k_is); (case c4 => k_is); (case k4 => k_is); (case a5 => k_is); (case l5 => k_is); (case c5 => k_is); (case k5 => k_is)
    (case a6 => k_is); (case l6 => k_is); (case c6 => k_is); (case k6 => k_is); (case a7 => k_is); (case l7 => k_is); (case c7 => k_is); (case k7 => k_is)
    (case v0 => k_is); (case z0 => k_is); (case z1 => k_is); (case z2 => k_is); (case z3 => k_is); (case z4 => k_is); (case z5 => k_is); (case z6 => k_is)
    (case z7 => k_is); (case z8 => k_is)
