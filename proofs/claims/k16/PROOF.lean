import PyProof.Rows.All
import Wide.All
import OpenK.AllK
import Wide.FinOn
import HandS.ForMost
import HandS.IsInst
import HandS.Evl
import HandS.Walk
import KE.GoesEnum
import HandS.TupAny
import PySem.Challenge.RW_errorspans_k16_windows_of_any_value
set_option Elab.async false
set_option linter.all false
set_option maxRecDepth 100000
set_option maxHeartbeats 2000000
namespace Es
open PySem PySem.Spec PyProof.Rows L2 Evl
section
variable {X : Cx}
/-- repr of a truth value -/
theorem cr_reprB : CallR X (.builtin "repr") (fun xs H Q => ∃ b : Bool, xs = [.bl b] ∧ Q (.str (if b then "True" else "False")) H) := by
  intro pins s σ H xs us Q I r h
  obtain ⟨b, rfl, q⟩ := h
  obtain ⟨u, rfl, ru⟩ := vals1 r
  obtain rfl : u = Value.bool b := ru
  exact PySem.P.repr_of_bool ⟨.str _, H, I.tok _, ⟨_, rfl⟩, q⟩
/-- repr of data that lies at an address -/
theorem cr_reprD (hg : X.A.guards = some []) (hu : X.A.units + 64 < cLine) : CallR X (.builtin "repr")
    (fun xs H Q => ∃ (a : Addr) (d : PyData), xs = [.ref a] ∧ Dp X.K H (.ref a) d ∧ d.showable = true ∧ d.hasDict = false ∧ d.depth ≤ 60 ∧ d.shown.length ≤ sizeLine ∧ Q (.str d.shown) H) := by
  intro pins s σ H xs us Q I r h
  obtain ⟨a, d, rfl, hd, hs, hn, hdp, hz, q⟩ := h
  obtain ⟨u, rfl, ru⟩ := vals1 r
  obtain rfl : u = Value.ref a := ru
  obtain ⟨as, rd⟩ := Dp.reads I d _ _ hd rfl
  refine repr_of_reads' rd hs (fun z => ?_) hg (by omega) (fun _ _ e => e) (fun h' u tk hk => ?_) hz
  · rw [hn] at z; cases z
  · exact ⟨.str d.shown, H, I.kept (t' := tk) hk, ⟨_, rfl⟩, q⟩
/-- powers of great numbers -/
def CPowW (i j : Int) : Prop := 0 ≤ j ∧ (Builtin.Int.intBits i : Int) * j ≤ 2 ^ 27
theorem op_powW : OpR X (binaryOp .Pow) (rI CPowW fun i j => .int (i ^ j.toNat)) := opI fun _ _ _ _ _ _ _ hc q => pow_int hc.1 hc.2 q
end
/-- a def's promise, given where no repr is under way -/
structure GnOk (P : Program) (w : World) (K : PySem.W.Frag) (mg : Str → Option Value) (bs : Heap) (k : Nat) (f : Addr) (fd : FuncData) (ps : List Str) (sp : Sp) : Prop where
  len : ∀ vs H Q E, sp vs H Q E → vs.length = ps.length
  run : ∀ (A : Around) (out : List Env) (s : Shared) (H : Hp) (ar : Args) (us : List Value) (vs : List V) (Q : VK) (E : XK), A.guards = some [] → Room k A →
    Env0 P w K mg bs A out s H → BindsTo s fd ar (ps.zip us) → Vals vs us → sp vs H Q E → codeAny (model P w) A (.call (.ref f) ar) (CR CX0 out P w H s Q E) s
section
variable {P : Program} {w : World} {K : PySem.W.Frag} {mg : Str → Option Value} {bs : Heap} {k : Nat} {f : Addr} {fd : FuncData} {ps : List Str} {sp : Sp}
theorem GnOk.ofF (F : FnOk P w K mg bs CX0 k f fd ps sp) : GnOk P w K mg bs k f fd ps sp := ⟨F.len, fun A out s H ar us vs Q E _ => F.run A out s H ar us vs Q E⟩
theorem GnOk.mono {j : Nat} (F : GnOk P w K mg bs j f fd ps sp) (h : j ≤ k) : GnOk P w K mg bs k f fd ps sp := ⟨F.len, fun A out s H ar us vs Q E g hr => F.run A out s H ar us vs Q E g (hr.mono h)⟩
theorem gn_of {x qual : Str} {st : Stmt} {N : List Str} (F : Fun K x qual st f fd) (S : FnScope N ps (defScope st)) (len : ∀ vs H Q E, sp vs H Q E → vs.length = ps.length)
    (hb : ∀ (cd : Value) (A : Around) (out : List Env) (s : Shared) (H : Hp) (vs : List V) (Q : VK) (E : XK), A.guards = some [] → Room k (A.deeper (envOfC qual (defScope st) s.heap.objs.size f cd)) →
      sp vs H Q E → ∃ t, PSs (cxOf CX0 P w K mg bs N qual (defScope st) f cd A out s H E).nox (defBody st) t ∧ t { nx := fun _ H' => Q .non H', rt := Q } (start N vs) H) :
    GnOk P w K mg bs (k + 1) f fd ps sp := by
  obtain ⟨oc, od, kV, dc, pm, an, cd, ct, sl, rfl, lk, hcd⟩ := F.ex
  refine ⟨len, ?_⟩
  intro A out s H ar us vs Q E g hr e0 hbd rv hs
  have up := fun b o (e : bs.get? b = some o) => (e0.bs b o e).1
  have kin := e0.mod.kin.keeps up
  have ln := len _ _ _ _ hs
  obtain ⟨t, ht, hq⟩ := hb cd A out s H vs Q E g (hr.deeper _) hs
  have hk : ∀ y ∈ ps.zip us, (defScope st).names.lookup y.1 = some .local ∨ ((defScope st).names.lookup y.1 = some .cell ∧ ((cellsFrom (s.heap.objs.size + 1) (defScope st).names []).lookup y.1).isSome = true) := by
    intro ⟨n, v⟩ hy
    rcases S.par n (List.of_mem_zip hy).1 with q | q
    · exact Or.inl q
    · exact Or.inr ⟨q, PySem.W.cellsFrom_some _ _ _ (.inl q)⟩
  refine codeAny_call_function hr.depth (kin _ _ lk) rfl S.co S.gen rfl (PySem.W.codeRec_of kin hcd) (hbd _ _ _ _ ?_)
  refine wpAny_newFunctionEnv_cells S.kind hk ?_
  intro en he s1 x
  subst he
  refine ⟨(e0.mod.nolimit.keeps up).keeps x.toInCall.keep, codeAny_func ?_⟩
  have I := inv_start (CX := CX0) (P := P) (w := w) (K := K) (mg := mg) (base := bs) (E := E) S hr.hd e0 ln rv x
  refine wpAny_mono (ht.nox.run [] s1 (start N vs) H _ I hq) ?_ (fun e s' hs => hs)
  intro fl s' z
  have fin : ∀ {σ' : L2.St} {H' : Hp} {v : V} {u : Value}, Inv (cxOf CX0 P w K mg bs N qual (defScope st) f cd A out s H E) [] σ' H' s' → RelV v u → Q v H' → CE out P w H s Q u s' :=
    fun J r q => ⟨_, _, J.os, J.bare, J.base, J.hok, r, q⟩
  match fl, z with
  | .ret u, ⟨v, σ', H', J, r, q⟩ => exact fin J r q
  | .next, ⟨σ', H', J, q⟩ => exact fin (v := V.non) (u := Value.none) J rfl q
  | .brk, ⟨_, _, _, q⟩ => exact q.elim
  | .cont, ⟨_, _, _, q⟩ => exact q.elim
end
section
variable {X : Cx} {k : Nat} {f : Addr} {fd : FuncData} {ps ks : List Str} {sp : Sp} {x : Str} {p pos : Pos} {e : Expr} {es : List Expr} {kws : List Keyword} {t tk : TA}
theorem run_gn {pins : List (Addr × Obj)} {σ : L2.St} {H : Hp} {s : Shared} {Q : VK} {us : List Value} {vs : List V} (F : GnOk X.prog X.w X.K X.mg X.base k f fd ps sp) (g : X.A.guards = some []) (hr : Room k X.A)
    (hb : Binds X.K fd ps []) (I : Inv X pins σ H s) (r : Vals vs us) (h : sp vs H Q E0) : wpAny (model X.prog X.w) X.A (call (.ref f) us) (EP X pins σ Q) X.xe s := by
  have ln := F.len _ _ _ _ h
  have hb' := hb s us I.kIn (by rw [List.append_nil, ← r.length]; exact ln)
  rw [List.append_nil] at hb'
  refine wpAny_call (codeAny_mono (F.run X.A X.stack s H ⟨us, []⟩ us vs Q E0 g hr I.env0 hb' r h) ?_)
  intro rs s' z
  match rs, z with
  | .ok (.ret u), z => exact I.after z
def tCallG (sp : Sp) (t : TA) : TE := fun σ H Q => t σ H fun vs H1 => sp vs H1 Q E0
/-- f(e, ..), f one that may ask for a repr -/
theorem pe_callG (F : GnOk X.prog X.w X.K X.mg X.base k f fd ps sp) (g : X.A.guards = some []) (hr : Room k X.A) (hg : Gl X x) (hm : X.mg x = some (.ref f)) (hk : PySem.W.keepIn X.K (.ref f) = true)
    (hb : Binds X.K fd ps []) (ha : PA X (e :: es) t) (hdb : (x == ("__debug__" : Str)) = false := by decide)
    (he : starEach (e :: es) X.env = (false, eval e X.env) :: starEach es X.env := by rfl) (hpl : (backTo pos (starEach es X.env)).any (·.1) = false := by rfl) :
    PE X (.Call (.Name x p) (e :: es) [] pos) (tCallG sp t) := by
  refine ⟨?_⟩
  intro pins s σ H Q I h
  refine wpAny_Call_Name_kw (ld_glob I hg hm ?_ hdb)
  refine PySem.W.callWith_K (h₀ := X.base) I.ok.mod.kin hk (thn (ha.run pos pins s σ H _ I h) ?_) he hpl
  rintro us s1 ⟨vs, H1, I1, r, q⟩
  exact ⟨I1.kIn, run_gn F g hr hb I1 r q⟩
/-- f(k = v, ..): keywords alone -/
theorem pe_callK0 {gg : List Value → List Value → List Value} {gV : List V → List V → List V} (F : FnOk X.prog X.w X.K X.mg X.base CX0 k f fd ps sp) (hr : Room k X.A) (hg : Gl X x) (hm : X.mg x = some (.ref f)) (hk : PySem.W.keepIn X.K (.ref f) = true)
    (hb : KBinds X.K fd ps ks gg gV) (hkw : PK X kws tk) (hall : (backToKw pos (keywordEach kws X.env)).all (·.1.isSome) = true := by rfl) (hks : (backToKw pos (keywordEach kws X.env)).filterMap (·.1) = ks := by rfl)
    (hdb : (x == ("__debug__" : Str)) = false := by decide) (hpl : ((backTo pos (starEach [] X.env)).any (·.1) || (backToKw pos (keywordEach kws X.env)).any (·.1.isNone)) = false := by rfl) :
    PE X (.Call (.Name x p) [] kws pos) (fun σ H Q => tk σ H fun zs H1 => sp (gV [] zs) H1 Q E0) := by
  refine ⟨?_⟩
  intro pins s σ H Q I h
  refine wpAny_Call_Name_kw (ld_glob I hg hm ?_ hdb)
  refine PySem.W.callWith_KW0 (h₀ := X.base) I.ok.mod.kin hk hall (thn (hkw.run pos pins s σ H _ I h) ?_) hpl
  rintro ws s2 ⟨zs, H2, I2, rz, q2⟩
  refine ⟨I2.kIn, ?_⟩
  rw [hks]
  exact run_fnk F hr hb pass0 I2 .nil rz q2
end
/-! the law's own call -/
section
variable {P : Program} {w : World} {K : PySem.W.Frag} {mg mb : Str → Option Value} {k : Nat} {fa a : Addr} {fd : FuncData} {x : Str} {sp : Sp} {s1 : Shared} {vs : List Value} {ns : List Int}
def LawEnd (s1 : Shared) : Result → Shared → Prop := fun r s' => r = .ok (.ret (.bool true)) ∧ OldK s1.heap s'.heap ∧ s'.os = s1.os ∧ AllBare s'.gens
theorem law_core (KX : K.In s1.heap) (hns : s1.heap.Ns mainGlobals mg) (hb : s1.heap.Ns builtinsNs mb) (hbb : ∀ x : Str, x ≠ "__name__" → mb x = bootBuiltins x) (hlim : s1.heap.NoLimit) (hg : s1.gens = #[])
    (ha : s1.heap.get? a = some { cls := .type "list", data := .seq vs.toArray }) (hr : Room k callerA)
    (F : ∀ bs : Heap, K.In bs → bs.Ns mainGlobals mg → GnOk P w K mg bs k fa fd [x] sp) (hbd : ∀ (s : Shared) (u : Value), BindsTo s fd ⟨[u], []⟩ [(x, u)])
    (H : Hp) (hO : Only H) (hok : HOk P w H s1.heap) (hA : ∀ b, H b ≠ none → b = a) (hK : H a ≠ none → K.lookup a = none) (hs : sp [.ref a] H (fun v _ => v = .bl true) E0) :
    codeAny (model P w) callerA (.call (.ref fa) ⟨[.ref a], []⟩) (LawEnd s1) s1 := by
  have isA : ∀ {b : Addr} {u : HO}, H b = some u → b = a := fun q => hA _ (by rw [q]; simp)
  have nodict : ∀ {b : Addr} {o : Obj} {es : Array DictEntry} {ep : Nat}, s1.heap.get? b = some o → o.data = .dict es ep → H b = none := by
    intro b o es ep e d
    cases q : H b with
    | none => rfl
    | some u =>
      cases isA q
      rw [ha] at e
      cases e
      cases d
  have low : ∀ {b : Addr} {o : Obj}, s1.heap.get? b = some o → H b = none → (hidT s1.heap H).get? b = some o := fun e n => hidT_get e n
  have nsl : ∀ {b : Addr} {m : Str → Option Value}, s1.heap.Ns b m → (hidT s1.heap H).Ns b m := by
    rintro b m ⟨o, es, ep, e, d, r⟩
    exact ⟨o, es, ep, low e (nodict e d), d, r⟩
  have kl : K.In (hidT s1.heap H) := by
    intro b o e
    refine low (KX b o e) ?_
    cases q : H b with
    | none => rfl
    | some u =>
      cases isA q
      rw [hK (by rw [q]; simp)] at e
      cases e
  obtain ⟨mc, hm1, hm2⟩ := hlim
  have md : Mod K mg (hidT s1.heap H) := ⟨kl, nsl hns, ⟨mb, nsl hb, hbb⟩, ⟨mc, nsl hm1, hm2⟩⟩
  have e0 : Env0 P w K mg (hidT s1.heap H) callerA [] s1 H :=
    ⟨rfl, md, fun b o e => of_hidT e, Nat.le_of_eq (hidT_size _ _), trivial, fun b z => absurd (show b ∈ ([] : List Addr) from z) (by simp), hok, .of_eq hg⟩
  refine codeAny_mono ((F _ kl (nsl hns)).run callerA [] s1 H ⟨[.ref a], []⟩ [.ref a] [.ref a] _ _ rfl hr e0 (hbd s1 (.ref a)) (.cons rfl .nil) hs) ?_
  intro r s' z
  match r, z with
  | .ok (.ret u), ⟨v, H', os, bare, un, hok', rv, q⟩ =>
    cases (show v = .bl true from q)
    obtain rfl : u = Value.bool true := rv
    refine ⟨rfl, OldK.of_keep ?_, os, bare⟩
    intro b o e
    cases q : H b with
    | none => exact un.keep b o e q (by intro z; exact absurd (show b ∈ ([] : List Addr) from z) (by simp)) (by simp)
    | some u =>
      rcases hO b with z | ⟨ob, xs, z⟩
      · rw [q] at z
        cases z
      · obtain ⟨g1, _⟩ := hok b _ z
        obtain ⟨g2, _⟩ := hok' b _ (un.frzs b ob _ z)
        rw [e] at g1
        cases g1
        exact g2
theorem law_callG (KX : K.In s1.heap) (hns : s1.heap.Ns mainGlobals mg) (hb : s1.heap.Ns builtinsNs mb) (hbb : ∀ x : Str, x ≠ "__name__" → mb x = bootBuiltins x) (hlim : s1.heap.NoLimit) (hg : s1.gens = #[])
    (ha : s1.heap.get? a = some { cls := .type "list", data := .seq vs.toArray }) (hi : IntsAre vs ns) (hl : ns.length ≤ sizeLine) (hr : Room k callerA)
    (F : ∀ bs : Heap, K.In bs → bs.Ns mainGlobals mg → GnOk P w K mg bs k fa fd [x] sp) (hbd : ∀ (s : Shared) (u : Value), BindsTo s fd ⟨[u], []⟩ [(x, u)])
    (hsp : ∀ H : Hp, Only H → SqL K H a (ns.map V.int) → sp [.ref a] H (fun v _ => v = .bl true) E0) :
    codeAny (model P w) callerA (.call (.ref fa) ⟨[.ref a], []⟩) (LawEnd s1) s1 := by
  have rv := vals_ints hi
  cases hk : K.lookup a with
  | some o =>
    have e := KX a o hk
    rw [ha] at e
    cases e
    have hO : Only (fun _ => none) := fun _ => .inl rfl
    refine law_core KX hns hb hbb hlim hg ha hr F hbd (fun _ => none) hO (fun b u z => nomatch z) (fun b z => absurd rfl z) (fun z => absurd rfl z) (hsp _ hO ?_)
    exact .inr ⟨_, vs.toArray, _, hk, rfl, rfl, rfl, by rw [List.size_toArray, hi.length]; exact hl, by simpa using rv⟩
  | none =>
    let Z : Hp := fun b => if b = a then some (.frz { cls := .type "list", data := .seq vs.toArray } (.lst (ns.map V.int))) else none
    have hZ : Z a = some (.frz { cls := .type "list", data := .seq vs.toArray } (.lst (ns.map V.int))) := if_pos rfl
    have hZn : ∀ b, b ≠ a → Z b = none := fun b h => if_neg h
    have hO : Only Z := fun b => by
      by_cases h : b = a
      · subst h
        exact .inr ⟨_, _, hZ⟩
      · exact .inl (hZn b h)
    refine law_core KX hns hb hbb hlim hg ha hr F hbd Z hO (fun b u z => ?_) (fun b z => ?_) (fun _ => hk) (hsp Z hO (.inl (.inr ⟨_, hZ⟩)))
    · by_cases h : b = a
      · subst h
        rw [hZ] at z
        cases z
        exact ⟨ha, by rw [List.length_map]; exact hl, vs, _, rv, ha⟩
      · rw [hZn b h] at z
        cases z
    · by_cases h : b = a
      · exact h
      · exact absurd (hZn b h) z
end
theorem walk_ofG {l : PySem.W.OpenLaw} {n k : Nat} {q : Program} {loose : List Str} {XP : (Str → Option Value) → Heap → Prop} {YP : World → Heap → Prop} {d : DefRec} {K : Params → PySem.W.Frag} {sp : PySem.W.Frag → Sp} {x : Str}
    (hn : l.most = some n) (hn2 : n ≤ sizeLine) (hdf : d.params.defaults = []) (hr : Room k callerA) (hY : ∀ (w : World) (h : Heap), YP w h → (K w.params).In h)
    (F : ∀ (w : World) (mg : Str → Option Value) (fa : Addr) (h : Heap), (K w.params).In h → h.Ns mainGlobals mg → mg d.name = some (.ref fa) →
      ∃ fd : FuncData, (∀ (s : Shared) (u : Value), BindsTo s fd ⟨[u], []⟩ [(x, u)]) ∧
        ∀ bs : Heap, (K w.params).In bs → bs.Ns mainGlobals mg → GnOk l.prog w (K w.params) mg bs k fa fd [x] (sp (K w.params)))
    (hsp : ∀ (K : PySem.W.Frag) (H : Hp) (a : Addr) (ns : List Int), ns.length ≤ n → Only H → SqL K H a (ns.map V.int) → sp K [.ref a] H (fun v _ => v = .bl true) E0) :
    PySem.W.WalkO q loose XP YP l.row.toRowW d [] (fun f vs => PySem.call f vs) := by
  refine Att.attach_call hn hdf ?_
  intro w s0 s1 mg mb fa o pm cd dc a vs ns G Y ho hd hcd hmg hobj hints hlen hgn
  have KX := hY w _ Y
  obtain ⟨fd, hb, hF⟩ := F w mg fa _ KX G.T.g hmg
  exact law_callG KX G.T.g G.T.b G.T.builtins G.T.nolimit hgn hobj hints (Nat.le_trans hlen hn2) hr hF hb fun H hO hS => hsp _ H a ns hlen hO hS
end Es
namespace Es
open PySem PySem.Spec PyProof.Rows L2 Evl
section
variable {K : PySem.W.Frag} {σ : L2.St} {H H' : Hp} {ta tb tc te : TE} {x y z v w : V} {r r' : R2}
theorem ev_chain {k k' : Bool} (ha : Ev ta σ H x) (hb : Ev tb σ H y) (hr : RV r x y H (.bl k)) (hc : k = true → Ev tc σ H w) (hr' : k = true → RV r' y w H (.bl k')) : Ev (tChain r r' ta tb tc) σ H (.bl (k && k')) := by
  intro H1 e Q q
  refine ha H1 e _ fun H2 e2 => hb H2 (e.trans e2) _ fun H3 e3 => hr H3 ((e.trans e2).trans e3) _ fun H4 e4 => ⟨k, rfl, ?_⟩
  have e14 := (e2.trans e3).trans e4
  cases k with
  | true => exact hc rfl H4 (e.trans e14) _ fun H5 e5 => hr' rfl H5 ((e.trans e14).trans e5) Q fun H6 e6 => q H6 ((e14.trans e5).trans e6)
  | false => exact q H4 e14
/-- a text walked by a comprehension without tests, each sign giving f of it -/
theorem el_lcS {s : Str} {tl : TE} {j : Nat} {vs : List Nat} (f : Nat → V) (h : Ev tl σ H (.str s)) (hz : s.cps.size ≤ 40000) (hw : ∀ x, wipe ((wipe σ vs).set j (some x)) vs = wipe σ vs)
    (he : ∀ (c : Nat) H1, Ex H H1 → c ∈ s.cps.toList → Ev te ((wipe σ vs).set j (some (.str ⟨#[c]⟩))) H1 (f c)) :
    EvL (tLc (iStr tl) (gName j) tYes te vs) σ H (s.cps.toList.map f) := by
  intro H0 e Q q
  refine h H0 e _ fun H1 e1 => ⟨s, rfl, fun D hD => ?_⟩
  refine lc_it walk_str (fun i H' => Ex H1 H' ∧ H' D = some (.lst ((s.cps.toList.take i).map f))) ⟨Ex.new hD, upd_same⟩ (fun _ _ _ _ => trivial) (fun i x Ha Hb hi p y => ?_) (fun Hc p => ?_)
  · obtain ⟨rfl, c, hc, rfl⟩ := y
    refine ⟨hw _, ?_⟩
    show te _ Hb _
    have hm : s.cps.toList[i]? = some c := by rw [Array.getElem?_toList]; exact hc
    refine he c Hb ((e.trans e1).trans p.1) (List.mem_of_getElem? hm) Hb (Ex.refl _) _ fun Hc ec => ⟨_, ec D _ p.2, ?_, Ex.mut (p.1.trans ec) hD, ?_⟩
    · rw [List.length_map, List.length_take]
      exact sz_lt (by rw [Array.length_toList]; omega)
    · rw [upd_same, List.take_add_one, hm, List.map_append]
      rfl
  · have p2 := p.2
    rw [List.take_of_length_le (by rw [Array.length_toList]; exact Nat.le_refl _)] at p2
    exact q D Hc (fresh_back e1 hD) (e1.trans p.1) p2
theorem ev_cbL {r : List V → Hp → VK → Prop} {ta : TE} {xs : List V} (h : EvL ta σ H xs) (hr : ∀ p H1, H1 p = some (.lst xs) → Ex H H1 → RC r [.ref p] H1 z) : Ev (tCB r (tCons ta tNil)) σ H z := fun H1 e Q q =>
  h H1 e _ fun p H2 _ e2 hp => hr p H2 hp (e.trans e2) H2 (Ex.refl _) Q fun H3 e3 => q H3 (e2.trans e3)
/-- the values that a value of any kind may be -/
inductive Thing (H : Hp) : V → Prop
  | non : Thing H .non
  | bl (b : Bool) : Thing H (.bl b)
  | int (i : Int) : Thing H (.int i)
  | str (s : Str) : s.length ≤ 1000 → Thing H (.str s)
  | lst {a : Addr} {xs : List V} : H a = some (.lst xs) → Thing H (.ref a)
  | tup {a : Addr} {xs : List V} : H a = some (.tup xs) → Thing H (.ref a)
  | dK {a : Addr} {kvs : List (Key × V)} : H a = some (.dK kvs) → Thing H (.ref a)
theorem Thing.up (h : Thing H v) (e : Ex H H') : Thing H' v := by
  cases h with
  | non => exact .non
  | bl b => exact .bl b
  | int i => exact .int i
  | str s hs => exact .str s hs
  | lst h => exact .lst (e _ _ h)
  | tup h => exact .tup (e _ _ h)
  | dK h => exact .dK (e _ _ h)
def isS : V → Bool
  | .str _ => true
  | _ => false
theorem Thing.ty (h : Thing H v) : ∃ t : String, TyX K H v (.type t) ∧ kitB t "str" = some (isS v) := by
  cases h with
  | non => exact ⟨_, .base .non, show kitB "NoneType" "str" = some false by decide +kernel⟩
  | bl b => exact ⟨_, .base (.bl b), show kitB "bool" "str" = some false by decide +kernel⟩
  | int i => exact ⟨_, .base (.int i), show kitB "int" "str" = some false by decide +kernel⟩
  | str s hs => exact ⟨_, .base (.str s), show kitB "str" "str" = some true by decide +kernel⟩
  | lst h => exact ⟨_, .base (.lst h), show kitB "list" "str" = some false by decide +kernel⟩
  | tup h => exact ⟨_, .base (.tup h), show kitB "tuple" "str" = some false by decide +kernel⟩
  | dK h => exact ⟨_, .base (.dK h), show kitB "dict" "str" = some false by decide +kernel⟩
theorem Thing.isi (h : Thing H v) : RC (rIsi K) [v, .ty "str"] H (.bl (isS v)) := by
  intro H1 e Q q
  obtain ⟨t, h1, h2⟩ := (h.up e).ty (K := K)
  exact ⟨v, _, _, _, _, rfl, .ty _, h1, kit_ty h2, q H1 (Ex.refl _)⟩
def rLen1 (K : PySem.W.Frag) : List V → Hp → VK → Prop := fun xs H Q => ∃ x n, xs = [x] ∧ LenV K x H n ∧ Q (.int n) H
theorem rc_lenS {s : Str} (h : s.length ≤ 1000) : RC (rLen1 K) [.str s] H (.int (s.length : Int)) := fun H1 _ _ q => ⟨.str s, s.length, rfl, ⟨sz_of (by omega), rfl⟩, q H1 (Ex.refl _)⟩
theorem rc_all {p : Addr} {bs : List Bool} (h : H p = some (.lst (bs.map V.bl))) : RC (rAll K) [.ref p] H (.bl (bs.all id)) := fun H1 e _ q => ⟨p, bs, rfl, sq_of (e _ _ h), q H1 (Ex.refl _)⟩
theorem rc_any {p : Addr} {bs : List Bool} (h : H p = some (.lst (bs.map V.bl))) : RC (rAny K) [.ref p] H (.bl (bs.any id)) := fun H1 e _ q => ⟨p, bs, rfl, sq_of (e _ _ h), q H1 (Ex.refl _)⟩
def rInSign : R2 := fun x y H Q => ∃ (c : Nat) (z : Str), x = .str ⟨#[c]⟩ ∧ y = .str z ∧ Q (.bl (decide (c ∈ z.cps.toList))) H
theorem rv_inSign {c : Nat} {s : Str} : RV rInSign (.str ⟨#[c]⟩) (.str s) H (.bl (decide (c ∈ s.cps.toList))) := fun H1 _ _ q => ⟨c, s, rfl, rfl, q H1 (Ex.refl _)⟩
def rNotInSign : R2 := fun x y H Q => ∃ (c : Nat) (z : Str), x = .str ⟨#[c]⟩ ∧ y = .str z ∧ Q (.bl (!decide (c ∈ z.cps.toList))) H
theorem rv_notInSign {c : Nat} {s : Str} : RV rNotInSign (.str ⟨#[c]⟩) (.str s) H (.bl (!decide (c ∈ s.cps.toList))) := fun H1 _ _ q => ⟨c, s, rfl, rfl, q H1 (Ex.refl _)⟩
end
end Es
namespace Es
open PySem PySem.Spec PyProof.Rows L2 Evl
/-- all but the object at p stays -/
def Xp (p : Addr) (H H' : Hp) : Prop := ∀ a o, a ≠ p → H a = some o → H' a = some o
theorem Xp.refl (p : Addr) (H : Hp) : Xp p H H := fun _ _ _ h => h
theorem Xp.ex {p : Addr} {H H' : Hp} (e : Ex H H') : Xp p H H' := fun a o _ h => e a o h
theorem Xp.trans {p : Addr} {H H1 H2 : Hp} (a : Xp p H H1) (b : Xp p H1 H2) : Xp p H H2 := fun x o n h => b x o n (a x o n h)
theorem Xp.upd {p : Addr} {H : Hp} {o : HO} : Xp p H (upd H p o) := fun a u n h => by
  rw [upd_ne n]
  exact h
/-- a pot: three ints -/
def Pot (H : Hp) (p : Addr) (n : Int) : Prop := ∃ g s c : Int, H p = some (.lst [.int g, .int s, .int c]) ∧ 0 ≤ g ∧ 0 ≤ s ∧ s < 2 ^ 61 ∧ 0 ≤ c ∧ c ≤ n
theorem Pot.up {H H' : Hp} {p : Addr} {n : Int} (h : Pot H p n) (e : Ex H H') : Pot H' p n := by
  obtain ⟨g, s, c, h, r⟩ := h
  exact ⟨g, s, c, e _ _ h, r⟩
theorem Pot.more {H : Hp} {p : Addr} {n m : Int} (h : Pot H p n) (e : n ≤ m) : Pot H p m := by
  obtain ⟨g, s, c, h, r1, r2, r3, r4, r5⟩ := h
  exact ⟨g, s, c, h, r1, r2, r3, r4, by omega⟩
theorem Pot.back {H H' : Hp} {p q : Addr} {n : Int} (h : Pot H' p n) (e : Xp p H H') (hq : H' q = none) : H q = none := by
  obtain ⟨g, s, c, h, _⟩ := h
  cases hh : H q with
  | none => rfl
  | some o =>
    by_cases z : q = p
    · subst z
      rw [h] at hq
      cases hq
    · rw [e q o z hh] at hq
      cases hq
theorem Pot.ne {H : Hp} {p q : Addr} {n : Int} (h : Pot H p n) (hq : H q = none) : q ≠ p := by
  obtain ⟨g, s, c, h, _⟩ := h
  intro z
  subst z
  rw [h] at hq
  cases hq
def spTake : Sp := fun vs H Q _ => ∃ (p : Addr) (n m : Int), vs = [.ref p, .int n] ∧ 1 ≤ n ∧ n ≤ 1000 ∧ m ≤ 100000 ∧ Pot H p m ∧
  ∀ (r : Int) H', 0 ≤ r → r < n → Xp p H H' → Pot H' p (m + 1) → Q (.int r) H'
end Es
namespace Es
open PySem PySem.Spec PyProof.Rows L2 Evl
theorem Xp.mut {p D : Addr} {H H' : Hp} {o : HO} (e : Xp p H H') (h : H D = none) : Xp p H (L2.upd H' D o) := fun a u n ha => by
  rw [upd_ne (ne_of_none ha h)]
  exact e a u n ha
theorem len_glue : ∀ ys : List Str, (∀ y ∈ ys, y.length = 1) → (Str.join "" ys).length = ys.length
  | [], _ => rfl
  | [y], h => h y (List.mem_singleton.mpr rfl)
  | x :: z :: r, h => by
    show (x ++ "" ++ Str.join "" (z :: r)).length = r.length + 1 + 1
    rw [PySem.Str.length_append, PySem.Str.length_append, len_glue (z :: r) (fun y hy => h y (List.mem_cons_of_mem _ hy)), h x (List.mem_cons_self ..)]
    show 1 + 0 + (r.length + 1) = r.length + 1 + 1
    omega
theorem cut_le (z : Str) (lo hi : Option Int) : (cutS z lo hi).length ≤ z.length := by
  show (List.toArray _).size ≤ z.cps.size
  rw [List.size_toArray, List.length_take, List.length_drop, Array.length_toList]
  omega
end Es
namespace Es
open PySem PySem.Spec PyProof.Rows L2 Evl
section
variable {K : PySem.W.Frag} {σ : L2.St} {H H' : Hp} {ta tb te : TE} {tk : TA} {x y z v w : V} {sp : Sp}
def rReprB : List V → Hp → VK → Prop := fun xs H Q => ∃ b : Bool, xs = [.bl b] ∧ Q (.str (if b then "True" else "False")) H
def rReprD (K : PySem.W.Frag) : List V → Hp → VK → Prop := fun xs H Q => ∃ (a : Addr) (d : PyData), xs = [.ref a] ∧ Dp K H (.ref a) d ∧ d.showable = true ∧ d.hasDict = false ∧ d.depth ≤ 60 ∧ d.shown.length ≤ sizeLine ∧ Q (.str d.shown) H
theorem rc_reprB {b : Bool} : RC rReprB [.bl b] H (.str (if b then "True" else "False")) := fun H1 _ _ q => ⟨b, rfl, q H1 (Ex.refl _)⟩
/-- [b, b] written -/
def two (b : Bool) : PyData := .list [.bool b, .bool b]
theorem rc_repr2 {p : Addr} {b : Bool} (h : H p = some (.lst [.bl b, .bl b])) : RC (rReprD K) [.ref p] H (.str (two b).shown) := fun H1 e _ q =>
  ⟨p, two b, rfl, .lst (sq_of (e _ _ h)) (.cons (.bl b) (.cons (.bl b) .nil)), by cases b <;> decide +kernel, by cases b <;> decide +kernel, by cases b <;> decide +kernel, by cases b <;> decide +kernel, q H1 (Ex.refl _)⟩
theorem el_rep {xs : List V} {n : Int} (h : EvL ta σ H xs) (hn : 0 ≤ n ∧ n ≤ 100) (hl : xs.length ≤ 100) : EvL (tOp rRep ta (tC (.int n))) σ H (List.replicate n.toNat xs).flatten := by
  intro H1 e Q q
  refine h H1 e _ fun p H2 hp e2 h2 => ⟨p, n, xs, rfl, rfl, h2, by omega, by omega, ?_, fun r hr => q r _ (fresh_back e2 hr) (e2.trans (Ex.new hr)) upd_same⟩
  have : xs.length * n.toNat ≤ 100 * 100 := Nat.mul_le_mul hl (by omega)
  exact sz_of (by omega)
theorem ev_callK0 {gV : List V → List V → List V} {vs : List V} (h : EvA tk σ H vs) (hs : SpV sp (gV [] vs) H z) : Ev (fun σ H Q => tk σ H fun zs H1 => sp (gV [] zs) H1 Q E0) σ H z := fun H1 e Q q =>
  h H1 e _ fun H2 e2 => hs H2 (e.trans e2) Q (fun H3 e3 => q H3 (e2.trans e3)) E0
end
/-- one keyword alone -/
def kwV : List V → List V → List V
  | [], zs => zs
  | _ :: _, _ => []
def kwU : List Value → List Value → List Value
  | [], zs => zs
  | _ :: _, _ => []
theorem kw_rel {vs zs : List V} {us ws : List Value} (r : Vals vs us) (rz : Vals zs ws) : Vals (kwV vs zs) (kwU us ws) := by
  cases r with
  | nil => exact rz
  | cons _ _ => exact .nil
end Es
namespace PySem.SeqAt
open PySem Builtin
/-- dict.__eq__ of a text, str.__eq__ of a dict -/
theorem es_dict_str (l : Addr) (es : Array DictEntry) (n : Nat) (dd : Option Addr) (sl : Array (Option Value)) (b : Str) (u : Tok) :
    Meets (Builtin.«dict.__eq__» ⟨[.ref l, .str b u], []⟩) (fun _ R s => s.heap.get? l = some { cls := .type "dict", dict := dd, data := .dict es n, slots := sl } ∧ R (.ok (.ret .notImplemented)) s) :=
  .of_wp fun prog w A R s h => by
    obtain ⟨hp, g, d, tk, os⟩ := s
    obtain ⟨hl, h⟩ := h
    have f1 := F.sub_str_dict
    wp_walk using wpAny_loadPart' hl, wpAny_load hl
    exact ⟨_, rfl, h⟩
theorem es_str_dict (l : Addr) (es : Array DictEntry) (n : Nat) (dd : Option Addr) (sl : Array (Option Value)) (b : Str) (u : Tok) :
    Meets (Builtin.«str.__eq__» ⟨[.str b u, .ref l], []⟩) (fun _ R s => s.heap.get? l = some { cls := .type "dict", dict := dd, data := .dict es n, slots := sl } ∧ R (.ok (.ret .notImplemented)) s) :=
  .of_wp fun prog w A R s h => by
    obtain ⟨hp, g, d, tk, os⟩ := s
    obtain ⟨hl, h⟩ := h
    have f1 := F.sub_dict_str
    wp_walk using wpAny_loadPart' hl, wpAny_load hl
    exact ⟨_, rfl, h⟩
section
variable {A : Around} {s : Shared}
def IsDic (h : Heap) (l : Addr) : Prop := ∃ dd es n sl, h.get? l = some { cls := .type "dict", dict := dd, data := .dict es n, slots := sl }
theorem es_rc_dict_str {l : Addr} (b : Str) (u : Tok) (hl : IsDic s.heap l) (hu : A.units < cLine) : RcAt A s (.ref l) (.str b u) false := fun prog w E Q h => by
  obtain ⟨dd, es, n, sl, ho⟩ := hl
  exact rc_eq_decline_or (k := false) ⟨_, ho, rfl⟩ (typeIs_str s b u) (by decide) F.sub_str_dict F.slot_dict_eq F.slot_str_eq_refl
    (fun _ hq => call_meets F.slot_dict_eq ⟨_, ho, rfl⟩ F.entry_dict_eq (F.args_dict_eq_2 _ _) (es_dict_str l es n dd sl b u) ⟨ho, hq⟩)
    (fun _ hq => call_meets F.slot_str_eq_refl (typeIs_str s b u) F.entry_str_eq (F.args_str_eq_2 _ _) (es_str_dict l es n dd sl b u) ⟨ho, hq⟩)
    (fun _ hq => wpAny_of_eq (rfl : isSame (.ref l) (.str b u) = pure false) hq) (.inr hu) h
theorem es_rc_str_dict {l : Addr} (b : Str) (u : Tok) (hl : IsDic s.heap l) (hu : A.units < cLine) : RcAt A s (.str b u) (.ref l) false := fun prog w E Q h => by
  obtain ⟨dd, es, n, sl, ho⟩ := hl
  exact rc_eq_decline_or (k := false) (typeIs_str s b u) ⟨_, ho, rfl⟩ (by decide) F.sub_dict_str F.slot_str_eq F.slot_dict_eq_refl
    (fun _ hq => call_meets F.slot_str_eq (typeIs_str s b u) F.entry_str_eq (F.args_str_eq_2 _ _) (es_str_dict l es n dd sl b u) ⟨ho, hq⟩)
    (fun _ hq => call_meets F.slot_dict_eq_refl ⟨_, ho, rfl⟩ F.entry_dict_eq (F.args_dict_eq_2 _ _) (es_dict_str l es n dd sl b u) ⟨ho, hq⟩)
    (fun _ hq => wpAny_of_eq (rfl : isSame (.str b u) (.ref l) = pure false) hq) (.inr hu) h
theorem es_eq_dict_str {l : Addr} (b : Str) (u : Tok) (hl : IsDic s.heap l) (hu : A.units < cLine) : EqAt A s (.ref l) (.str b u) false := fun prog w E Q h => by
  unfold eqBool
  refine wpAny_holding (wpAny_ite_split (fun hab => absurd (eq_of_beq hab) nofun) (fun _ => ?_))
  exact wpAny_bind (es_rc_dict_str b u hl hu prog w E _ (wpAny_truthy_bool h))
theorem es_eq_str_dict {l : Addr} (b : Str) (u : Tok) (hl : IsDic s.heap l) (hu : A.units < cLine) : EqAt A s (.str b u) (.ref l) false := fun prog w E Q h => by
  unfold eqBool
  refine wpAny_holding (wpAny_ite_split (fun hab => absurd (eq_of_beq hab) nofun) (fun _ => ?_))
  exact wpAny_bind (es_rc_str_dict b u hl hu prog w E _ (wpAny_truthy_bool h))
end
end PySem.SeqAt
namespace Es
open PySem PySem.Spec PyProof.Rows L2 Evl
mutual
/-- data that stands in the heap, not at p; dicts of at most one pair, its key a text -/
inductive Dd (p : Addr) (H : Hp) : V → PyData → Prop
  | non : Dd p H .non .none
  | bl (b : Bool) : Dd p H (.bl b) (.bool b)
  | int (i : Int) : Dd p H (.int i) (.int i)
  | str (x : Str) : Dd p H (.str x) (.str x)
  | lst {a : Addr} {xs : List V} {ds : List PyData} : a ≠ p → a ≠ sysModules → H a = some (.lst xs) → DdAll p H xs ds → Dd p H (.ref a) (.list ds)
  | tup {a : Addr} {xs : List V} {ds : List PyData} : a ≠ p → H a = some (.tup xs) → DdAll p H xs ds → Dd p H (.ref a) (.tuple ds)
  | dk0 {a : Addr} : a ≠ p → H a = some (.dK []) → Dd p H (.ref a) (.dict [])
  | dk1 {a : Addr} {k : Str} {v : V} {d : PyData} : a ≠ p → H a = some (.dK [(Sum.inr k, v)]) → Dd p H v d → Dd p H (.ref a) (.dict [(.str k, d)])
inductive DdAll (p : Addr) (H : Hp) : List V → List PyData → Prop
  | nil : DdAll p H [] []
  | cons {v : V} {vs : List V} {d : PyData} {ds : List PyData} : Dd p H v d → DdAll p H vs ds → DdAll p H (v :: vs) (d :: ds)
end
section
variable {p : Addr} {H H' : Hp}
mutual
theorem Dd.xp (e : Xp p H H') : ∀ {v : V} {d : PyData}, Dd p H v d → Dd p H' v d
  | _, _, .non => .non
  | _, _, .bl b => .bl b
  | _, _, .int i => .int i
  | _, _, .str x => .str x
  | _, _, .lst n m h r => .lst n m (e _ _ n h) (DdAll.xp e r)
  | _, _, .tup n h r => .tup n (e _ _ n h) (DdAll.xp e r)
  | _, _, .dk0 n h => .dk0 n (e _ _ n h)
  | _, _, .dk1 n h r => .dk1 n (e _ _ n h) (Dd.xp e r)
theorem DdAll.xp (e : Xp p H H') : ∀ {vs : List V} {ds : List PyData}, DdAll p H vs ds → DdAll p H' vs ds
  | _, _, .nil => .nil
  | _, _, .cons h r => .cons (Dd.xp e h) (DdAll.xp e r)
end
theorem Dd.up {v : V} {d : PyData} (h : Dd p H v d) (e : Ex H H') : Dd p H' v d := h.xp (Xp.ex e)
theorem DdAll.up {v : List V} {d : List PyData} (h : DdAll p H v d) (e : Ex H H') : DdAll p H' v d := h.xp (Xp.ex e)
theorem DdAll.length : ∀ {vs : List V} {ds : List PyData}, DdAll p H vs ds → vs.length = ds.length
  | _, _, .nil => rfl
  | _, _, .cons _ r => by rw [List.length_cons, List.length_cons, DdAll.length r]
theorem DdAll.append : ∀ {vs ws : List V} {ds es : List PyData}, DdAll p H vs ds → DdAll p H ws es → DdAll p H (vs ++ ws) (ds ++ es)
  | _, _, _, _, .nil, h => h
  | _, _, _, _, .cons h r, k => .cons h (DdAll.append r k)
theorem DdAll.drop : ∀ {vs : List V} {ds : List PyData} (i : Nat), DdAll p H vs ds → DdAll p H (vs.drop i) (ds.drop i)
  | _, _, 0, h => h
  | _, _, _ + 1, .nil => .nil
  | _, _, i + 1, .cons _ r => DdAll.drop i r
theorem DdAll.take : ∀ {vs : List V} {ds : List PyData} (i : Nat), DdAll p H vs ds → DdAll p H (vs.take i) (ds.take i)
  | _, _, 0, h => .nil
  | _, _, _ + 1, .nil => .nil
  | _, _, i + 1, .cons h r => .cons h (DdAll.take i r)
theorem DdAll.get : ∀ {vs : List V} {ds : List PyData} {i : Nat} {v : V}, DdAll p H vs ds → vs[i]? = some v → ∃ d, ds[i]? = some d ∧ Dd p H v d
  | _, _, 0, _, .cons h _, e => ⟨_, rfl, by cases e; exact h⟩
  | _, _, i + 1, _, .cons _ r, e => DdAll.get (i := i) r e
theorem Dd.thing {v : V} {d : PyData} (h : Dd p H v d) (hs : ∀ x, d = .str x → x.length ≤ 1000) : Thing H v := by
  cases h with
  | non => exact .non
  | bl b => exact .bl b
  | int i => exact .int i
  | str x => exact .str x (hs x rfl)
  | lst n m h r => exact .lst h
  | tup n h r => exact .tup h
  | dk0 n h => exact .dK h
  | dk1 n h r => exact .dK h
end
section
variable {X : Cx} {pins : List (Addr × Obj)} {σ : L2.St} {H : Hp} {s : Shared} {p : Addr}
theorem dic_of (I : Inv X pins σ H s) {a : Addr} {kvs : List (Key × V)} (h : H a = some (.dK kvs)) : SeqAt.IsDic s.heap a ∧ a ≠ sysModules := by
  obtain ⟨_, hs, vs, rv, hd⟩ := (show ObjOk X.prog X.w H s.heap a (.dK kvs) from I.hok a _ h)
  obtain ⟨⟨cls, dd, data, sl⟩, es, ep, ho, ⟨h1, h2, h3⟩, h4, _⟩ := hd
  cases (show cls = _ from h1)
  cases (show data = _ from h4)
  exact ⟨⟨dd, es, ep, sl, ho⟩, beq_eq_false_iff_ne.mp hs⟩
end
end Es
namespace Es
open PySem PySem.Spec PyProof.Rows L2 Evl
section
variable {X : Cx} {pins : List (Addr × Obj)} {σ : L2.St} {H : Hp} {s : Shared} {p : Addr}
mutual
theorem Dd.reads (I : Inv X pins σ H s) : ∀ {v : V} {d : PyData} {u : Value}, Dd p H v d → RelV v u → ∃ as, Reads s.heap u d as ∧ sysModules ∉ as
  | _, _, _, .non, r => by
    cases r
    exact ⟨_, Reads.none, List.not_mem_nil⟩
  | _, _, _, .bl b, r => by
    cases r
    exact ⟨_, Reads.bool b, List.not_mem_nil⟩
  | _, _, _, .int i, r => by
    obtain ⟨t, rfl⟩ := r
    exact ⟨_, Reads.int i t, List.not_mem_nil⟩
  | _, _, _, .str x, r => by
    obtain ⟨t, rfl⟩ := r
    exact ⟨_, Reads.str x t, List.not_mem_nil⟩
  | _, _, _, .lst n m h q, r => by
    cases r
    obtain ⟨its, rv, ⟨o, k, ho, hc, _, hd⟩, _⟩ := I.list (sq_of h)
    obtain ⟨as, hr, hn⟩ := DdAll.reads I q rv
    refine ⟨_, Reads.list ho hc hd hr, fun z => ?_⟩
    rcases List.mem_cons.mp z with e | e
    · exact m e.symm
    · exact hn e
  | _, _, _, .tup n h q, r => by
    cases r
    obtain ⟨its, rv, ⟨o, ho, hc, k, hd⟩, _⟩ := I.tuple (st_of h)
    obtain ⟨as, hr, hn⟩ := DdAll.reads I q rv
    exact ⟨_, Reads.tuple ho hc hd hr, hn⟩
  | _, _, _, @Dd.dk0 _ _ a n h, r => by
    cases r
    have hm := (dic_of I h).2
    obtain ⟨_, _, vs, rv, hd⟩ := (show ObjOk X.prog X.w H s.heap a (.dK []) from I.hok a _ h)
    obtain ⟨o, es, ep, ho, hx, hdt, hk, hp, _⟩ := hd
    cases rv
    have he : es.toList = [] := by
      generalize es.toList = l at hp
      cases hp
      rfl
    refine ⟨_, Reads.dict (kvs := []) ho hx.1 hdt (as := []) (bs := []) (by rw [he]; exact .nil) (by rw [he]; exact .nil), fun z => ?_⟩
    rcases List.mem_cons.mp z with e | e
    · exact hm e.symm
    · cases e
  | _, _, _, @Dd.dk1 _ _ a k v d n h q, r => by
    cases r
    have hm := (dic_of I h).2
    obtain ⟨_, _, vs, rv, hd⟩ := (show ObjOk X.prog X.w H s.heap a (.dK [(Sum.inr k, v)]) from I.hok a _ h)
    obtain ⟨o, es, ep, ho, hx, hdt, hk, hp, _⟩ := hd
    obtain ⟨w, rfl, rw⟩ : ∃ w, vs = [(Sum.inr k, w)] ∧ RelV v w := by
      unfold KV at rv
      match vs, rv with
      | [(y1, y2)], .cons q1 .nil =>
        have e1 : Sum.inr k = y1 := q1.1
        subst e1
        exact ⟨y2, rfl, q1.2⟩
    obtain ⟨as, ar, an⟩ := Dd.reads I q rw
    obtain ⟨e, t, he, hkey, hval⟩ : ∃ (e : DictEntry) (t : Tok), es.toList = [e] ∧ e.key = .str k t ∧ e.val = w := by
      generalize es.toList = l at hp
      cases hp with
      | cons z1 z2 z3 =>
        cases z3
        rename_i e
        rcases keyIs_shape (k := Sum.inr k) (v := e.key) z1 with ⟨i, t, e1, _⟩ | ⟨x, t, e1, e2⟩
        · cases e1
        · cases e1
          exact ⟨e, t, rfl, e2, z2⟩
    refine ⟨_, Reads.dict (kvs := [(.str k, d)]) ho hx.1 hdt (as := [] ++ []) (bs := as ++ []) (by rw [he, List.map_singleton, hkey]; exact .cons (.str k t) .nil) (by rw [he, List.map_singleton, hval]; exact .cons ar .nil), fun z => ?_⟩
    rcases List.mem_cons.mp z with y | y
    · exact hm y.symm
    · rw [List.append_nil] at y
      exact an (by simpa using y)
theorem DdAll.reads (I : Inv X pins σ H s) : ∀ {vs : List V} {ds : List PyData} {us : List Value}, DdAll p H vs ds → Vals vs us → ∃ as, ReadsAll s.heap us ds as ∧ sysModules ∉ as
  | _, _, _, .nil, r => by
    cases r
    exact ⟨_, ReadsAll.nil, List.not_mem_nil⟩
  | _, _, _, .cons h q, r => by
    cases r with
    | cons r1 r2 =>
      obtain ⟨as, a1, a2⟩ := Dd.reads I h r1
      obtain ⟨bs, b1, b2⟩ := DdAll.reads I q r2
      exact ⟨_, ReadsAll.cons a1 b1, fun z => (List.mem_append.mp z).elim a2 b2⟩
end
end
/-- what repr asks of data, dicts among it -/
def Fit (n : Nat) (d : PyData) : Prop := d.showable = true ∧ d.leavesShort 30 = true ∧ d.bulk ≤ n ∧ d.depth ≤ n
theorem Fit.more {n m : Nat} {d : PyData} (h : Fit n d) (e : n ≤ m) : Fit m d := ⟨h.1, h.2.1, Nat.le_trans h.2.2.1 e, Nat.le_trans h.2.2.2 e⟩
theorem Fit.len {n : Nat} {d : PyData} (h : Fit n d) : d.shown.length ≤ 32 * n + 30 := by
  have := PyData.shown_le_bulk 30 (by decide) d h.2.1
  have := h.2.2.1
  omega
def Fits (n : Nat) (ds : List PyData) : Prop := PyData.showableAll ds = true ∧ PyData.leavesShortAll 30 ds = true ∧ PyData.bulkAll ds ≤ n ∧ PyData.depthAll ds ≤ n
theorem Fits.nil : Fits 0 [] := ⟨rfl, rfl, Nat.le_refl _, Nat.le_refl _⟩
theorem Fits.cons {n m : Nat} {d : PyData} {ds : List PyData} (h : Fit n d) (k : Fits m ds) : Fits (n + 1 + m) (d :: ds) := by
  obtain ⟨a1, a2, a3, a4⟩ := h
  obtain ⟨b1, b2, b3, b4⟩ := k
  refine ⟨?_, ?_, ?_, ?_⟩
  · show (d.showable && PyData.showableAll ds) = true
    rw [a1, b1]
    rfl
  · show (d.leavesShort 30 && PyData.leavesShortAll 30 ds) = true
    rw [a2, b2]
    rfl
  · show d.bulk + 1 + PyData.bulkAll ds ≤ n + 1 + m
    omega
  · show max d.depth (PyData.depthAll ds) ≤ n + 1 + m
    omega
theorem Fits.more {n m : Nat} {d : List PyData} (h : Fits n d) (e : n ≤ m) : Fits m d := ⟨h.1, h.2.1, Nat.le_trans h.2.2.1 e, Nat.le_trans h.2.2.2 e⟩
theorem Fits.tup {n : Nat} {ds : List PyData} (h : Fits n ds) : Fit (n + 1) (.tuple ds) := by
  obtain ⟨a1, a2, a3, a4⟩ := h
  refine ⟨a1, a2, ?_, ?_⟩
  · show PyData.bulkAll ds ≤ n + 1
    omega
  · show PyData.depthAll ds + 1 ≤ n + 1
    omega
theorem Fits.lst {n : Nat} {ds : List PyData} (h : Fits n ds) : Fit (n + 1) (.list ds) := by
  obtain ⟨a1, a2, a3, a4⟩ := h
  refine ⟨a1, a2, ?_, ?_⟩
  · show PyData.bulkAll ds ≤ n + 1
    omega
  · show PyData.depthAll ds + 1 ≤ n + 1
    omega
theorem fit_non : Fit 0 .none := ⟨rfl, rfl, Nat.le_refl _, Nat.le_refl _⟩
theorem fit_bl (b : Bool) : Fit 0 (.bool b) := ⟨rfl, rfl, Nat.le_refl _, Nat.le_refl _⟩
theorem fit_str {x : Str} {n : Nat} (h : (x.cps.toList.all fun c => decide (c < 16 ^ 8)) = true) (hn : x.length ≤ n) : Fit n (.str x) := ⟨rfl, h, hn, Nat.zero_le _⟩
theorem fit_int {i : Int} (h : i.natAbs.log2 < 1920) (hl : (PyData.shown (.int i)).length ≤ 30) : Fit 0 (.int i) := ⟨decide_eq_true h, decide_eq_true hl, Nat.le_refl _, Nat.le_refl _⟩
theorem fit_dk0 : Fit 1 (.dict []) := ⟨rfl, rfl, Nat.zero_le _, Nat.le_refl _⟩
theorem fit_dk1 {k : Str} {d : PyData} {n : Nat} (hk : (k.cps.toList.all fun c => decide (c < 16 ^ 8)) = true) (hkl : k.length ≤ 10) (h : Fit n d) : Fit (n + 13) (.dict [(.str k, d)]) := by
  obtain ⟨a1, a2, a3, a4⟩ := h
  refine ⟨?_, ?_, ?_, ?_⟩
  · show (true && d.showable && true) = true
    rw [a1]
    rfl
  · show ((k.cps.toList.all fun c => decide (c < 16 ^ 8)) && d.leavesShort 30 && true) = true
    rw [hk, a2]
    rfl
  · show k.cps.size + d.bulk + 2 + 0 ≤ n + 13
    have : k.cps.size ≤ 10 := hkl
    omega
  · show max (max 0 d.depth) 0 + 1 ≤ n + 13
    omega
section
variable {X : Cx}
def rReprX : List V → Hp → VK → Prop := fun xs H Q => ∃ (v : V) (d : PyData) (p : Addr), xs = [v] ∧ Dd p H v d ∧ Fit 190 d ∧ Q (.str d.shown) H
theorem cr_reprX (hg : X.A.guards = some []) (hu : X.A.units + 200 < cLine) : CallR X (.builtin "repr") rReprX := by
  intro pins s σ H xs us Q I r h
  obtain ⟨v, d, p, rfl, hd, hf, q⟩ := h
  obtain ⟨u, rfl, ru⟩ := vals1 r
  obtain ⟨as, rd, hn⟩ := hd.reads I ru
  have hz : d.shown.length ≤ sizeLine := sz_of (Nat.le_trans hf.len (by decide))
  have big : ∀ a, v = .ref a → wpAny (model X.prog X.w) X.A (call (.builtin "repr") [u]) (EP X pins σ Q) X.xe s := by
    rintro a rfl
    obtain rfl : u = Value.ref a := ru
    refine repr_of_reads' rd hf.1 (fun _ => hn) hg (by have := hf.2.2.2; omega) (fun _ _ e => e) (fun h' u tk hk => ?_) hz
    exact ⟨.str d.shown, H, I.kept (t' := tk) hk, ⟨_, rfl⟩, q⟩
  cases hd with
  | non =>
    cases ru
    exact PySem.P.repr_of_none ⟨.str _, H, I.tok _, ⟨_, rfl⟩, q⟩
  | bl b =>
    obtain rfl : u = Value.bool b := ru
    exact PySem.P.repr_of_bool ⟨.str _, H, I.tok _, ⟨_, rfl⟩, q⟩
  | int i =>
    obtain ⟨t, rfl⟩ := ru
    exact PySem.P.repr_of_int (of_decide_eq_true hf.1) ⟨.str _, H, I.tok _, ⟨_, rfl⟩, q⟩
  | str x =>
    obtain ⟨t, rfl⟩ := ru
    exact PySem.P.repr_of_str ⟨.str _, H, I.tok _, ⟨_, rfl⟩, q⟩ hz
  | lst n m h r => exact big _ rfl
  | tup n h r => exact big _ rfl
  | dk0 n h => exact big _ rfl
  | dk1 n h r => exact big _ rfl
/-- is the datum this text? -/
def isT (z : Str) : PyData → Bool
  | .str y => y == z
  | _ => false
theorem eqAt_dS {pins : List (Addr × Obj)} {σ : L2.St} {H : Hp} {s : Shared} {p : Addr} {v : V} {d : PyData} {u : Value} {z : Str} {t : Tok} {A : Around} (I : Inv X pins σ H s) (h : Dd p H v d) (r : RelV v u) (hu : A.units < cLine) :
    SeqAt.EqAt A s u (.str z t) (isT z d) := by
  cases h with
  | non =>
    cases r
    exact SeqAt.EqAt.none_str _ _
  | bl b =>
    obtain rfl : u = Value.bool b := r
    exact SeqAt.EqAt.bool_str _ _ _
  | int i =>
    obtain ⟨t', rfl⟩ := r
    exact SeqAt.EqAt.int_str _ _ _ _
  | str x =>
    obtain ⟨t', rfl⟩ := r
    exact SeqAt.EqAt.str_str _ _ _ _
  | lst n m h q =>
    cases r
    obtain ⟨its, rv, pl, _⟩ := I.list (sq_of h)
    exact SeqAt.EqAt.list_str _ _ pl.isList hu
  | tup n h q =>
    cases r
    obtain ⟨its, rv, ⟨o, ho, hc, k, hd⟩, _⟩ := I.tuple (st_of h)
    exact SeqAt.EqAt.tuple_str _ _ ⟨o, ho, hc, k, hd⟩ hu
  | dk0 n h =>
    cases r
    exact SeqAt.es_eq_dict_str _ _ (dic_of I h).1 hu
  | dk1 n h q =>
    cases r
    exact SeqAt.es_eq_dict_str _ _ (dic_of I h).1 hu
theorem eqAt_Sd {pins : List (Addr × Obj)} {σ : L2.St} {H : Hp} {s : Shared} {p : Addr} {v : V} {d : PyData} {u : Value} {z : Str} {t : Tok} {A : Around} (I : Inv X pins σ H s) (h : Dd p H v d) (r : RelV v u) (hu : A.units < cLine) :
    SeqAt.EqAt A s (.str z t) u (isT z d) := by
  cases h with
  | non =>
    cases r
    exact SeqAt.EqAt.str_none _ _
  | bl b =>
    obtain rfl : u = Value.bool b := r
    exact SeqAt.EqAt.str_bool _ _ _
  | int i =>
    obtain ⟨t', rfl⟩ := r
    exact SeqAt.EqAt.str_int _ _ _ _
  | str x =>
    obtain ⟨t', rfl⟩ := r
    have e : isT z (.str x) = (z == x) := by
      show (x == z) = (z == x)
      by_cases h : x = z
      · rw [h]
      · rw [beq_eq_false_iff_ne.mpr h, beq_eq_false_iff_ne.mpr (Ne.symm h)]
    rw [e]
    exact SeqAt.EqAt.str_str _ _ _ _
  | lst n m h q =>
    cases r
    obtain ⟨its, rv, pl, _⟩ := I.list (sq_of h)
    exact SeqAt.EqAt.str_list _ _ pl.isList hu
  | tup n h q =>
    cases r
    obtain ⟨its, rv, ⟨o, ho, hc, k, hd⟩, _⟩ := I.tuple (st_of h)
    exact SeqAt.EqAt.str_tuple _ _ ⟨o, ho, hc, k, hd⟩ hu
  | dk0 n h =>
    cases r
    exact SeqAt.es_eq_str_dict _ _ (dic_of I h).1 hu
  | dk1 n h q =>
    cases r
    exact SeqAt.es_eq_str_dict _ _ (dic_of I h).1 hu
end
end Es
namespace PySem
/-- enumerate of one thing -/
theorem es_enum_new {v : Value} {o : Obj} {H : Heap → Prop} (B : Begins v o H) :
    Meets (Builtin.«enumerate.__new__» ⟨[.type "enumerate", v], []⟩) (fun _ R s => H s.heap ∧
      R (.ok (.ret (.ref (s.heap.push o).objs.size))) { s with heap := (s.heap.push o).push { cls := .type "enumerate", data := .fields #[.none, .bool false, .ref s.heap.objs.size, rawInt 0, .none, .none] } }) :=
  .of_wp fun prog w A R s h => by
    obtain ⟨hp, g, d, tk, os⟩ := s
    obtain ⟨h1, h⟩ := h
    have hs := sub_enumerate
    have b1 : ∀ {A' : Around} {E : Value → Shared → Prop} {Q : Value → Shared → Prop}, Q (.ref hp.objs.size) ⟨hp.push o, g, d, tk, os⟩ → wpAny (model prog w) A' (pyIter v) Q E ⟨hp, g, d, tk, os⟩ :=
      fun q => B.iter prog w _ _ ⟨hp, g, d, tk, os⟩ _ h1 q
    wp_walk using b1
    refine wpAny_stack_any fun st => wpAny_pure ?_
    split
    · rename_i c _ _ _ _ _
      cases (c == Value.type "enumerate") <;> (wp_walk using b1; exact ⟨_, rfl, h⟩)
    · wp_walk using b1
      exact ⟨_, rfl, h⟩
theorem es_enum_tup {prog : Program} {w : World} {A : Around} {E : Value → Shared → Prop} {s : Shared} {l : Addr} {its : Array Value} {Q : Value → Shared → Prop} (hL : s.heap.IsTuple l its)
    (h : ∀ h', IsEnum h' (s.heap.objs.size + 1) s.heap.objs.size 0 .none → h'.IsTupleIter s.heap.objs.size l 0 → h'.objs.size = s.heap.objs.size + 2 →
      (∀ b o, s.heap.get? b = some o → h'.get? b = some o) → Q (.ref (s.heap.objs.size + 1)) { s with heap := h' }) :
    wpAny (model prog w) A (call (.type "enumerate") [.ref l]) Q E s := by
  have B := begins_tuple l its
  refine callType_new F.called_enumerate (by decide) (F.typeCall_enumerate_1 _) (F.newCall_enumerate_1 _) (fun obj => F.args_object_init_2 obj _) F.entry_enumerate_new (es_enum_new B) ⟨hL, ?_⟩
  have hz : (s.heap.push { cls := .type "tuple_iterator", data := .fields #[.ref l, .int 0 0] }).objs.size = s.heap.objs.size + 1 := Heap.size_push ..
  show _ ∧ _
  rw [hz]
  have he : IsEnum ((s.heap.push { cls := .type "tuple_iterator", data := .fields #[.ref l, .int 0 0] }).push { cls := .type "enumerate", data := .fields #[.none, .bool false, .ref s.heap.objs.size, rawInt 0, .none, .none] }) (s.heap.objs.size + 1) s.heap.objs.size 0 .none := by
    have := Heap.get?_push_size (s.heap.push { cls := .type "tuple_iterator", data := .fields #[.ref l, .int 0 0] }) (o := { cls := .type "enumerate", data := .fields #[.none, .bool false, .ref s.heap.objs.size, rawInt 0, .none, .none] }) rfl
    rw [hz] at this
    exact this
  refine ⟨⟨_, he, rfl⟩, h _ he ⟨_, Heap.get?_push_of_some _ (Heap.get?_push_size _ rfl), rfl, rfl⟩ (by rw [Heap.size_push, hz]) ?_⟩
  intro b o x
  exact Heap.get?_push_of_some _ (Heap.get?_push_of_some _ x)
end PySem
namespace Es
open PySem PySem.Spec PyProof.Rows L2 Evl
/-- the tuple at a, each item with its number in a new pair -/
def Iet (K : PySem.W.Frag) (a : Addr) : It :=
  ⟨fun i H => ∃ (xs : List V) (x : V), SqT K H a xs ∧ xs[i]? = some x, fun i H v H' => ∃ T x, v = .ref T ∧ H T = none ∧ H' = upd H T (.tup [.int (i : Nat), x]) ∧ ∀ xs, SqT K H a xs → xs[i]? = some x,
    fun i H => ∃ xs : List V, SqT K H a xs ∧ xs.length = i⟩
theorem turn_et {P : Program} {w : World} {K : PySem.W.Frag} {elts : List Expr} {kk : Nat} {tpos : Pos} (a e it : Addr) :
    Turn P w K (.Tuple elts kk tpos) (Iet K a) [e, it] e (fun i h => (∃ old, IsEnum h e it ((i : Nat) : Int) old) ∧ h.IsTupleIter it a i ∧ e ≠ it ∧ a ≠ it ∧ e ≠ a) where
  mem := by simp
  obj := fun i h st b hb => by
    obtain ⟨⟨old, he⟩, ⟨o, ho, hc, hd⟩, _⟩ := st
    rcases List.mem_cons.mp hb with z | z
    · subst z
      exact ⟨_, he, fun v q => nomatch q⟩
    · cases List.mem_singleton.mp z
      exact ⟨o, ho, fun v q => by rw [hd] at q; cases q⟩
  keep := fun i h h' st k => by
    obtain ⟨⟨old, he⟩, hi, r⟩ := st
    exact ⟨⟨old, k e (by simp) _ he⟩, hi.at fun o q => k it (by simp) o q, r⟩
  item := by
    intro X hP hw hK hc i pins s σ H E I hf st hg
    subst hP hw hK
    obtain ⟨⟨old, he⟩, hit, hne, hai, hea⟩ := st
    obtain ⟨xs, x, hq, hx⟩ := hg
    obtain ⟨its, rv, it0, hz⟩ := I.tuple hq
    obtain ⟨u, hu, ru⟩ := rv.get hx
    have hel : e < s.heap.objs.size := Heap.lt_size he
    have hil : it < s.heap.objs.size := by
      obtain ⟨_, q, _⟩ := hit
      exact Heap.lt_size q
    have hlt : i < its.toArray.size := by
      rw [List.size_toArray]
      exact (List.getElem?_eq_some_iff.mp hu).1
    have D := Draws.tuple (prog := X.prog) (w := X.w) (A := X.A.in1) (I.ok.hd hc) it a hai its.toArray
    refine wpAny_pyNext_enum_itemD D he ⟨hit, it0⟩ hlt hne (by simp [hne, hea]) ?_
    intro y h' tk hy ho hst hT hsz hk
    have hyu : y = u := by
      have h1 : its.toArray[i]? = some y := hy
      have h2 : its.toArray[i]? = some u := by simpa using hu
      exact Option.some.inj (h1.symm.trans h2)
    subst hyu
    refine ⟨_, rfl, wpAny_letOwnedTupleGo_enum (s := { s with heap := h', toks := tk + 1 }) ho ?_⟩
    intro h'' he' sb
    have hT2 : h''.get? s.heap.objs.size = some { cls := .type "tuple", data := .seq #[.int i tk, y] } := (sb.2 _ (Nat.ne_of_gt hel)).trans hT
    have new : ObjOk X.prog X.w (upd H s.heap.objs.size (.tup [.int (i : Nat), x])) h'' s.heap.objs.size (.tup [.int (i : Nat), x]) :=
      ⟨by show 2 ≤ sizeLine; decide, [.int i tk, y], .cons ⟨_, rfl⟩ (.cons ru .nil), ⟨_, hT2, rfl, _, rfl⟩⟩
    have I1 : Inv X pins σ (upd H s.heap.objs.size (.tup [.int (i : Nat), x])) { s with heap := h'', toks := tk + 1 } :=
      I.turnedNew (ch := [e, it]) (fun b ob hb q => (sb.2 b (fun z => hb (by simp [z]))).trans (hk b ob (fun z => hb (by simp [z])) (fun z => hb (by simp [z])) q)) hf (Nat.le_refl _) new
    refine ⟨.ref s.heap.objs.size, _, I1, rfl, ⟨_, x, rfl, I.hok.fresh (Nat.le_refl _), rfl, fun ys hy => by rw [I.tuple_inj hy hq]; exact hx⟩, ⟨⟨y, ?_⟩, hst.1.at fun o q => (sb.2 it (Ne.symm hne)).trans q, hne, hai, hea⟩, fun b hb => ?_⟩
    · rw [show ((i + 1 : Nat) : Int) = (i : Int) + 1 by omega]
      exact he'
    · have hb' : b < s.heap.objs.size := by
        rcases List.mem_cons.mp hb with z | z
        · subst z
          exact hel
        · cases List.mem_singleton.mp z
          exact hil
      rw [upd_ne (Nat.ne_of_lt hb')]
      exact (hf b hb).1
  done := by
    intro X hP hw hK hc i pins s σ H E I hf st hg
    subst hP hw hK
    obtain ⟨⟨old, he⟩, hit, hne, hai, hea⟩ := st
    obtain ⟨xs, hq, hx⟩ := hg
    obtain ⟨its, rv, it0, hz⟩ := I.tuple hq
    obtain ⟨f0, f1, f2, f3, f4, f5⟩ := hf it (by simp)
    have D := Draws.tuple (prog := X.prog) (w := X.w) (A := X.A.in1) (I.ok.hd hc) it a hai its.toArray
    have hl := rv.length
    have hn : its.toArray.size = i := by
      rw [List.size_toArray]
      omega
    refine wpAny_pyNext_enum_endD D he (by rw [hn]; exact ⟨hit, it0⟩) ?_
    intro h' eb
    exact ⟨rfl, I.turned (t' := s.toks) (fun b o hb q => eb b o hb q) f0 f1 f3 f4 f5⟩
  self := fun A i s Q E st h => wpAny_pyIter_enum st.1.choose_spec h
def iEt (K : PySem.W.Frag) (ta : TA) : TI := fun σ H R => ta σ H fun vs H1 => ∃ a xs, vs = [.ref a] ∧ SqT K H1 a xs ∧ R (Iet K a) H1
theorem pi_et {X : Cx} {e : Expr} {ta : TA} {p pos tpos : Pos} {elts : List Expr} {kk : Nat} (hg : Gl X "enumerate") (hm : X.mg "enumerate" = none) (ha : PA X [e] ta) (hs : starEach [e] X.env = [(false, eval e X.env)] := by rfl) :
    PI X (.Tuple elts kk tpos) (.Call (.Name "enumerate" p) [e] [] pos) (iEt X.K ta) := by
  refine ⟨?_⟩
  intro pins s σ H R I h
  refine Call_ (ld_blt I hg hm boot_enumerate (PyProof.Rows.callWith_type1 (thn (ha.run pos pins s σ H _ I h) ?_) hs rfl))
  rintro us s1 ⟨vs, H1, I1, r1, a, xs, rfl, hq, q⟩
  cases r1 with
  | cons r rr =>
    cases rr
    cases r
    obtain ⟨its, rv, it0, hz⟩ := I1.tuple hq
    have hlt : a < s1.heap.objs.size := it0.lt
    refine es_enum_tup it0 ?_
    intro h' he hit hsz hk
    refine wpAny_pyIter_enum he ?_
    have I2 : Inv X pins σ H1 { s1 with heap := h' } := I1.kept (t' := s1.toks) hk
    refine ⟨s1.heap.objs.size + 1, [s1.heap.objs.size + 1, s1.heap.objs.size], _, _, H1, rfl, I2, turn_et a (s1.heap.objs.size + 1) s1.heap.objs.size, ⟨⟨.none, he⟩, hit, Nat.succ_ne_self _, Nat.ne_of_lt hlt, Nat.ne_of_gt (Nat.lt_succ_of_lt hlt)⟩, fun b hb => ?_, q⟩
    have hle : s1.heap.objs.size ≤ b := by
      rcases List.mem_cons.mp hb with z | z
      · subst z
        exact Nat.le_succ _
      · cases List.mem_singleton.mp z
        exact Nat.le_refl _
    exact I1.fpOk hle (I1.hok.fresh hle)
theorem walk_et {K : PySem.W.Frag} {a : Addr} {xs : List V} : Walk (Iet K a) xs.length (fun H => SqT K H a xs) (YPair (fun i => some (.int (i : Nat))) (fun i => xs[i]?)) := by
  refine ⟨fun i _ hi q => ⟨xs, xs[i], q, by simp [hi]⟩, fun _ q => ⟨xs, q, rfl⟩, fun i H v H' _ q y => ?_⟩
  obtain ⟨T, x, h1, h2, h3, h4⟩ := y
  exact ⟨T, .int (i : Nat), x, h1, h2, h3, rfl, h4 xs q⟩
end Es
namespace Es
open PySem PySem.Spec PyProof.Rows L2 Evl
section
variable {X : Cx} {es : List Expr} {t : TA} {pos : Pos}
/-- a written list: its place is none of the interpreter's own -/
def tLst1 (t : TA) : TE := fun σ H Q => t σ H fun xs H1 => xs.length ≤ sizeLine ∧ ∀ p, p ≠ sysModules → H1 p = none → Q (.ref p) (upd H1 p (.lst xs))
theorem pe_lst1 (h : PA X es t) : PE X (.List es pos) (tLst1 t) := by
  refine ⟨?_⟩
  intro pins s σ H Q I hq
  refine wpAny_List_spliced (thn (h.run pos pins s σ H _ I hq) ?_)
  rintro us s1 ⟨xs, H1, I1, r, z, q⟩
  have nf : H1 s1.heap.objs.size = none := I1.hok.fresh (Nat.le_refl _)
  refine ⟨by rw [← r.length]; exact z, .ref s1.heap.objs.size, upd H1 s1.heap.objs.size (.lst xs), I1.laid (t' := s1.toks) (fun b u e => Heap.get?_push_of_some _ e) (Nat.le_refl _) ?_, rfl, q _ (Nat.ne_of_gt I1.big) nf⟩
  exact ⟨z, us, 0, r, Heap.get?_push_size _ rfl⟩
/-- list(a tuple), likewise -/
def rListT1 (K : PySem.W.Frag) : List V → Hp → VK → Prop := fun xs H Q => ∃ p ys, xs = [.ref p] ∧ SqT K H p ys ∧ ∀ l, l ≠ sysModules → H l = none → Q (.ref l) (upd H l (.lst ys))
theorem cr_listT1 : CallR X (.type "list") (rListT1 X.K) := by
  intro pins s σ H xs us Q I r h
  obtain ⟨p, ys, rfl, hq, q⟩ := h
  obtain ⟨u, rfl, rx⟩ := vals1 r
  cases rx
  obtain ⟨its, r', ⟨o, ho, hc, n, hd⟩, hz⟩ := I.tuple hq
  have hl := r'.length
  refine call_list_seq p (.inr rfl) ho hc hd ?_ (by rw [List.size_toArray]; omega)
  intro h' c' kp e
  refine ⟨.ref s.heap.objs.size, _, I.laid (t' := s.toks) kp (Nat.le_refl _) (show ObjOk X.prog X.w _ h' _ (.lst ys) from ⟨hz, its, c', r', e⟩), rfl, q _ (Nat.ne_of_gt I.big) (I.hok.fresh (Nat.le_refl _))⟩
/-- == of a tuple of at most one item with a tuple of one text -/
def rEqT1 (K : PySem.W.Frag) : R2 := fun x y H Q => ∃ a b xs z, x = .ref a ∧ y = .ref b ∧ SqT K H a xs ∧ SqT K H b [.str z] ∧
  ((xs = [] ∧ Q (.bl false) H) ∨ ∃ v d p, xs = [v] ∧ Dd p H v d ∧ Q (.bl (isT z d)) H)
theorem all0 (z : Value) : ((List.range (min (#[] : Array Value).size #[z].size)).all (fun _ => true) && (#[] : Array Value).size == #[z].size) = false := rfl
theorem all1 (y z : Value) (b : Bool) : ((List.range (min #[y].size #[z].size)).all (fun _ => b) && #[y].size == #[z].size) = b := by
  show ((b && true) && true) = b
  cases b <;> rfl
theorem rc_t0 {A : Around} {s : Shared} {a b : Addr} {z : Value} (hu : A.units < cLine) (t1 : s.heap.IsTuple a #[]) (t2 : s.heap.IsTuple b #[z]) : SeqAt.RcAt A s (.ref a) (.ref b) false := by
  have R := SeqAt.RcAt.tuples (e := fun _ => true) t1 t2 hu (fun j h1 _ => absurd h1 (Nat.not_lt_zero _))
  rw [all0] at R
  exact R
theorem rc_t1 {A : Around} {s : Shared} {a b : Addr} {y z : Value} {k : Bool} (hu : A.units < cLine) (t1 : s.heap.IsTuple a #[y]) (t2 : s.heap.IsTuple b #[z]) (he : SeqAt.EqAt A.in1 s y z k) : SeqAt.RcAt A s (.ref a) (.ref b) k := by
  have R := SeqAt.RcAt.tuples (e := fun _ => k) t1 t2 hu (fun j h1 h2 => by
    have hj : j = 0 := by
      have : j < 1 := h1
      omega
    subst hj
    exact he)
  rw [all1] at R
  exact R
theorem vals_nil {us : List Value} (r : Vals [] us) : us = [] := by
  cases r
  rfl
theorem vals_one {v : V} {us : List Value} (r : Vals [v] us) : ∃ u, us = [u] ∧ RelV v u := by
  obtain ⟨u, e, q⟩ := vals1 r
  exact ⟨u, e, q⟩
theorem op_eqT1 (hu : X.A.units + 64 < cLine) : OpR X (compareOp .Eq) (rEqT1 X.K) := by
  intro pins s σ H x y v u Q I rx ry h
  obtain ⟨a, b, xs, z, rfl, rfl, ha, hb, h⟩ := h
  cases rx
  cases ry
  obtain ⟨its, r1, t1, _⟩ := I.tuple ha
  obtain ⟨jts, r2, t2, _⟩ := I.tuple hb
  obtain ⟨w, rfl, hw⟩ := vals_one r2
  obtain ⟨tk, rfl⟩ := hw
  have hu1 : X.A.units < cLine := by omega
  rcases h with ⟨rfl, q⟩ | ⟨v, d, p, rfl, hd, q⟩
  · cases vals_nil r1
    exact rc_t0 hu1 t1 t2 X.prog X.w X.xe _ ⟨.bl false, H, I, rfl, q⟩
  · obtain ⟨w, rfl, hw⟩ := vals_one r1
    exact rc_t1 hu1 t1 t2 (eqAt_dS I hd hw (by show X.A.units + 1 < cLine; omega)) X.prog X.w X.xe _ ⟨.bl (isT z d), H, I, rfl, q⟩
end
section
variable {K : PySem.W.Frag} {p : Addr} {H H' : Hp} {v : V} {d : PyData}
def tyD : PyData → String
  | .none => "NoneType"
  | .bool _ => "bool"
  | .int _ => "int"
  | .str _ => "str"
  | .list _ => "list"
  | .tuple _ => "tuple"
  | .dict _ => "dict"
theorem Dd.ty (h : Dd p H v d) : TyX K H v (.type (tyD d)) := by
  cases h with
  | non => exact .base .non
  | bl b => exact .base (.bl b)
  | int i => exact .base (.int i)
  | str x => exact .base (.str x)
  | lst n m h r => exact .base (.lst h)
  | tup n h r => exact .base (.tup h)
  | dk0 n h => exact .base (.dK h)
  | dk1 n h r => exact .base (.dK h)
def isStr : PyData → Bool
  | .str _ => true
  | _ => false
def isTup : PyData → Bool
  | .tuple _ => true
  | _ => false
theorem kit_str (d : PyData) : kitB (tyD d) "str" = some (isStr d) := by
  cases d with
  | none => show kitB "NoneType" "str" = some false; decide +kernel
  | bool b => show kitB "bool" "str" = some false; decide +kernel
  | int i => show kitB "int" "str" = some false; decide +kernel
  | str x => show kitB "str" "str" = some true; decide +kernel
  | list xs => show kitB "list" "str" = some false; decide +kernel
  | tuple xs => show kitB "tuple" "str" = some false; decide +kernel
  | dict kvs => show kitB "dict" "str" = some false; decide +kernel
theorem kit_tup (d : PyData) : kitB (tyD d) "tuple" = some (isTup d) := by
  cases d with
  | none => show kitB "NoneType" "tuple" = some false; decide +kernel
  | bool b => show kitB "bool" "tuple" = some false; decide +kernel
  | int i => show kitB "int" "tuple" = some false; decide +kernel
  | str x => show kitB "str" "tuple" = some false; decide +kernel
  | list xs => show kitB "list" "tuple" = some false; decide +kernel
  | tuple xs => show kitB "tuple" "tuple" = some true; decide +kernel
  | dict kvs => show kitB "dict" "tuple" = some false; decide +kernel
theorem Dd.isiS (h : Dd p H v d) : RC (rIsi K) [v, .ty "str"] H (.bl (isStr d)) := fun H1 e _ q => ⟨v, _, _, _, _, rfl, .ty _, (h.up e).ty, kit_ty (kit_str d), q H1 (Ex.refl _)⟩
theorem Dd.isiT (h : Dd p H v d) : RC (rIsi K) [v, .ty "tuple"] H (.bl (isTup d)) := fun H1 e _ q => ⟨v, _, _, _, _, rfl, .ty _, (h.up e).ty, kit_ty (kit_tup d), q H1 (Ex.refl _)⟩
end
end Es
namespace Es
open PySem PySem.Spec PyProof.Rows L2 Evl
/-! making data while a pot at p is drawn from: k draws at the most -/
section
variable (p : Addr)
def EvP (k : Int) (te : TE) (σ : L2.St) (H : Hp) (D : PyData → Prop) : Prop := ∀ H1 c, Xp p H H1 → Pot H1 p c → 0 ≤ c → c + k ≤ 90000 → ∀ Q : VK, (∀ v d H2, Xp p H1 H2 → Pot H2 p (c + k) → Dd p H2 v d → D d → Q v H2) → te σ H1 Q
def EvPA (k : Int) (ta : TA) (σ : L2.St) (H : Hp) (D : List PyData → Prop) : Prop := ∀ H1 c, Xp p H H1 → Pot H1 p c → 0 ≤ c → c + k ≤ 90000 → ∀ Q : List V → Hp → Prop, (∀ vs ds H2, Xp p H1 H2 → Pot H2 p (c + k) → DdAll p H2 vs ds → D ds → Q vs H2) → ta σ H1 Q
/-- a list of data, to be read -/
def EvPL (k : Int) (te : TE) (σ : L2.St) (H : Hp) (D : List PyData → Prop) : Prop := ∀ H1 c, Xp p H H1 → Pot H1 p c → 0 ≤ c → c + k ≤ 90000 → ∀ Q : VK, (∀ l vs ds H2, Xp p H1 H2 → Pot H2 p (c + k) → l ≠ p → H2 l = some (.lst vs) → DdAll p H2 vs ds → D ds → Q (.ref l) H2) → te σ H1 Q
end
/-- a tuple of small items -/
def Tu (n : Nat) (d : PyData) : Prop := ∃ ds, d = .tuple ds ∧ Fits n ds
theorem Tu.fit {n : Nat} {d : PyData} (h : Tu n d) : Fit (n + 1) d := by
  obtain ⟨ds, rfl, h⟩ := h
  exact h.tup
def AllFit (n : Nat) (ds : List PyData) : Prop := ∀ d ∈ ds, Fit n d
theorem AllFit.nil {n : Nat} : AllFit n [] := fun _ h => nomatch h
theorem AllFit.cons {n : Nat} {d : PyData} {ds : List PyData} (h : Fit n d) (k : AllFit n ds) : AllFit n (d :: ds) := fun x hx => by
  rcases List.mem_cons.mp hx with e | e
  · rw [e]
    exact h
  · exact k x e
theorem AllFit.app {n : Nat} {ds es : List PyData} (h : AllFit n ds) (k : AllFit n es) : AllFit n (ds ++ es) := fun x hx => by
  rcases List.mem_append.mp hx with e | e
  · exact h x e
  · exact k x e
theorem Fits.app : ∀ {n m : Nat} {ds es : List PyData}, Fits n ds → Fits m es → Fits (n + m) (ds ++ es) := by
  intro n m ds es h k
  obtain ⟨b1, b2, b3, b4⟩ := k
  have : ∀ ds : List PyData, PyData.showableAll (ds ++ es) = (PyData.showableAll ds && PyData.showableAll es) ∧ PyData.leavesShortAll 30 (ds ++ es) = (PyData.leavesShortAll 30 ds && PyData.leavesShortAll 30 es) ∧
      PyData.bulkAll (ds ++ es) = PyData.bulkAll ds + PyData.bulkAll es ∧ PyData.depthAll (ds ++ es) = max (PyData.depthAll ds) (PyData.depthAll es) := by
    intro ds
    induction ds with
    | nil =>
      refine ⟨rfl, rfl, ?_, ?_⟩
      · show PyData.bulkAll es = 0 + PyData.bulkAll es
        omega
      · show PyData.depthAll es = max 0 (PyData.depthAll es)
        omega
    | cons x r ih =>
      obtain ⟨i1, i2, i3, i4⟩ := ih
      refine ⟨?_, ?_, ?_, ?_⟩
      · show (x.showable && PyData.showableAll (r ++ es)) = (x.showable && PyData.showableAll r && PyData.showableAll es)
        rw [i1, Bool.and_assoc]
      · show (x.leavesShort 30 && PyData.leavesShortAll 30 (r ++ es)) = (x.leavesShort 30 && PyData.leavesShortAll 30 r && PyData.leavesShortAll 30 es)
        rw [i2, Bool.and_assoc]
      · show x.bulk + 1 + PyData.bulkAll (r ++ es) = x.bulk + 1 + PyData.bulkAll r + PyData.bulkAll es
        omega
      · show max x.depth (PyData.depthAll (r ++ es)) = max (max x.depth (PyData.depthAll r)) (PyData.depthAll es)
        omega
  obtain ⟨i1, i2, i3, i4⟩ := this ds
  obtain ⟨a1, a2, a3, a4⟩ := h
  exact ⟨by rw [i1, a1, b1]; rfl, by rw [i2, a2, b2]; rfl, by omega, by omega⟩
theorem Fits.sub {n : Nat} {ds : List PyData} (h : Fits n ds) : (∀ i, Fits n (ds.drop i)) ∧ ∀ i, Fits n (ds.take i) := by
  induction ds generalizing n with
  | nil => exact ⟨fun i => by rw [List.drop_nil]; exact h, fun i => by rw [List.take_nil]; exact h⟩
  | cons x r ih =>
    obtain ⟨a1, a2, a3, a4⟩ := h
    have a1' : (x.showable && PyData.showableAll r) = true := a1
    have a2' : (x.leavesShort 30 && PyData.leavesShortAll 30 r) = true := a2
    rw [Bool.and_eq_true] at a1' a2'
    have a3' : x.bulk + 1 + PyData.bulkAll r ≤ n := a3
    have a4' : max x.depth (PyData.depthAll r) ≤ n := a4
    have k : Fits n r := ⟨a1'.2, a2'.2, by omega, by omega⟩
    refine ⟨fun i => ?_, fun i => ?_⟩
    · cases i with
      | zero => exact ⟨a1, a2, a3, a4⟩
      | succ i => exact (ih k).1 i
    · cases i with
      | zero => exact ⟨rfl, rfl, Nat.zero_le _, Nat.zero_le _⟩
      | succ i =>
        obtain ⟨c1, c2, c3, c4⟩ := (ih (n := PyData.bulkAll r + PyData.depthAll r) ⟨a1'.2, a2'.2, by omega, by omega⟩).2 i
        have c3' : PyData.bulkAll (r.take i) ≤ PyData.bulkAll r ∧ PyData.depthAll (r.take i) ≤ PyData.depthAll r := by
          clear ih k a1 a2 a3 a4 a1' a2' a3' a4' c1 c2 c3 c4
          induction r generalizing i with
          | nil =>
            rw [List.take_nil]
            exact ⟨Nat.le_refl _, Nat.le_refl _⟩
          | cons y s ih2 =>
            cases i with
            | zero => exact ⟨Nat.zero_le _, Nat.zero_le _⟩
            | succ i =>
              have := ih2 i
              refine ⟨?_, ?_⟩
              · show y.bulk + 1 + PyData.bulkAll (s.take i) ≤ y.bulk + 1 + PyData.bulkAll s
                omega
              · show max y.depth (PyData.depthAll (s.take i)) ≤ max y.depth (PyData.depthAll s)
                omega
        refine ⟨?_, ?_, ?_, ?_⟩
        · show (x.showable && PyData.showableAll (r.take i)) = true
          rw [a1'.1, c1]
          rfl
        · show (x.leavesShort 30 && PyData.leavesShortAll 30 (r.take i)) = true
          rw [a2'.1, c2]
          rfl
        · show x.bulk + 1 + PyData.bulkAll (r.take i) ≤ n
          omega
        · show max x.depth (PyData.depthAll (r.take i)) ≤ n
          omega
section
variable {p : Addr} {K : PySem.W.Frag} {σ : L2.St} {H : Hp} {te tf : TE} {ta : TA} {k j : Int} {D E : PyData → Prop} {L M : List PyData → Prop}
theorem evp_imp (h : EvP p k te σ H D) (hi : ∀ d, D d → E d) : EvP p k te σ H E := fun H1 c x P c0 c1 Q q => h H1 c x P c0 c1 Q fun v d H2 x2 P2 hd hD => q v d H2 x2 P2 hd (hi d hD)
theorem evp_xp {H' : Hp} (h : EvP p k te σ H D) (e : Xp p H H') : EvP p k te σ H' D := fun H1 c x P c0 c1 Q q => h H1 c (e.trans x) P c0 c1 Q q
theorem evp_var {i : Nat} {v : V} {d : PyData} (h : σ[i]? = some (some v)) (hd : Dd p H v d) (hD : D d) : EvP p 0 (tVar i) σ H D := fun H1 c x P c0 c1 Q q => ⟨v, h, q v d H1 (Xp.refl _ _) (P.more (by omega)) (hd.xp x) hD⟩
theorem evp_str {z : Str} (hD : D (.str z)) : EvP p 0 (tC (.str z)) σ H D := fun H1 c x P c0 c1 Q q => q _ _ H1 (Xp.refl _ _) (P.more (by omega)) (.str z) hD
theorem evp_int {z : Int} (hD : D (.int z)) : EvP p 0 (tC (.int z)) σ H D := fun H1 c x P c0 c1 Q q => q _ _ H1 (Xp.refl _ _) (P.more (by omega)) (.int z) hD
theorem evp_bl {z : Bool} (hD : D (.bool z)) : EvP p 0 (tC (.bl z)) σ H D := fun H1 c x P c0 c1 Q q => q _ _ H1 (Xp.refl _ _) (P.more (by omega)) (.bl z) hD
theorem evp_non (hD : D .none) : EvP p 0 (tC .non) σ H D := fun H1 c x P c0 c1 Q q => q _ _ H1 (Xp.refl _ _) (P.more (by omega)) .non hD
theorem evpa_nil (h : L []) : EvPA p 0 tNil σ H L := fun H1 c x P c0 c1 Q q => q [] [] H1 (Xp.refl _ _) (P.more (by omega)) .nil h
theorem evpa_cons (h : EvP p k te σ H D) (r : EvPA p j ta σ H L) (hk : 0 ≤ k) (hj : 0 ≤ j) (hL : ∀ d ds, D d → L ds → M (d :: ds)) : EvPA p (k + j) (tCons te ta) σ H M := by
  intro H1 c x P c0 c1 Q q
  refine h H1 c x P c0 (by omega) _ fun v d H2 x2 P2 hd hD => ?_
  exact r H2 (c + k) (x.trans x2) P2 (by omega) (by omega) _ fun vs ds H3 x3 P3 hds hL' => q _ _ H3 (x2.trans x3) (P3.more (by omega)) (.cons (hd.xp x3) hds) (hL d ds hD hL')
theorem evpa_c0 (h : EvP p 0 te σ H D) (r : EvPA p j ta σ H L) (hj : 0 ≤ j) (hL : ∀ d ds, D d → L ds → M (d :: ds)) : EvPA p j (tCons te ta) σ H M := by
  have := evpa_cons h r (by decide) hj hL
  rw [Int.zero_add] at this
  exact this
/-- items of a tuple, their sizes added up -/
theorem evpa_t {n m : Nat} (h : EvP p 0 te σ H (Fit n)) (r : EvPA p j ta σ H (Fits m)) (hj : 0 ≤ j) : EvPA p j (tCons te ta) σ H (Fits (n + 1 + m)) := evpa_c0 h r hj fun _ _ a b => Fits.cons a b
theorem evpa_tk {n m : Nat} (h : EvP p k te σ H (Fit n)) (r : EvPA p j ta σ H (Fits m)) (hk : 0 ≤ k) (hj : 0 ≤ j) : EvPA p (k + j) (tCons te ta) σ H (Fits (n + 1 + m)) := evpa_cons h r hk hj fun _ _ a b => Fits.cons a b
theorem evpa_l {n : Nat} (h : EvP p 0 te σ H (Fit n)) (r : EvPA p j ta σ H (AllFit n)) (hj : 0 ≤ j) : EvPA p j (tCons te ta) σ H (AllFit n) := evpa_c0 h r hj fun _ _ a b => AllFit.cons a b
theorem evpa_lk {n : Nat} (h : EvP p k te σ H (Fit n)) (r : EvPA p j ta σ H (AllFit n)) (hk : 0 ≤ k) (hj : 0 ≤ j) : EvPA p (k + j) (tCons te ta) σ H (AllFit n) := evpa_cons h r hk hj fun _ _ a b => AllFit.cons a b
theorem Fits.length {n : Nat} {ds : List PyData} (h : Fits n ds) : ds.length ≤ n := by
  have h3 := h.2.2.1
  clear h
  induction ds generalizing n with
  | nil => exact Nat.zero_le _
  | cons y r ih =>
    have h3' : y.bulk + 1 + PyData.bulkAll r ≤ n := h3
    have := ih (n := n - 1) (by omega)
    show r.length + 1 ≤ n
    omega
theorem evp_tup {n : Nat} (h : EvPA p k ta σ H (Fits n)) (hn : n ≤ 10000) : EvP p k (tTup ta) σ H (Tu n) := by
  intro H1 c x P c0 c1 Q q
  refine h H1 c x P c0 c1 _ fun vs ds H2 x2 P2 hds hL => ⟨?_, fun a na => ?_⟩
  · have l1 := hds.length
    have := hL.length
    exact sz_of (by omega)
  · have e := Ex.new (o := .tup vs) na
    exact q _ _ _ (x2.trans (Xp.ex e)) (P2.up e) (.tup (P2.ne na) upd_same (hds.up e)) ⟨ds, rfl, hL⟩
theorem evp_tup' {n m : Nat} (h : EvPA p k ta σ H (Fits n)) (hn : n + 1 ≤ m) (hm : m ≤ 10000) : EvP p k (tTup ta) σ H (Fit m) := evp_imp (evp_tup h (by omega)) fun d hd => hd.fit.more hn
theorem evp_cat {n m : Nat} (h : EvP p k te σ H (Tu n)) (r : EvP p j tf σ H (Tu m)) (hk : 0 ≤ k) (hj : 0 ≤ j) (hn : n + m ≤ 10000) : EvP p (k + j) (tOp (rCatA K) te tf) σ H (Tu (n + m)) := by
  intro H1 c x P c0 c1 Q q
  refine h H1 c x P c0 (by omega) _ fun v d H2 x2 P2 hd hD => ?_
  refine r H2 (c + k) (x.trans x2) P2 (by omega) (by omega) _ fun u e H3 x3 P3 he hE => ?_
  obtain ⟨ds, rfl, f1⟩ := hD
  obtain ⟨es, rfl, f2⟩ := hE
  have hd3 := hd.xp x3
  have l1 := f1.length
  have l2 := f2.length
  cases hd3 with
  | @tup a xs _ na ha hxs =>
    cases he with
    | @tup b ys _ nb hb hys =>
      have m1 := hxs.length
      have m2 := hys.length
      refine ⟨a, b, xs, ys, rfl, rfl, st_of ha, st_of hb, sz_of (by omega), fun z => ?_, fun _ z => ?_, fun _ _ t nt => ?_⟩
      · subst z
        cases hxs
        exact q _ _ H3 (x2.trans x3) (P3.more (by omega)) (.tup nb hb hys) ⟨es, rfl, f2.more (by omega)⟩
      · subst z
        cases hys
        exact q _ _ H3 (x2.trans x3) (P3.more (by omega)) (.tup na ha hxs) ⟨ds, rfl, f1.more (by omega)⟩
      · have e := Ex.new (o := .tup (xs ++ ys)) nt
        exact q _ _ _ ((x2.trans x3).trans (Xp.ex e)) ((P3.up e).more (by omega)) (.tup (P3.ne nt) upd_same ((hxs.append hys).up e)) ⟨_, rfl, f1.app f2⟩
theorem evp_cat0 {n m : Nat} (h : EvP p 0 te σ H (Tu n)) (r : EvP p 0 tf σ H (Tu m)) (hn : n + m ≤ 10000) : EvP p 0 (tOp (rCatA K) te tf) σ H (Tu (n + m)) := evp_cat h r (by decide) (by decide) hn
/-- t[:i], t[i:] of a tuple at a name -/
theorem evp_cutL {i : Nat} {a : Addr} {xs : List V} {ds : List PyData} {n : Nat} {tl : TO} {u : Int} (h : σ[i]? = some (some (.ref a))) (hd : Dd p H (.ref a) (.tuple ds)) (f : Fits n ds) (hu : 0 ≤ u)
    (ho : ∀ H1 (Q : Option Int → Hp → Prop), Q (some u) H1 → tl σ H1 Q) : EvP p 0 (tSl (rSlA K) (tVar i) tNoPart tl) σ H (Tu n) := by
  intro H1 c x P c0 c1 Q q
  have hd1 := hd.xp x
  cases hd1 with
  | @tup _ xs _ na ha hxs =>
    refine ⟨.ref a, h, ho H1 _ ⟨a, xs, rfl, st_of ha, fun _ => ?_, fun _ t nt => ?_⟩⟩
    · exact q _ _ H1 (Xp.refl _ _) (P.more (by omega)) (.tup na ha hxs) ⟨ds, rfl, f⟩
    · have e := Ex.new (o := .tup (cutV xs none (some u))) nt
      have hc : DdAll p H1 (cutV xs none (some u)) (ds.take (min u.toNat ds.length)) := by
        have m1 := hxs.length
        unfold cutV
        rw [HT.sIx_none, List.drop_zero, Nat.sub_zero, show (some u) = some ((u.toNat : Nat) : Int) by rw [Int.toNat_of_nonneg hu], HT.sIx_nat, m1]
        exact hxs.take _
      exact q _ _ _ (Xp.ex e) ((P.up e).more (by omega)) (.tup (P.ne nt) upd_same (hc.up e)) ⟨_, rfl, f.sub.2 _⟩
theorem evp_cutR {i : Nat} {a : Addr} {xs : List V} {ds : List PyData} {n : Nat} {tl : TO} {u : Int} (h : σ[i]? = some (some (.ref a))) (hd : Dd p H (.ref a) (.tuple ds)) (f : Fits n ds) (hu : 0 ≤ u)
    (ho : ∀ H1 (Q : Option Int → Hp → Prop), Q (some u) H1 → tl σ H1 Q) : EvP p 0 (tSl (rSlA K) (tVar i) tl tNoPart) σ H (Tu n) := by
  intro H1 c x P c0 c1 Q q
  have hd1 := hd.xp x
  cases hd1 with
  | @tup _ xs _ na ha hxs =>
    refine ⟨.ref a, h, ho H1 _ ⟨a, xs, rfl, st_of ha, fun _ => ?_, fun _ t nt => ?_⟩⟩
    · exact q _ _ H1 (Xp.refl _ _) (P.more (by omega)) (.tup na ha hxs) ⟨ds, rfl, f⟩
    · have e := Ex.new (o := .tup (cutV xs (some u) none)) nt
      have hc : DdAll p H1 (cutV xs (some u) none) (ds.drop (min u.toNat ds.length)) := by
        have m1 := hxs.length
        unfold cutV
        rw [HT.sIx_none, show (some u) = some ((u.toNat : Nat) : Int) by rw [Int.toNat_of_nonneg hu], HT.sIx_nat, List.take_of_length_le (by rw [List.length_drop]; omega), m1]
        exact hxs.drop _
      exact q _ _ _ (Xp.ex e) ((P.up e).more (by omega)) (.tup (P.ne nt) upd_same (hc.up e)) ⟨_, rfl, f.sub.1 _⟩
/-- lists of data -/
theorem evl_lst {N : Nat} (h : EvPA p k ta σ H (fun ds => L ds ∧ ds.length = N)) (hN : N ≤ 10000) : EvPL p k (tLst ta) σ H (fun ds => L ds ∧ ds.length = N) := by
  intro H1 c x P c0 c1 Q q
  refine h H1 c x P c0 c1 _ fun vs ds H2 x2 P2 hds hL => ⟨?_, fun l nl => ?_⟩
  · have := hds.length
    have := hL.2
    exact sz_of (by omega)
  · have e := Ex.new (o := .lst vs) nl
    exact q l vs ds _ (x2.trans (Xp.ex e)) (P2.up e) (P2.ne nl) upd_same (hds.up e) hL
theorem evl_var {i : Nat} {l : Addr} {vs : List V} {ds : List PyData} (h : σ[i]? = some (some (.ref l))) (nl : l ≠ p) (hl : H l = some (.lst vs)) (hd : DdAll p H vs ds) (hL : L ds) : EvPL p 0 (tVar i) σ H L :=
  fun H1 c x P c0 c1 Q q => ⟨.ref l, h, q l vs ds H1 (Xp.refl _ _) (P.more (by omega)) nl (x _ _ nl hl) (hd.xp x) hL⟩
theorem evl_cat {A B : Nat} (h : EvPL p k te σ H (fun ds => L ds ∧ ds.length = A)) (r : EvPL p j tf σ H (fun ds => L ds ∧ ds.length = B)) (hk : 0 ≤ k) (hj : 0 ≤ j) (hn : A + B ≤ 10000) (hL : ∀ ds es, L ds → L es → L (ds ++ es)) :
    EvPL p (k + j) (tOp rCat te tf) σ H (fun ds => L ds ∧ ds.length = A + B) := by
  intro H1 c x P c0 c1 Q q
  refine h H1 c x P c0 (by omega) _ fun l vs ds H2 x2 P2 nl hl hds hD => ?_
  refine r H2 (c + k) (x.trans x2) P2 (by omega) (by omega) _ fun m ws es H3 x3 P3 nm hm hes hE => ?_
  have l1 := hds.length
  have l2 := hes.length
  have d1 := hD.2
  have d2 := hE.2
  refine ⟨l, m, vs, ws, rfl, rfl, x3 _ _ nl hl, hm, sz_of (by omega), fun a na => ?_⟩
  have e := Ex.new (o := .lst (vs ++ ws)) na
  refine q a _ (ds ++ es) _ ((x2.trans x3).trans (Xp.ex e)) ((P3.up e).more (by omega)) (P3.ne na) upd_same (((hds.xp x3).append hes).up e) ⟨hL _ _ hD.1 hE.1, ?_⟩
  rw [List.length_append]
  omega
theorem evpa_n {N : Nat} (h : EvPA p k ta σ H (AllFit N)) : EvPA p k ta σ H (AllFit N) := h
/-- the same with the number of items told -/
theorem evpan_nil {n : Nat} : EvPA p 0 tNil σ H (fun ds => AllFit n ds ∧ ds.length = 0) := evpa_nil ⟨.nil, rfl⟩
theorem evpan {n m : Nat} (h : EvP p 0 te σ H (Fit n)) (r : EvPA p j ta σ H (fun ds => AllFit n ds ∧ ds.length = m)) (hj : 0 ≤ j) : EvPA p j (tCons te ta) σ H (fun ds => AllFit n ds ∧ ds.length = m + 1) :=
  evpa_c0 h r hj fun _ _ a b => ⟨.cons a b.1, congrArg Nat.succ b.2⟩
theorem evpank {n m : Nat} (h : EvP p k te σ H (Fit n)) (r : EvPA p j ta σ H (fun ds => AllFit n ds ∧ ds.length = m)) (hk : 0 ≤ k) (hj : 0 ≤ j) : EvPA p (k + j) (tCons te ta) σ H (fun ds => AllFit n ds ∧ ds.length = m + 1) :=
  evpa_cons h r hk hj fun _ _ a b => ⟨.cons a b.1, congrArg Nat.succ b.2⟩
theorem evp_lst1 {n : Nat} (h : EvPA p k ta σ H (Fits n)) (hn : n ≤ 10000) : EvP p k (tLst1 ta) σ H (Fit (n + 1)) := by
  intro H1 c x P c0 c1 Q q
  refine h H1 c x P c0 c1 _ fun vs ds H2 x2 P2 hds hL => ⟨?_, fun a ns na => ?_⟩
  · have l1 := hds.length
    have := hL.length
    exact sz_of (by omega)
  · have e := Ex.new (o := .lst vs) na
    exact q _ _ _ (x2.trans (Xp.ex e)) (P2.up e) (.lst (P2.ne na) ns upd_same (hds.up e)) hL.lst
theorem evp_dk0 : EvP p 0 tDNewK σ H (Fit 1) := fun H1 c x P c0 c1 Q q a na => by
  have e := Ex.new (o := .dK []) na
  exact q _ _ _ (Xp.ex e) ((P.up e).more (by omega)) (.dk0 (P.ne na) upd_same) fit_dk0
theorem evp_dk1 {n i : Nat} {z : Str} {v : V} {d : PyData} (h : σ[i]? = some (some v)) (hd : Dd p H v d) (hf : Fit n d) (hz : (z.cps.toList.all fun c => decide (c < 16 ^ 8)) = true) (hl : z.length ≤ 10) : EvP p 0 (tDisp [(tC (.str z), tVar i)]) σ H (Fit (n + 13)) := by
  intro H1 c x P c0 c1 Q q a na
  refine ⟨v, h, upd_same, [(Sum.inr z, v)], rfl, by show 1 ≤ 15; decide, ?_⟩
  have e := Ex.mut (o := .dK (mergeK [] [(Sum.inr z, v)])) (Ex.new (o := .dK []) na) na
  exact q _ _ _ (Xp.ex e) ((P.up e).more (by omega)) (.dk1 (P.ne na) upd_same ((hd.xp x).up e)) (fit_dk1 hz hl hf)
theorem evp_neg {i : Int} (hD : D (.int (-i))) : EvP p 0 (tUn (rU fun i => .int (-i)) (tC (.int i))) σ H D := fun H1 c x P c0 c1 Q q => ⟨i, rfl, q _ _ H1 (Xp.refl _ _) (P.more (by omega)) (.int _) hD⟩
theorem DdAll.mem : ∀ {vs : List V} {ds : List PyData} {v : V}, DdAll p H vs ds → v ∈ vs → ∃ d ∈ ds, Dd p H v d
  | _, _, _, .cons h r, hv => by
    rcases List.mem_cons.mp hv with e | e
    · subst e
      exact ⟨_, List.mem_cons_self .., h⟩
    · obtain ⟨d, a, b⟩ := DdAll.mem r e
      exact ⟨d, List.mem_cons_of_mem _ a, b⟩
theorem evp_listT {n i : Nat} {a : Addr} {ds : List PyData} (h : σ[i]? = some (some (.ref a))) (hd : Dd p H (.ref a) (.tuple ds)) (hf : Fits n ds) : EvP p 0 (tCB (rListT1 K) (tCons (tVar i) tNil)) σ H (Fit (n + 1)) := by
  intro H1 c x P c0 c1 Q q
  have hd1 := hd.xp x
  cases hd1 with
  | @tup _ xs _ na ha hxs =>
    refine ⟨.ref a, h, a, xs, rfl, st_of ha, fun l ns nl => ?_⟩
    have e := Ex.new (o := .lst xs) nl
    exact q _ _ _ (Xp.ex e) ((P.up e).more (by omega)) (.lst (P.ne nl) ns upd_same (hxs.up e)) hf.lst
theorem qp_asg {F : Ends} {tz : TS} {i : Nat} (h : te σ H fun v H1 => tz F (σ.set i (some v)) H1) : tSeq (tAsg te (gName i)) tz F σ H := h
theorem sp_asg {F : Ends} {i : Nat} (h : te σ H fun v H1 => F.nx (σ.set i (some v)) H1) : tAsg te (gName i) F σ H := h
theorem op_of {r : R2} {Q : VK} (h : te σ H fun x H1 => tf σ H1 fun y H2 => r x y H2 Q) : tOp r te tf σ H Q := h
theorem cons_of {Q : List V → Hp → Prop} (h : te σ H fun x H1 => ta σ H1 fun xs H2 => Q (x :: xs) H2) : tCons te ta σ H Q := h
theorem call_of {sp : Sp} {dvs : List V} {E : XK} {Q : VK} (h : ta σ H fun vs H1 => sp (vs ++ dvs) H1 Q E) : tCall sp dvs E ta σ H Q := h
end
end Es
namespace K16
open PySem PySem.Spec PyProof.Rows L2 Evl Es
def topS (i : Nat) : Stmt := PySem.Challenge.pw_errorspans_k16_windows_of_any_value.main.body.getD i (.Pass ⟨0, 0, 0, 0⟩)
abbrev sTok : Stmt := topS 5
abbrev sText : Stmt := topS 6
abbrev sWin : Stmt := topS 8
abbrev sHs : Stmt := topS 9
abbrev sHe : Stmt := topS 10
abbrev sBs : Stmt := topS 11
abbrev sToks : Stmt := topS 12
abbrev sPot : Stmt := topS 14
abbrev sTake : Stmt := topS 15
abbrev sPick : Stmt := topS 16
abbrev sLTok : Stmt := topS 17
abbrev sLWin : Stmt := topS 18
abbrev sOdd : Stmt := topS 19
abbrev sRight : Stmt := topS 20
abbrev sLaw : Stmt := topS 21
theorem scTok : FnScope ["value", "letter"] ["value"] (defScope sTok) := ⟨rfl, rfl, rfl, by decide +kernel, rfl, by decide +kernel, by decide +kernel⟩
theorem scText : FnScope ["value", "token"] ["value"] (defScope sText) := ⟨rfl, rfl, rfl, by decide +kernel, rfl, by decide +kernel, by decide +kernel⟩
theorem scWin : FnScope ["value"] ["value"] (defScope sWin) := ⟨rfl, rfl, rfl, by decide +kernel, rfl, by decide +kernel, by decide +kernel⟩
theorem scHs : FnScope ["window"] ["window"] (defScope sHs) := ⟨rfl, rfl, rfl, by decide +kernel, rfl, by decide +kernel, by decide +kernel⟩
theorem scHe : FnScope ["window"] ["window"] (defScope sHe) := ⟨rfl, rfl, rfl, by decide +kernel, rfl, by decide +kernel, by decide +kernel⟩
theorem scBs : FnScope ["window"] ["window"] (defScope sBs) := ⟨rfl, rfl, rfl, by decide +kernel, rfl, by decide +kernel, by decide +kernel⟩
theorem scToks : FnScope ["window", "inner"] ["window"] (defScope sToks) := ⟨rfl, rfl, rfl, by decide +kernel, rfl, by decide +kernel, by decide +kernel⟩
theorem scLTok : FnScope ["_law_value", "_law_sign"] ["_law_value"] (defScope sLTok) := ⟨rfl, rfl, rfl, by decide +kernel, rfl, by decide +kernel, by decide +kernel⟩
abbrev nLWin : List Str := ["_law_value", "_law_at", "_law_element", "_law_is_mark"]
theorem scLWin : FnScope nLWin ["_law_value"] (defScope sLWin) := ⟨rfl, rfl, rfl, by decide +kernel, rfl, by decide +kernel, by decide +kernel⟩
def abc : Str := "abcdefghijklmnopqrstuvwxyz"
/-- a token -/
def isTok : V → Bool
  | .str z => (decide (1 ≤ (z.length : Int)) && decide ((z.length : Int) ≤ 8)) && (z.cps.toList.map fun c => decide (c ∈ abc.cps.toList)).all id
  | _ => false
def spTok : Sp := fun vs H Q _ => ∃ v, vs = [v] ∧ Thing H v ∧ RetV (.bl (isTok v)) H Q
section
variable {P : Program} {w : World} {K : PySem.W.Frag} {mg : Str → Option Value} {base : Heap}
theorem ok_tok {f : Addr} {fd : FuncData} {k : Nat} {tL : Tok} {tM : Tok} (F : Fun K "is_token" "is_token" sTok f fd) (mi : mg "isinstance" = none) (ms : mg "str" = none) (ml : mg "len" = none) (ma : mg "all" = none)
    (mL : mg "LETTERS" = some (.str abc tL)) (mM : mg "MOST_LETTERS" = some (.int 8 tM)) : FnOk P w K mg base CX0 (k + 1) f fd ["value"] spTok := by
  refine F.ok scTok (fun vs H Q E h => ?_) (fun cdv A outer s H vs Q E hr h => ?_)
  · obtain ⟨v, rfl, _⟩ := h
    rfl
  · obtain ⟨v, rfl, hv, q⟩ := h
    refine ⟨_, pss_cons (ps_if (pt_not (pt_val (pe_callB call_isi (by rfl) mi boot_isinstance (pa_cons (pv 0) (pa_cons (pe_bltn (v := .ty "str") (by rfl) ms PyProof.Rows.boot_str rfl) pa_nil))))) (pss_one (ps_ret pe_bl)) pss_nil)
      (pss_one (ps_ret (pe_and (pe_chain op_le op_le pe_int (pe_callB call_len (by rfl) ml PySem.boot_len (pa_cons (pv 0) pa_nil)) (pe_glob (v := .int 8) (by rfl) mM ⟨_, rfl⟩))
        (pe_one (pe_callB (cr_all rfl) (by rfl) ma boot_all (pa_cons
          (pe_lc (own := [("letter", 1)]) (g := gName 1) (tt := tYes) rfl scTok.nd (pi_str (pv 0)) (blkOk_by (N := ["value", "letter"]) (sc := defScope sTok) (own := [("letter", 1)]) (by decide +kernel)) (fun _ _ _ _ _ => pg_name (i := 1) scTok.nd rfl (Or.inl rfl)) (fun _ _ _ _ _ => pts_nil)
            (fun _ _ _ _ _ => pe_cmpR op_in_sign (pv 1) (pe_glob (v := .str abc) (by rfl) mL ⟨_, rfl⟩) (by rfl))) pa_nil)))))), ?_⟩
    refine q_when (et_not (et_test (ev_cb (ea_cons (ev_var rfl) (ea_cons ev_c ea_nil)) hv.isi))) (fun hb H1 e1 => ?_) (fun hb H1 e1 => ?_)
    · refine s_ret ev_c fun H2 e2 => ?_
      have hi : isTok v = false := by
        cases v <;> first | rfl | cases hb
      have := q H2 (e1.trans e2)
      rw [hi] at this
      exact this
    · cases v with
      | str z =>
        have hz : z.length ≤ 1000 := by cases hv; assumption
        refine s_ret (ev_andV (ev_chain ev_c (ev_cb (ea_cons (ev_var rfl) ea_nil) (rc_lenS hz)) rv_I0 (fun _ => ev_c) (fun _ => rv_I0))
          (fun _ => ev_cbL (el_lcS (fun c => .bl (decide (c ∈ abc.cps.toList))) (ev_var rfl) (by show z.length ≤ 40000; omega) (fun _ => rfl) (fun c H2 _ _ => ev_op (ev_var rfl) ev_c rv_inSign))
            (fun p H2 hp _ => rc_all (bs := z.cps.toList.map fun c => decide (c ∈ abc.cps.toList)) (by rw [hp, List.map_map]; rfl)))) (fun H2 e2 => ?_)
        exact q H2 (e1.trans e2)
      | _ => cases hb
theorem ok_ltok {f : Addr} {fd : FuncData} {k : Nat} (F : Fun K "_law_token" "_law_token" sLTok f fd) (mi : mg "isinstance" = none) (ms : mg "str" = none) (ml : mg "len" = none) (ma : mg "all" = none) :
    FnOk P w K mg base CX0 (k + 1) f fd ["_law_value"] spTok := by
  refine F.ok scLTok (fun vs H Q E h => ?_) (fun cdv A outer s H vs Q E hr h => ?_)
  · obtain ⟨v, rfl, _⟩ := h
    rfl
  · obtain ⟨v, rfl, hv, q⟩ := h
    refine ⟨_, pss_cons (ps_if (PW.pt (pw_or (pt_not (pt_val (pe_callB call_isi (by rfl) mi boot_isinstance (pa_cons (pv 0) (pa_cons (pe_bltn (v := .ty "str") (by rfl) ms PyProof.Rows.boot_str rfl) pa_nil)))))
        (pw_or1 (pt_not (pt_chain op_le op_le pe_int (pe_callB call_len (by rfl) ml PySem.boot_len (pa_cons (pv 0) pa_nil)) pe_int))))) (pss_one (ps_ret pe_bl)) pss_nil)
      (pss_one (ps_ret (pe_callB (cr_all rfl) (by rfl) ma boot_all (pa_cons
          (pe_lc (own := [("_law_sign", 1)]) (g := gName 1) (tt := tYes) rfl scLTok.nd (pi_str (pv 0)) (blkOk_by (N := ["_law_value", "_law_sign"]) (sc := defScope sLTok) (own := [("_law_sign", 1)]) (by decide +kernel)) (fun _ _ _ _ _ => pg_name (i := 1) scLTok.nd rfl (Or.inl rfl)) (fun _ _ _ _ _ => pts_nil)
            (fun _ _ _ _ _ => pe_cmpR op_in_sign (pv 1) pe_str (by rfl))) pa_nil)))), ?_⟩
    cases v with
    | str z =>
      have hz : z.length ≤ 1000 := by cases hv; assumption
      refine q_when (et_or (b := !(decide (1 ≤ (z.length : Int)) && decide ((z.length : Int) ≤ 8))) (et_not (et_test (ev_cb (ea_cons (ev_var rfl) (ea_cons ev_c ea_nil)) hv.isi)))
        (fun _ => et_not (et_test (ev_chain ev_c (ev_cb (ea_cons (ev_var rfl) ea_nil) (rc_lenS hz)) rv_I0 (fun _ => ev_c) (fun _ => rv_I0))))) (fun hb H1 e1 => ?_) (fun hb H1 e1 => ?_)
      · refine s_ret ev_c fun H2 e2 => ?_
        have e : isTok (.str z) = false := by
          have hb' : (!true || !(decide (1 ≤ (z.length : Int)) && decide ((z.length : Int) ≤ 8))) = true := hb
          show ((decide (1 ≤ (z.length : Int)) && decide ((z.length : Int) ≤ 8)) && _) = false
          cases hk : (decide (1 ≤ (z.length : Int)) && decide ((z.length : Int) ≤ 8)) with
          | false => rfl
          | true =>
            rw [hk] at hb'
            cases hb'
        have := q H2 (e1.trans e2)
        rw [e] at this
        exact this
      · refine s_ret (ev_cbL (el_lcS (fun c => .bl (decide (c ∈ abc.cps.toList))) (ev_var rfl) (by show z.length ≤ 40000; omega) (fun _ => rfl) (fun c H2 _ _ => ev_op (ev_var rfl) ev_c rv_inSign))
            (fun p H2 hp _ => rc_all (bs := z.cps.toList.map fun c => decide (c ∈ abc.cps.toList)) (by rw [hp, List.map_map]; rfl))) fun H2 e2 => ?_
        have e : isTok (.str z) = (z.cps.toList.map fun c => decide (c ∈ abc.cps.toList)).all id := by
          have hb' : (!true || !(decide (1 ≤ (z.length : Int)) && decide ((z.length : Int) ≤ 8))) = false := hb
          show ((decide (1 ≤ (z.length : Int)) && decide ((z.length : Int) ≤ 8)) && _) = _
          cases hk : (decide (1 ≤ (z.length : Int)) && decide ((z.length : Int) ≤ 8)) with
          | true => rfl
          | false =>
            rw [hk] at hb'
            cases hb'
        have := q H2 (e1.trans e2)
        rw [e] at this
        exact this
    | _ =>
      refine q_when (et_or (b := false) (et_not (et_test (ev_cb (ea_cons (ev_var rfl) (ea_cons ev_c ea_nil)) hv.isi))) (fun z => nomatch z)) (fun hb H1 e1 => ?_) (fun hb => nomatch hb)
      exact s_ret ev_c fun H2 e2 => q H2 (e1.trans e2)
end
/-! windows, over data -/
def tokD : PyData → Bool
  | .str z => isTok (.str z)
  | _ => false
def hsD : List PyData → Bool
  | d :: _ => isT "^" d
  | [] => false
def heD : List PyData → Bool
  | [] => false
  | [d] => isT "$" d
  | _ :: y :: r => heD (y :: r)
def inD (ds : List PyData) : List PyData := if hsD ds then ds.drop 1 else ds
def cutE (ds : List PyData) : List PyData := if heD ds then ds.dropLast else ds
def winD : PyData → Bool
  | .tuple ds => (cutE (inD ds)).all tokD
  | _ => false
def markD (n i : Nat) (d : PyData) : Bool := (isT "^" d && decide (i = 0)) || (isT "$" d && decide (i + 1 = n))
theorem cutE_cons (x y : PyData) (r : List PyData) : cutE (x :: y :: r) = x :: cutE (y :: r) := by
  unfold cutE
  show (if heD (y :: r) then x :: (y :: r).dropLast else x :: y :: r) = _
  split <;> rfl
theorem cutE_all : ∀ L : List PyData, (cutE L).all tokD = true ↔ ∀ j d, L[j]? = some d → (isT "$" d = true ∧ j + 1 = L.length) ∨ tokD d = true
  | [] => ⟨fun _ j d h => (by cases h), fun _ => rfl⟩
  | [x] => by
    constructor
    · intro h j d hj
      cases j with
      | zero =>
        cases hj
        cases e : isT "$" x with
        | true => exact .inl ⟨rfl, rfl⟩
        | false =>
          unfold cutE at h
          have e' : heD [x] = false := e
          rw [e'] at h
          have : (tokD x && true) = true := h
          rw [Bool.and_true] at this
          exact .inr this
      | succ j => cases hj
    · intro h
      rcases h 0 x rfl with ⟨a, _⟩ | a
      · unfold cutE
        have e' : heD [x] = true := a
        rw [e']
        rfl
      · unfold cutE
        split
        · rfl
        · show (tokD x && true) = true
          rw [a]
          rfl
  | x :: y :: r => by
    have ih := cutE_all (y :: r)
    rw [cutE_cons]
    show (tokD x && (cutE (y :: r)).all tokD) = true ↔ _
    rw [Bool.and_eq_true, ih]
    constructor
    · rintro ⟨a, b⟩ j d hj
      cases j with
      | zero =>
        cases hj
        exact .inr a
      | succ j =>
        rcases b j d hj with ⟨c1, c2⟩ | c
        · exact .inl ⟨c1, by show j + 1 + 1 = (y :: r).length + 1; omega⟩
        · exact .inr c
    · intro h
      refine ⟨?_, fun j d hj => ?_⟩
      · rcases h 0 x rfl with ⟨_, c⟩ | c
        · have : 0 + 1 = r.length + 1 + 1 := c
          omega
        · exact c
      · rcases h (j + 1) d hj with ⟨c1, c2⟩ | c
        · exact .inl ⟨c1, by have : j + 1 + 1 = (y :: r).length + 1 := c2; omega⟩
        · exact .inr c
theorem winD_iff (ds : List PyData) : winD (.tuple ds) = true ↔ ∀ j d, ds[j]? = some d → markD ds.length j d = true ∨ tokD d = true := by
  show (cutE (inD ds)).all tokD = true ↔ _
  rw [cutE_all]
  have mk : ∀ n j d, markD n j d = true ↔ (isT "^" d = true ∧ j = 0) ∨ (isT "$" d = true ∧ j + 1 = n) := by
    intro n j d
    unfold markD
    simp only [Bool.or_eq_true, Bool.and_eq_true, decide_eq_true_eq]
  unfold inD
  cases ds with
  | nil => exact ⟨fun _ j d h => (by cases h), fun _ j d h => (by cases h)⟩
  | cons x r =>
    cases e : isT "^" x with
    | true =>
      have e' : hsD (x :: r) = true := e
      rw [e']
      show (∀ j d, r[j]? = some d → _ ∧ j + 1 = r.length ∨ _) ↔ _
      constructor
      · intro h j d hj
        cases j with
        | zero =>
          cases hj
          exact .inl ((mk _ _ _).mpr (.inl ⟨e, rfl⟩))
        | succ j =>
          rcases h j d hj with ⟨c1, c2⟩ | c
          · exact .inl ((mk _ _ _).mpr (.inr ⟨c1, by show j + 1 + 1 = r.length + 1; omega⟩))
          · exact .inr c
      · intro h j d hj
        rcases h (j + 1) d hj with c | c
        · rcases (mk _ _ _).mp c with ⟨_, c2⟩ | ⟨c1, c2⟩
          · cases c2
          · exact .inl ⟨c1, by have : j + 1 + 1 = r.length + 1 := c2; omega⟩
        · exact .inr c
    | false =>
      have e' : hsD (x :: r) = false := e
      rw [e']
      show (∀ j d, (x :: r)[j]? = some d → _ ∧ j + 1 = (x :: r).length ∨ _) ↔ _
      constructor
      · intro h j d hj
        rcases h j d hj with c | c
        · exact .inl ((mk _ _ _).mpr (.inr c))
        · exact .inr c
      · intro h j d hj
        rcases h j d hj with c | c
        · rcases (mk _ _ _).mp c with ⟨c1, c2⟩ | c
          · subst c2
            cases hj
            rw [e] at c1
            cases c1
          · exact .inl c
        · exact .inr c
theorem tok_dd {p : Addr} {H : Hp} {v : V} {d : PyData} (h : Dd p H v d) : isTok v = tokD d := by
  cases h <;> rfl
theorem fits_thing {p : Addr} {H : Hp} {n : Nat} {vs : List V} {ds : List PyData} {i : Nat} {v : V} {d : PyData} (h : Fits n ds) (hn : n ≤ 1000) (hi : ds[i]? = some d) (hd : Dd p H v d) : Thing H v := by
  refine hd.thing fun x e => ?_
  subst e
  have : ∀ (ds : List PyData) (i : Nat), ds[i]? = some (.str x) → x.cps.size ≤ PyData.bulkAll ds := by
    intro ds
    induction ds with
    | nil => intro i hi; cases hi
    | cons y r ih =>
      intro i hi
      cases i with
      | zero =>
        cases hi
        show x.cps.size ≤ x.cps.size + 1 + PyData.bulkAll r
        omega
      | succ i =>
        have := ih i hi
        show x.cps.size ≤ y.bulk + 1 + PyData.bulkAll r
        omega
  have := this ds i hi
  have := h.2.2.1
  show x.cps.size ≤ 1000
  omega
end K16
namespace K16
open PySem PySem.Spec PyProof.Rows L2 Evl Es
/-- a tuple of data, small -/
def spTupB (f : List PyData → Bool) : Sp := fun vs H Q _ => ∃ (p a : Addr) (xs : List V) (ds : List PyData), vs = [.ref a] ∧ H a = some (.tup xs) ∧ DdAll p H xs ds ∧ Fits 900 ds ∧ RetV (.bl (f ds)) H Q
theorem cut_0_1 (xs : List V) : cutV xs none (some 1) = xs.take 1 := by
  unfold cutV
  rw [HT.sIx_none, List.drop_zero, Nat.sub_zero, show HT.sIx xs.length xs.length (some (1 : Int)) = min 1 xs.length from HT.sIx_nat xs.length xs.length 1]
  cases xs with
  | nil => rfl
  | cons x r =>
    rw [show min 1 (x :: r).length = 1 by rw [List.length_cons]; omega]
theorem six_neg (n d : Nat) : HT.sIx n d (some (-1 : Int)) = n - 1 := by
  show (if (-1 : Int) < 0 then ((-1 : Int) + (n : Int)).toNat else min (-1 : Int).toNat n) = n - 1
  rw [if_pos (by decide)]
  omega
theorem cut_m1 (xs : List V) : cutV xs (some (-1)) none = xs.drop (xs.length - 1) := by
  unfold cutV
  rw [HT.sIx_none, six_neg, List.take_of_length_le (by rw [List.length_drop]; omega)]
theorem cut_0_m1 (xs : List V) : cutV xs none (some (-1)) = xs.take (xs.length - 1) := by
  unfold cutV
  rw [HT.sIx_none, six_neg, List.drop_zero, Nat.sub_zero]
theorem cut_1 (xs : List V) : cutV xs (some 1) none = xs.drop 1 := by
  unfold cutV
  rw [HT.sIx_none, show HT.sIx xs.length 0 (some (1 : Int)) = min 1 xs.length from HT.sIx_nat xs.length 0 1]
  cases xs with
  | nil => rfl
  | cons x r =>
    have e : min 1 (x :: r).length = 1 := by rw [List.length_cons]; omega
    rw [e, List.take_of_length_le (by rw [List.length_drop]; omega)]
theorem heD_last : ∀ ds : List PyData, (ds = [] ∧ heD ds = false) ∨ ∃ d, ds.drop (ds.length - 1) = [d] ∧ heD ds = isT "$" d
  | [] => .inl ⟨rfl, rfl⟩
  | [x] => .inr ⟨x, rfl, rfl⟩
  | x :: y :: r => by
    rcases heD_last (y :: r) with ⟨h, _⟩ | ⟨d, h1, h2⟩
    · cases h
    · refine .inr ⟨d, ?_, h2⟩
      rw [← h1]
      show (x :: y :: r).drop (r.length + 1) = (y :: r).drop r.length
      rfl
section
variable {P : Program} {w : World} {K : PySem.W.Frag} {mg : Str → Option Value} {base : Heap}
theorem ok_text {f fT : Addr} {fd fdT : FuncData} {k : Nat} (F : Fun K "is_text" "is_text" sText f fd) (kT : PySem.W.keepIn K (.ref fT) = true) (G : FnOk P w K mg base CX0 (k + 1) fT fdT ["value"] spTok) (bT : Binds K fdT ["value"] []) (gT : mg "is_token" = some (.ref fT))
    (mi : mg "isinstance" = none) (mt : mg "tuple" = none) (ma : mg "all" = none) : FnOk P w K mg base CX0 (k + 2) f fd ["value"] (spTupB fun ds => ds.all tokD) := by
  refine F.ok scText (fun vs H Q E h => ?_) (fun cdv A outer s H vs Q E hr h => ?_)
  · obtain ⟨p, a, xs, ds, rfl, _⟩ := h
    rfl
  · obtain ⟨p, a, xs, ds, rfl, ha, hd, hf, q⟩ := h
    refine ⟨_, pss_one (ps_ret (pe_and (pe_callB call_isi (by rfl) mi boot_isinstance (pa_cons (pv 0) (pa_cons (pe_bltn (v := .ty "tuple") (by rfl) mt (by decide +kernel) rfl) pa_nil)))
      (pe_one (pe_callB (cr_all rfl) (by rfl) ma boot_all (pa_cons (pe_lc (own := [("token", 1)]) (g := gName 1) (tt := tYes) rfl scText.nd (pi_tup (pv 0))
        (blkOk_by (N := ["value", "token"]) (sc := defScope sText) (own := [("token", 1)]) (by decide +kernel)) (fun _ _ _ _ _ => pg_name (i := 1) scText.nd rfl (Or.inl rfl)) (fun _ _ _ _ _ => pts_nil)
        (fun _ _ _ _ _ => pe_call G hr (by rfl) gT kT bT .nil pass0 (pa_cons (pv 1) pa_nil))) pa_nil))))), ?_⟩
    refine ⟨.ref a, rfl, .ref a, .ty "tuple", .type "tuple", _, true, rfl, .ty _, .base (.tup ha), kit_ty (by decide +kernel), _, rfl, iteT ?_⟩
    refine ⟨.ref a, rfl, a, rfl, ⟨xs, st_of ha⟩, fun D nD => ?_⟩
    refine lc_tup (g := gName 1) (tt := tYes) (vs := [1]) (fun i H' => Ex H H' ∧ H' D = some (.lst (((ds.take i).map tokD).map V.bl))) ⟨Ex.new nD, upd_same⟩ (fun i H' _ x => st_of (x.1 _ _ ha)) ?_ ?_
    · rintro i x H' hx ⟨e, hD⟩
      obtain ⟨d, hdi, hxd⟩ := hd.get hx
      have th : Thing H' x := (fits_thing (vs := xs) hf (by decide) hdi hxd).up e
      refine ⟨rfl, x, rfl, x, rfl, th, fun H2 e2 => ⟨_, e2 _ _ hD, ?_, Ex.mut (e.trans e2) nD, ?_⟩⟩
      · rw [List.length_map, List.length_map, List.length_take]
        have := hf.length
        exact sz_lt (by omega)
      · rw [upd_same, List.take_add_one, hdi, List.map_append, List.map_append, tok_dd hxd]
        rfl
    · rintro H' ⟨e, hD⟩
      have l := hd.length
      rw [l, List.take_length] at hD
      refine ⟨D, ds.map tokD, rfl, sq_of hD, ?_⟩
      have : (ds.map tokD).all id = ds.all tokD := by
        rw [List.all_map]
        rfl
      rw [this]
      exact q H' e
theorem ok_hs {f : Addr} {fd : FuncData} {k : Nat} {tk : Tok} (F : Fun K "has_start" "has_start" sHs f fd) (mS : mg "START" = some (.str "^" tk)) : FnOk P w K mg base CX0 (k + 1) f fd ["window"] (spTupB hsD) := by
  refine F.ok scHs (fun vs H Q E h => ?_) (fun cdv A outer s H vs Q E hr h => ?_)
  · obtain ⟨p, a, xs, ds, rfl, _⟩ := h
    rfl
  · obtain ⟨p, a, xs, ds, rfl, ha, hd, hf, q⟩ := h
    refine ⟨_, pss_one (ps_ret (pe_cmpR (op_eqT1 hr.units) (pe_slice sl_tupA (pv 0) po_none (po_some pe_int)) (pe_tup (pa_cons (pe_glob (v := .str "^") (by rfl) mS ⟨_, rfl⟩) pa_nil)) (nomark _))), ?_⟩
    have fin : ∀ b H1, Ex H H1 → H1 b = some (.tup (xs.take 1)) → ∀ t, H1 t = none → rEqT1 K (.ref b) (.ref t) (upd H1 t (.tup [.str "^"])) Q := by
      intro b H1 e1 hb t nt
      have et := Ex.new (o := .tup [.str "^"]) nt
      refine ⟨b, t, xs.take 1, "^", rfl, rfl, st_of (et _ _ hb), st_of upd_same, ?_⟩
      cases hd with
      | nil => exact .inl ⟨rfl, q _ (e1.trans et)⟩
      | @cons v vs d ds hv _ => exact .inr ⟨v, d, p, rfl, hv.up (e1.trans et), q _ (e1.trans et)⟩
    refine ⟨.ref a, rfl, 1, rfl, a, xs, rfl, st_of ha, fun hw => ⟨sz_of (by decide), fun t nt => ?_⟩, fun _ b nb => ⟨sz_of (by decide), fun t nt => ?_⟩⟩
    · refine fin a H (Ex.refl _) ?_ t nt
      have h2 : HT.sIx xs.length xs.length (some (1 : Int)) = xs.length := hw.2
      rw [show HT.sIx xs.length xs.length (some (1 : Int)) = min 1 xs.length from HT.sIx_nat _ _ 1] at h2
      rw [List.take_of_length_le (by omega)]
      exact ha
    · refine fin b _ (Ex.new nb) ?_ t nt
      rw [upd_same, cut_0_1]
theorem ok_he {f : Addr} {fd : FuncData} {k : Nat} {tk : Tok} (F : Fun K "has_end" "has_end" sHe f fd) (mE : mg "END" = some (.str "$" tk)) : FnOk P w K mg base CX0 (k + 1) f fd ["window"] (spTupB heD) := by
  refine F.ok scHe (fun vs H Q E h => ?_) (fun cdv A outer s H vs Q E hr h => ?_)
  · obtain ⟨p, a, xs, ds, rfl, _⟩ := h
    rfl
  · obtain ⟨p, a, xs, ds, rfl, ha, hd, hf, q⟩ := h
    refine ⟨_, pss_one (ps_ret (pe_cmpR (op_eqT1 hr.units) (pe_slice sl_tupA (pv 0) (po_some (pe_un un_neg pe_int)) po_none) (pe_tup (pa_cons (pe_glob (v := .str "$") (by rfl) mE ⟨_, rfl⟩) pa_nil)) (nomark _))), ?_⟩
    have l := hd.length
    have fin : ∀ b H1, Ex H H1 → H1 b = some (.tup (xs.drop (xs.length - 1))) → ∀ t, H1 t = none → rEqT1 K (.ref b) (.ref t) (upd H1 t (.tup [.str "$"])) Q := by
      intro b H1 e1 hb t nt
      have et := Ex.new (o := .tup [.str "$"]) nt
      refine ⟨b, t, xs.drop (xs.length - 1), "$", rfl, rfl, st_of (et _ _ hb), st_of upd_same, ?_⟩
      have hdd := hd.drop (xs.length - 1)
      rcases heD_last ds with ⟨h1, h2⟩ | ⟨d, h1, h2⟩
      · subst h1
        cases hd
        have := q _ (e1.trans et)
        rw [h2] at this
        exact .inl ⟨rfl, this⟩
      · rw [l, h1] at hdd
        have := q _ (e1.trans et)
        rw [h2] at this
        rw [l]
        generalize hg : xs.drop (ds.length - 1) = ys at hdd
        cases hdd with
        | @cons v vs _ _ hv hr => 
          cases hr
          exact .inr ⟨v, d, p, rfl, hv.up (e1.trans et), this⟩
    refine ⟨.ref a, rfl, 1, rfl, -1, rfl, a, xs, rfl, st_of ha, fun hw => ⟨sz_of (by decide), fun t nt => ?_⟩, fun _ b nb => ⟨sz_of (by decide), fun t nt => ?_⟩⟩
    · refine fin a H (Ex.refl _) ?_ t nt
      have h2 : HT.sIx xs.length 0 (some (-1 : Int)) = 0 := hw.1
      rw [six_neg] at h2
      rw [h2]
      exact ha
    · refine fin b _ (Ex.new nb) ?_ t nt
      rw [upd_same, cut_m1]
/-- behind_start: the items without the first marker -/
def spIn : Sp := fun vs H Q _ => ∃ (p a : Addr) (xs : List V) (ds : List PyData), vs = [.ref a] ∧ H a = some (.tup xs) ∧ DdAll p H xs ds ∧ Fits 900 ds ∧
  ∀ b ys H', Ex H H' → H' b = some (.tup ys) → DdAll p H' ys (inD ds) → Q (.ref b) H'
theorem ok_bs {f fS : Addr} {fd fdS : FuncData} {k : Nat} (F : Fun K "behind_start" "behind_start" sBs f fd) (GS : FnOk P w K mg base CX0 (k + 1) fS fdS ["window"] (spTupB hsD)) (bS : Binds K fdS ["window"] []) (gS : mg "has_start" = some (.ref fS)) (kS : PySem.W.keepIn K (.ref fS) = true) :
    FnOk P w K mg base CX0 (k + 2) f fd ["window"] spIn := by
  refine F.ok scBs (fun vs H Q E h => ?_) (fun cdv A outer s H vs Q E hr h => ?_)
  · obtain ⟨p, a, xs, ds, rfl, _⟩ := h
    rfl
  · obtain ⟨p, a, xs, ds, rfl, ha, hd, hf, q⟩ := h
    refine ⟨_, pss_one (ps_ret (pe_ifExp (pt_val (pe_call GS hr (by rfl) gS kS bS .nil pass0 (pa_cons (pv 0) pa_nil))) (pe_slice sl_tupA (pv 0) (po_some pe_int) po_none) (pv 0))), ?_⟩
    have l := hd.length
    refine ⟨.ref a, rfl, p, a, xs, ds, rfl, ha, hd, hf, fun H1 e1 => ⟨_, rfl, ite2 (fun hb => ?_) (fun hb => ?_)⟩⟩
    · have hb' : hsD ds = true := hb
      refine ⟨.ref a, rfl, 1, rfl, a, xs, rfl, st_of (e1 _ _ ha), fun hw => ?_, fun _ b nb => ?_⟩
      · have h2 : HT.sIx xs.length 0 (some (1 : Int)) = 0 := hw.1
        rw [show HT.sIx xs.length 0 (some (1 : Int)) = min 1 xs.length from HT.sIx_nat _ _ 1] at h2
        have : ds = [] := List.length_eq_zero_iff.mp (by omega)
        subst this
        cases hb'
      · refine q b _ _ (e1.trans (Ex.new nb)) upd_same ?_
        rw [cut_1]
        unfold inD
        rw [hb']
        exact (hd.drop 1).up (e1.trans (Ex.new nb))
    · have hb' : hsD ds = false := Bool.eq_false_iff.mpr hb
      refine ⟨.ref a, rfl, q a xs _ e1 (e1 _ _ ha) ?_⟩
      unfold inD
      rw [hb']
      exact hd.up e1
/-- tokens_of: the items between the markers -/
def spToks : Sp := fun vs H Q _ => ∃ (p a : Addr) (xs : List V) (ds : List PyData), vs = [.ref a] ∧ H a = some (.tup xs) ∧ DdAll p H xs ds ∧ Fits 900 ds ∧
  ∀ b ys H', Ex H H' → H' b = some (.tup ys) → DdAll p H' ys (cutE (inD ds)) → Q (.ref b) H'
theorem ok_toks {f fS fE : Addr} {fd fdS fdE : FuncData} {k : Nat} (F : Fun K "tokens_of" "tokens_of" sToks f fd) (GS : FnOk P w K mg base CX0 (k + 2) fS fdS ["window"] spIn) (bS : Binds K fdS ["window"] []) (gS : mg "behind_start" = some (.ref fS)) (kS : PySem.W.keepIn K (.ref fS) = true)
    (GE : FnOk P w K mg base CX0 (k + 2) fE fdE ["window"] (spTupB heD)) (bE : Binds K fdE ["window"] []) (gE : mg "has_end" = some (.ref fE)) (kE : PySem.W.keepIn K (.ref fE) = true) : FnOk P w K mg base CX0 (k + 3) f fd ["window"] spToks := by
  refine F.ok scToks (fun vs H Q E h => ?_) (fun cdv A outer s H vs Q E hr h => ?_)
  · obtain ⟨p, a, xs, ds, rfl, _⟩ := h
    rfl
  · obtain ⟨p, a, xs, ds, rfl, ha, hd, hf, q⟩ := h
    refine ⟨_, pss_cons (ps_set (i := 1) scToks.nd rfl (.inl rfl) (pe_call GS hr (by rfl) gS kS bS .nil pass0 (pa_cons (pv 0) pa_nil)))
      (pss_one (ps_ret (pe_ifExp (pt_val (pe_call GE hr (by rfl) gE kE bE .nil pass0 (pa_cons (pv 1) pa_nil))) (pe_slice sl_tupA (pv 1) po_none (po_some (pe_un un_neg pe_int))) (pv 1)))), ?_⟩
    have l := hd.length
    refine ⟨.ref a, rfl, p, a, xs, ds, rfl, ha, hd, hf, fun b ys H1 e1 hb hy => ?_⟩
    · skip
      have fi : Fits 900 (inD ds) := by
        unfold inD
        split
        · exact hf.sub.1 1
        · exact hf
      have ly := hy.length
      refine ⟨.ref b, rfl, p, b, ys, inD ds, rfl, hb, hy, fi, fun H2 e2 => ⟨_, rfl, ite2 (fun he => ?_) (fun he => ?_)⟩⟩
      · have he' : heD (inD ds) = true := he
        refine ⟨.ref b, rfl, 1, rfl, -1, rfl, b, ys, rfl, st_of (e2 _ _ hb), fun hw => ?_, fun _ c nc => ?_⟩
        · have h2 : HT.sIx ys.length ys.length (some (-1 : Int)) = ys.length := hw.2
          rw [six_neg] at h2
          have : inD ds = [] := List.length_eq_zero_iff.mp (by omega)
          rw [this] at he'
          cases he'
        · refine q c _ _ ((e1.trans e2).trans (Ex.new nc)) upd_same ?_
          rw [cut_0_m1]
          unfold cutE
          rw [he', ly]
          show DdAll p _ _ (inD ds).dropLast
          rw [List.dropLast_eq_take]
          exact (hy.take _).up (e2.trans (Ex.new nc))
      · have he' : heD (inD ds) = false := Bool.eq_false_iff.mpr he
        refine ⟨.ref b, rfl, q b ys _ (e1.trans e2) (e2 _ _ hb) ?_⟩
        unfold cutE
        rw [he']
        exact hy.up e2
/-- of any data -/
def spWin : Sp := fun vs H Q _ => ∃ (p : Addr) (v : V) (d : PyData), vs = [v] ∧ Dd p H v d ∧ Fit 800 d ∧ RetV (.bl (winD d)) H Q
theorem fit_fits {n : Nat} {ds : List PyData} (h : Fit n (.tuple ds)) : Fits n ds := by
  obtain ⟨a1, a2, a3, a4⟩ := h
  have a4' : PyData.depthAll ds + 1 ≤ n := a4
  exact ⟨a1, a2, a3, by omega⟩
theorem ok_win {f fX fT : Addr} {fd fdX fdT : FuncData} {k : Nat} (F : Fun K "is_window" "is_window" sWin f fd) (GX : FnOk P w K mg base CX0 (k + 3) fX fdX ["value"] (spTupB fun ds => ds.all tokD)) (bX : Binds K fdX ["value"] []) (gX : mg "is_text" = some (.ref fX)) (kX : PySem.W.keepIn K (.ref fX) = true)
    (GT : FnOk P w K mg base CX0 (k + 3) fT fdT ["window"] spToks) (bT : Binds K fdT ["window"] []) (gT : mg "tokens_of" = some (.ref fT)) (kT : PySem.W.keepIn K (.ref fT) = true) (mi : mg "isinstance" = none) (mt : mg "tuple" = none) : FnOk P w K mg base CX0 (k + 4) f fd ["value"] spWin := by
  refine F.ok scWin (fun vs H Q E h => ?_) (fun cdv A outer s H vs Q E hr h => ?_)
  · obtain ⟨p, v, d, rfl, _⟩ := h
    rfl
  · obtain ⟨p, v, d, rfl, hd, hf, q⟩ := h
    refine ⟨_, pss_one (ps_ret (pe_and (pe_callB call_isi (by rfl) mi boot_isinstance (pa_cons (pv 0) (pa_cons (pe_bltn (v := .ty "tuple") (by rfl) mt (by decide +kernel) rfl) pa_nil)))
      (pe_one (pe_call GX hr (by rfl) gX kX bX .nil pass0 (pa_cons (pe_call GT hr (by rfl) gT kT bT .nil pass0 (pa_cons (pv 0) pa_nil)) pa_nil))))), ?_⟩
    refine ⟨v, rfl, v, .ty "tuple", .type (tyD d), _, isTup d, rfl, .ty _, hd.ty, kit_ty (kit_tup d), _, rfl, ite2 (fun hb => ?_) (fun hb => ?_)⟩
    · cases hd with
      | @tup a xs ds na ha hds =>
        have fs := (fit_fits hf).more (show 800 ≤ 900 by decide)
        refine ⟨.ref a, rfl, p, a, xs, ds, rfl, ha, hds, fs, fun b ys H1 e1 hb' hy => ?_⟩
        refine ⟨p, b, ys, _, rfl, hb', hy, ?_, fun H2 e2 => q H2 (e1.trans e2)⟩
        have f1 : Fits 900 (inD ds) := by
          unfold inD
          split
          · exact fs.sub.1 1
          · exact fs
        generalize inD ds = L at f1
        unfold cutE
        split
        · rw [List.dropLast_eq_take]
          exact f1.sub.2 _
        · exact f1
      | _ => cases hb
    · have e : winD d = false := by
        cases d with
        | tuple ds => exact absurd rfl hb
        | _ => rfl
      have := q H (Ex.refl _)
      rw [e] at this
      exact this
theorem tokD_mark {d : PyData} (h : isT "^" d = true ∨ isT "$" d = true) : isStr d = true := by
  cases d with
  | str x => rfl
  | _ => rcases h with h | h <;> cases h
theorem ok_lwin {f fT : Addr} {fd fdT : FuncData} {k : Nat} (F : Fun K "_law_is_window" "_law_is_window" sLWin f fd) (G : FnOk P w K mg base CX0 (k + 1) fT fdT ["_law_value"] spTok) (bT : Binds K fdT ["_law_value"] []) (gT : mg "_law_token" = some (.ref fT)) (kT : PySem.W.keepIn K (.ref fT) = true)
    (mi : mg "isinstance" = none) (mt : mg "tuple" = none) (ms : mg "str" = none) (me : mg "enumerate" = none) (ml : mg "len" = none) : FnOk P w K mg base CX0 (k + 2) f fd ["_law_value"] spWin := by
  refine F.ok scLWin (fun vs H Q E h => ?_) (fun cdv A outer s H vs Q E hr h => ?_)
  · obtain ⟨p, v, d, rfl, _⟩ := h
    rfl
  · obtain ⟨p, v, d, rfl, hd, hf, q⟩ := h
    refine ⟨_, pss_cons (ps_if (pt_not (pt_val (pe_callB call_isi (by rfl) mi boot_isinstance (pa_cons (pv 0) (pa_cons (pe_bltn (v := .ty "tuple") (by rfl) mt (by decide +kernel) rfl) pa_nil))))) (pss_one (ps_ret pe_bl)) pss_nil)
      (pss_cons (ps_for PassesOwn.never rfl (pi_et (by rfl) me (pa_cons (pv 0) pa_nil)) (pg_tup rfl (pgs_cons (pg_name (i := 1) scLWin.nd rfl (.inl rfl)) (pgs_cons (pg_name (i := 2) scLWin.nd rfl (.inl rfl)) pgs_nil)))
        (pss_cons (ps_set (i := 3) scLWin.nd rfl (.inl rfl) (pe_and (pe_callB call_isi (by rfl) mi boot_isinstance (pa_cons (pv 2) (pa_cons (pe_bltn (v := .ty "str") (by rfl) ms PyProof.Rows.boot_str rfl) pa_nil)))
          (pe_one (pe_or (pe_and (pe_cmpR op_eq (pv 2) pe_str (nomark _)) (pe_one (pe_cmpR op_eq (pv 1) pe_int (nomark _))))
            (pe_one (pe_and (pe_cmpR op_eq (pv 2) pe_str (nomark _)) (pe_one (pe_cmpR op_eq (pv 1) (pe_op op_sub (pe_callB call_len_seq (by rfl) ml PySem.boot_len (pa_cons (pv 0) pa_nil)) pe_int) (nomark _)))))))))
        (pss_one (ps_if (PW.pt (pw_and (pt_not (pt_val (pv 3))) (pw_and1 (pt_not (pt_val (pe_call G hr (by rfl) gT kT bT .nil pass0 (pa_cons (pv 2) pa_nil))))))) (pss_one (ps_ret pe_bl)) pss_nil))))
      (pss_one (ps_ret pe_bl))), ?_⟩
    refine q_when (et_not (et_test (ev_cb (ea_cons (ev_var rfl) (ea_cons ev_c ea_nil)) hd.isiT))) (fun hb H1 e1 => ?_) (fun hb H1 e1 => ?_)
    · refine s_ret ev_c fun H2 e2 => ?_
      have e : winD d = false := by
        cases d with
        | tuple ds => cases hb
        | _ => rfl
      have := q H2 (e1.trans e2)
      rw [e] at this
      exact this
    · cases hd with
      | @tup a xs ds na ha hds =>
        have fs := (fit_fits hf).more (show 800 ≤ 900 by decide)
        have l := hds.length
        refine ⟨.ref a, rfl, a, xs, rfl, st_of (e1 _ _ ha), for_it (walk_et (xs := xs)) (fun i σ H' => Ex H H' ∧ (∀ j d, j < i → ds[j]? = some d → markD ds.length j d = true ∨ tokD d = true) ∧ ∃ y1 y2 y3, σ = [some (.ref a), y1, y2, y3]) ?_ ?_ ?_ ?_⟩
        · exact ⟨e1, fun j d hj => absurd hj (Nat.not_lt_zero _), none, none, none, rfl⟩
        · rintro i σ H' _ ⟨e, _⟩
          exact st_of (e _ _ ha)
        · rintro i v σ H' H'' hi ⟨e, hall, y1, y2, y3, rfl⟩ ⟨T, x, y, rfl, nT, rfl, hx, hy⟩
          dsimp only at hx hy
          cases hx
          obtain ⟨d, hdi, hyd⟩ := hds.get hy
          have eT := Ex.new (o := .tup [.int (i : Int), y]) nT
          have hy' := hyd.up (e.trans eT)
          have th : Thing _ y := (fits_thing (vs := xs) fs (by decide) hdi hyd).up (e.trans eT)
          refine ⟨T, _, rfl, st_of upd_same, rfl, .int (i : Int), [y], rfl, y, [], rfl, rfl, ?_⟩
          refine q_asg (v := .bl (markD ds.length i d)) ?_ fun H2 e2 => ?_
          · cases hs : isStr d with
            | false =>
              have hm : markD ds.length i d = false := by
                cases hmm : markD ds.length i d with
                | false => rfl
                | true =>
                  have : isT "^" d = true ∨ isT "$" d = true := by
                    unfold markD at hmm
                    simp only [Bool.or_eq_true, Bool.and_eq_true] at hmm
                    rcases hmm with ⟨z, _⟩ | ⟨z, _⟩
                    · exact .inl z
                    · exact .inr z
                  rw [tokD_mark this] at hs
                  cases hs
              rw [hm]
              have := ev_andV (b := false) (tb := tOrV (tAndV (tOp rEq (tVar 2) (tC (.str "^"))) (tOp rEq (tVar 1) (tC (.int 0)))) (tAndV (tOp rEq (tVar 2) (tC (.str "$"))) (tOp rEq (tVar 1) (tOp (rI0 fun i j => .int (i - j)) (tCB (rLenS K) (tCons (tVar 0) tNil)) (tC (.int 1))))))
                (ev_cb (ea_cons (ev_var (σ := [some (.ref a), some (.int (i : Int)), some y, y3]) (i := 2) rfl) (ea_cons ev_c ea_nil)) (hy'.isiS (K := K))) (fun z => by rw [hs] at z; cases z)
              rw [hs] at this
              exact this
            | true =>
              obtain ⟨z, rfl⟩ : ∃ z, d = .str z := by
                cases d with
                | str z => exact ⟨z, rfl⟩
                | _ => cases hs
              cases hyd
              have ha2 := (e.trans eT) _ _ ha
              refine ev_is (ev_andV (ev_cb (ea_cons (ev_var rfl) (ea_cons ev_c ea_nil)) hy'.isiS) (fun _ => ev_orV (ev_andV (ev_op (ev_var rfl) ev_c (rv_eq rfl)) (fun _ => ev_op (ev_var rfl) ev_c (rv_eq rfl)))
                (fun _ => ev_andV (ev_op (ev_var rfl) ev_c (rv_eq rfl)) (fun _ => ev_op (ev_var rfl) (ev_op (ev_cb (ea_cons (ev_var rfl) ea_nil) (fun H3 e3 Q q => ⟨a, xs, rfl, .inr (st_of (e3 _ _ ha2)), q H3 (Ex.refl _)⟩)) ev_c rv_I0) (rv_eq rfl))))) ?_
              show V.bl (true && (decide (V.str z = V.str "^") && decide (V.int (i : Int) = V.int 0) || decide (V.str z = V.str "$") && decide (V.int (i : Int) = V.int ((xs.length : Int) - 1)))) = V.bl (markD ds.length i (.str z))
              rw [Bool.true_and]
              congr 1
              show _ = (((z == "^") && decide (i = 0)) || ((z == "$") && decide (i + 1 = ds.length)))
              have b1 : ∀ s : Str, decide (V.str z = V.str s) = (z == s) := fun s => by
                by_cases h : z = s
                · subst h
                  rw [decide_eq_true rfl, beq_self_eq_true]
                · rw [beq_eq_false_iff_ne.mpr h, decide_eq_false (fun z => h (V.str.inj z))]
              have b2 : decide (V.int (i : Int) = V.int 0) = decide (i = 0) := decide_eq_decide.mpr ⟨fun h => by have := V.int.inj h; omega, fun h => by rw [h]; rfl⟩
              have b3 : decide (V.int (i : Int) = V.int ((xs.length : Int) - 1)) = decide (i + 1 = ds.length) := decide_eq_decide.mpr ⟨fun h => by have := V.int.inj h; omega, fun h => by
                have : (i : Int) = (xs.length : Int) - 1 := by omega
                rw [this]⟩
              rw [b1, b1, b2, b3]
          · have th2 := th.up e2
            refine s_when (et_and (et_not (et_test (ev_var rfl))) (fun _ => et_not (et_test (ev_call (ea_cons (ev_var rfl) ea_nil) (z := .bl (isTok y)) (fun H3 e3 Q q E => ⟨y, rfl, th2.up e3, fun H4 e4 => q H4 e4⟩))))) (fun hb H3 e3 => ?_) (fun hb H3 e3 => ?_)
            · refine s_ret ev_c fun H4 e4 => ?_
              rw [tok_dd hyd, Bool.and_eq_true] at hb
              have h1 : markD ds.length i d = false := by
                have := hb.1
                revert this
                cases markD ds.length i d <;> simp
              have h2 : tokD d = false := by
                have := hb.2
                revert this
                cases tokD d <;> simp
              have ew : winD (.tuple ds) = false := by
                cases hw : winD (.tuple ds) with
                | false => rfl
                | true =>
                  rcases (winD_iff ds).mp hw i d hdi with z | z
                  · rw [h1] at z
                    cases z
                  · rw [h2] at z
                    cases z
              have := q H4 ((((e.trans eT).trans e2).trans e3).trans e4)
              rw [ew] at this
              exact this
            · refine ⟨((e.trans eT).trans e2).trans e3, fun j d' hj hd' => ?_, _, _, _, rfl⟩
              by_cases hji : j < i
              · exact hall j d' hji hd'
              · have : j = i := by omega
                subst this
                rw [hdi] at hd'
                cases hd'
                rw [tok_dd hyd] at hb
                revert hb
                cases markD ds.length j d <;> cases tokD d <;> simp
        · rintro σ H' ⟨e, hall, y1, y2, y3, rfl⟩
          have ew : winD (.tuple ds) = true := (winD_iff ds).mpr fun j d hj => hall j d (by have := (List.getElem?_eq_some_iff.mp hj).1; omega) hj
          have := q H' e
          rw [ew] at this
          exact this
      | _ => cases hb
end
end K16
namespace K16
open PySem PySem.Spec PyProof.Rows L2 Evl Es
theorem scPot : FnScope ["_law_script", "_law_k", "_law_cell", "_law_own"] ["_law_script", "_law_k"] (defScope sPot) := ⟨rfl, rfl, rfl, by decide +kernel, rfl, by decide +kernel, by decide +kernel⟩
theorem scTake : FnScope ["_law_pot", "_law_upto", "_law_digit", "_law_prime", "_law_mixed"] ["_law_pot", "_law_upto"] (defScope sTake) := ⟨rfl, rfl, rfl, by decide +kernel, rfl, by decide +kernel, by decide +kernel⟩
theorem scPick : FnScope ["_law_pot", "_law_some"] ["_law_pot", "_law_some"] (defScope sPick) := ⟨rfl, rfl, rfl, by decide +kernel, rfl, by decide +kernel, by decide +kernel⟩
section
variable {P : Program} {w : World} {K : PySem.W.Frag} {mg : Str → Option Value} {base : Heap}
def primes : List V := [.int 2147483647, .int 2147483629, .int 2147483587, .int 2147483579, .int 2147483563]
theorem prime_at (j : Int) (h0 : 0 ≤ j) (h5 : j < 5) : ∃ r : Int, atI primes j = some (.int r) ∧ 0 < r ∧ r ≤ 2147483647 := by
  have : j = 0 ∨ j = 1 ∨ j = 2 ∨ j = 3 ∨ j = 4 := by omega
  rcases this with h | h | h | h | h <;> subst h <;> exact ⟨_, rfl, by decide, by decide⟩
theorem ok_take {f : Addr} {fd : FuncData} {k : Nat} (F : Fun K "_law_take" "_law_take" sTake f fd) : FnOk P w K mg base CX0 (k + 1) f fd ["_law_pot", "_law_upto"] spTake := by
  refine F.ok scTake (fun vs H Q E h => ?_) (fun cdv A outer s H vs Q E hr h => ?_)
  · obtain ⟨p, n, m, rfl, _⟩ := h
    rfl
  · obtain ⟨p, n, m, rfl, hn1, hn2, hm, hP, q⟩ := h
    obtain ⟨g, s0, c, hp, hg, hs0, hs1, hc0, hc1⟩ := hP
    refine ⟨_, pss_cons (ps_if (pt_cmpR op_gt (pe_ix ix_list (pv 0) pe_int (fun _ _ => rfl)) pe_int (nomark _))
        (pss_cons (ps_set (i := 2) scTake.nd rfl (.inl rfl) (pe_op op_mod (pe_ix ix_list (pv 0) pe_int (fun _ _ => rfl)) (pv 1)))
        (pss_cons (ps_asg (pe_op op_fdiv (pe_ix ix_list (pv 0) pe_int (fun _ _ => rfl)) (pv 1)) (pg_sub (pv 0) pe_int set_list))
        (pss_one (ps_ret (pv 2))))) pss_nil)
      (pss_cons (ps_asg (pe_op op_add (pe_ix ix_list (pv 0) pe_int (fun _ _ => rfl)) pe_int) (pg_sub (pv 0) pe_int set_list))
      (pss_cons (ps_set (i := 3) scTake.nd rfl (.inl rfl) (pe_ix ix_list (pe_lst (pa_cons pe_int (pa_cons pe_int (pa_cons pe_int (pa_cons pe_int (pa_cons pe_int pa_nil)))))) (pe_op op_mod (pe_ix ix_list (pv 0) pe_int (fun _ _ => rfl)) pe_int) (fun _ _ => rfl)))
      (pss_cons (ps_set (i := 4) scTake.nd rfl (.inl rfl) (pe_op op_mod (pe_op op_pow (pe_op op_add (pe_op op_add (pe_ix ix_list (pv 0) pe_int (fun _ _ => rfl))
        (pe_op op_mul (pe_op op_mul pe_int (pe_ix ix_list (pv 0) pe_int (fun _ _ => rfl))) (pe_ix ix_list (pv 0) pe_int (fun _ _ => rfl)))) pe_int) pe_int) (pv 3)))
      (pss_one (ps_ret (pe_op op_mod (pe_op op_fdiv (pe_op op_mod (pe_op op_mul (pv 4) (pe_op op_add (pe_op op_mod (pv 4) pe_int) (pe_op op_mul pe_int (pe_ix ix_list (pv 0) pe_int (fun _ _ => rfl))))) pe_int) pe_int) (pv 1))))))), ?_⟩
    have ix : ∀ {H1 : Hp} {σ : L2.St} {xs : List V} {j : Int} {v : V}, H1 p = some (.lst xs) → σ[0]? = some (some (.ref p)) → atI xs j = some v → Ev (tOp (rIxL K) (tVar 0) (tC (.int j))) σ H1 v :=
      fun h h0 ha => ev_op (ev_var h0) ev_c (rv_ixL (sq_of h) ha)
    refine q_when (et_test (ev_op (ix hp rfl rfl) ev_c rv_I0)) (fun hb H1 e1 => ?_) (fun hb H1 e1 => ?_)
    · refine q_asg (ev_op (ix (e1 _ _ hp) rfl rfl) (ev_var rfl) (rv_I (by show (0 : Int) < n; omega))) fun H2 e2 => ?_
      refine q_setL (j := 0) (e2 _ _ (e1 _ _ hp)) (ev_op (ix (e2 _ _ (e1 _ _ hp)) rfl rfl) (ev_var rfl) (rv_I ⟨by omega, by omega⟩)) (ev_var rfl) ev_c (by show 0 < 3; decide) fun H3 e3 => ?_
      refine s_ret (ev_var rfl) fun H4 e4 => ?_
      refine q (g % n) H4 (Int.emod_nonneg _ (by omega)) (Int.emod_lt_of_pos _ (by omega)) (((Xp.ex ((e1.trans e2).trans e3)).trans Xp.upd).trans (Xp.ex e4)) ?_
      exact ⟨g / n, s0, c, e4 _ _ upd_same, Int.ediv_nonneg hg (by omega), hs0, hs1, hc0, by omega⟩
    · refine q_setL (j := 2) (e1 _ _ hp) (ev_op (ix (e1 _ _ hp) rfl rfl) ev_c rv_I0) (ev_var rfl) ev_c (by show 2 < 3; decide) fun H2 e2 => ?_
      generalize hH3 : upd H2 p _ = H3
      have hp3 : H3 p = some (.lst [.int g, .int s0, .int (c + 1)]) := by rw [← hH3]; exact upd_same
      have x3 : Xp p H H3 := (Xp.ex (e1.trans e2)).trans (by rw [← hH3]; exact Xp.upd)
      obtain ⟨r, hr1, hr2, hr3⟩ := prime_at ((c + 1) % 5) (Int.emod_nonneg _ (by omega)) (Int.emod_lt_of_pos _ (by omega))
      refine q_asg (v := .int r) (ev_opL1 (el_lst (ea_cons ev_c (ea_cons ev_c (ea_cons ev_c (ea_cons ev_c (ea_cons ev_c ea_nil))))) (by decide)) (fun H4 e4 => ev_op (ix (e4 _ _ hp3) rfl rfl) ev_c (rv_I (by show (0 : Int) < 5; decide)))
        (fun l H4 hl e4 => rv_ixL (sq_of hl) hr1)) fun H4 e4 => ?_
      have hp4 := e4 _ _ hp3
      have b1 : (c + 1) * (c + 1) ≤ 200000 * 200000 := Int.mul_le_mul (by omega) (by omega) (by omega) (by omega)
      have b0 : 0 ≤ (c + 1) * (c + 1) := Int.mul_nonneg (by omega) (by omega)
      have b2 : 65537 * (c + 1) * (c + 1) = 65537 * ((c + 1) * (c + 1)) := Int.mul_assoc _ _ _
      generalize (c + 1) * (c + 1) = cc at b1 b0 b2
      refine q_asg (ev_op (ev_op (ev_op (ev_op (ix hp4 rfl rfl) (ev_op (ev_op ev_c (ix hp4 rfl rfl) (rv_I (.inl ⟨by decide, by decide⟩))) (ix hp4 rfl rfl) (rv_I (.inl ⟨by show -(2 ^ 64) < 65537 * (c + 1); omega, by show 65537 * (c + 1) < 2 ^ 64; omega⟩))) rv_I0) ev_c rv_I0) ev_c
        (rv_I ⟨by decide, by decide, by rw [b2]; omega⟩)) (ev_var rfl) (rv_I (by show (0 : Int) < r; exact hr2))) fun H5 e5 => ?_
      generalize hM : ((s0 + 65537 * (c + 1) * (c + 1) + 29) ^ (3 : Int).toNat % r : Int) = M
      have M0 : 0 ≤ M := by rw [← hM]; exact Int.emod_nonneg _ (by omega)
      have M1 : M < r := by rw [← hM]; exact Int.emod_lt_of_pos _ hr2
      refine s_ret (ev_op (ev_op (ev_op (ev_op (ev_var rfl) (ev_op (ev_op (ev_var rfl) ev_c (rv_I (by show (0 : Int) < 10007; decide))) (ev_op ev_c (ix (e5 _ _ hp4) rfl rfl) (rv_I (.inl ⟨by decide, by decide⟩))) rv_I0)
        (rv_I (.inl ⟨by show -(2 ^ 64) < M; omega, by show M < 2 ^ 64; omega⟩))) ev_c (rv_I (by show (0 : Int) < 2305843009213693907; decide))) ev_c (rv_I ⟨by decide, by decide⟩)) (ev_var rfl) (rv_I (by show (0 : Int) < n; omega))) fun H6 e6 => ?_
      exact q _ H6 (Int.emod_nonneg _ (by omega)) (Int.emod_lt_of_pos _ (by omega)) (x3.trans (Xp.ex ((e4.trans e5).trans e6))) ⟨g, s0, c + 1, e6 _ _ (e5 _ _ hp4), hg, hs0, hs1, by omega, by omega⟩
def absI (i : Int) : Int := if i < 0 then -i else i
theorem abs_nn (i : Int) : 0 ≤ absI i := by
  unfold absI
  split <;> omega
def rAbs : List V → Hp → VK → Prop := fun xs H Q => ∃ i, xs = [.int i] ∧ Q (.int (absI i)) H
theorem rc_abs {H : Hp} {i : Int} : RC rAbs [.int i] H (.int (absI i)) := fun H1 _ _ q => ⟨i, rfl, q H1 (Ex.refl _)⟩
theorem rc_lenL {H : Hp} {a : Addr} {xs : List V} (h : SqL K H a xs) : RC (rLenS K) [.ref a] H (.int (xs.length : Int)) := fun H1 e _ q => ⟨a, xs, rfl, .inl (ex_l e h), q H1 (Ex.refl _)⟩
def rInt1 : List V → Hp → VK → Prop := fun xs H Q => (∃ i, xs = [.int i] ∧ Q (.int i) H) ∨ ∃ k, xs = [.bl k] ∧ Q (.int (if k then 1 else 0)) H
theorem rc_intB {H : Hp} {b : Bool} : RC rInt1 [.bl b] H (.int (if b = true then 1 else 0)) := fun H1 _ _ q => .inr ⟨b, rfl, q H1 (Ex.refl _)⟩
/-- the pot of a cell -/
def spPot (K : PySem.W.Frag) : Sp := fun vs H Q _ => ∃ (a : Addr) (k : Nat) (ns : List Int), vs = [.ref a, .int (k : Int)] ∧ k ≤ 10 ∧ SqL K H a (ns.map V.int) ∧
  ∀ p H', H p = none → Ex H H' → Pot H' p 0 → Q (.ref p) H'
theorem ok_pot {f : Addr} {fd : FuncData} {k : Nat} (F : Fun K "_law_pot_of" "_law_pot_of" sPot f fd) (ml : mg "len" = none) (ma : mg "abs" = none) (mI : mg "int" = none) : FnOk P w K mg base CX0 (k + 1) f fd ["_law_script", "_law_k"] (spPot K) := by
  refine F.ok scPot (fun vs H Q E h => ?_) (fun cdv A outer s H vs Q E hr h => ?_)
  · obtain ⟨a, n, ns, rfl, _⟩ := h
    rfl
  · obtain ⟨a, n, ns, rfl, hn, hS, q⟩ := h
    refine ⟨_, pss_cons (ps_set (i := 2) scPot.nd rfl (.inl rfl) (pe_ifExp (pt_cmpR op_lt (pv 1) (pe_callB call_len_seq (by rfl) ml PySem.boot_len (pa_cons (pv 0) pa_nil)) (nomark _))
        (pe_ix ix_list (pv 0) (pv 1) (fun _ _ => rfl)) (pe_op op_add (pe_op op_mul pe_int (pv 1)) pe_int)))
      (pss_cons (ps_set (i := 3) scPot.nd rfl (.inl rfl) (pe_op op_mul (pe_op op_mod (pe_callB call_abs (by rfl) ma boot_abs (pa_cons (pv 2) pa_nil)) (pe_op op_powW (pe_op op_pow pe_int pe_int) pe_int))
        (pe_callTy call_int1 (by rfl) mI (by decide +kernel) (pa_cons (pe_cmpR op_ge (pe_callB call_abs (by rfl) ma boot_abs (pa_cons (pv 2) pa_nil)) (pe_op op_pow pe_int pe_int) (nomark _)) pa_nil))))
      (pss_one (ps_ret (pe_lst (pa_cons (pv 3) (pa_cons (pe_op op_mod (pe_op op_add (pe_op op_add (pe_op op_mul (pe_op op_mod (pv 2) pe_int) pe_int) (pe_op op_mul (pe_op op_mul pe_int (pv 1)) (pv 1))) pe_int) pe_int) (pa_cons pe_int pa_nil))))))), ?_⟩
    have hcell : ∃ c : Int, ((n : Int) < ((ns.map V.int).length : Int) → atI (ns.map V.int) (n : Int) = some (.int c)) ∧ (¬ (n : Int) < ((ns.map V.int).length : Int) → 31 * (n : Int) + 6 = c) := by
      by_cases hlt : n < ns.length
      · refine ⟨ns[n], fun _ => atI_nat ?_, fun z => absurd (by rw [List.length_map]; omega) z⟩
        rw [List.getElem?_map, List.getElem?_eq_getElem hlt]
        rfl
      · exact ⟨_, fun z => absurd z (by rw [List.length_map]; omega), fun _ => rfl⟩
    obtain ⟨c, hc1, hc2⟩ := hcell
    refine q_asg (v := .int c) (ev_if (et_test (ev_op (ev_var rfl) (ev_cb (ea_cons (ev_var rfl) ea_nil) (rc_lenL hS)) rv_I0)) (fun hb => ev_op (ev_var rfl) (ev_var rfl) (rv_ixL hS (hc1 (of_decide_eq_true hb))))
      (fun hb => ev_is (ev_op (ev_op ev_c (ev_var rfl) (rv_I (.inl ⟨by decide, by decide⟩))) ev_c rv_I0) (by rw [hc2 (of_decide_eq_false hb)]))) fun H1 e1 => ?_
    obtain ⟨g, hg0, hge⟩ : ∃ g : Int, 0 ≤ g ∧ absI c % (10 ^ (60 : Int).toNat) ^ (5 : Int).toNat * (if decide (absI c ≥ 10 ^ (18 : Int).toNat) = true then 1 else 0) = g := by
      refine ⟨_, Int.mul_nonneg (Int.emod_nonneg _ (by decide)) ?_, rfl⟩
      split <;> decide
    refine q_asg (v := .int g) (ev_is (ev_op (ev_op (ev_cb (ea_cons (ev_var rfl) ea_nil) rc_abs) (ev_op (ev_op ev_c ev_c (rv_I ⟨by decide, by decide, by decide⟩)) ev_c (rv_I (show CPowW _ _ from ⟨by decide, by decide +kernel⟩))) (rv_I (by decide)))
      (ev_cb (ea_cons (ev_op (ev_cb (ea_cons (ev_var rfl) ea_nil) rc_abs) (ev_op ev_c ev_c (rv_I ⟨by decide, by decide, by decide⟩)) rv_I0) ea_nil) (rc_intB)) (rv_I (.inr (by split <;> decide)))) (by rw [hge])) fun H2 e2 => ?_
    have m0 := Int.emod_nonneg c (show (2305843009213693951 : Int) ≠ 0 by decide)
    have m1 := Int.emod_lt_of_pos c (show (0 : Int) < 2305843009213693951 by decide)
    refine s_retL (el_lst (ea_cons (ev_var rfl) (ea_cons (ev_op (ev_op (ev_op (ev_op (ev_op (ev_var rfl) ev_c (rv_I (by show (0 : Int) < 2305843009213693951; decide))) ev_c (rv_I (.inl ⟨by omega, by omega⟩)))
      (ev_op (ev_op ev_c (ev_var rfl) (rv_I (.inl ⟨by decide, by decide⟩))) (ev_var rfl) (rv_I (.inr ⟨by omega, by omega⟩))) rv_I0) ev_c rv_I0) ev_c (rv_I (by show (0 : Int) < 2305843009213693921; decide))) (ea_cons ev_c ea_nil))) (by show 3 ≤ 100000; decide)) fun p H3 hp e3 h3 => ?_
    refine q p H3 (fresh_back (e1.trans e2) hp) ((e1.trans e2).trans e3) ⟨g, _, 0, h3, hg0, Int.emod_nonneg _ (by decide), ?_, by decide, by decide⟩
    refine Int.lt_trans (Int.emod_lt_of_pos _ (by decide)) (by decide)
def spPickL : Sp := fun vs H Q _ => ∃ (p a : Addr) (m : Int) (xs : List V), vs = [.ref p, .ref a] ∧ m ≤ 100000 ∧ Pot H p m ∧ a ≠ p ∧ H a = some (.lst xs) ∧ 1 ≤ xs.length ∧ xs.length ≤ 1000 ∧
  ∀ v H', v ∈ xs → Xp p H H' → Pot H' p (m + 1) → Q v H'
theorem ok_pickL {f fT : Addr} {fd fdT : FuncData} {k : Nat} (F : Fun K "_law_of" "_law_of" sPick f fd) (FT : Fun K "_law_take" "_law_take" sTake fT fdT) (bT : Binds K fdT ["_law_pot", "_law_upto"] []) (gT : mg "_law_take" = some (.ref fT)) (ml : mg "len" = none) :
    FnOk P w K mg base CX0 (k + 2) f fd ["_law_pot", "_law_some"] spPickL := by
  refine F.ok scPick (fun vs H Q E h => ?_) (fun cdv A outer s H vs Q E hr h => ?_)
  · obtain ⟨p, a, m, xs, rfl, _⟩ := h
    rfl
  · obtain ⟨p, a, m, xs, rfl, hm, hP, hne, ha, h1, h2, q⟩ := h
    refine ⟨_, pss_one (ps_ret (pe_ix ix_list (pv 1) (pe_call (ok_take FT) hr (by rfl) gT FT.kp bT .nil pass0 (pa_cons (pv 0) (pa_cons (pe_callB call_len_seq (by rfl) ml PySem.boot_len (pa_cons (pv 1) pa_nil)) pa_nil))) (fun _ _ => rfl))), ?_⟩
    refine ⟨_, rfl, _, rfl, _, rfl, a, xs, rfl, .inl (sq_of ha), p, _, m, rfl, by omega, by omega, hm, hP, fun r H' h0 h3 x pp => ?_⟩
    have hc : r.toNat < xs.length := by omega
    refine ⟨a, xs, r, xs[r.toNat], rfl, rfl, sq_of (x a _ hne ha), ?_, q _ H' (List.getElem_mem hc) x pp⟩
    have := atI_nat (xs := xs) (j := r.toNat) (v := xs[r.toNat]) (List.getElem?_eq_getElem hc)
    rw [Int.toNat_of_nonneg h0] at this
    exact this
end
end K16
namespace K16
open PySem PySem.Spec PyProof.Rows L2 Evl Es
theorem scOdd : FnScope ["_law_pot", "_law_some", "_law_value", "_law_turn"] ["_law_pot"] (defScope sOdd) := ⟨rfl, rfl, rfl, by decide +kernel, rfl, by decide +kernel, by decide +kernel⟩
def spOdd : Sp := fun vs H Q _ => ∃ (p : Addr) (c : Int), vs = [.ref p] ∧ 0 ≤ c ∧ c + 10 ≤ 90000 ∧ Pot H p c ∧ ∀ v d H', Xp p H H' → Pot H' p (c + 10) → Dd p H' v d → Fit 60 d → Q v H'
section
variable {P : Program} {w : World} {K : PySem.W.Frag} {mg : Str → Option Value} {base : Heap}
theorem fs {p : Addr} {σ : L2.St} {H : Hp} {n : Nat} (z : Str) (h : (z.cps.toList.all fun c => decide (c < 16 ^ 8)) = true := by decide +kernel) (hl : z.length ≤ n := by decide +kernel) : EvP p 0 (tC (.str z)) σ H (Fit n) := evp_str (fit_str h hl)
theorem ok_odd {f fT fP : Addr} {fd fdT fdP : FuncData} {k : Nat} (F : Fun K "_law_odd" "_law_odd" sOdd f fd) (FT : Fun K "_law_take" "_law_take" sTake fT fdT) (bT : Binds K fdT ["_law_pot", "_law_upto"] []) (gT : mg "_law_take" = some (.ref fT))
    (FP : Fun K "_law_of" "_law_of" sPick fP fdP) (bP : Binds K fdP ["_law_pot", "_law_some"] []) (gP : mg "_law_of" = some (.ref fP)) (ml : mg "len" = none) (mr : mg "range" = none) : FnOk P w K mg base CX0 (k + 3) f fd ["_law_pot"] spOdd := by
  have G1 : FnOk P w K mg base CX0 (k + 2) fT fdT ["_law_pot", "_law_upto"] spTake := ok_take FT
  have G3 : FnOk P w K mg base CX0 (k + 2) fP fdP ["_law_pot", "_law_some"] spPickL := ok_pickL FP FT bT gT ml
  refine F.ok scOdd (fun vs H Q E h => ?_) (fun cdv A outer s H vs Q E hr h => ?_)
  · obtain ⟨p, c, rfl, _⟩ := h
    rfl
  · obtain ⟨p, c, rfl, hc0, hc1, hP, q⟩ := h
    refine ⟨_, pss_cons (ps_set (i := 1) scOdd.nd rfl (.inl rfl) (pe_lst (pa_cons pe_str (pa_cons pe_str (pa_cons pe_str (pa_cons pe_str (pa_cons pe_str (pa_cons pe_str (pa_cons pe_str (pa_cons pe_int (pa_cons pe_int (pa_cons pe_bl (pa_cons pe_non
        (pa_cons (pe_tup pa_nil) (pa_cons (pe_lst1 pa_nil) (pa_cons pe_dnewK (pa_cons (pe_tup (pa_cons pe_str pa_nil)) (pa_cons (pe_lst1 (pa_cons pe_str pa_nil)) (pa_cons (pe_tup (pa_cons pe_str (pa_cons pe_str pa_nil))) (pa_cons (pe_un un_neg pe_int) pa_nil))))))))))))))))))))
      (pss_cons (ps_set (i := 2) scOdd.nd rfl (.inl rfl) (pe_call G3 hr (by rfl) gP FP.kp bP .nil pass0 (pa_cons (pv 0) (pa_cons (pv 1) pa_nil))))
      (pss_cons (ps_for PassesOwn.never rfl (pi_range1 (by rfl) mr (pa_cons (pe_call G1 hr (by rfl) gT FT.kp bT .nil pass0 (pa_cons (pv 0) (pa_cons pe_int pa_nil))) pa_nil)) (pg_name (i := 3) scOdd.nd rfl (.inl rfl))
        (pss_one (ps_set (i := 2) scOdd.nd rfl (.inl rfl) (pe_ix ix_list (pe_lst (pa_cons (pe_tup (pa_cons (pv 2) pa_nil)) (pa_cons (pe_lst1 (pa_cons (pv 2) pa_nil))
          (pa_cons (pe_disp (pps_cons pe_str (pv 2) pps_nil) (by rfl) (by rfl) (fun z => by cases z) (by decide)) (pa_cons (pe_tup (pa_cons pe_str (pa_cons (pv 2) pa_nil))) pa_nil)))))
          (pe_call G1 hr (by rfl) gT FT.kp bT .nil pass0 (pa_cons (pv 0) (pa_cons pe_int pa_nil))) (fun _ _ => rfl)))))
      (pss_one (ps_ret (pv 2))))), ?_⟩
    -- the list
    have hsome := evl_lst (p := p) (σ := L2.start ["_law_pot", "_law_some", "_law_value", "_law_turn"] [.ref p]) (H := H) (N := 18) (L := AllFit 12)
      (evpan (fs "A") (evpan (fs "") (evpan (fs "abcdefghi") (evpan (fs "a1") (evpan (fs "^^") (evpan (fs "$a") (evpan (fs " a") (evpan (evp_int (z := 0) ((fit_int (i := 0) (by decide) (by decide +kernel)).more (by decide))) (evpan (evp_int (z := 1) ((fit_int (i := 1) (by decide) (by decide +kernel)).more (by decide)))
      (evpan (evp_bl ((fit_bl true).more (by decide))) (evpan (evp_non (fit_non.more (by decide))) (evpan (evp_tup' (evpa_nil Fits.nil) (by decide) (by decide)) (evpan (evp_imp (evp_lst1 (evpa_nil Fits.nil) (by decide)) fun d h => h.more (by decide)) (evpan (evp_imp evp_dk0 fun d h => h.more (by decide))
      (evpan (evp_tup' (evpa_t (fs (n := 1) "a") (evpa_nil Fits.nil) (by decide)) (by decide) (by decide)) (evpan (evp_imp (evp_lst1 (evpa_t (fs (n := 1) "a") (evpa_nil Fits.nil) (by decide)) (by decide)) fun d h => h.more (by decide))
      (evpan (evp_tup' (evpa_t (fs (n := 1) "^") (evpa_t (fs (n := 1) "$") (evpa_nil Fits.nil) (by decide)) (by decide)) (by decide) (by decide)) (evpan (evp_neg (i := 7) ((fit_int (i := -7) (by decide) (by decide +kernel)).more (by decide))) evpan_nil (by decide)) (by decide)) (by decide)) (by decide)) (by decide)) (by decide)) (by decide)) (by decide)) (by decide)) (by decide)) (by decide)) (by decide)) (by decide)) (by decide)) (by decide)) (by decide)) (by decide)) (by decide)) (by decide)
    refine qp_asg (hsome H c (Xp.refl _ _) hP hc0 (by omega) _ fun l vs ds H1 x1 P1 nl hl hds hL => ?_)
    have hlen := hds.length
    have hL2 := hL.2
    -- one of them
    refine ⟨.ref p, rfl, .ref l, rfl, p, l, c + 0, vs, rfl, by omega, P1, nl, hl, by omega, by omega, fun v H2 hv x2 P2 => ?_⟩
    obtain ⟨d, hdm, hvd⟩ := hds.mem hv
    -- wrapped
    refine ⟨.ref p, rfl, p, 3, c + 0 + 1, rfl, by decide, by decide, by omega, P2, fun r H3 r0 r1 x3 P3 => ?_⟩
    refine ⟨r, rfl, by omega, by omega, for_range (lo := 0) (n := r.toNat) (fun i σ H' => Xp p H H' ∧ Pot H' p (c + 2 + i) ∧ ∃ v d y, Dd p H' v d ∧ Fit (12 + 13 * i) d ∧ σ = [some (.ref p), some (.ref l), some v, y]) ?_ ?_ ?_⟩
    · exact ⟨(x1.trans x2).trans x3, P3.more (by omega), v, d, none, (hvd.xp x2).xp x3, hL.1 d hdm, rfl⟩
    · rintro i σ H' hi ⟨xi, Pi, u, e, y, hu, hf, rfl⟩
      have hch := evl_lst (p := p) (σ := [some (.ref p), some (.ref l), some u, some (.int (0 + (i : Int)))]) (H := H') (N := 4) (L := AllFit (12 + 13 * (i + 1)))
        (evpan (evp_imp (evp_tup (evpa_t (evp_var (i := 2) rfl hu hf) (evpa_nil Fits.nil) (by decide)) (by omega)) fun d h => h.fit.more (by omega))
        (evpan (evp_imp (evp_lst1 (evpa_t (evp_var (i := 2) rfl hu hf) (evpa_nil Fits.nil) (by decide)) (by omega)) fun d h => h.more (by omega))
        (evpan (evp_imp (evp_dk1 (z := "a") (i := 2) rfl hu hf (by decide +kernel) (by decide)) fun d h => h.more (by omega))
        (evpan (evp_imp (evp_tup (evpa_t (fs (n := 1) "a") (evpa_t (evp_var (i := 2) rfl hu hf) (evpa_nil Fits.nil) (by decide)) (by decide)) (by omega)) fun d h => h.fit.more (by omega)) evpan_nil (by decide)) (by decide)) (by decide)) (by decide)) (by decide)
      refine sp_asg (op_of (hch H' (c + 2 + i) (Xp.refl _ _) Pi (by omega) (by omega) _ fun m ws es H4 x4 P4 nm hm hws hM => ?_))
      have hwl := hws.length
      have hM2 := hM.2
      refine ⟨.ref p, rfl, p, 4, c + 2 + i + 0, rfl, by decide, by decide, by omega, P4, fun r2 H5 s0 s1 x5 P5 => ?_⟩
      have hlt : r2.toNat < ws.length := by omega
      obtain ⟨e2, he2, hd2⟩ := hws.mem (List.getElem_mem hlt)
      refine ⟨m, ws, r2, ws[r2.toNat], rfl, rfl, sq_of (x5 _ _ nm hm), ?_, ?_⟩
      · have := atI_nat (xs := ws) (j := r2.toNat) (v := ws[r2.toNat]) (List.getElem?_eq_getElem hlt)
        rw [Int.toNat_of_nonneg s0] at this
        exact this
      · exact ⟨(xi.trans x4).trans x5, P5.more (by omega), ws[r2.toNat], e2, _, hd2.xp x5, hM.1 e2 he2, rfl⟩
    · rintro σ H' ⟨xi, Pi, u, e, y, hu, hf, rfl⟩
      exact ⟨u, rfl, q u e H' xi (Pi.more (by omega)) hu (hf.more (by omega))⟩
end
end K16
namespace K16
open PySem PySem.Spec PyProof.Rows L2 Evl Es
abbrev nRight : List Str := ["_law_pot", "_law_some", "_law_row", "_law_at", "_law_mark", "_law_values", "_law_value", "_law_kept", "_law_turn"]
theorem scRight : FnScope nRight ["_law_pot"] (defScope sRight) := ⟨rfl, rfl, rfl, by decide +kernel, rfl, by decide +kernel, by decide +kernel⟩
abbrev nLaw : List Str := ["_law_script", "_law_k", "_law_pot", "_law_turn"]
theorem scLaw : FnScope nLaw ["_law_script"] (defScope sLaw) := ⟨rfl, rfl, rfl, by decide +kernel, rfl, by decide +kernel, by decide +kernel⟩
/-- what stands at the top -/
structure Top (K : PySem.W.Frag) (mg : Str → Option Value) (fTok fText fWin fHs fHe fBs fToks fPot fTake fPick fLTok fLWin fOdd fRight : Addr) (dTok dText dWin dHs dHe dBs dToks dPot dTake dPick dLTok dLWin dOdd dRight : FuncData) : Prop where
  Tok : Fun K "is_token" "is_token" sTok fTok dTok
  Text : Fun K "is_text" "is_text" sText fText dText
  Win : Fun K "is_window" "is_window" sWin fWin dWin
  Hs : Fun K "has_start" "has_start" sHs fHs dHs
  He : Fun K "has_end" "has_end" sHe fHe dHe
  Bs : Fun K "behind_start" "behind_start" sBs fBs dBs
  Toks : Fun K "tokens_of" "tokens_of" sToks fToks dToks
  Pot : Fun K "_law_pot_of" "_law_pot_of" sPot fPot dPot
  Take : Fun K "_law_take" "_law_take" sTake fTake dTake
  Pick : Fun K "_law_of" "_law_of" sPick fPick dPick
  LTok : Fun K "_law_token" "_law_token" sLTok fLTok dLTok
  LWin : Fun K "_law_is_window" "_law_is_window" sLWin fLWin dLWin
  Odd : Fun K "_law_odd" "_law_odd" sOdd fOdd dOdd
  Right : Fun K "_law_right" "_law_right" sRight fRight dRight
  gTok : mg "is_token" = some (.ref fTok)
  gText : mg "is_text" = some (.ref fText)
  gWin : mg "is_window" = some (.ref fWin)
  gHs : mg "has_start" = some (.ref fHs)
  gHe : mg "has_end" = some (.ref fHe)
  gBs : mg "behind_start" = some (.ref fBs)
  gToks : mg "tokens_of" = some (.ref fToks)
  gPot : mg "_law_pot_of" = some (.ref fPot)
  gTake : mg "_law_take" = some (.ref fTake)
  gPick : mg "_law_of" = some (.ref fPick)
  gLTok : mg "_law_token" = some (.ref fLTok)
  gLWin : mg "_law_is_window" = some (.ref fLWin)
  gOdd : mg "_law_odd" = some (.ref fOdd)
  gRight : mg "_law_right" = some (.ref fRight)
  L : ∃ t, mg "LETTERS" = some (.str abc t)
  M : ∃ t, mg "MOST_LETTERS" = some (.int 8 t)
  S : ∃ t, mg "START" = some (.str "^" t)
  E : ∃ t, mg "END" = some (.str "$" t)
  isi : mg "isinstance" = none
  str : mg "str" = none
  len : mg "len" = none
  all : mg "all" = none
  abs : mg "abs" = none
  range : mg "range" = none
  max : mg "max" = none
  min : mg "min" = none
  repr : mg "repr" = none
  tuple : mg "tuple" = none
  list : mg "list" = none
  int : mg "int" = none
  enumerate : mg "enumerate" = none
section
variable {P : Program} {w : World} {K : PySem.W.Frag} {mg : Str → Option Value} {base : Heap} {fTok fText fWin fHs fHe fBs fToks fPot fTake fPick fLTok fLWin fOdd fRight : Addr} {dTok dText dWin dHs dHe dBs dToks dPot dTake dPick dLTok dLWin dOdd dRight : FuncData}
def spRight : Sp := fun vs H Q _ => ∃ (p : Addr) (c : Int), vs = [.ref p] ∧ 0 ≤ c ∧ c + 100 ≤ 90000 ∧ Pot H p c ∧ ∀ H', Xp p H H' → Pot H' p (c + 100) → Q (.bl true) H'
def some7 : List Str := ["a", "b", "abcdefgh", "z", "x", "^", "$"]
theorem five (v : V) (h : v ∈ cutV (some7.map V.str) none (some 5)) : ∃ z : Str, v = .str z ∧ (z.cps.toList.all fun c => decide (c < 16 ^ 8)) = true ∧ z.length ≤ 8 := by
  have e : cutV (some7.map V.str) none (some 5) = (["a", "b", "abcdefgh", "z", "x"] : List Str).map V.str := by decide +kernel
  rw [e] at h
  obtain ⟨z, hz, rfl⟩ := List.mem_map.mp h
  exact ⟨z, rfl, (by decide +kernel : ∀ z ∈ (["a", "b", "abcdefgh", "z", "x"] : List Str), (z.cps.toList.all fun c => decide (c < 16 ^ 8)) = true ∧ z.length ≤ 8) z hz⟩
theorem room200 {k : Nat} {A : Around} (r : Room k A) : A.units + 200 < cLine := by
  have := r.un
  omega
theorem dd_strs {p : Addr} {H : Hp} : ∀ zs : List Str, DdAll p H (zs.map V.str) (zs.map PyData.str)
  | [] => .nil
  | z :: r => .cons (.str z) (dd_strs r)
theorem fits_strs : ∀ zs : List Str, (∀ z ∈ zs, (z.cps.toList.all fun c => decide (c < 16 ^ 8)) = true ∧ z.length ≤ 8) → Fits (9 * zs.length) (zs.map PyData.str)
  | [], _ => Fits.nil
  | z :: r, h => by
    have a := h z (List.mem_cons_self ..)
    have := Fits.cons (fit_str a.1 a.2) (fits_strs r fun y hy => h y (List.mem_cons_of_mem _ hy))
    refine this.more ?_
    show 8 + 1 + 9 * r.length ≤ 9 * (r.length + 1)
    omega
theorem winV {p : Addr} {H : Hp} {v : V} {d : PyData} (h : Dd p H v d) (f : Fit 800 d) : SpV spWin [v] H (.bl (winD d)) := fun H1 e Q q E => ⟨p, v, d, rfl, h.up e, f, fun H2 e2 => q H2 e2⟩
theorem rc_reprX {p : Addr} {H : Hp} {v : V} {d : PyData} (h : Dd p H v d) (f : Fit 190 d) : RC rReprX [v] H (.str d.shown) := fun H1 e _ q => ⟨v, d, p, rfl, h.up e, f, q H1 (Ex.refl _)⟩
theorem ok_right (T : Top K mg fTok fText fWin fHs fHe fBs fToks fPot fTake fPick fLTok fLWin fOdd fRight dTok dText dWin dHs dHe dBs dToks dPot dTake dPick dLTok dLWin dOdd dRight) : GnOk P w K mg base 6 fRight dRight ["_law_pot"] spRight := by
  obtain ⟨tL, mL⟩ := T.L
  obtain ⟨tM, mM⟩ := T.M
  obtain ⟨tS, mS⟩ := T.S
  obtain ⟨tE, mE⟩ := T.E
  have b1 : Binds K dTok ["value"] [] := T.Tok.binds fun _ _ _ _ _ _ us hl => match us, hl with | [_], _ => rfl
  have b2 : Binds K dText ["value"] [] := T.Text.binds fun _ _ _ _ _ _ us hl => match us, hl with | [_], _ => rfl
  have b3 : Binds K dWin ["value"] [] := T.Win.binds fun _ _ _ _ _ _ us hl => match us, hl with | [_], _ => rfl
  have b4 : Binds K dHs ["window"] [] := T.Hs.binds fun _ _ _ _ _ _ us hl => match us, hl with | [_], _ => rfl
  have b5 : Binds K dHe ["window"] [] := T.He.binds fun _ _ _ _ _ _ us hl => match us, hl with | [_], _ => rfl
  have b6b : Binds K dBs ["window"] [] := T.Bs.binds fun _ _ _ _ _ _ us hl => match us, hl with | [_], _ => rfl
  have b6 : Binds K dToks ["window"] [] := T.Toks.binds fun _ _ _ _ _ _ us hl => match us, hl with | [_], _ => rfl
  have b7 : Binds K dTake ["_law_pot", "_law_upto"] [] := T.Take.binds fun _ _ _ _ _ _ us hl => match us, hl with | [_, _], _ => rfl
  have b8 : Binds K dPick ["_law_pot", "_law_some"] [] := T.Pick.binds fun _ _ _ _ _ _ us hl => match us, hl with | [_, _], _ => rfl
  have b9 : Binds K dLTok ["_law_value"] [] := T.LTok.binds fun _ _ _ _ _ _ us hl => match us, hl with | [_], _ => rfl
  have b10 : Binds K dLWin ["_law_value"] [] := T.LWin.binds fun _ _ _ _ _ _ us hl => match us, hl with | [_], _ => rfl
  have b11 : Binds K dOdd ["_law_pot"] [] := T.Odd.binds fun _ _ _ _ _ _ us hl => match us, hl with | [_], _ => rfl
  have G1 : FnOk P w K mg base CX0 1 fTok dTok ["value"] spTok := ok_tok T.Tok T.isi T.str T.len T.all mL mM
  have G2 : FnOk P w K mg base CX0 2 fText dText ["value"] (spTupB fun ds => ds.all tokD) := ok_text T.Text T.Tok.kp G1 b1 T.gTok T.isi T.tuple T.all
  have G4 : FnOk P w K mg base CX0 1 fHs dHs ["window"] (spTupB hsD) := ok_hs T.Hs mS
  have G5 : FnOk P w K mg base CX0 1 fHe dHe ["window"] (spTupB heD) := ok_he T.He mE
  have G6b : FnOk P w K mg base CX0 2 fBs dBs ["window"] spIn := ok_bs T.Bs G4 b4 T.gHs T.Hs.kp
  have G6 : FnOk P w K mg base CX0 3 fToks dToks ["window"] spToks := ok_toks T.Toks G6b b6b T.gBs T.Bs.kp (G5.mono (by decide)) b5 T.gHe T.He.kp
  have G3 : FnOk P w K mg base CX0 5 fWin dWin ["value"] spWin := (ok_win T.Win (G2.mono (by decide)) b2 T.gText T.Text.kp G6 b6 T.gToks T.Toks.kp T.isi T.tuple).mono (by decide)
  have G7 : FnOk P w K mg base CX0 5 fTake dTake ["_law_pot", "_law_upto"] spTake := ok_take T.Take
  have G8 : FnOk P w K mg base CX0 5 fPick dPick ["_law_pot", "_law_some"] spPickL := ok_pickL T.Pick T.Take b7 T.gTake T.len
  have G9 : FnOk P w K mg base CX0 1 fLTok dLTok ["_law_value"] spTok := ok_ltok T.LTok T.isi T.str T.len T.all
  have G10 : FnOk P w K mg base CX0 5 fLWin dLWin ["_law_value"] spWin := (ok_lwin T.LWin G9 b9 T.gLTok T.LTok.kp T.isi T.tuple T.str T.enumerate T.len).mono (by decide)
  have G11 : FnOk P w K mg base CX0 5 fOdd dOdd ["_law_pot"] spOdd := ok_odd T.Odd T.Take b7 T.gTake T.Pick b8 T.gPick T.len T.range
  refine gn_of (N := nRight) T.Right scRight (fun vs H Q E h => ?_) (fun cd A out s H vs Q E hg hr h => ?_)
  · obtain ⟨p, c, rfl, _⟩ := h
    rfl
  · obtain ⟨p, c, rfl, hc0, hc1, hP, q⟩ := h
    refine ⟨_, pss_cons (ps_set (i := 1) scRight.nd rfl (.inr rfl) (pe_lst (pa_cons pe_str (pa_cons pe_str (pa_cons pe_str (pa_cons pe_str (pa_cons pe_str (pa_cons pe_str (pa_cons pe_str pa_nil)))))))))
      (pss_cons (ps_set (i := 2) scRight.nd rfl (.inl rfl) (pe_callTy call_tuple_of (by rfl) T.tuple (by decide +kernel) (pa_cons (pe_lc (own := [("_law_turn", 8)]) (g := gName 8) (tt := tYes) rfl scRight.nd
          (pi_range1 (by rfl) T.range (pa_cons (pe_call G7 hr (by rfl) T.gTake T.Take.kp b7 .nil pass0 (pa_cons (pv 0) (pa_cons pe_int pa_nil))) pa_nil))
          (blkOk_by (N := nRight) (sc := defScope sRight) (own := [("_law_turn", 8)]) (by decide +kernel)) (fun _ _ _ _ _ => pg_name (i := 8) scRight.nd rfl (Or.inl rfl)) (fun _ _ _ _ _ => pts_nil)
          (fun _ _ _ _ _ => pe_call G8 hr (by rfl) T.gPick T.Pick.kp b8 .nil pass0 (pa_cons (pv 0) (pa_cons (pe_slice (r := rSlL K) sl_list (pv 1) po_none (po_some pe_int)) pa_nil)))) pa_nil)))
      (pss_cons (ps_par rfl scRight.nd rfl rfl (by decide) rfl rfl (i := 3) (j := 4) (pa_cons (pe_call G7 hr (by rfl) T.gTake T.Take.kp b7 .nil pass0 (pa_cons (pv 0) (pa_cons (pe_op op_add (pe_callB call_len_seq (by rfl) T.len PySem.boot_len (pa_cons (pv 2) pa_nil)) pe_int) pa_nil)))
          (pa_cons (pe_call G8 hr (by rfl) T.gPick T.Pick.kp b8 .nil pass0 (pa_cons (pv 0) (pa_cons (pe_lst (pa_cons pe_str (pa_cons pe_str (pa_cons pe_str (pa_cons pe_str (pa_cons (pe_call G11 hr (by rfl) T.gOdd T.Odd.kp b11 .nil pass0 (pa_cons (pv 0) pa_nil)) pa_nil)))))) pa_nil))) pa_nil)) (by rfl))
      (pss_cons (ps_set (i := 5) scRight.nd rfl (.inl rfl) (pe_lst (pa_cons (pv 2) (pa_cons (pe_op op_catA (pe_tup (pa_cons pe_str pa_nil)) (pv 2)) (pa_cons (pe_op op_catA (pv 2) (pe_tup (pa_cons pe_str pa_nil)))
          (pa_cons (pe_op op_catA (pe_op op_catA (pe_tup (pa_cons pe_str pa_nil)) (pv 2)) (pe_tup (pa_cons pe_str pa_nil))) (pa_cons (pe_tup (pa_cons pe_str (pa_cons pe_str pa_nil))) (pa_cons (pe_tup (pa_cons pe_str (pa_cons pe_str pa_nil)))
          (pa_cons (pe_tup (pa_cons pe_str pa_nil)) (pa_cons (pe_tup (pa_cons pe_str pa_nil)) (pa_cons (pe_tup pa_nil) pa_nil)))))))))))
      (pss_cons (ps_set (i := 5) scRight.nd rfl (.inl rfl) (pe_op op_cat (pv 5) (pe_lst (pa_cons (pe_op op_catA (pe_op op_catA (pe_slice sl_tupA (pv 2) po_none (po_some (pv 3))) (pe_tup (pa_cons (pv 4) pa_nil))) (pe_slice sl_tupA (pv 2) (po_some (pv 3)) po_none))
          (pa_cons (pe_op op_catA (pe_op op_catA (pe_op op_catA (pe_op op_catA (pe_tup (pa_cons pe_str pa_nil)) (pe_slice sl_tupA (pv 2) po_none (po_some (pv 3)))) (pe_tup (pa_cons (pv 4) pa_nil))) (pe_slice sl_tupA (pv 2) (po_some (pv 3)) po_none)) (pe_tup (pa_cons pe_str pa_nil)))
          (pa_cons (pe_callTy cr_listT1 (by rfl) T.list (by decide +kernel) (pa_cons (pv 2) pa_nil)) pa_nil))))))
      (pss_cons (ps_set (i := 5) scRight.nd rfl (.inl rfl) (pe_op op_cat (pv 5) (pe_lst (pa_cons (pe_call G11 hr (by rfl) T.gOdd T.Odd.kp b11 .nil pass0 (pa_cons (pv 0) pa_nil))
          (pa_cons (pe_op op_catA (pv 2) (pe_tup (pa_cons (pe_call G11 hr (by rfl) T.gOdd T.Odd.kp b11 .nil pass0 (pa_cons (pv 0) pa_nil)) pa_nil))) (pa_cons (pe_tup (pa_cons (pv 2) pa_nil)) (pa_cons pe_str
          (pa_cons (pe_op op_catA (pe_tup (pa_cons pe_str (pa_cons pe_str pa_nil))) (pv 2)) (pa_cons (pe_op op_catA (pv 2) (pe_tup (pa_cons pe_str (pa_cons pe_str pa_nil)))) (pa_cons pe_str (pa_cons pe_str pa_nil)))))))))))
      (pss_cons (ps_for PassesOwn.never rfl (pi_list (pv 5)) (pg_name (i := 6) scRight.nd rfl (.inl rfl))
        (pss_cons (ps_set (i := 7) scRight.nd rfl (.inl rfl) (pe_callB (cr_reprX hg (room200 hr)) (by rfl) T.repr boot_repr (pa_cons (pv 6) pa_nil)))
        (pss_one (ps_if (PW.pt (pw_or (pt_cmpR op_ne (pe_callB cr_reprB (by rfl) T.repr boot_repr (pa_cons (pe_call G3 hr (by rfl) T.gWin T.Win.kp b3 .nil pass0 (pa_cons (pv 6) pa_nil)) pa_nil))
            (pe_callB cr_reprB (by rfl) T.repr boot_repr (pa_cons (pe_call G10 hr (by rfl) T.gLWin T.LWin.kp b10 .nil pass0 (pa_cons (pv 6) pa_nil)) pa_nil)) (nomark _))
            (pw_or1 (pt_cmpR op_ne (pe_callB (cr_reprX hg (room200 hr)) (by rfl) T.repr boot_repr (pa_cons (pv 6) pa_nil)) (pv 7) (nomark _))))) (pss_one (ps_ret pe_bl)) pss_nil))))
      (pss_one (ps_ret pe_bl)))))))), ?_⟩
    -- the tokens to draw from
    refine ⟨sz_of (by decide), fun l nl => ?_⟩
    have e0 := Ex.new (o := .lst (some7.map V.str)) nl
    have hl0 : upd H l (.lst (some7.map V.str)) l = some (.lst (some7.map V.str)) := upd_same
    have P0 := hP.up e0
    have nlp : l ≠ p := hP.ne nl
    generalize hH0 : upd H l (HO.lst (some7.map V.str)) = H0 at e0 hl0 P0
    -- the row
    refine ⟨.ref p, rfl, p, 6, c, rfl, by decide, by decide, by omega, by rw [← hH0] at P0; exact P0, fun n H1 n0 n1 x1 P1 => ?_⟩
    refine ⟨n, rfl, by omega, by omega, fun D nD => ?_⟩
    have x1' : Xp p H0 H1 := by rw [← hH0]; exact x1
    have nDp : D ≠ p := P1.ne nD
    refine lc_range (lo := 0) (n := n.toNat) (g := gName 8) (tt := tYes) (vs := [8]) (fun i H' => Xp p H1 H' ∧ Pot H' p (c + 1 + i) ∧ ∃ zs : List Str, H' D = some (.lst (zs.map V.str)) ∧ zs.length = i ∧ ∀ z ∈ zs, (z.cps.toList.all fun c => decide (c < 16 ^ 8)) = true ∧ z.length ≤ 8) ?_ ?_ ?_
    · exact ⟨(Xp.refl _ _).mut nD, (P1.up (Ex.new nD)).more (by omega), [], upd_same, rfl, fun _ z => nomatch z⟩
    · rintro i H' hi ⟨xi, Pi, zs, hD, hzl, hz⟩
      have hl' := xi _ _ nlp (x1' _ _ nlp hl0)
      refine ⟨rfl, .ref p, rfl, .ref l, rfl, 5, rfl, l, some7.map V.str, rfl, sq_of hl', fun s ns => ?_⟩
      have es := Ex.new (o := .lst (cutV (some7.map V.str) none (some 5))) ns
      refine ⟨p, s, c + 1 + i, _, rfl, by omega, Pi.up es, Pi.ne ns, upd_same, by decide +kernel, by decide +kernel, fun v H3 hv x3 P3 => ?_⟩
      obtain ⟨z, rfl, hz1, hz2⟩ := five v hv
      refine ⟨_, x3 _ _ nDp (es _ _ hD), ?_, ((xi.trans (Xp.ex es)).trans x3).mut nD, ?_, zs ++ [z], ?_, ?_, ?_⟩
      · rw [List.length_map]
        exact sz_lt (by omega)
      · obtain ⟨g, s0', c0', hh, q1, q2, q3, q4, q5⟩ := P3
        refine ⟨g, s0', c0', ?_, q1, q2, q3, q4, by omega⟩
        rw [upd_ne nDp.symm]
        exact hh
      · rw [upd_same, List.map_append]
        rfl
      · rw [List.length_append, hzl]
        rfl
      · intro y hy
        rcases List.mem_append.mp hy with e | e
        · exact hz y e
        · rw [List.mem_singleton.mp e]
          exact ⟨hz1, hz2⟩
    rintro H2 ⟨x2, P2, zs, hD, hzl, hz⟩
    refine ⟨D, zs.map V.str, rfl, .inl ⟨sq_of hD, fun rw nrw => ?_⟩⟩
    have er := Ex.new (o := .tup (zs.map V.str)) nrw
    have P3 := P2.up er
    have nrp : rw ≠ p := P2.ne nrw
    have hrow : Dd p (upd H2 rw (.tup (zs.map V.str))) (.ref rw) (.tuple (zs.map PyData.str)) := .tup nrp upd_same (dd_strs zs)
    have frow : Fits 45 (zs.map PyData.str) := (fits_strs zs hz).more (by omega)
    have x3 : Xp p H0 (upd H2 rw (.tup (zs.map V.str))) := (x1'.trans x2).trans (Xp.ex er)
    have hrl : (zs.map V.str).length = zs.length := List.length_map _
    have hr3 : upd H2 rw (.tup (zs.map V.str)) rw = some (.tup (zs.map V.str)) := upd_same
    generalize upd H2 rw (.tup (zs.map V.str)) = H3 at hrow x3 P3 hr3
    -- the place and the mark
    have hzs : zs.length ≤ 5 := by omega
    refine ⟨.ref p, rfl, .ref rw, rfl, rw, _, rfl, .inr (st_of hr3), _, 1, rfl, rfl, p, _, c + 1 + n.toNat, rfl, by omega, by omega, by omega, P3, fun at_ H4 a0 a1 x4 P4 => ?_⟩
    refine ⟨.ref p, rfl, .ref p, rfl, p, c + 1 + n.toNat + 1, rfl, by omega, by omega, P4, fun o od H5 x5 P5 ho hfo => ?_⟩
    refine ⟨sz_of (by show 5 ≤ 100000; decide), fun ml nml => ?_⟩
    have em := Ex.new (o := .lst [.str "^", .str "$", .str "^", .str "$", o]) nml
    refine ⟨p, ml, c + 1 + n.toNat + 1 + 10, _, rfl, by omega, P5.up em, P5.ne nml, upd_same, by show 1 ≤ 5; decide, by show 5 ≤ 1000; decide, fun mk H6 hmk x6 P6 => ?_⟩
    have xm := (x4.trans x5).trans ((Xp.ex em).trans x6)
    obtain ⟨md, hmd, hmf⟩ : ∃ md, Dd p H6 mk md ∧ Fit 60 md := by
      have hall : DdAll p H6 [.str "^", .str "$", .str "^", .str "$", o] [.str "^", .str "$", .str "^", .str "$", od] := .cons (.str _) (.cons (.str _) (.cons (.str _) (.cons (.str _) (.cons ((ho.up em).xp x6) .nil))))
      obtain ⟨d, hd, hdd⟩ := hall.mem hmk
      refine ⟨d, hdd, ?_⟩
      simp only [List.mem_cons, List.not_mem_nil, or_false] at hd
      rcases hd with rfl | rfl | rfl | rfl | rfl
      · exact fit_str (by decide +kernel) (by decide)
      · exact fit_str (by decide +kernel) (by decide)
      · exact fit_str (by decide +kernel) (by decide)
      · exact fit_str (by decide +kernel) (by decide)
      · exact hfo
    refine ⟨_, _, rfl, ?_⟩
    have hrow6 := hrow.xp xm
    have x06 : Xp p H0 H6 := x3.trans xm
    -- the values
    have st1 : EvP p 0 (tTup (tCons (tC (.str "^")) tNil)) [some (.ref p), some (.ref l), some (.ref rw), some (.int at_), some mk, none, none, none, none] H6 (Tu 2) := evp_tup (evpa_t (fs (n := 1) "^") (evpa_nil Fits.nil) (by decide)) (by decide)
    have row1 : EvP p 0 (tVar 2) [some (.ref p), some (.ref l), some (.ref rw), some (.int at_), some mk, none, none, none, none] H6 (Tu 45) := evp_var rfl hrow6 ⟨_, rfl, frow⟩
    have en1 : EvP p 0 (tTup (tCons (tC (.str "$")) tNil)) [some (.ref p), some (.ref l), some (.ref rw), some (.int at_), some mk, none, none, none, none] H6 (Tu 2) := evp_tup (evpa_t (fs (n := 1) "$") (evpa_nil Fits.nil) (by decide)) (by decide)
    have v1 := evl_lst (p := p) (σ := [some (.ref p), some (.ref l), some (.ref rw), some (.int at_), some mk, none, none, none, none]) (H := H6) (N := 9) (L := AllFit 190)
      (evpan (evp_imp row1 fun d h => h.fit.more (by decide)) (evpan (evp_imp (evp_cat0 (K := K) st1 row1 (by decide)) fun d h => h.fit.more (by decide)) (evpan (evp_imp (evp_cat0 (K := K) row1 en1 (by decide)) fun d h => h.fit.more (by decide))
      (evpan (evp_imp (evp_cat0 (K := K) (evp_cat0 (K := K) st1 row1 (by decide)) en1 (by decide)) fun d h => h.fit.more (by decide)) (evpan (evp_tup' (evpa_t (fs (n := 1) "^") (evpa_t (fs (n := 1) "$") (evpa_nil Fits.nil) (by decide)) (by decide)) (by decide) (by decide))
      (evpan (evp_tup' (evpa_t (fs (n := 1) "$") (evpa_t (fs (n := 1) "^") (evpa_nil Fits.nil) (by decide)) (by decide)) (by decide) (by decide)) (evpan (evp_imp st1 fun d h => h.fit.more (by decide)) (evpan (evp_imp en1 fun d h => h.fit.more (by decide))
      (evpan (evp_tup' (evpa_nil Fits.nil) (by decide) (by decide)) evpan_nil (by decide)) (by decide)) (by decide)) (by decide)) (by decide)) (by decide)) (by decide)) (by decide)) (by decide)) (by decide)
    refine qp_asg (v1 H6 (c + 1 + n.toNat + 1 + 10 + 1) (Xp.refl _ _) P6 (by omega) (by omega) _ fun l1 vs1 ds1 H7 x7 P7 nl1 hl1 hds1 hL1 => ?_)
    have hrow7 := hrow6.xp x7
    have hmd7 := hmd.xp x7
    have cl : EvP p 0 (tSl (rSlA K) (tVar 2) tNoPart (tPart (tVar 3))) [some (.ref p), some (.ref l), some (.ref rw), some (.int at_), some mk, some (.ref l1), none, none, none] H7 (Tu 45) :=
      evp_cutL (xs := []) rfl hrow7 frow a0 fun H1 Q q => ⟨.int at_, rfl, at_, rfl, q⟩
    have cr : EvP p 0 (tSl (rSlA K) (tVar 2) (tPart (tVar 3)) tNoPart) [some (.ref p), some (.ref l), some (.ref rw), some (.int at_), some mk, some (.ref l1), none, none, none] H7 (Tu 45) :=
      evp_cutR (xs := []) rfl hrow7 frow a0 fun H1 Q q => ⟨.int at_, rfl, at_, rfl, q⟩
    have st2 : EvP p 0 (tTup (tCons (tC (.str "^")) tNil)) [some (.ref p), some (.ref l), some (.ref rw), some (.int at_), some mk, some (.ref l1), none, none, none] H7 (Tu 2) := evp_tup (evpa_t (fs (n := 1) "^") (evpa_nil Fits.nil) (by decide)) (by decide)
    have en2 : EvP p 0 (tTup (tCons (tC (.str "$")) tNil)) [some (.ref p), some (.ref l), some (.ref rw), some (.int at_), some mk, some (.ref l1), none, none, none] H7 (Tu 2) := evp_tup (evpa_t (fs (n := 1) "$") (evpa_nil Fits.nil) (by decide)) (by decide)
    have mk2 : EvP p 0 (tTup (tCons (tVar 4) tNil)) [some (.ref p), some (.ref l), some (.ref rw), some (.int at_), some mk, some (.ref l1), none, none, none] H7 (Tu 61) := evp_tup (evpa_t (evp_var rfl hmd7 hmf) (evpa_nil Fits.nil) (by decide)) (by decide)
    have v2 := evl_cat (p := p) (σ := [some (.ref p), some (.ref l), some (.ref rw), some (.int at_), some mk, some (.ref l1), none, none, none]) (H := H7) (A := 9) (B := 3) (L := AllFit 190) (evl_var (i := 5) rfl nl1 hl1 hds1 hL1)
      (evl_lst (N := 3) (evpan (evp_imp (evp_cat0 (K := K) (evp_cat0 (K := K) cl mk2 (by decide)) cr (by decide)) fun d h => h.fit.more (by decide))
        (evpan (evp_imp (evp_cat0 (K := K) (evp_cat0 (K := K) (evp_cat0 (K := K) (evp_cat0 (K := K) st2 cl (by decide)) mk2 (by decide)) cr (by decide)) en2 (by decide)) fun d h => h.fit.more (by decide))
        (evpan (evp_imp (evp_listT (K := K) (i := 2) rfl hrow7 frow) fun d h => h.more (by decide)) evpan_nil (by decide)) (by decide)) (by decide)) (by decide)) (by decide) (by decide) (by decide) (fun _ _ a b => a.app b)
    refine qp_asg (v2 H7 (c + 1 + n.toNat + 1 + 10 + 1 + 0) (Xp.refl _ _) P7 (by omega) (by omega) _ fun l2 vs2 ds2 H8 x8 P8 nl2 hl2 hds2 hL2 => ?_)
    have hrow8 := hrow7.xp x8
    have row3 : EvP p 0 (tVar 2) [some (.ref p), some (.ref l), some (.ref rw), some (.int at_), some mk, some (.ref l2), none, none, none] H8 (Tu 45) := evp_var rfl hrow8 ⟨_, rfl, frow⟩
    have odd3 : EvP p 10 (tCall spOdd [] E0 (tCons (tVar 0) tNil)) [some (.ref p), some (.ref l), some (.ref rw), some (.int at_), some mk, some (.ref l2), none, none, none] H8 (Fit 60) :=
      fun H1 c' x P c0 c1 Q q => ⟨.ref p, rfl, p, c', rfl, c0, c1, P, fun v d H2 x2 P2 hd hf => q v d H2 x2 P2 hd hf⟩
    have v3 := evl_cat (p := p) (σ := [some (.ref p), some (.ref l), some (.ref rw), some (.int at_), some mk, some (.ref l2), none, none, none]) (H := H8) (A := 9 + 3) (B := 8) (L := AllFit 190) (evl_var (i := 5) rfl nl2 hl2 hds2 hL2)
      (evl_lst (N := 8) (evpank (evp_imp odd3 fun d h => h.more (by decide)) (evpank (evp_imp (evp_cat (K := K) row3 (evp_tup (evpa_tk odd3 (evpa_nil Fits.nil) (by decide) (by decide)) (by decide)) (by decide) (by decide) (by decide)) fun d h => h.fit.more (by decide))
        (evpan (evp_tup' (evpa_t (evp_imp row3 fun d h => h.fit) (evpa_nil Fits.nil) (by decide)) (by decide) (by decide)) (evpan (fs "a") (evpan (evp_imp (evp_cat0 (K := K) (evp_tup (evpa_t (fs (n := 1) "^") (evpa_t (fs (n := 1) "^") (evpa_nil Fits.nil) (by decide)) (by decide)) (by decide)) row3 (by decide)) fun d h => h.fit.more (by decide))
        (evpan (evp_imp (evp_cat0 (K := K) row3 (evp_tup (evpa_t (fs (n := 1) "$") (evpa_t (fs (n := 1) "$") (evpa_nil Fits.nil) (by decide)) (by decide)) (by decide)) (by decide)) fun d h => h.fit.more (by decide)) (evpan (fs "^") (evpan (fs "$") evpan_nil (by decide)) (by decide)) (by decide)) (by decide)) (by decide)) (by decide)) (by decide) (by decide)) (by decide) (by decide)) (by decide)) (by decide) (by decide) (by decide) (fun _ _ a b => a.app b)
    refine qp_asg (v3 H8 (c + 1 + n.toNat + 1 + 10 + 1 + 0 + 0) (Xp.refl _ _) P8 (by omega) (by omega) _ fun l3 vs3 ds3 H9 x9 P9 nl3 hl3 hds3 hL3 => ?_)
    have x09 : Xp p H H9 := (Xp.ex e0).trans (((x06.trans x7).trans x8).trans x9)
    have hl3n := hds3.length
    -- each of them
    refine ⟨.ref l3, rfl, l3, rfl, ⟨_, sq_of hl3⟩, for_list (fun i σ H' => Ex H9 H' ∧ ∃ y6 y7, σ = [some (.ref p), some (.ref l), some (.ref rw), some (.int at_), some mk, some (.ref l3), y6, y7, none]) ⟨Ex.refl _, none, none, rfl⟩ (fun i σ H' _ h => sq_of (h.1 _ _ hl3)) ?_ ?_⟩
    · rintro i x σ H' hx ⟨e, y6, y7, rfl⟩
      obtain ⟨d, hdi, hxd⟩ := hds3.get hx
      have hf : Fit 190 d := hL3.1 d (List.mem_of_getElem? hdi)
      have hd' := hxd.up e
      refine q_asg (ev_cb (ea_cons (ev_var rfl) ea_nil) (rc_reprX hd' hf)) fun Ha ea => ?_
      have hda := hd'.up ea
      have same : ∀ (Hx : Hp) (u : Str), RV rNe (.str u) (.str u) Hx (.bl false) := fun Hx u => by
        have := rv_ne (H := Hx) (x := .str u) (y := .str u) rfl
        rw [decide_eq_true rfl] at this
        exact this
      refine s_when (et_or (a := false) (b := false) (et_test (ev_op (ev_cb (ea_cons (ev_call (ea_cons (ev_var rfl) ea_nil) (winV hda (hf.more (by decide)))) ea_nil) rc_reprB) (ev_cb (ea_cons (ev_call (ea_cons (ev_var rfl) ea_nil) (winV hda (hf.more (by decide)))) ea_nil) rc_reprB) (same _ _)))
        (fun _ => et_test (ev_op (ev_cb (ea_cons (ev_var rfl) ea_nil) (rc_reprX hda hf)) (ev_var rfl) (same _ _)))) (fun hb => nomatch hb) (fun _ Hb eb => ⟨(e.trans ea).trans eb, _, _, rfl⟩)
    · rintro σ H' ⟨e, y6, y7, rfl⟩
      exact q H' (x09.trans (Xp.ex e)) ((P9.up e).more (by omega))
end
end K16
namespace K16
open PySem PySem.Spec PyProof.Rows L2 Evl Es
section
variable {P : Program} {w : World} {K : PySem.W.Frag} {mg : Str → Option Value} {base : Heap} {fTok fText fWin fHs fHe fBs fToks fPot fTake fPick fLTok fLWin fOdd fRight : Addr} {dTok dText dWin dHs dHe dBs dToks dPot dTake dPick dLTok dLWin dOdd dRight : FuncData}
def spLaw (K : PySem.W.Frag) : Sp := fun vs H Q _ => ∃ (a : Addr) (ns : List Int), vs = [.ref a] ∧ SqL K H a (ns.map V.int) ∧ ∀ H', Q (.bl true) H'
theorem rep_all : ∀ n : Nat, (List.replicate n true).all id = true
  | 0 => rfl
  | n + 1 => by
    rw [List.replicate_succ, List.all_cons, rep_all n]
    rfl
theorem ok_law {f : Addr} {fd : FuncData} (F : Fun K "law" "law" sLaw f fd) (T : Top K mg fTok fText fWin fHs fHe fBs fToks fPot fTake fPick fLTok fLWin fOdd fRight dTok dText dWin dHs dHe dBs dToks dPot dTake dPick dLTok dLWin dOdd dRight) : GnOk P w K mg base 7 f fd ["_law_script"] (spLaw K) := by
  have b1 : Binds K dPot ["_law_script", "_law_k"] [] := T.Pot.binds fun _ _ _ _ _ _ us hl => match us, hl with | [_, _], _ => rfl
  have b2 : Binds K dRight ["_law_pot"] [] := T.Right.binds fun _ _ _ _ _ _ us hl => match us, hl with | [_], _ => rfl
  have G1 : FnOk P w K mg base CX0 6 fPot dPot ["_law_script", "_law_k"] (spPot K) := ok_pot T.Pot T.len T.abs T.int
  have G2 : GnOk P w K mg base 6 fRight dRight ["_law_pot"] spRight := ok_right T
  refine gn_of (N := nLaw) F scLaw (fun vs H Q E h => ?_) (fun cd A out s H vs Q E hg hr h => ?_)
  · obtain ⟨a, ns, rfl, _⟩ := h
    rfl
  · obtain ⟨a, ns, rfl, hS, q⟩ := h
    refine ⟨_, pss_cons (ps_for PassesOwn.never rfl (pi_range1 (by rfl) T.range (pa_cons (pe_callB (call_max2 rfl) (by rfl) T.max boot_max (pa_cons pe_int (pa_cons (pe_callB (call_min2 rfl) (by rfl) T.min boot_min (pa_cons pe_int (pa_cons (pe_callB call_len_seq (by rfl) T.len PySem.boot_len (pa_cons (pv 0) pa_nil)) pa_nil))) pa_nil))) pa_nil)) (pg_name (i := 1) scLaw.nd rfl (.inl rfl))
        (pss_cons (ps_set (i := 2) scLaw.nd rfl (.inr rfl) (pe_call G1 hr (by rfl) T.gPot T.Pot.kp b1 .nil pass0 (pa_cons (pv 0) (pa_cons (pv 1) pa_nil))))
        (pss_one (ps_if (pt_not (pt_val (pe_callB (cr_all rfl) (by rfl) T.all boot_all (pa_cons (pe_lc (own := [("_law_turn", 3)]) (g := gName 3) (tt := tYes) rfl scLaw.nd (pi_range1 (by rfl) T.range (pa_cons pe_int pa_nil))
          (blkOk_by (N := nLaw) (sc := defScope sLaw) (own := [("_law_turn", 3)]) (by decide +kernel)) (fun _ _ _ _ _ => pg_name (i := 3) scLaw.nd rfl (Or.inl rfl)) (fun _ _ _ _ _ => pts_nil)
          (fun _ _ _ _ _ => pe_callG G2 hg hr (by rfl) T.gRight T.Right.kp b2 (pa_cons (pv 2) pa_nil))) pa_nil)))) (pss_one (ps_ret pe_bl)) pss_nil))))
      (pss_one (ps_ret pe_bl)), ?_⟩
    obtain ⟨n, hn0, hn3, hn⟩ : ∃ n : Int, 0 ≤ n ∧ n ≤ 3 ∧ (if (if ((ns.map V.int).length : Int) < 3 then ((ns.map V.int).length : Int) else 3) > 1 then (if ((ns.map V.int).length : Int) < 3 then ((ns.map V.int).length : Int) else 3) else 1) = n := by
      refine ⟨_, ?_, ?_, rfl⟩ <;> (split <;> split <;> omega)
    refine ⟨.ref a, rfl, a, _, rfl, .inl hS, 3, _, rfl, 1, _, rfl, _, rfl, ?_⟩
    rw [hn]
    refine ⟨by omega, by omega, for_range (lo := 0) (n := n.toNat) (fun i σ H' => Ex H H' ∧ ∃ y1 y2, σ = [some (.ref a), y1, y2, none]) ⟨Ex.refl _, none, none, rfl⟩ ?_ ?_⟩
    · rintro i σ H' hi ⟨e, y1, y2, rfl⟩
      refine ⟨.ref a, rfl, .int (0 + (i : Int)), rfl, a, i, ns, by rw [Int.zero_add]; rfl, by omega, ex_l e hS, fun p H1 np e1 P1 => ?_⟩
      refine ⟨6, rfl, by decide, by decide, fun D nD => ?_⟩
      have nDp : D ≠ p := P1.ne nD
      refine lc_range (lo := 0) (n := 6) (g := gName 3) (tt := tYes) (vs := [3]) (fun j H2 => Xp p H1 H2 ∧ Pot H2 p (j * 100) ∧ H2 D = some (.lst ((List.replicate j true).map V.bl))) ?_ ?_ ?_
      · exact ⟨(Xp.refl _ _).mut nD, (P1.up (Ex.new nD)).more (by omega), upd_same⟩
      · rintro j H2 hj ⟨x2, P2, hD⟩
        refine ⟨rfl, .ref p, rfl, p, j * 100, rfl, by omega, by omega, P2, fun H3 x3 P3 => ?_⟩
        refine ⟨_, x3 _ _ nDp hD, ?_, (x2.trans x3).mut nD, ?_, ?_⟩
        · rw [List.length_map, List.length_replicate]
          exact sz_lt (by omega)
        · obtain ⟨g, s0, c0, hh, q1, q2, q3, q4, q5⟩ := P3
          refine ⟨g, s0, c0, ?_, q1, q2, q3, q4, by omega⟩
          rw [upd_ne nDp.symm]
          exact hh
        · rw [upd_same, List.replicate_succ', List.map_append]
          rfl
      · rintro H2 ⟨x2, P2, hD⟩
        refine ⟨D, List.replicate 6 true, rfl, sq_of hD, _, rfl, ?_⟩
        refine iteF ?_
        refine ⟨fun b o hb => x2 b o (ne_of_none (e b o hb) np) (e1 b o (e b o hb)), _, _, rfl⟩
    · rintro σ H' ⟨e, y1, y2, rfl⟩
      exact q H'
end
theorem all_mk {l : PySem.W.OpenLaw} {w : World} {K : PySem.W.Frag} {h : Heap} {mg : Str → Option Value} {fa : Addr} (X : K.In h) (G : h.Ns mainGlobals mg) (hfa : mg "law" = some (.ref fa))
    {f0 : Addr} {od0 an0 : Option Addr} {sl0 : Array (Option Value)} {oc0 kV0 dc0 pm0 cd0 ct0 : Value}
    {f1 : Addr} {od1 an1 : Option Addr} {sl1 : Array (Option Value)} {oc1 kV1 dc1 pm1 cd1 ct1 : Value}
    {f2 : Addr} {od2 an2 : Option Addr} {sl2 : Array (Option Value)} {oc2 kV2 dc2 pm2 cd2 ct2 : Value}
    {f3 : Addr} {od3 an3 : Option Addr} {sl3 : Array (Option Value)} {oc3 kV3 dc3 pm3 cd3 ct3 : Value}
    {f4 : Addr} {od4 an4 : Option Addr} {sl4 : Array (Option Value)} {oc4 kV4 dc4 pm4 cd4 ct4 : Value}
    {f5 : Addr} {od5 an5 : Option Addr} {sl5 : Array (Option Value)} {oc5 kV5 dc5 pm5 cd5 ct5 : Value}
    {f6 : Addr} {od6 an6 : Option Addr} {sl6 : Array (Option Value)} {oc6 kV6 dc6 pm6 cd6 ct6 : Value}
    {f7 : Addr} {od7 an7 : Option Addr} {sl7 : Array (Option Value)} {oc7 kV7 dc7 pm7 cd7 ct7 : Value}
    {f8 : Addr} {od8 an8 : Option Addr} {sl8 : Array (Option Value)} {oc8 kV8 dc8 pm8 cd8 ct8 : Value}
    {f9 : Addr} {od9 an9 : Option Addr} {sl9 : Array (Option Value)} {oc9 kV9 dc9 pm9 cd9 ct9 : Value}
    {f10 : Addr} {od10 an10 : Option Addr} {sl10 : Array (Option Value)} {oc10 kV10 dc10 pm10 cd10 ct10 : Value}
    {f11 : Addr} {od11 an11 : Option Addr} {sl11 : Array (Option Value)} {oc11 kV11 dc11 pm11 cd11 ct11 : Value}
    {f12 : Addr} {od12 an12 : Option Addr} {sl12 : Array (Option Value)} {oc12 kV12 dc12 pm12 cd12 ct12 : Value}
    {f13 : Addr} {od13 an13 : Option Addr} {sl13 : Array (Option Value)} {oc13 kV13 dc13 pm13 cd13 ct13 : Value}
    {f14 : Addr} {od14 an14 : Option Addr} {sl14 : Array (Option Value)} {oc14 kV14 dc14 pm14 cd14 ct14 : Value}
    {t0 : Tok}
    {t1 : Tok}
    {t2 : Tok}
    {t3 : Tok}
    (a0 : PySem.W.nsIn K mainGlobals "is_token" = some (some (.ref f0))) (l0 : K.lookup f0 = some ⟨oc0, od0, .func (PySem.W.fnOf "is_token" "is_token" (defArgs sTok) (defBody sTok) (defScope sTok) .none kV0 dc0 pm0 an0 cd0 ct0), sl0⟩)
      (c0 : PySem.W.codeIn K cd0 "is_token" = true) (k0 : PySem.W.keepIn K (.ref f0) = true)
    (a1 : PySem.W.nsIn K mainGlobals "is_text" = some (some (.ref f1))) (l1 : K.lookup f1 = some ⟨oc1, od1, .func (PySem.W.fnOf "is_text" "is_text" (defArgs sText) (defBody sText) (defScope sText) .none kV1 dc1 pm1 an1 cd1 ct1), sl1⟩)
      (c1 : PySem.W.codeIn K cd1 "is_text" = true) (k1 : PySem.W.keepIn K (.ref f1) = true)
    (a2 : PySem.W.nsIn K mainGlobals "is_window" = some (some (.ref f2))) (l2 : K.lookup f2 = some ⟨oc2, od2, .func (PySem.W.fnOf "is_window" "is_window" (defArgs sWin) (defBody sWin) (defScope sWin) .none kV2 dc2 pm2 an2 cd2 ct2), sl2⟩)
      (c2 : PySem.W.codeIn K cd2 "is_window" = true) (k2 : PySem.W.keepIn K (.ref f2) = true)
    (a3 : PySem.W.nsIn K mainGlobals "has_start" = some (some (.ref f3))) (l3 : K.lookup f3 = some ⟨oc3, od3, .func (PySem.W.fnOf "has_start" "has_start" (defArgs sHs) (defBody sHs) (defScope sHs) .none kV3 dc3 pm3 an3 cd3 ct3), sl3⟩)
      (c3 : PySem.W.codeIn K cd3 "has_start" = true) (k3 : PySem.W.keepIn K (.ref f3) = true)
    (a4 : PySem.W.nsIn K mainGlobals "has_end" = some (some (.ref f4))) (l4 : K.lookup f4 = some ⟨oc4, od4, .func (PySem.W.fnOf "has_end" "has_end" (defArgs sHe) (defBody sHe) (defScope sHe) .none kV4 dc4 pm4 an4 cd4 ct4), sl4⟩)
      (c4 : PySem.W.codeIn K cd4 "has_end" = true) (k4 : PySem.W.keepIn K (.ref f4) = true)
    (a5 : PySem.W.nsIn K mainGlobals "behind_start" = some (some (.ref f5))) (l5 : K.lookup f5 = some ⟨oc5, od5, .func (PySem.W.fnOf "behind_start" "behind_start" (defArgs sBs) (defBody sBs) (defScope sBs) .none kV5 dc5 pm5 an5 cd5 ct5), sl5⟩)
      (c5 : PySem.W.codeIn K cd5 "behind_start" = true) (k5 : PySem.W.keepIn K (.ref f5) = true)
    (a6 : PySem.W.nsIn K mainGlobals "tokens_of" = some (some (.ref f6))) (l6 : K.lookup f6 = some ⟨oc6, od6, .func (PySem.W.fnOf "tokens_of" "tokens_of" (defArgs sToks) (defBody sToks) (defScope sToks) .none kV6 dc6 pm6 an6 cd6 ct6), sl6⟩)
      (c6 : PySem.W.codeIn K cd6 "tokens_of" = true) (k6 : PySem.W.keepIn K (.ref f6) = true)
    (a7 : PySem.W.nsIn K mainGlobals "_law_pot_of" = some (some (.ref f7))) (l7 : K.lookup f7 = some ⟨oc7, od7, .func (PySem.W.fnOf "_law_pot_of" "_law_pot_of" (defArgs sPot) (defBody sPot) (defScope sPot) .none kV7 dc7 pm7 an7 cd7 ct7), sl7⟩)
      (c7 : PySem.W.codeIn K cd7 "_law_pot_of" = true) (k7 : PySem.W.keepIn K (.ref f7) = true)
    (a8 : PySem.W.nsIn K mainGlobals "_law_take" = some (some (.ref f8))) (l8 : K.lookup f8 = some ⟨oc8, od8, .func (PySem.W.fnOf "_law_take" "_law_take" (defArgs sTake) (defBody sTake) (defScope sTake) .none kV8 dc8 pm8 an8 cd8 ct8), sl8⟩)
      (c8 : PySem.W.codeIn K cd8 "_law_take" = true) (k8 : PySem.W.keepIn K (.ref f8) = true)
    (a9 : PySem.W.nsIn K mainGlobals "_law_of" = some (some (.ref f9))) (l9 : K.lookup f9 = some ⟨oc9, od9, .func (PySem.W.fnOf "_law_of" "_law_of" (defArgs sPick) (defBody sPick) (defScope sPick) .none kV9 dc9 pm9 an9 cd9 ct9), sl9⟩)
      (c9 : PySem.W.codeIn K cd9 "_law_of" = true) (k9 : PySem.W.keepIn K (.ref f9) = true)
    (a10 : PySem.W.nsIn K mainGlobals "_law_token" = some (some (.ref f10))) (l10 : K.lookup f10 = some ⟨oc10, od10, .func (PySem.W.fnOf "_law_token" "_law_token" (defArgs sLTok) (defBody sLTok) (defScope sLTok) .none kV10 dc10 pm10 an10 cd10 ct10), sl10⟩)
      (c10 : PySem.W.codeIn K cd10 "_law_token" = true) (k10 : PySem.W.keepIn K (.ref f10) = true)
    (a11 : PySem.W.nsIn K mainGlobals "_law_is_window" = some (some (.ref f11))) (l11 : K.lookup f11 = some ⟨oc11, od11, .func (PySem.W.fnOf "_law_is_window" "_law_is_window" (defArgs sLWin) (defBody sLWin) (defScope sLWin) .none kV11 dc11 pm11 an11 cd11 ct11), sl11⟩)
      (c11 : PySem.W.codeIn K cd11 "_law_is_window" = true) (k11 : PySem.W.keepIn K (.ref f11) = true)
    (a12 : PySem.W.nsIn K mainGlobals "_law_odd" = some (some (.ref f12))) (l12 : K.lookup f12 = some ⟨oc12, od12, .func (PySem.W.fnOf "_law_odd" "_law_odd" (defArgs sOdd) (defBody sOdd) (defScope sOdd) .none kV12 dc12 pm12 an12 cd12 ct12), sl12⟩)
      (c12 : PySem.W.codeIn K cd12 "_law_odd" = true) (k12 : PySem.W.keepIn K (.ref f12) = true)
    (a13 : PySem.W.nsIn K mainGlobals "_law_right" = some (some (.ref f13))) (l13 : K.lookup f13 = some ⟨oc13, od13, .func (PySem.W.fnOf "_law_right" "_law_right" (defArgs sRight) (defBody sRight) (defScope sRight) .none kV13 dc13 pm13 an13 cd13 ct13), sl13⟩)
      (c13 : PySem.W.codeIn K cd13 "_law_right" = true) (k13 : PySem.W.keepIn K (.ref f13) = true)
    (a14 : PySem.W.nsIn K mainGlobals "law" = some (some (.ref f14))) (l14 : K.lookup f14 = some ⟨oc14, od14, .func (PySem.W.fnOf "law" "law" (defArgs sLaw) (defBody sLaw) (defScope sLaw) .none kV14 dc14 pm14 an14 cd14 ct14), sl14⟩)
      (c14 : PySem.W.codeIn K cd14 "law" = true) (k14 : PySem.W.keepIn K (.ref f14) = true)
    (v0 : PySem.W.nsIn K mainGlobals "LETTERS" = some (some (.str abc t0)))
    (v1 : PySem.W.nsIn K mainGlobals "MOST_LETTERS" = some (some (.int 8 t1)))
    (v2 : PySem.W.nsIn K mainGlobals "START" = some (some (.str "^" t2)))
    (v3 : PySem.W.nsIn K mainGlobals "END" = some (some (.str "$" t3)))
    (z0 : PySem.W.nsIn K mainGlobals "isinstance" = some none)
    (z1 : PySem.W.nsIn K mainGlobals "str" = some none)
    (z2 : PySem.W.nsIn K mainGlobals "len" = some none)
    (z3 : PySem.W.nsIn K mainGlobals "all" = some none)
    (z4 : PySem.W.nsIn K mainGlobals "abs" = some none)
    (z5 : PySem.W.nsIn K mainGlobals "range" = some none)
    (z6 : PySem.W.nsIn K mainGlobals "max" = some none)
    (z7 : PySem.W.nsIn K mainGlobals "min" = some none)
    (z8 : PySem.W.nsIn K mainGlobals "repr" = some none)
    (z9 : PySem.W.nsIn K mainGlobals "tuple" = some none)
    (z10 : PySem.W.nsIn K mainGlobals "list" = some none)
    (z11 : PySem.W.nsIn K mainGlobals "int" = some none)
    (z12 : PySem.W.nsIn K mainGlobals "enumerate" = some none) :
    ∃ fd : FuncData, (∀ (s : Shared) (v : Value), BindsTo s fd ⟨[v], []⟩ [("_law_script", v)]) ∧ ∀ bs : Heap, K.In bs → bs.Ns mainGlobals mg → GnOk l.prog w K mg bs 7 fa fd ["_law_script"] (spLaw K) := by
  have e := hfa.symm.trans (PySem.W.mg_of X G a14)
  cases e
  have F0 := fun_mk (st := sTok) l0 c0 k0
  have F1 := fun_mk (st := sText) l1 c1 k1
  have F2 := fun_mk (st := sWin) l2 c2 k2
  have F3 := fun_mk (st := sHs) l3 c3 k3
  have F4 := fun_mk (st := sHe) l4 c4 k4
  have F5 := fun_mk (st := sBs) l5 c5 k5
  have F6 := fun_mk (st := sToks) l6 c6 k6
  have F7 := fun_mk (st := sPot) l7 c7 k7
  have F8 := fun_mk (st := sTake) l8 c8 k8
  have F9 := fun_mk (st := sPick) l9 c9 k9
  have F10 := fun_mk (st := sLTok) l10 c10 k10
  have F11 := fun_mk (st := sLWin) l11 c11 k11
  have F12 := fun_mk (st := sOdd) l12 c12 k12
  have F13 := fun_mk (st := sRight) l13 c13 k13
  have F14 := fun_mk (st := sLaw) l14 c14 k14
  exact ⟨_, fun s v => .of_eq rfl, fun bs _ _ => ok_law F14 ⟨F0, F1, F2, F3, F4, F5, F6, F7, F8, F9, F10, F11, F12, F13, PySem.W.mg_of X G a0, PySem.W.mg_of X G a1, PySem.W.mg_of X G a2, PySem.W.mg_of X G a3, PySem.W.mg_of X G a4, PySem.W.mg_of X G a5, PySem.W.mg_of X G a6, PySem.W.mg_of X G a7, PySem.W.mg_of X G a8, PySem.W.mg_of X G a9, PySem.W.mg_of X G a10, PySem.W.mg_of X G a11, PySem.W.mg_of X G a12, PySem.W.mg_of X G a13, ⟨_, PySem.W.mg_of X G v0⟩, ⟨_, PySem.W.mg_of X G v1⟩, ⟨_, PySem.W.mg_of X G v2⟩, ⟨_, PySem.W.mg_of X G v3⟩, PySem.W.mg_none_of X G z0, PySem.W.mg_none_of X G z1, PySem.W.mg_none_of X G z2, PySem.W.mg_none_of X G z3, PySem.W.mg_none_of X G z4, PySem.W.mg_none_of X G z5, PySem.W.mg_none_of X G z6, PySem.W.mg_none_of X G z7, PySem.W.mg_none_of X G z8, PySem.W.mg_none_of X G z9, PySem.W.mg_none_of X G z10, PySem.W.mg_none_of X G z11, PySem.W.mg_none_of X G z12⟩⟩
end K16
open PySem PySem.W PyProof.Rows
set_option maxHeartbeats 0 in
theorem PySem.Challenge.cw_errorspans_k16_windows_of_any_value_holds : PySem.Challenge.rw_errorspans_k16_windows_of_any_value.Holds := by
  w_on; o_law; k_head; (case hw => w_witness2)
  k_fill
  refine Es.walk_ofG (l := PySem.Challenge.rw_errorspans_k16_windows_of_any_value) (n := 63) (k := 7) (x := "_law_script") (sp := K16.spLaw) rfl (by decide) rfl ⟨rfl, by decide, by decide⟩ (fun w h Y => PySem.W.kIn_of Y) ?F (fun _ _ a ns _ _ hS => ⟨a, ns, rfl, hS, fun _ => rfl⟩)
  case F =>
    intro w mg fa h KX G hmg
    refine' K16.all_mk KX G hmg ?a0 ?l0 ?c0 ?k0 ?a1 ?l1 ?c1 ?k1 ?a2 ?l2 ?c2 ?k2 ?a3 ?l3 ?c3 ?k3 ?a4 ?l4 ?c4 ?k4 ?a5 ?l5 ?c5 ?k5 ?a6 ?l6 ?c6 ?k6 ?a7 ?l7 ?c7 ?k7 ?a8 ?l8 ?c8 ?k8 ?a9 ?l9 ?c9 ?k9 ?a10 ?l10 ?c10 ?k10 ?a11 ?l11 ?c11 ?k11 ?a12 ?l12 ?c12 ?k12 ?a13 ?l13 ?c13 ?k13 ?a14 ?l14 ?c14 ?k14 ?v0 ?v1 ?v2 ?v3 ?z0 ?z1 ?z2 ?z3 ?z4 ?z5 ?z6 ?z7 ?z8 ?z9 ?z10 ?z11 ?z12
    (case a0 => k_is); (case l0 => k_is); (case c0 => k_is); (case k0 => k_is); (case a1 => k_is); (case l1 => k_is); (case c1 => k_is); (case k1 => k_is)
    (case a2 => k_is); (case l2 => k_is); (case c2 => k_is); (case k2 => k_is); (case a3 => k_is); (case l3 => k_is); (case c3 => k_is); (case k3 => k_is)
    (case a4 => k_is); (case l4 => k_is); (case c4 => k_is); (case k4 => k_is); (case a5 => k_is); (case l5 => k_is); (case c5 => k_is); (case k5 => k_is)
    (case a6 => k_is); (case l6 => k_is); (case c6 => k_is); (case k6 => k_is); (case a7 => k_is); (case l7 => k_is); (case c7 => k_is); (case k7 => k_is)
    (case a8 => k_is); (case l8 => k_is); (case c8 => k_is); (case k8 => k_is); (case a9 => k_is); (case l9 => k_is); (case c9 => k_is); (case k9 => k_is)
    (case a10 => k_is); (case l10 => k_is); (case c10 => k_is); (case k10 => k_is); (case a11 => k_is); (case l11 => k_is); (case c11 => k_is); (case k11 => k_is)
    (case a12 => k_is); (case l12 => k_is); (case c12 => k_is); (case k12 => k_is); (case a13 => k_is); (case l13 => k_is); (case c13 => k_is); (case k13 => k_is)
    (case a14 => k_is); (case l14 => k_is); (case c14 => k_is); (case k14 => k_is); (case v0 => k_is); (case v1 => k_is); (case v2 => k_is); (case v3 => k_is)
    (case z0 => k_is); (case z1 => k_is); (case z2 => k_is); (case z3 => k_is); (case z4 => k_is); (case z5 => k_is); (case z6 => k_is); (case z7 => k_is)
    (case z8 => k_is); (case z9 => k_is); (case z10 => k_is); (case z11 => k_is); (case z12 => k_is)
