import PyProof.Rows.All
import Wide.All
import OpenK.AllK
import Wide.FinOn
import HandS.ForMost
import HandS.IsInst
import HandS.Evl
import HandS.Walk
import PySem.Challenge.RW_errorspans_k03_leaves_from_left_to_right
set_option Elab.async false
set_option linter.all false
set_option maxRecDepth 100000
set_option maxHeartbeats 2000000
namespace Es
open PySem PySem.Spec PyProof.Rows L2 Evl
section
variable {X : Cx}
/-- repr of a truth value -/
theorem cr_reprB : CallR X (.builtin "repr") (fun xs H Q => ∃ b : Bool, xs = [.bl b] ∧ Q (.str (if b then "True" else "False")) H) := by
  intro pins s σ H xs us Q I r h
  obtain ⟨b, rfl, q⟩ := h
  obtain ⟨u, rfl, ru⟩ := vals1 r
  obtain rfl : u = Value.bool b := ru
  exact PySem.P.repr_of_bool ⟨.str _, H, I.tok _, ⟨_, rfl⟩, q⟩
/-- repr of data that lies at an address -/
theorem cr_reprD (hg : X.A.guards = some []) (hu : X.A.units + 64 < cLine) : CallR X (.builtin "repr")
    (fun xs H Q => ∃ (a : Addr) (d : PyData), xs = [.ref a] ∧ Dp X.K H (.ref a) d ∧ d.showable = true ∧ d.hasDict = false ∧ d.depth ≤ 60 ∧ d.shown.length ≤ sizeLine ∧ Q (.str d.shown) H) := by
  intro pins s σ H xs us Q I r h
  obtain ⟨a, d, rfl, hd, hs, hn, hdp, hz, q⟩ := h
  obtain ⟨u, rfl, ru⟩ := vals1 r
  obtain rfl : u = Value.ref a := ru
  obtain ⟨as, rd⟩ := Dp.reads I d _ _ hd rfl
  refine repr_of_reads' rd hs (fun z => ?_) hg (by omega) (fun _ _ e => e) (fun h' u tk hk => ?_) hz
  · rw [hn] at z; cases z
  · exact ⟨.str d.shown, H, I.kept (t' := tk) hk, ⟨_, rfl⟩, q⟩
/-- powers of great numbers -/
def CPowW (i j : Int) : Prop := 0 ≤ j ∧ (Builtin.Int.intBits i : Int) * j ≤ 2 ^ 27
theorem op_powW : OpR X (binaryOp .Pow) (rI CPowW fun i j => .int (i ^ j.toNat)) := opI fun _ _ _ _ _ _ _ hc q => pow_int hc.1 hc.2 q
end
/-- a def's promise, given where no repr is under way -/
structure GnOk (P : Program) (w : World) (K : PySem.W.Frag) (mg : Str → Option Value) (bs : Heap) (k : Nat) (f : Addr) (fd : FuncData) (ps : List Str) (sp : Sp) : Prop where
  len : ∀ vs H Q E, sp vs H Q E → vs.length = ps.length
  run : ∀ (A : Around) (out : List Env) (s : Shared) (H : Hp) (ar : Args) (us : List Value) (vs : List V) (Q : VK) (E : XK), A.guards = some [] → Room k A →
    Env0 P w K mg bs A out s H → BindsTo s fd ar (ps.zip us) → Vals vs us → sp vs H Q E → codeAny (model P w) A (.call (.ref f) ar) (CR CX0 out P w H s Q E) s
section
variable {P : Program} {w : World} {K : PySem.W.Frag} {mg : Str → Option Value} {bs : Heap} {k : Nat} {f : Addr} {fd : FuncData} {ps : List Str} {sp : Sp}
theorem GnOk.ofF (F : FnOk P w K mg bs CX0 k f fd ps sp) : GnOk P w K mg bs k f fd ps sp := ⟨F.len, fun A out s H ar us vs Q E _ => F.run A out s H ar us vs Q E⟩
theorem GnOk.mono {j : Nat} (F : GnOk P w K mg bs j f fd ps sp) (h : j ≤ k) : GnOk P w K mg bs k f fd ps sp := ⟨F.len, fun A out s H ar us vs Q E g hr => F.run A out s H ar us vs Q E g (hr.mono h)⟩
theorem gn_of {x qual : Str} {st : Stmt} {N : List Str} (F : Fun K x qual st f fd) (S : FnScope N ps (defScope st)) (len : ∀ vs H Q E, sp vs H Q E → vs.length = ps.length)
    (hb : ∀ (cd : Value) (A : Around) (out : List Env) (s : Shared) (H : Hp) (vs : List V) (Q : VK) (E : XK), A.guards = some [] → Room k (A.deeper (envOfC qual (defScope st) s.heap.objs.size f cd)) →
      sp vs H Q E → ∃ t, PSs (cxOf CX0 P w K mg bs N qual (defScope st) f cd A out s H E).nox (defBody st) t ∧ t { nx := fun _ H' => Q .non H', rt := Q } (start N vs) H) :
    GnOk P w K mg bs (k + 1) f fd ps sp := by
  obtain ⟨oc, od, kV, dc, pm, an, cd, ct, sl, rfl, lk, hcd⟩ := F.ex
  refine ⟨len, ?_⟩
  intro A out s H ar us vs Q E g hr e0 hbd rv hs
  have up := fun b o (e : bs.get? b = some o) => (e0.bs b o e).1
  have kin := e0.mod.kin.keeps up
  have ln := len _ _ _ _ hs
  obtain ⟨t, ht, hq⟩ := hb cd A out s H vs Q E g (hr.deeper _) hs
  have hk : ∀ y ∈ ps.zip us, (defScope st).names.lookup y.1 = some .local ∨ ((defScope st).names.lookup y.1 = some .cell ∧ ((cellsFrom (s.heap.objs.size + 1) (defScope st).names []).lookup y.1).isSome = true) := by
    intro ⟨n, v⟩ hy
    rcases S.par n (List.of_mem_zip hy).1 with q | q
    · exact Or.inl q
    · exact Or.inr ⟨q, PySem.W.cellsFrom_some _ _ _ (.inl q)⟩
  refine codeAny_call_function hr.depth (kin _ _ lk) rfl S.co S.gen rfl (PySem.W.codeRec_of kin hcd) (hbd _ _ _ _ ?_)
  refine wpAny_newFunctionEnv_cells S.kind hk ?_
  intro en he s1 x
  subst he
  refine ⟨(e0.mod.nolimit.keeps up).keeps x.toInCall.keep, codeAny_func ?_⟩
  have I := inv_start (CX := CX0) (P := P) (w := w) (K := K) (mg := mg) (base := bs) (E := E) S hr.hd e0 ln rv x
  refine wpAny_mono (ht.nox.run [] s1 (start N vs) H _ I hq) ?_ (fun e s' hs => hs)
  intro fl s' z
  have fin : ∀ {σ' : L2.St} {H' : Hp} {v : V} {u : Value}, Inv (cxOf CX0 P w K mg bs N qual (defScope st) f cd A out s H E) [] σ' H' s' → RelV v u → Q v H' → CE out P w H s Q u s' :=
    fun J r q => ⟨_, _, J.os, J.bare, J.base, J.hok, r, q⟩
  match fl, z with
  | .ret u, ⟨v, σ', H', J, r, q⟩ => exact fin J r q
  | .next, ⟨σ', H', J, q⟩ => exact fin (v := V.non) (u := Value.none) J rfl q
  | .brk, ⟨_, _, _, q⟩ => exact q.elim
  | .cont, ⟨_, _, _, q⟩ => exact q.elim
end
section
variable {X : Cx} {k : Nat} {f : Addr} {fd : FuncData} {ps ks : List Str} {sp : Sp} {x : Str} {p pos : Pos} {e : Expr} {es : List Expr} {kws : List Keyword} {t tk : TA}
theorem run_gn {pins : List (Addr × Obj)} {σ : L2.St} {H : Hp} {s : Shared} {Q : VK} {us : List Value} {vs : List V} (F : GnOk X.prog X.w X.K X.mg X.base k f fd ps sp) (g : X.A.guards = some []) (hr : Room k X.A)
    (hb : Binds X.K fd ps []) (I : Inv X pins σ H s) (r : Vals vs us) (h : sp vs H Q E0) : wpAny (model X.prog X.w) X.A (call (.ref f) us) (EP X pins σ Q) X.xe s := by
  have ln := F.len _ _ _ _ h
  have hb' := hb s us I.kIn (by rw [List.append_nil, ← r.length]; exact ln)
  rw [List.append_nil] at hb'
  refine wpAny_call (codeAny_mono (F.run X.A X.stack s H ⟨us, []⟩ us vs Q E0 g hr I.env0 hb' r h) ?_)
  intro rs s' z
  match rs, z with
  | .ok (.ret u), z => exact I.after z
def tCallG (sp : Sp) (t : TA) : TE := fun σ H Q => t σ H fun vs H1 => sp vs H1 Q E0
/-- f(e, ..), f one that may ask for a repr -/
theorem pe_callG (F : GnOk X.prog X.w X.K X.mg X.base k f fd ps sp) (g : X.A.guards = some []) (hr : Room k X.A) (hg : Gl X x) (hm : X.mg x = some (.ref f)) (hk : PySem.W.keepIn X.K (.ref f) = true)
    (hb : Binds X.K fd ps []) (ha : PA X (e :: es) t) (hdb : (x == ("__debug__" : Str)) = false := by decide)
    (he : starEach (e :: es) X.env = (false, eval e X.env) :: starEach es X.env := by rfl) (hpl : (backTo pos (starEach es X.env)).any (·.1) = false := by rfl) :
    PE X (.Call (.Name x p) (e :: es) [] pos) (tCallG sp t) := by
  refine ⟨?_⟩
  intro pins s σ H Q I h
  refine wpAny_Call_Name_kw (ld_glob I hg hm ?_ hdb)
  refine PySem.W.callWith_K (h₀ := X.base) I.ok.mod.kin hk (thn (ha.run pos pins s σ H _ I h) ?_) he hpl
  rintro us s1 ⟨vs, H1, I1, r, q⟩
  exact ⟨I1.kIn, run_gn F g hr hb I1 r q⟩
/-- f(k = v, ..): keywords alone -/
theorem pe_callK0 {gg : List Value → List Value → List Value} {gV : List V → List V → List V} (F : FnOk X.prog X.w X.K X.mg X.base CX0 k f fd ps sp) (hr : Room k X.A) (hg : Gl X x) (hm : X.mg x = some (.ref f)) (hk : PySem.W.keepIn X.K (.ref f) = true)
    (hb : KBinds X.K fd ps ks gg gV) (hkw : PK X kws tk) (hall : (backToKw pos (keywordEach kws X.env)).all (·.1.isSome) = true := by rfl) (hks : (backToKw pos (keywordEach kws X.env)).filterMap (·.1) = ks := by rfl)
    (hdb : (x == ("__debug__" : Str)) = false := by decide) (hpl : ((backTo pos (starEach [] X.env)).any (·.1) || (backToKw pos (keywordEach kws X.env)).any (·.1.isNone)) = false := by rfl) :
    PE X (.Call (.Name x p) [] kws pos) (fun σ H Q => tk σ H fun zs H1 => sp (gV [] zs) H1 Q E0) := by
  refine ⟨?_⟩
  intro pins s σ H Q I h
  refine wpAny_Call_Name_kw (ld_glob I hg hm ?_ hdb)
  refine PySem.W.callWith_KW0 (h₀ := X.base) I.ok.mod.kin hk hall (thn (hkw.run pos pins s σ H _ I h) ?_) hpl
  rintro ws s2 ⟨zs, H2, I2, rz, q2⟩
  refine ⟨I2.kIn, ?_⟩
  rw [hks]
  exact run_fnk F hr hb pass0 I2 .nil rz q2
end
/-! the law's own call -/
section
variable {P : Program} {w : World} {K : PySem.W.Frag} {mg mb : Str → Option Value} {k : Nat} {fa a : Addr} {fd : FuncData} {x : Str} {sp : Sp} {s1 : Shared} {vs : List Value} {ns : List Int}
def LawEnd (s1 : Shared) : Result → Shared → Prop := fun r s' => r = .ok (.ret (.bool true)) ∧ OldK s1.heap s'.heap ∧ s'.os = s1.os ∧ AllBare s'.gens
theorem law_core (KX : K.In s1.heap) (hns : s1.heap.Ns mainGlobals mg) (hb : s1.heap.Ns builtinsNs mb) (hbb : ∀ x : Str, x ≠ "__name__" → mb x = bootBuiltins x) (hlim : s1.heap.NoLimit) (hg : s1.gens = #[])
    (ha : s1.heap.get? a = some { cls := .type "list", data := .seq vs.toArray }) (hr : Room k callerA)
    (F : ∀ bs : Heap, K.In bs → bs.Ns mainGlobals mg → GnOk P w K mg bs k fa fd [x] sp) (hbd : ∀ (s : Shared) (u : Value), BindsTo s fd ⟨[u], []⟩ [(x, u)])
    (H : Hp) (hO : Only H) (hok : HOk P w H s1.heap) (hA : ∀ b, H b ≠ none → b = a) (hK : H a ≠ none → K.lookup a = none) (hs : sp [.ref a] H (fun v _ => v = .bl true) E0) :
    codeAny (model P w) callerA (.call (.ref fa) ⟨[.ref a], []⟩) (LawEnd s1) s1 := by
  have isA : ∀ {b : Addr} {u : HO}, H b = some u → b = a := fun q => hA _ (by rw [q]; simp)
  have nodict : ∀ {b : Addr} {o : Obj} {es : Array DictEntry} {ep : Nat}, s1.heap.get? b = some o → o.data = .dict es ep → H b = none := by
    intro b o es ep e d
    cases q : H b with
    | none => rfl
    | some u =>
      cases isA q
      rw [ha] at e
      cases e
      cases d
  have low : ∀ {b : Addr} {o : Obj}, s1.heap.get? b = some o → H b = none → (hidT s1.heap H).get? b = some o := fun e n => hidT_get e n
  have nsl : ∀ {b : Addr} {m : Str → Option Value}, s1.heap.Ns b m → (hidT s1.heap H).Ns b m := by
    rintro b m ⟨o, es, ep, e, d, r⟩
    exact ⟨o, es, ep, low e (nodict e d), d, r⟩
  have kl : K.In (hidT s1.heap H) := by
    intro b o e
    refine low (KX b o e) ?_
    cases q : H b with
    | none => rfl
    | some u =>
      cases isA q
      rw [hK (by rw [q]; simp)] at e
      cases e
  obtain ⟨mc, hm1, hm2⟩ := hlim
  have md : Mod K mg (hidT s1.heap H) := ⟨kl, nsl hns, ⟨mb, nsl hb, hbb⟩, ⟨mc, nsl hm1, hm2⟩⟩
  have e0 : Env0 P w K mg (hidT s1.heap H) callerA [] s1 H :=
    ⟨rfl, md, fun b o e => of_hidT e, Nat.le_of_eq (hidT_size _ _), trivial, fun b z => absurd (show b ∈ ([] : List Addr) from z) (by simp), hok, .of_eq hg⟩
  refine codeAny_mono ((F _ kl (nsl hns)).run callerA [] s1 H ⟨[.ref a], []⟩ [.ref a] [.ref a] _ _ rfl hr e0 (hbd s1 (.ref a)) (.cons rfl .nil) hs) ?_
  intro r s' z
  match r, z with
  | .ok (.ret u), ⟨v, H', os, bare, un, hok', rv, q⟩ =>
    cases (show v = .bl true from q)
    obtain rfl : u = Value.bool true := rv
    refine ⟨rfl, OldK.of_keep ?_, os, bare⟩
    intro b o e
    cases q : H b with
    | none => exact un.keep b o e q (by intro z; exact absurd (show b ∈ ([] : List Addr) from z) (by simp)) (by simp)
    | some u =>
      rcases hO b with z | ⟨ob, xs, z⟩
      · rw [q] at z
        cases z
      · obtain ⟨g1, _⟩ := hok b _ z
        obtain ⟨g2, _⟩ := hok' b _ (un.frzs b ob _ z)
        rw [e] at g1
        cases g1
        exact g2
theorem law_callG (KX : K.In s1.heap) (hns : s1.heap.Ns mainGlobals mg) (hb : s1.heap.Ns builtinsNs mb) (hbb : ∀ x : Str, x ≠ "__name__" → mb x = bootBuiltins x) (hlim : s1.heap.NoLimit) (hg : s1.gens = #[])
    (ha : s1.heap.get? a = some { cls := .type "list", data := .seq vs.toArray }) (hi : IntsAre vs ns) (hl : ns.length ≤ sizeLine) (hr : Room k callerA)
    (F : ∀ bs : Heap, K.In bs → bs.Ns mainGlobals mg → GnOk P w K mg bs k fa fd [x] sp) (hbd : ∀ (s : Shared) (u : Value), BindsTo s fd ⟨[u], []⟩ [(x, u)])
    (hsp : ∀ H : Hp, Only H → SqL K H a (ns.map V.int) → sp [.ref a] H (fun v _ => v = .bl true) E0) :
    codeAny (model P w) callerA (.call (.ref fa) ⟨[.ref a], []⟩) (LawEnd s1) s1 := by
  have rv := vals_ints hi
  cases hk : K.lookup a with
  | some o =>
    have e := KX a o hk
    rw [ha] at e
    cases e
    have hO : Only (fun _ => none) := fun _ => .inl rfl
    refine law_core KX hns hb hbb hlim hg ha hr F hbd (fun _ => none) hO (fun b u z => nomatch z) (fun b z => absurd rfl z) (fun z => absurd rfl z) (hsp _ hO ?_)
    exact .inr ⟨_, vs.toArray, _, hk, rfl, rfl, rfl, by rw [List.size_toArray, hi.length]; exact hl, by simpa using rv⟩
  | none =>
    let Z : Hp := fun b => if b = a then some (.frz { cls := .type "list", data := .seq vs.toArray } (.lst (ns.map V.int))) else none
    have hZ : Z a = some (.frz { cls := .type "list", data := .seq vs.toArray } (.lst (ns.map V.int))) := if_pos rfl
    have hZn : ∀ b, b ≠ a → Z b = none := fun b h => if_neg h
    have hO : Only Z := fun b => by
      by_cases h : b = a
      · subst h
        exact .inr ⟨_, _, hZ⟩
      · exact .inl (hZn b h)
    refine law_core KX hns hb hbb hlim hg ha hr F hbd Z hO (fun b u z => ?_) (fun b z => ?_) (fun _ => hk) (hsp Z hO (.inl (.inr ⟨_, hZ⟩)))
    · by_cases h : b = a
      · subst h
        rw [hZ] at z
        cases z
        exact ⟨ha, by rw [List.length_map]; exact hl, vs, _, rv, ha⟩
      · rw [hZn b h] at z
        cases z
    · by_cases h : b = a
      · exact h
      · exact absurd (hZn b h) z
end
theorem walk_ofG {l : PySem.W.OpenLaw} {n k : Nat} {q : Program} {loose : List Str} {XP : (Str → Option Value) → Heap → Prop} {YP : World → Heap → Prop} {d : DefRec} {K : Params → PySem.W.Frag} {sp : PySem.W.Frag → Sp} {x : Str}
    (hn : l.most = some n) (hn2 : n ≤ sizeLine) (hdf : d.params.defaults = []) (hr : Room k callerA) (hY : ∀ (w : World) (h : Heap), YP w h → (K w.params).In h)
    (F : ∀ (w : World) (mg : Str → Option Value) (fa : Addr) (h : Heap), (K w.params).In h → h.Ns mainGlobals mg → mg d.name = some (.ref fa) →
      ∃ fd : FuncData, (∀ (s : Shared) (u : Value), BindsTo s fd ⟨[u], []⟩ [(x, u)]) ∧
        ∀ bs : Heap, (K w.params).In bs → bs.Ns mainGlobals mg → GnOk l.prog w (K w.params) mg bs k fa fd [x] (sp (K w.params)))
    (hsp : ∀ (K : PySem.W.Frag) (H : Hp) (a : Addr) (ns : List Int), ns.length ≤ n → Only H → SqL K H a (ns.map V.int) → sp K [.ref a] H (fun v _ => v = .bl true) E0) :
    PySem.W.WalkO q loose XP YP l.row.toRowW d [] (fun f vs => PySem.call f vs) := by
  refine Att.attach_call hn hdf ?_
  intro w s0 s1 mg mb fa o pm cd dc a vs ns G Y ho hd hcd hmg hobj hints hlen hgn
  have KX := hY w _ Y
  obtain ⟨fd, hb, hF⟩ := F w mg fa _ KX G.T.g hmg
  exact law_callG KX G.T.g G.T.b G.T.builtins G.T.nolimit hgn hobj hints (Nat.le_trans hlen hn2) hr hF hb fun H hO hS => hsp _ H a ns hlen hO hS
end Es
namespace Es
open PySem PySem.Spec PyProof.Rows L2 Evl
section
variable {K : PySem.W.Frag} {σ : L2.St} {H H' : Hp} {ta tb tc te : TE} {x y z v w : V} {r r' : R2}
theorem ev_chain {k k' : Bool} (ha : Ev ta σ H x) (hb : Ev tb σ H y) (hr : RV r x y H (.bl k)) (hc : k = true → Ev tc σ H w) (hr' : k = true → RV r' y w H (.bl k')) : Ev (tChain r r' ta tb tc) σ H (.bl (k && k')) := by
  intro H1 e Q q
  refine ha H1 e _ fun H2 e2 => hb H2 (e.trans e2) _ fun H3 e3 => hr H3 ((e.trans e2).trans e3) _ fun H4 e4 => ⟨k, rfl, ?_⟩
  have e14 := (e2.trans e3).trans e4
  cases k with
  | true => exact hc rfl H4 (e.trans e14) _ fun H5 e5 => hr' rfl H5 ((e.trans e14).trans e5) Q fun H6 e6 => q H6 ((e14.trans e5).trans e6)
  | false => exact q H4 e14
/-- a text walked by a comprehension without tests, each sign giving f of it -/
theorem el_lcS {s : Str} {tl : TE} {j : Nat} {vs : List Nat} (f : Nat → V) (h : Ev tl σ H (.str s)) (hz : s.cps.size ≤ 40000) (hw : ∀ x, wipe ((wipe σ vs).set j (some x)) vs = wipe σ vs)
    (he : ∀ (c : Nat) H1, Ex H H1 → c ∈ s.cps.toList → Ev te ((wipe σ vs).set j (some (.str ⟨#[c]⟩))) H1 (f c)) :
    EvL (tLc (iStr tl) (gName j) tYes te vs) σ H (s.cps.toList.map f) := by
  intro H0 e Q q
  refine h H0 e _ fun H1 e1 => ⟨s, rfl, fun D hD => ?_⟩
  refine lc_it walk_str (fun i H' => Ex H1 H' ∧ H' D = some (.lst ((s.cps.toList.take i).map f))) ⟨Ex.new hD, upd_same⟩ (fun _ _ _ _ => trivial) (fun i x Ha Hb hi p y => ?_) (fun Hc p => ?_)
  · obtain ⟨rfl, c, hc, rfl⟩ := y
    refine ⟨hw _, ?_⟩
    show te _ Hb _
    have hm : s.cps.toList[i]? = some c := by rw [Array.getElem?_toList]; exact hc
    refine he c Hb ((e.trans e1).trans p.1) (List.mem_of_getElem? hm) Hb (Ex.refl _) _ fun Hc ec => ⟨_, ec D _ p.2, ?_, Ex.mut (p.1.trans ec) hD, ?_⟩
    · rw [List.length_map, List.length_take]
      exact sz_lt (by rw [Array.length_toList]; omega)
    · rw [upd_same, List.take_add_one, hm, List.map_append]
      rfl
  · have p2 := p.2
    rw [List.take_of_length_le (by rw [Array.length_toList]; exact Nat.le_refl _)] at p2
    exact q D Hc (fresh_back e1 hD) (e1.trans p.1) p2
theorem ev_cbL {r : List V → Hp → VK → Prop} {ta : TE} {xs : List V} (h : EvL ta σ H xs) (hr : ∀ p H1, H1 p = some (.lst xs) → Ex H H1 → RC r [.ref p] H1 z) : Ev (tCB r (tCons ta tNil)) σ H z := fun H1 e Q q =>
  h H1 e _ fun p H2 _ e2 hp => hr p H2 hp (e.trans e2) H2 (Ex.refl _) Q fun H3 e3 => q H3 (e2.trans e3)
/-- the values that a value of any kind may be -/
inductive Thing (H : Hp) : V → Prop
  | non : Thing H .non
  | bl (b : Bool) : Thing H (.bl b)
  | int (i : Int) : Thing H (.int i)
  | str (s : Str) : s.length ≤ 1000 → Thing H (.str s)
  | lst {a : Addr} {xs : List V} : H a = some (.lst xs) → Thing H (.ref a)
  | tup {a : Addr} {xs : List V} : H a = some (.tup xs) → Thing H (.ref a)
  | dK {a : Addr} {kvs : List (Key × V)} : H a = some (.dK kvs) → Thing H (.ref a)
theorem Thing.up (h : Thing H v) (e : Ex H H') : Thing H' v := by
  cases h with
  | non => exact .non
  | bl b => exact .bl b
  | int i => exact .int i
  | str s hs => exact .str s hs
  | lst h => exact .lst (e _ _ h)
  | tup h => exact .tup (e _ _ h)
  | dK h => exact .dK (e _ _ h)
def isS : V → Bool
  | .str _ => true
  | _ => false
theorem Thing.ty (h : Thing H v) : ∃ t : String, TyX K H v (.type t) ∧ kitB t "str" = some (isS v) := by
  cases h with
  | non => exact ⟨_, .base .non, show kitB "NoneType" "str" = some false by decide +kernel⟩
  | bl b => exact ⟨_, .base (.bl b), show kitB "bool" "str" = some false by decide +kernel⟩
  | int i => exact ⟨_, .base (.int i), show kitB "int" "str" = some false by decide +kernel⟩
  | str s hs => exact ⟨_, .base (.str s), show kitB "str" "str" = some true by decide +kernel⟩
  | lst h => exact ⟨_, .base (.lst h), show kitB "list" "str" = some false by decide +kernel⟩
  | tup h => exact ⟨_, .base (.tup h), show kitB "tuple" "str" = some false by decide +kernel⟩
  | dK h => exact ⟨_, .base (.dK h), show kitB "dict" "str" = some false by decide +kernel⟩
theorem Thing.isi (h : Thing H v) : RC (rIsi K) [v, .ty "str"] H (.bl (isS v)) := by
  intro H1 e Q q
  obtain ⟨t, h1, h2⟩ := (h.up e).ty (K := K)
  exact ⟨v, _, _, _, _, rfl, .ty _, h1, kit_ty h2, q H1 (Ex.refl _)⟩
def rLen1 (K : PySem.W.Frag) : List V → Hp → VK → Prop := fun xs H Q => ∃ x n, xs = [x] ∧ LenV K x H n ∧ Q (.int n) H
theorem rc_lenS {s : Str} (h : s.length ≤ 1000) : RC (rLen1 K) [.str s] H (.int (s.length : Int)) := fun H1 _ _ q => ⟨.str s, s.length, rfl, ⟨sz_of (by omega), rfl⟩, q H1 (Ex.refl _)⟩
theorem rc_all {p : Addr} {bs : List Bool} (h : H p = some (.lst (bs.map V.bl))) : RC (rAll K) [.ref p] H (.bl (bs.all id)) := fun H1 e _ q => ⟨p, bs, rfl, sq_of (e _ _ h), q H1 (Ex.refl _)⟩
theorem rc_any {p : Addr} {bs : List Bool} (h : H p = some (.lst (bs.map V.bl))) : RC (rAny K) [.ref p] H (.bl (bs.any id)) := fun H1 e _ q => ⟨p, bs, rfl, sq_of (e _ _ h), q H1 (Ex.refl _)⟩
def rInSign : R2 := fun x y H Q => ∃ (c : Nat) (z : Str), x = .str ⟨#[c]⟩ ∧ y = .str z ∧ Q (.bl (decide (c ∈ z.cps.toList))) H
theorem rv_inSign {c : Nat} {s : Str} : RV rInSign (.str ⟨#[c]⟩) (.str s) H (.bl (decide (c ∈ s.cps.toList))) := fun H1 _ _ q => ⟨c, s, rfl, rfl, q H1 (Ex.refl _)⟩
def rNotInSign : R2 := fun x y H Q => ∃ (c : Nat) (z : Str), x = .str ⟨#[c]⟩ ∧ y = .str z ∧ Q (.bl (!decide (c ∈ z.cps.toList))) H
theorem rv_notInSign {c : Nat} {s : Str} : RV rNotInSign (.str ⟨#[c]⟩) (.str s) H (.bl (!decide (c ∈ s.cps.toList))) := fun H1 _ _ q => ⟨c, s, rfl, rfl, q H1 (Ex.refl _)⟩
end
end Es
namespace Es
open PySem PySem.Spec PyProof.Rows L2 Evl
/-- all but the object at p stays -/
def Xp (p : Addr) (H H' : Hp) : Prop := ∀ a o, a ≠ p → H a = some o → H' a = some o
theorem Xp.refl (p : Addr) (H : Hp) : Xp p H H := fun _ _ _ h => h
theorem Xp.ex {p : Addr} {H H' : Hp} (e : Ex H H') : Xp p H H' := fun a o _ h => e a o h
theorem Xp.trans {p : Addr} {H H1 H2 : Hp} (a : Xp p H H1) (b : Xp p H1 H2) : Xp p H H2 := fun x o n h => b x o n (a x o n h)
theorem Xp.upd {p : Addr} {H : Hp} {o : HO} : Xp p H (upd H p o) := fun a u n h => by
  rw [upd_ne n]
  exact h
/-- a pot: three ints -/
def Pot (H : Hp) (p : Addr) (n : Int) : Prop := ∃ g s c : Int, H p = some (.lst [.int g, .int s, .int c]) ∧ 0 ≤ g ∧ 0 ≤ s ∧ s < 2 ^ 61 ∧ 0 ≤ c ∧ c ≤ n
theorem Pot.up {H H' : Hp} {p : Addr} {n : Int} (h : Pot H p n) (e : Ex H H') : Pot H' p n := by
  obtain ⟨g, s, c, h, r⟩ := h
  exact ⟨g, s, c, e _ _ h, r⟩
theorem Pot.more {H : Hp} {p : Addr} {n m : Int} (h : Pot H p n) (e : n ≤ m) : Pot H p m := by
  obtain ⟨g, s, c, h, r1, r2, r3, r4, r5⟩ := h
  exact ⟨g, s, c, h, r1, r2, r3, r4, by omega⟩
theorem Pot.back {H H' : Hp} {p q : Addr} {n : Int} (h : Pot H' p n) (e : Xp p H H') (hq : H' q = none) : H q = none := by
  obtain ⟨g, s, c, h, _⟩ := h
  cases hh : H q with
  | none => rfl
  | some o =>
    by_cases z : q = p
    · subst z
      rw [h] at hq
      cases hq
    · rw [e q o z hh] at hq
      cases hq
theorem Pot.ne {H : Hp} {p q : Addr} {n : Int} (h : Pot H p n) (hq : H q = none) : q ≠ p := by
  obtain ⟨g, s, c, h, _⟩ := h
  intro z
  subst z
  rw [h] at hq
  cases hq
def spTake : Sp := fun vs H Q _ => ∃ (p : Addr) (n m : Int), vs = [.ref p, .int n] ∧ 1 ≤ n ∧ n ≤ 1000 ∧ m ≤ 100000 ∧ Pot H p m ∧
  ∀ (r : Int) H', 0 ≤ r → r < n → Xp p H H' → Pot H' p (m + 1) → Q (.int r) H'
end Es
namespace Es
open PySem PySem.Spec PyProof.Rows L2 Evl
theorem Xp.mut {p D : Addr} {H H' : Hp} {o : HO} (e : Xp p H H') (h : H D = none) : Xp p H (L2.upd H' D o) := fun a u n ha => by
  rw [upd_ne (ne_of_none ha h)]
  exact e a u n ha
theorem len_glue : ∀ ys : List Str, (∀ y ∈ ys, y.length = 1) → (Str.join "" ys).length = ys.length
  | [], _ => rfl
  | [y], h => h y (List.mem_singleton.mpr rfl)
  | x :: z :: r, h => by
    show (x ++ "" ++ Str.join "" (z :: r)).length = r.length + 1 + 1
    rw [PySem.Str.length_append, PySem.Str.length_append, len_glue (z :: r) (fun y hy => h y (List.mem_cons_of_mem _ hy)), h x (List.mem_cons_self ..)]
    show 1 + 0 + (r.length + 1) = r.length + 1 + 1
    omega
theorem cut_le (z : Str) (lo hi : Option Int) : (cutS z lo hi).length ≤ z.length := by
  show (List.toArray _).size ≤ z.cps.size
  rw [List.size_toArray, List.length_take, List.length_drop, Array.length_toList]
  omega
end Es
namespace Es
open PySem PySem.Spec PyProof.Rows L2 Evl
section
variable {K : PySem.W.Frag} {σ : L2.St} {H H' : Hp} {ta tb te : TE} {tk : TA} {x y z v w : V} {sp : Sp}
def rReprB : List V → Hp → VK → Prop := fun xs H Q => ∃ b : Bool, xs = [.bl b] ∧ Q (.str (if b then "True" else "False")) H
def rReprD (K : PySem.W.Frag) : List V → Hp → VK → Prop := fun xs H Q => ∃ (a : Addr) (d : PyData), xs = [.ref a] ∧ Dp K H (.ref a) d ∧ d.showable = true ∧ d.hasDict = false ∧ d.depth ≤ 60 ∧ d.shown.length ≤ sizeLine ∧ Q (.str d.shown) H
theorem rc_reprB {b : Bool} : RC rReprB [.bl b] H (.str (if b then "True" else "False")) := fun H1 _ _ q => ⟨b, rfl, q H1 (Ex.refl _)⟩
/-- [b, b] written -/
def two (b : Bool) : PyData := .list [.bool b, .bool b]
theorem rc_repr2 {p : Addr} {b : Bool} (h : H p = some (.lst [.bl b, .bl b])) : RC (rReprD K) [.ref p] H (.str (two b).shown) := fun H1 e _ q =>
  ⟨p, two b, rfl, .lst (sq_of (e _ _ h)) (.cons (.bl b) (.cons (.bl b) .nil)), by cases b <;> decide +kernel, by cases b <;> decide +kernel, by cases b <;> decide +kernel, by cases b <;> decide +kernel, q H1 (Ex.refl _)⟩
theorem el_rep {xs : List V} {n : Int} (h : EvL ta σ H xs) (hn : 0 ≤ n ∧ n ≤ 100) (hl : xs.length ≤ 100) : EvL (tOp rRep ta (tC (.int n))) σ H (List.replicate n.toNat xs).flatten := by
  intro H1 e Q q
  refine h H1 e _ fun p H2 hp e2 h2 => ⟨p, n, xs, rfl, rfl, h2, by omega, by omega, ?_, fun r hr => q r _ (fresh_back e2 hr) (e2.trans (Ex.new hr)) upd_same⟩
  have : xs.length * n.toNat ≤ 100 * 100 := Nat.mul_le_mul hl (by omega)
  exact sz_of (by omega)
theorem ev_callK0 {gV : List V → List V → List V} {vs : List V} (h : EvA tk σ H vs) (hs : SpV sp (gV [] vs) H z) : Ev (fun σ H Q => tk σ H fun zs H1 => sp (gV [] zs) H1 Q E0) σ H z := fun H1 e Q q =>
  h H1 e _ fun H2 e2 => hs H2 (e.trans e2) Q (fun H3 e3 => q H3 (e2.trans e3)) E0
end
/-- one keyword alone -/
def kwV : List V → List V → List V
  | [], zs => zs
  | _ :: _, _ => []
def kwU : List Value → List Value → List Value
  | [], zs => zs
  | _ :: _, _ => []
theorem kw_rel {vs zs : List V} {us ws : List Value} (r : Vals vs us) (rz : Vals zs ws) : Vals (kwV vs zs) (kwU us ws) := by
  cases r with
  | nil => exact rz
  | cons _ _ => exact .nil
end Es
section
open PySem PySem.Sem PySem.Builtin PySem.Builtin.List
/-- a list grows by a tuple's items -/
theorem PySem.es_ext (l : Addr) (its : Array Value) (n : Nat) (b : Addr) (jts : Array Value) (n2 : Nat) (dd : Option Addr) (sl : Array (Option Value)) (hs0 : ¬(!its.isEmpty && listTooLong (its.size + jts.size)) = true)
    (hs1 : its.size ≤ sizeLine) (hs2 : its.size + jts.size ≤ sizeLine + 1) :
    Meets (Builtin.«list.extend» ⟨[.ref l, .ref b], []⟩) (fun _ R s => s.heap.get? l = some { cls := .type "list", dict := none, data := .seq its n, slots := #[] } ∧
      s.heap.get? b = some { cls := .type "tuple", dict := dd, data := .seq jts n2, slots := sl } ∧ R (.ok (.ret Value.none)) { s with heap := s.heap.update l (Obj.mapSeq fun x => x ++ jts), toks := s.toks }) :=
  .of_wp fun prog w A R s h => by
    obtain ⟨hp, g, d, tk, os⟩ := s
    obtain ⟨hl, hb, h⟩ := h
    have f1 := F.sub_tuple_tuple
    have f2 := F.sub_list_list
    have f3 := F.sub_tuple_list
    have f4 := F.sub_list_tuple
    have hz' : (its ++ jts).size ≤ sizeLine + 1 := by
      rw [Array.size_append]
      exact hs2
    wp_walk using (wpAny_updateSeq hl rfl (hz := hs1) (_hz' := hz')), wpAny_loadPart' hl, wpAny_loadPart' hb
    exact ⟨_, rfl, h⟩
end
namespace Es
open PySem PySem.Spec PyProof.Rows L2 Evl
/-- expressions -/
inductive Tr where
  | leaf (k n : Str)
  | node (k : Str) (ps : List Tr)
mutual
def Tr.toD : Tr → PyData
  | .leaf k n => .tuple [.str k, .str n]
  | .node k ps => .tuple (.str k :: Tr.toDs ps)
def Tr.toDs : List Tr → List PyData
  | [] => []
  | t :: r => t.toD :: Tr.toDs r
end
mutual
/-- the leaves from left to right -/
def Tr.lv : Tr → List Tr
  | .leaf k n => [.leaf k n]
  | .node _ ps => Tr.lvs ps
def Tr.lvs : List Tr → List Tr
  | [] => []
  | t :: r => t.lv ++ Tr.lvs r
end
mutual
def Tr.dep : Tr → Nat
  | .leaf _ _ => 0
  | .node _ ps => Tr.deps ps + 1
def Tr.deps : List Tr → Nat
  | [] => 0
  | t :: r => max t.dep (Tr.deps r)
end
def leafKinds : List Str := ["token", "block"]
def nodeKinds : List Str := ["repeat", "optional", "sequence", "choice"]
def names : List Str := ["a", "num", "b", "x", "abcdefgh"]
mutual
def Tr.ok : Tr → Prop
  | .leaf k n => k ∈ leafKinds ∧ n ∈ names
  | .node k ps => k ∈ nodeKinds ∧ ps ≠ [] ∧ Tr.oks ps
def Tr.oks : List Tr → Prop
  | [] => True
  | t :: r => t.ok ∧ Tr.oks r
end
mutual
def Tr.big : Tr → Nat
  | .leaf _ _ => 15
  | .node _ ps => 9 + Tr.bigs ps
def Tr.bigs : List Tr → Nat
  | [] => 0
  | t :: r => t.big + 1 + Tr.bigs r
end
mutual
/-- where an expression stands: not at p -/
inductive TrAt (p : Addr) (H : Hp) : V → Tr → Prop
  | leaf {a : Addr} {k n : Str} : a ≠ p → H a = some (.tup [.str k, .str n]) → TrAt p H (.ref a) (.leaf k n)
  | node {a : Addr} {k : Str} {vs : List V} {ps : List Tr} : a ≠ p → H a = some (.tup (.str k :: vs)) → TrAll p H vs ps → TrAt p H (.ref a) (.node k ps)
inductive TrAll (p : Addr) (H : Hp) : List V → List Tr → Prop
  | nil : TrAll p H [] []
  | cons {v : V} {vs : List V} {t : Tr} {ts : List Tr} : TrAt p H v t → TrAll p H vs ts → TrAll p H (v :: vs) (t :: ts)
end
section
variable {p : Addr} {H H' : Hp} {K : PySem.W.Frag}
mutual
theorem TrAt.xp (e : Xp p H H') : ∀ {v : V} {t : Tr}, TrAt p H v t → TrAt p H' v t
  | _, _, .leaf n h => .leaf n (e _ _ n h)
  | _, _, .node n h r => .node n (e _ _ n h) (TrAll.xp e r)
theorem TrAll.xp (e : Xp p H H') : ∀ {vs : List V} {ts : List Tr}, TrAll p H vs ts → TrAll p H' vs ts
  | _, _, .nil => .nil
  | _, _, .cons h r => .cons (TrAt.xp e h) (TrAll.xp e r)
end
theorem TrAt.up {v : V} {t : Tr} (h : TrAt p H v t) (e : Ex H H') : TrAt p H' v t := h.xp (Xp.ex e)
theorem TrAll.up {v : List V} {t : List Tr} (h : TrAll p H v t) (e : Ex H H') : TrAll p H' v t := h.xp (Xp.ex e)
mutual
theorem TrAt.dp : ∀ {v : V} {t : Tr}, TrAt p H v t → Dp K H v t.toD
  | _, _, .leaf _ h => .tup (st_of h) (.cons (.str _) (.cons (.str _) .nil))
  | _, _, .node _ h r => .tup (st_of h) (.cons (.str _) (TrAll.dp r))
theorem TrAll.dp : ∀ {vs : List V} {ts : List Tr}, TrAll p H vs ts → DpAll K H vs (Tr.toDs ts)
  | _, _, .nil => .nil
  | _, _, .cons h r => .cons (TrAt.dp h) (TrAll.dp r)
end
mutual
theorem TrAt.mutL {l : Addr} {xs ys : List V} (hl : H l = some (.lst xs)) : ∀ {v : V} {t : Tr}, TrAt p H v t → TrAt p (upd H l (.lst ys)) v t
  | _, _, .leaf n h => .leaf n (by rw [upd_ne (ne_of h hl (by intro z; cases z))]; exact h)
  | _, _, .node n h r => .node n (by rw [upd_ne (ne_of h hl (by intro z; cases z))]; exact h) (TrAll.mutL hl r)
theorem TrAll.mutL {l : Addr} {xs ys : List V} (hl : H l = some (.lst xs)) : ∀ {vs : List V} {ts : List Tr}, TrAll p H vs ts → TrAll p (upd H l (.lst ys)) vs ts
  | _, _, .nil => .nil
  | _, _, .cons h r => .cons (TrAt.mutL hl h) (TrAll.mutL hl r)
end
theorem TrAll.append : ∀ {vs ws : List V} {ts us : List Tr}, TrAll p H vs ts → TrAll p H ws us → TrAll p H (vs ++ ws) (ts ++ us)
  | _, _, _, _, .nil, h => h
  | _, _, _, _, .cons h r, k => .cons h (TrAll.append r k)
theorem TrAll.length : ∀ {vs : List V} {ts : List Tr}, TrAll p H vs ts → vs.length = ts.length
  | _, _, .nil => rfl
  | _, _, .cons _ r => by rw [List.length_cons, List.length_cons, TrAll.length r]
theorem TrAll.get : ∀ {vs : List V} {ts : List Tr} {i : Nat} {v : V}, TrAll p H vs ts → vs[i]? = some v → ∃ t, ts[i]? = some t ∧ TrAt p H v t
  | _, _, 0, _, .cons h _, e => ⟨_, rfl, by cases e; exact h⟩
  | _, _, i + 1, _, .cons _ r, e => TrAll.get (i := i) r e
end
theorem oks_get : ∀ {ts : List Tr} {i : Nat} {t : Tr}, Tr.oks ts → ts[i]? = some t → t.ok
  | t :: _, 0, _, h, e => by cases e; exact h.1
  | _ :: r, i + 1, _, h, e => oks_get (i := i) h.2 e
theorem deps_get : ∀ {ts : List Tr} {i : Nat} {t : Tr}, ts[i]? = some t → t.dep ≤ Tr.deps ts
  | t :: r, 0, _, e => by cases e; exact Nat.le_max_left _ _
  | t :: r, i + 1, _, e => Nat.le_trans (deps_get (i := i) e) (Nat.le_max_right _ _)
theorem bigs_get : ∀ {ts : List Tr} {i : Nat} {t : Tr}, ts[i]? = some t → t.big + 1 ≤ Tr.bigs ts
  | t :: r, 0, _, e => by
    cases e
    show t.big + 1 ≤ t.big + 1 + Tr.bigs r
    omega
  | t :: r, i + 1, u, e => by
    have := bigs_get (i := i) (t := u) (ts := r) e
    show u.big + 1 ≤ t.big + 1 + Tr.bigs r
    omega
theorem lvs_snoc : ∀ (ts : List Tr) (i : Nat) (t : Tr), ts[i]? = some t → Tr.lvs (ts.take (i + 1)) = Tr.lvs (ts.take i) ++ t.lv
  | x :: r, 0, t, e => by
    cases e
    show x.lv ++ Tr.lvs (r.take 0) = [] ++ x.lv
    rw [List.take_zero]
    show x.lv ++ [] = [] ++ x.lv
    simp
  | x :: r, i + 1, t, e => by
    show x.lv ++ Tr.lvs (r.take (i + 1)) = (x.lv ++ Tr.lvs (r.take i)) ++ t.lv
    rw [lvs_snoc r i t e, List.append_assoc]
/-! what its writing asks -/
theorem kind_small : ∀ k ∈ leafKinds ++ nodeKinds, k.cps.size ≤ 8 ∧ (k.cps.toList.all fun c => decide (c < 16 ^ 8)) = true := by decide +kernel
theorem name_small : ∀ k ∈ names, k.cps.size ≤ 8 ∧ (k.cps.toList.all fun c => decide (c < 16 ^ 8)) = true := by decide +kernel
theorem lk_size : ∀ k ∈ leafKinds, k.cps.size = 5 := by decide +kernel
mutual
theorem ok_show : ∀ t : Tr, t.ok → t.toD.showable = true ∧ t.toD.hasDict = false ∧ t.toD.leavesShort 30 = true ∧ t.toD.bulk ≤ t.big ∧ t.toD.depth ≤ t.dep + 1
  | .leaf k n, h => by
    obtain ⟨h1, h2⟩ := h
    have a := kind_small k (List.mem_append_left _ h1)
    have b := name_small n h2
    have c := lk_size k h1
    refine ⟨rfl, rfl, ?_, ?_, by show max 0 (max 0 0) + 1 ≤ 0 + 1; decide⟩
    · show ((k.cps.toList.all fun c => decide (c < 16 ^ 8)) && ((n.cps.toList.all fun c => decide (c < 16 ^ 8)) && true)) = true
      rw [a.2, b.2]
      rfl
    · show k.cps.size + 1 + (n.cps.size + 1 + 0) ≤ 15
      omega
  | .node k ps, h => by
    obtain ⟨h1, _, h3⟩ := h
    have a := kind_small k (List.mem_append_right _ h1)
    obtain ⟨r1, r2, r3, r4, r5⟩ := oks_show ps h3
    refine ⟨?_, ?_, ?_, ?_, ?_⟩
    · show (true && PyData.showableAll (Tr.toDs ps)) = true
      rw [r1]
      rfl
    · show (false || PyData.hasDictAll (Tr.toDs ps)) = false
      rw [r2]
      rfl
    · show ((k.cps.toList.all fun c => decide (c < 16 ^ 8)) && PyData.leavesShortAll 30 (Tr.toDs ps)) = true
      rw [a.2, r3]
      rfl
    · show k.cps.size + 1 + PyData.bulkAll (Tr.toDs ps) ≤ 9 + Tr.bigs ps
      omega
    · show max 0 (PyData.depthAll (Tr.toDs ps)) + 1 ≤ Tr.deps ps + 1 + 1
      omega
theorem oks_show : ∀ ts : List Tr, Tr.oks ts → PyData.showableAll (Tr.toDs ts) = true ∧ PyData.hasDictAll (Tr.toDs ts) = false ∧ PyData.leavesShortAll 30 (Tr.toDs ts) = true ∧ PyData.bulkAll (Tr.toDs ts) ≤ Tr.bigs ts ∧ PyData.depthAll (Tr.toDs ts) ≤ Tr.deps ts + 1
  | [], _ => ⟨rfl, rfl, rfl, Nat.le_refl _, Nat.zero_le _⟩
  | t :: r, h => by
    obtain ⟨a1, a2, a3, a4, a5⟩ := ok_show t h.1
    obtain ⟨b1, b2, b3, b4, b5⟩ := oks_show r h.2
    refine ⟨?_, ?_, ?_, ?_, ?_⟩
    · show (t.toD.showable && PyData.showableAll (Tr.toDs r)) = true
      rw [a1, b1]
      rfl
    · show (t.toD.hasDict || PyData.hasDictAll (Tr.toDs r)) = false
      rw [a2, b2]
      rfl
    · show (t.toD.leavesShort 30 && PyData.leavesShortAll 30 (Tr.toDs r)) = true
      rw [a3, b3]
      rfl
    · show t.toD.bulk + 1 + PyData.bulkAll (Tr.toDs r) ≤ t.big + 1 + Tr.bigs r
      omega
    · show max t.toD.depth (PyData.depthAll (Tr.toDs r)) ≤ max t.dep (Tr.deps r) + 1
      omega
end
/-- what repr wants of data -/
def Fine (d : PyData) : Prop := d.showable = true ∧ d.hasDict = false ∧ d.depth ≤ 60 ∧ d.shown.length ≤ 100000
theorem fine_of {d : PyData} {n : Nat} (h1 : d.showable = true) (h2 : d.hasDict = false) (h3 : d.leavesShort 30 = true) (h4 : d.bulk ≤ n) (hn : n ≤ 3000) (h5 : d.depth ≤ 60) : Fine d := by
  refine ⟨h1, h2, h5, ?_⟩
  have := PyData.shown_le_bulk 30 (by decide) d h3
  omega
theorem fine_tr {t : Tr} (h : t.ok) (hb : t.big ≤ 3000) (hd : t.dep ≤ 50) : Fine t.toD := by
  obtain ⟨h1, h2, h3, h4, h5⟩ := ok_show t h
  exact fine_of h1 h2 h3 h4 hb (by omega)
theorem fine_trs {ts : List Tr} (h : Tr.oks ts) (hb : Tr.bigs ts ≤ 3000) (hd : Tr.deps ts ≤ 50) : Fine (.tuple (Tr.toDs ts)) := by
  obtain ⟨h1, h2, h3, h4, h5⟩ := oks_show ts h
  refine fine_of (n := Tr.bigs ts) h1 h2 h3 h4 hb ?_
  show PyData.depthAll (Tr.toDs ts) + 1 ≤ 60
  omega
theorem rc_repr {K : PySem.W.Frag} {H : Hp} {a : Addr} {d : PyData} (h : Dp K H (.ref a) d) (f : Fine d) (up : ∀ H1, Ex H H1 → Dp K H1 (.ref a) d) : RC (rReprD K) [.ref a] H (.str d.shown) := fun H1 e _ q =>
  ⟨a, d, rfl, up H1 e, f.1, f.2.1, f.2.2.1, sz_of f.2.2.2, q H1 (Ex.refl _)⟩
mutual
theorem lv_ok : ∀ t : Tr, t.ok → Tr.oks t.lv ∧ Tr.bigs t.lv ≤ t.big + 1 ∧ Tr.deps t.lv = 0
  | .leaf k n, h => ⟨⟨h, trivial⟩, Nat.le_refl _, rfl⟩
  | .node k ps, h => by
    obtain ⟨a, b, c⟩ := lvs_ok ps h.2.2
    exact ⟨a, by show Tr.bigs (Tr.lvs ps) ≤ 9 + Tr.bigs ps + 1; omega, c⟩
theorem lvs_ok : ∀ ts : List Tr, Tr.oks ts → Tr.oks (Tr.lvs ts) ∧ Tr.bigs (Tr.lvs ts) ≤ Tr.bigs ts ∧ Tr.deps (Tr.lvs ts) = 0
  | [], _ => ⟨trivial, Nat.le_refl _, rfl⟩
  | t :: r, h => by
    obtain ⟨a, b, c⟩ := lv_ok t h.1
    obtain ⟨a', b', c'⟩ := lvs_ok r h.2
    refine ⟨oks_app a a', ?_, ?_⟩
    · show Tr.bigs (t.lv ++ Tr.lvs r) ≤ t.big + 1 + Tr.bigs r
      rw [bigs_app]
      omega
    · show Tr.deps (t.lv ++ Tr.lvs r) = 0
      rw [deps_app, c, c']
      rfl
theorem lvs_take : ∀ (ts : List Tr) (i : Nat), Tr.oks ts → Tr.bigs (Tr.lvs (ts.take i)) ≤ Tr.bigs ts
  | [], i, _ => by rw [List.take_nil]; exact Nat.le_refl _
  | t :: r, 0, _ => Nat.zero_le _
  | t :: r, i + 1, h => by
    have a := (lv_ok t h.1).2.1
    have b := lvs_take r i h.2
    show Tr.bigs (t.lv ++ Tr.lvs (r.take i)) ≤ t.big + 1 + Tr.bigs r
    rw [bigs_app]
    omega
theorem oks_app : ∀ {ts us : List Tr}, Tr.oks ts → Tr.oks us → Tr.oks (ts ++ us)
  | [], _, _, h => h
  | t :: r, _, h, k => ⟨h.1, oks_app h.2 k⟩
theorem bigs_app : ∀ (ts us : List Tr), Tr.bigs (ts ++ us) = Tr.bigs ts + Tr.bigs us
  | [], us => by show Tr.bigs us = 0 + Tr.bigs us; omega
  | t :: r, us => by
    show t.big + 1 + Tr.bigs (r ++ us) = t.big + 1 + Tr.bigs r + Tr.bigs us
    rw [bigs_app r us]
    omega
theorem deps_app : ∀ (ts us : List Tr), Tr.deps (ts ++ us) = max (Tr.deps ts) (Tr.deps us)
  | [], us => by show Tr.deps us = max 0 (Tr.deps us); omega
  | t :: r, us => by
    show max t.dep (Tr.deps (r ++ us)) = max (max t.dep (Tr.deps r)) (Tr.deps us)
    rw [deps_app r us]
    omega
end
section
variable {X : Cx}
/-- xs.extend(a tuple) -/
def rExtT (K : PySem.W.Frag) : V → List V → Hp → VK → Prop := fun x vs H Q => ∃ l b xs zs, x = .ref l ∧ vs = [.ref b] ∧ H l = some (.lst xs) ∧ H b = some (.tup zs) ∧ xs.length + zs.length ≤ sizeLine ∧ Q .non (upd H l (.lst (xs ++ zs)))
theorem mt_extT : MtM X "list.extend" (rExtT X.K) := by
  intro pins s σ H x vs v us Q I rx rv h
  obtain ⟨l, b, xs, zs, rfl, rfl, hH, hB, hz, q⟩ := h
  cases rx
  obtain ⟨u, rfl, ru⟩ := rv.one
  cases ru
  obtain ⟨z, its, n, r, hl, e⟩ := I.lstM hH
  obtain ⟨its2, r2, it2, z2⟩ := I.tuple (st_of hB)
  obtain ⟨⟨cls, dd, data, sl⟩, ho, hc, n2, hd⟩ := it2
  cases (show cls = Value.type "tuple" from hc)
  cases (show data = Data.seq its2.toArray n2 from hd)
  have l2 := r2.length
  have hsz : its.toArray.size + its2.toArray.size ≤ sizeLine := by rw [List.size_toArray, List.size_toArray]; omega
  have hlong : ¬ (!its.toArray.isEmpty && Builtin.List.listTooLong (its.toArray.size + its2.toArray.size)) = true := by
    rw [notLongL hsz, Bool.and_false]
    decide
  refine call_meets F.slot_list_extend ⟨_, e, rfl⟩ F.entry_list_extend (F.args_list_extend_2 _ _) (PySem.es_ext l its.toArray n b its2.toArray n2 dd sl hlong (by rw [List.size_toArray]; omega) (by omega)) ⟨e, ho, ?_⟩
  refine ⟨.non, _, I.lset (its' := its ++ its2) hH e (by simp) (r.append r2) ?_, rfl, q⟩
  rw [List.length_append]
  exact hz
end
end Es
namespace Es
open PySem PySem.Spec PyProof.Rows L2 Evl
/-- a list of leaves to draw from -/
def Menu (p : Addr) (H : Hp) (m : Addr) : Prop := m ≠ p ∧ ∃ ms : List V, H m = some (.lst ms) ∧ 1 ≤ ms.length ∧ ms.length ≤ 20 ∧ ∀ v ∈ ms, ∃ t, TrAt p H v t ∧ t.ok ∧ t.dep = 0
theorem Menu.xp {p m : Addr} {H H' : Hp} (h : Menu p H m) (e : Xp p H H') : Menu p H' m := by
  obtain ⟨n, ms, hm, h1, h2, h3⟩ := h
  refine ⟨n, ms, e _ _ n hm, h1, h2, fun v hv => ?_⟩
  obtain ⟨t, a, b, c⟩ := h3 v hv
  exact ⟨t, a.xp e, b, c⟩
theorem dep0_big {t : Tr} (h : t.dep = 0) : t.big = 15 := by
  cases t with
  | leaf k n => rfl
  | node k ps =>
    have : Tr.deps ps + 1 = 0 := h
    omega
def cost : Nat → Int
  | 0 => 1
  | n + 1 => 3 + 3 * cost n
def bg : Nat → Nat
  | 0 => 15
  | n + 1 => 12 + 3 * bg n
theorem cost_pos : ∀ n, 1 ≤ cost n
  | 0 => by decide
  | n + 1 => by
    have := cost_pos n
    show 1 ≤ 3 + 3 * cost n
    omega
theorem bg_ge : ∀ n, 15 ≤ bg n
  | 0 => by decide
  | n + 1 => by
    have := bg_ge n
    show 15 ≤ 12 + 3 * bg n
    omega
def spExpr (d : Nat) : Sp := fun vs H Q _ => ∃ (p m : Addr) (n : Nat) (c : Int), vs = [.ref p, .ref m, .int (n : Int)] ∧ n < d ∧ n ≤ 8 ∧ 0 ≤ c ∧ c + cost n ≤ 90000 ∧ Pot H p c ∧ Menu p H m ∧
  ∀ v t H', Xp p H H' → TrAt p H' v t → t.ok → t.dep ≤ n → t.big ≤ bg n → Pot H' p (c + cost n) → Q v H'
theorem kind2 (r : Int) (h0 : 2 ≤ r) (h1 : r < 4) : ∃ k ∈ nodeKinds, atI [V.str "repeat", V.str "optional"] (r - 2) = some (V.str k) := by
  have : r = 2 ∨ r = 3 := by omega
  rcases this with h | h <;> subst h
  · exact ⟨"repeat", by decide, rfl⟩
  · exact ⟨"optional", by decide, rfl⟩
theorem kind3 (r : Int) (h0 : 4 ≤ r) (h1 : r < 7) : ∃ k ∈ nodeKinds, atI [V.str "sequence", V.str "choice", V.str "sequence"] (r - 4) = some (V.str k) := by
  have : r = 4 ∨ r = 5 ∨ r = 6 := by omega
  rcases this with h | h | h <;> subst h
  · exact ⟨"sequence", by decide, rfl⟩
  · exact ⟨"choice", by decide, rfl⟩
  · exact ⟨"sequence", by decide, rfl⟩
/-- parts made so far: each of depth at most n -/
def Parts (p : Addr) (H : Hp) (n : Nat) (vs : List V) (ts : List Tr) : Prop := TrAll p H vs ts ∧ Tr.oks ts ∧ Tr.deps ts ≤ n ∧ Tr.bigs ts ≤ ts.length * (bg n + 1)
end Es
namespace Es
open PySem PySem.Spec PyProof.Rows L2 Evl
theorem s_assoc (a b c : Str) : a ++ b ++ c = a ++ (b ++ c) := TL.ext_tl (by simp only [TL.tl_append, List.append_assoc])
theorem join_cons (q x : Str) {L : List Str} (h : L ≠ []) : Str.join q (x :: L) = x ++ q ++ Str.join q L := by
  cases L with
  | nil => exact absurd rfl h
  | cons y r => rfl
/-- two rows of pieces, the last of the one and the first of the other made one -/
def gl : List Str → List Str → List Str
  | [], B => B
  | [x], [] => [x]
  | [x], y :: B => (x ++ y) :: B
  | x :: x' :: A, B => x :: gl (x' :: A) B
theorem gl_ne : ∀ {A B : List Str}, A ≠ [] → gl A B ≠ []
  | [], _, h => absurd rfl h
  | [_], [], _ => by simp [gl]
  | [_], _ :: _, _ => by simp [gl]
  | _ :: _ :: _, _, _ => by simp [gl]
theorem join_gl (q : Str) : ∀ {A B : List Str}, A ≠ [] → B ≠ [] → Str.join q (gl A B) = Str.join q A ++ Str.join q B
  | [], _, h, _ => absurd rfl h
  | [_], [], _, h => absurd rfl h
  | [x], [y], _, _ => rfl
  | [x], y :: z :: B, _, _ => by
    show (x ++ y) ++ q ++ Str.join q (z :: B) = x ++ (y ++ q ++ Str.join q (z :: B))
    simp only [s_assoc]
  | x :: x' :: A, B, _, hB => by
    show Str.join q (x :: gl (x' :: A) B) = (x ++ q ++ Str.join q (x' :: A)) ++ Str.join q B
    rw [join_cons q x (gl_ne (by simp)), join_gl q (by simp) hB]
    simp only [s_assoc]
def Bad (x : Str) : Prop := ∃ c ∈ x.cps.toList, Unicode.isAlpha c = false
theorem Bad.not {x : Str} (h : Bad x) : Txt.isalpha x = false := by
  obtain ⟨c, hc, e⟩ := h
  unfold Txt.isalpha
  rw [← Array.all_toList]
  have : x.cps.toList.all Unicode.isAlpha = false := by
    rw [List.all_eq_false]
    exact ⟨c, hc, by rw [e]; decide⟩
  rw [this, Bool.and_false]
theorem Bad.left {x y : Str} (h : Bad x) : Bad (x ++ y) := by
  obtain ⟨c, hc, e⟩ := h
  refine ⟨c, ?_, e⟩
  show c ∈ TL.tl (x ++ y)
  rw [TL.tl_append]
  exact List.mem_append_left _ hc
theorem Bad.right {x y : Str} (h : Bad y) : Bad (x ++ y) := by
  obtain ⟨c, hc, e⟩ := h
  refine ⟨c, ?_, e⟩
  show c ∈ TL.tl (x ++ y)
  rw [TL.tl_append]
  exact List.mem_append_right _ hc
def HB : List Str → Prop
  | [] => False
  | x :: _ => Bad x
def LB : List Str → Prop
  | [] => False
  | [x] => Bad x
  | _ :: y :: r => LB (y :: r)
theorem HB.ne {L : List Str} (h : HB L) : L ≠ [] := fun z => by subst z; exact h
theorem LB.ne {L : List Str} (h : LB L) : L ≠ [] := fun z => by subst z; exact h
theorem HB.gl {A B : List Str} (h : HB A) : HB (gl A B) := by
  match A, B, h with
  | [x], [], h => exact h
  | [x], y :: B, h => exact Bad.left h
  | x :: x' :: A, B, h => exact h
theorem LB.gl : ∀ {A B : List Str}, A ≠ [] → LB B → LB (gl A B)
  | [], _, h, _ => absurd rfl h
  | [x], [], _, h => h.elim
  | [x], [y], _, h => Bad.right (show Bad y from h)
  | [x], y :: z :: B, _, h => h
  | x :: x' :: A, B, _, h => by
    have k := LB.gl (A := x' :: A) (by simp) h
    have n := gl_ne (A := x' :: A) (B := B) (by simp)
    show LB (x :: Es.gl (x' :: A) B)
    cases e : Es.gl (x' :: A) B with
    | nil => exact absurd e n
    | cons u r =>
      rw [e] at k
      exact k
theorem fa_gl : ∀ {A B : List Str}, LB A → HB B → (gl A B).filter Txt.isalpha = A.filter Txt.isalpha ++ B.filter Txt.isalpha
  | [], _, h, _ => h.elim
  | [_], [], _, h => h.elim
  | [x], y :: B, h, k => by
    show ((x ++ y) :: B).filter Txt.isalpha = [x].filter Txt.isalpha ++ (y :: B).filter Txt.isalpha
    rw [List.filter_cons_of_neg (by rw [Bad.not (Bad.left h)]; decide), List.filter_cons_of_neg (by rw [Bad.not h]; decide), List.filter_cons_of_neg (by rw [Bad.not (show Bad y from k)]; decide)]
    rfl
  | x :: x' :: A, B, h, k => by
    show (x :: gl (x' :: A) B).filter Txt.isalpha = (x :: x' :: A).filter Txt.isalpha ++ B.filter Txt.isalpha
    have ih := fa_gl (A := x' :: A) (B := B) h k
    cases e : Txt.isalpha x with
    | true => rw [List.filter_cons_of_pos e, List.filter_cons_of_pos e, ih]; rfl
    | false => rw [List.filter_cons_of_neg (by rw [e]; decide), List.filter_cons_of_neg (by rw [e]; decide), ih]
theorem mem_gl {P : Str → Prop} (ha : ∀ x y, P x → P y → P (x ++ y)) : ∀ {A B : List Str}, (∀ x ∈ A, P x) → (∀ x ∈ B, P x) → ∀ x ∈ gl A B, P x
  | [], _, _, h => h
  | [x], [], h, _ => h
  | [x], y :: B, h, k => fun z hz => by
    rcases List.mem_cons.mp hz with e | e
    · rw [e]
      exact ha _ _ (h x (List.mem_singleton.mpr rfl)) (k y (List.mem_cons_self ..))
    · exact k z (List.mem_cons_of_mem _ e)
  | x :: x' :: A, B, h, k => fun z hz => by
    rcases List.mem_cons.mp hz with e | e
    · rw [e]
      exact h x (List.mem_cons_self ..)
    · exact mem_gl ha (fun w hw => h w (List.mem_cons_of_mem _ hw)) k z e
mutual
def pcs : Tr → List Str
  | .leaf k n => ["(", k, ", ", n, ")"]
  | .node k ps => gl ["(", k, ", "] (pcss ps)
def pcss : List Tr → List Str
  | [] => [")"]
  | t :: r => match r with
    | [] => gl (pcs t) [")"]
    | _ :: _ => gl (pcs t) (gl [", "] (pcss r))
end
mutual
def wds : Tr → List Str
  | .leaf k n => [k, n]
  | .node k ps => k :: wdss ps
def wdss : List Tr → List Str
  | [] => []
  | t :: r => wds t ++ wdss r
end
theorem bad_open : Bad "(" := ⟨40, by decide, by decide +kernel⟩
theorem bad_close : Bad ")" := ⟨41, by decide, by decide +kernel⟩
theorem bad_comma : Bad ", " := ⟨44, by decide, by decide +kernel⟩
def Clean (x : Str) : Prop := (39 : Nat) ∉ x.cps.toList
theorem Clean.app (x y : Str) (a : Clean x) (b : Clean y) : Clean (x ++ y) := by
  intro h
  have h' : (39 : Nat) ∈ TL.tl (x ++ y) := h
  rw [TL.tl_append] at h'
  rcases List.mem_append.mp h' with z | z
  · exact a z
  · exact b z
theorem kinds_fact : ∀ k ∈ leafKinds ++ nodeKinds, Txt.isalpha k = true ∧ k.cps.toList.contains 39 = false ∧ reprText k = "'" ++ k ++ "'" := by decide +kernel
theorem names_fact : ∀ k ∈ names, Txt.isalpha k = true ∧ k.cps.toList.contains 39 = false ∧ reprText k = "'" ++ k ++ "'" := by decide +kernel
theorem clean_of {k : Str} (h : k.cps.toList.contains 39 = false) : Clean k := fun z => by
  rw [List.contains_iff_mem.mpr z] at h
  cases h
theorem clean_open : Clean "(" := by unfold Clean; decide
theorem clean_close : Clean ")" := by unfold Clean; decide
theorem clean_comma : Clean ", " := by unfold Clean; decide
mutual
theorem pcs_ok : ∀ t : Tr, t.ok → HB (pcs t) ∧ LB (pcs t) ∧ (pcs t).filter Txt.isalpha = wds t ∧ (∀ x ∈ pcs t, Clean x) ∧ Str.join "'" (pcs t) = t.toD.shown
  | .leaf k n, h => by
    obtain ⟨a1, a2, a3⟩ := kinds_fact k (List.mem_append_left _ h.1)
    obtain ⟨b1, b2, b3⟩ := names_fact n h.2
    refine ⟨bad_open, bad_close, ?_, ?_, ?_⟩
    · show (["(", k, ", ", n, ")"] : List Str).filter Txt.isalpha = [k, n]
      rw [List.filter_cons_of_neg (by rw [bad_open.not]; decide), List.filter_cons_of_pos a1, List.filter_cons_of_neg (by rw [bad_comma.not]; decide), List.filter_cons_of_pos b1, List.filter_cons_of_neg (by rw [bad_close.not]; decide)]
      rfl
    · intro x hx
      simp only [pcs, List.mem_cons, List.not_mem_nil, or_false] at hx
      rcases hx with rfl | rfl | rfl | rfl | rfl
      · exact clean_open
      · exact clean_of a2
      · exact clean_comma
      · exact clean_of b2
      · exact clean_close
    · show "(" ++ "'" ++ (k ++ "'" ++ (", " ++ "'" ++ (n ++ "'" ++ ")"))) = ("(" : Str) ++ (reprText k ++ ", " ++ reprText n) ++ ")"
      rw [a3, b3]
      simp only [s_assoc]
  | .node k ps, h => by
    obtain ⟨a1, a2, a3⟩ := kinds_fact k (List.mem_append_right _ h.1)
    obtain ⟨b1, b2, b3, b4, b5⟩ := pcss_ok ps h.2.1 h.2.2
    have hl : LB ["(", k, ", "] := bad_comma
    refine ⟨HB.gl (show HB ["(", k, ", "] from bad_open), LB.gl (by simp) b2, ?_, ?_, ?_⟩
    · show (gl ["(", k, ", "] (pcss ps)).filter Txt.isalpha = k :: wdss ps
      rw [fa_gl hl b1, b3, List.filter_cons_of_neg (by rw [bad_open.not]; decide), List.filter_cons_of_pos a1, List.filter_cons_of_neg (by rw [bad_comma.not]; decide)]
      rfl
    · refine mem_gl Clean.app ?_ b4
      intro x hx
      simp only [List.mem_cons, List.not_mem_nil, or_false] at hx
      rcases hx with rfl | rfl | rfl
      · exact clean_open
      · exact clean_of a2
      · exact clean_comma
    · show Str.join "'" (gl ["(", k, ", "] (pcss ps)) = tupleText (reprText k :: PyData.shownAll (Tr.toDs ps))
      rw [join_gl _ (by simp) b1.ne, b5]
      obtain ⟨t, r, rfl⟩ : ∃ t r, ps = t :: r := by
        cases ps with
        | nil => exact absurd rfl h.2.1
        | cons t r => exact ⟨t, r, rfl⟩
      have hs : PyData.shownAll (Tr.toDs (t :: r)) = t.toD.shown :: PyData.shownAll (Tr.toDs r) := rfl
      unfold tupleText
      rw [hs, if_neg (by simp), a3]
      rw [join_cons ", " ("'" ++ k ++ "'") (L := t.toD.shown :: PyData.shownAll (Tr.toDs r)) (by simp)]
      show "(" ++ "'" ++ (k ++ "'" ++ ", ") ++ (Str.join ", " (t.toD.shown :: PyData.shownAll (Tr.toDs r)) ++ ")") = _
      simp only [s_assoc]
theorem pcss_ok : ∀ ts : List Tr, ts ≠ [] → Tr.oks ts → HB (pcss ts) ∧ LB (pcss ts) ∧ (pcss ts).filter Txt.isalpha = wdss ts ∧ (∀ x ∈ pcss ts, Clean x) ∧ Str.join "'" (pcss ts) = Str.join ", " (PyData.shownAll (Tr.toDs ts)) ++ ")"
  | [], h, _ => absurd rfl h
  | [t], _, h => by
    obtain ⟨b1, b2, b3, b4, b5⟩ := pcs_ok t h.1
    refine ⟨HB.gl b1, LB.gl b1.ne (show LB [")"] from bad_close), ?_, ?_, ?_⟩
    · show (gl (pcs t) [")"]).filter Txt.isalpha = wds t ++ []
      rw [fa_gl b2 (show HB [")"] from bad_close), b3, List.filter_cons_of_neg (by rw [bad_close.not]; decide)]
      rfl
    · refine mem_gl Clean.app b4 ?_
      intro x hx
      rw [List.mem_singleton.mp hx]
      exact clean_close
    · show Str.join "'" (gl (pcs t) [")"]) = t.toD.shown ++ ")"
      rw [join_gl _ b1.ne (by simp), b5]
      rfl
  | t :: u :: r, _, h => by
    obtain ⟨b1, b2, b3, b4, b5⟩ := pcs_ok t h.1
    obtain ⟨c1, c2, c3, c4, c5⟩ := pcss_ok (u :: r) (by simp) h.2
    have hc : HB (gl [", "] (pcss (u :: r))) := HB.gl (show HB [", "] from bad_comma)
    refine ⟨HB.gl b1, LB.gl b1.ne (LB.gl (by simp) c2), ?_, ?_, ?_⟩
    · show (gl (pcs t) (gl [", "] (pcss (u :: r)))).filter Txt.isalpha = wds t ++ wdss (u :: r)
      rw [fa_gl b2 hc, b3, fa_gl (show LB [", "] from bad_comma) c1, c3, List.filter_cons_of_neg (by rw [bad_comma.not]; decide)]
      rfl
    · refine mem_gl Clean.app b4 (mem_gl Clean.app ?_ c4)
      intro x hx
      rw [List.mem_singleton.mp hx]
      exact clean_comma
    · show Str.join "'" (gl (pcs t) (gl [", "] (pcss (u :: r)))) = (t.toD.shown ++ ", " ++ Str.join ", " (PyData.shownAll (Tr.toDs (u :: r)))) ++ ")"
      rw [join_gl _ b1.ne hc.ne, b5, join_gl _ (by simp) c1.ne, c5]
      show t.toD.shown ++ (", " ++ (Str.join ", " (PyData.shownAll (Tr.toDs (u :: r))) ++ ")")) = _
      simp only [s_assoc]
end
theorem gl_len : ∀ A B : List Str, (gl A B).length ≤ A.length + B.length
  | [], B => by show B.length ≤ 0 + B.length; omega
  | [x], [] => Nat.le_refl _
  | [x], y :: B => by show B.length + 1 ≤ 1 + (B.length + 1); omega
  | x :: x' :: A, B => by
    have := gl_len (x' :: A) B
    show (gl (x' :: A) B).length + 1 ≤ (x' :: A).length + 1 + B.length
    omega
mutual
theorem pcs_len : ∀ t : Tr, (pcs t).length ≤ t.big
  | .leaf k n => by show 5 ≤ 15; decide
  | .node k ps => by
    have a := gl_len ["(", k, ", "] (pcss ps)
    have b := pcss_len ps
    show (gl ["(", k, ", "] (pcss ps)).length ≤ 9 + Tr.bigs ps
    have c : (["(", k, ", "] : List Str).length = 3 := rfl
    omega
theorem pcss_len : ∀ ts : List Tr, (pcss ts).length ≤ Tr.bigs ts + 1
  | [] => Nat.le_refl _
  | [t] => by
    have a := gl_len (pcs t) [")"]
    have b := pcs_len t
    show (gl (pcs t) [")"]).length ≤ t.big + 1 + 0 + 1
    have c : ([")"] : List Str).length = 1 := rfl
    omega
  | t :: u :: r => by
    have a := gl_len (pcs t) (gl [", "] (pcss (u :: r)))
    have b := gl_len [", "] (pcss (u :: r))
    have c := pcs_len t
    have d := pcss_len (u :: r)
    show (gl (pcs t) (gl [", "] (pcss (u :: r)))).length ≤ t.big + 1 + Tr.bigs (u :: r) + 1
    have e : ([", "] : List Str).length = 1 := rfl
    omega
end
/-- the words of what is written -/
theorem split_of {t : Tr} (h : t.ok) : Txt.split t.toD.shown "'" = pcs t := by
  obtain ⟨h1, h2, h3, h4, h5⟩ := pcs_ok t h
  rw [← h5, ← TL.join_eq, TL.split_join (y := "'") (s := 39) (S := []) rfl (by decide +kernel) h1.ne h4]
theorem words_of {t : Tr} (h : t.ok) : (Txt.split t.toD.shown "'").filter Txt.isalpha = wds t := by
  rw [split_of h]
  exact (pcs_ok t h).2.2.1
/-! the pairs -/
def prs : List Str → List Tr
  | a :: b :: r => if a ∈ leafKinds then .leaf a b :: prs (b :: r) else prs (b :: r)
  | _ => []
def LN : List Str → Prop
  | [] => False
  | [x] => x ∉ leafKinds
  | _ :: y :: r => LN (y :: r)
theorem prs_app : ∀ {A B : List Str}, LN A → prs (A ++ B) = prs A ++ prs B
  | [], _, h => h.elim
  | [x], [], _ => rfl
  | [x], y :: B, h => by
    show (if x ∈ leafKinds then _ else prs (y :: B)) = [] ++ prs (y :: B)
    rw [if_neg (show x ∉ leafKinds from h)]
    rfl
  | x :: y :: A, B, h => by
    have ih := prs_app (A := y :: A) (B := B) h
    show (if x ∈ leafKinds then Tr.leaf x y :: prs (y :: A ++ B) else prs (y :: A ++ B)) = (if x ∈ leafKinds then Tr.leaf x y :: prs (y :: A) else prs (y :: A)) ++ prs B
    rw [ih]
    split <;> rfl
theorem LN.app : ∀ {A B : List Str}, LN B → LN (A ++ B)
  | [], _, h => h
  | [x], [], h => h.elim
  | [x], y :: B, h => h
  | x :: y :: A, B, h => LN.app (A := y :: A) h
theorem LN.cons {x : Str} {A : List Str} (h : LN A) : LN (x :: A) := LN.app (A := [x]) h
theorem name_not : ∀ n ∈ names, n ∉ leafKinds := by decide
theorem kind_not : ∀ n ∈ nodeKinds, n ∉ leafKinds := by decide
mutual
theorem wds_lv : ∀ t : Tr, t.ok → LN (wds t) ∧ prs (wds t) = t.lv
  | .leaf k n, h => ⟨name_not n h.2, by
    show (if k ∈ leafKinds then Tr.leaf k n :: [] else []) = [Tr.leaf k n]
    rw [if_pos h.1]⟩
  | .node k ps, h => by
    obtain ⟨a, b⟩ := wdss_lv ps h.2.1 h.2.2
    refine ⟨LN.cons a, ?_⟩
    show prs ([k] ++ wdss ps) = Tr.lvs ps
    rw [prs_app (A := [k]) (kind_not k h.1), b]
    rfl
theorem wdss_lv : ∀ ts : List Tr, ts ≠ [] → Tr.oks ts → LN (wdss ts) ∧ prs (wdss ts) = Tr.lvs ts
  | [], h, _ => absurd rfl h
  | [t], _, h => by
    obtain ⟨a, b⟩ := wds_lv t h.1
    show LN (wds t ++ []) ∧ prs (wds t ++ []) = t.lv ++ []
    rw [List.append_nil, List.append_nil]
    exact ⟨a, b⟩
  | t :: u :: r, _, h => by
    obtain ⟨a, b⟩ := wds_lv t h.1
    obtain ⟨c, d⟩ := wdss_lv (u :: r) (by simp) h.2
    refine ⟨LN.app (A := wds t) c, ?_⟩
    show prs (wds t ++ wdss (u :: r)) = t.lv ++ Tr.lvs (u :: r)
    rw [prs_app a, b, d]
end
theorem prs_snoc : ∀ (ws : List Str) (i : Nat) (a b : Str), ws[i]? = some a → ws[i + 1]? = some b → prs (ws.take (i + 2)) = prs (ws.take (i + 1)) ++ (if a ∈ leafKinds then [.leaf a b] else [])
  | x :: y :: r, 0, a, b, h1, h2 => by
    cases h1
    cases h2
    show (if x ∈ leafKinds then Tr.leaf x y :: prs [y] else prs [y]) = [] ++ _
    split <;> rfl
  | x :: y :: r, i + 1, a, b, h1, h2 => by
    have ih := prs_snoc (y :: r) i a b h1 h2
    show (if x ∈ leafKinds then Tr.leaf x y :: prs ((y :: r).take (i + 2)) else prs ((y :: r).take (i + 2))) = (if x ∈ leafKinds then Tr.leaf x y :: prs ((y :: r).take (i + 1)) else prs ((y :: r).take (i + 1))) ++ _
    rw [ih]
    split <;> rfl
  | [x], 0, _, _, _, h2 => by cases h2
  | [x], i + 1, _, _, h1, _ => by cases h1
  | [], _, _, _, h1, _ => by cases h1
end Es
namespace K03
open PySem PySem.Spec PyProof.Rows L2 Evl Es
def topS (i : Nat) : Stmt := PySem.Challenge.pw_errorspans_k03_leaves_from_left_to_right.main.body.getD i (.Pass ⟨0, 0, 0, 0⟩)
abbrev sLeaves : Stmt := topS 2
abbrev sPot : Stmt := topS 4
abbrev sTake : Stmt := topS 5
abbrev sPick : Stmt := topS 6
abbrev sExpr : Stmt := topS 7
abbrev sDue : Stmt := topS 8
abbrev sSmall : Stmt := topS 9
abbrev sRight : Stmt := topS 10
abbrev sLaw : Stmt := topS 11
theorem scLeaves : FnScope ["expression", "found", "part"] ["expression"] (defScope sLeaves) := ⟨rfl, rfl, rfl, by decide +kernel, rfl, by decide +kernel, by decide +kernel⟩
def spLeaves (d : Nat) : Sp := fun vs H Q _ => ∃ (p : Addr) (v : V) (t : Tr), vs = [v] ∧ TrAt p H v t ∧ t.ok ∧ t.dep < d ∧ t.big ≤ 3000 ∧
  ∀ a ws H', H a = none → Ex H H' → H' a = some (.tup ws) → TrAll p H' ws t.lv → Q (.ref a) H'
theorem cut_1 (xs : List V) : cutV xs (some 1) none = xs.drop 1 := by
  unfold cutV
  rw [HT.sIx_none, show HT.sIx xs.length 0 (some (1 : Int)) = min 1 xs.length from HT.sIx_nat xs.length 0 1]
  cases xs with
  | nil => rfl
  | cons x r =>
    have e : min 1 (x :: r).length = 1 := by rw [List.length_cons]; omega
    rw [e, List.take_of_length_le (by rw [List.length_drop]; omega)]
theorem lk_in : ∀ k ∈ leafKinds, inV (.str k) [.str "token", .str "block"] = true := by decide +kernel
theorem nk_in : ∀ k ∈ nodeKinds, inV (.str k) [.str "token", .str "block"] = false := by decide +kernel
theorem big_len : ∀ ts : List Tr, ts.length ≤ Tr.bigs ts
  | [] => Nat.le_refl _
  | t :: r => by
    have := big_len r
    show r.length + 1 ≤ t.big + 1 + Tr.bigs r
    omega
section
variable {P : Program} {w : World} {K : PySem.W.Frag} {mg : Str → Option Value} {base : Heap}
theorem ok_leaves {f aL : Addr} {fd : FuncData} (F : Fun K "leaves" "leaves" sLeaves f fd) (b : Binds K fd ["expression"] []) (g : mg "leaves" = some (.ref f)) (mT : mg "tuple" = none) (mL : mg "LEAF_KINDS" = some (.ref aL))
    (hL : ∀ H, SqT K H aL [.str "token", .str "block"]) : ∀ d : Nat, FnOk P w K mg base CX0 d f fd ["expression"] (spLeaves d) := by
  intro d
  induction d with
  | zero => exact ⟨fun vs H Q E ⟨_, _, _, _, _, _, h, _⟩ => absurd h (Nat.not_lt_zero _), fun _ _ _ _ _ _ _ _ _ _ _ _ _ ⟨_, _, _, _, _, _, h, _⟩ => absurd h (Nat.not_lt_zero _)⟩
  | succ d ih =>
    refine F.ok scLeaves (fun vs H Q E h => ?_) (fun cdv A outer s H vs Q E hr h => ?_)
    · obtain ⟨p, v, t, rfl, _⟩ := h
      rfl
    · obtain ⟨p, v, t, rfl, ht, hok, hd, hbg, q⟩ := h
      refine ⟨_, pss_cons (ps_if (pt_cmpR op_in_seq (pe_ix ix_tup (pv 0) pe_int (fun _ _ => rfl)) (pe_glob (v := .ref aL) (by rfl) mL rfl) (by rfl)) (pss_one (ps_ret (pe_tup (pa_cons (pv 0) pa_nil)))) pss_nil)
        (pss_cons (ps_set (i := 1) scLeaves.nd rfl (.inl rfl) (pe_lst pa_nil))
        (pss_cons (ps_for PassesOwn.never rfl (pi_tup (pe_slice sl_tup (pv 0) (po_some pe_int) po_none)) (pg_name (i := 2) scLeaves.nd rfl (.inl rfl))
          (pss_one (ps_expr (pe_bm PySem.F.plainAttrs_list PySem.F.slot_list_extend PySem.F.type_list_extend mt_extT (pv 1) (pa_cons (pe_call ih hr (by rfl) g F.kp b .nil pass0 (pa_cons (pv 2) pa_nil)) pa_nil)))))
        (pss_one (ps_ret (pe_callTy call_tuple_of (by rfl) mT (by decide +kernel) (pa_cons (pv 1) pa_nil)))))), ?_⟩
      cases ht with
      | @leaf a k n ne h =>
        refine q_when (et_test (ev_op (ev_op (ev_var rfl) ev_c (rv_ixT (st_of h) rfl)) ev_c (rv_isT (x := .str k) (hL _) rfl (by decide)))) (fun hb H1 e1 => ?_) (fun hb => ?_)
        · refine s_retU (eu_tup (ea_cons (ev_var rfl) ea_nil) (by show 1 ≤ 100000; decide)) fun c H2 hc e2 h2 => ?_
          exact q c _ H2 (fresh_back e1 hc) (e1.trans e2) h2 (.cons (.leaf ne (e2 _ _ (e1 _ _ h))) .nil)
        · rw [lk_in k hok.1] at hb
          cases hb
      | @node a k vs ps ne h hall =>
        refine q_when (et_test (ev_op (ev_op (ev_var rfl) ev_c (rv_ixT (st_of h) (atI_nat (j := 0) rfl))) ev_c (rv_isT (x := .str k) (hL _) rfl (by decide)))) (fun hb => ?_) (fun hb H1 e1 => ?_)
        · rw [nk_in k hok.1] at hb
          cases hb
        · refine q_asgL (el_lst ea_nil (by decide)) fun l H2 hl e2 h2 => ?_
          have ha := e2 _ _ (e1 _ _ h)
          have hlen := TrAll.length hall
          have hbl := big_len ps
          have hbig : Tr.bigs ps ≤ 3000 := by
            have : 9 + Tr.bigs ps ≤ 3000 := hbg
            omega
          refine ⟨.ref a, rfl, 1, rfl, a, _, rfl, st_of ha, ?_, fun sl nsl => ?_⟩
          · rw [show HT.sIx (V.str k :: vs).length 0 (some (1 : Int)) = min 1 (V.str k :: vs).length from HT.sIx_nat _ 0 1, List.length_cons]
            omega
          rw [cut_1]
          have e3 := Ex.new (o := .tup vs) nsl
          have nl : sl ≠ l := fun z => by
            subst z
            rw [h2] at nsl
            cases nsl
          refine ⟨sl, rfl, ⟨vs, st_of upd_same⟩, for_tup (fun i σ H' => Ex H1 H' ∧ H' sl = some (.tup vs) ∧ ∃ ws y, H' l = some (.lst ws) ∧ TrAll p H' ws (Tr.lvs (ps.take i)) ∧ σ = [some (.ref a), some (.ref l), y])
            ⟨e2.trans e3, upd_same, [], none, e3 _ _ h2, .nil, rfl⟩ (fun i σ H' _ x => st_of x.2.1) ?_ ?_⟩
          · rintro i x σ H' hx ⟨ei, hsl, ws, y, hw, hwa, rfl⟩
            obtain ⟨u, hu, hxu⟩ := hall.get hx
            have hxu' : TrAt p H' x u := hxu.up (e1.trans ei)
            have hdu := deps_get hu
            have hdd : Tr.deps ps + 1 < d + 1 := hd
            have hub : u.big + 1 ≤ Tr.bigs ps := bigs_get hu
            have hlw := TrAll.length hwa
            refine ⟨.ref l, rfl, .inl ⟨rfl, _, sq_of hw⟩, x, rfl, p, x, u, rfl, hxu', oks_get hok.2.2 hu, by omega, by omega, fun c zs H3 nc e4 hc hz => ?_⟩
            have hlz := TrAll.length hz
            have b1 := big_len u.lv
            have b2 := (lv_ok u (oks_get hok.2.2 hu)).2.1
            have b3 := big_len (Tr.lvs (ps.take i))
            have b4 : Tr.bigs (Tr.lvs (ps.take i)) ≤ Tr.bigs ps := lvs_take ps i hok.2.2
            refine ⟨l, c, ws, zs, rfl, rfl, e4 _ _ hw, hc, sz_of (by omega), ?_⟩
            have hl1 : H1 l = none := hl
            refine ⟨Ex.mut (ei.trans e4) hl1, ?_, ws ++ zs, some x, upd_same, ?_, rfl⟩
            · rw [upd_ne nl]
              exact e4 _ _ hsl
            · rw [lvs_snoc ps i u hu]
              exact ((hwa.up e4).append hz).mutL (e4 _ _ hw)
          · rintro σ H' ⟨ei, hsl, ws, y, hw, hwa, rfl⟩
            rw [hlen, List.take_length] at hwa
            refine ⟨.ref l, rfl, l, ws, rfl, .inl ⟨sq_of hw, fun c nc => ?_⟩⟩
            exact q c ws _ (fresh_back (e1.trans ei) nc) ((e1.trans ei).trans (Ex.new nc)) upd_same (hwa.up (Ex.new nc))
end
end K03
namespace K03
open PySem PySem.Spec PyProof.Rows L2 Evl Es
theorem scPot : FnScope ["_law_script", "_law_k", "_law_cell", "_law_great"] ["_law_script", "_law_k"] (defScope sPot) := ⟨rfl, rfl, rfl, by decide +kernel, rfl, by decide +kernel, by decide +kernel⟩
theorem scTake : FnScope ["_law_pot_here", "_law_size", "_law_digit", "_law_prime", "_law_mixed"] ["_law_pot_here", "_law_size"] (defScope sTake) := ⟨rfl, rfl, rfl, by decide +kernel, rfl, by decide +kernel, by decide +kernel⟩
theorem scPick : FnScope ["_law_pot_here", "_law_some"] ["_law_pot_here", "_law_some"] (defScope sPick) := ⟨rfl, rfl, rfl, by decide +kernel, rfl, by decide +kernel, by decide +kernel⟩
section
variable {P : Program} {w : World} {K : PySem.W.Frag} {mg : Str → Option Value} {base : Heap}
def primes : List V := [.int 2147483647, .int 2147483629, .int 2147483587, .int 2147483579, .int 2147483563]
theorem prime_at (j : Int) (h0 : 0 ≤ j) (h5 : j < 5) : ∃ r : Int, atI primes j = some (.int r) ∧ 0 < r ∧ r ≤ 2147483647 := by
  have : j = 0 ∨ j = 1 ∨ j = 2 ∨ j = 3 ∨ j = 4 := by omega
  rcases this with h | h | h | h | h <;> subst h <;> exact ⟨_, rfl, by decide, by decide⟩
theorem ok_take {f : Addr} {fd : FuncData} {k : Nat} (F : Fun K "_law_take" "_law_take" sTake f fd) : FnOk P w K mg base CX0 (k + 1) f fd ["_law_pot_here", "_law_size"] spTake := by
  refine F.ok scTake (fun vs H Q E h => ?_) (fun cdv A outer s H vs Q E hr h => ?_)
  · obtain ⟨p, n, m, rfl, _⟩ := h
    rfl
  · obtain ⟨p, n, m, rfl, hn1, hn2, hm, hP, q⟩ := h
    obtain ⟨g, s0, c, hp, hg, hs0, hs1, hc0, hc1⟩ := hP
    refine ⟨_, pss_cons (ps_if (pt_cmpR op_gt (pe_ix ix_list (pv 0) pe_int (fun _ _ => rfl)) pe_int (nomark _))
        (pss_cons (ps_set (i := 2) scTake.nd rfl (.inl rfl) (pe_op op_mod (pe_ix ix_list (pv 0) pe_int (fun _ _ => rfl)) (pv 1)))
        (pss_cons (ps_asg (pe_op op_fdiv (pe_ix ix_list (pv 0) pe_int (fun _ _ => rfl)) (pv 1)) (pg_sub (pv 0) pe_int set_list))
        (pss_one (ps_ret (pv 2))))) pss_nil)
      (pss_cons (ps_asg (pe_op op_add (pe_ix ix_list (pv 0) pe_int (fun _ _ => rfl)) pe_int) (pg_sub (pv 0) pe_int set_list))
      (pss_cons (ps_set (i := 3) scTake.nd rfl (.inl rfl) (pe_ix ix_list (pe_lst (pa_cons pe_int (pa_cons pe_int (pa_cons pe_int (pa_cons pe_int (pa_cons pe_int pa_nil)))))) (pe_op op_mod (pe_ix ix_list (pv 0) pe_int (fun _ _ => rfl)) pe_int) (fun _ _ => rfl)))
      (pss_cons (ps_set (i := 4) scTake.nd rfl (.inl rfl) (pe_op op_mod (pe_op op_pow (pe_op op_add (pe_op op_add (pe_ix ix_list (pv 0) pe_int (fun _ _ => rfl))
        (pe_op op_mul (pe_op op_mul pe_int (pe_ix ix_list (pv 0) pe_int (fun _ _ => rfl))) (pe_ix ix_list (pv 0) pe_int (fun _ _ => rfl)))) pe_int) pe_int) (pv 3)))
      (pss_one (ps_ret (pe_op op_mod (pe_op op_fdiv (pe_op op_mod (pe_op op_mul (pv 4) (pe_op op_add (pe_op op_mod (pv 4) pe_int) (pe_op op_mul pe_int (pe_ix ix_list (pv 0) pe_int (fun _ _ => rfl))))) pe_int) pe_int) (pv 1))))))), ?_⟩
    have ix : ∀ {H1 : Hp} {σ : L2.St} {xs : List V} {j : Int} {v : V}, H1 p = some (.lst xs) → σ[0]? = some (some (.ref p)) → atI xs j = some v → Ev (tOp (rIxL K) (tVar 0) (tC (.int j))) σ H1 v :=
      fun h h0 ha => ev_op (ev_var h0) ev_c (rv_ixL (sq_of h) ha)
    refine q_when (et_test (ev_op (ix hp rfl rfl) ev_c rv_I0)) (fun hb H1 e1 => ?_) (fun hb H1 e1 => ?_)
    · refine q_asg (ev_op (ix (e1 _ _ hp) rfl rfl) (ev_var rfl) (rv_I (by show (0 : Int) < n; omega))) fun H2 e2 => ?_
      refine q_setL (j := 0) (e2 _ _ (e1 _ _ hp)) (ev_op (ix (e2 _ _ (e1 _ _ hp)) rfl rfl) (ev_var rfl) (rv_I ⟨by omega, by omega⟩)) (ev_var rfl) ev_c (by show 0 < 3; decide) fun H3 e3 => ?_
      refine s_ret (ev_var rfl) fun H4 e4 => ?_
      refine q (g % n) H4 (Int.emod_nonneg _ (by omega)) (Int.emod_lt_of_pos _ (by omega)) (((Xp.ex ((e1.trans e2).trans e3)).trans Xp.upd).trans (Xp.ex e4)) ?_
      exact ⟨g / n, s0, c, e4 _ _ upd_same, Int.ediv_nonneg hg (by omega), hs0, hs1, hc0, by omega⟩
    · refine q_setL (j := 2) (e1 _ _ hp) (ev_op (ix (e1 _ _ hp) rfl rfl) ev_c rv_I0) (ev_var rfl) ev_c (by show 2 < 3; decide) fun H2 e2 => ?_
      generalize hH3 : upd H2 p _ = H3
      have hp3 : H3 p = some (.lst [.int g, .int s0, .int (c + 1)]) := by rw [← hH3]; exact upd_same
      have x3 : Xp p H H3 := (Xp.ex (e1.trans e2)).trans (by rw [← hH3]; exact Xp.upd)
      obtain ⟨r, hr1, hr2, hr3⟩ := prime_at ((c + 1) % 5) (Int.emod_nonneg _ (by omega)) (Int.emod_lt_of_pos _ (by omega))
      refine q_asg (v := .int r) (ev_opL1 (el_lst (ea_cons ev_c (ea_cons ev_c (ea_cons ev_c (ea_cons ev_c (ea_cons ev_c ea_nil))))) (by decide)) (fun H4 e4 => ev_op (ix (e4 _ _ hp3) rfl rfl) ev_c (rv_I (by show (0 : Int) < 5; decide)))
        (fun l H4 hl e4 => rv_ixL (sq_of hl) hr1)) fun H4 e4 => ?_
      have hp4 := e4 _ _ hp3
      have b1 : (c + 1) * (c + 1) ≤ 200000 * 200000 := Int.mul_le_mul (by omega) (by omega) (by omega) (by omega)
      have b0 : 0 ≤ (c + 1) * (c + 1) := Int.mul_nonneg (by omega) (by omega)
      have b2 : 40009 * (c + 1) * (c + 1) = 40009 * ((c + 1) * (c + 1)) := Int.mul_assoc _ _ _
      generalize (c + 1) * (c + 1) = cc at b1 b0 b2
      refine q_asg (ev_op (ev_op (ev_op (ev_op (ix hp4 rfl rfl) (ev_op (ev_op ev_c (ix hp4 rfl rfl) (rv_I (.inl ⟨by decide, by decide⟩))) (ix hp4 rfl rfl) (rv_I (.inl ⟨by show -(2 ^ 64) < 40009 * (c + 1); omega, by show 40009 * (c + 1) < 2 ^ 64; omega⟩))) rv_I0) ev_c rv_I0) ev_c
        (rv_I ⟨by decide, by decide, by rw [b2]; omega⟩)) (ev_var rfl) (rv_I (by show (0 : Int) < r; exact hr2))) fun H5 e5 => ?_
      generalize hM : ((s0 + 40009 * (c + 1) * (c + 1) + 31) ^ (3 : Int).toNat % r : Int) = M
      have M0 : 0 ≤ M := by rw [← hM]; exact Int.emod_nonneg _ (by omega)
      have M1 : M < r := by rw [← hM]; exact Int.emod_lt_of_pos _ hr2
      refine s_ret (ev_op (ev_op (ev_op (ev_op (ev_var rfl) (ev_op (ev_op (ev_var rfl) ev_c (rv_I (by show (0 : Int) < 10009; decide))) (ev_op ev_c (ix (e5 _ _ hp4) rfl rfl) (rv_I (.inl ⟨by decide, by decide⟩))) rv_I0)
        (rv_I (.inl ⟨by show -(2 ^ 64) < M; omega, by show M < 2 ^ 64; omega⟩))) ev_c (rv_I (by show (0 : Int) < 2305843009213693907; decide))) ev_c (rv_I ⟨by decide, by decide⟩)) (ev_var rfl) (rv_I (by show (0 : Int) < n; omega))) fun H6 e6 => ?_
      exact q _ H6 (Int.emod_nonneg _ (by omega)) (Int.emod_lt_of_pos _ (by omega)) (x3.trans (Xp.ex ((e4.trans e5).trans e6))) ⟨g, s0, c + 1, e6 _ _ (e5 _ _ hp4), hg, hs0, hs1, by omega, by omega⟩
def absI (i : Int) : Int := if i < 0 then -i else i
theorem abs_nn (i : Int) : 0 ≤ absI i := by
  unfold absI
  split <;> omega
def rAbs : List V → Hp → VK → Prop := fun xs H Q => ∃ i, xs = [.int i] ∧ Q (.int (absI i)) H
theorem rc_abs {H : Hp} {i : Int} : RC rAbs [.int i] H (.int (absI i)) := fun H1 _ _ q => ⟨i, rfl, q H1 (Ex.refl _)⟩
theorem rc_lenL {H : Hp} {a : Addr} {xs : List V} (h : SqL K H a xs) : RC (rLenS K) [.ref a] H (.int (xs.length : Int)) := fun H1 e _ q => ⟨a, xs, rfl, .inl (ex_l e h), q H1 (Ex.refl _)⟩
/-- the pot of a cell -/
def spPot (K : PySem.W.Frag) : Sp := fun vs H Q _ => ∃ (a : Addr) (k : Nat) (ns : List Int), vs = [.ref a, .int (k : Int)] ∧ k ≤ 10 ∧ SqL K H a (ns.map V.int) ∧
  ∀ p H', H p = none → Ex H H' → Pot H' p 0 → Q (.ref p) H'
theorem ok_pot {f : Addr} {fd : FuncData} {k : Nat} (F : Fun K "_law_pot" "_law_pot" sPot f fd) (ml : mg "len" = none) (ma : mg "abs" = none) : FnOk P w K mg base CX0 (k + 1) f fd ["_law_script", "_law_k"] (spPot K) := by
  refine F.ok scPot (fun vs H Q E h => ?_) (fun cdv A outer s H vs Q E hr h => ?_)
  · obtain ⟨a, n, ns, rfl, _⟩ := h
    rfl
  · obtain ⟨a, n, ns, rfl, hn, hS, q⟩ := h
    refine ⟨_, pss_cons (ps_set (i := 2) scPot.nd rfl (.inl rfl) (pe_ifExp (pt_cmpR op_lt (pv 1) (pe_callB call_len_seq (by rfl) ml PySem.boot_len (pa_cons (pv 0) pa_nil)) (nomark _))
        (pe_ix ix_list (pv 0) (pv 1) (fun _ _ => rfl)) (pe_op op_add (pe_op op_mul pe_int (pv 1)) pe_int)))
      (pss_cons (ps_set (i := 3) scPot.nd rfl (.inl rfl) (pe_ifExp (pt_cmpR op_ge (pe_callB call_abs (by rfl) ma boot_abs (pa_cons (pv 2) pa_nil)) (pe_op op_pow pe_int pe_int) (nomark _))
        (pe_op op_mod (pe_callB call_abs (by rfl) ma boot_abs (pa_cons (pv 2) pa_nil)) (pe_op op_powW (pe_op op_pow pe_int pe_int) pe_int)) pe_int))
      (pss_one (ps_ret (pe_lst (pa_cons (pv 3) (pa_cons (pe_op op_mod (pe_op op_add (pe_op op_add (pe_op op_mul (pe_op op_mod (pv 2) pe_int) pe_int) (pe_op op_mul (pe_op op_mul pe_int (pv 1)) (pv 1))) pe_int) pe_int) (pa_cons pe_int pa_nil))))))), ?_⟩
    have hcell : ∃ c : Int, ((n : Int) < ((ns.map V.int).length : Int) → atI (ns.map V.int) (n : Int) = some (.int c)) ∧ (¬ (n : Int) < ((ns.map V.int).length : Int) → 17 * (n : Int) + 3 = c) := by
      by_cases hlt : n < ns.length
      · refine ⟨ns[n], fun _ => atI_nat ?_, fun z => absurd (by rw [List.length_map]; omega) z⟩
        rw [List.getElem?_map, List.getElem?_eq_getElem hlt]
        rfl
      · exact ⟨_, fun z => absurd z (by rw [List.length_map]; omega), fun _ => rfl⟩
    obtain ⟨c, hc1, hc2⟩ := hcell
    refine q_asg (v := .int c) (ev_if (et_test (ev_op (ev_var rfl) (ev_cb (ea_cons (ev_var rfl) ea_nil) (rc_lenL hS)) rv_I0)) (fun hb => ev_op (ev_var rfl) (ev_var rfl) (rv_ixL hS (hc1 (of_decide_eq_true hb))))
      (fun hb => ev_is (ev_op (ev_op ev_c (ev_var rfl) (rv_I (.inl ⟨by decide, by decide⟩))) ev_c rv_I0) (by rw [hc2 (of_decide_eq_false hb)]))) fun H1 e1 => ?_
    have hgr : ∃ g : Int, 0 ≤ g ∧ (absI c ≥ 10 ^ (18 : Int).toNat → absI c % (10 ^ (60 : Int).toNat) ^ (3 : Int).toNat = g) ∧ (¬ absI c ≥ 10 ^ (18 : Int).toNat → (0 : Int) = g) := by
      by_cases h : absI c ≥ 10 ^ (18 : Int).toNat
      · exact ⟨_, Int.emod_nonneg _ (by decide), fun _ => rfl, fun z => absurd h z⟩
      · exact ⟨0, Int.le_refl _, fun z => absurd z h, fun _ => rfl⟩
    obtain ⟨g, hg0, hg1, hg2⟩ := hgr
    refine q_asg (v := .int g) (ev_if (et_test (ev_op (ev_cb (ea_cons (ev_var rfl) ea_nil) rc_abs) (ev_op ev_c ev_c (rv_I ⟨by decide, by decide, by decide⟩)) rv_I0))
      (fun hb => ev_is (ev_op (ev_cb (ea_cons (ev_var rfl) ea_nil) rc_abs) (ev_op (ev_op ev_c ev_c (rv_I ⟨by decide, by decide, by decide⟩)) ev_c (rv_I (show CPowW _ _ from ⟨by decide, by decide +kernel⟩))) (rv_I (by decide))) (by rw [hg1 (of_decide_eq_true hb)]))
      (fun hb => ev_is ev_c (by rw [← hg2 (of_decide_eq_false hb)]))) fun H2 e2 => ?_
    have m0 := Int.emod_nonneg c (show (2305843009213693951 : Int) ≠ 0 by decide)
    have m1 := Int.emod_lt_of_pos c (show (0 : Int) < 2305843009213693951 by decide)
    refine s_retL (el_lst (ea_cons (ev_var rfl) (ea_cons (ev_op (ev_op (ev_op (ev_op (ev_op (ev_var rfl) ev_c (rv_I (by show (0 : Int) < 2305843009213693951; decide))) ev_c (rv_I (.inl ⟨by omega, by omega⟩)))
      (ev_op (ev_op ev_c (ev_var rfl) (rv_I (.inl ⟨by decide, by decide⟩))) (ev_var rfl) (rv_I (.inr ⟨by omega, by omega⟩))) rv_I0) ev_c rv_I0) ev_c (rv_I (by show (0 : Int) < 2305843009213693921; decide))) (ea_cons ev_c ea_nil))) (by show 3 ≤ 100000; decide)) fun p H3 hp e3 h3 => ?_
    refine q p H3 (fresh_back (e1.trans e2) hp) ((e1.trans e2).trans e3) ⟨g, _, 0, h3, hg0, Int.emod_nonneg _ (by decide), ?_, by decide, by decide⟩
    refine Int.lt_trans (Int.emod_lt_of_pos _ (by decide)) (by decide)
def spPickL : Sp := fun vs H Q _ => ∃ (p a : Addr) (m : Int) (xs : List V), vs = [.ref p, .ref a] ∧ m ≤ 100000 ∧ Pot H p m ∧ a ≠ p ∧ H a = some (.lst xs) ∧ 1 ≤ xs.length ∧ xs.length ≤ 1000 ∧
  ∀ v H', v ∈ xs → Xp p H H' → Pot H' p (m + 1) → Q v H'
theorem ok_pickL {f fT : Addr} {fd fdT : FuncData} {k : Nat} (F : Fun K "_law_pick" "_law_pick" sPick f fd) (FT : Fun K "_law_take" "_law_take" sTake fT fdT) (bT : Binds K fdT ["_law_pot_here", "_law_size"] []) (gT : mg "_law_take" = some (.ref fT)) (ml : mg "len" = none) :
    FnOk P w K mg base CX0 (k + 2) f fd ["_law_pot_here", "_law_some"] spPickL := by
  refine F.ok scPick (fun vs H Q E h => ?_) (fun cdv A outer s H vs Q E hr h => ?_)
  · obtain ⟨p, a, m, xs, rfl, _⟩ := h
    rfl
  · obtain ⟨p, a, m, xs, rfl, hm, hP, hne, ha, h1, h2, q⟩ := h
    refine ⟨_, pss_one (ps_ret (pe_ix ix_list (pv 1) (pe_call (ok_take FT) hr (by rfl) gT FT.kp bT .nil pass0 (pa_cons (pv 0) (pa_cons (pe_callB call_len_seq (by rfl) ml PySem.boot_len (pa_cons (pv 1) pa_nil)) pa_nil))) (fun _ _ => rfl))), ?_⟩
    refine ⟨_, rfl, _, rfl, _, rfl, a, xs, rfl, .inl (sq_of ha), p, _, m, rfl, by omega, by omega, hm, hP, fun r H' h0 h3 x pp => ?_⟩
    have hc : r.toNat < xs.length := by omega
    refine ⟨a, xs, r, xs[r.toNat], rfl, rfl, sq_of (x a _ hne ha), ?_, q _ H' (List.getElem_mem hc) x pp⟩
    have := atI_nat (xs := xs) (j := r.toNat) (v := xs[r.toNat]) (List.getElem?_eq_getElem hc)
    rw [Int.toNat_of_nonneg h0] at this
    exact this
end
end K03
namespace K03
open PySem PySem.Spec PyProof.Rows L2 Evl Es
abbrev nExpr : List Str := ["_law_pot_here", "_law_leaf_menu", "_law_depth", "_law_kind", "_law_parts", "_law_turn"]
theorem scExpr : FnScope nExpr ["_law_pot_here", "_law_leaf_menu", "_law_depth"] (defScope sExpr) := ⟨rfl, rfl, rfl, by decide +kernel, rfl, by decide +kernel, by decide +kernel⟩
section
variable {P : Program} {w : World} {K : PySem.W.Frag} {mg : Str → Option Value} {base : Heap}
theorem ok_expr {f fT fP : Addr} {fd fdT fdP : FuncData} (F : Fun K "_law_expression" "_law_expression" sExpr f fd) (bF : Binds K fd ["_law_pot_here", "_law_leaf_menu", "_law_depth"] []) (gF : mg "_law_expression" = some (.ref f))
    (FT : Fun K "_law_take" "_law_take" sTake fT fdT) (bT : Binds K fdT ["_law_pot_here", "_law_size"] []) (gT : mg "_law_take" = some (.ref fT))
    (FP : Fun K "_law_pick" "_law_pick" sPick fP fdP) (bP : Binds K fdP ["_law_pot_here", "_law_some"] []) (gP : mg "_law_pick" = some (.ref fP)) (ml : mg "len" = none) (mr : mg "range" = none) (mt : mg "tuple" = none) :
    ∀ d : Nat, FnOk P w K mg base CX0 (d + 3) f fd ["_law_pot_here", "_law_leaf_menu", "_law_depth"] (spExpr d) := by
  intro d
  induction d with
  | zero => exact ⟨fun vs H Q E ⟨_, _, _, _, _, h, _⟩ => absurd h (Nat.not_lt_zero _), fun _ _ _ _ _ _ _ _ _ _ _ _ _ ⟨_, _, _, _, _, h, _⟩ => absurd h (Nat.not_lt_zero _)⟩
  | succ d ih =>
    have G1 : FnOk P w K mg base CX0 (d + 3) fT fdT ["_law_pot_here", "_law_size"] spTake := ok_take FT
    have G3 : FnOk P w K mg base CX0 (d + 3) fP fdP ["_law_pot_here", "_law_some"] spPickL := ok_pickL FP FT bT gT ml
    refine F.ok scExpr (fun vs H Q E h => ?_) (fun cdv A outer s H vs Q E hr h => ?_)
    · obtain ⟨p, m, n, c, rfl, _⟩ := h
      rfl
    · obtain ⟨p, m, n, c, rfl, hnd, hn8, hc0, hc1, hP, hM, q⟩ := h
      refine ⟨_, Evl.pss_cut (ps_set (i := 3) scExpr.nd rfl (.inl rfl) (pe_ifExp (pt_cmpR op_gt (pv 2) pe_int (nomark _)) (pe_call G1 hr (by rfl) gT FT.kp bT .nil pass0 (pa_cons (pv 0) (pa_cons pe_int pa_nil))) pe_int))
        (pss_cons (ps_if (pt_cmpR op_lt (pv 3) pe_int (nomark _)) (pss_one (ps_ret (pe_call G3 hr (by rfl) gP FP.kp bP .nil pass0 (pa_cons (pv 0) (pa_cons (pv 1) pa_nil))))) pss_nil)
        (pss_cons (ps_if (pt_cmpR op_lt (pv 3) pe_int (nomark _)) (pss_one (ps_ret (pe_tup (pa_cons (pe_ix ix_list (pe_lst (pa_cons pe_str (pa_cons pe_str pa_nil))) (pe_op op_sub (pv 3) pe_int) (fun _ _ => rfl))
            (pa_cons (pe_call ih hr (by rfl) gF F.kp bF .nil pass0 (pa_cons (pv 0) (pa_cons (pv 1) (pa_cons (pe_op op_sub (pv 2) pe_int) pa_nil)))) pa_nil))))) pss_nil)
        (pss_cons (ps_setLc (i := 4) (own := [("_law_turn", 5)]) (g := gName 5) (tt := tYes) rfl scExpr.nd rfl rfl (sw_true rfl rfl rfl (by decide +kernel))
          (pi_range1 (by rfl) mr (pa_cons (pe_op op_add pe_int (pe_call G1 hr (by rfl) gT FT.kp bT .nil pass0 (pa_cons (pv 0) (pa_cons pe_int pa_nil)))) pa_nil))
          (blkOk_by (N := nExpr) (sc := defScope sExpr) (own := [("_law_turn", 5)]) (by decide +kernel)) (fun _ _ _ _ _ => pg_name (i := 5) scExpr.nd rfl (Or.inl rfl)) (fun _ _ _ _ _ => pts_nil)
          (fun _ _ _ _ _ => pe_call ih hr (by rfl) gF F.kp bF .nil pass0 (pa_cons (pv 0) (pa_cons (pv 1) (pa_cons (pe_op op_sub (pv 2) pe_int) pa_nil)))))
        (pss_one (ps_ret (pe_op op_catT (pe_tup (pa_cons (pe_ix ix_list (pe_lst (pa_cons pe_str (pa_cons pe_str (pa_cons pe_str pa_nil)))) (pe_op op_sub (pv 3) pe_int) (fun _ _ => rfl)) pa_nil))
          (pe_callTy call_tuple_of (by rfl) mt (by decide +kernel) (pa_cons (pv 4) pa_nil)))))))), ?_⟩
      -- the kind
      refine ⟨fun σ' H1 => ∃ r : Int, σ' = [some (.ref p), some (.ref m), some (.int (n : Int)), some (.int r), none, none] ∧ 0 ≤ r ∧ r < 7 ∧ (r < 2 ∨ 1 ≤ n) ∧ Xp p H H1 ∧ Pot H1 p (c + min (n : Int) 1), ?_, ?_⟩
      · refine ⟨.int (n : Int), rfl, (n : Int), 0, rfl, rfl, _, rfl, ite2 (fun hb => ?_) (fun hb => ?_)⟩
        · have hn : (0 : Int) < n := of_decide_eq_true hb
          exact ⟨.ref p, rfl, p, 7, c, rfl, by decide, by decide, by have := cost_pos n; omega, hP, fun r H1 r0 r1 x1 P1 => ⟨r, rfl, r0, r1, .inr (by omega), x1, P1.more (by omega)⟩⟩
        · have hn : ¬ (0 : Int) < n := fun z => hb (decide_eq_true z)
          exact ⟨0, rfl, by decide, by decide, .inl (by decide), Xp.refl _ _, hP.more (by omega)⟩
      rintro σ' H1 ⟨r, rfl, r0, r7, hrn, x1, P1⟩
      have hM1 := hM.xp x1
      have hbg := bg_ge n
      have hcp := cost_pos n
      have hcn : 1 ≤ n → cost n = 3 + 3 * cost (n - 1) ∧ bg n = 12 + 3 * bg (n - 1) := fun h => by
        obtain ⟨k, rfl⟩ : ∃ k, n = k + 1 := ⟨n - 1, by omega⟩
        exact ⟨rfl, rfl⟩
      refine ⟨.int r, rfl, r, 2, rfl, rfl, _, rfl, ite2 (fun hb => ?_) (fun hb => ?_)⟩
      · -- a leaf of the menu
        obtain ⟨hmp, ms, hm, m1, m2, m3⟩ := hM1
        have hmin : min (n : Int) 1 + 1 ≤ cost n := by
          cases n with
          | zero => decide
          | succ k =>
            have := (hcn (by omega)).1
            have := cost_pos (k + 1 - 1)
            omega
        refine ⟨.ref p, rfl, .ref m, rfl, p, m, _, ms, rfl, by omega, P1, hmp, hm, m1, by omega, fun v H2 hv x2 P2 => ?_⟩
        obtain ⟨t, ht, hok, hdp⟩ := m3 v hv
        exact q v t H2 (x1.trans x2) (ht.xp x2) hok (by omega) (by rw [dep0_big hdp]; exact hbg) (P2.more (by omega))
      have r2 : ¬ r < 2 := fun z => hb (decide_eq_true z)
      have n1 : 1 ≤ n := hrn.resolve_left r2
      obtain ⟨k, rfl⟩ : ∃ k, n = k + 1 := ⟨n - 1, by omega⟩
      have hck : cost (k + 1) = 3 + 3 * cost k := rfl
      have hbk : bg (k + 1) = 12 + 3 * bg k := rfl
      have hk1 := cost_pos k
      have hk2 := bg_ge k
      have ek : (((k + 1 : Nat) : Int) - 1) = (k : Int) := by omega
      have P1' : Pot H1 p (c + 1) := P1.more (by omega)
      refine ⟨.int r, rfl, r, 4, rfl, rfl, _, rfl, ite2 (fun hb => ?_) (fun hb => ?_)⟩
      · -- one part
        have r4 : r < 4 := of_decide_eq_true hb
        obtain ⟨kd, hkd, hat⟩ := kind2 r (by omega) r4
        refine ⟨sz_of (by decide), fun l nl => ⟨.int r, rfl, r, 2, rfl, rfl, l, _, r - 2, .str kd, rfl, rfl, sq_of upd_same, hat, ?_⟩⟩
        have e1 := Ex.new (o := .lst [.str "repeat", .str "optional"]) nl
        refine ⟨.ref p, rfl, .ref m, rfl, .int ((k + 1 : Nat) : Int), rfl, _, 1, rfl, rfl, p, m, k, c + 1, by show [V.ref p, V.ref m, V.int (((k + 1 : Nat) : Int) - 1)] = _; rw [ek], by omega, by omega, by omega, by omega, P1'.up e1, hM1.xp (Xp.ex e1), fun v t H2 x2 ht hok hdp hbig P2 => ?_⟩
        refine ⟨sz_of (by show 2 ≤ 100000; decide), fun a na => ?_⟩
        have e2 := Ex.new (o := .tup [.str kd, v]) na
        refine q (.ref a) (.node kd [t]) _ (((x1.trans (Xp.ex e1)).trans x2).trans (Xp.ex e2)) (.node (P2.ne na) upd_same (.cons (ht.up e2) .nil)) ⟨hkd, by simp, hok, trivial⟩ ?_ ?_ ((P2.up e2).more (by omega))
        · show max t.dep 0 + 1 ≤ k + 1
          omega
        · show 9 + (t.big + 1 + 0) ≤ bg (k + 1)
          omega
      -- two or three parts
      have r4 : ¬ r < 4 := fun z => hb (decide_eq_true z)
      obtain ⟨kd, hkd, hat⟩ := kind3 r (by omega) r7
      refine ⟨.ref p, rfl, p, 2, c + 1, rfl, by decide, by decide, by omega, P1', fun r3 H2 s0 s1 x2 P2 => ?_⟩
      refine ⟨2, r3, rfl, rfl, 2 + r3, rfl, by omega, by omega, fun D nD => ?_⟩
      refine lc_range (lo := 0) (n := (2 + r3).toNat) (fun i H' => Xp p H2 H' ∧ Pot H' p (c + 2 + i * cost k) ∧ ∃ vs ts, H' D = some (.lst vs) ∧ ts.length = i ∧ Parts p H' k vs ts) ?_ ?_ ?_
      · exact ⟨(Xp.refl _ _).mut nD, (P2.up (Ex.new nD)).more (by omega), [], [], upd_same, rfl, .nil, trivial, Nat.zero_le _, Nat.zero_le _⟩
      · rintro i H' hi ⟨xi, Pi, vs, ts, hD, hl, h1, h2, h3, h4⟩
        have hi3 : (i : Int) ≤ 2 := by omega
        have hic : (i : Int) * cost k ≤ 2 * cost k := Int.mul_le_mul_of_nonneg_right hi3 (by omega)
        have hic0 : 0 ≤ (i : Int) * cost k := Int.mul_nonneg (by omega) (by omega)
        refine ⟨rfl, .ref p, rfl, .ref m, rfl, .int ((k + 1 : Nat) : Int), rfl, _, 1, rfl, rfl, p, m, k, c + 2 + i * cost k, by show [V.ref p, V.ref m, V.int (((k + 1 : Nat) : Int) - 1)] = _; rw [ek], by omega, by omega, by omega, by omega, Pi, (hM1.xp x2).xp xi, fun v t H3 x3 ht hok hdp hbig P3 => ?_⟩
        have nDp : D ≠ p := P2.ne nD
        have hD3 := x3 D _ nDp hD
        have hlv := h1.length
        refine ⟨vs, hD3, sz_lt (by omega), (xi.trans x3).mut nD, ?_, vs ++ [v], ts ++ [t], upd_same, by rw [List.length_append, hl]; rfl, ?_, oks_app h2 ⟨hok, trivial⟩, ?_, ?_⟩
        · obtain ⟨g, s0', c0, hh, q1, q2, q3, q4, q5⟩ := P3
          refine ⟨g, s0', c0, ?_, q1, q2, q3, q4, ?_⟩
          · rw [upd_ne nDp.symm]
            exact hh
          · have : ((i + 1 : Nat) : Int) * cost k = i * cost k + cost k := by
              rw [Int.natCast_add, Int.add_mul]
              omega
            rw [this]
            omega
        · exact ((h1.xp x3).append (.cons ht .nil)).mutL hD3
        · rw [deps_app]
          show max (Tr.deps ts) (max t.dep 0) ≤ k
          omega
        · rw [bigs_app, List.length_append]
          show Tr.bigs ts + (t.big + 1 + 0) ≤ (ts.length + 1) * (bg k + 1)
          rw [Nat.add_mul]
          omega
      rintro H3 ⟨x3, P3, vs, ts, hD, hl, h1, h2, h3, h4⟩
      have hlv := h1.length
      have nDp : D ≠ p := P2.ne nD
      refine ⟨sz_of (by decide), fun l nl => ⟨.int r, rfl, r, 4, rfl, rfl, l, _, r - 4, .str kd, rfl, rfl, sq_of upd_same, hat, ?_⟩⟩
      have e1 := Ex.new (o := .lst [.str "sequence", .str "choice", .str "sequence"]) nl
      refine ⟨sz_of (by show 1 ≤ 100000; decide), fun a na => ?_⟩
      have e2 := Ex.new (o := .tup [.str kd]) na
      refine ⟨.ref D, rfl, D, vs, rfl, .inl ⟨sq_of (e2 _ _ (e1 _ _ hD)), fun b nb => ?_⟩⟩
      have e3 := Ex.new (o := .tup vs) nb
      have hts : ts.length = (2 + r3).toNat := hl
      refine ⟨a, b, [.str kd], vs, rfl, rfl, st_of (e3 _ _ upd_same), st_of upd_same, by simp, sz_of (by rw [List.length_singleton]; omega), fun z => ?_, fun _ t nt => ?_⟩
      · rw [z] at hlv
        have : ts.length = 0 := hlv.symm
        omega
      have e4 := Ex.new (o := .tup ([.str kd] ++ vs)) nt
      have e14 := ((e1.trans e2).trans e3).trans e4
      have c3 : (((2 + r3).toNat : Nat) : Int) * cost k ≤ 3 * cost k := Int.mul_le_mul_of_nonneg_right (by omega) (by omega)
      refine q (.ref t) (.node kd ts) _ (((x1.trans x2).trans x3).trans (Xp.ex e14)) (.node ((P3.up ((e1.trans e2).trans e3)).ne nt) upd_same (h1.up e14)) ⟨hkd, ?_, h2⟩ ?_ ?_ ((P3.up e14).more (by omega))
      · intro z
        rw [z] at hts
        have : 0 = (2 + r3).toNat := hts
        omega
      · show Tr.deps ts + 1 ≤ k + 1
        omega
      · show 9 + Tr.bigs ts ≤ bg (k + 1)
        have : ts.length * (bg k + 1) ≤ 3 * (bg k + 1) := Nat.mul_le_mul_right _ (by omega)
        omega
end
end K03
namespace K03
open PySem PySem.Spec PyProof.Rows L2 Evl Es
abbrev nDue : List Str := ["_law_expression_here", "_law_words", "_law_found", "_law_one", "_law_other", "_law_word"]
theorem scDue : FnScope nDue ["_law_expression_here"] (defScope sDue) := ⟨rfl, rfl, rfl, by decide +kernel, rfl, by decide +kernel, by decide +kernel⟩
def spDue : Sp := fun vs H Q _ => ∃ (p : Addr) (c : Int) (v : V) (t : Tr), vs = [v] ∧ Pot H p c ∧ TrAt p H v t ∧ t.ok ∧ t.dep ≤ 20 ∧ t.big ≤ 2000 ∧
  ∀ a ws H', H a = none → Ex H H' → H' a = some (.tup ws) → TrAll p H' ws t.lv → Q (.ref a) H'
theorem tr_ref {p : Addr} {H : Hp} {v : V} {t : Tr} (h : TrAt p H v t) : ∃ a, v = .ref a := by
  cases h with
  | leaf _ _ => exact ⟨_, rfl⟩
  | node _ _ _ => exact ⟨_, rfl⟩
theorem rc_reprT {K : PySem.W.Frag} {p : Addr} {H : Hp} {v : V} {t : Tr} (h : TrAt p H v t) (hok : t.ok) (hb : t.big ≤ 2000) (hd : t.dep ≤ 20) : RC (rReprD K) [v] H (.str t.toD.shown) := by
  obtain ⟨a, rfl⟩ := tr_ref h
  exact rc_repr h.dp (fine_tr hok (by omega) (by omega)) fun H1 e => (h.up e).dp
theorem shown_len {t : Tr} (hok : t.ok) (hb : t.big ≤ 2000) : t.toD.shown.length ≤ 70000 := by
  obtain ⟨h1, h2, h3, h4, h5⟩ := ok_show t hok
  have := PyData.shown_le_bulk 30 (by decide) t.toD h3
  omega
theorem in_lk : ∀ x : Str, inV (.str x) [.str "token", .str "block"] = decide (x ∈ leafKinds) := by
  intro x
  show (eqV (.str "token") (.str x) || (eqV (.str "block") (.str x) || false)) = _
  show (("token" : Str) == x || (("block" : Str) == x || false)) = _
  by_cases h1 : ("token" : Str) = x
  · subst h1
    decide
  · by_cases h2 : ("block" : Str) = x
    · subst h2
      decide
    · rw [beq_eq_false_iff_ne.mpr h1, beq_eq_false_iff_ne.mpr h2]
      symm
      refine decide_eq_false fun z => ?_
      rcases List.mem_cons.mp z with e | e
      · exact h1 e.symm
      · exact h2 (List.mem_singleton.mp e).symm
section
variable {P : Program} {w : World} {K : PySem.W.Frag} {mg : Str → Option Value} {base : Heap}
theorem ok_due {f : Addr} {fd : FuncData} {k : Nat} (F : Fun K "_law_due" "_law_due" sDue f fd) (mp : mg "repr" = none) (mz : mg "zip" = none) (mt : mg "tuple" = none) : GnOk P w K mg base (k + 1) f fd ["_law_expression_here"] spDue := by
  refine gn_of (N := nDue) F scDue (fun vs H Q E h => ?_) (fun cd A out s H vs Q E hg hr h => ?_)
  · obtain ⟨p, c, v, t, rfl, _⟩ := h
    rfl
  · obtain ⟨p, c, v, t, rfl, hP, ht, hok, hdp, hbig, q⟩ := h
    refine ⟨_, pss_cons (ps_par rfl scDue.nd rfl rfl (by decide) rfl rfl (i := 1) (j := 2) (pa_cons (pe_lc (own := [("_law_word", 5)]) (g := gName 5) rfl scDue.nd
          (pi_list (pe_split (pe_callB (cr_reprD hg hr.units) (by rfl) mp boot_repr (pa_cons (pv 0) pa_nil)) pe_str))
          (blkOk_by (N := nDue) (sc := defScope sDue) (own := [("_law_word", 5)]) (by decide +kernel)) (fun _ _ _ _ _ => pg_name (i := 5) scDue.nd rfl (Or.inl rfl))
          (fun _ _ _ _ _ => pts_one (pt_val (pe_m0 PySem.F.slot_str_isalpha PySem.F.type_str_isalpha mt_isalpha (pv 5)))) (fun _ _ _ _ _ => pv 5)) (pa_cons (pe_lst pa_nil) pa_nil)) (by rfl))
      (pss_cons (ps_for PassesOwn.never rfl (pi_zip (by rfl) mz (pa_cons (pv 1) (pa_cons (pe_slice sl_list (pv 1) (po_some pe_int) po_none) pa_nil)))
          (pg_tup rfl (pgs_cons (pg_name (i := 3) scDue.nd rfl (.inl rfl)) (pgs_cons (pg_name (i := 4) scDue.nd rfl (.inl rfl)) pgs_nil)))
          (pss_one (ps_if (pt_cmpR op_in_seq (pv 3) (pe_tup (pa_cons pe_str (pa_cons pe_str pa_nil))) (by rfl))
            (pss_one (ps_expr (pe_bm PySem.F.plainAttrs_list PySem.F.slot_list_append PySem.F.type_list_append mt_append (pv 2) (pa_cons (pe_tup (pa_cons (pv 3) (pa_cons (pv 4) pa_nil))) pa_nil)))) pss_nil)))
      (pss_one (ps_ret (pe_callTy call_tuple_of (by rfl) mt (by decide +kernel) (pa_cons (pv 2) pa_nil))))), ?_⟩
    obtain ⟨a0, rfl⟩ := tr_ref ht
    have hsl := shown_len hok hbig
    have hf := fine_tr hok (by omega) (by omega)
    -- the words
    refine ⟨.ref a0, rfl, a0, t.toD, rfl, ht.dp, hf.1, hf.2.1, hf.2.2.1, sz_of hf.2.2.2, ⟨_, rfl⟩, t.toD.shown, "'", rfl, rfl, by decide, sz_of (by omega), fun sl nsl => ?_⟩
    generalize hS : Txt.split t.toD.shown "'" = S
    have hW : S.filter Txt.isalpha = wds t := by rw [← hS]; exact words_of hok
    have hSl : S.length ≤ 2000 := by
      rw [← hS, split_of hok]
      exact Nat.le_trans (pcs_len t) hbig
    refine ⟨sl, rfl, ⟨_, sq_of upd_same⟩, fun D nD => lc_list (xs := S.map V.str) (fun i H' => Ex (upd H sl (.lst (S.map V.str))) H' ∧ H' D = some (.lst (((S.take i).filter Txt.isalpha).map V.str))) ⟨Ex.new nD, upd_same⟩ (fun i H' _ x => sq_of (x.1 _ _ upd_same)) ?_ ?_⟩
    · rintro i x H' hx ⟨ei, hD⟩
      rw [List.getElem?_map] at hx
      obtain ⟨y, hy, rfl⟩ := Option.map_eq_some_iff.mp hx
      refine ⟨rfl, .str y, rfl, ⟨y, rfl⟩, y, rfl, rfl, trivial, _, rfl, ite2 (fun hb => ?_) (fun hb => ?_)⟩
      · refine ⟨.str y, rfl, _, hD, ?_, Ex.mut ei nD, ?_⟩
        · rw [List.length_map]
          have := List.length_filter_le Txt.isalpha (S.take i)
          rw [List.length_take] at this
          exact sz_lt (by omega)
        · rw [upd_same, List.take_add_one, hy, List.filter_append, List.map_append]
          show _ = some (HO.lst (_ ++ ([y].filter Txt.isalpha).map V.str))
          rw [List.filter_cons_of_pos hb]
          rfl
      · refine ⟨ei, ?_⟩
        rw [List.take_add_one, hy, List.filter_append]
        show _ = some (HO.lst ((_ ++ [y].filter Txt.isalpha).map V.str))
        rw [List.filter_cons_of_neg hb]
        show _ = some (HO.lst ((_ ++ []).map V.str))
        rw [List.append_nil]
        exact hD
    rintro H1 ⟨e1, hD⟩
    rw [List.length_map, List.take_length, hW] at hD
    have hWl : (wds t).length ≤ 2000 := by
      rw [← hW]
      exact Nat.le_trans (List.length_filter_le _ _) hSl
    have e01 : Ex H H1 := (Ex.new nsl).trans e1
    have hlv : prs (wds t) = t.lv := (wds_lv t hok).2
    generalize wds t = W at hD hWl hlv
    -- found, the walk over the pairs
    refine ⟨by decide, fun l nl => ⟨.ref D, .ref l, rfl, ?_⟩⟩
    have e2 := Ex.new (o := .lst []) nl
    refine ⟨.ref D, rfl, .ref D, rfl, 1, rfl, D, _, rfl, sq_of (e2 _ _ hD), fun c nc => ?_⟩
    rw [cut_1]
    have e3 := Ex.new (o := .lst ((W.map V.str).drop 1)) nc
    have ncl : c ≠ l := fun z => by
      subst z
      rw [upd_same] at nc
      cases nc
    refine ⟨D, c, W.map V.str, (W.map V.str).drop 1, rfl, sq_of (e3 _ _ (e2 _ _ hD)), sq_of upd_same, for_it (walk_zip (xs := W.map V.str) (ys := (W.map V.str).drop 1) (n := W.length - 1) (by rw [List.length_drop, List.length_map]; omega))
      (fun i σ H' => Ex H1 H' ∧ H' c = some (.lst ((W.map V.str).drop 1)) ∧ ∃ ws y3 y4, H' l = some (.lst ws) ∧ TrAll p H' ws (prs (W.take (i + 1))) ∧ ws.length ≤ i ∧ σ = [some (.ref a0), some (.ref D), some (.ref l), y3, y4, none]) ?_ ?_ ?_ ?_⟩
    · refine ⟨e2.trans e3, upd_same, [], none, none, e3 _ _ upd_same, ?_, Nat.le_refl _, rfl⟩
      have : prs (W.take 1) = [] := by
        cases W with
        | nil => rfl
        | cons x r => rfl
      rw [this]
      exact .nil
    · rintro i σ H' _ ⟨ei, hc, _⟩
      exact ⟨sq_of (ei _ _ hD), sq_of hc⟩
    · rintro i v σ H' H'' hi ⟨ei, hc, ws, y3, y4, hw, hwa, hwl, rfl⟩ ⟨T, x, y, rfl, nT, rfl, hx, hy⟩
      dsimp only at hx hy
      rw [List.getElem?_map] at hx
      rw [List.getElem?_drop, List.getElem?_map] at hy
      obtain ⟨a, ha, rfl⟩ := Option.map_eq_some_iff.mp hx
      obtain ⟨b, hb, rfl⟩ := Option.map_eq_some_iff.mp hy
      rw [Nat.add_comm 1 i] at hb
      have eT := Ex.new (o := .tup [.str a, .str b]) nT
      refine ⟨T, _, rfl, st_of upd_same, rfl, .str a, [.str b], rfl, .str b, [], rfl, rfl, ?_⟩
      have hs := prs_snoc W i a b ha hb
      refine s_when (et_test (ev_inU (x := .str a) (ev_var rfl) (eu_tup (ea_cons ev_c (ea_cons ev_c ea_nil)) (by decide)) rfl (by decide))) (fun hin H3 e4 => ?_) (fun hin H3 e4 => ?_)
      · rw [in_lk] at hin
        have hmem : a ∈ leafKinds := of_decide_eq_true hin
        rw [if_pos hmem] at hs
        have hw3 := e4 _ _ (eT _ _ hw)
        refine s_appU hw3 (ev_var rfl) (eu_tup (ea_cons (ev_var rfl) (ea_cons (ev_var rfl) ea_nil)) (by show 2 ≤ 100000; decide)) (by omega) fun u H4 nu e5 hu => ?_
        have hP3 := hP.up (((e01.trans ei).trans eT).trans e4)
        have hl1 : H1 l = none := nl
        have hw4 := e5 _ _ hw3
        refine ⟨Ex.mut (((ei.trans eT).trans e4).trans e5) hl1, ?_, ws ++ [.ref u], some (.str a), some (.str b), upd_same, ?_, ?_, rfl⟩
        · rw [upd_ne ncl]
          exact e5 _ _ (e4 _ _ (eT _ _ hc))
        · rw [hs]
          exact ((hwa.up ((eT.trans e4).trans e5)).append (.cons (.leaf (hP3.ne nu) hu) .nil)).mutL hw4
        · rw [List.length_append]
          show ws.length + 1 ≤ i + 1
          omega
      · rw [in_lk] at hin
        have hmem : a ∉ leafKinds := of_decide_eq_false hin
        rw [if_neg hmem, List.append_nil] at hs
        refine ⟨(ei.trans eT).trans e4, e4 _ _ (eT _ _ hc), ws, some (.str a), some (.str b), e4 _ _ (eT _ _ hw), ?_, by omega, rfl⟩
        rw [hs]
        exact hwa.up (eT.trans e4)
    · rintro σ H' ⟨ei, hc, ws, y3, y4, hw, hwa, hwl, rfl⟩
      rw [List.take_of_length_le (by omega), hlv] at hwa
      refine ⟨.ref l, rfl, l, ws, rfl, .inl ⟨sq_of hw, fun r nr => ?_⟩⟩
      exact q r ws _ (fresh_back (e01.trans ei) nr) ((e01.trans ei).trans (Ex.new nr)) upd_same (hwa.up (Ex.new nr))
end
end K03
namespace K03
open PySem PySem.Spec PyProof.Rows L2 Evl Es
theorem scSmall : FnScope ["_law_pot_here", "_law_menu", "_law_inner"] ["_law_pot_here", "_law_menu"] (defScope sSmall) := ⟨rfl, rfl, rfl, by decide +kernel, rfl, by decide +kernel, by decide +kernel⟩
abbrev nRight : List Str := ["_law_pot_here", "_law_menu", "_law_turn", "_law_expression_here", "_law_kept", "_law_due_here"]
theorem scRight : FnScope nRight ["_law_pot_here"] (defScope sRight) := ⟨rfl, rfl, rfl, by decide +kernel, rfl, by decide +kernel, by decide +kernel⟩
abbrev nLaw : List Str := ["_law_script", "_law_k"]
theorem scLaw : FnScope nLaw ["_law_script"] (defScope sLaw) := ⟨rfl, rfl, rfl, by decide +kernel, rfl, by decide +kernel, by decide +kernel⟩
/-- what stands at the top -/
structure Top (K : PySem.W.Frag) (mg : Str → Option Value) (fLeaves fPot fTake fPick fExpr fDue fSmall fRight : Addr) (dLeaves dPot dTake dPick dExpr dDue dSmall dRight : FuncData) (aL : Addr) : Prop where
  Leaves : Fun K "leaves" "leaves" sLeaves fLeaves dLeaves
  Pot : Fun K "_law_pot" "_law_pot" sPot fPot dPot
  Take : Fun K "_law_take" "_law_take" sTake fTake dTake
  Pick : Fun K "_law_pick" "_law_pick" sPick fPick dPick
  Expr : Fun K "_law_expression" "_law_expression" sExpr fExpr dExpr
  Due : Fun K "_law_due" "_law_due" sDue fDue dDue
  Small : Fun K "_law_small" "_law_small" sSmall fSmall dSmall
  Right : Fun K "_law_right" "_law_right" sRight fRight dRight
  gLeaves : mg "leaves" = some (.ref fLeaves)
  gPot : mg "_law_pot" = some (.ref fPot)
  gTake : mg "_law_take" = some (.ref fTake)
  gPick : mg "_law_pick" = some (.ref fPick)
  gExpr : mg "_law_expression" = some (.ref fExpr)
  gDue : mg "_law_due" = some (.ref fDue)
  gSmall : mg "_law_small" = some (.ref fSmall)
  gRight : mg "_law_right" = some (.ref fRight)
  kinds : ∀ H, SqT K H aL [.str "token", .str "block"]
  gKinds : mg "LEAF_KINDS" = some (.ref aL)
  len : mg "len" = none
  all : mg "all" = none
  abs : mg "abs" = none
  range : mg "range" = none
  max : mg "max" = none
  min : mg "min" = none
  repr : mg "repr" = none
  zip : mg "zip" = none
  tuple : mg "tuple" = none
section
variable {P : Program} {w : World} {K : PySem.W.Frag} {mg : Str → Option Value} {base : Heap} {fLeaves fPot fTake fPick fExpr fDue fSmall fRight aL : Addr} {dLeaves dPot dTake dPick dExpr dDue dSmall dRight : FuncData}
abbrev TopOf (K : PySem.W.Frag) (mg : Str → Option Value) (fLeaves fPot fTake fPick fExpr fDue fSmall fRight : Addr) (dLeaves dPot dTake dPick dExpr dDue dSmall dRight : FuncData) (aL : Addr) : Prop := Top K mg fLeaves fPot fTake fPick fExpr fDue fSmall fRight dLeaves dPot dTake dPick dExpr dDue dSmall dRight aL
/-- a menu of at least two leaves -/
def Menu2 (p : Addr) (H : Hp) (m : Addr) : Prop := m ≠ p ∧ ∃ ms : List V, H m = some (.lst ms) ∧ 2 ≤ ms.length ∧ ms.length ≤ 20 ∧ ∀ v ∈ ms, ∃ t, TrAt p H v t ∧ t.ok ∧ t.dep = 0
theorem Menu2.menu {p m : Addr} {H : Hp} (h : Menu2 p H m) : Menu p H m := by
  obtain ⟨n, ms, hm, h1, h2, h3⟩ := h
  exact ⟨n, ms, hm, by omega, h2, h3⟩
theorem Menu2.xp {p m : Addr} {H H' : Hp} (h : Menu2 p H m) (e : Xp p H H') : Menu2 p H' m := by
  obtain ⟨n, ms, hm, h1, h2, h3⟩ := h
  refine ⟨n, ms, e _ _ n hm, h1, h2, fun v hv => ?_⟩
  obtain ⟨t, a, b, c⟩ := h3 v hv
  exact ⟨t, a.xp e, b, c⟩
def spSmall : Sp := fun vs H Q _ => ∃ (p m : Addr) (c : Int), vs = [.ref p, .ref m] ∧ 0 ≤ c ∧ c ≤ 80000 ∧ Pot H p c ∧ Menu2 p H m ∧
  ∀ v t H', Xp p H H' → TrAt p H' v t → t.ok → t.dep ≤ 10 → t.big ≤ 1000 → Pot H' p (c + 100) → Q v H'
theorem ok_small (T : TopOf K mg fLeaves fPot fTake fPick fExpr fDue fSmall fRight dLeaves dPot dTake dPick dExpr dDue dSmall dRight aL) : FnOk P w K mg base CX0 7 fSmall dSmall ["_law_pot_here", "_law_menu"] spSmall := by
  have b3 : Binds K dTake ["_law_pot_here", "_law_size"] [] := T.Take.binds fun _ _ _ _ _ _ us hl => match us, hl with | [_, _], _ => rfl
  have b4 : Binds K dPick ["_law_pot_here", "_law_some"] [] := T.Pick.binds fun _ _ _ _ _ _ us hl => match us, hl with | [_, _], _ => rfl
  have b5 : Binds K dExpr ["_law_pot_here", "_law_leaf_menu", "_law_depth"] [] := T.Expr.binds fun _ _ _ _ _ _ us hl => match us, hl with | [_, _, _], _ => rfl
  have G5 : FnOk P w K mg base CX0 6 fExpr dExpr ["_law_pot_here", "_law_leaf_menu", "_law_depth"] (spExpr 3) := ok_expr T.Expr b5 T.gExpr T.Take b3 T.gTake T.Pick b4 T.gPick T.len T.range T.tuple 3
  have G4 : FnOk P w K mg base CX0 6 fPick dPick ["_law_pot_here", "_law_some"] spPickL := ok_pickL T.Pick T.Take b3 T.gTake T.len
  refine T.Small.ok scSmall (fun vs H Q E h => ?_) (fun cdv A outer s H vs Q E hr h => ?_)
  · obtain ⟨p, m, c, rfl, _⟩ := h
    rfl
  · obtain ⟨p, m, c, rfl, hc0, hc1, hP, hM, q⟩ := h
    refine ⟨_, pss_cons (ps_set (i := 2) scSmall.nd rfl (.inl rfl) (pe_call G5 hr (by rfl) T.gExpr T.Expr.kp b5 .nil pass0 (pa_cons (pv 0) (pa_cons (pv 1) (pa_cons pe_int pa_nil)))))
      (pss_one (ps_ret (pe_call G4 hr (by rfl) T.gPick T.Pick.kp b4 .nil pass0 (pa_cons (pv 0) (pa_cons (pe_lst (pa_cons (pv 2) (pa_cons (pv 2) (pa_cons (pe_tup (pa_cons pe_str (pa_cons (pv 2) pa_nil)))
        (pa_cons (pe_tup (pa_cons pe_str (pa_cons (pv 2) (pa_cons (pe_ix ix_list (pv 1) pe_int (fun _ _ => rfl)) (pa_cons (pe_tup (pa_cons pe_str (pa_cons (pe_ix ix_list (pv 1) pe_int (fun _ _ => rfl)) pa_nil))) pa_nil))))) pa_nil))))) pa_nil))))), ?_⟩
    refine ⟨.ref p, rfl, .ref m, rfl, p, m, 2, c, rfl, by decide, by decide, hc0, by show c + 21 ≤ 90000; omega, hP, hM.menu, fun v t H1 x1 ht hok hdp hbig P1 => ?_⟩
    have hb2 : t.big ≤ 183 := hbig
    obtain ⟨hmp, ms, hm, m1, m2, m3⟩ := hM.xp x1
    obtain ⟨v0, h0⟩ : ∃ v0, ms[0]? = some v0 := ⟨_, List.getElem?_eq_getElem (by omega)⟩
    obtain ⟨v1, h1⟩ : ∃ v1, ms[1]? = some v1 := ⟨_, List.getElem?_eq_getElem (by omega)⟩
    obtain ⟨t0, ht0, ok0, d0⟩ := m3 v0 (List.mem_of_getElem? h0)
    obtain ⟨t1, ht1, ok1, d1⟩ := m3 v1 (List.mem_of_getElem? h1)
    refine ⟨.ref p, rfl, v, rfl, v, rfl, v, rfl, sz_of (by show 2 ≤ 100000; decide), fun a na => ?_⟩
    have ea := Ex.new (o := .tup [.str "repeat", v]) na
    refine ⟨v, rfl, .ref m, rfl, m, ms, 0, v0, rfl, rfl, sq_of (ea _ _ hm), atI_nat (j := 0) h0, .ref m, rfl, m, ms, 1, v1, rfl, rfl, sq_of (ea _ _ hm), atI_nat (j := 1) h1, sz_of (by show 2 ≤ 100000; decide), fun b nb => ?_⟩
    have eb := Ex.new (o := .tup [.str "optional", v1]) nb
    refine ⟨sz_of (by show 4 ≤ 100000; decide), fun d nd => ?_⟩
    have ed := Ex.new (o := .tup [.str "sequence", v, v0, .ref b]) nd
    refine ⟨sz_of (by show 4 ≤ 100000; decide), fun l nl => ?_⟩
    have el := Ex.new (o := .lst [v, v, .ref a, .ref d]) nl
    have e1 := (ea.trans eb).trans (ed.trans el)
    have hal := (eb.trans (ed.trans el)) _ _ (upd_same (H := H1) (a := a) (o := .tup [.str "repeat", v]))
    have hbl := (ed.trans el) _ _ (upd_same (H := upd H1 a (.tup [.str "repeat", v])) (a := b) (o := .tup [.str "optional", v1]))
    have hdl := el _ _ (upd_same (H := upd (upd H1 a (.tup [.str "repeat", v])) b (.tup [.str "optional", v1])) (a := d) (o := .tup [.str "sequence", v, v0, .ref b]))
    refine ⟨p, l, c + cost 2, _, rfl, by show c + 21 ≤ 100000; omega, P1.up e1, (P1.up ((ea.trans eb).trans ed)).ne nl, upd_same, by show 1 ≤ 4; decide, by show 4 ≤ 1000; decide, fun u H2 hu x2 P2 => ?_⟩
    have xx := (x1.trans (Xp.ex e1)).trans x2
    have hv := (ht.up e1).xp x2
    have P3 : Pot H2 p (c + 100) := P2.more (by show c + 21 + 1 ≤ c + 100; omega)
    simp only [List.mem_cons, List.not_mem_nil, or_false] at hu
    rcases hu with rfl | rfl | rfl | rfl
    · exact q _ t H2 xx hv hok (by omega) (by omega) P3
    · exact q _ t H2 xx hv hok (by omega) (by omega) P3
    · refine q _ (.node "repeat" [t]) H2 xx (.node (P1.ne na) (x2 _ _ (P1.ne na) hal) (.cons hv .nil)) ⟨by decide, by simp, hok, trivial⟩ ?_ ?_ P3
      · show Nat.max t.dep 0 + 1 ≤ 10
        have : Nat.max t.dep 0 = t.dep := Nat.max_eq_left (Nat.zero_le _)
        omega
      · show 9 + (t.big + 1 + 0) ≤ 1000
        omega
    · have nbp := (P1.up ea).ne nb
      have ndp := (P1.up (ea.trans eb)).ne nd
      refine q _ (.node "sequence" [t, t0, .node "optional" [t1]]) H2 xx (.node ndp (x2 _ _ ndp hdl) (.cons hv (.cons ((ht0.up e1).xp x2) (.cons (.node nbp (x2 _ _ nbp hbl) (.cons ((ht1.up e1).xp x2) .nil)) .nil)))) ?_ ?_ ?_ P3
      · exact ⟨by decide, by simp, hok, ok0, ⟨by decide, by simp, ok1, trivial⟩, trivial⟩
      · show max t.dep (max t0.dep (max (max t1.dep 0 + 1) 0)) + 1 ≤ 10
        omega
      · show 9 + (t.big + 1 + (t0.big + 1 + (9 + (t1.big + 1 + 0) + 1 + 0))) ≤ 1000
        rw [dep0_big d0, dep0_big d1]
        omega
def spRight : Sp := fun vs H Q _ => ∃ p : Addr, vs = [.ref p] ∧ Pot H p 0 ∧ ∀ H', Xp p H H' → Q (.bl true) H'
theorem ok_right (T : TopOf K mg fLeaves fPot fTake fPick fExpr fDue fSmall fRight dLeaves dPot dTake dPick dExpr dDue dSmall dRight aL) : GnOk P w K mg base 12 fRight dRight ["_law_pot_here"] spRight := by
  have b1 : Binds K dLeaves ["expression"] [] := T.Leaves.binds fun _ _ _ _ _ _ us hl => match us, hl with | [_], _ => rfl
  have b2 : Binds K dDue ["_law_expression_here"] [] := T.Due.binds fun _ _ _ _ _ _ us hl => match us, hl with | [_], _ => rfl
  have b3 : Binds K dSmall ["_law_pot_here", "_law_menu"] [] := T.Small.binds fun _ _ _ _ _ _ us hl => match us, hl with | [_, _], _ => rfl
  have G1 : FnOk P w K mg base CX0 11 fLeaves dLeaves ["expression"] (spLeaves 11) := ok_leaves T.Leaves b1 T.gLeaves T.tuple T.gKinds T.kinds 11
  have G2 : GnOk P w K mg base 11 fDue dDue ["_law_expression_here"] spDue := ok_due T.Due T.repr T.zip T.tuple
  have G3 : FnOk P w K mg base CX0 11 fSmall dSmall ["_law_pot_here", "_law_menu"] spSmall := (ok_small T).mono (by decide)
  refine gn_of (N := nRight) T.Right scRight (fun vs H Q E h => ?_) (fun cd A out s H vs Q E hg hr h => ?_)
  · obtain ⟨p, rfl, _⟩ := h
    rfl
  · obtain ⟨p, rfl, hP, q⟩ := h
    refine ⟨_, pss_cons (ps_set (i := 1) scRight.nd rfl (.inl rfl) (pe_lst (pa_cons (pe_tup (pa_cons pe_str (pa_cons pe_str pa_nil))) (pa_cons (pe_tup (pa_cons pe_str (pa_cons pe_str pa_nil))) (pa_cons (pe_tup (pa_cons pe_str (pa_cons pe_str pa_nil)))
        (pa_cons (pe_tup (pa_cons pe_str (pa_cons pe_str pa_nil))) (pa_cons (pe_tup (pa_cons pe_str (pa_cons pe_str pa_nil))) pa_nil)))))))
      (pss_cons (ps_for PassesOwn.never rfl (pi_range1 (by rfl) T.range (pa_cons pe_int pa_nil)) (pg_name (i := 2) scRight.nd rfl (.inl rfl))
        (pss_cons (ps_set (i := 3) scRight.nd rfl (.inl rfl) (pe_call G3 hr (by rfl) T.gSmall T.Small.kp b3 .nil pass0 (pa_cons (pv 0) (pa_cons (pv 1) pa_nil))))
        (pss_cons (ps_par rfl scRight.nd rfl rfl (by decide) rfl rfl (i := 4) (j := 5) (pa_cons (pe_callB (cr_reprD hg hr.units) (by rfl) T.repr boot_repr (pa_cons (pv 3) pa_nil))
            (pa_cons (pe_callB (cr_reprD hg hr.units) (by rfl) T.repr boot_repr (pa_cons (pe_callG G2 hg hr (by rfl) T.gDue T.Due.kp b2 (pa_cons (pv 3) pa_nil)) pa_nil)) pa_nil)) (by rfl))
        (pss_one (ps_if (PW.pt (pw_or (pt_cmpR op_ne (pe_callB (cr_reprD hg hr.units) (by rfl) T.repr boot_repr (pa_cons (pe_call G1 hr (by rfl) T.gLeaves T.Leaves.kp b1 .nil pass0 (pa_cons (pv 3) pa_nil)) pa_nil)) (pv 5) (nomark _))
            (pw_or1 (pt_cmpR op_ne (pe_callB (cr_reprD hg hr.units) (by rfl) T.repr boot_repr (pa_cons (pv 3) pa_nil)) (pv 4) (nomark _))))) (pss_one (ps_ret pe_bl)) pss_nil)))))
      (pss_one (ps_ret pe_bl))), ?_⟩
    refine ⟨sz_of (by decide), fun a1 n1 => ⟨sz_of (by decide), fun a2 n2 => ⟨sz_of (by decide), fun a3 n3 => ⟨sz_of (by decide), fun a4 n4 => ⟨sz_of (by decide), fun a5 n5 => ⟨sz_of (by show 5 ≤ 100000; decide), fun m nm => ?_⟩⟩⟩⟩⟩⟩
    have e1 := Ex.new (o := .tup [.str "token", .str "a"]) n1
    have e2 := Ex.new (o := .tup [.str "token", .str "num"]) n2
    have e3 := Ex.new (o := .tup [.str "block", .str "b"]) n3
    have e4 := Ex.new (o := .tup [.str "block", .str "x"]) n4
    have e5 := Ex.new (o := .tup [.str "token", .str "abcdefgh"]) n5
    have em := Ex.new (o := .lst [.ref a1, .ref a2, .ref a3, .ref a4, .ref a5]) nm
    have h1 := (e2.trans (e3.trans (e4.trans (e5.trans em)))) _ _ upd_same
    have h2 := (e3.trans (e4.trans (e5.trans em))) _ _ upd_same
    have h3 := (e4.trans (e5.trans em)) _ _ upd_same
    have h4 := (e5.trans em) _ _ upd_same
    have h5 := em _ _ upd_same
    have p1 := hP.ne n1
    have p2 := (hP.up e1).ne n2
    have p3 := (hP.up (e1.trans e2)).ne n3
    have p4 := (hP.up ((e1.trans e2).trans e3)).ne n4
    have p5 := (hP.up (((e1.trans e2).trans e3).trans e4)).ne n5
    have pm := (hP.up ((((e1.trans e2).trans e3).trans e4).trans e5)).ne nm
    have e16 := ((((e1.trans e2).trans e3).trans e4).trans e5).trans em
    have hM : Menu2 p (upd (upd (upd (upd (upd (upd H a1 (.tup [.str "token", .str "a"])) a2 (.tup [.str "token", .str "num"])) a3 (.tup [.str "block", .str "b"])) a4 (.tup [.str "block", .str "x"])) a5 (.tup [.str "token", .str "abcdefgh"])) m (.lst [.ref a1, .ref a2, .ref a3, .ref a4, .ref a5])) m := by
      refine ⟨pm, _, upd_same, by show 2 ≤ 5; decide, by show 5 ≤ 20; decide, fun v hv => ?_⟩
      simp only [List.mem_cons, List.not_mem_nil, or_false] at hv
      rcases hv with rfl | rfl | rfl | rfl | rfl
      · exact ⟨_, .leaf p1 h1, ⟨by decide, by decide⟩, rfl⟩
      · exact ⟨_, .leaf p2 h2, ⟨by decide, by decide⟩, rfl⟩
      · exact ⟨_, .leaf p3 h3, ⟨by decide, by decide⟩, rfl⟩
      · exact ⟨_, .leaf p4 h4, ⟨by decide, by decide⟩, rfl⟩
      · exact ⟨_, .leaf p5 h5, ⟨by decide, by decide⟩, rfl⟩
    clear h1 h2 h3 h4 h5 em e5 e4 e3 e2 e1
    generalize hH1 : upd _ m _ = H1 at hM e16
    refine ⟨5, rfl, by decide, by decide, for_range (lo := 0) (n := 5) (fun i σ H' => Xp p H1 H' ∧ Pot H' p (i * 100) ∧ ∃ y2 y3 y4 y5, σ = [some (.ref p), some (.ref m), y2, y3, y4, y5]) ⟨Xp.refl _ _, (hP.up e16).more (by omega), none, none, none, none, rfl⟩ ?_ ?_⟩
    · rintro i σ H2 hi ⟨x2, P2, y2, y3, y4, y5, rfl⟩
      refine ⟨.ref p, rfl, .ref m, rfl, p, m, i * 100, rfl, by omega, by omega, P2, hM.xp x2, fun v t H3 x3 ht hok hdp hbig P3 => ?_⟩
      obtain ⟨a0, rfl⟩ := tr_ref ht
      have hft := fine_tr hok (by omega) (by omega)
      -- what was written, and what is due
      obtain ⟨l1, l2, l3⟩ := lv_ok t hok
      have hfl : Fine (.tuple (Tr.toDs t.lv)) := fine_trs l1 (by omega) (by omega)
      refine ⟨.ref a0, rfl, a0, t.toD, rfl, ht.dp, hft.1, hft.2.1, hft.2.2.1, sz_of hft.2.2.2, ?_⟩
      refine ⟨.ref a0, rfl, p, _, .ref a0, t, rfl, P3, ht, hok, by omega, by omega, fun a ws H5 na e5 ha hws => ?_⟩
      refine ⟨a, _, rfl, .tup (st_of ha) hws.dp, hfl.1, hfl.2.1, hfl.2.2.1, sz_of hfl.2.2.2, ?_⟩
      refine ⟨_, _, rfl, ?_⟩
      have ht5 := ht.up e5
      -- the leaves
      refine ⟨.ref a0, rfl, p, .ref a0, t, rfl, ht5, hok, by omega, by omega, fun b zs H6 nb e6 hb hzs => ?_⟩
      refine ⟨b, _, rfl, .tup (st_of hb) hzs.dp, hfl.1, hfl.2.1, hfl.2.2.1, sz_of hfl.2.2.2, _, rfl, rfl, _, rfl, ?_⟩
      rw [decide_eq_true rfl]
      refine iteF ?_
      have ht6 := ht5.up e6
      refine ⟨.ref a0, rfl, a0, t.toD, rfl, ht6.dp, hft.1, hft.2.1, hft.2.2.1, sz_of hft.2.2.2, _, rfl, rfl, _, rfl, ?_⟩
      rw [decide_eq_true rfl]
      refine iteF ?_
      exact ⟨(x2.trans x3).trans (Xp.ex (e5.trans e6)), (P3.up (e5.trans e6)).more (by omega), _, _, _, _, rfl⟩
    · rintro σ H2 ⟨x2, P2, y2, y3, y4, y5, rfl⟩
      exact q H2 ((Xp.ex e16).trans x2)
end
end K03
namespace K03
open PySem PySem.Spec PyProof.Rows L2 Evl Es
section
variable {P : Program} {w : World} {K : PySem.W.Frag} {mg : Str → Option Value} {base : Heap} {fLeaves fPot fTake fPick fExpr fDue fSmall fRight aL : Addr} {dLeaves dPot dTake dPick dExpr dDue dSmall dRight : FuncData}
def spLaw (K : PySem.W.Frag) : Sp := fun vs H Q _ => ∃ (a : Addr) (ns : List Int), vs = [.ref a] ∧ SqL K H a (ns.map V.int) ∧ ∀ H', Q (.bl true) H'
theorem rep_all : ∀ n : Nat, (List.replicate n true).all id = true
  | 0 => rfl
  | n + 1 => by
    rw [List.replicate_succ, List.all_cons, rep_all n]
    rfl
theorem ok_law {f : Addr} {fd : FuncData} (F : Fun K "law" "law" sLaw f fd) (T : TopOf K mg fLeaves fPot fTake fPick fExpr fDue fSmall fRight dLeaves dPot dTake dPick dExpr dDue dSmall dRight aL) : GnOk P w K mg base 13 f fd ["_law_script"] (spLaw K) := by
  have b1 : Binds K dPot ["_law_script", "_law_k"] [] := T.Pot.binds fun _ _ _ _ _ _ us hl => match us, hl with | [_, _], _ => rfl
  have b2 : Binds K dRight ["_law_pot_here"] [] := T.Right.binds fun _ _ _ _ _ _ us hl => match us, hl with | [_], _ => rfl
  have G1 : FnOk P w K mg base CX0 12 fPot dPot ["_law_script", "_law_k"] (spPot K) := ok_pot T.Pot T.len T.abs
  have G2 : GnOk P w K mg base 12 fRight dRight ["_law_pot_here"] spRight := ok_right T
  refine gn_of (N := nLaw) F scLaw (fun vs H Q E h => ?_) (fun cd A out s H vs Q E hg hr h => ?_)
  · obtain ⟨a, ns, rfl, _⟩ := h
    rfl
  · obtain ⟨a, ns, rfl, hS, q⟩ := h
    refine ⟨_, pss_one (ps_ret (pe_callB (cr_all rfl) (by rfl) T.all boot_all (pa_cons (pe_lc (own := [("_law_k", 1)]) (g := gName 1) (tt := tYes) rfl scLaw.nd
      (pi_range1 (by rfl) T.range (pa_cons (pe_callB (call_max2 rfl) (by rfl) T.max boot_max (pa_cons pe_int (pa_cons (pe_callB (call_min2 rfl) (by rfl) T.min boot_min (pa_cons pe_int (pa_cons (pe_callB call_len_seq (by rfl) T.len PySem.boot_len (pa_cons (pv 0) pa_nil)) pa_nil))) pa_nil))) pa_nil))
      (blkOk_by (N := nLaw) (sc := defScope sLaw) (own := [("_law_k", 1)]) (by decide +kernel)) (fun _ _ _ _ _ => pg_name (i := 1) scLaw.nd rfl (Or.inl rfl)) (fun _ _ _ _ _ => pts_nil)
      (fun _ _ _ _ _ => pe_callG G2 hg hr (by rfl) T.gRight T.Right.kp b2 (pa_cons (pe_call G1 hr (by rfl) T.gPot T.Pot.kp b1 .nil pass0 (pa_cons (pv 0) (pa_cons (pv 1) pa_nil))) pa_nil))) pa_nil))), ?_⟩
    obtain ⟨n, hn0, hn3, hn⟩ : ∃ n : Int, 0 ≤ n ∧ n ≤ 3 ∧ (if (if ((ns.map V.int).length : Int) < 3 then ((ns.map V.int).length : Int) else 3) > 1 then (if ((ns.map V.int).length : Int) < 3 then ((ns.map V.int).length : Int) else 3) else 1) = n := by
      refine ⟨_, ?_, ?_, rfl⟩ <;> (split <;> split <;> omega)
    refine ⟨.ref a, rfl, a, _, rfl, .inl hS, 3, _, rfl, 1, _, rfl, _, rfl, ?_⟩
    rw [hn]
    refine ⟨by omega, by omega, fun D nD => ?_⟩
    refine lc_range (lo := 0) (n := n.toNat) (g := gName 1) (tt := tYes) (vs := [1]) (fun i H' => Ex H H' ∧ H' D = some (.lst ((List.replicate i true).map V.bl))) ?_ ?_ ?_
    · exact ⟨Ex.new nD, upd_same⟩
    · rintro i H' hi ⟨e, hD⟩
      refine ⟨rfl, .ref a, rfl, .int (0 + (i : Int)), rfl, a, i, ns, by rw [Int.zero_add]; rfl, by omega, ex_l e hS, fun p H1 np e1 P1 => ?_⟩
      refine ⟨p, rfl, P1, fun H2 x2 => ?_⟩
      have hnp : ∀ b o, H' b = some o → H2 b = some o := fun b o hb => x2 b o (ne_of_none hb np) (e1 b o hb)
      refine ⟨_, hnp _ _ hD, ?_, Ex.mut (e.trans hnp) nD, ?_⟩
      · rw [List.length_map, List.length_replicate]
        exact sz_lt (by omega)
      · rw [upd_same, List.replicate_succ', List.map_append]
        rfl
    · rintro H' ⟨e, hD⟩
      refine ⟨D, List.replicate n.toNat true, rfl, sq_of hD, ?_⟩
      rw [rep_all]
      exact q H'
end
theorem all_mk {l : PySem.W.OpenLaw} {w : World} {K : PySem.W.Frag} {h : Heap} {mg : Str → Option Value} {fa : Addr} (X : K.In h) (G : h.Ns mainGlobals mg) (hfa : mg "law" = some (.ref fa))
    {f0 : Addr} {od0 an0 : Option Addr} {sl0 : Array (Option Value)} {oc0 kV0 dc0 pm0 cd0 ct0 : Value}
    {f1 : Addr} {od1 an1 : Option Addr} {sl1 : Array (Option Value)} {oc1 kV1 dc1 pm1 cd1 ct1 : Value}
    {f2 : Addr} {od2 an2 : Option Addr} {sl2 : Array (Option Value)} {oc2 kV2 dc2 pm2 cd2 ct2 : Value}
    {f3 : Addr} {od3 an3 : Option Addr} {sl3 : Array (Option Value)} {oc3 kV3 dc3 pm3 cd3 ct3 : Value}
    {f4 : Addr} {od4 an4 : Option Addr} {sl4 : Array (Option Value)} {oc4 kV4 dc4 pm4 cd4 ct4 : Value}
    {f5 : Addr} {od5 an5 : Option Addr} {sl5 : Array (Option Value)} {oc5 kV5 dc5 pm5 cd5 ct5 : Value}
    {f6 : Addr} {od6 an6 : Option Addr} {sl6 : Array (Option Value)} {oc6 kV6 dc6 pm6 cd6 ct6 : Value}
    {f7 : Addr} {od7 an7 : Option Addr} {sl7 : Array (Option Value)} {oc7 kV7 dc7 pm7 cd7 ct7 : Value}
    {f8 : Addr} {od8 an8 : Option Addr} {sl8 : Array (Option Value)} {oc8 kV8 dc8 pm8 cd8 ct8 : Value}
    {u0 : Addr} {ud0 : Option Addr} {un0 : Nat} {us0 : Array (Option Value)} {ut0_0 : Tok} {ut0_1 : Tok}
    (a0 : PySem.W.nsIn K mainGlobals "leaves" = some (some (.ref f0))) (l0 : K.lookup f0 = some ⟨oc0, od0, .func (PySem.W.fnOf "leaves" "leaves" (defArgs sLeaves) (defBody sLeaves) (defScope sLeaves) .none kV0 dc0 pm0 an0 cd0 ct0), sl0⟩)
      (c0 : PySem.W.codeIn K cd0 "leaves" = true) (k0 : PySem.W.keepIn K (.ref f0) = true)
    (a1 : PySem.W.nsIn K mainGlobals "_law_pot" = some (some (.ref f1))) (l1 : K.lookup f1 = some ⟨oc1, od1, .func (PySem.W.fnOf "_law_pot" "_law_pot" (defArgs sPot) (defBody sPot) (defScope sPot) .none kV1 dc1 pm1 an1 cd1 ct1), sl1⟩)
      (c1 : PySem.W.codeIn K cd1 "_law_pot" = true) (k1 : PySem.W.keepIn K (.ref f1) = true)
    (a2 : PySem.W.nsIn K mainGlobals "_law_take" = some (some (.ref f2))) (l2 : K.lookup f2 = some ⟨oc2, od2, .func (PySem.W.fnOf "_law_take" "_law_take" (defArgs sTake) (defBody sTake) (defScope sTake) .none kV2 dc2 pm2 an2 cd2 ct2), sl2⟩)
      (c2 : PySem.W.codeIn K cd2 "_law_take" = true) (k2 : PySem.W.keepIn K (.ref f2) = true)
    (a3 : PySem.W.nsIn K mainGlobals "_law_pick" = some (some (.ref f3))) (l3 : K.lookup f3 = some ⟨oc3, od3, .func (PySem.W.fnOf "_law_pick" "_law_pick" (defArgs sPick) (defBody sPick) (defScope sPick) .none kV3 dc3 pm3 an3 cd3 ct3), sl3⟩)
      (c3 : PySem.W.codeIn K cd3 "_law_pick" = true) (k3 : PySem.W.keepIn K (.ref f3) = true)
    (a4 : PySem.W.nsIn K mainGlobals "_law_expression" = some (some (.ref f4))) (l4 : K.lookup f4 = some ⟨oc4, od4, .func (PySem.W.fnOf "_law_expression" "_law_expression" (defArgs sExpr) (defBody sExpr) (defScope sExpr) .none kV4 dc4 pm4 an4 cd4 ct4), sl4⟩)
      (c4 : PySem.W.codeIn K cd4 "_law_expression" = true) (k4 : PySem.W.keepIn K (.ref f4) = true)
    (a5 : PySem.W.nsIn K mainGlobals "_law_due" = some (some (.ref f5))) (l5 : K.lookup f5 = some ⟨oc5, od5, .func (PySem.W.fnOf "_law_due" "_law_due" (defArgs sDue) (defBody sDue) (defScope sDue) .none kV5 dc5 pm5 an5 cd5 ct5), sl5⟩)
      (c5 : PySem.W.codeIn K cd5 "_law_due" = true) (k5 : PySem.W.keepIn K (.ref f5) = true)
    (a6 : PySem.W.nsIn K mainGlobals "_law_small" = some (some (.ref f6))) (l6 : K.lookup f6 = some ⟨oc6, od6, .func (PySem.W.fnOf "_law_small" "_law_small" (defArgs sSmall) (defBody sSmall) (defScope sSmall) .none kV6 dc6 pm6 an6 cd6 ct6), sl6⟩)
      (c6 : PySem.W.codeIn K cd6 "_law_small" = true) (k6 : PySem.W.keepIn K (.ref f6) = true)
    (a7 : PySem.W.nsIn K mainGlobals "_law_right" = some (some (.ref f7))) (l7 : K.lookup f7 = some ⟨oc7, od7, .func (PySem.W.fnOf "_law_right" "_law_right" (defArgs sRight) (defBody sRight) (defScope sRight) .none kV7 dc7 pm7 an7 cd7 ct7), sl7⟩)
      (c7 : PySem.W.codeIn K cd7 "_law_right" = true) (k7 : PySem.W.keepIn K (.ref f7) = true)
    (a8 : PySem.W.nsIn K mainGlobals "law" = some (some (.ref f8))) (l8 : K.lookup f8 = some ⟨oc8, od8, .func (PySem.W.fnOf "law" "law" (defArgs sLaw) (defBody sLaw) (defScope sLaw) .none kV8 dc8 pm8 an8 cd8 ct8), sl8⟩)
      (c8 : PySem.W.codeIn K cd8 "law" = true) (k8 : PySem.W.keepIn K (.ref f8) = true)
    (w0 : PySem.W.nsIn K mainGlobals "LEAF_KINDS" = some (some (.ref u0))) (x0 : K.lookup u0 = some ⟨.type "tuple", ud0, .seq #[.str "token" ut0_0, .str "block" ut0_1] un0, us0⟩)
    (z0 : PySem.W.nsIn K mainGlobals "len" = some none)
    (z1 : PySem.W.nsIn K mainGlobals "all" = some none)
    (z2 : PySem.W.nsIn K mainGlobals "abs" = some none)
    (z3 : PySem.W.nsIn K mainGlobals "range" = some none)
    (z4 : PySem.W.nsIn K mainGlobals "max" = some none)
    (z5 : PySem.W.nsIn K mainGlobals "min" = some none)
    (z6 : PySem.W.nsIn K mainGlobals "repr" = some none)
    (z7 : PySem.W.nsIn K mainGlobals "zip" = some none)
    (z8 : PySem.W.nsIn K mainGlobals "tuple" = some none) :
    ∃ fd : FuncData, (∀ (s : Shared) (v : Value), BindsTo s fd ⟨[v], []⟩ [("_law_script", v)]) ∧ ∀ bs : Heap, K.In bs → bs.Ns mainGlobals mg → GnOk l.prog w K mg bs 13 fa fd ["_law_script"] (spLaw K) := by
  have e := hfa.symm.trans (PySem.W.mg_of X G a8)
  cases e
  have F0 := fun_mk (st := sLeaves) l0 c0 k0
  have F1 := fun_mk (st := sPot) l1 c1 k1
  have F2 := fun_mk (st := sTake) l2 c2 k2
  have F3 := fun_mk (st := sPick) l3 c3 k3
  have F4 := fun_mk (st := sExpr) l4 c4 k4
  have F5 := fun_mk (st := sDue) l5 c5 k5
  have F6 := fun_mk (st := sSmall) l6 c6 k6
  have F7 := fun_mk (st := sRight) l7 c7 k7
  have F8 := fun_mk (st := sLaw) l8 c8 k8
  exact ⟨_, fun s v => .of_eq rfl, fun bs _ _ => ok_law F8 ⟨F0, F1, F2, F3, F4, F5, F6, F7, PySem.W.mg_of X G a0, PySem.W.mg_of X G a1, PySem.W.mg_of X G a2, PySem.W.mg_of X G a3, PySem.W.mg_of X G a4, PySem.W.mg_of X G a5, PySem.W.mg_of X G a6, PySem.W.mg_of X G a7, (fun _ => .inr ⟨_, _, _, x0, rfl, rfl, by show 2 ≤ sizeLine; decide, (.cons ⟨_, rfl⟩ (.cons ⟨_, rfl⟩ .nil))⟩), PySem.W.mg_of X G w0, PySem.W.mg_none_of X G z0, PySem.W.mg_none_of X G z1, PySem.W.mg_none_of X G z2, PySem.W.mg_none_of X G z3, PySem.W.mg_none_of X G z4, PySem.W.mg_none_of X G z5, PySem.W.mg_none_of X G z6, PySem.W.mg_none_of X G z7, PySem.W.mg_none_of X G z8⟩⟩
end K03
open PySem PySem.W PyProof.Rows
set_option maxHeartbeats 0 in
theorem PySem.Challenge.cw_errorspans_k03_leaves_from_left_to_right_holds : PySem.Challenge.rw_errorspans_k03_leaves_from_left_to_right.Holds := by
  w_on; o_law; k_head; (case hw => w_witness2)
  k_fill
  refine Es.walk_ofG (l := PySem.Challenge.rw_errorspans_k03_leaves_from_left_to_right) (n := 63) (k := 13) (x := "_law_script") (sp := K03.spLaw) rfl (by decide) rfl ⟨rfl, by decide, by decide⟩ (fun w h Y => PySem.W.kIn_of Y) ?F (fun _ _ a ns _ _ hS => ⟨a, ns, rfl, hS, fun _ => rfl⟩)
  case F =>
    intro w mg fa h KX G hmg
    refine' K03.all_mk KX G hmg ?a0 ?l0 ?c0 ?k0 ?a1 ?l1 ?c1 ?k1 ?a2 ?l2 ?c2 ?k2 ?a3 ?l3 ?c3 ?k3 ?a4 ?l4 ?c4 ?k4 ?a5 ?l5 ?c5 ?k5 ?a6 ?l6 ?c6 ?k6 ?a7 ?l7 ?c7 ?k7 ?a8 ?l8 ?c8 ?k8 ?w0 ?x0 ?z0 ?z1 ?z2 ?z3 ?z4 ?z5 ?z6 ?z7 ?z8
    (case a0 => k_is); (case l0 => k_is); (case c0 => k_is); (case k0 => k_is); (case a1 => k_is); (case l1 => k_is); (case c1 => k_is); (case k1 => k_is)
    (case a2 => k_is); (case l2 => k_is); (case c2 => k_is); (case k2 => k_is); (case a3 => k_is); (case l3 => k_is); (case c3 => k_is); (case k3 => k_is)
    (case a4 => k_is); (case l4 => k_is); (case c4 => k_is); (case k4 => k_is); (case a5 => k_is); (case l5 => k_is); (case c5 => k_is); (case k5 => k_is)
    (case a6 => k_is); (case l6 => k_is); (case c6 => k_is); (case k6 => k_is); (case a7 => k_is); (case l7 => k_is); (case c7 => k_is); (case k7 => k_is)
    (case a8 => k_is); (case l8 => k_is); (case c8 => k_is); (case k8 => k_is); (case w0 => k_is); (case x0 => k_is); (case z0 => k_is); (case z1 => k_is)
    (case z2 => k_is); (case z3 => k_is); (case z4 => k_is); (case z5 => k_is); (case z6 => k_is); (case z7 => k_is); (case z8 => k_is)
