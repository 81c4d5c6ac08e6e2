import PyProof.Rows.All
import Wide.All
import OpenK.AllK
import Wide.FinOn
import HandS.ForMost
import HandS.IsInst
import HandS.Evl
import HandS.Walk
import PySem.Challenge.RW_errorspans_k01_tokens_of_any_value
set_option Elab.async false
set_option linter.all false
set_option maxRecDepth 100000
set_option maxHeartbeats 2000000
namespace Es
open PySem PySem.Spec PyProof.Rows L2 Evl
section
variable {X : Cx}
/-- repr of a truth value -/
theorem cr_reprB : CallR X (.builtin "repr") (fun xs H Q => ∃ b : Bool, xs = [.bl b] ∧ Q (.str (if b then "True" else "False")) H) := by
  intro pins s σ H xs us Q I r h
  obtain ⟨b, rfl, q⟩ := h
  obtain ⟨u, rfl, ru⟩ := vals1 r
  obtain rfl : u = Value.bool b := ru
  exact PySem.P.repr_of_bool ⟨.str _, H, I.tok _, ⟨_, rfl⟩, q⟩
/-- repr of data that lies at an address -/
theorem cr_reprD (hg : X.A.guards = some []) (hu : X.A.units + 64 < cLine) : CallR X (.builtin "repr")
    (fun xs H Q => ∃ (a : Addr) (d : PyData), xs = [.ref a] ∧ Dp X.K H (.ref a) d ∧ d.showable = true ∧ d.hasDict = false ∧ d.depth ≤ 60 ∧ d.shown.length ≤ sizeLine ∧ Q (.str d.shown) H) := by
  intro pins s σ H xs us Q I r h
  obtain ⟨a, d, rfl, hd, hs, hn, hdp, hz, q⟩ := h
  obtain ⟨u, rfl, ru⟩ := vals1 r
  obtain rfl : u = Value.ref a := ru
  obtain ⟨as, rd⟩ := Dp.reads I d _ _ hd rfl
  refine repr_of_reads' rd hs (fun z => ?_) hg (by omega) (fun _ _ e => e) (fun h' u tk hk => ?_) hz
  · rw [hn] at z; cases z
  · exact ⟨.str d.shown, H, I.kept (t' := tk) hk, ⟨_, rfl⟩, q⟩
/-- powers of great numbers -/
def CPowW (i j : Int) : Prop := 0 ≤ j ∧ (Builtin.Int.intBits i : Int) * j ≤ 2 ^ 27
theorem op_powW : OpR X (binaryOp .Pow) (rI CPowW fun i j => .int (i ^ j.toNat)) := opI fun _ _ _ _ _ _ _ hc q => pow_int hc.1 hc.2 q
end
/-- a def's promise, given where no repr is under way -/
structure GnOk (P : Program) (w : World) (K : PySem.W.Frag) (mg : Str → Option Value) (bs : Heap) (k : Nat) (f : Addr) (fd : FuncData) (ps : List Str) (sp : Sp) : Prop where
  len : ∀ vs H Q E, sp vs H Q E → vs.length = ps.length
  run : ∀ (A : Around) (out : List Env) (s : Shared) (H : Hp) (ar : Args) (us : List Value) (vs : List V) (Q : VK) (E : XK), A.guards = some [] → Room k A →
    Env0 P w K mg bs A out s H → BindsTo s fd ar (ps.zip us) → Vals vs us → sp vs H Q E → codeAny (model P w) A (.call (.ref f) ar) (CR CX0 out P w H s Q E) s
section
variable {P : Program} {w : World} {K : PySem.W.Frag} {mg : Str → Option Value} {bs : Heap} {k : Nat} {f : Addr} {fd : FuncData} {ps : List Str} {sp : Sp}
theorem GnOk.ofF (F : FnOk P w K mg bs CX0 k f fd ps sp) : GnOk P w K mg bs k f fd ps sp := ⟨F.len, fun A out s H ar us vs Q E _ => F.run A out s H ar us vs Q E⟩
theorem GnOk.mono {j : Nat} (F : GnOk P w K mg bs j f fd ps sp) (h : j ≤ k) : GnOk P w K mg bs k f fd ps sp := ⟨F.len, fun A out s H ar us vs Q E g hr => F.run A out s H ar us vs Q E g (hr.mono h)⟩
theorem gn_of {x qual : Str} {st : Stmt} {N : List Str} (F : Fun K x qual st f fd) (S : FnScope N ps (defScope st)) (len : ∀ vs H Q E, sp vs H Q E → vs.length = ps.length)
    (hb : ∀ (cd : Value) (A : Around) (out : List Env) (s : Shared) (H : Hp) (vs : List V) (Q : VK) (E : XK), A.guards = some [] → Room k (A.deeper (envOfC qual (defScope st) s.heap.objs.size f cd)) →
      sp vs H Q E → ∃ t, PSs (cxOf CX0 P w K mg bs N qual (defScope st) f cd A out s H E).nox (defBody st) t ∧ t { nx := fun _ H' => Q .non H', rt := Q } (start N vs) H) :
    GnOk P w K mg bs (k + 1) f fd ps sp := by
  obtain ⟨oc, od, kV, dc, pm, an, cd, ct, sl, rfl, lk, hcd⟩ := F.ex
  refine ⟨len, ?_⟩
  intro A out s H ar us vs Q E g hr e0 hbd rv hs
  have up := fun b o (e : bs.get? b = some o) => (e0.bs b o e).1
  have kin := e0.mod.kin.keeps up
  have ln := len _ _ _ _ hs
  obtain ⟨t, ht, hq⟩ := hb cd A out s H vs Q E g (hr.deeper _) hs
  have hk : ∀ y ∈ ps.zip us, (defScope st).names.lookup y.1 = some .local ∨ ((defScope st).names.lookup y.1 = some .cell ∧ ((cellsFrom (s.heap.objs.size + 1) (defScope st).names []).lookup y.1).isSome = true) := by
    intro ⟨n, v⟩ hy
    rcases S.par n (List.of_mem_zip hy).1 with q | q
    · exact Or.inl q
    · exact Or.inr ⟨q, PySem.W.cellsFrom_some _ _ _ (.inl q)⟩
  refine codeAny_call_function hr.depth (kin _ _ lk) rfl S.co S.gen rfl (PySem.W.codeRec_of kin hcd) (hbd _ _ _ _ ?_)
  refine wpAny_newFunctionEnv_cells S.kind hk ?_
  intro en he s1 x
  subst he
  refine ⟨(e0.mod.nolimit.keeps up).keeps x.toInCall.keep, codeAny_func ?_⟩
  have I := inv_start (CX := CX0) (P := P) (w := w) (K := K) (mg := mg) (base := bs) (E := E) S hr.hd e0 ln rv x
  refine wpAny_mono (ht.nox.run [] s1 (start N vs) H _ I hq) ?_ (fun e s' hs => hs)
  intro fl s' z
  have fin : ∀ {σ' : L2.St} {H' : Hp} {v : V} {u : Value}, Inv (cxOf CX0 P w K mg bs N qual (defScope st) f cd A out s H E) [] σ' H' s' → RelV v u → Q v H' → CE out P w H s Q u s' :=
    fun J r q => ⟨_, _, J.os, J.bare, J.base, J.hok, r, q⟩
  match fl, z with
  | .ret u, ⟨v, σ', H', J, r, q⟩ => exact fin J r q
  | .next, ⟨σ', H', J, q⟩ => exact fin (v := V.non) (u := Value.none) J rfl q
  | .brk, ⟨_, _, _, q⟩ => exact q.elim
  | .cont, ⟨_, _, _, q⟩ => exact q.elim
end
section
variable {X : Cx} {k : Nat} {f : Addr} {fd : FuncData} {ps ks : List Str} {sp : Sp} {x : Str} {p pos : Pos} {e : Expr} {es : List Expr} {kws : List Keyword} {t tk : TA}
theorem run_gn {pins : List (Addr × Obj)} {σ : L2.St} {H : Hp} {s : Shared} {Q : VK} {us : List Value} {vs : List V} (F : GnOk X.prog X.w X.K X.mg X.base k f fd ps sp) (g : X.A.guards = some []) (hr : Room k X.A)
    (hb : Binds X.K fd ps []) (I : Inv X pins σ H s) (r : Vals vs us) (h : sp vs H Q E0) : wpAny (model X.prog X.w) X.A (call (.ref f) us) (EP X pins σ Q) X.xe s := by
  have ln := F.len _ _ _ _ h
  have hb' := hb s us I.kIn (by rw [List.append_nil, ← r.length]; exact ln)
  rw [List.append_nil] at hb'
  refine wpAny_call (codeAny_mono (F.run X.A X.stack s H ⟨us, []⟩ us vs Q E0 g hr I.env0 hb' r h) ?_)
  intro rs s' z
  match rs, z with
  | .ok (.ret u), z => exact I.after z
/-- f(e, ..), f one that may ask for a repr -/
theorem pe_callG (F : GnOk X.prog X.w X.K X.mg X.base k f fd ps sp) (g : X.A.guards = some []) (hr : Room k X.A) (hg : Gl X x) (hm : X.mg x = some (.ref f)) (hk : PySem.W.keepIn X.K (.ref f) = true)
    (hb : Binds X.K fd ps []) (ha : PA X (e :: es) t) (hdb : (x == ("__debug__" : Str)) = false := by decide)
    (he : starEach (e :: es) X.env = (false, eval e X.env) :: starEach es X.env := by rfl) (hpl : (backTo pos (starEach es X.env)).any (·.1) = false := by rfl) :
    PE X (.Call (.Name x p) (e :: es) [] pos) (fun σ H Q => t σ H fun vs H1 => sp vs H1 Q E0) := by
  refine ⟨?_⟩
  intro pins s σ H Q I h
  refine wpAny_Call_Name_kw (ld_glob I hg hm ?_ hdb)
  refine PySem.W.callWith_K (h₀ := X.base) I.ok.mod.kin hk (thn (ha.run pos pins s σ H _ I h) ?_) he hpl
  rintro us s1 ⟨vs, H1, I1, r, q⟩
  exact ⟨I1.kIn, run_gn F g hr hb I1 r q⟩
/-- f(k = v, ..): keywords alone -/
theorem pe_callK0 {gg : List Value → List Value → List Value} {gV : List V → List V → List V} (F : FnOk X.prog X.w X.K X.mg X.base CX0 k f fd ps sp) (hr : Room k X.A) (hg : Gl X x) (hm : X.mg x = some (.ref f)) (hk : PySem.W.keepIn X.K (.ref f) = true)
    (hb : KBinds X.K fd ps ks gg gV) (hkw : PK X kws tk) (hall : (backToKw pos (keywordEach kws X.env)).all (·.1.isSome) = true := by rfl) (hks : (backToKw pos (keywordEach kws X.env)).filterMap (·.1) = ks := by rfl)
    (hdb : (x == ("__debug__" : Str)) = false := by decide) (hpl : ((backTo pos (starEach [] X.env)).any (·.1) || (backToKw pos (keywordEach kws X.env)).any (·.1.isNone)) = false := by rfl) :
    PE X (.Call (.Name x p) [] kws pos) (fun σ H Q => tk σ H fun zs H1 => sp (gV [] zs) H1 Q E0) := by
  refine ⟨?_⟩
  intro pins s σ H Q I h
  refine wpAny_Call_Name_kw (ld_glob I hg hm ?_ hdb)
  refine PySem.W.callWith_KW0 (h₀ := X.base) I.ok.mod.kin hk hall (thn (hkw.run pos pins s σ H _ I h) ?_) hpl
  rintro ws s2 ⟨zs, H2, I2, rz, q2⟩
  refine ⟨I2.kIn, ?_⟩
  rw [hks]
  exact run_fnk F hr hb pass0 I2 .nil rz q2
end
/-! the law's own call -/
section
variable {P : Program} {w : World} {K : PySem.W.Frag} {mg mb : Str → Option Value} {k : Nat} {fa a : Addr} {fd : FuncData} {x : Str} {sp : Sp} {s1 : Shared} {vs : List Value} {ns : List Int}
def LawEnd (s1 : Shared) : Result → Shared → Prop := fun r s' => r = .ok (.ret (.bool true)) ∧ OldK s1.heap s'.heap ∧ s'.os = s1.os ∧ AllBare s'.gens
theorem law_core (KX : K.In s1.heap) (hns : s1.heap.Ns mainGlobals mg) (hb : s1.heap.Ns builtinsNs mb) (hbb : ∀ x : Str, x ≠ "__name__" → mb x = bootBuiltins x) (hlim : s1.heap.NoLimit) (hg : s1.gens = #[])
    (ha : s1.heap.get? a = some { cls := .type "list", data := .seq vs.toArray }) (hr : Room k callerA)
    (F : ∀ bs : Heap, K.In bs → bs.Ns mainGlobals mg → GnOk P w K mg bs k fa fd [x] sp) (hbd : ∀ (s : Shared) (u : Value), BindsTo s fd ⟨[u], []⟩ [(x, u)])
    (H : Hp) (hO : Only H) (hok : HOk P w H s1.heap) (hA : ∀ b, H b ≠ none → b = a) (hK : H a ≠ none → K.lookup a = none) (hs : sp [.ref a] H (fun v _ => v = .bl true) E0) :
    codeAny (model P w) callerA (.call (.ref fa) ⟨[.ref a], []⟩) (LawEnd s1) s1 := by
  have isA : ∀ {b : Addr} {u : HO}, H b = some u → b = a := fun q => hA _ (by rw [q]; simp)
  have nodict : ∀ {b : Addr} {o : Obj} {es : Array DictEntry} {ep : Nat}, s1.heap.get? b = some o → o.data = .dict es ep → H b = none := by
    intro b o es ep e d
    cases q : H b with
    | none => rfl
    | some u =>
      cases isA q
      rw [ha] at e
      cases e
      cases d
  have low : ∀ {b : Addr} {o : Obj}, s1.heap.get? b = some o → H b = none → (hidT s1.heap H).get? b = some o := fun e n => hidT_get e n
  have nsl : ∀ {b : Addr} {m : Str → Option Value}, s1.heap.Ns b m → (hidT s1.heap H).Ns b m := by
    rintro b m ⟨o, es, ep, e, d, r⟩
    exact ⟨o, es, ep, low e (nodict e d), d, r⟩
  have kl : K.In (hidT s1.heap H) := by
    intro b o e
    refine low (KX b o e) ?_
    cases q : H b with
    | none => rfl
    | some u =>
      cases isA q
      rw [hK (by rw [q]; simp)] at e
      cases e
  obtain ⟨mc, hm1, hm2⟩ := hlim
  have md : Mod K mg (hidT s1.heap H) := ⟨kl, nsl hns, ⟨mb, nsl hb, hbb⟩, ⟨mc, nsl hm1, hm2⟩⟩
  have e0 : Env0 P w K mg (hidT s1.heap H) callerA [] s1 H :=
    ⟨rfl, md, fun b o e => of_hidT e, Nat.le_of_eq (hidT_size _ _), trivial, fun b z => absurd (show b ∈ ([] : List Addr) from z) (by simp), hok, .of_eq hg⟩
  refine codeAny_mono ((F _ kl (nsl hns)).run callerA [] s1 H ⟨[.ref a], []⟩ [.ref a] [.ref a] _ _ rfl hr e0 (hbd s1 (.ref a)) (.cons rfl .nil) hs) ?_
  intro r s' z
  match r, z with
  | .ok (.ret u), ⟨v, H', os, bare, un, hok', rv, q⟩ =>
    cases (show v = .bl true from q)
    obtain rfl : u = Value.bool true := rv
    refine ⟨rfl, OldK.of_keep ?_, os, bare⟩
    intro b o e
    cases q : H b with
    | none => exact un.keep b o e q (by intro z; exact absurd (show b ∈ ([] : List Addr) from z) (by simp)) (by simp)
    | some u =>
      rcases hO b with z | ⟨ob, xs, z⟩
      · rw [q] at z
        cases z
      · obtain ⟨g1, _⟩ := hok b _ z
        obtain ⟨g2, _⟩ := hok' b _ (un.frzs b ob _ z)
        rw [e] at g1
        cases g1
        exact g2
theorem law_callG (KX : K.In s1.heap) (hns : s1.heap.Ns mainGlobals mg) (hb : s1.heap.Ns builtinsNs mb) (hbb : ∀ x : Str, x ≠ "__name__" → mb x = bootBuiltins x) (hlim : s1.heap.NoLimit) (hg : s1.gens = #[])
    (ha : s1.heap.get? a = some { cls := .type "list", data := .seq vs.toArray }) (hi : IntsAre vs ns) (hl : ns.length ≤ sizeLine) (hr : Room k callerA)
    (F : ∀ bs : Heap, K.In bs → bs.Ns mainGlobals mg → GnOk P w K mg bs k fa fd [x] sp) (hbd : ∀ (s : Shared) (u : Value), BindsTo s fd ⟨[u], []⟩ [(x, u)])
    (hsp : ∀ H : Hp, Only H → SqL K H a (ns.map V.int) → sp [.ref a] H (fun v _ => v = .bl true) E0) :
    codeAny (model P w) callerA (.call (.ref fa) ⟨[.ref a], []⟩) (LawEnd s1) s1 := by
  have rv := vals_ints hi
  cases hk : K.lookup a with
  | some o =>
    have e := KX a o hk
    rw [ha] at e
    cases e
    have hO : Only (fun _ => none) := fun _ => .inl rfl
    refine law_core KX hns hb hbb hlim hg ha hr F hbd (fun _ => none) hO (fun b u z => nomatch z) (fun b z => absurd rfl z) (fun z => absurd rfl z) (hsp _ hO ?_)
    exact .inr ⟨_, vs.toArray, _, hk, rfl, rfl, rfl, by rw [List.size_toArray, hi.length]; exact hl, by simpa using rv⟩
  | none =>
    let Z : Hp := fun b => if b = a then some (.frz { cls := .type "list", data := .seq vs.toArray } (.lst (ns.map V.int))) else none
    have hZ : Z a = some (.frz { cls := .type "list", data := .seq vs.toArray } (.lst (ns.map V.int))) := if_pos rfl
    have hZn : ∀ b, b ≠ a → Z b = none := fun b h => if_neg h
    have hO : Only Z := fun b => by
      by_cases h : b = a
      · subst h
        exact .inr ⟨_, _, hZ⟩
      · exact .inl (hZn b h)
    refine law_core KX hns hb hbb hlim hg ha hr F hbd Z hO (fun b u z => ?_) (fun b z => ?_) (fun _ => hk) (hsp Z hO (.inl (.inr ⟨_, hZ⟩)))
    · by_cases h : b = a
      · subst h
        rw [hZ] at z
        cases z
        exact ⟨ha, by rw [List.length_map]; exact hl, vs, _, rv, ha⟩
      · rw [hZn b h] at z
        cases z
    · by_cases h : b = a
      · exact h
      · exact absurd (hZn b h) z
end
theorem walk_ofG {l : PySem.W.OpenLaw} {n k : Nat} {q : Program} {loose : List Str} {XP : (Str → Option Value) → Heap → Prop} {YP : World → Heap → Prop} {d : DefRec} {K : Params → PySem.W.Frag} {sp : PySem.W.Frag → Sp} {x : Str}
    (hn : l.most = some n) (hn2 : n ≤ sizeLine) (hdf : d.params.defaults = []) (hr : Room k callerA) (hY : ∀ (w : World) (h : Heap), YP w h → (K w.params).In h)
    (F : ∀ (w : World) (mg : Str → Option Value) (fa : Addr) (h : Heap), (K w.params).In h → h.Ns mainGlobals mg → mg d.name = some (.ref fa) →
      ∃ fd : FuncData, (∀ (s : Shared) (u : Value), BindsTo s fd ⟨[u], []⟩ [(x, u)]) ∧
        ∀ bs : Heap, (K w.params).In bs → bs.Ns mainGlobals mg → GnOk l.prog w (K w.params) mg bs k fa fd [x] (sp (K w.params)))
    (hsp : ∀ (K : PySem.W.Frag) (H : Hp) (a : Addr) (ns : List Int), ns.length ≤ n → Only H → SqL K H a (ns.map V.int) → sp K [.ref a] H (fun v _ => v = .bl true) E0) :
    PySem.W.WalkO q loose XP YP l.row.toRowW d [] (fun f vs => PySem.call f vs) := by
  refine Att.attach_call hn hdf ?_
  intro w s0 s1 mg mb fa o pm cd dc a vs ns G Y ho hd hcd hmg hobj hints hlen hgn
  have KX := hY w _ Y
  obtain ⟨fd, hb, hF⟩ := F w mg fa _ KX G.T.g hmg
  exact law_callG KX G.T.g G.T.b G.T.builtins G.T.nolimit hgn hobj hints (Nat.le_trans hlen hn2) hr hF hb fun H hO hS => hsp _ H a ns hlen hO hS
end Es
namespace Es
open PySem PySem.Spec PyProof.Rows L2 Evl
section
variable {K : PySem.W.Frag} {σ : L2.St} {H H' : Hp} {ta tb tc te : TE} {x y z v w : V} {r r' : R2}
theorem ev_chain {k k' : Bool} (ha : Ev ta σ H x) (hb : Ev tb σ H y) (hr : RV r x y H (.bl k)) (hc : k = true → Ev tc σ H w) (hr' : k = true → RV r' y w H (.bl k')) : Ev (tChain r r' ta tb tc) σ H (.bl (k && k')) := by
  intro H1 e Q q
  refine ha H1 e _ fun H2 e2 => hb H2 (e.trans e2) _ fun H3 e3 => hr H3 ((e.trans e2).trans e3) _ fun H4 e4 => ⟨k, rfl, ?_⟩
  have e14 := (e2.trans e3).trans e4
  cases k with
  | true => exact hc rfl H4 (e.trans e14) _ fun H5 e5 => hr' rfl H5 ((e.trans e14).trans e5) Q fun H6 e6 => q H6 ((e14.trans e5).trans e6)
  | false => exact q H4 e14
/-- a text walked by a comprehension without tests, each sign giving f of it -/
theorem el_lcS {s : Str} {tl : TE} {j : Nat} {vs : List Nat} (f : Nat → V) (h : Ev tl σ H (.str s)) (hz : s.cps.size ≤ 40000) (hw : ∀ x, wipe ((wipe σ vs).set j (some x)) vs = wipe σ vs)
    (he : ∀ (c : Nat) H1, Ex H H1 → c ∈ s.cps.toList → Ev te ((wipe σ vs).set j (some (.str ⟨#[c]⟩))) H1 (f c)) :
    EvL (tLc (iStr tl) (gName j) tYes te vs) σ H (s.cps.toList.map f) := by
  intro H0 e Q q
  refine h H0 e _ fun H1 e1 => ⟨s, rfl, fun D hD => ?_⟩
  refine lc_it walk_str (fun i H' => Ex H1 H' ∧ H' D = some (.lst ((s.cps.toList.take i).map f))) ⟨Ex.new hD, upd_same⟩ (fun _ _ _ _ => trivial) (fun i x Ha Hb hi p y => ?_) (fun Hc p => ?_)
  · obtain ⟨rfl, c, hc, rfl⟩ := y
    refine ⟨hw _, ?_⟩
    show te _ Hb _
    have hm : s.cps.toList[i]? = some c := by rw [Array.getElem?_toList]; exact hc
    refine he c Hb ((e.trans e1).trans p.1) (List.mem_of_getElem? hm) Hb (Ex.refl _) _ fun Hc ec => ⟨_, ec D _ p.2, ?_, Ex.mut (p.1.trans ec) hD, ?_⟩
    · rw [List.length_map, List.length_take]
      exact sz_lt (by rw [Array.length_toList]; omega)
    · rw [upd_same, List.take_add_one, hm, List.map_append]
      rfl
  · have p2 := p.2
    rw [List.take_of_length_le (by rw [Array.length_toList]; exact Nat.le_refl _)] at p2
    exact q D Hc (fresh_back e1 hD) (e1.trans p.1) p2
theorem ev_cbL {r : List V → Hp → VK → Prop} {ta : TE} {xs : List V} (h : EvL ta σ H xs) (hr : ∀ p H1, H1 p = some (.lst xs) → Ex H H1 → RC r [.ref p] H1 z) : Ev (tCB r (tCons ta tNil)) σ H z := fun H1 e Q q =>
  h H1 e _ fun p H2 _ e2 hp => hr p H2 hp (e.trans e2) H2 (Ex.refl _) Q fun H3 e3 => q H3 (e2.trans e3)
/-- the values that a value of any kind may be -/
inductive Thing (H : Hp) : V → Prop
  | non : Thing H .non
  | bl (b : Bool) : Thing H (.bl b)
  | int (i : Int) : Thing H (.int i)
  | str (s : Str) : s.length ≤ 1000 → Thing H (.str s)
  | lst {a : Addr} {xs : List V} : H a = some (.lst xs) → Thing H (.ref a)
  | tup {a : Addr} {xs : List V} : H a = some (.tup xs) → Thing H (.ref a)
  | dK {a : Addr} {kvs : List (Key × V)} : H a = some (.dK kvs) → Thing H (.ref a)
theorem Thing.up (h : Thing H v) (e : Ex H H') : Thing H' v := by
  cases h with
  | non => exact .non
  | bl b => exact .bl b
  | int i => exact .int i
  | str s hs => exact .str s hs
  | lst h => exact .lst (e _ _ h)
  | tup h => exact .tup (e _ _ h)
  | dK h => exact .dK (e _ _ h)
def isS : V → Bool
  | .str _ => true
  | _ => false
theorem Thing.ty (h : Thing H v) : ∃ t : String, TyX K H v (.type t) ∧ kitB t "str" = some (isS v) := by
  cases h with
  | non => exact ⟨_, .base .non, show kitB "NoneType" "str" = some false by decide +kernel⟩
  | bl b => exact ⟨_, .base (.bl b), show kitB "bool" "str" = some false by decide +kernel⟩
  | int i => exact ⟨_, .base (.int i), show kitB "int" "str" = some false by decide +kernel⟩
  | str s hs => exact ⟨_, .base (.str s), show kitB "str" "str" = some true by decide +kernel⟩
  | lst h => exact ⟨_, .base (.lst h), show kitB "list" "str" = some false by decide +kernel⟩
  | tup h => exact ⟨_, .base (.tup h), show kitB "tuple" "str" = some false by decide +kernel⟩
  | dK h => exact ⟨_, .base (.dK h), show kitB "dict" "str" = some false by decide +kernel⟩
theorem Thing.isi (h : Thing H v) : RC (rIsi K) [v, .ty "str"] H (.bl (isS v)) := by
  intro H1 e Q q
  obtain ⟨t, h1, h2⟩ := (h.up e).ty (K := K)
  exact ⟨v, _, _, _, _, rfl, .ty _, h1, kit_ty h2, q H1 (Ex.refl _)⟩
def rLen1 (K : PySem.W.Frag) : List V → Hp → VK → Prop := fun xs H Q => ∃ x n, xs = [x] ∧ LenV K x H n ∧ Q (.int n) H
theorem rc_lenS {s : Str} (h : s.length ≤ 1000) : RC (rLen1 K) [.str s] H (.int (s.length : Int)) := fun H1 _ _ q => ⟨.str s, s.length, rfl, ⟨sz_of (by omega), rfl⟩, q H1 (Ex.refl _)⟩
theorem rc_all {p : Addr} {bs : List Bool} (h : H p = some (.lst (bs.map V.bl))) : RC (rAll K) [.ref p] H (.bl (bs.all id)) := fun H1 e _ q => ⟨p, bs, rfl, sq_of (e _ _ h), q H1 (Ex.refl _)⟩
theorem rc_any {p : Addr} {bs : List Bool} (h : H p = some (.lst (bs.map V.bl))) : RC (rAny K) [.ref p] H (.bl (bs.any id)) := fun H1 e _ q => ⟨p, bs, rfl, sq_of (e _ _ h), q H1 (Ex.refl _)⟩
def rInSign : R2 := fun x y H Q => ∃ (c : Nat) (z : Str), x = .str ⟨#[c]⟩ ∧ y = .str z ∧ Q (.bl (decide (c ∈ z.cps.toList))) H
theorem rv_inSign {c : Nat} {s : Str} : RV rInSign (.str ⟨#[c]⟩) (.str s) H (.bl (decide (c ∈ s.cps.toList))) := fun H1 _ _ q => ⟨c, s, rfl, rfl, q H1 (Ex.refl _)⟩
def rNotInSign : R2 := fun x y H Q => ∃ (c : Nat) (z : Str), x = .str ⟨#[c]⟩ ∧ y = .str z ∧ Q (.bl (!decide (c ∈ z.cps.toList))) H
theorem rv_notInSign {c : Nat} {s : Str} : RV rNotInSign (.str ⟨#[c]⟩) (.str s) H (.bl (!decide (c ∈ s.cps.toList))) := fun H1 _ _ q => ⟨c, s, rfl, rfl, q H1 (Ex.refl _)⟩
end
end Es
namespace Es
open PySem PySem.Spec PyProof.Rows L2 Evl
/-- all but the object at p stays -/
def Xp (p : Addr) (H H' : Hp) : Prop := ∀ a o, a ≠ p → H a = some o → H' a = some o
theorem Xp.refl (p : Addr) (H : Hp) : Xp p H H := fun _ _ _ h => h
theorem Xp.ex {p : Addr} {H H' : Hp} (e : Ex H H') : Xp p H H' := fun a o _ h => e a o h
theorem Xp.trans {p : Addr} {H H1 H2 : Hp} (a : Xp p H H1) (b : Xp p H1 H2) : Xp p H H2 := fun x o n h => b x o n (a x o n h)
theorem Xp.upd {p : Addr} {H : Hp} {o : HO} : Xp p H (upd H p o) := fun a u n h => by
  rw [upd_ne n]
  exact h
/-- a pot: three ints -/
def Pot (H : Hp) (p : Addr) (n : Int) : Prop := ∃ g s c : Int, H p = some (.lst [.int g, .int s, .int c]) ∧ 0 ≤ g ∧ 0 ≤ s ∧ s < 2 ^ 61 ∧ 0 ≤ c ∧ c ≤ n
theorem Pot.up {H H' : Hp} {p : Addr} {n : Int} (h : Pot H p n) (e : Ex H H') : Pot H' p n := by
  obtain ⟨g, s, c, h, r⟩ := h
  exact ⟨g, s, c, e _ _ h, r⟩
theorem Pot.more {H : Hp} {p : Addr} {n m : Int} (h : Pot H p n) (e : n ≤ m) : Pot H p m := by
  obtain ⟨g, s, c, h, r1, r2, r3, r4, r5⟩ := h
  exact ⟨g, s, c, h, r1, r2, r3, r4, by omega⟩
theorem Pot.back {H H' : Hp} {p q : Addr} {n : Int} (h : Pot H' p n) (e : Xp p H H') (hq : H' q = none) : H q = none := by
  obtain ⟨g, s, c, h, _⟩ := h
  cases hh : H q with
  | none => rfl
  | some o =>
    by_cases z : q = p
    · subst z
      rw [h] at hq
      cases hq
    · rw [e q o z hh] at hq
      cases hq
theorem Pot.ne {H : Hp} {p q : Addr} {n : Int} (h : Pot H p n) (hq : H q = none) : q ≠ p := by
  obtain ⟨g, s, c, h, _⟩ := h
  intro z
  subst z
  rw [h] at hq
  cases hq
def spTake : Sp := fun vs H Q _ => ∃ (p : Addr) (n m : Int), vs = [.ref p, .int n] ∧ 1 ≤ n ∧ n ≤ 1000 ∧ m ≤ 100000 ∧ Pot H p m ∧
  ∀ (r : Int) H', 0 ≤ r → r < n → Xp p H H' → Pot H' p (m + 1) → Q (.int r) H'
end Es
namespace Es
open PySem PySem.Spec PyProof.Rows L2 Evl
theorem Xp.mut {p D : Addr} {H H' : Hp} {o : HO} (e : Xp p H H') (h : H D = none) : Xp p H (L2.upd H' D o) := fun a u n ha => by
  rw [upd_ne (ne_of_none ha h)]
  exact e a u n ha
theorem len_glue : ∀ ys : List Str, (∀ y ∈ ys, y.length = 1) → (Str.join "" ys).length = ys.length
  | [], _ => rfl
  | [y], h => h y (List.mem_singleton.mpr rfl)
  | x :: z :: r, h => by
    show (x ++ "" ++ Str.join "" (z :: r)).length = r.length + 1 + 1
    rw [PySem.Str.length_append, PySem.Str.length_append, len_glue (z :: r) (fun y hy => h y (List.mem_cons_of_mem _ hy)), h x (List.mem_cons_self ..)]
    show 1 + 0 + (r.length + 1) = r.length + 1 + 1
    omega
theorem cut_le (z : Str) (lo hi : Option Int) : (cutS z lo hi).length ≤ z.length := by
  show (List.toArray _).size ≤ z.cps.size
  rw [List.size_toArray, List.length_take, List.length_drop, Array.length_toList]
  omega
end Es
namespace Es
open PySem PySem.Spec PyProof.Rows L2 Evl
section
variable {K : PySem.W.Frag} {σ : L2.St} {H H' : Hp} {ta tb te : TE} {tk : TA} {x y z v w : V} {sp : Sp}
def rReprB : List V → Hp → VK → Prop := fun xs H Q => ∃ b : Bool, xs = [.bl b] ∧ Q (.str (if b then "True" else "False")) H
def rReprD (K : PySem.W.Frag) : List V → Hp → VK → Prop := fun xs H Q => ∃ (a : Addr) (d : PyData), xs = [.ref a] ∧ Dp K H (.ref a) d ∧ d.showable = true ∧ d.hasDict = false ∧ d.depth ≤ 60 ∧ d.shown.length ≤ sizeLine ∧ Q (.str d.shown) H
theorem rc_reprB {b : Bool} : RC rReprB [.bl b] H (.str (if b then "True" else "False")) := fun H1 _ _ q => ⟨b, rfl, q H1 (Ex.refl _)⟩
/-- [b, b] written -/
def two (b : Bool) : PyData := .list [.bool b, .bool b]
theorem rc_repr2 {p : Addr} {b : Bool} (h : H p = some (.lst [.bl b, .bl b])) : RC (rReprD K) [.ref p] H (.str (two b).shown) := fun H1 e _ q =>
  ⟨p, two b, rfl, .lst (sq_of (e _ _ h)) (.cons (.bl b) (.cons (.bl b) .nil)), by cases b <;> decide +kernel, by cases b <;> decide +kernel, by cases b <;> decide +kernel, by cases b <;> decide +kernel, q H1 (Ex.refl _)⟩
theorem el_rep {xs : List V} {n : Int} (h : EvL ta σ H xs) (hn : 0 ≤ n ∧ n ≤ 100) (hl : xs.length ≤ 100) : EvL (tOp rRep ta (tC (.int n))) σ H (List.replicate n.toNat xs).flatten := by
  intro H1 e Q q
  refine h H1 e _ fun p H2 hp e2 h2 => ⟨p, n, xs, rfl, rfl, h2, by omega, by omega, ?_, fun r hr => q r _ (fresh_back e2 hr) (e2.trans (Ex.new hr)) upd_same⟩
  have : xs.length * n.toNat ≤ 100 * 100 := Nat.mul_le_mul hl (by omega)
  exact sz_of (by omega)
theorem ev_callK0 {gV : List V → List V → List V} {vs : List V} (h : EvA tk σ H vs) (hs : SpV sp (gV [] vs) H z) : Ev (fun σ H Q => tk σ H fun zs H1 => sp (gV [] zs) H1 Q E0) σ H z := fun H1 e Q q =>
  h H1 e _ fun H2 e2 => hs H2 (e.trans e2) Q (fun H3 e3 => q H3 (e2.trans e3)) E0
end
/-- one keyword alone -/
def kwV : List V → List V → List V
  | [], zs => zs
  | _ :: _, _ => []
def kwU : List Value → List Value → List Value
  | [], zs => zs
  | _ :: _, _ => []
theorem kw_rel {vs zs : List V} {us ws : List Value} (r : Vals vs us) (rz : Vals zs ws) : Vals (kwV vs zs) (kwU us ws) := by
  cases r with
  | nil => exact rz
  | cons _ _ => exact .nil
end Es
namespace K01
open PySem PySem.Spec PyProof.Rows L2 Evl Es
def topS (i : Nat) : Stmt := PySem.Challenge.pw_errorspans_k01_tokens_of_any_value.main.body.getD i (.Pass ⟨0, 0, 0, 0⟩)
abbrev sTok : Stmt := topS 5
abbrev sPot : Stmt := topS 7
abbrev sTake : Stmt := topS 8
abbrev sPick : Stmt := topS 9
abbrev sLTok : Stmt := topS 10
abbrev sDrawn : Stmt := topS 11
abbrev sLaw : Stmt := topS 12
theorem scTok : FnScope ["value", "letter"] ["value"] (defScope sTok) := ⟨rfl, rfl, rfl, by decide +kernel, rfl, by decide +kernel, by decide +kernel⟩
theorem scLTok : FnScope ["_law_thing", "_law_letters", "_law_sign"] ["_law_thing"] (defScope sLTok) := ⟨rfl, rfl, rfl, by decide +kernel, rfl, by decide +kernel, by decide +kernel⟩
def abc : Str := "abcdefghijklmnopqrstuvwxyz"
/-- a token -/
def isTok : V → Bool
  | .str z => (decide (1 ≤ (z.length : Int)) && decide ((z.length : Int) ≤ 8)) && (z.cps.toList.map fun c => decide (c ∈ abc.cps.toList)).all id
  | _ => false
def spTok : Sp := fun vs H Q _ => ∃ v, vs = [v] ∧ Thing H v ∧ RetV (.bl (isTok v)) H Q
section
variable {P : Program} {w : World} {K : PySem.W.Frag} {mg : Str → Option Value} {base : Heap}
theorem ok_tok {f : Addr} {fd : FuncData} {k : Nat} {tL : Tok} {tM : Tok} (F : Fun K "is_token" "is_token" sTok f fd) (mi : mg "isinstance" = none) (ms : mg "str" = none) (ml : mg "len" = none) (ma : mg "all" = none)
    (mL : mg "LETTERS" = some (.str abc tL)) (mM : mg "MOST_LETTERS" = some (.int 8 tM)) : FnOk P w K mg base CX0 (k + 1) f fd ["value"] spTok := by
  refine F.ok scTok (fun vs H Q E h => ?_) (fun cdv A outer s H vs Q E hr h => ?_)
  · obtain ⟨v, rfl, _⟩ := h
    rfl
  · obtain ⟨v, rfl, hv, q⟩ := h
    refine ⟨_, pss_cons (ps_if (pt_not (pt_val (pe_callB call_isi (by rfl) mi boot_isinstance (pa_cons (pv 0) (pa_cons (pe_bltn (v := .ty "str") (by rfl) ms PyProof.Rows.boot_str rfl) pa_nil))))) (pss_one (ps_ret pe_bl)) pss_nil)
      (pss_one (ps_ret (pe_and (pe_chain op_le op_le pe_int (pe_callB call_len (by rfl) ml PySem.boot_len (pa_cons (pv 0) pa_nil)) (pe_glob (v := .int 8) (by rfl) mM ⟨_, rfl⟩))
        (pe_one (pe_callB (cr_all rfl) (by rfl) ma boot_all (pa_cons
          (pe_lc (own := [("letter", 1)]) (g := gName 1) (tt := tYes) rfl scTok.nd (pi_str (pv 0)) (blkOk_by (N := ["value", "letter"]) (sc := defScope sTok) (own := [("letter", 1)]) (by decide +kernel)) (fun _ _ _ _ _ => pg_name (i := 1) scTok.nd rfl (Or.inl rfl)) (fun _ _ _ _ _ => pts_nil)
            (fun _ _ _ _ _ => pe_cmpR op_in_sign (pv 1) (pe_glob (v := .str abc) (by rfl) mL ⟨_, rfl⟩) (by rfl))) pa_nil)))))), ?_⟩
    refine q_when (et_not (et_test (ev_cb (ea_cons (ev_var rfl) (ea_cons ev_c ea_nil)) hv.isi))) (fun hb H1 e1 => ?_) (fun hb H1 e1 => ?_)
    · refine s_ret ev_c fun H2 e2 => ?_
      have hi : isTok v = false := by
        cases v <;> first | rfl | cases hb
      have := q H2 (e1.trans e2)
      rw [hi] at this
      exact this
    · cases v with
      | str z =>
        have hz : z.length ≤ 1000 := by cases hv; assumption
        refine s_ret (ev_andV (ev_chain ev_c (ev_cb (ea_cons (ev_var rfl) ea_nil) (rc_lenS hz)) rv_I0 (fun _ => ev_c) (fun _ => rv_I0))
          (fun _ => ev_cbL (el_lcS (fun c => .bl (decide (c ∈ abc.cps.toList))) (ev_var rfl) (by show z.length ≤ 40000; omega) (fun _ => rfl) (fun c H2 _ _ => ev_op (ev_var rfl) ev_c rv_inSign))
            (fun p H2 hp _ => rc_all (bs := z.cps.toList.map fun c => decide (c ∈ abc.cps.toList)) (by rw [hp, List.map_map]; rfl)))) (fun H2 e2 => ?_)
        exact q H2 (e1.trans e2)
      | _ => cases hb
/-! the law's own look -/
theorem ok_ltok {f : Addr} {fd : FuncData} {k : Nat} (F : Fun K "_law_is_token" "_law_is_token" sLTok f fd) (mi : mg "isinstance" = none) (ms : mg "str" = none) (ml : mg "len" = none) (my : mg "any" = none) :
    FnOk P w K mg base CX0 (k + 1) f fd ["_law_thing"] spTok := by
  refine F.ok scLTok (fun vs H Q E h => ?_) (fun cdv A outer s H vs Q E hr h => ?_)
  · obtain ⟨v, rfl, _⟩ := h
    rfl
  · obtain ⟨v, rfl, hv, q⟩ := h
    refine ⟨_, pss_cons (ps_set (i := 1) scLTok.nd rfl (.inr rfl) pe_str)
      (pss_one (ps_ret (pe_and (pe_callB call_isi (by rfl) mi boot_isinstance (pa_cons (pv 0) (pa_cons (pe_bltn (v := .ty "str") (by rfl) ms PyProof.Rows.boot_str rfl) pa_nil)))
        (pe_and (pe_chain op_lt op_lt pe_int (pe_callB call_len (by rfl) ml PySem.boot_len (pa_cons (pv 0) pa_nil)) pe_int)
        (pe_one (pe_not (pe_callB (cr_any rfl) (by rfl) my boot_any (pa_cons
          (pe_lc (own := [("_law_sign", 2)]) (g := gName 2) (tt := tYes) rfl scLTok.nd (pi_str (pv 0)) (blkOk_by (N := ["_law_thing", "_law_letters", "_law_sign"]) (sc := defScope sLTok) (own := [("_law_sign", 2)]) (by decide +kernel)) (fun _ _ _ _ _ => pg_name (i := 2) scLTok.nd rfl (Or.inl rfl)) (fun _ _ _ _ _ => pts_nil)
            (fun _ _ _ _ _ => pe_cmpR op_notIn_sign (pv 2) (pv 1) (by rfl))) pa_nil)))))))), ?_⟩
    refine q_asg ev_c fun H1 e1 => ?_
    cases v with
    | str z =>
      have hz : z.length ≤ 1000 := by cases hv; assumption
      refine s_ret (ev_andV (ev_cb (ea_cons (ev_var rfl) (ea_cons ev_c ea_nil)) (hv.up e1).isi) (fun _ => ev_andV (ev_chain ev_c (ev_cb (ea_cons (ev_var rfl) ea_nil) (rc_lenS hz)) rv_I0 (fun _ => ev_c) (fun _ => rv_I0))
        (fun _ => ev_notV (ev_cbL (el_lcS (fun c => .bl (!decide (c ∈ abc.cps.toList))) (ev_var rfl) (by show z.length ≤ 40000; omega) (fun _ => rfl) (fun c H2 _ _ => ev_op (ev_var rfl) (ev_var rfl) rv_notInSign))
            (fun p H2 hp _ => rc_any (bs := z.cps.toList.map fun c => !decide (c ∈ abc.cps.toList)) (by rw [hp, List.map_map]; rfl)))))) (fun H2 e2 => ?_)
      have e : isTok (.str z) = (isS (.str z) && ((decide ((0 : Int) < (z.length : Int)) && decide ((z.length : Int) < 9)) && !(z.cps.toList.map fun c => !decide (c ∈ abc.cps.toList)).any id)) := by
        show ((decide (1 ≤ (z.length : Int)) && decide ((z.length : Int) ≤ 8)) && (z.cps.toList.map fun c => decide (c ∈ abc.cps.toList)).all id) = (true && _)
        rw [Bool.true_and]
        congr 1
        · rw [show decide ((0 : Int) < (z.length : Int)) = decide (1 ≤ (z.length : Int)) from rfl, show decide ((z.length : Int) < 9) = decide ((z.length : Int) ≤ 8) from decide_eq_decide.mpr (by omega)]
        · induction z.cps.toList with
          | nil => rfl
          | cons c r ih =>
            rw [List.map_cons, List.all_cons, ih, List.map_cons, List.any_cons, Bool.not_or]
            show (decide (c ∈ abc.cps.toList) && _) = (!(!decide (c ∈ abc.cps.toList)) && _)
            rw [Bool.not_not]
      have := q H2 (e1.trans e2)
      rw [e] at this
      exact this
    | _ => exact s_ret (ev_andV (b := false) (ev_cb (ea_cons (ev_var rfl) (ea_cons ev_c ea_nil)) (hv.up e1).isi) (fun z => nomatch z)) (fun H2 e2 => q H2 (e1.trans e2))
end
end K01
namespace K01
open PySem PySem.Spec PyProof.Rows L2 Evl Es
theorem scPot : FnScope ["_law_script", "_law_k", "_law_cell", "_law_great"] ["_law_script", "_law_k"] (defScope sPot) := ⟨rfl, rfl, rfl, by decide +kernel, rfl, by decide +kernel, by decide +kernel⟩
theorem scTake : FnScope ["_law_pot_here", "_law_size", "_law_digit", "_law_prime", "_law_mixed"] ["_law_pot_here", "_law_size"] (defScope sTake) := ⟨rfl, rfl, rfl, by decide +kernel, rfl, by decide +kernel, by decide +kernel⟩
theorem scPick : FnScope ["_law_pot_here", "_law_some"] ["_law_pot_here", "_law_some"] (defScope sPick) := ⟨rfl, rfl, rfl, by decide +kernel, rfl, by decide +kernel, by decide +kernel⟩
section
variable {P : Program} {w : World} {K : PySem.W.Frag} {mg : Str → Option Value} {base : Heap}
def primes : List V := [.int 2147483647, .int 2147483629, .int 2147483587, .int 2147483579, .int 2147483563]
theorem prime_at (j : Int) (h0 : 0 ≤ j) (h5 : j < 5) : ∃ r : Int, atI primes j = some (.int r) ∧ 0 < r ∧ r ≤ 2147483647 := by
  have : j = 0 ∨ j = 1 ∨ j = 2 ∨ j = 3 ∨ j = 4 := by omega
  rcases this with h | h | h | h | h <;> subst h <;> exact ⟨_, rfl, by decide, by decide⟩
theorem ok_take {f : Addr} {fd : FuncData} {k : Nat} (F : Fun K "_law_take" "_law_take" sTake f fd) : FnOk P w K mg base CX0 (k + 1) f fd ["_law_pot_here", "_law_size"] spTake := by
  refine F.ok scTake (fun vs H Q E h => ?_) (fun cdv A outer s H vs Q E hr h => ?_)
  · obtain ⟨p, n, m, rfl, _⟩ := h
    rfl
  · obtain ⟨p, n, m, rfl, hn1, hn2, hm, hP, q⟩ := h
    obtain ⟨g, s0, c, hp, hg, hs0, hs1, hc0, hc1⟩ := hP
    refine ⟨_, pss_cons (ps_if (pt_cmpR op_gt (pe_ix ix_list (pv 0) pe_int (fun _ _ => rfl)) pe_int (nomark _))
        (pss_cons (ps_set (i := 2) scTake.nd rfl (.inl rfl) (pe_op op_mod (pe_ix ix_list (pv 0) pe_int (fun _ _ => rfl)) (pv 1)))
        (pss_cons (ps_asg (pe_op op_fdiv (pe_ix ix_list (pv 0) pe_int (fun _ _ => rfl)) (pv 1)) (pg_sub (pv 0) pe_int set_list))
        (pss_one (ps_ret (pv 2))))) pss_nil)
      (pss_cons (ps_asg (pe_op op_add (pe_ix ix_list (pv 0) pe_int (fun _ _ => rfl)) pe_int) (pg_sub (pv 0) pe_int set_list))
      (pss_cons (ps_set (i := 3) scTake.nd rfl (.inl rfl) (pe_ix ix_list (pe_lst (pa_cons pe_int (pa_cons pe_int (pa_cons pe_int (pa_cons pe_int (pa_cons pe_int pa_nil)))))) (pe_op op_mod (pe_ix ix_list (pv 0) pe_int (fun _ _ => rfl)) pe_int) (fun _ _ => rfl)))
      (pss_cons (ps_set (i := 4) scTake.nd rfl (.inl rfl) (pe_op op_mod (pe_op op_pow (pe_op op_add (pe_op op_add (pe_ix ix_list (pv 0) pe_int (fun _ _ => rfl))
        (pe_op op_mul (pe_op op_mul pe_int (pe_ix ix_list (pv 0) pe_int (fun _ _ => rfl))) (pe_ix ix_list (pv 0) pe_int (fun _ _ => rfl)))) pe_int) pe_int) (pv 3)))
      (pss_one (ps_ret (pe_op op_mod (pe_op op_fdiv (pe_op op_mod (pe_op op_mul (pv 4) (pe_op op_add (pe_op op_mod (pv 4) pe_int) (pe_op op_mul pe_int (pe_ix ix_list (pv 0) pe_int (fun _ _ => rfl))))) pe_int) pe_int) (pv 1))))))), ?_⟩
    have ix : ∀ {H1 : Hp} {σ : L2.St} {xs : List V} {j : Int} {v : V}, H1 p = some (.lst xs) → σ[0]? = some (some (.ref p)) → atI xs j = some v → Ev (tOp (rIxL K) (tVar 0) (tC (.int j))) σ H1 v :=
      fun h h0 ha => ev_op (ev_var h0) ev_c (rv_ixL (sq_of h) ha)
    refine q_when (et_test (ev_op (ix hp rfl rfl) ev_c rv_I0)) (fun hb H1 e1 => ?_) (fun hb H1 e1 => ?_)
    · refine q_asg (ev_op (ix (e1 _ _ hp) rfl rfl) (ev_var rfl) (rv_I (by show (0 : Int) < n; omega))) fun H2 e2 => ?_
      refine q_setL (j := 0) (e2 _ _ (e1 _ _ hp)) (ev_op (ix (e2 _ _ (e1 _ _ hp)) rfl rfl) (ev_var rfl) (rv_I ⟨by omega, by omega⟩)) (ev_var rfl) ev_c (by show 0 < 3; decide) fun H3 e3 => ?_
      refine s_ret (ev_var rfl) fun H4 e4 => ?_
      refine q (g % n) H4 (Int.emod_nonneg _ (by omega)) (Int.emod_lt_of_pos _ (by omega)) (((Xp.ex ((e1.trans e2).trans e3)).trans Xp.upd).trans (Xp.ex e4)) ?_
      exact ⟨g / n, s0, c, e4 _ _ upd_same, Int.ediv_nonneg hg (by omega), hs0, hs1, hc0, by omega⟩
    · refine q_setL (j := 2) (e1 _ _ hp) (ev_op (ix (e1 _ _ hp) rfl rfl) ev_c rv_I0) (ev_var rfl) ev_c (by show 2 < 3; decide) fun H2 e2 => ?_
      generalize hH3 : upd H2 p _ = H3
      have hp3 : H3 p = some (.lst [.int g, .int s0, .int (c + 1)]) := by rw [← hH3]; exact upd_same
      have x3 : Xp p H H3 := (Xp.ex (e1.trans e2)).trans (by rw [← hH3]; exact Xp.upd)
      obtain ⟨r, hr1, hr2, hr3⟩ := prime_at ((c + 1) % 5) (Int.emod_nonneg _ (by omega)) (Int.emod_lt_of_pos _ (by omega))
      refine q_asg (v := .int r) (ev_opL1 (el_lst (ea_cons ev_c (ea_cons ev_c (ea_cons ev_c (ea_cons ev_c (ea_cons ev_c ea_nil))))) (by decide)) (fun H4 e4 => ev_op (ix (e4 _ _ hp3) rfl rfl) ev_c (rv_I (by show (0 : Int) < 5; decide)))
        (fun l H4 hl e4 => rv_ixL (sq_of hl) hr1)) fun H4 e4 => ?_
      have hp4 := e4 _ _ hp3
      have b1 : (c + 1) * (c + 1) ≤ 200000 * 200000 := Int.mul_le_mul (by omega) (by omega) (by omega) (by omega)
      have b0 : 0 ≤ (c + 1) * (c + 1) := Int.mul_nonneg (by omega) (by omega)
      have b2 : 40009 * (c + 1) * (c + 1) = 40009 * ((c + 1) * (c + 1)) := Int.mul_assoc _ _ _
      generalize (c + 1) * (c + 1) = cc at b1 b0 b2
      refine q_asg (ev_op (ev_op (ev_op (ev_op (ix hp4 rfl rfl) (ev_op (ev_op ev_c (ix hp4 rfl rfl) (rv_I (.inl ⟨by decide, by decide⟩))) (ix hp4 rfl rfl) (rv_I (.inl ⟨by show -(2 ^ 64) < 40009 * (c + 1); omega, by show 40009 * (c + 1) < 2 ^ 64; omega⟩))) rv_I0) ev_c rv_I0) ev_c
        (rv_I ⟨by decide, by decide, by rw [b2]; omega⟩)) (ev_var rfl) (rv_I (by show (0 : Int) < r; exact hr2))) fun H5 e5 => ?_
      generalize hM : ((s0 + 40009 * (c + 1) * (c + 1) + 31) ^ (3 : Int).toNat % r : Int) = M
      have M0 : 0 ≤ M := by rw [← hM]; exact Int.emod_nonneg _ (by omega)
      have M1 : M < r := by rw [← hM]; exact Int.emod_lt_of_pos _ hr2
      refine s_ret (ev_op (ev_op (ev_op (ev_op (ev_var rfl) (ev_op (ev_op (ev_var rfl) ev_c (rv_I (by show (0 : Int) < 10009; decide))) (ev_op ev_c (ix (e5 _ _ hp4) rfl rfl) (rv_I (.inl ⟨by decide, by decide⟩))) rv_I0)
        (rv_I (.inl ⟨by show -(2 ^ 64) < M; omega, by show M < 2 ^ 64; omega⟩))) ev_c (rv_I (by show (0 : Int) < 2305843009213693907; decide))) ev_c (rv_I ⟨by decide, by decide⟩)) (ev_var rfl) (rv_I (by show (0 : Int) < n; omega))) fun H6 e6 => ?_
      exact q _ H6 (Int.emod_nonneg _ (by omega)) (Int.emod_lt_of_pos _ (by omega)) (x3.trans (Xp.ex ((e4.trans e5).trans e6))) ⟨g, s0, c + 1, e6 _ _ (e5 _ _ hp4), hg, hs0, hs1, by omega, by omega⟩
def absI (i : Int) : Int := if i < 0 then -i else i
theorem abs_nn (i : Int) : 0 ≤ absI i := by
  unfold absI
  split <;> omega
def rAbs : List V → Hp → VK → Prop := fun xs H Q => ∃ i, xs = [.int i] ∧ Q (.int (absI i)) H
theorem rc_abs {H : Hp} {i : Int} : RC rAbs [.int i] H (.int (absI i)) := fun H1 _ _ q => ⟨i, rfl, q H1 (Ex.refl _)⟩
theorem rc_lenL {H : Hp} {a : Addr} {xs : List V} (h : SqL K H a xs) : RC (rLenS K) [.ref a] H (.int (xs.length : Int)) := fun H1 e _ q => ⟨a, xs, rfl, .inl (ex_l e h), q H1 (Ex.refl _)⟩
/-- the pot of a cell -/
def spPot (K : PySem.W.Frag) : Sp := fun vs H Q _ => ∃ (a : Addr) (k : Nat) (ns : List Int), vs = [.ref a, .int (k : Int)] ∧ k ≤ 10 ∧ SqL K H a (ns.map V.int) ∧
  ∀ p H', H p = none → Ex H H' → Pot H' p 0 → Q (.ref p) H'
theorem ok_pot {f : Addr} {fd : FuncData} {k : Nat} (F : Fun K "_law_pot" "_law_pot" sPot f fd) (ml : mg "len" = none) (ma : mg "abs" = none) : FnOk P w K mg base CX0 (k + 1) f fd ["_law_script", "_law_k"] (spPot K) := by
  refine F.ok scPot (fun vs H Q E h => ?_) (fun cdv A outer s H vs Q E hr h => ?_)
  · obtain ⟨a, n, ns, rfl, _⟩ := h
    rfl
  · obtain ⟨a, n, ns, rfl, hn, hS, q⟩ := h
    refine ⟨_, pss_cons (ps_set (i := 2) scPot.nd rfl (.inl rfl) (pe_ifExp (pt_cmpR op_lt (pv 1) (pe_callB call_len_seq (by rfl) ml PySem.boot_len (pa_cons (pv 0) pa_nil)) (nomark _))
        (pe_ix ix_list (pv 0) (pv 1) (fun _ _ => rfl)) (pe_op op_add (pe_op op_mul pe_int (pv 1)) pe_int)))
      (pss_cons (ps_set (i := 3) scPot.nd rfl (.inl rfl) (pe_ifExp (pt_cmpR op_ge (pe_callB call_abs (by rfl) ma boot_abs (pa_cons (pv 2) pa_nil)) (pe_op op_pow pe_int pe_int) (nomark _))
        (pe_op op_mod (pe_callB call_abs (by rfl) ma boot_abs (pa_cons (pv 2) pa_nil)) (pe_op op_powW (pe_op op_pow pe_int pe_int) pe_int)) pe_int))
      (pss_one (ps_ret (pe_lst (pa_cons (pv 3) (pa_cons (pe_op op_mod (pe_op op_add (pe_op op_add (pe_op op_mul (pe_op op_mod (pv 2) pe_int) pe_int) (pe_op op_mul (pe_op op_mul pe_int (pv 1)) (pv 1))) pe_int) pe_int) (pa_cons pe_int pa_nil))))))), ?_⟩
    have hcell : ∃ c : Int, ((n : Int) < ((ns.map V.int).length : Int) → atI (ns.map V.int) (n : Int) = some (.int c)) ∧ (¬ (n : Int) < ((ns.map V.int).length : Int) → 17 * (n : Int) + 3 = c) := by
      by_cases hlt : n < ns.length
      · refine ⟨ns[n], fun _ => atI_nat ?_, fun z => absurd (by rw [List.length_map]; omega) z⟩
        rw [List.getElem?_map, List.getElem?_eq_getElem hlt]
        rfl
      · exact ⟨_, fun z => absurd z (by rw [List.length_map]; omega), fun _ => rfl⟩
    obtain ⟨c, hc1, hc2⟩ := hcell
    refine q_asg (v := .int c) (ev_if (et_test (ev_op (ev_var rfl) (ev_cb (ea_cons (ev_var rfl) ea_nil) (rc_lenL hS)) rv_I0)) (fun hb => ev_op (ev_var rfl) (ev_var rfl) (rv_ixL hS (hc1 (of_decide_eq_true hb))))
      (fun hb => ev_is (ev_op (ev_op ev_c (ev_var rfl) (rv_I (.inl ⟨by decide, by decide⟩))) ev_c rv_I0) (by rw [hc2 (of_decide_eq_false hb)]))) fun H1 e1 => ?_
    have hgr : ∃ g : Int, 0 ≤ g ∧ (absI c ≥ 10 ^ (18 : Int).toNat → absI c % (10 ^ (60 : Int).toNat) ^ (3 : Int).toNat = g) ∧ (¬ absI c ≥ 10 ^ (18 : Int).toNat → (0 : Int) = g) := by
      by_cases h : absI c ≥ 10 ^ (18 : Int).toNat
      · exact ⟨_, Int.emod_nonneg _ (by decide), fun _ => rfl, fun z => absurd h z⟩
      · exact ⟨0, Int.le_refl _, fun z => absurd z h, fun _ => rfl⟩
    obtain ⟨g, hg0, hg1, hg2⟩ := hgr
    refine q_asg (v := .int g) (ev_if (et_test (ev_op (ev_cb (ea_cons (ev_var rfl) ea_nil) rc_abs) (ev_op ev_c ev_c (rv_I ⟨by decide, by decide, by decide⟩)) rv_I0))
      (fun hb => ev_is (ev_op (ev_cb (ea_cons (ev_var rfl) ea_nil) rc_abs) (ev_op (ev_op ev_c ev_c (rv_I ⟨by decide, by decide, by decide⟩)) ev_c (rv_I (show CPowW _ _ from ⟨by decide, by decide +kernel⟩))) (rv_I (by decide))) (by rw [hg1 (of_decide_eq_true hb)]))
      (fun hb => ev_is ev_c (by rw [← hg2 (of_decide_eq_false hb)]))) fun H2 e2 => ?_
    have m0 := Int.emod_nonneg c (show (2305843009213693951 : Int) ≠ 0 by decide)
    have m1 := Int.emod_lt_of_pos c (show (0 : Int) < 2305843009213693951 by decide)
    refine s_retL (el_lst (ea_cons (ev_var rfl) (ea_cons (ev_op (ev_op (ev_op (ev_op (ev_op (ev_var rfl) ev_c (rv_I (by show (0 : Int) < 2305843009213693951; decide))) ev_c (rv_I (.inl ⟨by omega, by omega⟩)))
      (ev_op (ev_op ev_c (ev_var rfl) (rv_I (.inl ⟨by decide, by decide⟩))) (ev_var rfl) (rv_I (.inr ⟨by omega, by omega⟩))) rv_I0) ev_c rv_I0) ev_c (rv_I (by show (0 : Int) < 2305843009213693921; decide))) (ea_cons ev_c ea_nil))) (by show 3 ≤ 100000; decide)) fun p H3 hp e3 h3 => ?_
    refine q p H3 (fresh_back (e1.trans e2) hp) ((e1.trans e2).trans e3) ⟨g, _, 0, h3, hg0, Int.emod_nonneg _ (by decide), ?_, by decide, by decide⟩
    refine Int.lt_trans (Int.emod_lt_of_pos _ (by decide)) (by decide)
/-! one of some: a sign of the letters, an item of a list -/
def spPickS : Sp := fun vs H Q _ => ∃ (p : Addr) (m : Int), vs = [.ref p, .str abc] ∧ m ≤ 100000 ∧ Pot H p m ∧
  ∀ (c : Nat) H', Xp p H H' → Pot H' p (m + 1) → Q (.str ⟨#[c]⟩) H'
theorem ok_pickS {f fT : Addr} {fd fdT : FuncData} {k : Nat} (F : Fun K "_law_pick" "_law_pick" sPick f fd) (FT : Fun K "_law_take" "_law_take" sTake fT fdT) (bT : Binds K fdT ["_law_pot_here", "_law_size"] []) (gT : mg "_law_take" = some (.ref fT)) (ml : mg "len" = none) :
    FnOk P w K mg base CX0 (k + 2) f fd ["_law_pot_here", "_law_some"] spPickS := by
  refine F.ok scPick (fun vs H Q E h => ?_) (fun cdv A outer s H vs Q E hr h => ?_)
  · obtain ⟨p, m, rfl, _⟩ := h
    rfl
  · obtain ⟨p, m, rfl, hm, hP, q⟩ := h
    refine ⟨_, pss_one (ps_ret (pe_item_str (pv 1) (pe_call (ok_take FT) hr (by rfl) gT FT.kp bT .nil pass0 (pa_cons (pv 0) (pa_cons (pe_callB call_len (by rfl) ml PySem.boot_len (pa_cons (pv 1) pa_nil)) pa_nil))) (fun _ _ => rfl))), ?_⟩
    refine ⟨_, rfl, _, rfl, _, rfl, _, _, rfl, ⟨sz_of (by decide), rfl⟩, p, 26, m, rfl, by decide, by decide, hm, hP, fun r H' h0 h1 x pp => ?_⟩
    have hc : r.toNat < abc.cps.size := by show r.toNat < 26; omega
    refine ⟨abc, r, abc.cps[r.toNat], rfl, rfl, h0, by omega, by show r < 26; omega, by simp [hc], ?_⟩
    exact q _ H' x pp
def spPickL : Sp := fun vs H Q _ => ∃ (p a : Addr) (m : Int) (xs : List V), vs = [.ref p, .ref a] ∧ m ≤ 100000 ∧ Pot H p m ∧ a ≠ p ∧ H a = some (.lst xs) ∧ 1 ≤ xs.length ∧ xs.length ≤ 1000 ∧
  ∀ v H', v ∈ xs → Xp p H H' → Pot H' p (m + 1) → Q v H'
theorem ok_pickL {f fT : Addr} {fd fdT : FuncData} {k : Nat} (F : Fun K "_law_pick" "_law_pick" sPick f fd) (FT : Fun K "_law_take" "_law_take" sTake fT fdT) (bT : Binds K fdT ["_law_pot_here", "_law_size"] []) (gT : mg "_law_take" = some (.ref fT)) (ml : mg "len" = none) :
    FnOk P w K mg base CX0 (k + 2) f fd ["_law_pot_here", "_law_some"] spPickL := by
  refine F.ok scPick (fun vs H Q E h => ?_) (fun cdv A outer s H vs Q E hr h => ?_)
  · obtain ⟨p, a, m, xs, rfl, _⟩ := h
    rfl
  · obtain ⟨p, a, m, xs, rfl, hm, hP, hne, ha, h1, h2, q⟩ := h
    refine ⟨_, pss_one (ps_ret (pe_ix ix_list (pv 1) (pe_call (ok_take FT) hr (by rfl) gT FT.kp bT .nil pass0 (pa_cons (pv 0) (pa_cons (pe_callB call_len_seq (by rfl) ml PySem.boot_len (pa_cons (pv 1) pa_nil)) pa_nil))) (fun _ _ => rfl))), ?_⟩
    refine ⟨_, rfl, _, rfl, _, rfl, a, xs, rfl, .inl (sq_of ha), p, _, m, rfl, by omega, by omega, hm, hP, fun r H' h0 h3 x pp => ?_⟩
    have hc : r.toNat < xs.length := by omega
    refine ⟨a, xs, r, xs[r.toNat], rfl, rfl, sq_of (x a _ hne ha), ?_, q _ H' (List.getElem_mem hc) x pp⟩
    have := atI_nat (xs := xs) (j := r.toNat) (v := xs[r.toNat]) (List.getElem?_eq_getElem hc)
    rw [Int.toNat_of_nonneg h0] at this
    exact this
end
end K01
namespace K01
open PySem PySem.Spec PyProof.Rows L2 Evl Es
abbrev nDrawn : List Str := ["_law_pot_here", "_law_letters", "_law_odd", "_law_text", "_law_at", "_law_spoilt", "_law_turn"]
theorem scDrawn : FnScope nDrawn ["_law_pot_here"] (defScope sDrawn) := ⟨rfl, rfl, rfl, by decide +kernel, rfl, by decide +kernel, by decide +kernel⟩
section
variable {P : Program} {w : World} {K : PySem.W.Frag} {mg : Str → Option Value} {base : Heap}
def spDrawn : Sp := fun vs H Q _ => ∃ (p : Addr) (m : Int), vs = [.ref p] ∧ 0 ≤ m ∧ m ≤ 90000 ∧ Pot H p m ∧ ∀ v H', Thing H' v → Xp p H H' → Pot H' p (m + 20) → Q v H'
def odds : List Str := ["A", " ", "0", "_", "-", "^", "$", ".", "Z", "`", "{"]
theorem ok_drawn {f fT fP : Addr} {fd fdT fdP : FuncData} {k : Nat} (F : Fun K "_law_drawn" "_law_drawn" sDrawn f fd) (FT : Fun K "_law_take" "_law_take" sTake fT fdT) (bT : Binds K fdT ["_law_pot_here", "_law_size"] []) (gT : mg "_law_take" = some (.ref fT))
    (FP : Fun K "_law_pick" "_law_pick" sPick fP fdP) (bP : Binds K fdP ["_law_pot_here", "_law_some"] []) (gP : mg "_law_pick" = some (.ref fP)) (ml : mg "len" = none) (mr : mg "range" = none) :
    FnOk P w K mg base CX0 (k + 3) f fd ["_law_pot_here"] spDrawn := by
  refine F.ok scDrawn (fun vs H Q E h => ?_) (fun cdv A outer s H vs Q E hr h => ?_)
  · obtain ⟨p, m, rfl, _⟩ := h
    rfl
  · obtain ⟨p, m, rfl, hm0, hm, hP, q⟩ := h
    have G1 : FnOk P w K mg base CX0 (k + 2) fT fdT ["_law_pot_here", "_law_size"] spTake := ok_take FT
    have G2 : FnOk P w K mg base CX0 (k + 2) fP fdP ["_law_pot_here", "_law_some"] spPickS := ok_pickS FP FT bT gT ml
    have G3 : FnOk P w K mg base CX0 (k + 2) fP fdP ["_law_pot_here", "_law_some"] spPickL := ok_pickL FP FT bT gT ml
    refine ⟨_, pss_cons (ps_asg (pe_tup (pa_cons pe_str (pa_cons (pe_lst (pa_cons pe_str (pa_cons pe_str (pa_cons pe_str (pa_cons pe_str (pa_cons pe_str (pa_cons pe_str (pa_cons pe_str (pa_cons pe_str (pa_cons pe_str (pa_cons pe_str (pa_cons pe_str pa_nil)))))))))))) pa_nil)))
        (pg_tup rfl (pgs_cons (pg_name (i := 1) scDrawn.nd rfl (.inr rfl)) (pgs_cons (pg_name (i := 2) scDrawn.nd rfl (.inl rfl)) pgs_nil))))
      (pss_cons (ps_set (i := 3) scDrawn.nd rfl (.inl rfl) (pe_join pe_str (pe_lc (own := [("_law_turn", 6)]) (g := gName 6) (tt := tYes) rfl scDrawn.nd
          (pi_range1 (by rfl) mr (pa_cons (pe_call G1 hr (by rfl) gT FT.kp bT .nil pass0 (pa_cons (pv 0) (pa_cons pe_int pa_nil))) pa_nil))
          (blkOk_by (N := nDrawn) (sc := defScope sDrawn) (own := [("_law_turn", 6)]) (by decide +kernel)) (fun _ _ _ _ _ => pg_name (i := 6) scDrawn.nd rfl (Or.inl rfl)) (fun _ _ _ _ _ => pts_nil)
          (fun _ _ _ _ _ => pe_call G2 hr (by rfl) gP FP.kp bP .nil pass0 (pa_cons (pv 0) (pa_cons (pv 1) pa_nil))))))
      (pss_cons (ps_set (i := 4) scDrawn.nd rfl (.inl rfl) (pe_call G1 hr (by rfl) gT FT.kp bT .nil pass0 (pa_cons (pv 0) (pa_cons (pe_op op_add (pe_callB call_len (by rfl) ml PySem.boot_len (pa_cons (pv 3) pa_nil)) pe_int) pa_nil))))
      (pss_cons (ps_set (i := 5) scDrawn.nd rfl (.inl rfl) (pe_op op_add_str (pe_op op_add_str (pe_slice sl_str (pv 3) po_none (po_some (pv 4))) (pe_call G3 hr (by rfl) gP FP.kp bP .nil pass0 (pa_cons (pv 0) (pa_cons (pv 2) pa_nil))))
          (pe_slice sl_str (pv 3) (po_some (pe_op op_add (pv 4) pe_int)) po_none)))
      (pss_one (ps_ret (pe_call G3 hr (by rfl) gP FP.kp bP .nil pass0 (pa_cons (pv 0) (pa_cons (pe_lst (pa_cons (pv 3) (pa_cons (pv 3) (pa_cons (pv 5) (pa_cons (pe_tup (pa_cons (pv 3) pa_nil)) (pa_cons (pe_lst (pa_cons (pv 3) pa_nil))
          (pa_cons (pe_disp (pps_cons pe_str (pv 3) pps_nil) (by rfl) (by rfl) (fun z => by cases z) (by decide)) (pa_cons (pe_callB call_len (by rfl) ml PySem.boot_len (pa_cons (pv 3) pa_nil))
          (pa_cons (pe_cmpR op_eq (pv 3) pe_str (nomark _)) (pa_cons pe_non pa_nil)))))))))) pa_nil)))))))), ?_⟩
    -- the letters, the odd signs
    refine ⟨by decide, fun lo nlo => ⟨sz_of (by show 2 ≤ 100000; decide), fun tp ntp => ?_⟩⟩
    have hlo : upd (upd H lo (.lst (odds.map V.str))) tp (.tup [.str abc, .ref lo]) lo = some (.lst (odds.map V.str)) := by
      rw [upd_ne (ne_of_none upd_same ntp), upd_same]
    have e1 : Ex H (upd (upd H lo (.lst (odds.map V.str))) tp (.tup [.str abc, .ref lo])) := (Ex.new nlo).trans (Ex.new ntp)
    refine ⟨tp, [.str abc, .ref lo], rfl, st_of upd_same, rfl, .str abc, [.ref lo], rfl, .ref lo, [], rfl, rfl, ?_⟩
    have hlp : lo ≠ p := hP.ne nlo
    -- the text
    refine ⟨⟨_, rfl⟩, .ref p, rfl, p, 10, m, rfl, by decide, by decide, by omega, hP.up e1, fun n H2 n0 n1 x2 P2 => ?_⟩
    refine ⟨n, rfl, by omega, by omega, fun D nD => lc_range (lo := 0) (n := n.toNat) (fun i H' => Xp p H2 H' ∧ Pot H' p (m + 1 + i) ∧ ∃ ys : List Str, H' D = some (.lst (ys.map V.str)) ∧ ys.length = i ∧ ∀ y ∈ ys, y.length = 1) ?_ ?_ ?_⟩
    · exact ⟨(Xp.refl _ _).mut nD, (P2.up (Ex.new nD)).more (by omega), [], upd_same, rfl, fun _ z => nomatch z⟩
    · intro i H' hi ⟨xi, Pi, ys, hD, hl, h1⟩
      refine ⟨rfl, .ref p, rfl, .str abc, rfl, p, m + 1 + i, rfl, by omega, Pi, fun c H3 x3 P3 => ⟨ys.map V.str, x3 D _ (P2.ne nD) hD, ?_, (xi.trans x3).mut nD, ?_, ys ++ [⟨#[c]⟩], ?_, ?_, ?_⟩⟩
      · rw [List.length_map]
        exact sz_lt (by omega)
      · obtain ⟨g, s0, c0, hh, r1, r2, r3, r4, r5⟩ := P3
        refine ⟨g, s0, c0, ?_, r1, r2, r3, r4, by omega⟩
        rw [upd_ne (P2.ne nD).symm]
        exact hh
      · rw [upd_same, List.map_append]
        rfl
      · rw [List.length_append, hl]
        rfl
      · intro y hy
        rcases List.mem_append.mp hy with z | z
        · exact h1 y z
        · rw [List.mem_singleton.mp z]
          rfl
    intro H3 ⟨x3, P3, ys, hD, hl, h1⟩
    have hsum : (ys.map (·.length)).sum = ys.length := by
      clear hD hl
      induction ys with
      | nil => rfl
      | cons y r ih =>
        rw [List.map_cons, List.sum_cons, ih (fun z hz => h1 z (List.mem_cons_of_mem _ hz)), h1 y (List.mem_cons_self ..), List.length_cons]
        omega
    refine ⟨"", D, ys, rfl, rfl, .inl (sq_of hD), ?_, ?_⟩
    · rw [hsum]
      show ys.length + ys.length * 0 ≤ 16777216
      omega
    have hz : (Txt.join "" ys).length ≤ 9 := by
      rw [TL.join_eq, len_glue ys h1]
      omega
    generalize Txt.join "" ys = z at hz
    -- the place
    have P3' : Pot H3 p (m + 10) := P3.more (by omega)
    refine ⟨.ref p, rfl, .str z, rfl, .str z, z.length, rfl, ⟨sz_of (by omega), rfl⟩, (z.length : Int), 1, rfl, rfl, p, _, m + 10, rfl, by omega, by omega, by omega, P3', fun at_ H4 a0 a1 x4 P4 => ?_⟩
    -- the spoilt text
    have lo4 : H4 lo = some (.lst (odds.map V.str)) := x4 lo _ hlp (x3 lo _ hlp (x2 lo _ hlp hlo))
    refine ⟨.str z, rfl, .int at_, rfl, at_, rfl, z, rfl, sz_of (by omega), .ref p, rfl, .ref lo, rfl, p, lo, m + 10 + 1, odds.map V.str, rfl, by omega, P4, hlp, lo4, by decide, by decide, fun o H5 ho x5 P5 => ?_⟩
    obtain ⟨o', ho', rfl⟩ := List.mem_map.mp ho
    have ho1 : o'.length = 1 := (by decide : ∀ o ∈ odds, o.length = 1) o' ho'
    have c1 := cut_le z none (some at_)
    have c2 := cut_le z (some (at_ + 1)) none
    refine ⟨cutS z none (some at_), o', rfl, rfl, sz_of (by omega), .str z, rfl, .int at_, rfl, at_, 1, rfl, rfl, at_ + 1, rfl, z, rfl, sz_of (by omega), _, _, rfl, rfl, ?_, ?_⟩
    · rw [PySem.Str.length_append]
      exact sz_of (by omega)
    have hsp : (cutS z none (some at_) ++ o' ++ cutS z (some (at_ + 1)) none).length ≤ 30 := by
      rw [PySem.Str.length_append, PySem.Str.length_append]
      omega
    generalize cutS z none (some at_) ++ o' ++ cutS z (some (at_ + 1)) none = sp at hsp
    -- one of nine
    refine ⟨.ref p, rfl, .str z, rfl, .str z, rfl, .str sp, rfl, .str z, rfl, sz_of (by show 1 ≤ 100000; decide), fun t nt => ?_⟩
    refine ⟨.str z, rfl, sz_of (by show 1 ≤ 100000; decide), fun l nl => ?_⟩
    refine fun d nd => ⟨.str z, rfl, upd_same, [(Sum.inr "a", .str z)], rfl, by show 1 ≤ 15; decide, .str z, rfl, .str z, z.length, rfl, ⟨sz_of (by omega), rfl⟩, .str z, rfl, rfl, sz_of (by show 9 ≤ 100000; decide), fun a na => ?_⟩
    have ea := Ex.new (o := .tup [.str z]) nt
    have eb := Ex.new (o := .lst [.str z]) nl
    have ec := Ex.mut (o := .dK (mergeK [] [(Sum.inr "a", .str z)])) (Ex.new (o := .dK []) nd) nd
    have ed := Ex.new (o := .lst [.str z, .str z, .str sp, .ref t, .ref l, .ref d, .int (z.length : Int), .bl (decide (V.str z = V.str "")), .non]) na
    have ht := ed _ _ (ec _ _ (eb _ _ (upd_same (H := H5) (a := t) (o := .tup [.str z]))))
    have hl' := ed _ _ (ec _ _ (upd_same (H := upd H5 t (.tup [.str z])) (a := l) (o := .lst [.str z])))
    have hd := ed _ _ (upd_same (H := upd (upd (upd H5 t (.tup [.str z])) l (.lst [.str z])) d (.dK [])) (a := d) (o := .dK (mergeK [] [(Sum.inr "a", .str z)])))
    have Pd := P5.up ((ea.trans eb).trans ec)
    refine ⟨p, a, m + 10 + 1 + 1, _, rfl, by omega, Pd.up ed, Pd.ne na, upd_same, by show 1 ≤ 9; decide, by show 9 ≤ 1000; decide, fun v H9 hv x9 P9 => ?_⟩
    have xx : Xp p H H9 := ((((((Xp.ex e1).trans x2).trans x3).trans x4).trans x5).trans (Xp.ex (((ea.trans eb).trans ec).trans ed))).trans x9
    refine q v H9 ?_ xx (P9.more (by omega))
    simp only [List.mem_cons, List.not_mem_nil, or_false] at hv
    rcases hv with rfl | rfl | rfl | rfl | rfl | rfl | rfl | rfl | rfl
    · exact .str z (by omega)
    · exact .str z (by omega)
    · exact .str sp (by omega)
    · exact .tup (x9 t _ (P5.ne nt) ht)
    · exact .lst (x9 l _ ((P5.up ea).ne nl) hl')
    · exact .dK (x9 d _ ((P5.up (ea.trans eb)).ne nd) hd)
    · exact .int _
    · exact .bl _
    · exact .non
end
end K01
namespace K01
open PySem PySem.Spec PyProof.Rows L2 Evl Es
abbrev nLaw : List Str := ["_law_script", "_law_some", "_law_thing", "_law_k", "_law_pot_here", "_law_turn"]
theorem scLaw : FnScope nLaw ["_law_script"] (defScope sLaw) := ⟨rfl, rfl, rfl, by decide +kernel, rfl, by decide +kernel, by decide +kernel⟩
section
variable {P : Program} {w : World} {K : PySem.W.Frag} {mg : Str → Option Value} {base : Heap}
theorem kb_tok {f : Addr} {fd : FuncData} (F : Fun K "is_token" "is_token" sTok f fd) : KBinds K fd ["value"] ["value"] kwU kwV := by
  obtain ⟨oc, od, kV, dc, pm, an, cd, ct, sl, rfl, lk, hcd⟩ := F.ex
  refine ⟨fun s us ws _ hl => ?_, kw_rel⟩
  match us, ws, hl with
  | [], [_], _ => exact .of_eq rfl
theorem tokV {H : Hp} {v : V} (h : Thing H v) : SpV spTok [v] H (.bl (isTok v)) := fun H1 e Q q E => ⟨v, rfl, h.up e, fun H2 e2 => q H2 e2⟩
def spLaw (K : PySem.W.Frag) : Sp := fun vs H Q _ => ∃ (a : Addr) (ns : List Int), vs = [.ref a] ∧ SqL K H a (ns.map V.int) ∧ ∀ H', Q (.bl true) H'
def some15 : List Str := ["", "a", "z", "abcdefgh", "abcdefghi", "A", "aB", "a b", " a", "a1", "^", "$", "`", "{", "az"]
/-- what stands at the top -/
structure Top (K : PySem.W.Frag) (mg : Str → Option Value) (fTok fPot fTake fPick fLTok fDrawn : Addr) (dTok dPot dTake dPick dLTok dDrawn : FuncData) : Prop where
  Tok : Fun K "is_token" "is_token" sTok fTok dTok
  Pot : Fun K "_law_pot" "_law_pot" sPot fPot dPot
  Take : Fun K "_law_take" "_law_take" sTake fTake dTake
  Pick : Fun K "_law_pick" "_law_pick" sPick fPick dPick
  LTok : Fun K "_law_is_token" "_law_is_token" sLTok fLTok dLTok
  Drawn : Fun K "_law_drawn" "_law_drawn" sDrawn fDrawn dDrawn
  gTok : mg "is_token" = some (.ref fTok)
  gPot : mg "_law_pot" = some (.ref fPot)
  gTake : mg "_law_take" = some (.ref fTake)
  gPick : mg "_law_pick" = some (.ref fPick)
  gLTok : mg "_law_is_token" = some (.ref fLTok)
  gDrawn : mg "_law_drawn" = some (.ref fDrawn)
  L : ∃ t, mg "LETTERS" = some (.str abc t)
  M : ∃ t, mg "MOST_LETTERS" = some (.int 8 t)
  S : ∃ t, mg "START" = some (.str "^" t)
  E : ∃ t, mg "END" = some (.str "$" t)
  isi : mg "isinstance" = none
  str : mg "str" = none
  len : mg "len" = none
  all : mg "all" = none
  any : mg "any" = none
  abs : mg "abs" = none
  range : mg "range" = none
  max : mg "max" = none
  min : mg "min" = none
  repr : mg "repr" = none
theorem bd1 {x qual a : Str} {st : Stmt} {f : Addr} {fd : FuncData} (F : Fun K x qual st f fd)
    (h : ∀ (kV doc pm : Value) (an : Option Addr) (cdv ct : Value) (us : List Value), us.length = [a].length → bindArgs (PySem.W.fnOf x qual (defArgs st) (defBody st) (defScope st) .none kV doc pm an cdv ct) ⟨us, []⟩ = pure ([a].zip us)) : Binds K fd [a] [] := F.binds h
theorem ok_law {f fTok fPot fTake fPick fLTok fDrawn : Addr} {fd dTok dPot dTake dPick dLTok dDrawn : FuncData} (F : Fun K "law" "law" sLaw f fd) (T : Top K mg fTok fPot fTake fPick fLTok fDrawn dTok dPot dTake dPick dLTok dDrawn) :
    GnOk P w K mg base 4 f fd ["_law_script"] (spLaw K) := by
  obtain ⟨tL, mL⟩ := T.L
  obtain ⟨tM, mM⟩ := T.M
  obtain ⟨tS, mS⟩ := T.S
  obtain ⟨tE, mE⟩ := T.E
  have b1 : Binds K dTok ["value"] [] := T.Tok.binds fun _ _ _ _ _ _ us hl => match us, hl with | [_], _ => rfl
  have b2 : Binds K dPot ["_law_script", "_law_k"] [] := T.Pot.binds fun _ _ _ _ _ _ us hl => match us, hl with | [_, _], _ => rfl
  have b3 : Binds K dTake ["_law_pot_here", "_law_size"] [] := T.Take.binds fun _ _ _ _ _ _ us hl => match us, hl with | [_, _], _ => rfl
  have b4 : Binds K dPick ["_law_pot_here", "_law_some"] [] := T.Pick.binds fun _ _ _ _ _ _ us hl => match us, hl with | [_, _], _ => rfl
  have b5 : Binds K dLTok ["_law_thing"] [] := T.LTok.binds fun _ _ _ _ _ _ us hl => match us, hl with | [_], _ => rfl
  have b6 : Binds K dDrawn ["_law_pot_here"] [] := T.Drawn.binds fun _ _ _ _ _ _ us hl => match us, hl with | [_], _ => rfl
  have G1 : FnOk P w K mg base CX0 3 fTok dTok ["value"] spTok := ok_tok T.Tok T.isi T.str T.len T.all mL mM
  have G2 : FnOk P w K mg base CX0 3 fPot dPot ["_law_script", "_law_k"] (spPot K) := ok_pot T.Pot T.len T.abs
  have G5 : FnOk P w K mg base CX0 3 fLTok dLTok ["_law_thing"] spTok := ok_ltok T.LTok T.isi T.str T.len T.any
  have G6 : FnOk P w K mg base CX0 3 fDrawn dDrawn ["_law_pot_here"] spDrawn := ok_drawn (k := 0) T.Drawn T.Take b3 T.gTake T.Pick b4 T.gPick T.len T.range
  refine gn_of (N := nLaw) F scLaw (fun vs H Q E h => ?_) (fun cd A out s H vs Q E hg hr h => ?_)
  · obtain ⟨a, ns, rfl, _⟩ := h
    rfl
  · obtain ⟨a, ns, rfl, hS, q⟩ := h
    refine ⟨_, pss_cons (ps_set (i := 1) scLaw.nd rfl (.inl rfl) (pe_lst (pa_cons pe_str (pa_cons pe_str (pa_cons pe_str (pa_cons pe_str (pa_cons pe_str (pa_cons pe_str (pa_cons pe_str (pa_cons pe_str (pa_cons pe_str (pa_cons pe_str (pa_cons pe_str (pa_cons pe_str (pa_cons pe_str (pa_cons pe_str (pa_cons pe_str pa_nil)))))))))))))))))
      (pss_cons (ps_for PassesOwn.never rfl (pi_list (pe_op op_cat (pv 1) (pe_lst (pa_cons pe_non (pa_cons pe_bl (pa_cons pe_int (pa_cons (pe_tup pa_nil) (pa_cons (pe_tup (pa_cons pe_str pa_nil)) (pa_cons (pe_lst (pa_cons pe_str pa_nil)) (pa_cons pe_dnewK pa_nil)))))))))) (pg_name (i := 2) scLaw.nd rfl (.inl rfl))
        (pss_one (ps_if (pt_cmpR op_ne
            (pe_callB (cr_reprD hg hr.units) (by rfl) T.repr boot_repr (pa_cons (pe_lst (pa_cons (pe_call G1 hr (by rfl) T.gTok T.Tok.kp b1 .nil pass0 (pa_cons (pv 2) pa_nil)) (pa_cons (pe_callK0 G1 hr (by rfl) T.gTok T.Tok.kp (kb_tok T.Tok) (pk_cons (pv 2) pk_nil)) pa_nil))) pa_nil))
            (pe_callB (cr_reprD hg hr.units) (by rfl) T.repr boot_repr (pa_cons (pe_op op_rep (pe_lst (pa_cons (pe_call G5 hr (by rfl) T.gLTok T.LTok.kp b5 .nil pass0 (pa_cons (pv 2) pa_nil)) pa_nil)) pe_int) pa_nil)) (nomark _))
          (pss_one (ps_ret pe_bl)) pss_nil)))
      (pss_cons (ps_for PassesOwn.never rfl (pi_range1 (by rfl) T.range (pa_cons (pe_callB (call_max2 rfl) (by rfl) T.max boot_max (pa_cons pe_int (pa_cons (pe_callB (call_min2 rfl) (by rfl) T.min boot_min (pa_cons pe_int (pa_cons (pe_callB call_len_seq (by rfl) T.len PySem.boot_len (pa_cons (pv 0) pa_nil)) pa_nil))) pa_nil))) pa_nil)) (pg_name (i := 3) scLaw.nd rfl (.inl rfl))
        (pss_cons (ps_set (i := 4) scLaw.nd rfl (.inl rfl) (pe_call G2 hr (by rfl) T.gPot T.Pot.kp b2 .nil pass0 (pa_cons (pv 0) (pa_cons (pv 3) pa_nil))))
        (pss_one (ps_for PassesOwn.never rfl (pi_range1 (by rfl) T.range (pa_cons pe_int pa_nil)) (pg_name (i := 5) scLaw.nd rfl (.inl rfl))
          (pss_cons (ps_set (i := 2) scLaw.nd rfl (.inl rfl) (pe_call G6 hr (by rfl) T.gDrawn T.Drawn.kp b6 .nil pass0 (pa_cons (pv 4) pa_nil)))
          (pss_one (ps_if (pt_cmpR op_ne (pe_callB cr_reprB (by rfl) T.repr boot_repr (pa_cons (pe_call G1 hr (by rfl) T.gTok T.Tok.kp b1 .nil pass0 (pa_cons (pv 2) pa_nil)) pa_nil))
              (pe_callB cr_reprB (by rfl) T.repr boot_repr (pa_cons (pe_call G5 hr (by rfl) T.gLTok T.LTok.kp b5 .nil pass0 (pa_cons (pv 2) pa_nil)) pa_nil)) (nomark _))
            (pss_one (ps_ret pe_bl)) pss_nil)))))))
      (pss_one (ps_ret (pe_and (pe_cmpR (op_eqD hr.units) (pe_tup (pa_cons (pe_glob (v := .str "^") (by rfl) mS ⟨_, rfl⟩) (pa_cons (pe_glob (v := .str "$") (by rfl) mE ⟨_, rfl⟩) pa_nil))) (pe_tup (pa_cons pe_str (pa_cons pe_str pa_nil))) (nomark _))
        (pe_and (pe_not (pe_call G1 hr (by rfl) T.gTok T.Tok.kp b1 .nil pass0 (pa_cons (pe_glob (v := .str "^") (by rfl) mS ⟨_, rfl⟩) pa_nil)))
        (pe_one (pe_not (pe_call G1 hr (by rfl) T.gTok T.Tok.kp b1 .nil pass0 (pa_cons (pe_glob (v := .str "$") (by rfl) mE ⟨_, rfl⟩) pa_nil)))))))))), ?_⟩
    -- the list by hand
    refine ⟨sz_of (by decide), fun ls nls => ?_⟩
    have e1 := Ex.new (o := .lst (some15.map V.str)) nls
    refine ⟨.ref ls, rfl, sz_of (by decide), fun t1 n1 => ?_⟩
    have e2 := Ex.new (o := .tup []) n1
    refine ⟨sz_of (by decide), fun t2 n2 => ?_⟩
    have e3 := Ex.new (o := .tup [.str "a"]) n2
    refine ⟨sz_of (by decide), fun l3 n3 => ?_⟩
    have e4 := Ex.new (o := .lst [.str "a"]) n3
    refine fun d4 n4 => ?_
    have e5 := Ex.new (o := .dK []) n4
    refine ⟨sz_of (by show 7 ≤ 100000; decide), fun l5 n5 => ?_⟩
    have e6 := Ex.new (o := .lst [.non, .bl true, .int 0, .ref t1, .ref t2, .ref l3, .ref d4]) n5
    refine ⟨ls, l5, some15.map V.str, _, rfl, rfl, (e2.trans (e3.trans (e4.trans (e5.trans e6)))) _ _ upd_same, upd_same, sz_of (by show 22 ≤ 100000; decide), fun l6 n6 => ?_⟩
    have e7 := Ex.new (o := .lst (some15.map V.str ++ [.non, .bl true, .int 0, .ref t1, .ref t2, .ref l3, .ref d4])) n6
    have ht1 := (e3.trans (e4.trans (e5.trans (e6.trans e7)))) _ _ upd_same
    have ht2 := (e4.trans (e5.trans (e6.trans e7))) _ _ upd_same
    have hl3 := (e5.trans (e6.trans e7)) _ _ upd_same
    have hd4 := (e6.trans e7) _ _ upd_same
    have e17 := e1.trans (e2.trans (e3.trans (e4.trans (e5.trans (e6.trans e7)))))
    generalize hH2 : upd _ l6 _ = H2 at e7 e17 ht1 ht2 hl3 hd4
    have hl6 : H2 l6 = some (.lst (some15.map V.str ++ [.non, .bl true, .int 0, .ref t1, .ref t2, .ref l3, .ref d4])) := by rw [← hH2]; exact upd_same
    have things : ∀ x ∈ some15.map V.str ++ [.non, .bl true, .int 0, .ref t1, .ref t2, .ref l3, .ref d4], Thing H2 x := by
      intro x hx
      rcases List.mem_append.mp hx with z | z
      · obtain ⟨y, hy, rfl⟩ := List.mem_map.mp z
        exact .str y ((by decide : ∀ y ∈ some15, y.length ≤ 1000) y hy)
      · simp only [List.mem_cons, List.not_mem_nil, or_false] at z
        rcases z with rfl | rfl | rfl | rfl | rfl | rfl | rfl
        · exact .non
        · exact .bl _
        · exact .int _
        · exact .tup ht1
        · exact .tup ht2
        · exact .lst hl3
        · exact .dK hd4
    clear ht1 ht2 hl3 hd4 e1 e2 e3 e4 e5 e6 e7
    refine ⟨l6, rfl, ⟨_, sq_of hl6⟩, for_list (fun i σ H' => Ex H2 H' ∧ ∃ y, σ = [some (.ref a), some (.ref ls), y, none, none, none]) ⟨Ex.refl _, none, rfl⟩ (fun i σ H' _ h => sq_of (h.1 _ _ hl6)) ?_ ?_⟩
    · rintro i x σ H' hx ⟨e, y, rfl⟩
      have tx : Thing H' x := (things x (List.mem_of_getElem? hx)).up e
      refine s_when (et_test (ev_op (z := .bl false)
        (ev_cbL (el_lst (ea_cons (ev_call (ea_cons (ev_var rfl) ea_nil) (tokV tx)) (ea_cons (ev_callK0 (gV := kwV) (ea_cons (ev_var rfl) ea_nil) (tokV tx)) ea_nil)) (by show 2 ≤ 100000; decide)) (fun p H1 hp _ => rc_repr2 hp))
        (ev_cbL (el_rep (el_lst (ea_cons (ev_call (ea_cons (ev_var rfl) ea_nil) (tokV tx)) ea_nil) (by show 1 ≤ 100000; decide)) (by decide) (by show 1 ≤ 100; decide)) (fun p H1 hp _ => rc_repr2 hp))
        ?_)) (fun hb => nomatch hb) (fun _ H1 e1 => ⟨e.trans e1, some x, rfl⟩)
      have := rv_ne (H := H') (x := .str (two (isTok x)).shown) (y := .str (two (isTok x)).shown) rfl
      rw [decide_eq_true rfl] at this
      exact this
    rintro σ H3 ⟨e3, y, rfl⟩
    have hS3 : SqL K H3 a (ns.map V.int) := ex_l (e17.trans e3) hS
    -- the cells
    obtain ⟨n, hn0, hn3, hn⟩ : ∃ n : Int, 0 ≤ n ∧ n ≤ 3 ∧ (if (if ((ns.map V.int).length : Int) < 3 then ((ns.map V.int).length : Int) else 3) > 1 then (if ((ns.map V.int).length : Int) < 3 then ((ns.map V.int).length : Int) else 3) else 1) = n := by
      refine ⟨_, ?_, ?_, rfl⟩ <;> (split <;> split <;> omega)
    refine ⟨.ref a, rfl, a, _, rfl, .inl hS3, 3, _, rfl, 1, _, rfl, _, rfl, ?_⟩
    rw [hn]
    refine ⟨by omega, by omega, for_range (lo := 0) (n := n.toNat) (fun i σ H' => Ex H3 H' ∧ ∃ y2 y3 y4 y5, σ = [some (.ref a), some (.ref ls), y2, y3, y4, y5]) ⟨Ex.refl _, y, none, none, none, rfl⟩ ?_ ?_⟩
    · rintro i σ H' hi ⟨e, y2, y3, y4, y5, rfl⟩
      refine ⟨.ref a, rfl, .int (0 + (i : Int)), rfl, a, i, ns, by rw [Int.zero_add]; rfl, by omega, ex_l e hS3, fun p H4 np e4 P4 => ?_⟩
      refine ⟨20, rfl, by decide, by decide, for_range (lo := 0) (n := 20) (fun j σ H' => Xp p H4 H' ∧ Pot H' p (j * 20) ∧ ∃ y2 y5, σ = [some (.ref a), some (.ref ls), y2, some (.int (0 + (i : Int))), some (.ref p), y5]) ⟨Xp.refl _ _, P4.more (by omega), y2, y5, rfl⟩ ?_ ?_⟩
      · rintro j σ H5 hj ⟨x5, P5, z2, z5, rfl⟩
        refine ⟨.ref p, rfl, p, j * 20, rfl, by omega, by omega, P5, fun v H6 tv x6 P6 => ?_⟩
        refine s_when (et_test (ev_op (z := .bl false) (ev_cb (ea_cons (ev_call (ea_cons (ev_var rfl) ea_nil) (tokV tv)) ea_nil) rc_reprB) (ev_cb (ea_cons (ev_call (ea_cons (ev_var rfl) ea_nil) (tokV tv)) ea_nil) rc_reprB) ?_)) (fun hb => nomatch hb)
          (fun _ H7 e7 => ⟨(x5.trans x6).trans (Xp.ex e7), (P6.up e7).more (by omega), some v, some (.int (0 + (j : Int))), rfl⟩)
        have := rv_ne (H := H6) (x := .str (if isTok v = true then "True" else "False")) (y := .str (if isTok v = true then "True" else "False")) rfl
        rw [decide_eq_true rfl] at this
        exact this
      · rintro σ H5 ⟨x5, P5, z2, z5, rfl⟩
        refine ⟨fun b o hb => x5 b o ?_ (e4 b o (e b o hb)), z2, _, _, z5, rfl⟩
        exact ne_of_none (e b o hb) np
    rintro σ H4 ⟨e4, y2, y3, y4, y5, rfl⟩
    -- the markers
    refine ⟨sz_of (by decide), fun p1 q1 => ⟨sz_of (by decide), fun p2 q2 => ?_⟩⟩
    have d1 : Dp K (upd (upd H4 p1 (.tup [.str "^", .str "$"])) p2 (.tup [.str "^", .str "$"])) (.ref p1) (.tuple [.str "^", .str "$"]) := .tup (st_of (Ex.new q2 _ _ upd_same)) (.cons (.str _) (.cons (.str _) .nil))
    have d2 : Dp K (upd (upd H4 p1 (.tup [.str "^", .str "$"])) p2 (.tup [.str "^", .str "$"])) (.ref p2) (.tuple [.str "^", .str "$"]) := .tup (st_of upd_same) (.cons (.str _) (.cons (.str _) .nil))
    refine ⟨_, _, d1, d2, by decide +kernel, by decide +kernel, true, by decide +kernel, ?_⟩
    refine iteT ?_
    have z1 : SpV spTok [.str "^"] H4 (.bl false) := fun H1 e Q q E => tokV (v := .str "^") (.str _ (by decide)) H1 e Q (fun H2 e2 => by rw [show isTok (.str "^") = false by decide +kernel]; exact q H2 e2) E
    have z2 : SpV spTok [.str "$"] H4 (.bl false) := fun H1 e Q q E => tokV (v := .str "$") (.str _ (by decide)) H1 e Q (fun H2 e2 => by rw [show isTok (.str "$") = false by decide +kernel]; exact q H2 e2) E
    exact ev_andV (H := H4) (ev_notV (ev_call (ea_cons ev_c ea_nil) z1)) (fun _ => ev_notV (ev_call (ea_cons ev_c ea_nil) z2)) _ ((Ex.new q1).trans (Ex.new q2)) _ (fun H5 _ => q H5)
end
end K01
namespace K01
open PySem PySem.Spec PyProof.Rows L2 Evl Es
theorem all_mk {l : PySem.W.OpenLaw} {w : World} {K : PySem.W.Frag} {h : Heap} {mg : Str → Option Value} {fa : Addr} (X : K.In h) (G : h.Ns mainGlobals mg) (hfa : mg "law" = some (.ref fa))
    {f0 : Addr} {od0 an0 : Option Addr} {sl0 : Array (Option Value)} {oc0 kV0 dc0 pm0 cd0 ct0 : Value}
    {f1 : Addr} {od1 an1 : Option Addr} {sl1 : Array (Option Value)} {oc1 kV1 dc1 pm1 cd1 ct1 : Value}
    {f2 : Addr} {od2 an2 : Option Addr} {sl2 : Array (Option Value)} {oc2 kV2 dc2 pm2 cd2 ct2 : Value}
    {f3 : Addr} {od3 an3 : Option Addr} {sl3 : Array (Option Value)} {oc3 kV3 dc3 pm3 cd3 ct3 : Value}
    {f4 : Addr} {od4 an4 : Option Addr} {sl4 : Array (Option Value)} {oc4 kV4 dc4 pm4 cd4 ct4 : Value}
    {f5 : Addr} {od5 an5 : Option Addr} {sl5 : Array (Option Value)} {oc5 kV5 dc5 pm5 cd5 ct5 : Value}
    {f6 : Addr} {od6 an6 : Option Addr} {sl6 : Array (Option Value)} {oc6 kV6 dc6 pm6 cd6 ct6 : Value}
    {t0 : Tok}
    {t1 : Tok}
    {t2 : Tok}
    {t3 : Tok}
    (a0 : PySem.W.nsIn K mainGlobals "is_token" = some (some (.ref f0))) (l0 : K.lookup f0 = some ⟨oc0, od0, .func (PySem.W.fnOf "is_token" "is_token" (defArgs sTok) (defBody sTok) (defScope sTok) .none kV0 dc0 pm0 an0 cd0 ct0), sl0⟩)
      (c0 : PySem.W.codeIn K cd0 "is_token" = true) (k0 : PySem.W.keepIn K (.ref f0) = true)
    (a1 : PySem.W.nsIn K mainGlobals "_law_pot" = some (some (.ref f1))) (l1 : K.lookup f1 = some ⟨oc1, od1, .func (PySem.W.fnOf "_law_pot" "_law_pot" (defArgs sPot) (defBody sPot) (defScope sPot) .none kV1 dc1 pm1 an1 cd1 ct1), sl1⟩)
      (c1 : PySem.W.codeIn K cd1 "_law_pot" = true) (k1 : PySem.W.keepIn K (.ref f1) = true)
    (a2 : PySem.W.nsIn K mainGlobals "_law_take" = some (some (.ref f2))) (l2 : K.lookup f2 = some ⟨oc2, od2, .func (PySem.W.fnOf "_law_take" "_law_take" (defArgs sTake) (defBody sTake) (defScope sTake) .none kV2 dc2 pm2 an2 cd2 ct2), sl2⟩)
      (c2 : PySem.W.codeIn K cd2 "_law_take" = true) (k2 : PySem.W.keepIn K (.ref f2) = true)
    (a3 : PySem.W.nsIn K mainGlobals "_law_pick" = some (some (.ref f3))) (l3 : K.lookup f3 = some ⟨oc3, od3, .func (PySem.W.fnOf "_law_pick" "_law_pick" (defArgs sPick) (defBody sPick) (defScope sPick) .none kV3 dc3 pm3 an3 cd3 ct3), sl3⟩)
      (c3 : PySem.W.codeIn K cd3 "_law_pick" = true) (k3 : PySem.W.keepIn K (.ref f3) = true)
    (a4 : PySem.W.nsIn K mainGlobals "_law_is_token" = some (some (.ref f4))) (l4 : K.lookup f4 = some ⟨oc4, od4, .func (PySem.W.fnOf "_law_is_token" "_law_is_token" (defArgs sLTok) (defBody sLTok) (defScope sLTok) .none kV4 dc4 pm4 an4 cd4 ct4), sl4⟩)
      (c4 : PySem.W.codeIn K cd4 "_law_is_token" = true) (k4 : PySem.W.keepIn K (.ref f4) = true)
    (a5 : PySem.W.nsIn K mainGlobals "_law_drawn" = some (some (.ref f5))) (l5 : K.lookup f5 = some ⟨oc5, od5, .func (PySem.W.fnOf "_law_drawn" "_law_drawn" (defArgs sDrawn) (defBody sDrawn) (defScope sDrawn) .none kV5 dc5 pm5 an5 cd5 ct5), sl5⟩)
      (c5 : PySem.W.codeIn K cd5 "_law_drawn" = true) (k5 : PySem.W.keepIn K (.ref f5) = true)
    (a6 : PySem.W.nsIn K mainGlobals "law" = some (some (.ref f6))) (l6 : K.lookup f6 = some ⟨oc6, od6, .func (PySem.W.fnOf "law" "law" (defArgs sLaw) (defBody sLaw) (defScope sLaw) .none kV6 dc6 pm6 an6 cd6 ct6), sl6⟩)
      (c6 : PySem.W.codeIn K cd6 "law" = true) (k6 : PySem.W.keepIn K (.ref f6) = true)
    (v0 : PySem.W.nsIn K mainGlobals "LETTERS" = some (some (.str abc t0)))
    (v1 : PySem.W.nsIn K mainGlobals "MOST_LETTERS" = some (some (.int 8 t1)))
    (v2 : PySem.W.nsIn K mainGlobals "START" = some (some (.str "^" t2)))
    (v3 : PySem.W.nsIn K mainGlobals "END" = some (some (.str "$" t3)))
    (z0 : PySem.W.nsIn K mainGlobals "isinstance" = some none)
    (z1 : PySem.W.nsIn K mainGlobals "str" = some none)
    (z2 : PySem.W.nsIn K mainGlobals "len" = some none)
    (z3 : PySem.W.nsIn K mainGlobals "all" = some none)
    (z4 : PySem.W.nsIn K mainGlobals "any" = some none)
    (z5 : PySem.W.nsIn K mainGlobals "abs" = some none)
    (z6 : PySem.W.nsIn K mainGlobals "range" = some none)
    (z7 : PySem.W.nsIn K mainGlobals "max" = some none)
    (z8 : PySem.W.nsIn K mainGlobals "min" = some none)
    (z9 : PySem.W.nsIn K mainGlobals "repr" = some none) :
    ∃ fd : FuncData, (∀ (s : Shared) (v : Value), BindsTo s fd ⟨[v], []⟩ [("_law_script", v)]) ∧ ∀ bs : Heap, K.In bs → bs.Ns mainGlobals mg → GnOk l.prog w K mg bs 4 fa fd ["_law_script"] (spLaw K) := by
  have e := hfa.symm.trans (PySem.W.mg_of X G a6)
  cases e
  have F0 := fun_mk (st := sTok) l0 c0 k0
  have F1 := fun_mk (st := sPot) l1 c1 k1
  have F2 := fun_mk (st := sTake) l2 c2 k2
  have F3 := fun_mk (st := sPick) l3 c3 k3
  have F4 := fun_mk (st := sLTok) l4 c4 k4
  have F5 := fun_mk (st := sDrawn) l5 c5 k5
  have F6 := fun_mk (st := sLaw) l6 c6 k6
  exact ⟨_, fun s v => .of_eq rfl, fun bs _ _ => ok_law F6 ⟨F0, F1, F2, F3, F4, F5, PySem.W.mg_of X G a0, PySem.W.mg_of X G a1, PySem.W.mg_of X G a2, PySem.W.mg_of X G a3, PySem.W.mg_of X G a4, PySem.W.mg_of X G a5, ⟨_, PySem.W.mg_of X G v0⟩, ⟨_, PySem.W.mg_of X G v1⟩, ⟨_, PySem.W.mg_of X G v2⟩, ⟨_, PySem.W.mg_of X G v3⟩, PySem.W.mg_none_of X G z0, PySem.W.mg_none_of X G z1, PySem.W.mg_none_of X G z2, PySem.W.mg_none_of X G z3, PySem.W.mg_none_of X G z4, PySem.W.mg_none_of X G z5, PySem.W.mg_none_of X G z6, PySem.W.mg_none_of X G z7, PySem.W.mg_none_of X G z8, PySem.W.mg_none_of X G z9⟩⟩
end K01
open PySem PySem.W PyProof.Rows
set_option maxHeartbeats 0 in
theorem PySem.Challenge.cw_errorspans_k01_tokens_of_any_value_holds : PySem.Challenge.rw_errorspans_k01_tokens_of_any_value.Holds := by
  w_on; o_law; k_head; (case hw => w_witness2)
  k_fill
  refine Es.walk_ofG (l := PySem.Challenge.rw_errorspans_k01_tokens_of_any_value) (n := 63) (k := 4) (x := "_law_script") (sp := K01.spLaw) rfl (by decide) rfl ⟨rfl, by decide, by decide⟩ (fun w h Y => PySem.W.kIn_of Y) ?F (fun _ _ a ns _ _ hS => ⟨a, ns, rfl, hS, fun _ => rfl⟩)
  case F =>
    intro w mg fa h KX G hmg
    refine' K01.all_mk KX G hmg ?a0 ?l0 ?c0 ?k0 ?a1 ?l1 ?c1 ?k1 ?a2 ?l2 ?c2 ?k2 ?a3 ?l3 ?c3 ?k3 ?a4 ?l4 ?c4 ?k4 ?a5 ?l5 ?c5 ?k5 ?a6 ?l6 ?c6 ?k6 ?v0 ?v1 ?v2 ?v3 ?z0 ?z1 ?z2 ?z3 ?z4 ?z5 ?z6 ?z7 ?z8 ?z9
    (case a0 => k_is); (case l0 => k_is); (case c0 => k_is); (case k0 => k_is); (case a1 => k_is); (case l1 => k_is); (case c1 => k_is); (case k1 => k_is)
    (case a2 => k_is); (case l2 => k_is); (case c2 => k_is); (case k2 => k_is); (case a3 => k_is); (case l3 => k_is); (case c3 => k_is); (case k3 => k_is)
    (case a4 => k_is); (case l4 => k_is); (case c4 => k_is); (case k4 => k_is); (case a5 => k_is); (case l5 => k_is); (case c5 => k_is); (case k5 => k_is)
    (case a6 => k_is); (case l6 => k_is); (case c6 => k_is); (case k6 => k_is); (case v0 => k_is); (case v1 => k_is); (case v2 => k_is); (case v3 => k_is)
    (case z0 => k_is); (case z1 => k_is); (case z2 => k_is); (case z3 => k_is); (case z4 => k_is); (case z5 => k_is); (case z6 => k_is); (case z7 => k_is)
    (case z8 => k_is); (case z9 => k_is)
