import PyProof.Rows.All
import Wide.All
import OpenK.AllK
import Wide.FinOn
import HandS.ForMost
import HandS.IsInst
import HandS.Evl
import HandS.Walk
import KE.GoesEnum
import HandS.TupAny
import HandS.Style
import HandS.TupMul
import HandS.ExcInit
import HandS.ExcField
import HandS.ExcValue
import KE.KExcIs
import HandS.Wide
import PySem.Challenge.RW_errorspans_k59_errors_made_by_hand
set_option Elab.async false
set_option linter.all false
set_option maxRecDepth 100000
set_option maxHeartbeats 2000000
namespace Es
open PySem PySem.Spec PyProof.Rows L2 Evl
section
variable {X : Cx}
/-- repr of a truth value -/
theorem cr_reprB : CallR X (.builtin "repr") (fun xs H Q => ∃ b : Bool, xs = [.bl b] ∧ Q (.str (if b then "True" else "False")) H) := by
  intro pins s σ H xs us Q I r h
  obtain ⟨b, rfl, q⟩ := h
  obtain ⟨u, rfl, ru⟩ := vals1 r
  obtain rfl : u = Value.bool b := ru
  exact PySem.P.repr_of_bool ⟨.str _, H, I.tok _, ⟨_, rfl⟩, q⟩
/-- repr of data that lies at an address -/
theorem cr_reprD (hg : X.A.guards = some []) (hu : X.A.units + 64 < cLine) : CallR X (.builtin "repr")
    (fun xs H Q => ∃ (a : Addr) (d : PyData), xs = [.ref a] ∧ Dp X.K H (.ref a) d ∧ d.showable = true ∧ d.hasDict = false ∧ d.depth ≤ 60 ∧ d.shown.length ≤ sizeLine ∧ Q (.str d.shown) H) := by
  intro pins s σ H xs us Q I r h
  obtain ⟨a, d, rfl, hd, hs, hn, hdp, hz, q⟩ := h
  obtain ⟨u, rfl, ru⟩ := vals1 r
  obtain rfl : u = Value.ref a := ru
  obtain ⟨as, rd⟩ := Dp.reads I d _ _ hd rfl
  refine repr_of_reads' rd hs (fun z => ?_) hg (by omega) (fun _ _ e => e) (fun h' u tk hk => ?_) hz
  · rw [hn] at z; cases z
  · exact ⟨.str d.shown, H, I.kept (t' := tk) hk, ⟨_, rfl⟩, q⟩
/-- powers of great numbers -/
def CPowW (i j : Int) : Prop := 0 ≤ j ∧ (Builtin.Int.intBits i : Int) * j ≤ 2 ^ 27
theorem op_powW : OpR X (binaryOp .Pow) (rI CPowW fun i j => .int (i ^ j.toNat)) := opI fun _ _ _ _ _ _ _ hc q => pow_int hc.1 hc.2 q
end
/-- a def's promise, given where no repr is under way -/
structure GnOk (P : Program) (w : World) (K : PySem.W.Frag) (mg : Str → Option Value) (bs : Heap) (k : Nat) (f : Addr) (fd : FuncData) (ps : List Str) (sp : Sp) : Prop where
  len : ∀ vs H Q E, sp vs H Q E → vs.length = ps.length
  run : ∀ (A : Around) (out : List Env) (s : Shared) (H : Hp) (ar : Args) (us : List Value) (vs : List V) (Q : VK) (E : XK), A.guards = some [] → Room k A →
    Env0 P w K mg bs A out s H → BindsTo s fd ar (ps.zip us) → Vals vs us → sp vs H Q E → codeAny (model P w) A (.call (.ref f) ar) (CR CX0 out P w H s Q E) s
section
variable {P : Program} {w : World} {K : PySem.W.Frag} {mg : Str → Option Value} {bs : Heap} {k : Nat} {f : Addr} {fd : FuncData} {ps : List Str} {sp : Sp}
theorem GnOk.ofF (F : FnOk P w K mg bs CX0 k f fd ps sp) : GnOk P w K mg bs k f fd ps sp := ⟨F.len, fun A out s H ar us vs Q E _ => F.run A out s H ar us vs Q E⟩
theorem GnOk.mono {j : Nat} (F : GnOk P w K mg bs j f fd ps sp) (h : j ≤ k) : GnOk P w K mg bs k f fd ps sp := ⟨F.len, fun A out s H ar us vs Q E g hr => F.run A out s H ar us vs Q E g (hr.mono h)⟩
theorem gn_of {x qual : Str} {st : Stmt} {N : List Str} (F : Fun K x qual st f fd) (S : FnScope N ps (defScope st)) (len : ∀ vs H Q E, sp vs H Q E → vs.length = ps.length)
    (hb : ∀ (cd : Value) (A : Around) (out : List Env) (s : Shared) (H : Hp) (vs : List V) (Q : VK) (E : XK), A.guards = some [] → Room k (A.deeper (envOfC qual (defScope st) s.heap.objs.size f cd)) →
      sp vs H Q E → ∃ t, PSs (cxOf CX0 P w K mg bs N qual (defScope st) f cd A out s H E).nox (defBody st) t ∧ t { nx := fun _ H' => Q .non H', rt := Q } (start N vs) H) :
    GnOk P w K mg bs (k + 1) f fd ps sp := by
  obtain ⟨oc, od, kV, dc, pm, an, cd, ct, sl, rfl, lk, hcd⟩ := F.ex
  refine ⟨len, ?_⟩
  intro A out s H ar us vs Q E g hr e0 hbd rv hs
  have up := fun b o (e : bs.get? b = some o) => (e0.bs b o e).1
  have kin := e0.mod.kin.keeps up
  have ln := len _ _ _ _ hs
  obtain ⟨t, ht, hq⟩ := hb cd A out s H vs Q E g (hr.deeper _) hs
  have hk : ∀ y ∈ ps.zip us, (defScope st).names.lookup y.1 = some .local ∨ ((defScope st).names.lookup y.1 = some .cell ∧ ((cellsFrom (s.heap.objs.size + 1) (defScope st).names []).lookup y.1).isSome = true) := by
    intro ⟨n, v⟩ hy
    rcases S.par n (List.of_mem_zip hy).1 with q | q
    · exact Or.inl q
    · exact Or.inr ⟨q, PySem.W.cellsFrom_some _ _ _ (.inl q)⟩
  refine codeAny_call_function hr.depth (kin _ _ lk) rfl S.co S.gen rfl (PySem.W.codeRec_of kin hcd) (hbd _ _ _ _ ?_)
  refine wpAny_newFunctionEnv_cells S.kind hk ?_
  intro en he s1 x
  subst he
  refine ⟨(e0.mod.nolimit.keeps up).keeps x.toInCall.keep, codeAny_func ?_⟩
  have I := inv_start (CX := CX0) (P := P) (w := w) (K := K) (mg := mg) (base := bs) (E := E) S hr.hd e0 ln rv x
  refine wpAny_mono (ht.nox.run [] s1 (start N vs) H _ I hq) ?_ (fun e s' hs => hs)
  intro fl s' z
  have fin : ∀ {σ' : L2.St} {H' : Hp} {v : V} {u : Value}, Inv (cxOf CX0 P w K mg bs N qual (defScope st) f cd A out s H E) [] σ' H' s' → RelV v u → Q v H' → CE out P w H s Q u s' :=
    fun J r q => ⟨_, _, J.os, J.bare, J.base, J.hok, r, q⟩
  match fl, z with
  | .ret u, ⟨v, σ', H', J, r, q⟩ => exact fin J r q
  | .next, ⟨σ', H', J, q⟩ => exact fin (v := V.non) (u := Value.none) J rfl q
  | .brk, ⟨_, _, _, q⟩ => exact q.elim
  | .cont, ⟨_, _, _, q⟩ => exact q.elim
end
section
variable {X : Cx} {k : Nat} {f : Addr} {fd : FuncData} {ps ks : List Str} {sp : Sp} {x : Str} {p pos : Pos} {e : Expr} {es : List Expr} {kws : List Keyword} {t tk : TA}
theorem run_gn {pins : List (Addr × Obj)} {σ : L2.St} {H : Hp} {s : Shared} {Q : VK} {us : List Value} {vs : List V} (F : GnOk X.prog X.w X.K X.mg X.base k f fd ps sp) (g : X.A.guards = some []) (hr : Room k X.A)
    (hb : Binds X.K fd ps []) (I : Inv X pins σ H s) (r : Vals vs us) (h : sp vs H Q E0) : wpAny (model X.prog X.w) X.A (call (.ref f) us) (EP X pins σ Q) X.xe s := by
  have ln := F.len _ _ _ _ h
  have hb' := hb s us I.kIn (by rw [List.append_nil, ← r.length]; exact ln)
  rw [List.append_nil] at hb'
  refine wpAny_call (codeAny_mono (F.run X.A X.stack s H ⟨us, []⟩ us vs Q E0 g hr I.env0 hb' r h) ?_)
  intro rs s' z
  match rs, z with
  | .ok (.ret u), z => exact I.after z
def tCallG (sp : Sp) (t : TA) : TE := fun σ H Q => t σ H fun vs H1 => sp vs H1 Q E0
/-- f(e, ..), f one that may ask for a repr -/
theorem pe_callG (F : GnOk X.prog X.w X.K X.mg X.base k f fd ps sp) (g : X.A.guards = some []) (hr : Room k X.A) (hg : Gl X x) (hm : X.mg x = some (.ref f)) (hk : PySem.W.keepIn X.K (.ref f) = true)
    (hb : Binds X.K fd ps []) (ha : PA X (e :: es) t) (hdb : (x == ("__debug__" : Str)) = false := by decide)
    (he : starEach (e :: es) X.env = (false, eval e X.env) :: starEach es X.env := by rfl) (hpl : (backTo pos (starEach es X.env)).any (·.1) = false := by rfl) :
    PE X (.Call (.Name x p) (e :: es) [] pos) (tCallG sp t) := by
  refine ⟨?_⟩
  intro pins s σ H Q I h
  refine wpAny_Call_Name_kw (ld_glob I hg hm ?_ hdb)
  refine PySem.W.callWith_K (h₀ := X.base) I.ok.mod.kin hk (thn (ha.run pos pins s σ H _ I h) ?_) he hpl
  rintro us s1 ⟨vs, H1, I1, r, q⟩
  exact ⟨I1.kIn, run_gn F g hr hb I1 r q⟩
/-- f(k = v, ..): keywords alone -/
theorem pe_callK0 {gg : List Value → List Value → List Value} {gV : List V → List V → List V} (F : FnOk X.prog X.w X.K X.mg X.base CX0 k f fd ps sp) (hr : Room k X.A) (hg : Gl X x) (hm : X.mg x = some (.ref f)) (hk : PySem.W.keepIn X.K (.ref f) = true)
    (hb : KBinds X.K fd ps ks gg gV) (hkw : PK X kws tk) (hall : (backToKw pos (keywordEach kws X.env)).all (·.1.isSome) = true := by rfl) (hks : (backToKw pos (keywordEach kws X.env)).filterMap (·.1) = ks := by rfl)
    (hdb : (x == ("__debug__" : Str)) = false := by decide) (hpl : ((backTo pos (starEach [] X.env)).any (·.1) || (backToKw pos (keywordEach kws X.env)).any (·.1.isNone)) = false := by rfl) :
    PE X (.Call (.Name x p) [] kws pos) (fun σ H Q => tk σ H fun zs H1 => sp (gV [] zs) H1 Q E0) := by
  refine ⟨?_⟩
  intro pins s σ H Q I h
  refine wpAny_Call_Name_kw (ld_glob I hg hm ?_ hdb)
  refine PySem.W.callWith_KW0 (h₀ := X.base) I.ok.mod.kin hk hall (thn (hkw.run pos pins s σ H _ I h) ?_) hpl
  rintro ws s2 ⟨zs, H2, I2, rz, q2⟩
  refine ⟨I2.kIn, ?_⟩
  rw [hks]
  exact run_fnk F hr hb pass0 I2 .nil rz q2
end
/-! the law's own call -/
section
variable {P : Program} {w : World} {K : PySem.W.Frag} {mg mb : Str → Option Value} {k : Nat} {fa a : Addr} {fd : FuncData} {x : Str} {sp : Sp} {s1 : Shared} {vs : List Value} {ns : List Int}
def LawEnd (s1 : Shared) : Result → Shared → Prop := fun r s' => r = .ok (.ret (.bool true)) ∧ OldK s1.heap s'.heap ∧ s'.os = s1.os ∧ AllBare s'.gens
theorem law_core (KX : K.In s1.heap) (hns : s1.heap.Ns mainGlobals mg) (hb : s1.heap.Ns builtinsNs mb) (hbb : ∀ x : Str, x ≠ "__name__" → mb x = bootBuiltins x) (hlim : s1.heap.NoLimit) (hg : s1.gens = #[])
    (ha : s1.heap.get? a = some { cls := .type "list", data := .seq vs.toArray }) (hr : Room k callerA)
    (F : ∀ bs : Heap, K.In bs → bs.Ns mainGlobals mg → GnOk P w K mg bs k fa fd [x] sp) (hbd : ∀ (s : Shared) (u : Value), BindsTo s fd ⟨[u], []⟩ [(x, u)])
    (H : Hp) (hO : Only H) (hok : HOk P w H s1.heap) (hA : ∀ b, H b ≠ none → b = a) (hK : H a ≠ none → K.lookup a = none) (hs : sp [.ref a] H (fun v _ => v = .bl true) E0) :
    codeAny (model P w) callerA (.call (.ref fa) ⟨[.ref a], []⟩) (LawEnd s1) s1 := by
  have isA : ∀ {b : Addr} {u : HO}, H b = some u → b = a := fun q => hA _ (by rw [q]; simp)
  have nodict : ∀ {b : Addr} {o : Obj} {es : Array DictEntry} {ep : Nat}, s1.heap.get? b = some o → o.data = .dict es ep → H b = none := by
    intro b o es ep e d
    cases q : H b with
    | none => rfl
    | some u =>
      cases isA q
      rw [ha] at e
      cases e
      cases d
  have low : ∀ {b : Addr} {o : Obj}, s1.heap.get? b = some o → H b = none → (hidT s1.heap H).get? b = some o := fun e n => hidT_get e n
  have nsl : ∀ {b : Addr} {m : Str → Option Value}, s1.heap.Ns b m → (hidT s1.heap H).Ns b m := by
    rintro b m ⟨o, es, ep, e, d, r⟩
    exact ⟨o, es, ep, low e (nodict e d), d, r⟩
  have kl : K.In (hidT s1.heap H) := by
    intro b o e
    refine low (KX b o e) ?_
    cases q : H b with
    | none => rfl
    | some u =>
      cases isA q
      rw [hK (by rw [q]; simp)] at e
      cases e
  obtain ⟨mc, hm1, hm2⟩ := hlim
  have md : Mod K mg (hidT s1.heap H) := ⟨kl, nsl hns, ⟨mb, nsl hb, hbb⟩, ⟨mc, nsl hm1, hm2⟩⟩
  have e0 : Env0 P w K mg (hidT s1.heap H) callerA [] s1 H :=
    ⟨rfl, md, fun b o e => of_hidT e, Nat.le_of_eq (hidT_size _ _), trivial, fun b z => absurd (show b ∈ ([] : List Addr) from z) (by simp), hok, .of_eq hg⟩
  refine codeAny_mono ((F _ kl (nsl hns)).run callerA [] s1 H ⟨[.ref a], []⟩ [.ref a] [.ref a] _ _ rfl hr e0 (hbd s1 (.ref a)) (.cons rfl .nil) hs) ?_
  intro r s' z
  match r, z with
  | .ok (.ret u), ⟨v, H', os, bare, un, hok', rv, q⟩ =>
    cases (show v = .bl true from q)
    obtain rfl : u = Value.bool true := rv
    refine ⟨rfl, OldK.of_keep ?_, os, bare⟩
    intro b o e
    cases q : H b with
    | none => exact un.keep b o e q (by intro z; exact absurd (show b ∈ ([] : List Addr) from z) (by simp)) (by simp)
    | some u =>
      rcases hO b with z | ⟨ob, xs, z⟩
      · rw [q] at z
        cases z
      · obtain ⟨g1, _⟩ := hok b _ z
        obtain ⟨g2, _⟩ := hok' b _ (un.frzs b ob _ z)
        rw [e] at g1
        cases g1
        exact g2
theorem law_callG (KX : K.In s1.heap) (hns : s1.heap.Ns mainGlobals mg) (hb : s1.heap.Ns builtinsNs mb) (hbb : ∀ x : Str, x ≠ "__name__" → mb x = bootBuiltins x) (hlim : s1.heap.NoLimit) (hg : s1.gens = #[])
    (ha : s1.heap.get? a = some { cls := .type "list", data := .seq vs.toArray }) (hi : IntsAre vs ns) (hl : ns.length ≤ sizeLine) (hr : Room k callerA)
    (F : ∀ bs : Heap, K.In bs → bs.Ns mainGlobals mg → GnOk P w K mg bs k fa fd [x] sp) (hbd : ∀ (s : Shared) (u : Value), BindsTo s fd ⟨[u], []⟩ [(x, u)])
    (hsp : ∀ H : Hp, Only H → SqL K H a (ns.map V.int) → sp [.ref a] H (fun v _ => v = .bl true) E0) :
    codeAny (model P w) callerA (.call (.ref fa) ⟨[.ref a], []⟩) (LawEnd s1) s1 := by
  have rv := vals_ints hi
  cases hk : K.lookup a with
  | some o =>
    have e := KX a o hk
    rw [ha] at e
    cases e
    have hO : Only (fun _ => none) := fun _ => .inl rfl
    refine law_core KX hns hb hbb hlim hg ha hr F hbd (fun _ => none) hO (fun b u z => nomatch z) (fun b z => absurd rfl z) (fun z => absurd rfl z) (hsp _ hO ?_)
    exact .inr ⟨_, vs.toArray, _, hk, rfl, rfl, rfl, by rw [List.size_toArray, hi.length]; exact hl, by simpa using rv⟩
  | none =>
    let Z : Hp := fun b => if b = a then some (.frz { cls := .type "list", data := .seq vs.toArray } (.lst (ns.map V.int))) else none
    have hZ : Z a = some (.frz { cls := .type "list", data := .seq vs.toArray } (.lst (ns.map V.int))) := if_pos rfl
    have hZn : ∀ b, b ≠ a → Z b = none := fun b h => if_neg h
    have hO : Only Z := fun b => by
      by_cases h : b = a
      · subst h
        exact .inr ⟨_, _, hZ⟩
      · exact .inl (hZn b h)
    refine law_core KX hns hb hbb hlim hg ha hr F hbd Z hO (fun b u z => ?_) (fun b z => ?_) (fun _ => hk) (hsp Z hO (.inl (.inr ⟨_, hZ⟩)))
    · by_cases h : b = a
      · subst h
        rw [hZ] at z
        cases z
        exact ⟨ha, by rw [List.length_map]; exact hl, vs, _, rv, ha⟩
      · rw [hZn b h] at z
        cases z
    · by_cases h : b = a
      · exact h
      · exact absurd (hZn b h) z
end
theorem walk_ofG {l : PySem.W.OpenLaw} {n k : Nat} {q : Program} {loose : List Str} {XP : (Str → Option Value) → Heap → Prop} {YP : World → Heap → Prop} {d : DefRec} {K : Params → PySem.W.Frag} {sp : PySem.W.Frag → Sp} {x : Str}
    (hn : l.most = some n) (hn2 : n ≤ sizeLine) (hdf : d.params.defaults = []) (hr : Room k callerA) (hY : ∀ (w : World) (h : Heap), YP w h → (K w.params).In h)
    (F : ∀ (w : World) (mg : Str → Option Value) (fa : Addr) (h : Heap), (K w.params).In h → h.Ns mainGlobals mg → mg d.name = some (.ref fa) →
      ∃ fd : FuncData, (∀ (s : Shared) (u : Value), BindsTo s fd ⟨[u], []⟩ [(x, u)]) ∧
        ∀ bs : Heap, (K w.params).In bs → bs.Ns mainGlobals mg → GnOk l.prog w (K w.params) mg bs k fa fd [x] (sp (K w.params)))
    (hsp : ∀ (K : PySem.W.Frag) (H : Hp) (a : Addr) (ns : List Int), ns.length ≤ n → Only H → SqL K H a (ns.map V.int) → sp K [.ref a] H (fun v _ => v = .bl true) E0) :
    PySem.W.WalkO q loose XP YP l.row.toRowW d [] (fun f vs => PySem.call f vs) := by
  refine Att.attach_call hn hdf ?_
  intro w s0 s1 mg mb fa o pm cd dc a vs ns G Y ho hd hcd hmg hobj hints hlen hgn
  have KX := hY w _ Y
  obtain ⟨fd, hb, hF⟩ := F w mg fa _ KX G.T.g hmg
  exact law_callG KX G.T.g G.T.b G.T.builtins G.T.nolimit hgn hobj hints (Nat.le_trans hlen hn2) hr hF hb fun H hO hS => hsp _ H a ns hlen hO hS
end Es
namespace Es
open PySem PySem.Spec PyProof.Rows L2 Evl
section
variable {K : PySem.W.Frag} {σ : L2.St} {H H' : Hp} {ta tb tc te : TE} {x y z v w : V} {r r' : R2}
theorem ev_chain {k k' : Bool} (ha : Ev ta σ H x) (hb : Ev tb σ H y) (hr : RV r x y H (.bl k)) (hc : k = true → Ev tc σ H w) (hr' : k = true → RV r' y w H (.bl k')) : Ev (tChain r r' ta tb tc) σ H (.bl (k && k')) := by
  intro H1 e Q q
  refine ha H1 e _ fun H2 e2 => hb H2 (e.trans e2) _ fun H3 e3 => hr H3 ((e.trans e2).trans e3) _ fun H4 e4 => ⟨k, rfl, ?_⟩
  have e14 := (e2.trans e3).trans e4
  cases k with
  | true => exact hc rfl H4 (e.trans e14) _ fun H5 e5 => hr' rfl H5 ((e.trans e14).trans e5) Q fun H6 e6 => q H6 ((e14.trans e5).trans e6)
  | false => exact q H4 e14
/-- a text walked by a comprehension without tests, each sign giving f of it -/
theorem el_lcS {s : Str} {tl : TE} {j : Nat} {vs : List Nat} (f : Nat → V) (h : Ev tl σ H (.str s)) (hz : s.cps.size ≤ 40000) (hw : ∀ x, wipe ((wipe σ vs).set j (some x)) vs = wipe σ vs)
    (he : ∀ (c : Nat) H1, Ex H H1 → c ∈ s.cps.toList → Ev te ((wipe σ vs).set j (some (.str ⟨#[c]⟩))) H1 (f c)) :
    EvL (tLc (iStr tl) (gName j) tYes te vs) σ H (s.cps.toList.map f) := by
  intro H0 e Q q
  refine h H0 e _ fun H1 e1 => ⟨s, rfl, fun D hD => ?_⟩
  refine lc_it walk_str (fun i H' => Ex H1 H' ∧ H' D = some (.lst ((s.cps.toList.take i).map f))) ⟨Ex.new hD, upd_same⟩ (fun _ _ _ _ => trivial) (fun i x Ha Hb hi p y => ?_) (fun Hc p => ?_)
  · obtain ⟨rfl, c, hc, rfl⟩ := y
    refine ⟨hw _, ?_⟩
    show te _ Hb _
    have hm : s.cps.toList[i]? = some c := by rw [Array.getElem?_toList]; exact hc
    refine he c Hb ((e.trans e1).trans p.1) (List.mem_of_getElem? hm) Hb (Ex.refl _) _ fun Hc ec => ⟨_, ec D _ p.2, ?_, Ex.mut (p.1.trans ec) hD, ?_⟩
    · rw [List.length_map, List.length_take]
      exact sz_lt (by rw [Array.length_toList]; omega)
    · rw [upd_same, List.take_add_one, hm, List.map_append]
      rfl
  · have p2 := p.2
    rw [List.take_of_length_le (by rw [Array.length_toList]; exact Nat.le_refl _)] at p2
    exact q D Hc (fresh_back e1 hD) (e1.trans p.1) p2
theorem ev_cbL {r : List V → Hp → VK → Prop} {ta : TE} {xs : List V} (h : EvL ta σ H xs) (hr : ∀ p H1, H1 p = some (.lst xs) → Ex H H1 → RC r [.ref p] H1 z) : Ev (tCB r (tCons ta tNil)) σ H z := fun H1 e Q q =>
  h H1 e _ fun p H2 _ e2 hp => hr p H2 hp (e.trans e2) H2 (Ex.refl _) Q fun H3 e3 => q H3 (e2.trans e3)
/-- the values that a value of any kind may be -/
inductive Thing (H : Hp) : V → Prop
  | non : Thing H .non
  | bl (b : Bool) : Thing H (.bl b)
  | int (i : Int) : Thing H (.int i)
  | str (s : Str) : s.length ≤ 1000 → Thing H (.str s)
  | lst {a : Addr} {xs : List V} : H a = some (.lst xs) → Thing H (.ref a)
  | tup {a : Addr} {xs : List V} : H a = some (.tup xs) → Thing H (.ref a)
  | dK {a : Addr} {kvs : List (Key × V)} : H a = some (.dK kvs) → Thing H (.ref a)
theorem Thing.up (h : Thing H v) (e : Ex H H') : Thing H' v := by
  cases h with
  | non => exact .non
  | bl b => exact .bl b
  | int i => exact .int i
  | str s hs => exact .str s hs
  | lst h => exact .lst (e _ _ h)
  | tup h => exact .tup (e _ _ h)
  | dK h => exact .dK (e _ _ h)
def isS : V → Bool
  | .str _ => true
  | _ => false
theorem Thing.ty (h : Thing H v) : ∃ t : String, TyX K H v (.type t) ∧ kitB t "str" = some (isS v) := by
  cases h with
  | non => exact ⟨_, .base .non, show kitB "NoneType" "str" = some false by decide +kernel⟩
  | bl b => exact ⟨_, .base (.bl b), show kitB "bool" "str" = some false by decide +kernel⟩
  | int i => exact ⟨_, .base (.int i), show kitB "int" "str" = some false by decide +kernel⟩
  | str s hs => exact ⟨_, .base (.str s), show kitB "str" "str" = some true by decide +kernel⟩
  | lst h => exact ⟨_, .base (.lst h), show kitB "list" "str" = some false by decide +kernel⟩
  | tup h => exact ⟨_, .base (.tup h), show kitB "tuple" "str" = some false by decide +kernel⟩
  | dK h => exact ⟨_, .base (.dK h), show kitB "dict" "str" = some false by decide +kernel⟩
theorem Thing.isi (h : Thing H v) : RC (rIsi K) [v, .ty "str"] H (.bl (isS v)) := by
  intro H1 e Q q
  obtain ⟨t, h1, h2⟩ := (h.up e).ty (K := K)
  exact ⟨v, _, _, _, _, rfl, .ty _, h1, kit_ty h2, q H1 (Ex.refl _)⟩
def rLen1 (K : PySem.W.Frag) : List V → Hp → VK → Prop := fun xs H Q => ∃ x n, xs = [x] ∧ LenV K x H n ∧ Q (.int n) H
theorem rc_lenS {s : Str} (h : s.length ≤ 1000) : RC (rLen1 K) [.str s] H (.int (s.length : Int)) := fun H1 _ _ q => ⟨.str s, s.length, rfl, ⟨sz_of (by omega), rfl⟩, q H1 (Ex.refl _)⟩
theorem rc_all {p : Addr} {bs : List Bool} (h : H p = some (.lst (bs.map V.bl))) : RC (rAll K) [.ref p] H (.bl (bs.all id)) := fun H1 e _ q => ⟨p, bs, rfl, sq_of (e _ _ h), q H1 (Ex.refl _)⟩
theorem rc_any {p : Addr} {bs : List Bool} (h : H p = some (.lst (bs.map V.bl))) : RC (rAny K) [.ref p] H (.bl (bs.any id)) := fun H1 e _ q => ⟨p, bs, rfl, sq_of (e _ _ h), q H1 (Ex.refl _)⟩
def rInSign : R2 := fun x y H Q => ∃ (c : Nat) (z : Str), x = .str ⟨#[c]⟩ ∧ y = .str z ∧ Q (.bl (decide (c ∈ z.cps.toList))) H
theorem rv_inSign {c : Nat} {s : Str} : RV rInSign (.str ⟨#[c]⟩) (.str s) H (.bl (decide (c ∈ s.cps.toList))) := fun H1 _ _ q => ⟨c, s, rfl, rfl, q H1 (Ex.refl _)⟩
def rNotInSign : R2 := fun x y H Q => ∃ (c : Nat) (z : Str), x = .str ⟨#[c]⟩ ∧ y = .str z ∧ Q (.bl (!decide (c ∈ z.cps.toList))) H
theorem rv_notInSign {c : Nat} {s : Str} : RV rNotInSign (.str ⟨#[c]⟩) (.str s) H (.bl (!decide (c ∈ s.cps.toList))) := fun H1 _ _ q => ⟨c, s, rfl, rfl, q H1 (Ex.refl _)⟩
end
end Es
namespace Es
open PySem PySem.Spec PyProof.Rows L2 Evl
/-- all but the object at p stays -/
def Xp (p : Addr) (H H' : Hp) : Prop := ∀ a o, a ≠ p → H a = some o → H' a = some o
theorem Xp.refl (p : Addr) (H : Hp) : Xp p H H := fun _ _ _ h => h
theorem Xp.ex {p : Addr} {H H' : Hp} (e : Ex H H') : Xp p H H' := fun a o _ h => e a o h
theorem Xp.trans {p : Addr} {H H1 H2 : Hp} (a : Xp p H H1) (b : Xp p H1 H2) : Xp p H H2 := fun x o n h => b x o n (a x o n h)
theorem Xp.upd {p : Addr} {H : Hp} {o : HO} : Xp p H (upd H p o) := fun a u n h => by
  rw [upd_ne n]
  exact h
/-- a pot: three ints -/
def Pot (H : Hp) (p : Addr) (n : Int) : Prop := ∃ g s c : Int, H p = some (.lst [.int g, .int s, .int c]) ∧ 0 ≤ g ∧ 0 ≤ s ∧ s < 2 ^ 61 ∧ 0 ≤ c ∧ c ≤ n
theorem Pot.up {H H' : Hp} {p : Addr} {n : Int} (h : Pot H p n) (e : Ex H H') : Pot H' p n := by
  obtain ⟨g, s, c, h, r⟩ := h
  exact ⟨g, s, c, e _ _ h, r⟩
theorem Pot.more {H : Hp} {p : Addr} {n m : Int} (h : Pot H p n) (e : n ≤ m) : Pot H p m := by
  obtain ⟨g, s, c, h, r1, r2, r3, r4, r5⟩ := h
  exact ⟨g, s, c, h, r1, r2, r3, r4, by omega⟩
theorem Pot.back {H H' : Hp} {p q : Addr} {n : Int} (h : Pot H' p n) (e : Xp p H H') (hq : H' q = none) : H q = none := by
  obtain ⟨g, s, c, h, _⟩ := h
  cases hh : H q with
  | none => rfl
  | some o =>
    by_cases z : q = p
    · subst z
      rw [h] at hq
      cases hq
    · rw [e q o z hh] at hq
      cases hq
theorem Pot.ne {H : Hp} {p q : Addr} {n : Int} (h : Pot H p n) (hq : H q = none) : q ≠ p := by
  obtain ⟨g, s, c, h, _⟩ := h
  intro z
  subst z
  rw [h] at hq
  cases hq
def spTake : Sp := fun vs H Q _ => ∃ (p : Addr) (n m : Int), vs = [.ref p, .int n] ∧ 1 ≤ n ∧ n ≤ 1000 ∧ m ≤ 100000 ∧ Pot H p m ∧
  ∀ (r : Int) H', 0 ≤ r → r < n → Xp p H H' → Pot H' p (m + 1) → Q (.int r) H'
end Es
namespace Es
open PySem PySem.Spec PyProof.Rows L2 Evl
theorem Xp.mut {p D : Addr} {H H' : Hp} {o : HO} (e : Xp p H H') (h : H D = none) : Xp p H (L2.upd H' D o) := fun a u n ha => by
  rw [upd_ne (ne_of_none ha h)]
  exact e a u n ha
theorem len_glue : ∀ ys : List Str, (∀ y ∈ ys, y.length = 1) → (Str.join "" ys).length = ys.length
  | [], _ => rfl
  | [y], h => h y (List.mem_singleton.mpr rfl)
  | x :: z :: r, h => by
    show (x ++ "" ++ Str.join "" (z :: r)).length = r.length + 1 + 1
    rw [PySem.Str.length_append, PySem.Str.length_append, len_glue (z :: r) (fun y hy => h y (List.mem_cons_of_mem _ hy)), h x (List.mem_cons_self ..)]
    show 1 + 0 + (r.length + 1) = r.length + 1 + 1
    omega
theorem cut_le (z : Str) (lo hi : Option Int) : (cutS z lo hi).length ≤ z.length := by
  show (List.toArray _).size ≤ z.cps.size
  rw [List.size_toArray, List.length_take, List.length_drop, Array.length_toList]
  omega
end Es
namespace Es
open PySem PySem.Spec PyProof.Rows L2 Evl
section
variable {K : PySem.W.Frag} {σ : L2.St} {H H' : Hp} {ta tb te : TE} {tk : TA} {x y z v w : V} {sp : Sp}
def rReprB : List V → Hp → VK → Prop := fun xs H Q => ∃ b : Bool, xs = [.bl b] ∧ Q (.str (if b then "True" else "False")) H
def rReprD (K : PySem.W.Frag) : List V → Hp → VK → Prop := fun xs H Q => ∃ (a : Addr) (d : PyData), xs = [.ref a] ∧ Dp K H (.ref a) d ∧ d.showable = true ∧ d.hasDict = false ∧ d.depth ≤ 60 ∧ d.shown.length ≤ sizeLine ∧ Q (.str d.shown) H
theorem rc_reprB {b : Bool} : RC rReprB [.bl b] H (.str (if b then "True" else "False")) := fun H1 _ _ q => ⟨b, rfl, q H1 (Ex.refl _)⟩
/-- [b, b] written -/
def two (b : Bool) : PyData := .list [.bool b, .bool b]
theorem rc_repr2 {p : Addr} {b : Bool} (h : H p = some (.lst [.bl b, .bl b])) : RC (rReprD K) [.ref p] H (.str (two b).shown) := fun H1 e _ q =>
  ⟨p, two b, rfl, .lst (sq_of (e _ _ h)) (.cons (.bl b) (.cons (.bl b) .nil)), by cases b <;> decide +kernel, by cases b <;> decide +kernel, by cases b <;> decide +kernel, by cases b <;> decide +kernel, q H1 (Ex.refl _)⟩
theorem el_rep {xs : List V} {n : Int} (h : EvL ta σ H xs) (hn : 0 ≤ n ∧ n ≤ 100) (hl : xs.length ≤ 100) : EvL (tOp rRep ta (tC (.int n))) σ H (List.replicate n.toNat xs).flatten := by
  intro H1 e Q q
  refine h H1 e _ fun p H2 hp e2 h2 => ⟨p, n, xs, rfl, rfl, h2, by omega, by omega, ?_, fun r hr => q r _ (fresh_back e2 hr) (e2.trans (Ex.new hr)) upd_same⟩
  have : xs.length * n.toNat ≤ 100 * 100 := Nat.mul_le_mul hl (by omega)
  exact sz_of (by omega)
theorem ev_callK0 {gV : List V → List V → List V} {vs : List V} (h : EvA tk σ H vs) (hs : SpV sp (gV [] vs) H z) : Ev (fun σ H Q => tk σ H fun zs H1 => sp (gV [] zs) H1 Q E0) σ H z := fun H1 e Q q =>
  h H1 e _ fun H2 e2 => hs H2 (e.trans e2) Q (fun H3 e3 => q H3 (e2.trans e3)) E0
end
/-- one keyword alone -/
def kwV : List V → List V → List V
  | [], zs => zs
  | _ :: _, _ => []
def kwU : List Value → List Value → List Value
  | [], zs => zs
  | _ :: _, _ => []
theorem kw_rel {vs zs : List V} {us ws : List Value} (r : Vals vs us) (rz : Vals zs ws) : Vals (kwV vs zs) (kwU us ws) := by
  cases r with
  | nil => exact rz
  | cons _ _ => exact .nil
end Es
section
open PySem PySem.Sem PySem.Builtin PySem.Builtin.List
/-- a list grows by a tuple's items -/
theorem PySem.es_ext (l : Addr) (its : Array Value) (n : Nat) (b : Addr) (jts : Array Value) (n2 : Nat) (dd : Option Addr) (sl : Array (Option Value)) (hs0 : ¬(!its.isEmpty && listTooLong (its.size + jts.size)) = true)
    (hs1 : its.size ≤ sizeLine) (hs2 : its.size + jts.size ≤ sizeLine + 1) :
    Meets (Builtin.«list.extend» ⟨[.ref l, .ref b], []⟩) (fun _ R s => s.heap.get? l = some { cls := .type "list", dict := none, data := .seq its n, slots := #[] } ∧
      s.heap.get? b = some { cls := .type "tuple", dict := dd, data := .seq jts n2, slots := sl } ∧ R (.ok (.ret Value.none)) { s with heap := s.heap.update l (Obj.mapSeq fun x => x ++ jts), toks := s.toks }) :=
  .of_wp fun prog w A R s h => by
    obtain ⟨hp, g, d, tk, os⟩ := s
    obtain ⟨hl, hb, h⟩ := h
    have f1 := F.sub_tuple_tuple
    have f2 := F.sub_list_list
    have f3 := F.sub_tuple_list
    have f4 := F.sub_list_tuple
    have hz' : (its ++ jts).size ≤ sizeLine + 1 := by
      rw [Array.size_append]
      exact hs2
    wp_walk using (wpAny_updateSeq hl rfl (hz := hs1) (_hz' := hz')), wpAny_loadPart' hl, wpAny_loadPart' hb
    exact ⟨_, rfl, h⟩
end
namespace Es
open PySem PySem.Spec PyProof.Rows L2 Evl
/-- expressions -/
inductive Tr where
  | leaf (k n : Str)
  | node (k : Str) (ps : List Tr)
mutual
def Tr.toD : Tr → PyData
  | .leaf k n => .tuple [.str k, .str n]
  | .node k ps => .tuple (.str k :: Tr.toDs ps)
def Tr.toDs : List Tr → List PyData
  | [] => []
  | t :: r => t.toD :: Tr.toDs r
end
mutual
/-- the leaves from left to right -/
def Tr.lv : Tr → List Tr
  | .leaf k n => [.leaf k n]
  | .node _ ps => Tr.lvs ps
def Tr.lvs : List Tr → List Tr
  | [] => []
  | t :: r => t.lv ++ Tr.lvs r
end
mutual
def Tr.dep : Tr → Nat
  | .leaf _ _ => 0
  | .node _ ps => Tr.deps ps + 1
def Tr.deps : List Tr → Nat
  | [] => 0
  | t :: r => max t.dep (Tr.deps r)
end
def leafKinds : List Str := ["token", "block"]
def nodeKinds : List Str := ["repeat", "optional", "sequence", "choice"]
def names : List Str := ["a", "num", "b", "x", "abcdefgh"]
mutual
def Tr.ok : Tr → Prop
  | .leaf k n => k ∈ leafKinds ∧ n ∈ names
  | .node k ps => k ∈ nodeKinds ∧ ps ≠ [] ∧ Tr.oks ps
def Tr.oks : List Tr → Prop
  | [] => True
  | t :: r => t.ok ∧ Tr.oks r
end
mutual
def Tr.big : Tr → Nat
  | .leaf _ _ => 15
  | .node _ ps => 9 + Tr.bigs ps
def Tr.bigs : List Tr → Nat
  | [] => 0
  | t :: r => t.big + 1 + Tr.bigs r
end
mutual
/-- where an expression stands: not at p -/
inductive TrAt (p : Addr) (H : Hp) : V → Tr → Prop
  | leaf {a : Addr} {k n : Str} : a ≠ p → H a = some (.tup [.str k, .str n]) → TrAt p H (.ref a) (.leaf k n)
  | node {a : Addr} {k : Str} {vs : List V} {ps : List Tr} : a ≠ p → H a = some (.tup (.str k :: vs)) → TrAll p H vs ps → TrAt p H (.ref a) (.node k ps)
inductive TrAll (p : Addr) (H : Hp) : List V → List Tr → Prop
  | nil : TrAll p H [] []
  | cons {v : V} {vs : List V} {t : Tr} {ts : List Tr} : TrAt p H v t → TrAll p H vs ts → TrAll p H (v :: vs) (t :: ts)
end
section
variable {p : Addr} {H H' : Hp} {K : PySem.W.Frag}
mutual
theorem TrAt.xp (e : Xp p H H') : ∀ {v : V} {t : Tr}, TrAt p H v t → TrAt p H' v t
  | _, _, .leaf n h => .leaf n (e _ _ n h)
  | _, _, .node n h r => .node n (e _ _ n h) (TrAll.xp e r)
theorem TrAll.xp (e : Xp p H H') : ∀ {vs : List V} {ts : List Tr}, TrAll p H vs ts → TrAll p H' vs ts
  | _, _, .nil => .nil
  | _, _, .cons h r => .cons (TrAt.xp e h) (TrAll.xp e r)
end
theorem TrAt.up {v : V} {t : Tr} (h : TrAt p H v t) (e : Ex H H') : TrAt p H' v t := h.xp (Xp.ex e)
theorem TrAll.up {v : List V} {t : List Tr} (h : TrAll p H v t) (e : Ex H H') : TrAll p H' v t := h.xp (Xp.ex e)
mutual
theorem TrAt.dp : ∀ {v : V} {t : Tr}, TrAt p H v t → Dp K H v t.toD
  | _, _, .leaf _ h => .tup (st_of h) (.cons (.str _) (.cons (.str _) .nil))
  | _, _, .node _ h r => .tup (st_of h) (.cons (.str _) (TrAll.dp r))
theorem TrAll.dp : ∀ {vs : List V} {ts : List Tr}, TrAll p H vs ts → DpAll K H vs (Tr.toDs ts)
  | _, _, .nil => .nil
  | _, _, .cons h r => .cons (TrAt.dp h) (TrAll.dp r)
end
mutual
theorem TrAt.mutL {l : Addr} {xs ys : List V} (hl : H l = some (.lst xs)) : ∀ {v : V} {t : Tr}, TrAt p H v t → TrAt p (upd H l (.lst ys)) v t
  | _, _, .leaf n h => .leaf n (by rw [upd_ne (ne_of h hl (by intro z; cases z))]; exact h)
  | _, _, .node n h r => .node n (by rw [upd_ne (ne_of h hl (by intro z; cases z))]; exact h) (TrAll.mutL hl r)
theorem TrAll.mutL {l : Addr} {xs ys : List V} (hl : H l = some (.lst xs)) : ∀ {vs : List V} {ts : List Tr}, TrAll p H vs ts → TrAll p (upd H l (.lst ys)) vs ts
  | _, _, .nil => .nil
  | _, _, .cons h r => .cons (TrAt.mutL hl h) (TrAll.mutL hl r)
end
theorem TrAll.append : ∀ {vs ws : List V} {ts us : List Tr}, TrAll p H vs ts → TrAll p H ws us → TrAll p H (vs ++ ws) (ts ++ us)
  | _, _, _, _, .nil, h => h
  | _, _, _, _, .cons h r, k => .cons h (TrAll.append r k)
theorem TrAll.length : ∀ {vs : List V} {ts : List Tr}, TrAll p H vs ts → vs.length = ts.length
  | _, _, .nil => rfl
  | _, _, .cons _ r => by rw [List.length_cons, List.length_cons, TrAll.length r]
theorem TrAll.get : ∀ {vs : List V} {ts : List Tr} {i : Nat} {v : V}, TrAll p H vs ts → vs[i]? = some v → ∃ t, ts[i]? = some t ∧ TrAt p H v t
  | _, _, 0, _, .cons h _, e => ⟨_, rfl, by cases e; exact h⟩
  | _, _, i + 1, _, .cons _ r, e => TrAll.get (i := i) r e
end
theorem oks_get : ∀ {ts : List Tr} {i : Nat} {t : Tr}, Tr.oks ts → ts[i]? = some t → t.ok
  | t :: _, 0, _, h, e => by cases e; exact h.1
  | _ :: r, i + 1, _, h, e => oks_get (i := i) h.2 e
theorem deps_get : ∀ {ts : List Tr} {i : Nat} {t : Tr}, ts[i]? = some t → t.dep ≤ Tr.deps ts
  | t :: r, 0, _, e => by cases e; exact Nat.le_max_left _ _
  | t :: r, i + 1, _, e => Nat.le_trans (deps_get (i := i) e) (Nat.le_max_right _ _)
theorem bigs_get : ∀ {ts : List Tr} {i : Nat} {t : Tr}, ts[i]? = some t → t.big + 1 ≤ Tr.bigs ts
  | t :: r, 0, _, e => by
    cases e
    show t.big + 1 ≤ t.big + 1 + Tr.bigs r
    omega
  | t :: r, i + 1, u, e => by
    have := bigs_get (i := i) (t := u) (ts := r) e
    show u.big + 1 ≤ t.big + 1 + Tr.bigs r
    omega
theorem lvs_snoc : ∀ (ts : List Tr) (i : Nat) (t : Tr), ts[i]? = some t → Tr.lvs (ts.take (i + 1)) = Tr.lvs (ts.take i) ++ t.lv
  | x :: r, 0, t, e => by
    cases e
    show x.lv ++ Tr.lvs (r.take 0) = [] ++ x.lv
    rw [List.take_zero]
    show x.lv ++ [] = [] ++ x.lv
    simp
  | x :: r, i + 1, t, e => by
    show x.lv ++ Tr.lvs (r.take (i + 1)) = (x.lv ++ Tr.lvs (r.take i)) ++ t.lv
    rw [lvs_snoc r i t e, List.append_assoc]
/-! what its writing asks -/
theorem kind_small : ∀ k ∈ leafKinds ++ nodeKinds, k.cps.size ≤ 8 ∧ (k.cps.toList.all fun c => decide (c < 16 ^ 8)) = true := by decide +kernel
theorem name_small : ∀ k ∈ names, k.cps.size ≤ 8 ∧ (k.cps.toList.all fun c => decide (c < 16 ^ 8)) = true := by decide +kernel
theorem lk_size : ∀ k ∈ leafKinds, k.cps.size = 5 := by decide +kernel
mutual
theorem ok_show : ∀ t : Tr, t.ok → t.toD.showable = true ∧ t.toD.hasDict = false ∧ t.toD.leavesShort 30 = true ∧ t.toD.bulk ≤ t.big ∧ t.toD.depth ≤ t.dep + 1
  | .leaf k n, h => by
    obtain ⟨h1, h2⟩ := h
    have a := kind_small k (List.mem_append_left _ h1)
    have b := name_small n h2
    have c := lk_size k h1
    refine ⟨rfl, rfl, ?_, ?_, by show max 0 (max 0 0) + 1 ≤ 0 + 1; decide⟩
    · show ((k.cps.toList.all fun c => decide (c < 16 ^ 8)) && ((n.cps.toList.all fun c => decide (c < 16 ^ 8)) && true)) = true
      rw [a.2, b.2]
      rfl
    · show k.cps.size + 1 + (n.cps.size + 1 + 0) ≤ 15
      omega
  | .node k ps, h => by
    obtain ⟨h1, _, h3⟩ := h
    have a := kind_small k (List.mem_append_right _ h1)
    obtain ⟨r1, r2, r3, r4, r5⟩ := oks_show ps h3
    refine ⟨?_, ?_, ?_, ?_, ?_⟩
    · show (true && PyData.showableAll (Tr.toDs ps)) = true
      rw [r1]
      rfl
    · show (false || PyData.hasDictAll (Tr.toDs ps)) = false
      rw [r2]
      rfl
    · show ((k.cps.toList.all fun c => decide (c < 16 ^ 8)) && PyData.leavesShortAll 30 (Tr.toDs ps)) = true
      rw [a.2, r3]
      rfl
    · show k.cps.size + 1 + PyData.bulkAll (Tr.toDs ps) ≤ 9 + Tr.bigs ps
      omega
    · show max 0 (PyData.depthAll (Tr.toDs ps)) + 1 ≤ Tr.deps ps + 1 + 1
      omega
theorem oks_show : ∀ ts : List Tr, Tr.oks ts → PyData.showableAll (Tr.toDs ts) = true ∧ PyData.hasDictAll (Tr.toDs ts) = false ∧ PyData.leavesShortAll 30 (Tr.toDs ts) = true ∧ PyData.bulkAll (Tr.toDs ts) ≤ Tr.bigs ts ∧ PyData.depthAll (Tr.toDs ts) ≤ Tr.deps ts + 1
  | [], _ => ⟨rfl, rfl, rfl, Nat.le_refl _, Nat.zero_le _⟩
  | t :: r, h => by
    obtain ⟨a1, a2, a3, a4, a5⟩ := ok_show t h.1
    obtain ⟨b1, b2, b3, b4, b5⟩ := oks_show r h.2
    refine ⟨?_, ?_, ?_, ?_, ?_⟩
    · show (t.toD.showable && PyData.showableAll (Tr.toDs r)) = true
      rw [a1, b1]
      rfl
    · show (t.toD.hasDict || PyData.hasDictAll (Tr.toDs r)) = false
      rw [a2, b2]
      rfl
    · show (t.toD.leavesShort 30 && PyData.leavesShortAll 30 (Tr.toDs r)) = true
      rw [a3, b3]
      rfl
    · show t.toD.bulk + 1 + PyData.bulkAll (Tr.toDs r) ≤ t.big + 1 + Tr.bigs r
      omega
    · show max t.toD.depth (PyData.depthAll (Tr.toDs r)) ≤ max t.dep (Tr.deps r) + 1
      omega
end
/-- what repr wants of data -/
def Fine (d : PyData) : Prop := d.showable = true ∧ d.hasDict = false ∧ d.depth ≤ 60 ∧ d.shown.length ≤ 100000
theorem fine_of {d : PyData} {n : Nat} (h1 : d.showable = true) (h2 : d.hasDict = false) (h3 : d.leavesShort 30 = true) (h4 : d.bulk ≤ n) (hn : n ≤ 3000) (h5 : d.depth ≤ 60) : Fine d := by
  refine ⟨h1, h2, h5, ?_⟩
  have := PyData.shown_le_bulk 30 (by decide) d h3
  omega
theorem fine_tr {t : Tr} (h : t.ok) (hb : t.big ≤ 3000) (hd : t.dep ≤ 50) : Fine t.toD := by
  obtain ⟨h1, h2, h3, h4, h5⟩ := ok_show t h
  exact fine_of h1 h2 h3 h4 hb (by omega)
theorem fine_trs {ts : List Tr} (h : Tr.oks ts) (hb : Tr.bigs ts ≤ 3000) (hd : Tr.deps ts ≤ 50) : Fine (.tuple (Tr.toDs ts)) := by
  obtain ⟨h1, h2, h3, h4, h5⟩ := oks_show ts h
  refine fine_of (n := Tr.bigs ts) h1 h2 h3 h4 hb ?_
  show PyData.depthAll (Tr.toDs ts) + 1 ≤ 60
  omega
theorem rc_repr {K : PySem.W.Frag} {H : Hp} {a : Addr} {d : PyData} (h : Dp K H (.ref a) d) (f : Fine d) (up : ∀ H1, Ex H H1 → Dp K H1 (.ref a) d) : RC (rReprD K) [.ref a] H (.str d.shown) := fun H1 e _ q =>
  ⟨a, d, rfl, up H1 e, f.1, f.2.1, f.2.2.1, sz_of f.2.2.2, q H1 (Ex.refl _)⟩
mutual
theorem lv_ok : ∀ t : Tr, t.ok → Tr.oks t.lv ∧ Tr.bigs t.lv ≤ t.big + 1 ∧ Tr.deps t.lv = 0
  | .leaf k n, h => ⟨⟨h, trivial⟩, Nat.le_refl _, rfl⟩
  | .node k ps, h => by
    obtain ⟨a, b, c⟩ := lvs_ok ps h.2.2
    exact ⟨a, by show Tr.bigs (Tr.lvs ps) ≤ 9 + Tr.bigs ps + 1; omega, c⟩
theorem lvs_ok : ∀ ts : List Tr, Tr.oks ts → Tr.oks (Tr.lvs ts) ∧ Tr.bigs (Tr.lvs ts) ≤ Tr.bigs ts ∧ Tr.deps (Tr.lvs ts) = 0
  | [], _ => ⟨trivial, Nat.le_refl _, rfl⟩
  | t :: r, h => by
    obtain ⟨a, b, c⟩ := lv_ok t h.1
    obtain ⟨a', b', c'⟩ := lvs_ok r h.2
    refine ⟨oks_app a a', ?_, ?_⟩
    · show Tr.bigs (t.lv ++ Tr.lvs r) ≤ t.big + 1 + Tr.bigs r
      rw [bigs_app]
      omega
    · show Tr.deps (t.lv ++ Tr.lvs r) = 0
      rw [deps_app, c, c']
      rfl
theorem lvs_take : ∀ (ts : List Tr) (i : Nat), Tr.oks ts → Tr.bigs (Tr.lvs (ts.take i)) ≤ Tr.bigs ts
  | [], i, _ => by rw [List.take_nil]; exact Nat.le_refl _
  | t :: r, 0, _ => Nat.zero_le _
  | t :: r, i + 1, h => by
    have a := (lv_ok t h.1).2.1
    have b := lvs_take r i h.2
    show Tr.bigs (t.lv ++ Tr.lvs (r.take i)) ≤ t.big + 1 + Tr.bigs r
    rw [bigs_app]
    omega
theorem oks_app : ∀ {ts us : List Tr}, Tr.oks ts → Tr.oks us → Tr.oks (ts ++ us)
  | [], _, _, h => h
  | t :: r, _, h, k => ⟨h.1, oks_app h.2 k⟩
theorem bigs_app : ∀ (ts us : List Tr), Tr.bigs (ts ++ us) = Tr.bigs ts + Tr.bigs us
  | [], us => by show Tr.bigs us = 0 + Tr.bigs us; omega
  | t :: r, us => by
    show t.big + 1 + Tr.bigs (r ++ us) = t.big + 1 + Tr.bigs r + Tr.bigs us
    rw [bigs_app r us]
    omega
theorem deps_app : ∀ (ts us : List Tr), Tr.deps (ts ++ us) = max (Tr.deps ts) (Tr.deps us)
  | [], us => by show Tr.deps us = max 0 (Tr.deps us); omega
  | t :: r, us => by
    show max t.dep (Tr.deps (r ++ us)) = max (max t.dep (Tr.deps r)) (Tr.deps us)
    rw [deps_app r us]
    omega
end
section
variable {X : Cx}
/-- xs.extend(a tuple) -/
def rExtT (K : PySem.W.Frag) : V → List V → Hp → VK → Prop := fun x vs H Q => ∃ l b xs zs, x = .ref l ∧ vs = [.ref b] ∧ H l = some (.lst xs) ∧ H b = some (.tup zs) ∧ xs.length + zs.length ≤ sizeLine ∧ Q .non (upd H l (.lst (xs ++ zs)))
theorem mt_extT : MtM X "list.extend" (rExtT X.K) := by
  intro pins s σ H x vs v us Q I rx rv h
  obtain ⟨l, b, xs, zs, rfl, rfl, hH, hB, hz, q⟩ := h
  cases rx
  obtain ⟨u, rfl, ru⟩ := rv.one
  cases ru
  obtain ⟨z, its, n, r, hl, e⟩ := I.lstM hH
  obtain ⟨its2, r2, it2, z2⟩ := I.tuple (st_of hB)
  obtain ⟨⟨cls, dd, data, sl⟩, ho, hc, n2, hd⟩ := it2
  cases (show cls = Value.type "tuple" from hc)
  cases (show data = Data.seq its2.toArray n2 from hd)
  have l2 := r2.length
  have hsz : its.toArray.size + its2.toArray.size ≤ sizeLine := by rw [List.size_toArray, List.size_toArray]; omega
  have hlong : ¬ (!its.toArray.isEmpty && Builtin.List.listTooLong (its.toArray.size + its2.toArray.size)) = true := by
    rw [notLongL hsz, Bool.and_false]
    decide
  refine call_meets F.slot_list_extend ⟨_, e, rfl⟩ F.entry_list_extend (F.args_list_extend_2 _ _) (PySem.es_ext l its.toArray n b its2.toArray n2 dd sl hlong (by rw [List.size_toArray]; omega) (by omega)) ⟨e, ho, ?_⟩
  refine ⟨.non, _, I.lset (its' := its ++ its2) hH e (by simp) (r.append r2) ?_, rfl, q⟩
  rw [List.length_append]
  exact hz
end
end Es
namespace Es
open PySem PySem.Spec PyProof.Rows L2 Evl
/-- a list of leaves to draw from -/
def Menu (p : Addr) (H : Hp) (m : Addr) : Prop := m ≠ p ∧ ∃ ms : List V, H m = some (.lst ms) ∧ 1 ≤ ms.length ∧ ms.length ≤ 20 ∧ ∀ v ∈ ms, ∃ t, TrAt p H v t ∧ t.ok ∧ t.dep = 0
theorem Menu.xp {p m : Addr} {H H' : Hp} (h : Menu p H m) (e : Xp p H H') : Menu p H' m := by
  obtain ⟨n, ms, hm, h1, h2, h3⟩ := h
  refine ⟨n, ms, e _ _ n hm, h1, h2, fun v hv => ?_⟩
  obtain ⟨t, a, b, c⟩ := h3 v hv
  exact ⟨t, a.xp e, b, c⟩
theorem dep0_big {t : Tr} (h : t.dep = 0) : t.big = 15 := by
  cases t with
  | leaf k n => rfl
  | node k ps =>
    have : Tr.deps ps + 1 = 0 := h
    omega
def cost : Nat → Int
  | 0 => 1
  | n + 1 => 3 + 3 * cost n
def bg : Nat → Nat
  | 0 => 15
  | n + 1 => 12 + 3 * bg n
theorem cost_pos : ∀ n, 1 ≤ cost n
  | 0 => by decide
  | n + 1 => by
    have := cost_pos n
    show 1 ≤ 3 + 3 * cost n
    omega
theorem bg_ge : ∀ n, 15 ≤ bg n
  | 0 => by decide
  | n + 1 => by
    have := bg_ge n
    show 15 ≤ 12 + 3 * bg n
    omega
def spExpr (d : Nat) : Sp := fun vs H Q _ => ∃ (p m : Addr) (n : Nat) (c : Int), vs = [.ref p, .ref m, .int (n : Int)] ∧ n < d ∧ n ≤ 8 ∧ 0 ≤ c ∧ c + cost n ≤ 90000 ∧ Pot H p c ∧ Menu p H m ∧
  ∀ v t H', Xp p H H' → TrAt p H' v t → t.ok → t.dep ≤ n → t.big ≤ bg n → Pot H' p (c + cost n) → Q v H'
theorem kind2 (r : Int) (h0 : 2 ≤ r) (h1 : r < 4) : ∃ k ∈ nodeKinds, atI [V.str "repeat", V.str "optional"] (r - 2) = some (V.str k) := by
  have : r = 2 ∨ r = 3 := by omega
  rcases this with h | h <;> subst h
  · exact ⟨"repeat", by decide, rfl⟩
  · exact ⟨"optional", by decide, rfl⟩
theorem kind3 (r : Int) (h0 : 4 ≤ r) (h1 : r < 7) : ∃ k ∈ nodeKinds, atI [V.str "sequence", V.str "choice", V.str "sequence"] (r - 4) = some (V.str k) := by
  have : r = 4 ∨ r = 5 ∨ r = 6 := by omega
  rcases this with h | h | h <;> subst h
  · exact ⟨"sequence", by decide, rfl⟩
  · exact ⟨"choice", by decide, rfl⟩
  · exact ⟨"sequence", by decide, rfl⟩
/-- parts made so far: each of depth at most n -/
def Parts (p : Addr) (H : Hp) (n : Nat) (vs : List V) (ts : List Tr) : Prop := TrAll p H vs ts ∧ Tr.oks ts ∧ Tr.deps ts ≤ n ∧ Tr.bigs ts ≤ ts.length * (bg n + 1)
end Es
namespace PySem.SeqAt
open PySem Builtin
/-- dict.__eq__ of a text, str.__eq__ of a dict -/
theorem es_dict_str (l : Addr) (es : Array DictEntry) (n : Nat) (dd : Option Addr) (sl : Array (Option Value)) (b : Str) (u : Tok) :
    Meets (Builtin.«dict.__eq__» ⟨[.ref l, .str b u], []⟩) (fun _ R s => s.heap.get? l = some { cls := .type "dict", dict := dd, data := .dict es n, slots := sl } ∧ R (.ok (.ret .notImplemented)) s) :=
  .of_wp fun prog w A R s h => by
    obtain ⟨hp, g, d, tk, os⟩ := s
    obtain ⟨hl, h⟩ := h
    have f1 := F.sub_str_dict
    wp_walk using wpAny_loadPart' hl, wpAny_load hl
    exact ⟨_, rfl, h⟩
theorem es_str_dict (l : Addr) (es : Array DictEntry) (n : Nat) (dd : Option Addr) (sl : Array (Option Value)) (b : Str) (u : Tok) :
    Meets (Builtin.«str.__eq__» ⟨[.str b u, .ref l], []⟩) (fun _ R s => s.heap.get? l = some { cls := .type "dict", dict := dd, data := .dict es n, slots := sl } ∧ R (.ok (.ret .notImplemented)) s) :=
  .of_wp fun prog w A R s h => by
    obtain ⟨hp, g, d, tk, os⟩ := s
    obtain ⟨hl, h⟩ := h
    have f1 := F.sub_dict_str
    wp_walk using wpAny_loadPart' hl, wpAny_load hl
    exact ⟨_, rfl, h⟩
section
variable {A : Around} {s : Shared}
def IsDic (h : Heap) (l : Addr) : Prop := ∃ dd es n sl, h.get? l = some { cls := .type "dict", dict := dd, data := .dict es n, slots := sl }
theorem es_rc_dict_str {l : Addr} (b : Str) (u : Tok) (hl : IsDic s.heap l) (hu : A.units < cLine) : RcAt A s (.ref l) (.str b u) false := fun prog w E Q h => by
  obtain ⟨dd, es, n, sl, ho⟩ := hl
  exact rc_eq_decline_or (k := false) ⟨_, ho, rfl⟩ (typeIs_str s b u) (by decide) F.sub_str_dict F.slot_dict_eq F.slot_str_eq_refl
    (fun _ hq => call_meets F.slot_dict_eq ⟨_, ho, rfl⟩ F.entry_dict_eq (F.args_dict_eq_2 _ _) (es_dict_str l es n dd sl b u) ⟨ho, hq⟩)
    (fun _ hq => call_meets F.slot_str_eq_refl (typeIs_str s b u) F.entry_str_eq (F.args_str_eq_2 _ _) (es_str_dict l es n dd sl b u) ⟨ho, hq⟩)
    (fun _ hq => wpAny_of_eq (rfl : isSame (.ref l) (.str b u) = pure false) hq) (.inr hu) h
theorem es_rc_str_dict {l : Addr} (b : Str) (u : Tok) (hl : IsDic s.heap l) (hu : A.units < cLine) : RcAt A s (.str b u) (.ref l) false := fun prog w E Q h => by
  obtain ⟨dd, es, n, sl, ho⟩ := hl
  exact rc_eq_decline_or (k := false) (typeIs_str s b u) ⟨_, ho, rfl⟩ (by decide) F.sub_dict_str F.slot_str_eq F.slot_dict_eq_refl
    (fun _ hq => call_meets F.slot_str_eq (typeIs_str s b u) F.entry_str_eq (F.args_str_eq_2 _ _) (es_str_dict l es n dd sl b u) ⟨ho, hq⟩)
    (fun _ hq => call_meets F.slot_dict_eq_refl ⟨_, ho, rfl⟩ F.entry_dict_eq (F.args_dict_eq_2 _ _) (es_dict_str l es n dd sl b u) ⟨ho, hq⟩)
    (fun _ hq => wpAny_of_eq (rfl : isSame (.str b u) (.ref l) = pure false) hq) (.inr hu) h
theorem es_eq_dict_str {l : Addr} (b : Str) (u : Tok) (hl : IsDic s.heap l) (hu : A.units < cLine) : EqAt A s (.ref l) (.str b u) false := fun prog w E Q h => by
  unfold eqBool
  refine wpAny_holding (wpAny_ite_split (fun hab => absurd (eq_of_beq hab) nofun) (fun _ => ?_))
  exact wpAny_bind (es_rc_dict_str b u hl hu prog w E _ (wpAny_truthy_bool h))
theorem es_eq_str_dict {l : Addr} (b : Str) (u : Tok) (hl : IsDic s.heap l) (hu : A.units < cLine) : EqAt A s (.str b u) (.ref l) false := fun prog w E Q h => by
  unfold eqBool
  refine wpAny_holding (wpAny_ite_split (fun hab => absurd (eq_of_beq hab) nofun) (fun _ => ?_))
  exact wpAny_bind (es_rc_str_dict b u hl hu prog w E _ (wpAny_truthy_bool h))
end
end PySem.SeqAt
namespace Es
open PySem PySem.Spec PyProof.Rows L2 Evl
/-- where data does not stand: at a pot, nor at some lists -/
structure Sx where
  p : Addr
  m : Addr → Prop
def out : Option Sx → Addr → Prop
  | none, _ => False
  | some S, a => a = S.p ∨ S.m a
mutual
/-- data that stands in the heap, not at p; dicts of at most one pair, its key a text -/
inductive Dd (p : Option Sx) (H : Hp) : V → PyData → Prop
  | non : Dd p H .non .none
  | bl (b : Bool) : Dd p H (.bl b) (.bool b)
  | int (i : Int) : Dd p H (.int i) (.int i)
  | str (x : Str) : Dd p H (.str x) (.str x)
  | lst {a : Addr} {xs : List V} {ds : List PyData} : ¬ out p a → a ≠ sysModules → H a = some (.lst xs) → DdAll p H xs ds → Dd p H (.ref a) (.list ds)
  | tup {a : Addr} {xs : List V} {ds : List PyData} : ¬ out p a → H a = some (.tup xs) → DdAll p H xs ds → Dd p H (.ref a) (.tuple ds)
  | dk0 {a : Addr} : ¬ out p a → H a = some (.dK []) → Dd p H (.ref a) (.dict [])
  | dk1 {a : Addr} {k : Str} {v : V} {d : PyData} : ¬ out p a → H a = some (.dK [(Sum.inr k, v)]) → Dd p H v d → Dd p H (.ref a) (.dict [(.str k, d)])
inductive DdAll (p : Option Sx) (H : Hp) : List V → List PyData → Prop
  | nil : DdAll p H [] []
  | cons {v : V} {vs : List V} {d : PyData} {ds : List PyData} : Dd p H v d → DdAll p H vs ds → DdAll p H (v :: vs) (d :: ds)
end
theorem sn0 {a : Addr} : ¬ out none a := fun h => h
theorem no_p {S : Sx} {a : Addr} (h : ¬ out (some S) a) : a ≠ S.p := fun e => h (.inl e)
section
variable {p : Option Sx} {H H' : Hp}
mutual
theorem Dd.xp {q : Sx} (e : Xp q.p H H') : ∀ {v : V} {d : PyData}, Dd (some q) H v d → Dd (some q) H' v d
  | _, _, .non => .non
  | _, _, .bl b => .bl b
  | _, _, .int i => .int i
  | _, _, .str x => .str x
  | _, _, .lst n m h r => .lst n m (e _ _ (no_p n) h) (DdAll.xp e r)
  | _, _, .tup n h r => .tup n (e _ _ (no_p n) h) (DdAll.xp e r)
  | _, _, .dk0 n h => .dk0 n (e _ _ (no_p n) h)
  | _, _, .dk1 n h r => .dk1 n (e _ _ (no_p n) h) (Dd.xp e r)
theorem DdAll.xp {q : Sx} (e : Xp q.p H H') : ∀ {vs : List V} {ds : List PyData}, DdAll (some q) H vs ds → DdAll (some q) H' vs ds
  | _, _, .nil => .nil
  | _, _, .cons h r => .cons (Dd.xp e h) (DdAll.xp e r)
end
mutual
theorem Dd.ups (e : Ex H H') : ∀ {v : V} {d : PyData}, Dd p H v d → Dd p H' v d
  | _, _, .non => .non
  | _, _, .bl b => .bl b
  | _, _, .int i => .int i
  | _, _, .str x => .str x
  | _, _, .lst n m h r => .lst n m (e _ _ h) (DdAll.ups e r)
  | _, _, .tup n h r => .tup n (e _ _ h) (DdAll.ups e r)
  | _, _, .dk0 n h => .dk0 n (e _ _ h)
  | _, _, .dk1 n h r => .dk1 n (e _ _ h) (Dd.ups e r)
theorem DdAll.ups (e : Ex H H') : ∀ {vs : List V} {ds : List PyData}, DdAll p H vs ds → DdAll p H' vs ds
  | _, _, .nil => .nil
  | _, _, .cons h r => .cons (Dd.ups e h) (DdAll.ups e r)
end
theorem Dd.up {v : V} {d : PyData} (h : Dd p H v d) (e : Ex H H') : Dd p H' v d := h.ups e
theorem DdAll.up {v : List V} {d : List PyData} (h : DdAll p H v d) (e : Ex H H') : DdAll p H' v d := h.ups e
theorem DdAll.length : ∀ {vs : List V} {ds : List PyData}, DdAll p H vs ds → vs.length = ds.length
  | _, _, .nil => rfl
  | _, _, .cons _ r => by rw [List.length_cons, List.length_cons, DdAll.length r]
theorem DdAll.append : ∀ {vs ws : List V} {ds es : List PyData}, DdAll p H vs ds → DdAll p H ws es → DdAll p H (vs ++ ws) (ds ++ es)
  | _, _, _, _, .nil, h => h
  | _, _, _, _, .cons h r, k => .cons h (DdAll.append r k)
theorem DdAll.drop : ∀ {vs : List V} {ds : List PyData} (i : Nat), DdAll p H vs ds → DdAll p H (vs.drop i) (ds.drop i)
  | _, _, 0, h => h
  | _, _, _ + 1, .nil => .nil
  | _, _, i + 1, .cons _ r => DdAll.drop i r
theorem DdAll.take : ∀ {vs : List V} {ds : List PyData} (i : Nat), DdAll p H vs ds → DdAll p H (vs.take i) (ds.take i)
  | _, _, 0, h => .nil
  | _, _, _ + 1, .nil => .nil
  | _, _, i + 1, .cons h r => .cons h (DdAll.take i r)
theorem DdAll.get : ∀ {vs : List V} {ds : List PyData} {i : Nat} {v : V}, DdAll p H vs ds → vs[i]? = some v → ∃ d, ds[i]? = some d ∧ Dd p H v d
  | _, _, 0, _, .cons h _, e => ⟨_, rfl, by cases e; exact h⟩
  | _, _, i + 1, _, .cons _ r, e => DdAll.get (i := i) r e
theorem Dd.thing {v : V} {d : PyData} (h : Dd p H v d) (hs : ∀ x, d = .str x → x.length ≤ 1000) : Thing H v := by
  cases h with
  | non => exact .non
  | bl b => exact .bl b
  | int i => exact .int i
  | str x => exact .str x (hs x rfl)
  | lst n m h r => exact .lst h
  | tup n h r => exact .tup h
  | dk0 n h => exact .dK h
  | dk1 n h r => exact .dK h
end
section
variable {X : Cx} {pins : List (Addr × Obj)} {σ : L2.St} {H : Hp} {s : Shared} {p : Option Sx}
theorem dic_of (I : Inv X pins σ H s) {a : Addr} {kvs : List (Key × V)} (h : H a = some (.dK kvs)) : SeqAt.IsDic s.heap a ∧ a ≠ sysModules := by
  obtain ⟨_, hs, vs, rv, hd⟩ := (show ObjOk X.prog X.w H s.heap a (.dK kvs) from I.hok a _ h)
  obtain ⟨⟨cls, dd, data, sl⟩, es, ep, ho, ⟨h1, h2, h3⟩, h4, _⟩ := hd
  cases (show cls = _ from h1)
  cases (show data = _ from h4)
  exact ⟨⟨dd, es, ep, sl, ho⟩, beq_eq_false_iff_ne.mp hs⟩
end
end Es
namespace Es
open PySem PySem.Spec PyProof.Rows L2 Evl
section
variable {X : Cx} {pins : List (Addr × Obj)} {σ : L2.St} {H : Hp} {s : Shared} {p : Option Sx}
mutual
theorem Dd.reads (I : Inv X pins σ H s) : ∀ {v : V} {d : PyData} {u : Value}, Dd p H v d → RelV v u → ∃ as, Reads s.heap u d as ∧ sysModules ∉ as
  | _, _, _, .non, r => by
    cases r
    exact ⟨_, Reads.none, List.not_mem_nil⟩
  | _, _, _, .bl b, r => by
    cases r
    exact ⟨_, Reads.bool b, List.not_mem_nil⟩
  | _, _, _, .int i, r => by
    obtain ⟨t, rfl⟩ := r
    exact ⟨_, Reads.int i t, List.not_mem_nil⟩
  | _, _, _, .str x, r => by
    obtain ⟨t, rfl⟩ := r
    exact ⟨_, Reads.str x t, List.not_mem_nil⟩
  | _, _, _, .lst n m h q, r => by
    cases r
    obtain ⟨its, rv, ⟨o, k, ho, hc, _, hd⟩, _⟩ := I.list (sq_of h)
    obtain ⟨as, hr, hn⟩ := DdAll.reads I q rv
    refine ⟨_, Reads.list ho hc hd hr, fun z => ?_⟩
    rcases List.mem_cons.mp z with e | e
    · exact m e.symm
    · exact hn e
  | _, _, _, .tup n h q, r => by
    cases r
    obtain ⟨its, rv, ⟨o, ho, hc, k, hd⟩, _⟩ := I.tuple (st_of h)
    obtain ⟨as, hr, hn⟩ := DdAll.reads I q rv
    exact ⟨_, Reads.tuple ho hc hd hr, hn⟩
  | _, _, _, @Dd.dk0 _ _ a n h, r => by
    cases r
    have hm := (dic_of I h).2
    obtain ⟨_, _, vs, rv, hd⟩ := (show ObjOk X.prog X.w H s.heap a (.dK []) from I.hok a _ h)
    obtain ⟨o, es, ep, ho, hx, hdt, hk, hp, _⟩ := hd
    cases rv
    have he : es.toList = [] := by
      generalize es.toList = l at hp
      cases hp
      rfl
    refine ⟨_, Reads.dict (kvs := []) ho hx.1 hdt (as := []) (bs := []) (by rw [he]; exact .nil) (by rw [he]; exact .nil), fun z => ?_⟩
    rcases List.mem_cons.mp z with e | e
    · exact hm e.symm
    · cases e
  | _, _, _, @Dd.dk1 _ _ a k v d n h q, r => by
    cases r
    have hm := (dic_of I h).2
    obtain ⟨_, _, vs, rv, hd⟩ := (show ObjOk X.prog X.w H s.heap a (.dK [(Sum.inr k, v)]) from I.hok a _ h)
    obtain ⟨o, es, ep, ho, hx, hdt, hk, hp, _⟩ := hd
    obtain ⟨w, rfl, rw⟩ : ∃ w, vs = [(Sum.inr k, w)] ∧ RelV v w := by
      unfold KV at rv
      match vs, rv with
      | [(y1, y2)], .cons q1 .nil =>
        have e1 : Sum.inr k = y1 := q1.1
        subst e1
        exact ⟨y2, rfl, q1.2⟩
    obtain ⟨as, ar, an⟩ := Dd.reads I q rw
    obtain ⟨e, t, he, hkey, hval⟩ : ∃ (e : DictEntry) (t : Tok), es.toList = [e] ∧ e.key = .str k t ∧ e.val = w := by
      generalize es.toList = l at hp
      cases hp with
      | cons z1 z2 z3 =>
        cases z3
        rename_i e
        rcases keyIs_shape (k := Sum.inr k) (v := e.key) z1 with ⟨i, t, e1, _⟩ | ⟨x, t, e1, e2⟩
        · cases e1
        · cases e1
          exact ⟨e, t, rfl, e2, z2⟩
    refine ⟨_, Reads.dict (kvs := [(.str k, d)]) ho hx.1 hdt (as := [] ++ []) (bs := as ++ []) (by rw [he, List.map_singleton, hkey]; exact .cons (.str k t) .nil) (by rw [he, List.map_singleton, hval]; exact .cons ar .nil), fun z => ?_⟩
    rcases List.mem_cons.mp z with y | y
    · exact hm y.symm
    · rw [List.append_nil] at y
      exact an (by simpa using y)
theorem DdAll.reads (I : Inv X pins σ H s) : ∀ {vs : List V} {ds : List PyData} {us : List Value}, DdAll p H vs ds → Vals vs us → ∃ as, ReadsAll s.heap us ds as ∧ sysModules ∉ as
  | _, _, _, .nil, r => by
    cases r
    exact ⟨_, ReadsAll.nil, List.not_mem_nil⟩
  | _, _, _, .cons h q, r => by
    cases r with
    | cons r1 r2 =>
      obtain ⟨as, a1, a2⟩ := Dd.reads I h r1
      obtain ⟨bs, b1, b2⟩ := DdAll.reads I q r2
      exact ⟨_, ReadsAll.cons a1 b1, fun z => (List.mem_append.mp z).elim a2 b2⟩
end
end
/-- what repr asks of data, dicts among it -/
def Fit (n : Nat) (d : PyData) : Prop := d.showable = true ∧ d.leavesShort 30 = true ∧ d.bulk ≤ 8 * n ∧ d.depth ≤ n
theorem Fit.more {n m : Nat} {d : PyData} (h : Fit n d) (e : n ≤ m) : Fit m d := ⟨h.1, h.2.1, (by have := h.2.2.1; omega), Nat.le_trans h.2.2.2 e⟩
theorem Fit.len {n : Nat} {d : PyData} (h : Fit n d) : d.shown.length ≤ 256 * n + 30 := by
  have := PyData.shown_le_bulk 30 (by decide) d h.2.1
  have := h.2.2.1
  omega
def Fits (n : Nat) (ds : List PyData) : Prop := PyData.showableAll ds = true ∧ PyData.leavesShortAll 30 ds = true ∧ PyData.bulkAll ds ≤ 8 * n ∧ PyData.depthAll ds ≤ n
theorem Fits.nil : Fits 0 [] := ⟨rfl, rfl, Nat.le_refl _, Nat.le_refl _⟩
theorem Fits.cons {n m : Nat} {d : PyData} {ds : List PyData} (h : Fit n d) (k : Fits m ds) : Fits (n + 1 + m) (d :: ds) := by
  obtain ⟨a1, a2, a3, a4⟩ := h
  obtain ⟨b1, b2, b3, b4⟩ := k
  refine ⟨?_, ?_, ?_, ?_⟩
  · show (d.showable && PyData.showableAll ds) = true
    rw [a1, b1]
    rfl
  · show (d.leavesShort 30 && PyData.leavesShortAll 30 ds) = true
    rw [a2, b2]
    rfl
  · show d.bulk + 1 + PyData.bulkAll ds ≤ 8 * (n + 1 + m)
    omega
  · show max d.depth (PyData.depthAll ds) ≤ n + 1 + m
    omega
theorem Fits.more {n m : Nat} {d : List PyData} (h : Fits n d) (e : n ≤ m) : Fits m d := ⟨h.1, h.2.1, (by have := h.2.2.1; omega), Nat.le_trans h.2.2.2 e⟩
theorem Fits.tup {n : Nat} {ds : List PyData} (h : Fits n ds) : Fit (n + 1) (.tuple ds) := by
  obtain ⟨a1, a2, a3, a4⟩ := h
  refine ⟨a1, a2, ?_, ?_⟩
  · show PyData.bulkAll ds ≤ 8 * (n + 1)
    omega
  · show PyData.depthAll ds + 1 ≤ n + 1
    omega
theorem Fits.lst {n : Nat} {ds : List PyData} (h : Fits n ds) : Fit (n + 1) (.list ds) := by
  obtain ⟨a1, a2, a3, a4⟩ := h
  refine ⟨a1, a2, ?_, ?_⟩
  · show PyData.bulkAll ds ≤ 8 * (n + 1)
    omega
  · show PyData.depthAll ds + 1 ≤ n + 1
    omega
theorem fit_non : Fit 0 .none := ⟨rfl, rfl, Nat.le_refl _, Nat.le_refl _⟩
theorem fit_bl (b : Bool) : Fit 0 (.bool b) := ⟨rfl, rfl, Nat.le_refl _, Nat.le_refl _⟩
theorem fit_str {x : Str} {n : Nat} (h : (x.cps.toList.all fun c => decide (c < 16 ^ 8)) = true) (hn : x.length ≤ 8 * n) : Fit n (.str x) := ⟨rfl, h, hn, Nat.zero_le _⟩
theorem fit_int {i : Int} (h : i.natAbs.log2 < 1920) (hl : (PyData.shown (.int i)).length ≤ 30) : Fit 0 (.int i) := ⟨decide_eq_true h, decide_eq_true hl, Nat.le_refl _, Nat.le_refl _⟩
theorem fit_dk0 : Fit 1 (.dict []) := ⟨rfl, rfl, Nat.zero_le _, Nat.le_refl _⟩
theorem fit_dk1 {k : Str} {d : PyData} {n : Nat} (hk : (k.cps.toList.all fun c => decide (c < 16 ^ 8)) = true) (hkl : k.length ≤ 10) (h : Fit n d) : Fit (n + 13) (.dict [(.str k, d)]) := by
  obtain ⟨a1, a2, a3, a4⟩ := h
  refine ⟨?_, ?_, ?_, ?_⟩
  · show (true && d.showable && true) = true
    rw [a1]
    rfl
  · show ((k.cps.toList.all fun c => decide (c < 16 ^ 8)) && d.leavesShort 30 && true) = true
    rw [hk, a2]
    rfl
  · show k.cps.size + d.bulk + 2 + 0 ≤ 8 * (n + 13)
    have : k.cps.size ≤ 10 := hkl
    omega
  · show max (max 0 d.depth) 0 + 1 ≤ n + 13
    omega
section
variable {X : Cx}
def rReprX : List V → Hp → VK → Prop := fun xs H Q => ∃ (v : V) (d : PyData) (p : Option Sx), xs = [v] ∧ Dd p H v d ∧ Fit 190 d ∧ Q (.str d.shown) H
theorem cr_reprX (hg : X.A.guards = some []) (hu : X.A.units + 200 < cLine) : CallR X (.builtin "repr") rReprX := by
  intro pins s σ H xs us Q I r h
  obtain ⟨v, d, p, rfl, hd, hf, q⟩ := h
  obtain ⟨u, rfl, ru⟩ := vals1 r
  obtain ⟨as, rd, hn⟩ := hd.reads I ru
  have hz : d.shown.length ≤ sizeLine := sz_of (Nat.le_trans hf.len (by decide))
  have big : ∀ a, v = .ref a → wpAny (model X.prog X.w) X.A (call (.builtin "repr") [u]) (EP X pins σ Q) X.xe s := by
    rintro a rfl
    obtain rfl : u = Value.ref a := ru
    refine repr_of_reads' rd hf.1 (fun _ => hn) hg (by have := hf.2.2.2; omega) (fun _ _ e => e) (fun h' u tk hk => ?_) hz
    exact ⟨.str d.shown, H, I.kept (t' := tk) hk, ⟨_, rfl⟩, q⟩
  cases hd with
  | non =>
    cases ru
    exact PySem.P.repr_of_none ⟨.str _, H, I.tok _, ⟨_, rfl⟩, q⟩
  | bl b =>
    obtain rfl : u = Value.bool b := ru
    exact PySem.P.repr_of_bool ⟨.str _, H, I.tok _, ⟨_, rfl⟩, q⟩
  | int i =>
    obtain ⟨t, rfl⟩ := ru
    exact PySem.P.repr_of_int (of_decide_eq_true hf.1) ⟨.str _, H, I.tok _, ⟨_, rfl⟩, q⟩
  | str x =>
    obtain ⟨t, rfl⟩ := ru
    exact PySem.P.repr_of_str ⟨.str _, H, I.tok _, ⟨_, rfl⟩, q⟩ hz
  | lst n m h r => exact big _ rfl
  | tup n h r => exact big _ rfl
  | dk0 n h => exact big _ rfl
  | dk1 n h r => exact big _ rfl
/-- is the datum this text? -/
def isT (z : Str) : PyData → Bool
  | .str y => y == z
  | _ => false
theorem eqAt_dS {pins : List (Addr × Obj)} {σ : L2.St} {H : Hp} {s : Shared} {p : Option Sx} {v : V} {d : PyData} {u : Value} {z : Str} {t : Tok} {A : Around} (I : Inv X pins σ H s) (h : Dd p H v d) (r : RelV v u) (hu : A.units < cLine) :
    SeqAt.EqAt A s u (.str z t) (isT z d) := by
  cases h with
  | non =>
    cases r
    exact SeqAt.EqAt.none_str _ _
  | bl b =>
    obtain rfl : u = Value.bool b := r
    exact SeqAt.EqAt.bool_str _ _ _
  | int i =>
    obtain ⟨t', rfl⟩ := r
    exact SeqAt.EqAt.int_str _ _ _ _
  | str x =>
    obtain ⟨t', rfl⟩ := r
    exact SeqAt.EqAt.str_str _ _ _ _
  | lst n m h q =>
    cases r
    obtain ⟨its, rv, pl, _⟩ := I.list (sq_of h)
    exact SeqAt.EqAt.list_str _ _ pl.isList hu
  | tup n h q =>
    cases r
    obtain ⟨its, rv, ⟨o, ho, hc, k, hd⟩, _⟩ := I.tuple (st_of h)
    exact SeqAt.EqAt.tuple_str _ _ ⟨o, ho, hc, k, hd⟩ hu
  | dk0 n h =>
    cases r
    exact SeqAt.es_eq_dict_str _ _ (dic_of I h).1 hu
  | dk1 n h q =>
    cases r
    exact SeqAt.es_eq_dict_str _ _ (dic_of I h).1 hu
theorem eqAt_Sd {pins : List (Addr × Obj)} {σ : L2.St} {H : Hp} {s : Shared} {p : Option Sx} {v : V} {d : PyData} {u : Value} {z : Str} {t : Tok} {A : Around} (I : Inv X pins σ H s) (h : Dd p H v d) (r : RelV v u) (hu : A.units < cLine) :
    SeqAt.EqAt A s (.str z t) u (isT z d) := by
  cases h with
  | non =>
    cases r
    exact SeqAt.EqAt.str_none _ _
  | bl b =>
    obtain rfl : u = Value.bool b := r
    exact SeqAt.EqAt.str_bool _ _ _
  | int i =>
    obtain ⟨t', rfl⟩ := r
    exact SeqAt.EqAt.str_int _ _ _ _
  | str x =>
    obtain ⟨t', rfl⟩ := r
    have e : isT z (.str x) = (z == x) := by
      show (x == z) = (z == x)
      by_cases h : x = z
      · rw [h]
      · rw [beq_eq_false_iff_ne.mpr h, beq_eq_false_iff_ne.mpr (Ne.symm h)]
    rw [e]
    exact SeqAt.EqAt.str_str _ _ _ _
  | lst n m h q =>
    cases r
    obtain ⟨its, rv, pl, _⟩ := I.list (sq_of h)
    exact SeqAt.EqAt.str_list _ _ pl.isList hu
  | tup n h q =>
    cases r
    obtain ⟨its, rv, ⟨o, ho, hc, k, hd⟩, _⟩ := I.tuple (st_of h)
    exact SeqAt.EqAt.str_tuple _ _ ⟨o, ho, hc, k, hd⟩ hu
  | dk0 n h =>
    cases r
    exact SeqAt.es_eq_str_dict _ _ (dic_of I h).1 hu
  | dk1 n h q =>
    cases r
    exact SeqAt.es_eq_str_dict _ _ (dic_of I h).1 hu
end
end Es
namespace PySem
/-- enumerate of one thing -/
theorem es_enum_new {v : Value} {o : Obj} {H : Heap → Prop} (B : Begins v o H) :
    Meets (Builtin.«enumerate.__new__» ⟨[.type "enumerate", v], []⟩) (fun _ R s => H s.heap ∧
      R (.ok (.ret (.ref (s.heap.push o).objs.size))) { s with heap := (s.heap.push o).push { cls := .type "enumerate", data := .fields #[.none, .bool false, .ref s.heap.objs.size, rawInt 0, .none, .none] } }) :=
  .of_wp fun prog w A R s h => by
    obtain ⟨hp, g, d, tk, os⟩ := s
    obtain ⟨h1, h⟩ := h
    have hs := sub_enumerate
    have b1 : ∀ {A' : Around} {E : Value → Shared → Prop} {Q : Value → Shared → Prop}, Q (.ref hp.objs.size) ⟨hp.push o, g, d, tk, os⟩ → wpAny (model prog w) A' (pyIter v) Q E ⟨hp, g, d, tk, os⟩ :=
      fun q => B.iter prog w _ _ ⟨hp, g, d, tk, os⟩ _ h1 q
    wp_walk using b1
    refine wpAny_stack_any fun st => wpAny_pure ?_
    split
    · rename_i c _ _ _ _ _
      cases (c == Value.type "enumerate") <;> (wp_walk using b1; exact ⟨_, rfl, h⟩)
    · wp_walk using b1
      exact ⟨_, rfl, h⟩
theorem es_enum_tup {prog : Program} {w : World} {A : Around} {E : Value → Shared → Prop} {s : Shared} {l : Addr} {its : Array Value} {Q : Value → Shared → Prop} (hL : s.heap.IsTuple l its)
    (h : ∀ h', IsEnum h' (s.heap.objs.size + 1) s.heap.objs.size 0 .none → h'.IsTupleIter s.heap.objs.size l 0 → h'.objs.size = s.heap.objs.size + 2 →
      (∀ b o, s.heap.get? b = some o → h'.get? b = some o) → Q (.ref (s.heap.objs.size + 1)) { s with heap := h' }) :
    wpAny (model prog w) A (call (.type "enumerate") [.ref l]) Q E s := by
  have B := begins_tuple l its
  refine callType_new F.called_enumerate (by decide) (F.typeCall_enumerate_1 _) (F.newCall_enumerate_1 _) (fun obj => F.args_object_init_2 obj _) F.entry_enumerate_new (es_enum_new B) ⟨hL, ?_⟩
  have hz : (s.heap.push { cls := .type "tuple_iterator", data := .fields #[.ref l, .int 0 0] }).objs.size = s.heap.objs.size + 1 := Heap.size_push ..
  show _ ∧ _
  rw [hz]
  have he : IsEnum ((s.heap.push { cls := .type "tuple_iterator", data := .fields #[.ref l, .int 0 0] }).push { cls := .type "enumerate", data := .fields #[.none, .bool false, .ref s.heap.objs.size, rawInt 0, .none, .none] }) (s.heap.objs.size + 1) s.heap.objs.size 0 .none := by
    have := Heap.get?_push_size (s.heap.push { cls := .type "tuple_iterator", data := .fields #[.ref l, .int 0 0] }) (o := { cls := .type "enumerate", data := .fields #[.none, .bool false, .ref s.heap.objs.size, rawInt 0, .none, .none] }) rfl
    rw [hz] at this
    exact this
  refine ⟨⟨_, he, rfl⟩, h _ he ⟨_, Heap.get?_push_of_some _ (Heap.get?_push_size _ rfl), rfl, rfl⟩ (by rw [Heap.size_push, hz]) ?_⟩
  intro b o x
  exact Heap.get?_push_of_some _ (Heap.get?_push_of_some _ x)
end PySem
namespace Es
open PySem PySem.Spec PyProof.Rows L2 Evl
/-- the tuple at a, each item with its number in a new pair -/
def Iet (K : PySem.W.Frag) (a : Addr) : It :=
  ⟨fun i H => ∃ (xs : List V) (x : V), SqT K H a xs ∧ xs[i]? = some x, fun i H v H' => ∃ T x, v = .ref T ∧ H T = none ∧ H' = upd H T (.tup [.int (i : Nat), x]) ∧ ∀ xs, SqT K H a xs → xs[i]? = some x,
    fun i H => ∃ xs : List V, SqT K H a xs ∧ xs.length = i⟩
theorem turn_et {P : Program} {w : World} {K : PySem.W.Frag} {elts : List Expr} {kk : Nat} {tpos : Pos} (a e it : Addr) :
    Turn P w K (.Tuple elts kk tpos) (Iet K a) [e, it] e (fun i h => (∃ old, IsEnum h e it ((i : Nat) : Int) old) ∧ h.IsTupleIter it a i ∧ e ≠ it ∧ a ≠ it ∧ e ≠ a) where
  mem := by simp
  obj := fun i h st b hb => by
    obtain ⟨⟨old, he⟩, ⟨o, ho, hc, hd⟩, _⟩ := st
    rcases List.mem_cons.mp hb with z | z
    · subst z
      exact ⟨_, he, fun v q => nomatch q⟩
    · cases List.mem_singleton.mp z
      exact ⟨o, ho, fun v q => by rw [hd] at q; cases q⟩
  keep := fun i h h' st k => by
    obtain ⟨⟨old, he⟩, hi, r⟩ := st
    exact ⟨⟨old, k e (by simp) _ he⟩, hi.at fun o q => k it (by simp) o q, r⟩
  item := by
    intro X hP hw hK hc i pins s σ H E I hf st hg
    subst hP hw hK
    obtain ⟨⟨old, he⟩, hit, hne, hai, hea⟩ := st
    obtain ⟨xs, x, hq, hx⟩ := hg
    obtain ⟨its, rv, it0, hz⟩ := I.tuple hq
    obtain ⟨u, hu, ru⟩ := rv.get hx
    have hel : e < s.heap.objs.size := Heap.lt_size he
    have hil : it < s.heap.objs.size := by
      obtain ⟨_, q, _⟩ := hit
      exact Heap.lt_size q
    have hlt : i < its.toArray.size := by
      rw [List.size_toArray]
      exact (List.getElem?_eq_some_iff.mp hu).1
    have D := Draws.tuple (prog := X.prog) (w := X.w) (A := X.A.in1) (I.ok.hd hc) it a hai its.toArray
    refine wpAny_pyNext_enum_itemD D he ⟨hit, it0⟩ hlt hne (by simp [hne, hea]) ?_
    intro y h' tk hy ho hst hT hsz hk
    have hyu : y = u := by
      have h1 : its.toArray[i]? = some y := hy
      have h2 : its.toArray[i]? = some u := by simpa using hu
      exact Option.some.inj (h1.symm.trans h2)
    subst hyu
    refine ⟨_, rfl, wpAny_letOwnedTupleGo_enum (s := { s with heap := h', toks := tk + 1 }) ho ?_⟩
    intro h'' he' sb
    have hT2 : h''.get? s.heap.objs.size = some { cls := .type "tuple", data := .seq #[.int i tk, y] } := (sb.2 _ (Nat.ne_of_gt hel)).trans hT
    have new : ObjOk X.prog X.w (upd H s.heap.objs.size (.tup [.int (i : Nat), x])) h'' s.heap.objs.size (.tup [.int (i : Nat), x]) :=
      ⟨by show 2 ≤ sizeLine; decide, [.int i tk, y], .cons ⟨_, rfl⟩ (.cons ru .nil), ⟨_, hT2, rfl, _, rfl⟩⟩
    have I1 : Inv X pins σ (upd H s.heap.objs.size (.tup [.int (i : Nat), x])) { s with heap := h'', toks := tk + 1 } :=
      I.turnedNew (ch := [e, it]) (fun b ob hb q => (sb.2 b (fun z => hb (by simp [z]))).trans (hk b ob (fun z => hb (by simp [z])) (fun z => hb (by simp [z])) q)) hf (Nat.le_refl _) new
    refine ⟨.ref s.heap.objs.size, _, I1, rfl, ⟨_, x, rfl, I.hok.fresh (Nat.le_refl _), rfl, fun ys hy => by rw [I.tuple_inj hy hq]; exact hx⟩, ⟨⟨y, ?_⟩, hst.1.at fun o q => (sb.2 it (Ne.symm hne)).trans q, hne, hai, hea⟩, fun b hb => ?_⟩
    · rw [show ((i + 1 : Nat) : Int) = (i : Int) + 1 by omega]
      exact he'
    · have hb' : b < s.heap.objs.size := by
        rcases List.mem_cons.mp hb with z | z
        · subst z
          exact hel
        · cases List.mem_singleton.mp z
          exact hil
      rw [upd_ne (Nat.ne_of_lt hb')]
      exact (hf b hb).1
  done := by
    intro X hP hw hK hc i pins s σ H E I hf st hg
    subst hP hw hK
    obtain ⟨⟨old, he⟩, hit, hne, hai, hea⟩ := st
    obtain ⟨xs, hq, hx⟩ := hg
    obtain ⟨its, rv, it0, hz⟩ := I.tuple hq
    obtain ⟨f0, f1, f2, f3, f4, f5⟩ := hf it (by simp)
    have D := Draws.tuple (prog := X.prog) (w := X.w) (A := X.A.in1) (I.ok.hd hc) it a hai its.toArray
    have hl := rv.length
    have hn : its.toArray.size = i := by
      rw [List.size_toArray]
      omega
    refine wpAny_pyNext_enum_endD D he (by rw [hn]; exact ⟨hit, it0⟩) ?_
    intro h' eb
    exact ⟨rfl, I.turned (t' := s.toks) (fun b o hb q => eb b o hb q) f0 f1 f3 f4 f5⟩
  self := fun A i s Q E st h => wpAny_pyIter_enum st.1.choose_spec h
def iEt (K : PySem.W.Frag) (ta : TA) : TI := fun σ H R => ta σ H fun vs H1 => ∃ a xs, vs = [.ref a] ∧ SqT K H1 a xs ∧ R (Iet K a) H1
theorem pi_et {X : Cx} {e : Expr} {ta : TA} {p pos tpos : Pos} {elts : List Expr} {kk : Nat} (hg : Gl X "enumerate") (hm : X.mg "enumerate" = none) (ha : PA X [e] ta) (hs : starEach [e] X.env = [(false, eval e X.env)] := by rfl) :
    PI X (.Tuple elts kk tpos) (.Call (.Name "enumerate" p) [e] [] pos) (iEt X.K ta) := by
  refine ⟨?_⟩
  intro pins s σ H R I h
  refine Call_ (ld_blt I hg hm boot_enumerate (PyProof.Rows.callWith_type1 (thn (ha.run pos pins s σ H _ I h) ?_) hs rfl))
  rintro us s1 ⟨vs, H1, I1, r1, a, xs, rfl, hq, q⟩
  cases r1 with
  | cons r rr =>
    cases rr
    cases r
    obtain ⟨its, rv, it0, hz⟩ := I1.tuple hq
    have hlt : a < s1.heap.objs.size := it0.lt
    refine es_enum_tup it0 ?_
    intro h' he hit hsz hk
    refine wpAny_pyIter_enum he ?_
    have I2 : Inv X pins σ H1 { s1 with heap := h' } := I1.kept (t' := s1.toks) hk
    refine ⟨s1.heap.objs.size + 1, [s1.heap.objs.size + 1, s1.heap.objs.size], _, _, H1, rfl, I2, turn_et a (s1.heap.objs.size + 1) s1.heap.objs.size, ⟨⟨.none, he⟩, hit, Nat.succ_ne_self _, Nat.ne_of_lt hlt, Nat.ne_of_gt (Nat.lt_succ_of_lt hlt)⟩, fun b hb => ?_, q⟩
    have hle : s1.heap.objs.size ≤ b := by
      rcases List.mem_cons.mp hb with z | z
      · subst z
        exact Nat.le_succ _
      · cases List.mem_singleton.mp z
        exact Nat.le_refl _
    exact I1.fpOk hle (I1.hok.fresh hle)
theorem walk_et {K : PySem.W.Frag} {a : Addr} {xs : List V} : Walk (Iet K a) xs.length (fun H => SqT K H a xs) (YPair (fun i => some (.int (i : Nat))) (fun i => xs[i]?)) := by
  refine ⟨fun i _ hi q => ⟨xs, xs[i], q, by simp [hi]⟩, fun _ q => ⟨xs, q, rfl⟩, fun i H v H' _ q y => ?_⟩
  obtain ⟨T, x, h1, h2, h3, h4⟩ := y
  exact ⟨T, .int (i : Nat), x, h1, h2, h3, rfl, h4 xs q⟩
end Es
namespace Es
open PySem PySem.Spec PyProof.Rows L2 Evl
section
variable {X : Cx} {es : List Expr} {t : TA} {pos : Pos}
/-- a written list: its place is none of the interpreter's own -/
def tLst1 (t : TA) : TE := fun σ H Q => t σ H fun xs H1 => xs.length ≤ sizeLine ∧ ∀ p, p ≠ sysModules → H1 p = none → Q (.ref p) (upd H1 p (.lst xs))
theorem pe_lst1 (h : PA X es t) : PE X (.List es pos) (tLst1 t) := by
  refine ⟨?_⟩
  intro pins s σ H Q I hq
  refine wpAny_List_spliced (thn (h.run pos pins s σ H _ I hq) ?_)
  rintro us s1 ⟨xs, H1, I1, r, z, q⟩
  have nf : H1 s1.heap.objs.size = none := I1.hok.fresh (Nat.le_refl _)
  refine ⟨by rw [← r.length]; exact z, .ref s1.heap.objs.size, upd H1 s1.heap.objs.size (.lst xs), I1.laid (t' := s1.toks) (fun b u e => Heap.get?_push_of_some _ e) (Nat.le_refl _) ?_, rfl, q _ (Nat.ne_of_gt I1.big) nf⟩
  exact ⟨z, us, 0, r, Heap.get?_push_size _ rfl⟩
/-- list(a tuple), likewise -/
def rListT1 (K : PySem.W.Frag) : List V → Hp → VK → Prop := fun xs H Q => ∃ p ys, xs = [.ref p] ∧ SqT K H p ys ∧ ∀ l, l ≠ sysModules → H l = none → Q (.ref l) (upd H l (.lst ys))
theorem cr_listT1 : CallR X (.type "list") (rListT1 X.K) := by
  intro pins s σ H xs us Q I r h
  obtain ⟨p, ys, rfl, hq, q⟩ := h
  obtain ⟨u, rfl, rx⟩ := vals1 r
  cases rx
  obtain ⟨its, r', ⟨o, ho, hc, n, hd⟩, hz⟩ := I.tuple hq
  have hl := r'.length
  refine call_list_seq p (.inr rfl) ho hc hd ?_ (by rw [List.size_toArray]; omega)
  intro h' c' kp e
  refine ⟨.ref s.heap.objs.size, _, I.laid (t' := s.toks) kp (Nat.le_refl _) (show ObjOk X.prog X.w _ h' _ (.lst ys) from ⟨hz, its, c', r', e⟩), rfl, q _ (Nat.ne_of_gt I.big) (I.hok.fresh (Nat.le_refl _))⟩
/-- == of a tuple of at most one item with a tuple of one text -/
def rEqT1 (K : PySem.W.Frag) : R2 := fun x y H Q => ∃ a b xs z, x = .ref a ∧ y = .ref b ∧ SqT K H a xs ∧ SqT K H b [.str z] ∧
  ((xs = [] ∧ Q (.bl false) H) ∨ ∃ v d p, xs = [v] ∧ Dd p H v d ∧ Q (.bl (isT z d)) H)
theorem all0 (z : Value) : ((List.range (min (#[] : Array Value).size #[z].size)).all (fun _ => true) && (#[] : Array Value).size == #[z].size) = false := rfl
theorem all1 (y z : Value) (b : Bool) : ((List.range (min #[y].size #[z].size)).all (fun _ => b) && #[y].size == #[z].size) = b := by
  show ((b && true) && true) = b
  cases b <;> rfl
theorem rc_t0 {A : Around} {s : Shared} {a b : Addr} {z : Value} (hu : A.units < cLine) (t1 : s.heap.IsTuple a #[]) (t2 : s.heap.IsTuple b #[z]) : SeqAt.RcAt A s (.ref a) (.ref b) false := by
  have R := SeqAt.RcAt.tuples (e := fun _ => true) t1 t2 hu (fun j h1 _ => absurd h1 (Nat.not_lt_zero _))
  rw [all0] at R
  exact R
theorem rc_t1 {A : Around} {s : Shared} {a b : Addr} {y z : Value} {k : Bool} (hu : A.units < cLine) (t1 : s.heap.IsTuple a #[y]) (t2 : s.heap.IsTuple b #[z]) (he : SeqAt.EqAt A.in1 s y z k) : SeqAt.RcAt A s (.ref a) (.ref b) k := by
  have R := SeqAt.RcAt.tuples (e := fun _ => k) t1 t2 hu (fun j h1 h2 => by
    have hj : j = 0 := by
      have : j < 1 := h1
      omega
    subst hj
    exact he)
  rw [all1] at R
  exact R
theorem vals_nil {us : List Value} (r : Vals [] us) : us = [] := by
  cases r
  rfl
theorem vals_one {v : V} {us : List Value} (r : Vals [v] us) : ∃ u, us = [u] ∧ RelV v u := by
  obtain ⟨u, e, q⟩ := vals1 r
  exact ⟨u, e, q⟩
theorem op_eqT1 (hu : X.A.units + 64 < cLine) : OpR X (compareOp .Eq) (rEqT1 X.K) := by
  intro pins s σ H x y v u Q I rx ry h
  obtain ⟨a, b, xs, z, rfl, rfl, ha, hb, h⟩ := h
  cases rx
  cases ry
  obtain ⟨its, r1, t1, _⟩ := I.tuple ha
  obtain ⟨jts, r2, t2, _⟩ := I.tuple hb
  obtain ⟨w, rfl, hw⟩ := vals_one r2
  obtain ⟨tk, rfl⟩ := hw
  have hu1 : X.A.units < cLine := by omega
  rcases h with ⟨rfl, q⟩ | ⟨v, d, p, rfl, hd, q⟩
  · cases vals_nil r1
    exact rc_t0 hu1 t1 t2 X.prog X.w X.xe _ ⟨.bl false, H, I, rfl, q⟩
  · obtain ⟨w, rfl, hw⟩ := vals_one r1
    exact rc_t1 hu1 t1 t2 (eqAt_dS I hd hw (by show X.A.units + 1 < cLine; omega)) X.prog X.w X.xe _ ⟨.bl (isT z d), H, I, rfl, q⟩
end
section
variable {K : PySem.W.Frag} {p : Option Sx} {H H' : Hp} {v : V} {d : PyData}
def tyD : PyData → String
  | .none => "NoneType"
  | .bool _ => "bool"
  | .int _ => "int"
  | .str _ => "str"
  | .list _ => "list"
  | .tuple _ => "tuple"
  | .dict _ => "dict"
theorem Dd.ty (h : Dd p H v d) : TyX K H v (.type (tyD d)) := by
  cases h with
  | non => exact .base .non
  | bl b => exact .base (.bl b)
  | int i => exact .base (.int i)
  | str x => exact .base (.str x)
  | lst n m h r => exact .base (.lst h)
  | tup n h r => exact .base (.tup h)
  | dk0 n h => exact .base (.dK h)
  | dk1 n h r => exact .base (.dK h)
def isStr : PyData → Bool
  | .str _ => true
  | _ => false
def isTup : PyData → Bool
  | .tuple _ => true
  | _ => false
theorem kit_str (d : PyData) : kitB (tyD d) "str" = some (isStr d) := by
  cases d with
  | none => show kitB "NoneType" "str" = some false; decide +kernel
  | bool b => show kitB "bool" "str" = some false; decide +kernel
  | int i => show kitB "int" "str" = some false; decide +kernel
  | str x => show kitB "str" "str" = some true; decide +kernel
  | list xs => show kitB "list" "str" = some false; decide +kernel
  | tuple xs => show kitB "tuple" "str" = some false; decide +kernel
  | dict kvs => show kitB "dict" "str" = some false; decide +kernel
theorem kit_tup (d : PyData) : kitB (tyD d) "tuple" = some (isTup d) := by
  cases d with
  | none => show kitB "NoneType" "tuple" = some false; decide +kernel
  | bool b => show kitB "bool" "tuple" = some false; decide +kernel
  | int i => show kitB "int" "tuple" = some false; decide +kernel
  | str x => show kitB "str" "tuple" = some false; decide +kernel
  | list xs => show kitB "list" "tuple" = some false; decide +kernel
  | tuple xs => show kitB "tuple" "tuple" = some true; decide +kernel
  | dict kvs => show kitB "dict" "tuple" = some false; decide +kernel
theorem Dd.isiS (h : Dd p H v d) : RC (rIsi K) [v, .ty "str"] H (.bl (isStr d)) := fun H1 e _ q => ⟨v, _, _, _, _, rfl, .ty _, (h.up e).ty, kit_ty (kit_str d), q H1 (Ex.refl _)⟩
theorem Dd.isiT (h : Dd p H v d) : RC (rIsi K) [v, .ty "tuple"] H (.bl (isTup d)) := fun H1 e _ q => ⟨v, _, _, _, _, rfl, .ty _, (h.up e).ty, kit_ty (kit_tup d), q H1 (Ex.refl _)⟩
end
end Es
namespace Es
open PySem PySem.Spec PyProof.Rows L2 Evl
/-! making data while a pot at p is drawn from: k draws at the most -/
/-- the pot, and that the lists are there -/
def PotS (S : Sx) (H : Hp) (c : Int) : Prop := Pot H S.p c ∧ ∀ a, S.m a → ∃ xs, H a = some (.lst xs)
theorem PotS.sn {S : Sx} {H : Hp} {c : Int} (h : PotS S H c) {a : Addr} (n : H a = none) : ¬ out (some S) a := by
  rintro (z | z)
  · exact h.1.ne n z
  · obtain ⟨xs, e⟩ := h.2 a z
    rw [n] at e
    cases e
theorem PotS.ne {S : Sx} {H : Hp} {c : Int} (h : PotS S H c) {a : Addr} (n : H a = none) : a ≠ S.p := h.1.ne n
theorem PotS.more {S : Sx} {H : Hp} {c d : Int} (h : PotS S H c) (e : c ≤ d) : PotS S H d := ⟨h.1.more e, h.2⟩
theorem PotS.up {S : Sx} {H H' : Hp} {c : Int} (h : PotS S H c) (e : Ex H H') : PotS S H' c := ⟨h.1.up e, fun a z => by
  obtain ⟨xs, y⟩ := h.2 a z
  exact ⟨xs, e _ _ y⟩⟩
theorem PotS.step {S : Sx} {H H' : Hp} {c d : Int} (h : PotS S H c) (e : Xp S.p H H') (k : Pot H' S.p d) : PotS S H' d := ⟨k, fun a z => by
  obtain ⟨xs, y⟩ := h.2 a z
  by_cases ha : a = S.p
  · subst ha
    obtain ⟨g, s0, c0, hp, _⟩ := k
    exact ⟨_, hp⟩
  · exact ⟨xs, e _ _ ha y⟩⟩
section
variable (S : Sx)
def EvP (k : Int) (te : TE) (σ : L2.St) (H : Hp) (D : PyData → Prop) : Prop := ∀ H1 c, Xp S.p H H1 → PotS S H1 c → 0 ≤ c → c + k ≤ 90000 → ∀ Q : VK, (∀ v d H2, Xp S.p H1 H2 → PotS S H2 (c + k) → Dd (some S) H2 v d → D d → Q v H2) → te σ H1 Q
def EvPA (k : Int) (ta : TA) (σ : L2.St) (H : Hp) (D : List PyData → Prop) : Prop := ∀ H1 c, Xp S.p H H1 → PotS S H1 c → 0 ≤ c → c + k ≤ 90000 → ∀ Q : List V → Hp → Prop, (∀ vs ds H2, Xp S.p H1 H2 → PotS S H2 (c + k) → DdAll (some S) H2 vs ds → D ds → Q vs H2) → ta σ H1 Q
/-- a list of data, to be read -/
def EvPL (k : Int) (te : TE) (σ : L2.St) (H : Hp) (D : List PyData → Prop) : Prop := ∀ H1 c, Xp S.p H H1 → PotS S H1 c → 0 ≤ c → c + k ≤ 90000 → ∀ Q : VK, (∀ l vs ds H2, Xp S.p H1 H2 → PotS S H2 (c + k) → l ≠ S.p → H2 l = some (.lst vs) → DdAll (some S) H2 vs ds → D ds → Q (.ref l) H2) → te σ H1 Q
end
/-- a tuple of small items -/
def Tu (n : Nat) (d : PyData) : Prop := ∃ ds, d = .tuple ds ∧ Fits n ds
theorem Tu.fit {n : Nat} {d : PyData} (h : Tu n d) : Fit (n + 1) d := by
  obtain ⟨ds, rfl, h⟩ := h
  exact h.tup
def AllFit (n : Nat) (ds : List PyData) : Prop := ∀ d ∈ ds, Fit n d
theorem AllFit.nil {n : Nat} : AllFit n [] := fun _ h => nomatch h
theorem AllFit.cons {n : Nat} {d : PyData} {ds : List PyData} (h : Fit n d) (k : AllFit n ds) : AllFit n (d :: ds) := fun x hx => by
  rcases List.mem_cons.mp hx with e | e
  · rw [e]
    exact h
  · exact k x e
theorem AllFit.app {n : Nat} {ds es : List PyData} (h : AllFit n ds) (k : AllFit n es) : AllFit n (ds ++ es) := fun x hx => by
  rcases List.mem_append.mp hx with e | e
  · exact h x e
  · exact k x e
theorem Fits.app : ∀ {n m : Nat} {ds es : List PyData}, Fits n ds → Fits m es → Fits (n + m) (ds ++ es) := by
  intro n m ds es h k
  obtain ⟨b1, b2, b3, b4⟩ := k
  have : ∀ ds : List PyData, PyData.showableAll (ds ++ es) = (PyData.showableAll ds && PyData.showableAll es) ∧ PyData.leavesShortAll 30 (ds ++ es) = (PyData.leavesShortAll 30 ds && PyData.leavesShortAll 30 es) ∧
      PyData.bulkAll (ds ++ es) = PyData.bulkAll ds + PyData.bulkAll es ∧ PyData.depthAll (ds ++ es) = max (PyData.depthAll ds) (PyData.depthAll es) := by
    intro ds
    induction ds with
    | nil =>
      refine ⟨rfl, rfl, ?_, ?_⟩
      · show PyData.bulkAll es = 0 + PyData.bulkAll es
        omega
      · show PyData.depthAll es = max 0 (PyData.depthAll es)
        omega
    | cons x r ih =>
      obtain ⟨i1, i2, i3, i4⟩ := ih
      refine ⟨?_, ?_, ?_, ?_⟩
      · show (x.showable && PyData.showableAll (r ++ es)) = (x.showable && PyData.showableAll r && PyData.showableAll es)
        rw [i1, Bool.and_assoc]
      · show (x.leavesShort 30 && PyData.leavesShortAll 30 (r ++ es)) = (x.leavesShort 30 && PyData.leavesShortAll 30 r && PyData.leavesShortAll 30 es)
        rw [i2, Bool.and_assoc]
      · show x.bulk + 1 + PyData.bulkAll (r ++ es) = x.bulk + 1 + PyData.bulkAll r + PyData.bulkAll es
        omega
      · show max x.depth (PyData.depthAll (r ++ es)) = max (max x.depth (PyData.depthAll r)) (PyData.depthAll es)
        omega
  obtain ⟨i1, i2, i3, i4⟩ := this ds
  obtain ⟨a1, a2, a3, a4⟩ := h
  exact ⟨by rw [i1, a1, b1]; rfl, by rw [i2, a2, b2]; rfl, by omega, by omega⟩
theorem Fits.sub {n : Nat} {ds : List PyData} (h : Fits n ds) : (∀ i, Fits n (ds.drop i)) ∧ ∀ i, Fits n (ds.take i) := by
  induction ds generalizing n with
  | nil => exact ⟨fun i => by rw [List.drop_nil]; exact h, fun i => by rw [List.take_nil]; exact h⟩
  | cons x r ih =>
    obtain ⟨a1, a2, a3, a4⟩ := h
    have a1' : (x.showable && PyData.showableAll r) = true := a1
    have a2' : (x.leavesShort 30 && PyData.leavesShortAll 30 r) = true := a2
    rw [Bool.and_eq_true] at a1' a2'
    have a3' : x.bulk + 1 + PyData.bulkAll r ≤ 8 * n := a3
    have a4' : max x.depth (PyData.depthAll r) ≤ n := a4
    have k : Fits n r := ⟨a1'.2, a2'.2, by omega, by omega⟩
    refine ⟨fun i => ?_, fun i => ?_⟩
    · cases i with
      | zero => exact ⟨a1, a2, a3, a4⟩
      | succ i => exact (ih k).1 i
    · cases i with
      | zero => exact ⟨rfl, rfl, Nat.zero_le _, Nat.zero_le _⟩
      | succ i =>
        obtain ⟨c1, c2, c3, c4⟩ := (ih (n := PyData.bulkAll r + PyData.depthAll r) ⟨a1'.2, a2'.2, by omega, by omega⟩).2 i
        have c3' : PyData.bulkAll (r.take i) ≤ PyData.bulkAll r ∧ PyData.depthAll (r.take i) ≤ PyData.depthAll r := by
          clear ih k a1 a2 a3 a4 a1' a2' a3' a4' c1 c2 c3 c4
          induction r generalizing i with
          | nil =>
            rw [List.take_nil]
            exact ⟨Nat.le_refl _, Nat.le_refl _⟩
          | cons y s ih2 =>
            cases i with
            | zero => exact ⟨Nat.zero_le _, Nat.zero_le _⟩
            | succ i =>
              have := ih2 i
              refine ⟨?_, ?_⟩
              · show y.bulk + 1 + PyData.bulkAll (s.take i) ≤ y.bulk + 1 + PyData.bulkAll s
                omega
              · show max y.depth (PyData.depthAll (s.take i)) ≤ max y.depth (PyData.depthAll s)
                omega
        refine ⟨?_, ?_, ?_, ?_⟩
        · show (x.showable && PyData.showableAll (r.take i)) = true
          rw [a1'.1, c1]
          rfl
        · show (x.leavesShort 30 && PyData.leavesShortAll 30 (r.take i)) = true
          rw [a2'.1, c2]
          rfl
        · show x.bulk + 1 + PyData.bulkAll (r.take i) ≤ 8 * n
          omega
        · show max x.depth (PyData.depthAll (r.take i)) ≤ n
          omega
section
variable {S : Sx} {K : PySem.W.Frag} {σ : L2.St} {H : Hp} {te tf : TE} {ta : TA} {k j : Int} {D E : PyData → Prop} {L M : List PyData → Prop}
theorem evp_imp (h : EvP S k te σ H D) (hi : ∀ d, D d → E d) : EvP S k te σ H E := fun H1 c x P c0 c1 Q q => h H1 c x P c0 c1 Q fun v d H2 x2 P2 hd hD => q v d H2 x2 P2 hd (hi d hD)
theorem evp_xp {H' : Hp} (h : EvP S k te σ H D) (e : Xp S.p H H') : EvP S k te σ H' D := fun H1 c x P c0 c1 Q q => h H1 c (e.trans x) P c0 c1 Q q
theorem evp_var {i : Nat} {v : V} {d : PyData} (h : σ[i]? = some (some v)) (hd : Dd (some S) H v d) (hD : D d) : EvP S 0 (tVar i) σ H D := fun H1 c x P c0 c1 Q q => ⟨v, h, q v d H1 (Xp.refl _ _) (P.more (by omega)) (hd.xp x) hD⟩
theorem evp_str {z : Str} (hD : D (.str z)) : EvP S 0 (tC (.str z)) σ H D := fun H1 c x P c0 c1 Q q => q _ _ H1 (Xp.refl _ _) (P.more (by omega)) (.str z) hD
theorem evp_int {z : Int} (hD : D (.int z)) : EvP S 0 (tC (.int z)) σ H D := fun H1 c x P c0 c1 Q q => q _ _ H1 (Xp.refl _ _) (P.more (by omega)) (.int z) hD
theorem evp_bl {z : Bool} (hD : D (.bool z)) : EvP S 0 (tC (.bl z)) σ H D := fun H1 c x P c0 c1 Q q => q _ _ H1 (Xp.refl _ _) (P.more (by omega)) (.bl z) hD
theorem evp_non (hD : D .none) : EvP S 0 (tC .non) σ H D := fun H1 c x P c0 c1 Q q => q _ _ H1 (Xp.refl _ _) (P.more (by omega)) .non hD
theorem evpa_nil (h : L []) : EvPA S 0 tNil σ H L := fun H1 c x P c0 c1 Q q => q [] [] H1 (Xp.refl _ _) (P.more (by omega)) .nil h
theorem evpa_cons (h : EvP S k te σ H D) (r : EvPA S j ta σ H L) (hk : 0 ≤ k) (hj : 0 ≤ j) (hL : ∀ d ds, D d → L ds → M (d :: ds)) : EvPA S (k + j) (tCons te ta) σ H M := by
  intro H1 c x P c0 c1 Q q
  refine h H1 c x P c0 (by omega) _ fun v d H2 x2 P2 hd hD => ?_
  exact r H2 (c + k) (x.trans x2) P2 (by omega) (by omega) _ fun vs ds H3 x3 P3 hds hL' => q _ _ H3 (x2.trans x3) (P3.more (by omega)) (.cons (hd.xp x3) hds) (hL d ds hD hL')
theorem evpa_c0 (h : EvP S 0 te σ H D) (r : EvPA S j ta σ H L) (hj : 0 ≤ j) (hL : ∀ d ds, D d → L ds → M (d :: ds)) : EvPA S j (tCons te ta) σ H M := by
  have := evpa_cons h r (by decide) hj hL
  rw [Int.zero_add] at this
  exact this
/-- items of a tuple, their sizes added up -/
theorem evpa_t {n m : Nat} (h : EvP S 0 te σ H (Fit n)) (r : EvPA S j ta σ H (Fits m)) (hj : 0 ≤ j) : EvPA S j (tCons te ta) σ H (Fits (n + 1 + m)) := evpa_c0 h r hj fun _ _ a b => Fits.cons a b
theorem evpa_tk {n m : Nat} (h : EvP S k te σ H (Fit n)) (r : EvPA S j ta σ H (Fits m)) (hk : 0 ≤ k) (hj : 0 ≤ j) : EvPA S (k + j) (tCons te ta) σ H (Fits (n + 1 + m)) := evpa_cons h r hk hj fun _ _ a b => Fits.cons a b
theorem evpa_l {n : Nat} (h : EvP S 0 te σ H (Fit n)) (r : EvPA S j ta σ H (AllFit n)) (hj : 0 ≤ j) : EvPA S j (tCons te ta) σ H (AllFit n) := evpa_c0 h r hj fun _ _ a b => AllFit.cons a b
theorem evpa_lk {n : Nat} (h : EvP S k te σ H (Fit n)) (r : EvPA S j ta σ H (AllFit n)) (hk : 0 ≤ k) (hj : 0 ≤ j) : EvPA S (k + j) (tCons te ta) σ H (AllFit n) := evpa_cons h r hk hj fun _ _ a b => AllFit.cons a b
theorem Fits.length {n : Nat} {ds : List PyData} (h : Fits n ds) : ds.length ≤ 8 * n := by
  have h3 := h.2.2.1
  clear h
  generalize 8 * n = m at h3
  clear n
  induction ds generalizing m with
  | nil => exact Nat.zero_le _
  | cons y r ih =>
    have h3' : y.bulk + 1 + PyData.bulkAll r ≤ m := h3
    have := ih (m - 1) (by omega)
    show r.length + 1 ≤ m
    omega
theorem evp_tup {n : Nat} (h : EvPA S k ta σ H (Fits n)) (hn : n ≤ 10000) : EvP S k (tTup ta) σ H (Tu n) := by
  intro H1 c x P c0 c1 Q q
  refine h H1 c x P c0 c1 _ fun vs ds H2 x2 P2 hds hL => ⟨?_, fun a na => ?_⟩
  · have l1 := hds.length
    have := hL.length
    exact sz_of (by omega)
  · have e := Ex.new (o := .tup vs) na
    exact q _ _ _ (x2.trans (Xp.ex e)) (P2.up e) (.tup (P2.sn na) upd_same (hds.up e)) ⟨ds, rfl, hL⟩
theorem evp_tup' {n m : Nat} (h : EvPA S k ta σ H (Fits n)) (hn : n + 1 ≤ m) (hm : m ≤ 10000) : EvP S k (tTup ta) σ H (Fit m) := evp_imp (evp_tup h (by omega)) fun d hd => hd.fit.more hn
theorem evp_cat {n m : Nat} (h : EvP S k te σ H (Tu n)) (r : EvP S j tf σ H (Tu m)) (hk : 0 ≤ k) (hj : 0 ≤ j) (hn : n + m ≤ 10000) : EvP S (k + j) (tOp (rCatA K) te tf) σ H (Tu (n + m)) := by
  intro H1 c x P c0 c1 Q q
  refine h H1 c x P c0 (by omega) _ fun v d H2 x2 P2 hd hD => ?_
  refine r H2 (c + k) (x.trans x2) P2 (by omega) (by omega) _ fun u e H3 x3 P3 he hE => ?_
  obtain ⟨ds, rfl, f1⟩ := hD
  obtain ⟨es, rfl, f2⟩ := hE
  have hd3 := hd.xp x3
  have l1 := f1.length
  have l2 := f2.length
  cases hd3 with
  | @tup a xs _ na ha hxs =>
    cases he with
    | @tup b ys _ nb hb hys =>
      have m1 := hxs.length
      have m2 := hys.length
      refine ⟨a, b, xs, ys, rfl, rfl, st_of ha, st_of hb, sz_of (by omega), fun z => ?_, fun _ z => ?_, fun _ _ t nt => ?_⟩
      · subst z
        cases hxs
        exact q _ _ H3 (x2.trans x3) (P3.more (by omega)) (.tup nb hb hys) ⟨es, rfl, f2.more (by omega)⟩
      · subst z
        cases hys
        exact q _ _ H3 (x2.trans x3) (P3.more (by omega)) (.tup na ha hxs) ⟨ds, rfl, f1.more (by omega)⟩
      · have e := Ex.new (o := .tup (xs ++ ys)) nt
        exact q _ _ _ ((x2.trans x3).trans (Xp.ex e)) ((P3.up e).more (by omega)) (.tup (P3.sn nt) upd_same ((hxs.append hys).up e)) ⟨_, rfl, f1.app f2⟩
theorem evp_cat0 {n m : Nat} (h : EvP S 0 te σ H (Tu n)) (r : EvP S 0 tf σ H (Tu m)) (hn : n + m ≤ 10000) : EvP S 0 (tOp (rCatA K) te tf) σ H (Tu (n + m)) := evp_cat h r (by decide) (by decide) hn
/-- t[:i], t[i:] of a tuple at a name -/
theorem evp_cutL {i : Nat} {a : Addr} {xs : List V} {ds : List PyData} {n : Nat} {tl : TO} {u : Int} (h : σ[i]? = some (some (.ref a))) (hd : Dd (some S) H (.ref a) (.tuple ds)) (f : Fits n ds) (hu : 0 ≤ u)
    (ho : ∀ H1 (Q : Option Int → Hp → Prop), Q (some u) H1 → tl σ H1 Q) : EvP S 0 (tSl (rSlA K) (tVar i) tNoPart tl) σ H (Tu n) := by
  intro H1 c x P c0 c1 Q q
  have hd1 := hd.xp x
  cases hd1 with
  | @tup _ xs _ na ha hxs =>
    refine ⟨.ref a, h, ho H1 _ ⟨a, xs, rfl, st_of ha, fun _ => ?_, fun _ t nt => ?_⟩⟩
    · exact q _ _ H1 (Xp.refl _ _) (P.more (by omega)) (.tup na ha hxs) ⟨ds, rfl, f⟩
    · have e := Ex.new (o := .tup (cutV xs none (some u))) nt
      have hc : DdAll (some S) H1 (cutV xs none (some u)) (ds.take (min u.toNat ds.length)) := by
        have m1 := hxs.length
        unfold cutV
        rw [HT.sIx_none, List.drop_zero, Nat.sub_zero, show (some u) = some ((u.toNat : Nat) : Int) by rw [Int.toNat_of_nonneg hu], HT.sIx_nat, m1]
        exact hxs.take _
      exact q _ _ _ (Xp.ex e) ((P.up e).more (by omega)) (.tup (P.sn nt) upd_same (hc.up e)) ⟨_, rfl, f.sub.2 _⟩
theorem evp_cutR {i : Nat} {a : Addr} {xs : List V} {ds : List PyData} {n : Nat} {tl : TO} {u : Int} (h : σ[i]? = some (some (.ref a))) (hd : Dd (some S) H (.ref a) (.tuple ds)) (f : Fits n ds) (hu : 0 ≤ u)
    (ho : ∀ H1 (Q : Option Int → Hp → Prop), Q (some u) H1 → tl σ H1 Q) : EvP S 0 (tSl (rSlA K) (tVar i) tl tNoPart) σ H (Tu n) := by
  intro H1 c x P c0 c1 Q q
  have hd1 := hd.xp x
  cases hd1 with
  | @tup _ xs _ na ha hxs =>
    refine ⟨.ref a, h, ho H1 _ ⟨a, xs, rfl, st_of ha, fun _ => ?_, fun _ t nt => ?_⟩⟩
    · exact q _ _ H1 (Xp.refl _ _) (P.more (by omega)) (.tup na ha hxs) ⟨ds, rfl, f⟩
    · have e := Ex.new (o := .tup (cutV xs (some u) none)) nt
      have hc : DdAll (some S) H1 (cutV xs (some u) none) (ds.drop (min u.toNat ds.length)) := by
        have m1 := hxs.length
        unfold cutV
        rw [HT.sIx_none, show (some u) = some ((u.toNat : Nat) : Int) by rw [Int.toNat_of_nonneg hu], HT.sIx_nat, List.take_of_length_le (by rw [List.length_drop]; omega), m1]
        exact hxs.drop _
      exact q _ _ _ (Xp.ex e) ((P.up e).more (by omega)) (.tup (P.sn nt) upd_same (hc.up e)) ⟨_, rfl, f.sub.1 _⟩
/-- lists of data -/
theorem evl_lst {N : Nat} (h : EvPA S k ta σ H (fun ds => L ds ∧ ds.length = N)) (hN : N ≤ 10000) : EvPL S k (tLst ta) σ H (fun ds => L ds ∧ ds.length = N) := by
  intro H1 c x P c0 c1 Q q
  refine h H1 c x P c0 c1 _ fun vs ds H2 x2 P2 hds hL => ⟨?_, fun l nl => ?_⟩
  · have := hds.length
    have := hL.2
    exact sz_of (by omega)
  · have e := Ex.new (o := .lst vs) nl
    exact q l vs ds _ (x2.trans (Xp.ex e)) (P2.up e) (P2.ne nl) upd_same (hds.up e) hL
theorem evl_var {i : Nat} {l : Addr} {vs : List V} {ds : List PyData} (h : σ[i]? = some (some (.ref l))) (nl : l ≠ S.p) (hl : H l = some (.lst vs)) (hd : DdAll (some S) H vs ds) (hL : L ds) : EvPL S 0 (tVar i) σ H L :=
  fun H1 c x P c0 c1 Q q => ⟨.ref l, h, q l vs ds H1 (Xp.refl _ _) (P.more (by omega)) nl (x _ _ nl hl) (hd.xp x) hL⟩
theorem evl_cat {A B : Nat} (h : EvPL S k te σ H (fun ds => L ds ∧ ds.length = A)) (r : EvPL S j tf σ H (fun ds => L ds ∧ ds.length = B)) (hk : 0 ≤ k) (hj : 0 ≤ j) (hn : A + B ≤ 10000) (hL : ∀ ds es, L ds → L es → L (ds ++ es)) :
    EvPL S (k + j) (tOp rCat te tf) σ H (fun ds => L ds ∧ ds.length = A + B) := by
  intro H1 c x P c0 c1 Q q
  refine h H1 c x P c0 (by omega) _ fun l vs ds H2 x2 P2 nl hl hds hD => ?_
  refine r H2 (c + k) (x.trans x2) P2 (by omega) (by omega) _ fun m ws es H3 x3 P3 nm hm hes hE => ?_
  have l1 := hds.length
  have l2 := hes.length
  have d1 := hD.2
  have d2 := hE.2
  refine ⟨l, m, vs, ws, rfl, rfl, x3 _ _ nl hl, hm, sz_of (by omega), fun a na => ?_⟩
  have e := Ex.new (o := .lst (vs ++ ws)) na
  refine q a _ (ds ++ es) _ ((x2.trans x3).trans (Xp.ex e)) ((P3.up e).more (by omega)) (P3.ne na) upd_same (((hds.xp x3).append hes).up e) ⟨hL _ _ hD.1 hE.1, ?_⟩
  rw [List.length_append]
  omega
theorem evpa_n {N : Nat} (h : EvPA S k ta σ H (AllFit N)) : EvPA S k ta σ H (AllFit N) := h
/-- the same with the number of items told -/
theorem evpan_nil {n : Nat} : EvPA S 0 tNil σ H (fun ds => AllFit n ds ∧ ds.length = 0) := evpa_nil ⟨.nil, rfl⟩
theorem evpan {n m : Nat} (h : EvP S 0 te σ H (Fit n)) (r : EvPA S j ta σ H (fun ds => AllFit n ds ∧ ds.length = m)) (hj : 0 ≤ j) : EvPA S j (tCons te ta) σ H (fun ds => AllFit n ds ∧ ds.length = m + 1) :=
  evpa_c0 h r hj fun _ _ a b => ⟨.cons a b.1, congrArg Nat.succ b.2⟩
theorem evpank {n m : Nat} (h : EvP S k te σ H (Fit n)) (r : EvPA S j ta σ H (fun ds => AllFit n ds ∧ ds.length = m)) (hk : 0 ≤ k) (hj : 0 ≤ j) : EvPA S (k + j) (tCons te ta) σ H (fun ds => AllFit n ds ∧ ds.length = m + 1) :=
  evpa_cons h r hk hj fun _ _ a b => ⟨.cons a b.1, congrArg Nat.succ b.2⟩
theorem evp_lst1 {n : Nat} (h : EvPA S k ta σ H (Fits n)) (hn : n ≤ 10000) : EvP S k (tLst1 ta) σ H (Fit (n + 1)) := by
  intro H1 c x P c0 c1 Q q
  refine h H1 c x P c0 c1 _ fun vs ds H2 x2 P2 hds hL => ⟨?_, fun a ns na => ?_⟩
  · have l1 := hds.length
    have := hL.length
    exact sz_of (by omega)
  · have e := Ex.new (o := .lst vs) na
    exact q _ _ _ (x2.trans (Xp.ex e)) (P2.up e) (.lst (P2.sn na) ns upd_same (hds.up e)) hL.lst
theorem evp_dk0 : EvP S 0 tDNewK σ H (Fit 1) := fun H1 c x P c0 c1 Q q a na => by
  have e := Ex.new (o := .dK []) na
  exact q _ _ _ (Xp.ex e) ((P.up e).more (by omega)) (.dk0 (P.sn na) upd_same) fit_dk0
theorem evp_dk1 {n i : Nat} {z : Str} {v : V} {d : PyData} (h : σ[i]? = some (some v)) (hd : Dd (some S) H v d) (hf : Fit n d) (hz : (z.cps.toList.all fun c => decide (c < 16 ^ 8)) = true) (hl : z.length ≤ 10) : EvP S 0 (tDisp [(tC (.str z), tVar i)]) σ H (Fit (n + 13)) := by
  intro H1 c x P c0 c1 Q q a na
  refine ⟨v, h, upd_same, [(Sum.inr z, v)], rfl, by show 1 ≤ 15; decide, ?_⟩
  have e := Ex.mut (o := .dK (mergeK [] [(Sum.inr z, v)])) (Ex.new (o := .dK []) na) na
  exact q _ _ _ (Xp.ex e) ((P.up e).more (by omega)) (.dk1 (P.sn na) upd_same ((hd.xp x).up e)) (fit_dk1 hz hl hf)
theorem evp_neg {i : Int} (hD : D (.int (-i))) : EvP S 0 (tUn (rU fun i => .int (-i)) (tC (.int i))) σ H D := fun H1 c x P c0 c1 Q q => ⟨i, rfl, q _ _ H1 (Xp.refl _ _) (P.more (by omega)) (.int _) hD⟩
theorem DdAll.mem : ∀ {vs : List V} {ds : List PyData} {v : V}, DdAll (some S) H vs ds → v ∈ vs → ∃ d ∈ ds, Dd (some S) H v d
  | _, _, _, .cons h r, hv => by
    rcases List.mem_cons.mp hv with e | e
    · subst e
      exact ⟨_, List.mem_cons_self .., h⟩
    · obtain ⟨d, a, b⟩ := DdAll.mem r e
      exact ⟨d, List.mem_cons_of_mem _ a, b⟩
theorem evp_listT {n i : Nat} {a : Addr} {ds : List PyData} (h : σ[i]? = some (some (.ref a))) (hd : Dd (some S) H (.ref a) (.tuple ds)) (hf : Fits n ds) : EvP S 0 (tCB (rListT1 K) (tCons (tVar i) tNil)) σ H (Fit (n + 1)) := by
  intro H1 c x P c0 c1 Q q
  have hd1 := hd.xp x
  cases hd1 with
  | @tup _ xs _ na ha hxs =>
    refine ⟨.ref a, h, a, xs, rfl, st_of ha, fun l ns nl => ?_⟩
    have e := Ex.new (o := .lst xs) nl
    exact q _ _ _ (Xp.ex e) ((P.up e).more (by omega)) (.lst (P.sn nl) ns upd_same (hxs.up e)) hf.lst
theorem qp_asg {F : Ends} {tz : TS} {i : Nat} (h : te σ H fun v H1 => tz F (σ.set i (some v)) H1) : tSeq (tAsg te (gName i)) tz F σ H := h
theorem sp_asg {F : Ends} {i : Nat} (h : te σ H fun v H1 => F.nx (σ.set i (some v)) H1) : tAsg te (gName i) F σ H := h
theorem op_of {r : R2} {Q : VK} (h : te σ H fun x H1 => tf σ H1 fun y H2 => r x y H2 Q) : tOp r te tf σ H Q := h
theorem cons_of {Q : List V → Hp → Prop} (h : te σ H fun x H1 => ta σ H1 fun xs H2 => Q (x :: xs) H2) : tCons te ta σ H Q := h
theorem call_of {sp : Sp} {dvs : List V} {E : XK} {Q : VK} (h : ta σ H fun vs H1 => sp (vs ++ dvs) H1 Q E) : tCall sp dvs E ta σ H Q := h
end
end Es
namespace HT
open PySem PySem.Spec PyProof.Rows
section
variable {prog : Program} {w : World} {A : Around} {E : Value → Shared → Prop} {s : Shared}
theorem es_applied_rev {sl : Addr} {vl vu vs : Value} {n : Nat} {Q : Int × Int × Nat → Shared → Prop} (hs : s.heap.IsSliceOf sl vl vu vs) (pl : IsPart vl none) (pu : IsPart vu none) (ps : IsPart vs (some (-1)))
    (h : Q ((n : Int) - 1, -1, n) s) : wpAny (model prog w) A (Builtin.Slice.sliceApplied (.ref sl) (pure (n : Int))) Q E s := by
  obtain ⟨os, hos, hcs, hds⟩ := id hs
  unfold Builtin.Slice.sliceApplied Builtin.Slice.sliceFields
  refine wpAny_bind (wpAny_bind (wpAny_field hos hds (x := vl) rfl (wpAny_bind (wpAny_field hos hds (x := vu) rfl (wpAny_bind (wpAny_field hos hds (x := vs) rfl (wpAny_pure ?_)))))))
  refine wpAny_bind (slicePart_ ps ?_)
  show wpAny _ _ (if ((-1 : Int) == 0) = true then _ else _) _ _ s
  rw [if_neg (by decide)]
  refine wpAny_bind (slicePart_ pl (wpAny_bind (slicePart_ pu (wpAny_bind (wpAny_pure ?_)))))
  show wpAny _ _ (match Builtin.Slice.sliceAdjust none none (-1) (n : Int) with | (lo, hi) => pure (lo, (-1 : Int), Builtin.Slice.slicePlaces lo hi (-1))) _ _ s
  show wpAny _ _ (pure ((n : Int) - 1, (-1 : Int), Builtin.Slice.slicePlaces ((n : Int) - 1) (-1) (-1))) _ _ s
  have e : Builtin.Slice.slicePlaces ((n : Int) - 1) (-1) (-1) = n := by
    unfold Builtin.Slice.slicePlaces
    rw [if_neg (by decide)]
    by_cases hn : n = 0
    · subst hn
      rfl
    · rw [if_pos (by omega)]
      show (((n : Int) - 1 - -1 - 1) / 1 + 1).toNat = n
      rw [Int.ediv_one]
      omega
  rw [e]
  exact wpAny_pure h
theorem es_fm {α β : Type} (f g : α → Option β) : ∀ l : List α, (∀ x ∈ l, f x = g x) → l.filterMap f = l.filterMap g
  | [], _ => rfl
  | x :: r, h => by
    rw [List.filterMap_cons, List.filterMap_cons, h x (List.mem_cons_self ..), es_fm f g r fun y hy => h y (List.mem_cons_of_mem _ hy)]
theorem es_pick_rev (xs : Array Value) : ((List.range xs.size).filterMap fun (m : Nat) => xs[((xs.size : Int) - 1 + (m : Int) * (-1)).toNat]?).toArray = xs.toList.reverse.toArray := by
  have h1 : ((List.range xs.size).filterMap fun (m : Nat) => xs[((xs.size : Int) - 1 + (m : Int) * (-1)).toNat]?) = (List.range xs.size).filterMap fun (m : Nat) => (xs.toList.reverse.toArray)[((0 : Nat) + (m : Int) * 1).toNat]? := by
    have e0 : ∀ m ∈ List.range xs.size, xs[((xs.size : Int) - 1 + (m : Int) * (-1)).toNat]? = (xs.toList.reverse.toArray)[((0 : Nat) + (m : Int) * 1).toNat]? := by
      intro m hm
      have hm' : m < xs.size := List.mem_range.mp hm
      rw [show ((xs.size : Int) - 1 + (m : Int) * (-1)).toNat = xs.size - 1 - m by omega, show (((0 : Nat) : Int) + (m : Int) * 1).toNat = m by omega]
      have e1 : (xs.toList.reverse.toArray)[m]? = xs.toList.reverse[m]? := List.getElem?_toArray ..
      rw [e1, List.getElem?_reverse (by rw [Array.length_toList]; exact hm'), Array.length_toList, Array.getElem?_toList]
    exact es_fm _ _ _ e0
  rw [h1]
  have := pick_gen xs.toList.reverse.toArray 0 xs.size
  rw [this]
  rw [List.drop_zero, List.take_of_length_le (by rw [List.length_reverse, Array.length_toList]; exact Nat.le_refl _)]
theorem es_tuple_rev {t sl : Addr} {items : Array Value} {vl vu vs : Value} {Q : Value → Shared → Prop} (ht : IsTup s.heap t items) (hs : s.heap.IsSliceOf sl vl vu vs) (pl : IsPart vl none) (pu : IsPart vu none) (ps : IsPart vs (some (-1)))
    (h : Q (.ref s.heap.objs.size) { s with heap := s.heap.push { cls := .type "tuple", data := .seq items.toList.reverse.toArray } })
    (hsz : items.size ≤ sizeLine) : wpAny (model prog w) A (getItem (.ref t) (.ref sl)) Q E s := by
  have htake : sizeOk (.seq items.toList.reverse.toArray) := by
    show items.toList.reverse.toArray.size ≤ sizeLine
    rw [List.size_toArray, List.length_reverse, Array.length_toList]
    exact hsz
  obtain ⟨os, hos, hcs, hds⟩ := id hs
  have hTs : s.TypeIs (.ref sl) "slice" := ⟨os, hos, hcs⟩
  unfold getItem
  try with_reducible refine wpAny_holding ?_
  first | refine wpAny_bind (wpAny_pure ?_) | skip
  refine wpAny_bind (wpAny_sequenceKey ht.typeIs (by decide) ?_)
  refine wpAny_bind (wpAny_callSpecial?_slot (name := Str.ofString "__getitem__") ht.typeIs PyProof.Rows.slot_tuple_getitem
    (wpAny_call_entry PyProof.Rows.slot_tuple_getitem ht.typeIs entry_tuple_getitem ?_ (args_tuple_getitem _ _)))
  show wpAny _ _ (Builtin.Tuple.tupleItemsOf (.ref t) >>= _) _ _ s
  refine wpAny_bind (tupleItemsOf_ ht ?_)
  refine wpAny_bind (wpAny_typeOf hTs ?_)
  rw [if_pos (by decide)]
  refine wpAny_bind (es_applied_rev hs pl pu ps ?_)
  have hno : ¬ (((((items.size : Int) - 1) == 0) && ((-1 : Int) == 1) && (items.size == items.size)) = true) := by
    rw [show ((-1 : Int) == 1) = false from rfl, Bool.and_false, Bool.false_and]
    exact Bool.false_ne_true
  show wpAny _ _ (if (((((items.size : Int) - 1) == 0) && ((-1 : Int) == 1) && (items.size == items.size)) = true) then _ else _) _ _ s
  rw [if_neg hno, es_pick_rev]
  first
    | exact wpAny_bind (m := Builtin.Tuple.tupleExact _) (wpAny_newObj_type (wpAny_pure ⟨_, rfl, wpAny_pure h⟩) htake)
    | exact wpAny_bind (m := Builtin.Tuple.tupleExact _) (wpAny_newObj_type (wpAny_bind (wpAny_pure (wpAny_pure ⟨_, rfl, wpAny_pure h⟩))) htake)
    | exact wpAny_bind (wpAny_bind (m := Builtin.Tuple.tupleExact _) (wpAny_newObj_type (wpAny_pure (wpAny_pure ⟨_, rfl, wpAny_pure h⟩)) htake))
    | exact wpAny_bind (wpAny_bind (m := Builtin.Tuple.tupleExact _) (wpAny_newObj_type (wpAny_pure ⟨_, rfl, wpAny_pure h⟩) htake))
end
end HT
namespace Es
open PySem PySem.Spec PyProof.Rows L2 Evl
section
variable {X : Cx}
def tRevT (K : PySem.W.Frag) (te : TE) : TE := fun σ H Q => te σ H fun x H1 => ∃ a xs, x = .ref a ∧ SqT K H1 a xs ∧ ∀ p, H1 p = none → Q (.ref p) (upd H1 p (.tup xs.reverse))
theorem pe_revT {e : Expr} {te : TE} {k : Nat} {p1 p2 p3 pos : Pos} (he : PE X e te) : PE X (.Subscript e (.Slice none none (some (.UnaryOp .USub (.Constant (.int 1) k p1) p2)) p3) pos) (tRevT X.K te) := by
  refine ⟨fun pins s σ H Q I h => ?_⟩
  refine Subscript_ (thn (he.run pins s σ H _ I h) fun v s1 ⟨x, H1, I1, r1, q1⟩ => ?_)
  obtain ⟨a, xs, ex, hx, q⟩ := q1
  subst ex
  cases r1
  have hst : PO X (some (.UnaryOp .USub (.Constant (.int 1) k p1) p2)) (tPart (tUn (rU fun i => .int (-i)) (tC (.int 1)))) := po_some (pe_un un_neg pe_int)
  refine wpAny_Slice (thn (po_none.run pins s1 σ H1 (fun o H2 => o = none ∧ H2 = H1) I1 ⟨rfl, rfl⟩) fun vl s2 ⟨l, H2, I2, pl, el, e2⟩ => ?_)
  subst el e2
  refine thn (po_none.run pins s2 σ H2 (fun o H3 => o = none ∧ H3 = H2) I2 ⟨rfl, rfl⟩) fun vu s3 ⟨u, H3, I3, pu, eu, e3⟩ => ?_
  subst eu e3
  refine thn (hst.run pins s3 σ H3 (fun o H4 => o = some (-1) ∧ H4 = H3) I3 ⟨1, rfl, -1, rfl, rfl, rfl⟩) fun vs s4 ⟨o, H4, I4, ps, eo, e4⟩ => ?_
  subst eo e4
  have I5 : Inv X pins σ H4 { s4 with heap := s4.heap.push { cls := .type "slice", data := .fields #[vl, vu, vs] } } := I4.kept (t' := s4.toks) fun b ob q => Heap.get?_push_of_some _ q
  obtain ⟨its, r, ht, hz⟩ := I5.tuple hx
  have hlen := r.length
  show wpAny (model X.prog X.w) X.A (subscriptTail e (.Slice none none (some (.UnaryOp .USub (.Constant (.int 1) k p1) p2)) p3) (.ref a) (.ref s4.heap.objs.size)) (EP X pins σ Q) X.xe { s4 with heap := s4.heap.push { cls := .type "slice", data := .fields #[vl, vu, vs] } }
  refine tail_any (ops := [.ref a, .ref s4.heap.objs.size]) ht.typeIs (PyProof.Rows.slot_tuple_getitem.lookup) ?_ (by with_unfolding_all rfl)
  refine HT.es_tuple_rev ht (Heap.IsSliceOf.new _ vl vu vs) pl pu ps ?_ (by rw [List.size_toArray]; omega)
  refine ⟨.ref _, _, I5.laid (t' := s4.toks) (o := .tup xs.reverse) (fun b ob q => Heap.get?_push_of_some _ q) (Nat.le_refl _) ?_, rfl, q _ (I5.hok.fresh (Nat.le_refl _))⟩
  exact ⟨by rw [List.length_reverse]; exact hz, _, r.reverse, ⟨_, Heap.get?_push_size _ rfl, rfl, _, rfl⟩⟩
/-- z * 8 -/
def rep8 (z : Str) : Str := ⟨(List.replicate 8 z.cps).foldl (· ++ ·) #[]⟩
theorem rep8_len (z : Str) : (rep8 z).length = 8 * z.length := by
  show (#[] ++ z.cps ++ z.cps ++ z.cps ++ z.cps ++ z.cps ++ z.cps ++ z.cps ++ z.cps).size = 8 * z.cps.size
  rw [Array.size_append, Array.size_append, Array.size_append, Array.size_append, Array.size_append, Array.size_append, Array.size_append, Array.size_append]
  show 0 + z.cps.size + z.cps.size + z.cps.size + z.cps.size + z.cps.size + z.cps.size + z.cps.size + z.cps.size = _
  omega
def rMul8 : R2 := fun x y H Q => ∃ z : Str, x = .str z ∧ y = .int 8 ∧ 1 ≤ z.length ∧ z.length ≤ 1000 ∧ Q (.str (rep8 z)) H
theorem op_mul8 : OpR X (binaryOp .Mult) rMul8 := by
  intro pins s σ H x y v u Q I rx ry h
  obtain ⟨z, rfl, rfl, h1, h2, q⟩ := h
  obtain ⟨t, rfl⟩ := rx
  obtain ⟨t', rfl⟩ := ry
  have e : ((8 : Int) == 1 || z.length == 0) = false := by
    rw [show ((8 : Int) == 1) = false from rfl, Bool.false_or]
    exact beq_eq_false_iff_ne.mpr (by omega)
  have ht : Builtin.Str.tooLong (z.length * (8 : Int).toNat) = false := by
    refine decide_eq_false fun hh => ?_
    have : z.length * (8 : Int).toNat ≤ sizeLine := sz_of (by show z.length * 8 ≤ 100000; omega)
    omega
  refine P.mul_str (by decide) (fun _ _ => ?_) (fun _ _ => ht) ?_
  · show ¬ ((z.length : Int) > (2 ^ 63 - 1) / 8)
    omega
  · rw [if_neg (by decide), e]
    exact ⟨sz_of (by show (rep8 z).length ≤ 100000; rw [rep8_len z]; omega), .str (rep8 z), H, I.tok _, ⟨_, rfl⟩, q⟩
end
theorem all_app (es : List PyData) : ∀ ds : List PyData, PyData.showableAll (ds ++ es) = (PyData.showableAll ds && PyData.showableAll es) ∧ PyData.leavesShortAll 30 (ds ++ es) = (PyData.leavesShortAll 30 ds && PyData.leavesShortAll 30 es) ∧
      PyData.bulkAll (ds ++ es) = PyData.bulkAll ds + PyData.bulkAll es ∧ PyData.depthAll (ds ++ es) = max (PyData.depthAll ds) (PyData.depthAll es)
  | [] => by
    refine ⟨rfl, rfl, ?_, ?_⟩
    · show PyData.bulkAll es = 0 + PyData.bulkAll es
      omega
    · show PyData.depthAll es = max 0 (PyData.depthAll es)
      omega
  | x :: r => by
    obtain ⟨i1, i2, i3, i4⟩ := all_app es r
    refine ⟨?_, ?_, ?_, ?_⟩
    · show (x.showable && PyData.showableAll (r ++ es)) = (x.showable && PyData.showableAll r && PyData.showableAll es)
      rw [i1, Bool.and_assoc]
    · show (x.leavesShort 30 && PyData.leavesShortAll 30 (r ++ es)) = (x.leavesShort 30 && PyData.leavesShortAll 30 r && PyData.leavesShortAll 30 es)
      rw [i2, Bool.and_assoc]
    · show x.bulk + 1 + PyData.bulkAll (r ++ es) = x.bulk + 1 + PyData.bulkAll r + PyData.bulkAll es
      omega
    · show max x.depth (PyData.depthAll (r ++ es)) = max (max x.depth (PyData.depthAll r)) (PyData.depthAll es)
      omega
theorem all_rev : ∀ ds : List PyData, PyData.showableAll ds.reverse = PyData.showableAll ds ∧ PyData.leavesShortAll 30 ds.reverse = PyData.leavesShortAll 30 ds ∧ PyData.bulkAll ds.reverse = PyData.bulkAll ds ∧ PyData.depthAll ds.reverse = PyData.depthAll ds
  | [] => ⟨rfl, rfl, rfl, rfl⟩
  | x :: r => by
    obtain ⟨i1, i2, i3, i4⟩ := all_rev r
    obtain ⟨a1, a2, a3, a4⟩ := all_app [x] r.reverse
    rw [List.reverse_cons]
    refine ⟨?_, ?_, ?_, ?_⟩
    · rw [a1, i1]
      show (PyData.showableAll r && (x.showable && true)) = (x.showable && PyData.showableAll r)
      rw [Bool.and_true, Bool.and_comm]
    · rw [a2, i2]
      show (PyData.leavesShortAll 30 r && (x.leavesShort 30 && true)) = (x.leavesShort 30 && PyData.leavesShortAll 30 r)
      rw [Bool.and_true, Bool.and_comm]
    · rw [a3, i3]
      show PyData.bulkAll r + (x.bulk + 1 + 0) = x.bulk + 1 + PyData.bulkAll r
      omega
    · rw [a4, i4]
      show max (PyData.depthAll r) (max x.depth 0) = max x.depth (PyData.depthAll r)
      omega
theorem Fits.rev {n : Nat} {ds : List PyData} (h : Fits n ds) : Fits n ds.reverse := by
  obtain ⟨i1, i2, i3, i4⟩ := all_rev ds
  unfold Fits
  rw [i1, i2, i3, i4]
  exact h
theorem DdAll.rev {p : Option Sx} {H : Hp} : ∀ {vs : List V} {ds : List PyData}, DdAll p H vs ds → DdAll p H vs.reverse ds.reverse
  | _, _, .nil => .nil
  | _, _, .cons h r => by
    rw [List.reverse_cons, List.reverse_cons]
    exact (DdAll.rev r).append (.cons h .nil)
section
variable {S : Sx} {K : PySem.W.Frag} {σ : L2.St} {H : Hp} {te tf : TE} {ta : TA} {k j : Int} {D E : PyData → Prop} {L M : List PyData → Prop}
/-- t[lo:hi] of a tuple at a name, any bounds -/
theorem evp_cutG {i : Nat} {a : Addr} {ds : List PyData} {n : Nat} {tl th : TO} {lo hi : Option Int} (h : σ[i]? = some (some (.ref a))) (hd : Dd (some S) H (.ref a) (.tuple ds)) (f : Fits n ds)
    (hlo : ∀ H1 (Q : Option Int → Hp → Prop), Q lo H1 → tl σ H1 Q) (hhi : ∀ H1 (Q : Option Int → Hp → Prop), Q hi H1 → th σ H1 Q) : EvP S 0 (tSl (rSlA K) (tVar i) tl th) σ H (Tu n) := by
  intro H1 c x P c0 c1 Q q
  have hd1 := hd.xp x
  cases hd1 with
  | @tup _ xs _ na ha hxs =>
    refine ⟨.ref a, h, hlo H1 _ (hhi H1 _ ⟨a, xs, rfl, st_of ha, fun _ => ?_, fun _ t nt => ?_⟩)⟩
    · exact q _ _ H1 (Xp.refl _ _) (P.more (by omega)) (.tup na ha hxs) ⟨ds, rfl, f⟩
    · have e := Ex.new (o := .tup (cutV xs lo hi)) nt
      have hc : DdAll (some S) H1 (cutV xs lo hi) ((ds.drop (HT.sIx xs.length 0 lo)).take (HT.sIx xs.length xs.length hi - HT.sIx xs.length 0 lo)) := (hxs.drop _).take _
      exact q _ _ _ (Xp.ex e) ((P.up e).more (by omega)) (.tup (P.sn nt) upd_same (hc.up e)) ⟨_, rfl, (f.sub.1 _).sub.2 _⟩
theorem evp_rev {i : Nat} {a : Addr} {ds : List PyData} {n : Nat} (h : σ[i]? = some (some (.ref a))) (hd : Dd (some S) H (.ref a) (.tuple ds)) (f : Fits n ds) : EvP S 0 (tRevT K (tVar i)) σ H (Tu n) := by
  intro H1 c x P c0 c1 Q q
  have hd1 := hd.xp x
  cases hd1 with
  | @tup _ xs _ na ha hxs =>
    refine ⟨.ref a, h, a, xs, rfl, st_of ha, fun t nt => ?_⟩
    have e := Ex.new (o := .tup xs.reverse) nt
    exact q _ _ _ (Xp.ex e) ((P.up e).more (by omega)) (.tup (P.sn nt) upd_same (hxs.rev.up e)) ⟨_, rfl, f.rev⟩
theorem evl_two {A n : Nat} (h : EvPL S k te σ H (fun ds => AllFit n ds ∧ ds.length = A)) (hk : 0 ≤ k) (hA : A ≤ 1000) : EvPL S k (tOp rRep te (tC (.int 2))) σ H (fun ds => AllFit n ds ∧ ds.length = A + A) := by
  intro H1 c x P c0 c1 Q q
  refine h H1 c x P c0 c1 _ fun l vs ds H2 x2 P2 nl hl hds hD => ?_
  have l1 := hds.length
  have d1 := hD.2
  refine ⟨l, 2, vs, rfl, rfl, hl, by decide, by decide, sz_of (by show vs.length * 2 ≤ 100000; omega), fun a na => ?_⟩
  have e := Ex.new (o := .lst (List.replicate 2 vs).flatten) na
  have ev : (List.replicate 2 vs).flatten = vs ++ vs := by
    show vs ++ (vs ++ []) = vs ++ vs
    rw [List.append_nil]
  refine q a _ (ds ++ ds) _ (x2.trans (Xp.ex e)) (P2.up e) (P2.ne na) (by show upd H2 a (.lst (List.replicate 2 vs).flatten) a = some (.lst (vs ++ vs)); rw [upd_same, ev]) ((hds.append hds).up e) ⟨hD.1.app hD.1, by rw [List.length_append, d1]⟩
theorem evl_cut {i : Nat} {l : Addr} {vs : List V} {ds : List PyData} {n A : Nat} {u : Int} (h : σ[i]? = some (some (.ref l))) (nl : l ≠ S.p) (hl : H l = some (.lst vs)) (hd : DdAll (some S) H vs ds) (hL : AllFit n ds) (hu : 0 ≤ u) (hA : A = min u.toNat ds.length) :
    EvPL S 0 (tSl (rSlL K) (tVar i) tNoPart (tPart (tC (.int u)))) σ H (fun ds => AllFit n ds ∧ ds.length = A) := by
  intro H1 c x P c0 c1 Q q
  have hl1 := x _ _ nl hl
  have l1 := hd.length
  refine ⟨.ref l, h, u, rfl, l, vs, rfl, sq_of hl1, fun t nt => ?_⟩
  have e := Ex.new (o := .lst (cutV vs none (some u))) nt
  have hc : DdAll (some S) H1 (cutV vs none (some u)) (ds.take (min u.toNat ds.length)) := by
    unfold cutV
    rw [HT.sIx_none, List.drop_zero, Nat.sub_zero, show (some u) = some ((u.toNat : Nat) : Int) by rw [Int.toNat_of_nonneg hu], HT.sIx_nat, l1]
    exact (hd.xp x).take _
  refine q t _ _ _ (Xp.ex e) ((P.up e).more (by omega)) (P.ne nt) upd_same (hc.up e) ⟨fun d hd => hL d (List.mem_of_mem_take hd), ?_⟩
  rw [List.length_take, hA]
  omega
end
theorem PotS.tn {S : Sx} {H : Hp} {c : Int} (P : PotS S H c) {a : Addr} {xs : List V} (n : a ≠ S.p) (h : H a = some (.tup xs)) : ¬ out (some S) a := by
  rintro (z | z)
  · exact n z
  · obtain ⟨ys, e⟩ := P.2 a z
    rw [h] at e
    cases e
mutual
theorem TrAt.dd {S : Sx} {H : Hp} {c : Int} (P : PotS S H c) : ∀ {v : V} {t : Tr}, TrAt S.p H v t → Dd (some S) H v t.toD
  | _, _, .leaf n h => .tup (P.tn n h) h (.cons (.str _) (.cons (.str _) .nil))
  | _, _, .node n h r => .tup (P.tn n h) h (.cons (.str _) (TrAll.dd P r))
theorem TrAll.dd {S : Sx} {H : Hp} {c : Int} (P : PotS S H c) : ∀ {vs : List V} {ts : List Tr}, TrAll S.p H vs ts → DdAll (some S) H vs (Tr.toDs ts)
  | _, _, .nil => .nil
  | _, _, .cons h r => .cons (TrAt.dd P h) (TrAll.dd P r)
end
end Es
namespace PySem
/-! an own exception class over ValueError, called with names: its new, then its own init -/
section
open PySem.HandSPX
variable {prog : Program} {w : World} {A : Around} {E : Value → Shared → Prop} {R : Result → Shared → Prop} {hp : Heap} {gg : Array GenState} {dr : Drawn} {tt : Nat} {oo : OsState}
variable {nm qn : Str} {C N : Addr} {bs bm : List Value} {hd : Bool} {sn : List Str} {sub : List Value} {ab : Bool} {col : Option Bool} {dd : Option Addr} {k0 k1 k2 k3 k5 : Option Value} {us : List Value} {kw : List (Str × Value)}
theorem ek_check {M : Model} {Q : Unit → Shared → Prop} (same : ∀ Y : String, bm.contains (.type Y) = veTail.contains (.type Y)) (cl : hp.get? C = some (excClassObj nm qn C N bs bm hd sn sub ab col dd k0 k1 k2 k3 k5 "ValueError.__new__"))
    (z : Q () ⟨hp, gg, dr, tt, oo⟩) : wpAny M A (checkBuiltinCall "ValueError.__new__" ⟨.ref C :: us, kw⟩) Q E ⟨hp, gg, dr, tt, oo⟩ := by
  have FX := F.excBase_ValueError
  have inB : (Value.ref C :: bm).contains (.type "ValueError") = true := by rw [List.contains_cons, same, FX.hasB, Bool.or_true]
  have st := FX.noStar
  simp only [checkBuiltinCall, FX.newKind, FX.newSplit, FX.newRow]
  repeat (first | refine wpAny_loadPart_at cl ?_ | (refine wpAny_isSubtype_exc cl ?_; rw [inB]) | refine wpAny_staticBase_exc cl ?_ | refine wpAny_madeBy_exc cl ?_ | simp only [bne_self_eq_false, Bool.false_eq_true, if_false] | wp_step)
  exact z
theorem ek_new (same : ∀ Y : String, bm.contains (.type Y) = veTail.contains (.type Y)) (cl : hp.get? C = some (excClassObj nm qn C N bs bm hd sn sub ab col dd k0 k1 k2 k3 k5 "ValueError.__new__"))
    (z : R (.ok (.ret (.ref (hp.objs.size + 1)))) ⟨(hp.push (W.kdv_tup us)).push (excO C hp.objs.size), gg, dr, tt, oo⟩) (few : us.length ≤ sizeLine) :
    codeAny (model prog w) A (.builtin "ValueError.__new__" ⟨.ref C :: us, kw⟩) R ⟨hp, gg, dr, tt, oo⟩ := by
  have FX := F.excBase_ValueError
  have en := FX.ends
  have i1 : (Value.ref C :: bm).contains (.type "ValueError") = true := by rw [List.contains_cons, same, FX.hasB, Bool.or_true]
  have i2 : (Value.ref C :: bm).contains (.type "AttributeError") = false := by rw [List.contains_cons, same, FX.noAttr]; rfl
  have i3 : (Value.ref C :: bm).contains (.type "NameError") = false := by rw [List.contains_cons, same, FX.noName]; rfl
  refine codeAny_builtinAt FX.entry ?_
  unfold Builtin.«BaseException.__new__»
  refine wpAt_bind ?_
  show wpAt _ _ _ (stack >>= _) _ _ _
  refine wpAt_bind (wpAt_stack fun p below => wpAt_of_wpAny ?_)
  wp_walk
  refine wpAt_of_wpAny ?_
  rw [FX.owner]
  repeat (first | with_reducible refine wpAny_madeHere_exc FX.canon cl ?_ | with_reducible refine wpAny_loadPart_at cl ?_ | (with_reducible refine wpAny_isSubtype_exc cl ?_; first | rw [i1] | rw [i2] | rw [i3]) | wp_step)
  show R _ _
  rw [Heap.size_push]
  exact z
theorem ek_type {fI : Addr} {Q : Fin → Shared → Prop} (same : ∀ Y : String, bm.contains (.type Y) = veTail.contains (.type Y)) (cl : hp.get? C = some (excClassObj nm qn C N bs bm hd sn sub ab col dd k0 k1 k2 k3 k5 "ValueError.__new__"))
    (li : W.Looks (model prog w) hp (typeLookup (.ref C) "__init__") (some (.ref fI))) (bi : ∀ self, W.Looks (model prog w) hp (bindSpecial (.ref fI) self) (.ref fI, [self])) (few : us.length ≤ sizeLine)
    (z : codeAny (model prog w) A (.call (.ref fI) ⟨.ref (hp.objs.size + 1) :: us, kw⟩)
      (fun r s' => match r with | .ok (.ret v) => v = .none ∧ Q (.done (.ret (.ref (hp.objs.size + 1)))) s' | .ok _ => False | .error e => E e s') ⟨(hp.push (W.kdv_tup us)).push (excO C hp.objs.size), gg, dr, tt, oo⟩) :
    wpAny (model prog w) A (Builtin.«type.__call__» ⟨.ref C :: us, kw⟩) Q E ⟨hp, gg, dr, tt, oo⟩ := by
  have FX := F.excBase_ValueError
  repeat (first | with_reducible refine wpAny_loadPart_at cl ?_ | with_reducible refine wpAny_madeBy_exc cl ?_ | wp_step)
  refine codeAny_call_builtin_code (Code.quiet_builtin _ FX.quiet) (ek_check same cl ?_)
  refine ek_new same cl ?_ few
  show wpAny _ _ _ _ _ _
  have up : ∀ b o, hp.get? b = some o → ((hp.push (W.kdv_tup us)).push (excO C hp.objs.size)).get? b = some o := fun b o e => Heap.get?_push_of_some _ (Heap.get?_push_of_some _ e)
  have cl' := up _ _ cl
  have at' : ((hp.push (W.kdv_tup us)).push (excO C hp.objs.size)).get? (hp.objs.size + 1) = some (excO C hp.objs.size) := by heap_get
  have iC : (Value.ref C :: bm).contains (.ref C) = true := by simp
  have li' := li.keeps up
  have bi' := (bi (.ref (hp.objs.size + 1))).keeps up
  unfold isInstance
  repeat (first | with_reducible refine wpAny_loadPart_at at' ?_ | (with_reducible refine wpAny_isSubtype_exc cl' ?_; rw [iC]) | wp_step)
  show wpAny _ _ (typeLookup (.ref C) _) _ _ _
  refine li'.at ?_
  refine wpAny_holding (wpAny_bind (bi'.at ?_))
  refine wpAny_bind (wpAny_call (codeAny_mono z fun r s' y => ?_))
  rcases r with e | (v | _ | _ | _) <;> first | exact y | exact y.elim | skip
  obtain ⟨rfl, y⟩ := y
  first
    | exact wpAny_pure (wpAny_pure y)
    | (wp_walk; exact y)
theorem ek_call {fI : Addr} (same : ∀ Y : String, bm.contains (.type Y) = veTail.contains (.type Y)) (cl : hp.get? C = some (excClassObj nm qn C N bs bm hd sn sub ab col dd k0 k1 k2 k3 k5 "ValueError.__new__"))
    (li : W.Looks (model prog w) hp (typeLookup (.ref C) "__init__") (some (.ref fI))) (bi : ∀ self, W.Looks (model prog w) hp (bindSpecial (.ref fI) self) (.ref fI, [self])) (few : us.length ≤ sizeLine)
    (z : codeAny (model prog w) (A.under (.builtin "type.__call__" ⟨.ref C :: us, kw⟩)) (.call (.ref fI) ⟨.ref (hp.objs.size + 1) :: us, kw⟩) (W.InitBack (hp.objs.size + 1) R) ⟨(hp.push (W.kdv_tup us)).push (excO C hp.objs.size), gg, dr, tt, oo⟩) :
    codeAny (model prog w) A (.call (.ref C) ⟨us, kw⟩) R ⟨hp, gg, dr, tt, oo⟩ := by
  have a1 := tc_lookup
  have a2 := tc_bind (.ref C)
  have ty : (⟨hp, gg, dr, tt, oo⟩ : Shared).TypeIs (.ref C) "type" := ⟨_, cl, rfl⟩
  refine codeAny_of_tree ?_
  show wpAny _ _ (callAny (.ref C) _) _ _ _
  repeat (any_goals (first | assumption | with_reducible refine wpAny_loadPart_at cl ?_ | wp_step))
  refine ⟨rfl, ?_⟩
  refine codeAny_call_builtin_at (Code.quiet_builtin _ (by decide +kernel)) entry_typeCall (wpAny_check_type_call_sub cl (ek_type same cl li bi few ?_))
  refine codeAny_mono z fun r s' y => ?_
  rcases r with e | (v | _ | _ | _) <;> exact y
end
end PySem
namespace Es
open PySem PySem.Spec PyProof.Rows L2 Evl
section
variable {X : Cx}
/-- a class of the program's own over ValueError, called: its own init makes what sp says -/
theorem run_exo {pins : List (Addr × Obj)} {σ : L2.St} {H1 : Hp} {s1 : Shared} {Q : VK} {C fI : Addr} {k : Nat} {fd : FuncData} {ps : List Str} {sp : Sp} {us ws : List Value} {kw : List (Str × Value)} {vs : List V}
    (T : OexC X.K C) (iC : PySem.W.findIn X.K (.ref C) "__init__" = some (some (.ref fI))) (tI : PySem.W.typeIn X.K (.ref fI) = some (.type "function")) (F1 : FnOk X.prog X.w X.K X.mg X.base CX0 k fI fd ps sp) (hr : Room (k + 1) X.A)
    (I1 : Inv X pins σ H1 s1) (few : us.length ≤ sizeLine) (bd : ∀ (s : Shared) (a : Addr), X.K.In s.heap → BindsTo s fd ⟨.ref a :: us, kw⟩ (ps.zip (.ref a :: ws))) (r1 : Vals vs ws)
    (h : ∀ a, H1 a = none → sp (.ref a :: vs) (upd H1 a (exo a C none)) (fun v H2 => v = .non ∧ Q (.ref a) H2) E0) : wpAny (model X.prog X.w) X.A (call (.ref C) us kw) (EP X pins σ Q) X.xe s1 := by
  obtain ⟨nm, q, N, bs, bm, sn, sub, ab, col, dd, k0, k1, k2, k3, k5, hC, hbm⟩ := T.cls
  obtain ⟨hp, g, dr, tk, os⟩ := s1
  have hsz : hp.objs.size ≤ hp.objs.size + 1 := Nat.le_succ _
  have hq := h (hp.objs.size + 1) (I1.hok.fresh hsz)
  have hget : ((hp.push (PySem.W.kdv_tup us)).push (PySem.HandSPX.excO C hp.objs.size)).get? (hp.objs.size + 1) = some (PySem.HandSPX.excO C hp.objs.size) := by heap_get
  have I2 : Inv X pins σ (upd H1 (hp.objs.size + 1) (exo (hp.objs.size + 1) C none)) ⟨(hp.push (PySem.W.kdv_tup us)).push (PySem.HandSPX.excO C hp.objs.size), g, dr, tk, os⟩ :=
    I1.laid (t' := tk) (fun b o e => Heap.get?_push_of_some _ (Heap.get?_push_of_some _ e)) hsz (exo_ok hget)
  have r2 : Vals (V.ref (hp.objs.size + 1) :: vs) (Value.ref (hp.objs.size + 1) :: ws) := .cons rfl r1
  refine wpAny_call (PySem.ek_call (fun Y => PySem.HandSPX.refsVE_contains Y bm hbm) (I1.kIn _ _ hC) (PySem.W.looks_findIn I1.kIn iC) (fun self => PySem.W.bind_fn I1.kIn self tI) few
    (codeAny_mono (F1.run _ X.stack _ _ ⟨Value.ref (hp.objs.size + 1) :: us, kw⟩ (Value.ref (hp.objs.size + 1) :: ws) _ _ E0 (hr.make C us kw) (I2.env0.make C us kw) (bd _ _ I2.kIn) r2 hq) fun rs s' z => ?_))
  match rs, z with
  | .ok (.ret u), z =>
    obtain ⟨v, H2, J, rv, ev, q2⟩ := I2.after z
    subst ev
    exact ⟨rv, .ref (hp.objs.size + 1), H2, J, rfl, q2⟩
/-- C(e, ..) -/
def tXo (C : Addr) (sp : Sp) (ta : TA) : TE := fun σ H Q => ta σ H fun vs H1 => vs.length ≤ 1000 ∧ ∀ a, H1 a = none → sp (.ref a :: vs) (upd H1 a (exo a C none)) (fun v H2 => v = .non ∧ Q (.ref a) H2) E0
variable {x : Str} {p pos : Pos} {e : Expr} {es : List Expr} {kws : List Keyword} {ta : TA} {C fI : Addr} {k : Nat} {fd : FuncData} {ps ks : List Str} {sp : Sp}
theorem pe_exo (T : OexC X.K C) (iC : PySem.W.findIn X.K (.ref C) "__init__" = some (some (.ref fI))) (tI : PySem.W.typeIn X.K (.ref fI) = some (.type "function")) (F1 : FnOk X.prog X.w X.K X.mg X.base CX0 k fI fd ps sp) (hr : Room (k + 1) X.A)
    (bd : ∀ (s : Shared) (us : List Value), X.K.In s.heap → us.length = ps.length → BindsTo s fd ⟨us, []⟩ (ps.zip us)) (hg : Gl X x) (hm : X.mg x = some (.ref C)) (ha : PA X (e :: es) ta)
    (hdb : (x == ("__debug__" : Str)) = false := by decide) (he : starEach (e :: es) X.env = (false, eval e X.env) :: starEach es X.env := by rfl) (hpl : (backTo pos (starEach es X.env)).any (·.1) = false := by rfl) :
    PE X (.Call (.Name x p) (e :: es) [] pos) (tXo C sp ta) := by
  refine ⟨fun pins s σ H Q I h => ?_⟩
  refine wpAny_Call_Name_kw (ld_glob I hg hm ?_ hdb)
  refine PySem.W.callWith_K (h₀ := X.base) I.ok.mod.kin T.kC (thn (ha.run pos pins s σ H _ I h) ?_) he hpl
  rintro us s1 ⟨vs, H1, I1, r1, hz, q⟩
  refine ⟨I1.kIn, ?_⟩
  have hus : us.length ≤ sizeLine := by
    rw [← r1.length]
    exact sz_of (by omega)
  have fresh : H1 (s1.heap.objs.size + 1) = none := I1.hok.fresh (Nat.le_succ _)
  have hl := F1.len _ _ _ _ (q (s1.heap.objs.size + 1) fresh)
  refine run_exo T iC tI F1 hr I1 hus (fun s a ki => bd s (.ref a :: us) ki ?_) r1 q
  rw [List.length_cons, ← r1.length]
  exact hl
/-- C(k = e, ..) -/
theorem pe_exoK (T : OexC X.K C) (iC : PySem.W.findIn X.K (.ref C) "__init__" = some (some (.ref fI))) (tI : PySem.W.typeIn X.K (.ref fI) = some (.type "function")) (F1 : FnOk X.prog X.w X.K X.mg X.base CX0 k fI fd ps sp) (hr : Room (k + 1) X.A)
    (bd : ∀ (s : Shared) (a : Addr) (ws : List Value), X.K.In s.heap → ws.length + 1 = ps.length → BindsTo s fd ⟨[.ref a], ks.zip ws⟩ (ps.zip (.ref a :: ws))) (hg : Gl X x) (hm : X.mg x = some (.ref C)) (hkw : PK X kws ta)
    (hall : (backToKw pos (keywordEach kws X.env)).all (·.1.isSome) = true := by rfl) (hks : (backToKw pos (keywordEach kws X.env)).filterMap (·.1) = ks := by rfl)
    (hdb : (x == ("__debug__" : Str)) = false := by decide) (hpl : ((backTo pos (starEach [] X.env)).any (·.1) || (backToKw pos (keywordEach kws X.env)).any (·.1.isNone)) = false := by rfl) :
    PE X (.Call (.Name x p) [] kws pos) (tXo C sp ta) := by
  refine ⟨fun pins s σ H Q I h => ?_⟩
  refine wpAny_Call_Name_kw (ld_glob I hg hm ?_ hdb)
  refine PySem.W.callWith_KW0 (h₀ := X.base) I.ok.mod.kin T.kC hall (thn (hkw.run pos pins s σ H _ I h) ?_) hpl
  rintro ws s1 ⟨vs, H1, I1, r1, hz, q⟩
  refine ⟨I1.kIn, ?_⟩
  rw [hks]
  have fresh : H1 (s1.heap.objs.size + 1) = none := I1.hok.fresh (Nat.le_succ _)
  have hl := F1.len _ _ _ _ (q (s1.heap.objs.size + 1) fresh)
  refine run_exo (us := []) T iC tI F1 hr I1 (Nat.zero_le _) (fun s a ki => bd s a ws ki ?_) r1 q
  rw [← r1.length]
  exact hl
/-- C(), no init of its own -/
def tXo0 (C : Addr) : TE := fun _ H Q => ∀ a, H a = none → Q (.ref a) (upd H a (exo a C none))
theorem pe_exo0 (q : PySem.W.excIn X.K C PySem.HandSPX.veTail "ValueError.__new__" = true) (kC : PySem.W.keepIn X.K (.ref C) = true) (hg : Gl X x) (hm : X.mg x = some (.ref C)) (hdb : (x == ("__debug__" : Str)) = false := by decide) :
    PE X (.Call (.Name x p) [] [] pos) (tXo0 C) := by
  refine ⟨fun pins s σ H Q I h => ?_⟩
  refine wpAny_Call_Name_kw (ld_glob I hg hm ?_ hdb)
  refine PySem.W.callWith_K0 I.kIn kC ?_
  show wpAny _ _ (call (.ref C) []) _ _ _
  obtain ⟨bm, N, nm, qn, bs, hdct, sn, sub, ab, col, dd, k0, k1, k2, k3, k5, mN, hC, hN, hni, T⟩ := exc_obj I.kIn q
  refine wpAny_call_exc_subT F.excBase_ValueError T hC hN hni (fun h' a hm => ?_) (by show 0 ≤ sizeLine; exact Nat.zero_le _)
  have hn : H a = none := I.hok.gone hm.new
  obtain ⟨t, ht, _, _⟩ := hm.there
  exact ⟨.ref a, upd H a (exo a C none), I.laidN hm.keeps hm.new hn (exo_ok ht), rfl, h a hn⟩
/-- what isinstance and a field's reading ask of such a class -/
structure KitC (K : PySem.W.Frag) (C : Addr) : Prop where
  cl : (PySem.W.clsIn K C).isSome = true
  ga : PySem.W.findIn K (.ref C) "__getattribute__" = some (some (.builtin "BaseException.__getattribute__"))
  gg : PySem.W.findIn K (.ref C) "__getattr__" = some none
  ex : PySem.W.subIn K (.ref C) (.type "BaseException") = some true
  ca : PySem.W.findIn K (.ref C) "__class__" = some (some (.builtin "object.__class__"))
  sp : PySem.W.specialIn K (.builtin "object.__class__") "__get__" = some (some (.builtin "getset_descriptor.__get__"))
  tk : PySem.W.takesIn K (.builtin "object.__class__") = some true
  mr : PySem.W.mroIn K C (.type "object") = some true
  hd : PySem.W.hasDictIn K C = true
def kitCB (K : PySem.W.Frag) (C : Addr) : Bool :=
  (PySem.W.clsIn K C).isSome && (decide (PySem.W.findIn K (.ref C) "__getattribute__" = some (some (.builtin "BaseException.__getattribute__"))) && (decide (PySem.W.findIn K (.ref C) "__getattr__" = some none) &&
    (decide (PySem.W.subIn K (.ref C) (.type "BaseException") = some true) && (decide (PySem.W.findIn K (.ref C) "__class__" = some (some (.builtin "object.__class__"))) &&
    (decide (PySem.W.specialIn K (.builtin "object.__class__") "__get__" = some (some (.builtin "getset_descriptor.__get__"))) && (decide (PySem.W.takesIn K (.builtin "object.__class__") = some true) &&
    (decide (PySem.W.mroIn K C (.type "object") = some true) && PySem.W.hasDictIn K C)))))))
theorem kitC_of {K : PySem.W.Frag} {C : Addr} (h : kitCB K C = true) : KitC K C := by
  unfold kitCB at h
  simp only [Bool.and_eq_true, decide_eq_true_eq] at h
  obtain ⟨h1, h2, h3, h4, h5, h6, h7, h8, h9⟩ := h
  exact ⟨h1, h2, h3, h4, h5, h6, h7, h8, h9⟩
/-- the exception at a: of the class at C, its dict as it stands -/
def ExAt (H : Hp) (a C : Addr) (fs : Option (List (Str × V))) : Prop := match fs with
  | none => H a = some (exo a C none)
  | some fs => ∃ d, H a = some (exo a C (some d)) ∧ H d = some (exd d fs)
theorem ExAt.up {H H' : Hp} {a C : Addr} {fs : Option (List (Str × V))} (h : ExAt H a C fs) (e : Ex H H') : ExAt H' a C fs := by
  cases fs with
  | none => exact e _ _ h
  | some fs =>
    obtain ⟨d, h1, h2⟩ := h
    exact ⟨d, e _ _ h1, e _ _ h2⟩
theorem ExAt.inst {pins : List (Addr × Obj)} {σ : L2.St} {H : Hp} {s : Shared} {a C : Addr} {fs : Option (List (Str × V))} (I : Inv X pins σ H s) (h : ExAt H a C fs) : ∃ ox od, PySem.W.InstAt s.heap a ox C od := by
  cases fs with
  | none =>
    obtain ⟨t1, ho⟩ := exo_at I.hok h
    exact ⟨_, none, ho, rfl, rfl, trivial⟩
  | some fs =>
    obtain ⟨d, h1, h2⟩ := h
    obtain ⟨t1, ho⟩ := exo_at I.hok h1
    obtain ⟨mA, hns, rel⟩ := exd_at I.hok h2
    obtain ⟨od, hod, _⟩ := lookIn_ns hns
    exact ⟨_, some od, ho, rfl, rfl, hod⟩
/-- isinstance(err, c) -/
def rIsX (K : PySem.W.Frag) : List V → Hp → VK → Prop := fun xs H Q => ∃ (a C : Addr) (fs : Option (List (Str × V))) (c : V) (u : Value) (b : Bool), xs = [.ref a, c] ∧ ExAt H a C fs ∧ KitC K C ∧ ClsV c u ∧ PySem.W.kitOne K (.ref C) u = some b ∧ Q (.bl b) H
theorem cr_isX : CallR X (.builtin "isinstance") (rIsX X.K) := by
  intro pins s σ H xs us Q I r h
  obtain ⟨a, C, fs, c, u, b, rfl, hx, kc, hc, e, q⟩ := h
  obtain ⟨u1, u2, rfl, r1, r2⟩ := vals2 r
  have e2 := hc.eq r2
  subst e2
  cases (show u1 = Value.ref a from r1)
  obtain ⟨ox, od, J⟩ := hx.inst I
  exact PySem.W.kia_one (PySem.W.kitx_exc kc.cl kc.ga kc.gg kc.ex kc.ca kc.sp kc.tk kc.mr) I.kIn J e (fun z => nomatch z) fun tk => ⟨.bl b, H, I.tok tk, rfl, q⟩
/-- err.f -/
def tXa (K : PySem.W.Frag) (f : Str) (te : TE) : TE := fun σ H Q => te σ H fun y H1 => ∃ (a C : Addr) (fs : List (Str × V)) (v : V), y = .ref a ∧ ExAt H1 a C (some fs) ∧ KitC K C ∧ PySem.W.findIn K (.ref C) f = some none ∧ fs.lookup f = some v ∧ Q v H1
theorem pe_xa {n : Str} {o : Expr} {te : TE} (he : PE X o te) (hb : attributeBase o n X.env (eval o X.env) = eval o X.env := by rfl) : PE X (.Attribute o n pos) (tXa X.K n te) := by
  refine ⟨fun pins s σ H Q I h => ?_⟩
  refine attr_of hb (thn (he.run pins s σ H _ I h) ?_)
  rintro u s1 ⟨y, H1, I1, ry, a, C, fs, v, rfl, ⟨d, h1, h2⟩, kc, hno, l, q⟩
  cases (show u = Value.ref a from ry)
  obtain ⟨t1, ho⟩ := exo_at I1.hok h1
  obtain ⟨mA, hns, rel⟩ := exd_at I1.hok h2
  obtain ⟨od, hod, hl⟩ := lookIn_ns hns
  obtain ⟨u, hu, ru⟩ := RelO.some_of (v := v) (o := mA n) (by rw [← l]; exact rel n)
  have J : PySem.W.InstAt s1.heap a _ C (some od) := ⟨ho, rfl, rfl, hod⟩
  exact HandSPX.exc_get I1.kIn J kc.ga kc.gg kc.ex (PySem.W.findObj_own kc.hd hno rfl (by rw [hl, hu])) (handed_of ru) ⟨v, H1, I1.tok _, ru, q⟩
end
end Es
namespace Es
open PySem PySem.Spec PyProof.Rows L2 Evl
section
variable {X : Cx}
/-- two lists joined: the new one's place is none of the interpreter's own -/
def rCat1 : R2 := fun x y H Q => ∃ l b xs zs, x = .ref l ∧ y = .ref b ∧ H l = some (.lst xs) ∧ H b = some (.lst zs) ∧ xs.length + zs.length ≤ 1000 ∧ ∀ p, p ≠ sysModules → H p = none → Q (.ref p) (upd H p (.lst (xs ++ zs)))
theorem op_cat1 : OpR X (binaryOp .Add) rCat1 := by
  intro pins s σ H x y v u Q I rx ry h
  obtain ⟨l, b, xs, zs, rfl, rfl, ha, hb, hz, q⟩ := h
  cases rx
  cases ry
  obtain ⟨_, is, n, r, len1, e⟩ := I.lstM ha
  obtain ⟨_, js, m, r', len2, e'⟩ := I.lstM hb
  have sz : is.toArray.size + js.toArray.size ≤ sizeLine := by
    rw [List.size_toArray, List.size_toArray]
    exact sz_of (by omega)
  refine PySem.P.add_list e e' ?_ sz
  rw [show is.toArray ++ js.toArray = (is ++ js).toArray by simp]
  refine ⟨.ref _, _, I.lnew (t' := s.toks) (r.append r') ?_, rfl, q _ (Nat.ne_of_gt I.big) I.fresh⟩
  rw [List.length_append]
  exact sz_of (by omega)
/-- [v] * 12, likewise -/
def rRep12 : R2 := fun x y H Q => ∃ l v, x = .ref l ∧ y = .int 12 ∧ H l = some (.lst [v]) ∧ ∀ p, p ≠ sysModules → H p = none → Q (.ref p) (upd H p (.lst (List.replicate 12 v)))
theorem op_rep12 : OpR X (binaryOp .Mult) rRep12 := by
  intro pins s σ H x y v u Q I rx ry h
  obtain ⟨l, z, rfl, rfl, ha, q⟩ := h
  cases rx
  obtain ⟨t, rfl⟩ := ry
  obtain ⟨_, is, n, r, _, e⟩ := I.lstM ha
  obtain ⟨y, rfl, ry⟩ := vals1 r
  have many : Vals (List.replicate 12 z) (List.replicate 12 y) := .cons ry (.cons ry (.cons ry (.cons ry (.cons ry (.cons ry (.cons ry (.cons ry (.cons ry (.cons ry (.cons ry (.cons ry .nil)))))))))))
  refine wpAny_binaryOp_repeat_ref (T := "list") (U := "int") (by decide) ⟨_, e, rfl⟩ (fun s' => typeIs_int s' 12 t) noFill_list_mul F.fills_int_mul F.slot_int_rmul repeat_list F.slot_int_index.lookup ?_
  refine call_meets F.slot_int_rmul (typeIs_int s 12 t) F.entry_int_rmul (F.args_int_rmul_2 _ _) (int___rmul___int_list 12 t l #[y] n) ⟨e, rfl, ⟨_, e, rfl⟩, ?_⟩
  refine call_meets F.slot_list_mul ⟨_, e, rfl⟩ F.entry_list_mul (F.args_list_mul_2 _ _) (AutoListH.list___mul___list_int_3 l #[y] n 12 t (by decide) (by show ¬ 1 * 12 > (2 ^ 63 - 1) / 8; decide) (by show ¬ Builtin.List.listTooLong (1 * 12) = true; decide)) ⟨e, ?_⟩
  exact ⟨.ref _, _, I.lnew (t' := s.toks) many (by show 12 ≤ sizeLine; decide), rfl, q _ (Nat.ne_of_gt I.big) I.fresh⟩
end
end Es
namespace K59
open PySem PySem.Spec PyProof.Rows L2 Evl Es
def topS (i : Nat) : Stmt := PySem.Challenge.pw_errorspans_k59_errors_made_by_hand.main.body.getD i (.Pass ⟨0, 0, 0, 0⟩)
def clsB : Stmt → List Stmt
  | .ClassDef _ _ _ body _ _ _ _ _ _ _ => body
  | _ => []
def initS (i : Nat) : Stmt := (clsB (topS i)).getD 0 (.Pass ⟨0, 0, 0, 0⟩)
abbrev sPot : Stmt := topS 20
abbrev sTake : Stmt := topS 21
abbrev sOf : Stmt := topS 22
abbrev sMade : Stmt := topS 23
abbrev sNamed : Stmt := topS 24
abbrev sMarks : Stmt := topS 25
abbrev sVals : Stmt := topS 26
abbrev sRight : Stmt := topS 27
abbrev sLaw : Stmt := topS 28
/-- what __init__ promises: the value is kept under its name -/
def spInit (C : Addr) (g : Str) : Sp := fun vs H Q _ => ∃ (a : Addr) (v : V), vs = [.ref a, v] ∧ H a = some (exo a C none) ∧ ∀ dx, H dx = none → dx ≠ a → Q .non (upd (upd H dx (exd dx [(g, v)])) a (exo a C (some dx)))
/-- a class with a value -/
structure ErrI (K : PySem.W.Frag) (mg : Str → Option Value) (x qual g : Str) (st : Stmt) (C fI : Addr) (fd : FuncData) : Prop where
  cg : mg x = some (.ref C)
  T : OexC K C
  kit : KitC K C
  no : PySem.W.findIn K (.ref C) g = some none
  iC : PySem.W.findIn K (.ref C) "__init__" = some (some (.ref fI))
  tI : PySem.W.typeIn K (.ref fI) = some (.type "function")
  fn : Fun K "__init__" qual st fI fd
/-- a class without one -/
structure Err0 (K : PySem.W.Frag) (mg : Str → Option Value) (x : Str) (C : Addr) : Prop where
  cg : mg x = some (.ref C)
  ei : PySem.W.excIn K C PySem.HandSPX.veTail "ValueError.__new__" = true
  kC : PySem.W.keepIn K (.ref C) = true
  kit : KitC K C
section
variable {P : Program} {w : World} {K : PySem.W.Frag} {mg : Str → Option Value} {base : Heap}
theorem scI_BadGrammar : FnScope ["self", "field"] ["self", "field"] (defScope (initS 2)) := ⟨rfl, rfl, rfl, by decide +kernel, rfl, by decide +kernel, by decide +kernel⟩
theorem okI_BadGrammar {f C : Addr} {fd : FuncData} {k : Nat} (T : ErrI K mg "BadGrammar" "BadGrammar.__init__" "field" (initS 2) C f fd) : FnOk P w K mg base CX0 (k + 1) f fd ["self", "field"] (spInit C "field") := by
  refine T.fn.ok scI_BadGrammar (fun vs H Q E h => ?_) (fun cdv A outer s H vs Q E hr h => ?_)
  · obtain ⟨a, v, rfl, _⟩ := h
    rfl
  · obtain ⟨a, v, rfl, ha, q⟩ := h
    refine ⟨_, pss_one (ps_ost (pv 0) (pv 1)), ?_⟩
    exact ⟨v, rfl, .ref a, rfl, a, C, rfl, T.T, T.no, .inl ⟨ha, fun dx n ne => q dx n ne⟩⟩
theorem bp_BadGrammar {f C : Addr} {fd : FuncData} (T : ErrI K mg "BadGrammar" "BadGrammar.__init__" "field" (initS 2) C f fd) (s : Shared) (us : List Value) (ki : K.In s.heap) (hl : us.length = ["self", "field"].length) : BindsTo s fd ⟨us, []⟩ ((["self", "field"] : List Str).zip us) := by
  have b : Binds K fd ["self", "field"] [] := T.fn.binds fun _ _ _ _ _ _ us hl => match us, hl with | [_, _], _ => rfl
  have := b s us ki (by rw [List.append_nil]; exact hl)
  rwa [List.append_nil] at this
theorem bk_BadGrammar {f C : Addr} {fd : FuncData} (T : ErrI K mg "BadGrammar" "BadGrammar.__init__" "field" (initS 2) C f fd) (s : Shared) (a : Addr) (ws : List Value) (ki : K.In s.heap) (hl : ws.length + 1 = (["self", "field"] : List Str).length) : BindsTo s fd ⟨[.ref a], (["field"] : List Str).zip ws⟩ ((["self", "field"] : List Str).zip (.ref a :: ws)) := by
  obtain ⟨oc, od, kV, dc, pm, an, cd, ct, sl, rfl, lk, hcd⟩ := T.fn.ex
  match ws, hl with
  | [_], _ => exact .of_eq rfl
theorem scI_NoBlock : FnScope ["self", "name"] ["self", "name"] (defScope (initS 3)) := ⟨rfl, rfl, rfl, by decide +kernel, rfl, by decide +kernel, by decide +kernel⟩
theorem okI_NoBlock {f C : Addr} {fd : FuncData} {k : Nat} (T : ErrI K mg "NoBlock" "NoBlock.__init__" "name" (initS 3) C f fd) : FnOk P w K mg base CX0 (k + 1) f fd ["self", "name"] (spInit C "name") := by
  refine T.fn.ok scI_NoBlock (fun vs H Q E h => ?_) (fun cdv A outer s H vs Q E hr h => ?_)
  · obtain ⟨a, v, rfl, _⟩ := h
    rfl
  · obtain ⟨a, v, rfl, ha, q⟩ := h
    refine ⟨_, pss_one (ps_ost (pv 0) (pv 1)), ?_⟩
    exact ⟨v, rfl, .ref a, rfl, a, C, rfl, T.T, T.no, .inl ⟨ha, fun dx n ne => q dx n ne⟩⟩
theorem bp_NoBlock {f C : Addr} {fd : FuncData} (T : ErrI K mg "NoBlock" "NoBlock.__init__" "name" (initS 3) C f fd) (s : Shared) (us : List Value) (ki : K.In s.heap) (hl : us.length = ["self", "name"].length) : BindsTo s fd ⟨us, []⟩ ((["self", "name"] : List Str).zip us) := by
  have b : Binds K fd ["self", "name"] [] := T.fn.binds fun _ _ _ _ _ _ us hl => match us, hl with | [_, _], _ => rfl
  have := b s us ki (by rw [List.append_nil]; exact hl)
  rwa [List.append_nil] at this
theorem bk_NoBlock {f C : Addr} {fd : FuncData} (T : ErrI K mg "NoBlock" "NoBlock.__init__" "name" (initS 3) C f fd) (s : Shared) (a : Addr) (ws : List Value) (ki : K.In s.heap) (hl : ws.length + 1 = (["self", "name"] : List Str).length) : BindsTo s fd ⟨[.ref a], (["name"] : List Str).zip ws⟩ ((["self", "name"] : List Str).zip (.ref a :: ws)) := by
  obtain ⟨oc, od, kV, dc, pm, an, cd, ct, sl, rfl, lk, hcd⟩ := T.fn.ex
  match ws, hl with
  | [_], _ => exact .of_eq rfl
theorem scI_NotPrefix : FnScope ["self", "place"] ["self", "place"] (defScope (initS 4)) := ⟨rfl, rfl, rfl, by decide +kernel, rfl, by decide +kernel, by decide +kernel⟩
theorem okI_NotPrefix {f C : Addr} {fd : FuncData} {k : Nat} (T : ErrI K mg "NotPrefix" "NotPrefix.__init__" "place" (initS 4) C f fd) : FnOk P w K mg base CX0 (k + 1) f fd ["self", "place"] (spInit C "place") := by
  refine T.fn.ok scI_NotPrefix (fun vs H Q E h => ?_) (fun cdv A outer s H vs Q E hr h => ?_)
  · obtain ⟨a, v, rfl, _⟩ := h
    rfl
  · obtain ⟨a, v, rfl, ha, q⟩ := h
    refine ⟨_, pss_one (ps_ost (pv 0) (pv 1)), ?_⟩
    exact ⟨v, rfl, .ref a, rfl, a, C, rfl, T.T, T.no, .inl ⟨ha, fun dx n ne => q dx n ne⟩⟩
theorem bp_NotPrefix {f C : Addr} {fd : FuncData} (T : ErrI K mg "NotPrefix" "NotPrefix.__init__" "place" (initS 4) C f fd) (s : Shared) (us : List Value) (ki : K.In s.heap) (hl : us.length = ["self", "place"].length) : BindsTo s fd ⟨us, []⟩ ((["self", "place"] : List Str).zip us) := by
  have b : Binds K fd ["self", "place"] [] := T.fn.binds fun _ _ _ _ _ _ us hl => match us, hl with | [_, _], _ => rfl
  have := b s us ki (by rw [List.append_nil]; exact hl)
  rwa [List.append_nil] at this
theorem bk_NotPrefix {f C : Addr} {fd : FuncData} (T : ErrI K mg "NotPrefix" "NotPrefix.__init__" "place" (initS 4) C f fd) (s : Shared) (a : Addr) (ws : List Value) (ki : K.In s.heap) (hl : ws.length + 1 = (["self", "place"] : List Str).length) : BindsTo s fd ⟨[.ref a], (["place"] : List Str).zip ws⟩ ((["self", "place"] : List Str).zip (.ref a :: ws)) := by
  obtain ⟨oc, od, kV, dc, pm, an, cd, ct, sl, rfl, lk, hcd⟩ := T.fn.ex
  match ws, hl with
  | [_], _ => exact .of_eq rfl
theorem scI_NoSolution : FnScope ["self", "number"] ["self", "number"] (defScope (initS 5)) := ⟨rfl, rfl, rfl, by decide +kernel, rfl, by decide +kernel, by decide +kernel⟩
theorem okI_NoSolution {f C : Addr} {fd : FuncData} {k : Nat} (T : ErrI K mg "NoSolution" "NoSolution.__init__" "number" (initS 5) C f fd) : FnOk P w K mg base CX0 (k + 1) f fd ["self", "number"] (spInit C "number") := by
  refine T.fn.ok scI_NoSolution (fun vs H Q E h => ?_) (fun cdv A outer s H vs Q E hr h => ?_)
  · obtain ⟨a, v, rfl, _⟩ := h
    rfl
  · obtain ⟨a, v, rfl, ha, q⟩ := h
    refine ⟨_, pss_one (ps_ost (pv 0) (pv 1)), ?_⟩
    exact ⟨v, rfl, .ref a, rfl, a, C, rfl, T.T, T.no, .inl ⟨ha, fun dx n ne => q dx n ne⟩⟩
theorem bp_NoSolution {f C : Addr} {fd : FuncData} (T : ErrI K mg "NoSolution" "NoSolution.__init__" "number" (initS 5) C f fd) (s : Shared) (us : List Value) (ki : K.In s.heap) (hl : us.length = ["self", "number"].length) : BindsTo s fd ⟨us, []⟩ ((["self", "number"] : List Str).zip us) := by
  have b : Binds K fd ["self", "number"] [] := T.fn.binds fun _ _ _ _ _ _ us hl => match us, hl with | [_, _], _ => rfl
  have := b s us ki (by rw [List.append_nil]; exact hl)
  rwa [List.append_nil] at this
theorem bk_NoSolution {f C : Addr} {fd : FuncData} (T : ErrI K mg "NoSolution" "NoSolution.__init__" "number" (initS 5) C f fd) (s : Shared) (a : Addr) (ws : List Value) (ki : K.In s.heap) (hl : ws.length + 1 = (["self", "number"] : List Str).length) : BindsTo s fd ⟨[.ref a], (["number"] : List Str).zip ws⟩ ((["self", "number"] : List Str).zip (.ref a :: ws)) := by
  obtain ⟨oc, od, kV, dc, pm, an, cd, ct, sl, rfl, lk, hcd⟩ := T.fn.ex
  match ws, hl with
  | [_], _ => exact .of_eq rfl
theorem scI_NoError : FnScope ["self", "number"] ["self", "number"] (defScope (initS 6)) := ⟨rfl, rfl, rfl, by decide +kernel, rfl, by decide +kernel, by decide +kernel⟩
theorem okI_NoError {f C : Addr} {fd : FuncData} {k : Nat} (T : ErrI K mg "NoError" "NoError.__init__" "number" (initS 6) C f fd) : FnOk P w K mg base CX0 (k + 1) f fd ["self", "number"] (spInit C "number") := by
  refine T.fn.ok scI_NoError (fun vs H Q E h => ?_) (fun cdv A outer s H vs Q E hr h => ?_)
  · obtain ⟨a, v, rfl, _⟩ := h
    rfl
  · obtain ⟨a, v, rfl, ha, q⟩ := h
    refine ⟨_, pss_one (ps_ost (pv 0) (pv 1)), ?_⟩
    exact ⟨v, rfl, .ref a, rfl, a, C, rfl, T.T, T.no, .inl ⟨ha, fun dx n ne => q dx n ne⟩⟩
theorem bp_NoError {f C : Addr} {fd : FuncData} (T : ErrI K mg "NoError" "NoError.__init__" "number" (initS 6) C f fd) (s : Shared) (us : List Value) (ki : K.In s.heap) (hl : us.length = ["self", "number"].length) : BindsTo s fd ⟨us, []⟩ ((["self", "number"] : List Str).zip us) := by
  have b : Binds K fd ["self", "number"] [] := T.fn.binds fun _ _ _ _ _ _ us hl => match us, hl with | [_, _], _ => rfl
  have := b s us ki (by rw [List.append_nil]; exact hl)
  rwa [List.append_nil] at this
theorem bk_NoError {f C : Addr} {fd : FuncData} (T : ErrI K mg "NoError" "NoError.__init__" "number" (initS 6) C f fd) (s : Shared) (a : Addr) (ws : List Value) (ki : K.In s.heap) (hl : ws.length + 1 = (["self", "number"] : List Str).length) : BindsTo s fd ⟨[.ref a], (["number"] : List Str).zip ws⟩ ((["self", "number"] : List Str).zip (.ref a :: ws)) := by
  obtain ⟨oc, od, kV, dc, pm, an, cd, ct, sl, rfl, lk, hcd⟩ := T.fn.ex
  match ws, hl with
  | [_], _ => exact .of_eq rfl
theorem scI_UnknownToken : FnScope ["self", "token"] ["self", "token"] (defScope (initS 7)) := ⟨rfl, rfl, rfl, by decide +kernel, rfl, by decide +kernel, by decide +kernel⟩
theorem okI_UnknownToken {f C : Addr} {fd : FuncData} {k : Nat} (T : ErrI K mg "UnknownToken" "UnknownToken.__init__" "token" (initS 7) C f fd) : FnOk P w K mg base CX0 (k + 1) f fd ["self", "token"] (spInit C "token") := by
  refine T.fn.ok scI_UnknownToken (fun vs H Q E h => ?_) (fun cdv A outer s H vs Q E hr h => ?_)
  · obtain ⟨a, v, rfl, _⟩ := h
    rfl
  · obtain ⟨a, v, rfl, ha, q⟩ := h
    refine ⟨_, pss_one (ps_ost (pv 0) (pv 1)), ?_⟩
    exact ⟨v, rfl, .ref a, rfl, a, C, rfl, T.T, T.no, .inl ⟨ha, fun dx n ne => q dx n ne⟩⟩
theorem bp_UnknownToken {f C : Addr} {fd : FuncData} (T : ErrI K mg "UnknownToken" "UnknownToken.__init__" "token" (initS 7) C f fd) (s : Shared) (us : List Value) (ki : K.In s.heap) (hl : us.length = ["self", "token"].length) : BindsTo s fd ⟨us, []⟩ ((["self", "token"] : List Str).zip us) := by
  have b : Binds K fd ["self", "token"] [] := T.fn.binds fun _ _ _ _ _ _ us hl => match us, hl with | [_, _], _ => rfl
  have := b s us ki (by rw [List.append_nil]; exact hl)
  rwa [List.append_nil] at this
theorem bk_UnknownToken {f C : Addr} {fd : FuncData} (T : ErrI K mg "UnknownToken" "UnknownToken.__init__" "token" (initS 7) C f fd) (s : Shared) (a : Addr) (ws : List Value) (ki : K.In s.heap) (hl : ws.length + 1 = (["self", "token"] : List Str).length) : BindsTo s fd ⟨[.ref a], (["token"] : List Str).zip ws⟩ ((["self", "token"] : List Str).zip (.ref a :: ws)) := by
  obtain ⟨oc, od, kV, dc, pm, an, cd, ct, sl, rfl, lk, hcd⟩ := T.fn.ex
  match ws, hl with
  | [_], _ => exact .of_eq rfl
theorem scI_BadText : FnScope ["self", "value"] ["self", "value"] (defScope (initS 9)) := ⟨rfl, rfl, rfl, by decide +kernel, rfl, by decide +kernel, by decide +kernel⟩
theorem okI_BadText {f C : Addr} {fd : FuncData} {k : Nat} (T : ErrI K mg "BadText" "BadText.__init__" "value" (initS 9) C f fd) : FnOk P w K mg base CX0 (k + 1) f fd ["self", "value"] (spInit C "value") := by
  refine T.fn.ok scI_BadText (fun vs H Q E h => ?_) (fun cdv A outer s H vs Q E hr h => ?_)
  · obtain ⟨a, v, rfl, _⟩ := h
    rfl
  · obtain ⟨a, v, rfl, ha, q⟩ := h
    refine ⟨_, pss_one (ps_ost (pv 0) (pv 1)), ?_⟩
    exact ⟨v, rfl, .ref a, rfl, a, C, rfl, T.T, T.no, .inl ⟨ha, fun dx n ne => q dx n ne⟩⟩
theorem bp_BadText {f C : Addr} {fd : FuncData} (T : ErrI K mg "BadText" "BadText.__init__" "value" (initS 9) C f fd) (s : Shared) (us : List Value) (ki : K.In s.heap) (hl : us.length = ["self", "value"].length) : BindsTo s fd ⟨us, []⟩ ((["self", "value"] : List Str).zip us) := by
  have b : Binds K fd ["self", "value"] [] := T.fn.binds fun _ _ _ _ _ _ us hl => match us, hl with | [_, _], _ => rfl
  have := b s us ki (by rw [List.append_nil]; exact hl)
  rwa [List.append_nil] at this
theorem bk_BadText {f C : Addr} {fd : FuncData} (T : ErrI K mg "BadText" "BadText.__init__" "value" (initS 9) C f fd) (s : Shared) (a : Addr) (ws : List Value) (ki : K.In s.heap) (hl : ws.length + 1 = (["self", "value"] : List Str).length) : BindsTo s fd ⟨[.ref a], (["value"] : List Str).zip ws⟩ ((["self", "value"] : List Str).zip (.ref a :: ws)) := by
  obtain ⟨oc, od, kV, dc, pm, an, cd, ct, sl, rfl, lk, hcd⟩ := T.fn.ex
  match ws, hl with
  | [_], _ => exact .of_eq rfl
theorem scI_BadRange : FnScope ["self", "value"] ["self", "value"] (defScope (initS 10)) := ⟨rfl, rfl, rfl, by decide +kernel, rfl, by decide +kernel, by decide +kernel⟩
theorem okI_BadRange {f C : Addr} {fd : FuncData} {k : Nat} (T : ErrI K mg "BadRange" "BadRange.__init__" "value" (initS 10) C f fd) : FnOk P w K mg base CX0 (k + 1) f fd ["self", "value"] (spInit C "value") := by
  refine T.fn.ok scI_BadRange (fun vs H Q E h => ?_) (fun cdv A outer s H vs Q E hr h => ?_)
  · obtain ⟨a, v, rfl, _⟩ := h
    rfl
  · obtain ⟨a, v, rfl, ha, q⟩ := h
    refine ⟨_, pss_one (ps_ost (pv 0) (pv 1)), ?_⟩
    exact ⟨v, rfl, .ref a, rfl, a, C, rfl, T.T, T.no, .inl ⟨ha, fun dx n ne => q dx n ne⟩⟩
theorem bp_BadRange {f C : Addr} {fd : FuncData} (T : ErrI K mg "BadRange" "BadRange.__init__" "value" (initS 10) C f fd) (s : Shared) (us : List Value) (ki : K.In s.heap) (hl : us.length = ["self", "value"].length) : BindsTo s fd ⟨us, []⟩ ((["self", "value"] : List Str).zip us) := by
  have b : Binds K fd ["self", "value"] [] := T.fn.binds fun _ _ _ _ _ _ us hl => match us, hl with | [_, _], _ => rfl
  have := b s us ki (by rw [List.append_nil]; exact hl)
  rwa [List.append_nil] at this
theorem bk_BadRange {f C : Addr} {fd : FuncData} (T : ErrI K mg "BadRange" "BadRange.__init__" "value" (initS 10) C f fd) (s : Shared) (a : Addr) (ws : List Value) (ki : K.In s.heap) (hl : ws.length + 1 = (["self", "value"] : List Str).length) : BindsTo s fd ⟨[.ref a], (["value"] : List Str).zip ws⟩ ((["self", "value"] : List Str).zip (.ref a :: ws)) := by
  obtain ⟨oc, od, kV, dc, pm, an, cd, ct, sl, rfl, lk, hcd⟩ := T.fn.ex
  match ws, hl with
  | [_], _ => exact .of_eq rfl
theorem scI_NotAFix : FnScope ["self", "value"] ["self", "value"] (defScope (initS 11)) := ⟨rfl, rfl, rfl, by decide +kernel, rfl, by decide +kernel, by decide +kernel⟩
theorem okI_NotAFix {f C : Addr} {fd : FuncData} {k : Nat} (T : ErrI K mg "NotAFix" "NotAFix.__init__" "value" (initS 11) C f fd) : FnOk P w K mg base CX0 (k + 1) f fd ["self", "value"] (spInit C "value") := by
  refine T.fn.ok scI_NotAFix (fun vs H Q E h => ?_) (fun cdv A outer s H vs Q E hr h => ?_)
  · obtain ⟨a, v, rfl, _⟩ := h
    rfl
  · obtain ⟨a, v, rfl, ha, q⟩ := h
    refine ⟨_, pss_one (ps_ost (pv 0) (pv 1)), ?_⟩
    exact ⟨v, rfl, .ref a, rfl, a, C, rfl, T.T, T.no, .inl ⟨ha, fun dx n ne => q dx n ne⟩⟩
theorem bp_NotAFix {f C : Addr} {fd : FuncData} (T : ErrI K mg "NotAFix" "NotAFix.__init__" "value" (initS 11) C f fd) (s : Shared) (us : List Value) (ki : K.In s.heap) (hl : us.length = ["self", "value"].length) : BindsTo s fd ⟨us, []⟩ ((["self", "value"] : List Str).zip us) := by
  have b : Binds K fd ["self", "value"] [] := T.fn.binds fun _ _ _ _ _ _ us hl => match us, hl with | [_, _], _ => rfl
  have := b s us ki (by rw [List.append_nil]; exact hl)
  rwa [List.append_nil] at this
theorem bk_NotAFix {f C : Addr} {fd : FuncData} (T : ErrI K mg "NotAFix" "NotAFix.__init__" "value" (initS 11) C f fd) (s : Shared) (a : Addr) (ws : List Value) (ki : K.In s.heap) (hl : ws.length + 1 = (["self", "value"] : List Str).length) : BindsTo s fd ⟨[.ref a], (["value"] : List Str).zip ws⟩ ((["self", "value"] : List Str).zip (.ref a :: ws)) := by
  obtain ⟨oc, od, kV, dc, pm, an, cd, ct, sl, rfl, lk, hcd⟩ := T.fn.ex
  match ws, hl with
  | [_], _ => exact .of_eq rfl
theorem scI_NotPlain : FnScope ["self", "piece"] ["self", "piece"] (defScope (initS 15)) := ⟨rfl, rfl, rfl, by decide +kernel, rfl, by decide +kernel, by decide +kernel⟩
theorem okI_NotPlain {f C : Addr} {fd : FuncData} {k : Nat} (T : ErrI K mg "NotPlain" "NotPlain.__init__" "piece" (initS 15) C f fd) : FnOk P w K mg base CX0 (k + 1) f fd ["self", "piece"] (spInit C "piece") := by
  refine T.fn.ok scI_NotPlain (fun vs H Q E h => ?_) (fun cdv A outer s H vs Q E hr h => ?_)
  · obtain ⟨a, v, rfl, _⟩ := h
    rfl
  · obtain ⟨a, v, rfl, ha, q⟩ := h
    refine ⟨_, pss_one (ps_ost (pv 0) (pv 1)), ?_⟩
    exact ⟨v, rfl, .ref a, rfl, a, C, rfl, T.T, T.no, .inl ⟨ha, fun dx n ne => q dx n ne⟩⟩
theorem bp_NotPlain {f C : Addr} {fd : FuncData} (T : ErrI K mg "NotPlain" "NotPlain.__init__" "piece" (initS 15) C f fd) (s : Shared) (us : List Value) (ki : K.In s.heap) (hl : us.length = ["self", "piece"].length) : BindsTo s fd ⟨us, []⟩ ((["self", "piece"] : List Str).zip us) := by
  have b : Binds K fd ["self", "piece"] [] := T.fn.binds fun _ _ _ _ _ _ us hl => match us, hl with | [_, _], _ => rfl
  have := b s us ki (by rw [List.append_nil]; exact hl)
  rwa [List.append_nil] at this
theorem bk_NotPlain {f C : Addr} {fd : FuncData} (T : ErrI K mg "NotPlain" "NotPlain.__init__" "piece" (initS 15) C f fd) (s : Shared) (a : Addr) (ws : List Value) (ki : K.In s.heap) (hl : ws.length + 1 = (["self", "piece"] : List Str).length) : BindsTo s fd ⟨[.ref a], (["piece"] : List Str).zip ws⟩ ((["self", "piece"] : List Str).zip (.ref a :: ws)) := by
  obtain ⟨oc, od, kV, dc, pm, an, cd, ct, sl, rfl, lk, hcd⟩ := T.fn.ex
  match ws, hl with
  | [_], _ => exact .of_eq rfl
theorem scI_BadSource : FnScope ["self", "row"] ["self", "row"] (defScope (initS 17)) := ⟨rfl, rfl, rfl, by decide +kernel, rfl, by decide +kernel, by decide +kernel⟩
theorem okI_BadSource {f C : Addr} {fd : FuncData} {k : Nat} (T : ErrI K mg "BadSource" "BadSource.__init__" "row" (initS 17) C f fd) : FnOk P w K mg base CX0 (k + 1) f fd ["self", "row"] (spInit C "row") := by
  refine T.fn.ok scI_BadSource (fun vs H Q E h => ?_) (fun cdv A outer s H vs Q E hr h => ?_)
  · obtain ⟨a, v, rfl, _⟩ := h
    rfl
  · obtain ⟨a, v, rfl, ha, q⟩ := h
    refine ⟨_, pss_one (ps_ost (pv 0) (pv 1)), ?_⟩
    exact ⟨v, rfl, .ref a, rfl, a, C, rfl, T.T, T.no, .inl ⟨ha, fun dx n ne => q dx n ne⟩⟩
theorem bp_BadSource {f C : Addr} {fd : FuncData} (T : ErrI K mg "BadSource" "BadSource.__init__" "row" (initS 17) C f fd) (s : Shared) (us : List Value) (ki : K.In s.heap) (hl : us.length = ["self", "row"].length) : BindsTo s fd ⟨us, []⟩ ((["self", "row"] : List Str).zip us) := by
  have b : Binds K fd ["self", "row"] [] := T.fn.binds fun _ _ _ _ _ _ us hl => match us, hl with | [_, _], _ => rfl
  have := b s us ki (by rw [List.append_nil]; exact hl)
  rwa [List.append_nil] at this
theorem bk_BadSource {f C : Addr} {fd : FuncData} (T : ErrI K mg "BadSource" "BadSource.__init__" "row" (initS 17) C f fd) (s : Shared) (a : Addr) (ws : List Value) (ki : K.In s.heap) (hl : ws.length + 1 = (["self", "row"] : List Str).length) : BindsTo s fd ⟨[.ref a], (["row"] : List Str).zip ws⟩ ((["self", "row"] : List Str).zip (.ref a :: ws)) := by
  obtain ⟨oc, od, kV, dc, pm, an, cd, ct, sl, rfl, lk, hcd⟩ := T.fn.ex
  match ws, hl with
  | [_], _ => exact .of_eq rfl
theorem scI_BadLine : FnScope ["self", "line"] ["self", "line"] (defScope (initS 18)) := ⟨rfl, rfl, rfl, by decide +kernel, rfl, by decide +kernel, by decide +kernel⟩
theorem okI_BadLine {f C : Addr} {fd : FuncData} {k : Nat} (T : ErrI K mg "BadLine" "BadLine.__init__" "line" (initS 18) C f fd) : FnOk P w K mg base CX0 (k + 1) f fd ["self", "line"] (spInit C "line") := by
  refine T.fn.ok scI_BadLine (fun vs H Q E h => ?_) (fun cdv A outer s H vs Q E hr h => ?_)
  · obtain ⟨a, v, rfl, _⟩ := h
    rfl
  · obtain ⟨a, v, rfl, ha, q⟩ := h
    refine ⟨_, pss_one (ps_ost (pv 0) (pv 1)), ?_⟩
    exact ⟨v, rfl, .ref a, rfl, a, C, rfl, T.T, T.no, .inl ⟨ha, fun dx n ne => q dx n ne⟩⟩
theorem bp_BadLine {f C : Addr} {fd : FuncData} (T : ErrI K mg "BadLine" "BadLine.__init__" "line" (initS 18) C f fd) (s : Shared) (us : List Value) (ki : K.In s.heap) (hl : us.length = ["self", "line"].length) : BindsTo s fd ⟨us, []⟩ ((["self", "line"] : List Str).zip us) := by
  have b : Binds K fd ["self", "line"] [] := T.fn.binds fun _ _ _ _ _ _ us hl => match us, hl with | [_, _], _ => rfl
  have := b s us ki (by rw [List.append_nil]; exact hl)
  rwa [List.append_nil] at this
theorem bk_BadLine {f C : Addr} {fd : FuncData} (T : ErrI K mg "BadLine" "BadLine.__init__" "line" (initS 18) C f fd) (s : Shared) (a : Addr) (ws : List Value) (ki : K.In s.heap) (hl : ws.length + 1 = (["self", "line"] : List Str).length) : BindsTo s fd ⟨[.ref a], (["line"] : List Str).zip ws⟩ ((["self", "line"] : List Str).zip (.ref a :: ws)) := by
  obtain ⟨oc, od, kV, dc, pm, an, cd, ct, sl, rfl, lk, hcd⟩ := T.fn.ex
  match ws, hl with
  | [_], _ => exact .of_eq rfl
end
/-! many of them -/
abbrev Spec := Addr × Option Str
inductive Errs (H : Hp) (v : V) : List V → List Spec → Prop
  | nil : Errs H v [] []
  | cons {a : Addr} {c : Spec} {xs : List V} {cs : List Spec} : ExAt H a c.1 (c.2.map fun g => [(g, v)]) → Errs H v xs cs → Errs H v (.ref a :: xs) (c :: cs)
section
variable {H H' : Hp} {v : V} {K : PySem.W.Frag} {σ : L2.St} {te tf : TE} {ta : TA}
theorem Errs.up (e : Ex H H') : ∀ {xs : List V} {cs : List Spec}, Errs H v xs cs → Errs H' v xs cs
  | _, _, .nil => .nil
  | _, _, .cons h r => .cons (h.up e) (Errs.up e r)
theorem Errs.app : ∀ {xs ys : List V} {cs ds : List Spec}, Errs H v xs cs → Errs H v ys ds → Errs H v (xs ++ ys) (cs ++ ds)
  | _, _, _, _, .nil, h => h
  | _, _, _, _, .cons h r, k => .cons h (Errs.app r k)
theorem Errs.length : ∀ {xs : List V} {cs : List Spec}, Errs H v xs cs → xs.length = cs.length
  | _, _, .nil => rfl
  | _, _, .cons _ r => by rw [List.length_cons, List.length_cons, Errs.length r]
theorem Errs.get : ∀ {xs : List V} {cs : List Spec} {i : Nat} {c : Spec}, Errs H v xs cs → cs[i]? = some c → ∃ a, xs[i]? = some (.ref a) ∧ ExAt H a c.1 (c.2.map fun g => [(g, v)])
  | _, _, 0, _, .cons h _, e => by cases e; exact ⟨_, rfl, h⟩
  | _, _, i + 1, _, .cons _ r, e => Errs.get (i := i) r e
def EvX (te : TE) (σ : L2.St) (H : Hp) (v : V) (c : Spec) : Prop := ∀ H1, Ex H H1 → ∀ Q : VK, (∀ a H2, Ex H1 H2 → ExAt H2 a c.1 (c.2.map fun g => [(g, v)]) → Q (.ref a) H2) → te σ H1 Q
def EvXs (ta : TA) (σ : L2.St) (H : Hp) (v : V) (cs : List Spec) : Prop := ∀ H1, Ex H H1 → ∀ Q : List V → Hp → Prop, (∀ xs H2, Ex H1 H2 → Errs H2 v xs cs → Q xs H2) → ta σ H1 Q
def EvXl (te : TE) (σ : L2.St) (H : Hp) (v : V) (cs : List Spec) : Prop := ∀ H1, Ex H H1 → ∀ Q : VK, (∀ l xs H2, Ex H1 H2 → H2 l = some (.lst xs) → Errs H2 v xs cs → Q (.ref l) H2) → te σ H1 Q
theorem xs_nil : EvXs tNil σ H v [] := fun H1 _ _ q => q [] H1 (Ex.refl _) .nil
theorem xs_cons {c : Spec} {cs : List Spec} (h : EvX te σ H v c) (r : EvXs ta σ H v cs) : EvXs (tCons te ta) σ H v (c :: cs) := fun H1 e Q q =>
  h H1 e _ fun a H2 e2 ha => r H2 (e.trans e2) _ fun xs H3 e3 hx => q _ H3 (e2.trans e3) (.cons (ha.up e3) hx)
theorem xl_lst {cs : List Spec} (h : EvXs ta σ H v cs) (hz : cs.length ≤ 1000) : EvXl (tLst ta) σ H v cs := fun H1 e Q q =>
  h H1 e _ fun xs H2 e2 hx => ⟨sz_of (by rw [hx.length]; omega), fun l nl => q l xs _ (e2.trans (Ex.new nl)) upd_same (hx.up (Ex.new nl))⟩
theorem xl_cat {i : Nat} {l : Addr} {xs : List V} {cs ds : List Spec} (h : σ[i]? = some (some (.ref l))) (hl : H l = some (.lst xs)) (hx : Errs H v xs cs) (r : EvXl tf σ H v ds) (hz : cs.length + ds.length ≤ 1000) : EvXl (tOp rCat (tVar i) tf) σ H v (cs ++ ds) := fun H1 e Q q =>
  ⟨.ref l, h, r H1 e _ fun m ys H2 e2 hm hy => ⟨l, m, xs, ys, rfl, rfl, e2 _ _ (e _ _ hl), hm, sz_of (by rw [hx.length, hy.length]; omega), fun a na => q a _ _ (e2.trans (Ex.new na)) upd_same (((hx.up (e.trans e2)).app hy).up (Ex.new na))⟩⟩
theorem x_new {i : Nat} {C : Addr} {g : Str} (h : σ[i]? = some (some v)) : EvX (tXo C (spInit C g) (tCons (tVar i) tNil)) σ H v (C, some g) := fun H1 e Q q =>
  ⟨v, h, by show 1 ≤ 1000; decide, fun a na => ⟨a, v, rfl, upd_same, fun dx nd ne => ⟨rfl, by
    have nd' : H1 dx = none := by
      rw [upd_ne ne] at nd
      exact nd
    exact q a _ (Ex.mut (Ex.mut (Ex.new na) nd') na) ⟨dx, upd_same, by rw [upd_ne ne, upd_same]⟩⟩⟩⟩
theorem x_new0 {C : Addr} : EvX (tXo0 C) σ H v (C, none) := fun H1 e Q q a na => q a _ (Ex.new na) upd_same
theorem q_asgX {D : Ends} {tz : TS} {i : Nat} {cs : List Spec} (h : EvXl te σ H v cs) (k : ∀ l xs H1, Ex H H1 → H1 l = some (.lst xs) → Errs H1 v xs cs → tz D (σ.set i (some (.ref l))) H1) : tSeq (tAsg te (gName i)) tz D σ H := h H (Ex.refl H) _ k
theorem s_retX {D : Ends} {cs : List Spec} (h : EvXl te σ H v cs) (k : ∀ l xs H1, Ex H H1 → H1 l = some (.lst xs) → Errs H1 v xs cs → D.rt (.ref l) H1) : tRet te D σ H := h H (Ex.refl H) _ k
/-- a list, and one more behind it -/
theorem el_catV {i : Nat} {l : Addr} {xs ys : List V} (h : σ[i]? = some (some (.ref l))) (hl : H l = some (.lst xs)) (r : EvL tf σ H ys) (hz : xs.length + ys.length ≤ 1000) : EvL (tOp rCat (tVar i) tf) σ H (xs ++ ys) := fun H1 e Q q =>
  ⟨.ref l, h, r H1 e _ fun m H2 nm e2 hm => ⟨l, m, xs, ys, rfl, rfl, e2 _ _ (e _ _ hl), hm, sz_of (by omega), fun a na => q a _ (fresh_back e2 na) (e2.trans (Ex.new na)) upd_same⟩⟩
theorem ev_xa {a C : Addr} {g : Str} (h : Ev te σ H (.ref a)) (hx : ExAt H a C (some [(g, v)])) (kc : KitC K C) (no : PySem.W.findIn K (.ref C) g = some none) : Ev (tXa K g te) σ H v := fun H1 e Q q =>
  h H1 e _ fun H2 e2 => ⟨a, C, [(g, v)], v, rfl, hx.up (e.trans e2), kc, no, by simp [List.lookup], q H2 e2⟩
theorem rc_isX {a C : Addr} {fs : Option (List (Str × V))} {c : V} {u : Value} {b : Bool} (hx : ExAt H a C fs) (kc : KitC K C) (hc : ClsV c u) (hk : PySem.W.kitOne K (.ref C) u = some b) : RC (rIsX K) [.ref a, c] H (.bl b) := fun H1 e _ q =>
  ⟨a, C, fs, c, u, b, rfl, hx.up e, kc, hc, hk, q H1 (Ex.refl _)⟩
end
end K59
namespace K59
open PySem PySem.Spec PyProof.Rows L2 Evl Es
def cls (C D : Nat → Addr) : List Spec := [(C 0, some "field"), (C 1, some "name"), (C 2, some "place"), (C 3, some "number"), (C 4, some "number"), (C 5, some "token"), (C 6, some "value"), (C 7, some "value"), (C 8, some "value"), (C 9, some "piece"), (C 10, some "row"), (C 11, some "line"), (D 0, none), (D 1, none), (D 2, none), (D 3, none), (D 4, none)]
/-- what stands at the top -/
structure Top (K : PySem.W.Frag) (mg : Str → Option Value) (C fI : Nat → Addr) (fd : Nat → FuncData) (D : Nat → Addr) (S fPot fTake fOf fMade fNamed fMarks fVals fRight : Addr) (dPot dTake dOf dMade dNamed dMarks dVals dRight : FuncData) : Prop where
  E0 : ErrI K mg "BadGrammar" "BadGrammar.__init__" "field" (initS 2) (C 0) (fI 0) (fd 0)
  E1 : ErrI K mg "NoBlock" "NoBlock.__init__" "name" (initS 3) (C 1) (fI 1) (fd 1)
  E2 : ErrI K mg "NotPrefix" "NotPrefix.__init__" "place" (initS 4) (C 2) (fI 2) (fd 2)
  E3 : ErrI K mg "NoSolution" "NoSolution.__init__" "number" (initS 5) (C 3) (fI 3) (fd 3)
  E4 : ErrI K mg "NoError" "NoError.__init__" "number" (initS 6) (C 4) (fI 4) (fd 4)
  E5 : ErrI K mg "UnknownToken" "UnknownToken.__init__" "token" (initS 7) (C 5) (fI 5) (fd 5)
  E6 : ErrI K mg "BadText" "BadText.__init__" "value" (initS 9) (C 6) (fI 6) (fd 6)
  E7 : ErrI K mg "BadRange" "BadRange.__init__" "value" (initS 10) (C 7) (fI 7) (fd 7)
  E8 : ErrI K mg "NotAFix" "NotAFix.__init__" "value" (initS 11) (C 8) (fI 8) (fd 8)
  E9 : ErrI K mg "NotPlain" "NotPlain.__init__" "piece" (initS 15) (C 9) (fI 9) (fd 9)
  E10 : ErrI K mg "BadSource" "BadSource.__init__" "row" (initS 17) (C 10) (fI 10) (fd 10)
  E11 : ErrI K mg "BadLine" "BadLine.__init__" "line" (initS 18) (C 11) (fI 11) (fd 11)
  P0 : Err0 K mg "Finished" (D 0)
  P1 : Err0 K mg "NothingToUndo" (D 1)
  P2 : Err0 K mg "NothingToRedo" (D 2)
  P3 : Err0 K mg "Busy" (D 3)
  P4 : Err0 K mg "UnlikeBlocks" (D 4)
  kit : ∀ c ∈ cls C D, KitC K c.1
  pairs : ∀ (i j : Nat) (c d : Spec), (cls C D)[i]? = some c → (cls C D)[j]? = some d → PySem.W.kitOne K (.ref c.1) (.ref d.1) = some (decide (i = j))
  sup : ∀ c ∈ cls C D, PySem.W.kitOne K (.ref c.1) (.ref S) = some true ∧ PySem.W.kitOne K (.ref c.1) (.type "ValueError") = some true
  gS : mg "SpanError" = some (.ref S)
  Pot : Fun K "_law_pot" "_law_pot" sPot fPot dPot
  Take : Fun K "_law_take" "_law_take" sTake fTake dTake
  Of : Fun K "_law_of" "_law_of" sOf fOf dOf
  Made : Fun K "_law_made" "_law_made" sMade fMade dMade
  Named : Fun K "_law_named" "_law_named" sNamed fNamed dNamed
  Marks : Fun K "_law_marks" "_law_marks" sMarks fMarks dMarks
  Vals : Fun K "_law_values" "_law_values" sVals fVals dVals
  Right : Fun K "_law_right" "_law_right" sRight fRight dRight
  gPot : mg "_law_pot" = some (.ref fPot)
  gTake : mg "_law_take" = some (.ref fTake)
  gOf : mg "_law_of" = some (.ref fOf)
  gMade : mg "_law_made" = some (.ref fMade)
  gNamed : mg "_law_named" = some (.ref fNamed)
  gMarks : mg "_law_marks" = some (.ref fMarks)
  gVals : mg "_law_values" = some (.ref fVals)
  gRight : mg "_law_right" = some (.ref fRight)
  zisinstance : mg "isinstance" = none
  zlen : mg "len" = none
  zabs : mg "abs" = none
  zint : mg "int" = none
  zrange : mg "range" = none
  zrepr : mg "repr" = none
  zenumerate : mg "enumerate" = none
  zall : mg "all" = none
  zmax : mg "max" = none
  zmin : mg "min" = none
  zValueError : mg "ValueError" = none
section
variable {P : Program} {w : World} {K : PySem.W.Frag} {mg : Str → Option Value} {base : Heap} {C fI : Nat → Addr} {fd : Nat → FuncData} {D : Nat → Addr} {S fPot fTake fOf fMade fNamed fMarks fVals fRight : Addr} {dPot dTake dOf dMade dNamed dMarks dVals dRight : FuncData}
def spMade (C D : Nat → Addr) : Sp := fun vs H Q _ => ∃ v, vs = [v] ∧ ∀ l xs H', Ex H H' → H' l = some (.lst xs) → Errs H' v xs (cls C D) → Q (.ref l) H'
theorem scMade : FnScope ["_law_odd", "_law_some"] ["_law_odd"] (defScope sMade) := ⟨rfl, rfl, rfl, by decide +kernel, rfl, by decide +kernel, by decide +kernel⟩
theorem ok_made (T : Top K mg C fI fd D S fPot fTake fOf fMade fNamed fMarks fVals fRight dPot dTake dOf dMade dNamed dMarks dVals dRight) : FnOk P w K mg base CX0 3 fMade dMade ["_law_odd"] (spMade C D) := by
  refine T.Made.ok scMade (fun vs H Q E h => ?_) (fun cdv A outer s H vs Q E hr h => ?_)
  · obtain ⟨v, rfl, _⟩ := h
    rfl
  · obtain ⟨v, rfl, q⟩ := h
    refine ⟨_, pss_cons (ps_set (i := 1) scMade.nd rfl (.inl rfl) (pe_lst (pa_cons (pe_exo T.E0.T T.E0.iC T.E0.tI (okI_BadGrammar T.E0) hr (bp_BadGrammar T.E0) (by rfl) T.E0.cg (pa_cons (pv 0) pa_nil)) (pa_cons (pe_exo T.E1.T T.E1.iC T.E1.tI (okI_NoBlock T.E1) hr (bp_NoBlock T.E1) (by rfl) T.E1.cg (pa_cons (pv 0) pa_nil)) (pa_cons (pe_exo T.E2.T T.E2.iC T.E2.tI (okI_NotPrefix T.E2) hr (bp_NotPrefix T.E2) (by rfl) T.E2.cg (pa_cons (pv 0) pa_nil)) (pa_cons (pe_exo T.E3.T T.E3.iC T.E3.tI (okI_NoSolution T.E3) hr (bp_NoSolution T.E3) (by rfl) T.E3.cg (pa_cons (pv 0) pa_nil)) (pa_cons (pe_exo T.E4.T T.E4.iC T.E4.tI (okI_NoError T.E4) hr (bp_NoError T.E4) (by rfl) T.E4.cg (pa_cons (pv 0) pa_nil)) (pa_cons (pe_exo T.E5.T T.E5.iC T.E5.tI (okI_UnknownToken T.E5) hr (bp_UnknownToken T.E5) (by rfl) T.E5.cg (pa_cons (pv 0) pa_nil)) pa_nil))))))))
      (pss_cons (ps_set (i := 1) scMade.nd rfl (.inl rfl) (pe_op op_cat (pv 1) (pe_lst (pa_cons (pe_exo T.E6.T T.E6.iC T.E6.tI (okI_BadText T.E6) hr (bp_BadText T.E6) (by rfl) T.E6.cg (pa_cons (pv 0) pa_nil)) (pa_cons (pe_exo T.E7.T T.E7.iC T.E7.tI (okI_BadRange T.E7) hr (bp_BadRange T.E7) (by rfl) T.E7.cg (pa_cons (pv 0) pa_nil)) (pa_cons (pe_exo T.E8.T T.E8.iC T.E8.tI (okI_NotAFix T.E8) hr (bp_NotAFix T.E8) (by rfl) T.E8.cg (pa_cons (pv 0) pa_nil)) (pa_cons (pe_exo T.E9.T T.E9.iC T.E9.tI (okI_NotPlain T.E9) hr (bp_NotPlain T.E9) (by rfl) T.E9.cg (pa_cons (pv 0) pa_nil)) (pa_cons (pe_exo T.E10.T T.E10.iC T.E10.tI (okI_BadSource T.E10) hr (bp_BadSource T.E10) (by rfl) T.E10.cg (pa_cons (pv 0) pa_nil)) (pa_cons (pe_exo T.E11.T T.E11.iC T.E11.tI (okI_BadLine T.E11) hr (bp_BadLine T.E11) (by rfl) T.E11.cg (pa_cons (pv 0) pa_nil)) pa_nil)))))))))
      (pss_one (ps_ret (pe_op op_cat (pv 1) (pe_lst (pa_cons (pe_exo0 T.P0.ei T.P0.kC (by rfl) T.P0.cg) (pa_cons (pe_exo0 T.P1.ei T.P1.kC (by rfl) T.P1.cg) (pa_cons (pe_exo0 T.P2.ei T.P2.kC (by rfl) T.P2.cg) (pa_cons (pe_exo0 T.P3.ei T.P3.kC (by rfl) T.P3.cg) (pa_cons (pe_exo0 T.P4.ei T.P4.kC (by rfl) T.P4.cg) pa_nil)))))))))), ?_⟩
    refine q_asgX (v := v) (xl_lst (xs_cons (x_new rfl) (xs_cons (x_new rfl) (xs_cons (x_new rfl) (xs_cons (x_new rfl) (xs_cons (x_new rfl) (xs_cons (x_new rfl) xs_nil)))))) (by show 6 ≤ 1000; decide)) fun l0 xs0 H0 e0 hl0 hx0 => ?_
    refine q_asgX (v := v) (xl_cat rfl hl0 hx0 (xl_lst (xs_cons (x_new rfl) (xs_cons (x_new rfl) (xs_cons (x_new rfl) (xs_cons (x_new rfl) (xs_cons (x_new rfl) (xs_cons (x_new rfl) xs_nil)))))) (by show 6 ≤ 1000; decide)) (by show 6 + 6 ≤ 1000; decide)) fun l1 xs1 H1 e1 hl1 hx1 => ?_
    refine s_retX (v := v) (xl_cat rfl hl1 hx1 (xl_lst (xs_cons x_new0 (xs_cons x_new0 (xs_cons x_new0 (xs_cons x_new0 (xs_cons x_new0 xs_nil))))) (by show 5 ≤ 1000; decide)) (by show 12 + 5 ≤ 1000; decide)) fun l2 xs2 H2 e2 hl2 hx2 => ?_
    exact q l2 xs2 H2 ((e0.trans e1).trans e2) hl2 hx2
theorem scNamed : FnScope ["_law_odd", "_law_some"] ["_law_odd"] (defScope sNamed) := ⟨rfl, rfl, rfl, by decide +kernel, rfl, by decide +kernel, by decide +kernel⟩
theorem ok_named (T : Top K mg C fI fd D S fPot fTake fOf fMade fNamed fMarks fVals fRight dPot dTake dOf dMade dNamed dMarks dVals dRight) : FnOk P w K mg base CX0 3 fNamed dNamed ["_law_odd"] (spMade C D) := by
  refine T.Named.ok scNamed (fun vs H Q E h => ?_) (fun cdv A outer s H vs Q E hr h => ?_)
  · obtain ⟨v, rfl, _⟩ := h
    rfl
  · obtain ⟨v, rfl, q⟩ := h
    refine ⟨_, pss_cons (ps_set (i := 1) scNamed.nd rfl (.inl rfl) (pe_lst (pa_cons (pe_exoK T.E0.T T.E0.iC T.E0.tI (okI_BadGrammar T.E0) hr (bk_BadGrammar T.E0) (by rfl) T.E0.cg (pk_cons (pv 0) pk_nil)) (pa_cons (pe_exoK T.E1.T T.E1.iC T.E1.tI (okI_NoBlock T.E1) hr (bk_NoBlock T.E1) (by rfl) T.E1.cg (pk_cons (pv 0) pk_nil)) (pa_cons (pe_exoK T.E2.T T.E2.iC T.E2.tI (okI_NotPrefix T.E2) hr (bk_NotPrefix T.E2) (by rfl) T.E2.cg (pk_cons (pv 0) pk_nil)) (pa_cons (pe_exoK T.E3.T T.E3.iC T.E3.tI (okI_NoSolution T.E3) hr (bk_NoSolution T.E3) (by rfl) T.E3.cg (pk_cons (pv 0) pk_nil)) pa_nil))))))
      (pss_cons (ps_set (i := 1) scNamed.nd rfl (.inl rfl) (pe_op op_cat (pv 1) (pe_lst (pa_cons (pe_exoK T.E4.T T.E4.iC T.E4.tI (okI_NoError T.E4) hr (bk_NoError T.E4) (by rfl) T.E4.cg (pk_cons (pv 0) pk_nil)) (pa_cons (pe_exoK T.E5.T T.E5.iC T.E5.tI (okI_UnknownToken T.E5) hr (bk_UnknownToken T.E5) (by rfl) T.E5.cg (pk_cons (pv 0) pk_nil)) (pa_cons (pe_exoK T.E6.T T.E6.iC T.E6.tI (okI_BadText T.E6) hr (bk_BadText T.E6) (by rfl) T.E6.cg (pk_cons (pv 0) pk_nil)) (pa_cons (pe_exoK T.E7.T T.E7.iC T.E7.tI (okI_BadRange T.E7) hr (bk_BadRange T.E7) (by rfl) T.E7.cg (pk_cons (pv 0) pk_nil)) pa_nil)))))))
      (pss_cons (ps_set (i := 1) scNamed.nd rfl (.inl rfl) (pe_op op_cat (pv 1) (pe_lst (pa_cons (pe_exoK T.E8.T T.E8.iC T.E8.tI (okI_NotAFix T.E8) hr (bk_NotAFix T.E8) (by rfl) T.E8.cg (pk_cons (pv 0) pk_nil)) (pa_cons (pe_exoK T.E9.T T.E9.iC T.E9.tI (okI_NotPlain T.E9) hr (bk_NotPlain T.E9) (by rfl) T.E9.cg (pk_cons (pv 0) pk_nil)) (pa_cons (pe_exoK T.E10.T T.E10.iC T.E10.tI (okI_BadSource T.E10) hr (bk_BadSource T.E10) (by rfl) T.E10.cg (pk_cons (pv 0) pk_nil)) (pa_cons (pe_exoK T.E11.T T.E11.iC T.E11.tI (okI_BadLine T.E11) hr (bk_BadLine T.E11) (by rfl) T.E11.cg (pk_cons (pv 0) pk_nil)) pa_nil)))))))
      (pss_one (ps_ret (pe_op op_cat (pv 1) (pe_lst (pa_cons (pe_exo0 T.P0.ei T.P0.kC (by rfl) T.P0.cg) (pa_cons (pe_exo0 T.P1.ei T.P1.kC (by rfl) T.P1.cg) (pa_cons (pe_exo0 T.P2.ei T.P2.kC (by rfl) T.P2.cg) (pa_cons (pe_exo0 T.P3.ei T.P3.kC (by rfl) T.P3.cg) (pa_cons (pe_exo0 T.P4.ei T.P4.kC (by rfl) T.P4.cg) pa_nil))))))))))), ?_⟩
    refine q_asgX (v := v) (xl_lst (xs_cons (x_new rfl) (xs_cons (x_new rfl) (xs_cons (x_new rfl) (xs_cons (x_new rfl) xs_nil)))) (by show 4 ≤ 1000; decide)) fun l0 xs0 H0 e0 hl0 hx0 => ?_
    refine q_asgX (v := v) (xl_cat rfl hl0 hx0 (xl_lst (xs_cons (x_new rfl) (xs_cons (x_new rfl) (xs_cons (x_new rfl) (xs_cons (x_new rfl) xs_nil)))) (by show 4 ≤ 1000; decide)) (by show 4 + 4 ≤ 1000; decide)) fun l1 xs1 H1 e1 hl1 hx1 => ?_
    refine q_asgX (v := v) (xl_cat rfl hl1 hx1 (xl_lst (xs_cons (x_new rfl) (xs_cons (x_new rfl) (xs_cons (x_new rfl) (xs_cons (x_new rfl) xs_nil)))) (by show 4 ≤ 1000; decide)) (by show 8 + 4 ≤ 1000; decide)) fun l2 xs2 H2 e2 hl2 hx2 => ?_
    refine s_retX (v := v) (xl_cat rfl hl2 hx2 (xl_lst (xs_cons x_new0 (xs_cons x_new0 (xs_cons x_new0 (xs_cons x_new0 (xs_cons x_new0 xs_nil))))) (by show 5 ≤ 1000; decide)) (by show 12 + 5 ≤ 1000; decide)) fun l3 xs3 H3 e3 hl3 hx3 => ?_
    exact q l3 xs3 H3 (((e0.trans e1).trans e2).trans e3) hl3 hx3
def marks (i : Nat) : List V := [.bl (decide (i = 0)), .bl (decide (i = 1)), .bl (decide (i = 2)), .bl (decide (i = 3)), .bl (decide (i = 4)), .bl (decide (i = 5)), .bl (decide (i = 6)), .bl (decide (i = 7)), .bl (decide (i = 8)), .bl (decide (i = 9)), .bl (decide (i = 10)), .bl (decide (i = 11)), .bl (decide (i = 12)), .bl (decide (i = 13)), .bl (decide (i = 14)), .bl (decide (i = 15)), .bl (decide (i = 16))]
def spMarks (C D : Nat → Addr) : Sp := fun vs H Q _ => ∃ (a : Addr) (i : Nat) (c : Spec) (fs : Option (List (Str × V))), vs = [.ref a] ∧ (cls C D)[i]? = some c ∧ ExAt H a c.1 fs ∧ RetL (marks i) H Q
theorem scMarks : FnScope ["_law_error", "_law_some"] ["_law_error"] (defScope sMarks) := ⟨rfl, rfl, rfl, by decide +kernel, rfl, by decide +kernel, by decide +kernel⟩
theorem ok_marks (T : Top K mg C fI fd D S fPot fTake fOf fMade fNamed fMarks fVals fRight dPot dTake dOf dMade dNamed dMarks dVals dRight) : FnOk P w K mg base CX0 1 fMarks dMarks ["_law_error"] (spMarks C D) := by
  refine T.Marks.ok scMarks (fun vs H Q E h => ?_) (fun cdv A outer s H vs Q E hr h => ?_)
  · obtain ⟨a, i, c, fs, rfl, _⟩ := h
    rfl
  · obtain ⟨a, i, c, fs, rfl, hi, hx, q⟩ := h
    refine ⟨_, pss_cons (ps_set (i := 1) scMarks.nd rfl (.inl rfl) (pe_lst (pa_cons (pe_callB cr_isX (by rfl) T.zisinstance boot_isinstance (pa_cons (pv 0) (pa_cons (pe_glob (v := .ref (C 0)) (by rfl) T.E0.cg rfl) pa_nil))) (pa_cons (pe_callB cr_isX (by rfl) T.zisinstance boot_isinstance (pa_cons (pv 0) (pa_cons (pe_glob (v := .ref (C 1)) (by rfl) T.E1.cg rfl) pa_nil))) (pa_cons (pe_callB cr_isX (by rfl) T.zisinstance boot_isinstance (pa_cons (pv 0) (pa_cons (pe_glob (v := .ref (C 2)) (by rfl) T.E2.cg rfl) pa_nil))) pa_nil)))))
      (pss_cons (ps_set (i := 1) scMarks.nd rfl (.inl rfl) (pe_op op_cat (pv 1) (pe_lst (pa_cons (pe_callB cr_isX (by rfl) T.zisinstance boot_isinstance (pa_cons (pv 0) (pa_cons (pe_glob (v := .ref (C 3)) (by rfl) T.E3.cg rfl) pa_nil))) (pa_cons (pe_callB cr_isX (by rfl) T.zisinstance boot_isinstance (pa_cons (pv 0) (pa_cons (pe_glob (v := .ref (C 4)) (by rfl) T.E4.cg rfl) pa_nil))) (pa_cons (pe_callB cr_isX (by rfl) T.zisinstance boot_isinstance (pa_cons (pv 0) (pa_cons (pe_glob (v := .ref (C 5)) (by rfl) T.E5.cg rfl) pa_nil))) pa_nil))))))
      (pss_cons (ps_set (i := 1) scMarks.nd rfl (.inl rfl) (pe_op op_cat (pv 1) (pe_lst (pa_cons (pe_callB cr_isX (by rfl) T.zisinstance boot_isinstance (pa_cons (pv 0) (pa_cons (pe_glob (v := .ref (C 6)) (by rfl) T.E6.cg rfl) pa_nil))) (pa_cons (pe_callB cr_isX (by rfl) T.zisinstance boot_isinstance (pa_cons (pv 0) (pa_cons (pe_glob (v := .ref (C 7)) (by rfl) T.E7.cg rfl) pa_nil))) (pa_cons (pe_callB cr_isX (by rfl) T.zisinstance boot_isinstance (pa_cons (pv 0) (pa_cons (pe_glob (v := .ref (C 8)) (by rfl) T.E8.cg rfl) pa_nil))) pa_nil))))))
      (pss_cons (ps_set (i := 1) scMarks.nd rfl (.inl rfl) (pe_op op_cat (pv 1) (pe_lst (pa_cons (pe_callB cr_isX (by rfl) T.zisinstance boot_isinstance (pa_cons (pv 0) (pa_cons (pe_glob (v := .ref (C 9)) (by rfl) T.E9.cg rfl) pa_nil))) (pa_cons (pe_callB cr_isX (by rfl) T.zisinstance boot_isinstance (pa_cons (pv 0) (pa_cons (pe_glob (v := .ref (C 10)) (by rfl) T.E10.cg rfl) pa_nil))) (pa_cons (pe_callB cr_isX (by rfl) T.zisinstance boot_isinstance (pa_cons (pv 0) (pa_cons (pe_glob (v := .ref (C 11)) (by rfl) T.E11.cg rfl) pa_nil))) pa_nil))))))
      (pss_cons (ps_set (i := 1) scMarks.nd rfl (.inl rfl) (pe_op op_cat (pv 1) (pe_lst (pa_cons (pe_callB cr_isX (by rfl) T.zisinstance boot_isinstance (pa_cons (pv 0) (pa_cons (pe_glob (v := .ref (D 0)) (by rfl) T.P0.cg rfl) pa_nil))) (pa_cons (pe_callB cr_isX (by rfl) T.zisinstance boot_isinstance (pa_cons (pv 0) (pa_cons (pe_glob (v := .ref (D 1)) (by rfl) T.P1.cg rfl) pa_nil))) (pa_cons (pe_callB cr_isX (by rfl) T.zisinstance boot_isinstance (pa_cons (pv 0) (pa_cons (pe_glob (v := .ref (D 2)) (by rfl) T.P2.cg rfl) pa_nil))) pa_nil))))))
      (pss_one (ps_ret (pe_op op_cat (pv 1) (pe_lst (pa_cons (pe_callB cr_isX (by rfl) T.zisinstance boot_isinstance (pa_cons (pv 0) (pa_cons (pe_glob (v := .ref (D 3)) (by rfl) T.P3.cg rfl) pa_nil))) (pa_cons (pe_callB cr_isX (by rfl) T.zisinstance boot_isinstance (pa_cons (pv 0) (pa_cons (pe_glob (v := .ref (D 4)) (by rfl) T.P4.cg rfl) pa_nil))) pa_nil)))))))))), ?_⟩
    have kc : KitC K c.1 := T.kit c (List.mem_of_getElem? hi)
    refine q_asgL (el_lst (ea_cons (ev_cb (ea_cons (ev_var rfl) (ea_cons ev_c ea_nil)) (rc_isX (hx.up (Ex.refl _)) kc (.own _) (T.pairs i 0 c _ hi rfl))) (ea_cons (ev_cb (ea_cons (ev_var rfl) (ea_cons ev_c ea_nil)) (rc_isX (hx.up (Ex.refl _)) kc (.own _) (T.pairs i 1 c _ hi rfl))) (ea_cons (ev_cb (ea_cons (ev_var rfl) (ea_cons ev_c ea_nil)) (rc_isX (hx.up (Ex.refl _)) kc (.own _) (T.pairs i 2 c _ hi rfl))) ea_nil))) (by show 3 ≤ 100000; decide)) fun l0 H0 n0 e0 hl0 => ?_
    refine q_asgL (el_catV rfl hl0 (el_lst (ea_cons (ev_cb (ea_cons (ev_var rfl) (ea_cons ev_c ea_nil)) (rc_isX (hx.up e0) kc (.own _) (T.pairs i 3 c _ hi rfl))) (ea_cons (ev_cb (ea_cons (ev_var rfl) (ea_cons ev_c ea_nil)) (rc_isX (hx.up e0) kc (.own _) (T.pairs i 4 c _ hi rfl))) (ea_cons (ev_cb (ea_cons (ev_var rfl) (ea_cons ev_c ea_nil)) (rc_isX (hx.up e0) kc (.own _) (T.pairs i 5 c _ hi rfl))) ea_nil))) (by show 3 ≤ 100000; decide)) (by show 3 + 3 ≤ 1000; decide)) fun l1 H1 n1 e1 hl1 => ?_
    refine q_asgL (el_catV rfl hl1 (el_lst (ea_cons (ev_cb (ea_cons (ev_var rfl) (ea_cons ev_c ea_nil)) (rc_isX (hx.up (e0.trans e1)) kc (.own _) (T.pairs i 6 c _ hi rfl))) (ea_cons (ev_cb (ea_cons (ev_var rfl) (ea_cons ev_c ea_nil)) (rc_isX (hx.up (e0.trans e1)) kc (.own _) (T.pairs i 7 c _ hi rfl))) (ea_cons (ev_cb (ea_cons (ev_var rfl) (ea_cons ev_c ea_nil)) (rc_isX (hx.up (e0.trans e1)) kc (.own _) (T.pairs i 8 c _ hi rfl))) ea_nil))) (by show 3 ≤ 100000; decide)) (by show 6 + 3 ≤ 1000; decide)) fun l2 H2 n2 e2 hl2 => ?_
    refine q_asgL (el_catV rfl hl2 (el_lst (ea_cons (ev_cb (ea_cons (ev_var rfl) (ea_cons ev_c ea_nil)) (rc_isX (hx.up ((e0.trans e1).trans e2)) kc (.own _) (T.pairs i 9 c _ hi rfl))) (ea_cons (ev_cb (ea_cons (ev_var rfl) (ea_cons ev_c ea_nil)) (rc_isX (hx.up ((e0.trans e1).trans e2)) kc (.own _) (T.pairs i 10 c _ hi rfl))) (ea_cons (ev_cb (ea_cons (ev_var rfl) (ea_cons ev_c ea_nil)) (rc_isX (hx.up ((e0.trans e1).trans e2)) kc (.own _) (T.pairs i 11 c _ hi rfl))) ea_nil))) (by show 3 ≤ 100000; decide)) (by show 9 + 3 ≤ 1000; decide)) fun l3 H3 n3 e3 hl3 => ?_
    refine q_asgL (el_catV rfl hl3 (el_lst (ea_cons (ev_cb (ea_cons (ev_var rfl) (ea_cons ev_c ea_nil)) (rc_isX (hx.up (((e0.trans e1).trans e2).trans e3)) kc (.own _) (T.pairs i 12 c _ hi rfl))) (ea_cons (ev_cb (ea_cons (ev_var rfl) (ea_cons ev_c ea_nil)) (rc_isX (hx.up (((e0.trans e1).trans e2).trans e3)) kc (.own _) (T.pairs i 13 c _ hi rfl))) (ea_cons (ev_cb (ea_cons (ev_var rfl) (ea_cons ev_c ea_nil)) (rc_isX (hx.up (((e0.trans e1).trans e2).trans e3)) kc (.own _) (T.pairs i 14 c _ hi rfl))) ea_nil))) (by show 3 ≤ 100000; decide)) (by show 12 + 3 ≤ 1000; decide)) fun l4 H4 n4 e4 hl4 => ?_
    refine s_retL (el_catV rfl hl4 (el_lst (ea_cons (ev_cb (ea_cons (ev_var rfl) (ea_cons ev_c ea_nil)) (rc_isX (hx.up ((((e0.trans e1).trans e2).trans e3).trans e4)) kc (.own _) (T.pairs i 15 c _ hi rfl))) (ea_cons (ev_cb (ea_cons (ev_var rfl) (ea_cons ev_c ea_nil)) (rc_isX (hx.up ((((e0.trans e1).trans e2).trans e3).trans e4)) kc (.own _) (T.pairs i 16 c _ hi rfl))) ea_nil)) (by show 2 ≤ 100000; decide)) (by show 15 + 2 ≤ 1000; decide)) fun l5 H5 n5 e5 hl5 => ?_
    exact q l5 H5 (fresh_back ((((e0.trans e1).trans e2).trans e3).trans e4) n5) (((((e0.trans e1).trans e2).trans e3).trans e4).trans e5) hl5
def spVals (C D : Nat → Addr) : Sp := fun vs H Q _ => ∃ (l : Addr) (xs : List V) (v : V), vs = [.ref l] ∧ H l = some (.lst xs) ∧ Errs H v xs (cls C D) ∧ ∀ p H2, p ≠ sysModules → H p = none → Ex H H2 → H2 p = some (.lst (List.replicate 12 v)) → Q (.ref p) H2
theorem s_retC1 {D : Ends} {σ : L2.St} {H : Hp} {tf : TE} {i : Nat} {l : Addr} {xs ys : List V} (h : σ[i]? = some (some (.ref l))) (hl : H l = some (.lst xs)) (r : EvL tf σ H ys) (hz : xs.length + ys.length ≤ 1000)
    (k : ∀ p H1, p ≠ sysModules → H p = none → Ex H H1 → H1 p = some (.lst (xs ++ ys)) → D.rt (.ref p) H1) : tRet (tOp rCat1 (tVar i) tf) D σ H :=
  ⟨.ref l, h, r H (Ex.refl H) _ fun m H2 nm e2 hm => ⟨l, m, xs, ys, rfl, rfl, e2 _ _ hl, hm, hz, fun a ns na => k a _ ns (fresh_back e2 na) (e2.trans (Ex.new na)) upd_same⟩⟩
theorem scVals : FnScope ["_law_made_here", "_law_some"] ["_law_made_here"] (defScope sVals) := ⟨rfl, rfl, rfl, by decide +kernel, rfl, by decide +kernel, by decide +kernel⟩
theorem ok_vals (T : Top K mg C fI fd D S fPot fTake fOf fMade fNamed fMarks fVals fRight dPot dTake dOf dMade dNamed dMarks dVals dRight) : FnOk P w K mg base CX0 1 fVals dVals ["_law_made_here"] (spVals C D) := by
  refine T.Vals.ok scVals (fun vs H Q E h => ?_) (fun cdv A outer s H vs Q E hr h => ?_)
  · obtain ⟨l, xs, v, rfl, _⟩ := h
    rfl
  · obtain ⟨l, xs, v, rfl, hl, hx, q⟩ := h
    refine ⟨_, pss_cons (ps_set (i := 1) scVals.nd rfl (.inl rfl) (pe_lst (pa_cons (pe_xa (pe_ix ix_list (pv 0) pe_int (fun _ _ => rfl))) (pa_cons (pe_xa (pe_ix ix_list (pv 0) pe_int (fun _ _ => rfl))) (pa_cons (pe_xa (pe_ix ix_list (pv 0) pe_int (fun _ _ => rfl))) (pa_cons (pe_xa (pe_ix ix_list (pv 0) pe_int (fun _ _ => rfl))) (pa_cons (pe_xa (pe_ix ix_list (pv 0) pe_int (fun _ _ => rfl))) (pa_cons (pe_xa (pe_ix ix_list (pv 0) pe_int (fun _ _ => rfl))) (pa_cons (pe_xa (pe_ix ix_list (pv 0) pe_int (fun _ _ => rfl))) pa_nil)))))))))
      (pss_one (ps_ret (pe_op op_cat1 (pv 1) (pe_lst (pa_cons (pe_xa (pe_ix ix_list (pv 0) pe_int (fun _ _ => rfl))) (pa_cons (pe_xa (pe_ix ix_list (pv 0) pe_int (fun _ _ => rfl))) (pa_cons (pe_xa (pe_ix ix_list (pv 0) pe_int (fun _ _ => rfl))) (pa_cons (pe_xa (pe_ix ix_list (pv 0) pe_int (fun _ _ => rfl))) (pa_cons (pe_xa (pe_ix ix_list (pv 0) pe_int (fun _ _ => rfl))) pa_nil))))))))), ?_⟩
    obtain ⟨a0, h0, x0⟩ := hx.get (i := 0) rfl
    obtain ⟨a1, h1, x1⟩ := hx.get (i := 1) rfl
    obtain ⟨a2, h2, x2⟩ := hx.get (i := 2) rfl
    obtain ⟨a3, h3, x3⟩ := hx.get (i := 3) rfl
    obtain ⟨a4, h4, x4⟩ := hx.get (i := 4) rfl
    obtain ⟨a5, h5, x5⟩ := hx.get (i := 5) rfl
    obtain ⟨a6, h6, x6⟩ := hx.get (i := 6) rfl
    obtain ⟨a7, h7, x7⟩ := hx.get (i := 7) rfl
    obtain ⟨a8, h8, x8⟩ := hx.get (i := 8) rfl
    obtain ⟨a9, h9, x9⟩ := hx.get (i := 9) rfl
    obtain ⟨a10, h10, x10⟩ := hx.get (i := 10) rfl
    obtain ⟨a11, h11, x11⟩ := hx.get (i := 11) rfl
    refine q_asgL (el_lst (ea_cons (ev_xa (ev_op (ev_var rfl) ev_c (rv_ixL (sq_of hl) (atI_nat (j := 0) h0))) (x0.up (Ex.refl _)) T.E0.kit T.E0.no) (ea_cons (ev_xa (ev_op (ev_var rfl) ev_c (rv_ixL (sq_of hl) (atI_nat (j := 1) h1))) (x1.up (Ex.refl _)) T.E1.kit T.E1.no) (ea_cons (ev_xa (ev_op (ev_var rfl) ev_c (rv_ixL (sq_of hl) (atI_nat (j := 2) h2))) (x2.up (Ex.refl _)) T.E2.kit T.E2.no) (ea_cons (ev_xa (ev_op (ev_var rfl) ev_c (rv_ixL (sq_of hl) (atI_nat (j := 3) h3))) (x3.up (Ex.refl _)) T.E3.kit T.E3.no) (ea_cons (ev_xa (ev_op (ev_var rfl) ev_c (rv_ixL (sq_of hl) (atI_nat (j := 4) h4))) (x4.up (Ex.refl _)) T.E4.kit T.E4.no) (ea_cons (ev_xa (ev_op (ev_var rfl) ev_c (rv_ixL (sq_of hl) (atI_nat (j := 5) h5))) (x5.up (Ex.refl _)) T.E5.kit T.E5.no) (ea_cons (ev_xa (ev_op (ev_var rfl) ev_c (rv_ixL (sq_of hl) (atI_nat (j := 6) h6))) (x6.up (Ex.refl _)) T.E6.kit T.E6.no) ea_nil))))))) (by show 7 ≤ 100000; decide)) fun m H1 nm e1 hm => ?_
    have hl1 := e1 _ _ hl
    refine s_retC1 rfl hm (el_lst (ea_cons (ev_xa (ev_op (ev_var rfl) ev_c (rv_ixL (sq_of hl1) (atI_nat (j := 7) h7))) (x7.up e1) T.E7.kit T.E7.no) (ea_cons (ev_xa (ev_op (ev_var rfl) ev_c (rv_ixL (sq_of hl1) (atI_nat (j := 8) h8))) (x8.up e1) T.E8.kit T.E8.no) (ea_cons (ev_xa (ev_op (ev_var rfl) ev_c (rv_ixL (sq_of hl1) (atI_nat (j := 9) h9))) (x9.up e1) T.E9.kit T.E9.no) (ea_cons (ev_xa (ev_op (ev_var rfl) ev_c (rv_ixL (sq_of hl1) (atI_nat (j := 10) h10))) (x10.up e1) T.E10.kit T.E10.no) (ea_cons (ev_xa (ev_op (ev_var rfl) ev_c (rv_ixL (sq_of hl1) (atI_nat (j := 11) h11))) (x11.up e1) T.E11.kit T.E11.no) ea_nil))))) (by show 5 ≤ 100000; decide)) (by show 7 + 5 ≤ 1000; decide) fun m2 H2 ns2 n2 e2 hm2 => ?_
    exact q m2 H2 ns2 (fresh_back e1 n2) (e1.trans e2) hm2
end
end K59
namespace K59
open PySem PySem.Spec PyProof.Rows L2 Evl Es
theorem scPot : FnScope ["_law_script", "_law_k", "_law_cell", "_law_digits"] ["_law_script", "_law_k"] (defScope sPot) := ⟨rfl, rfl, rfl, by decide +kernel, rfl, by decide +kernel, by decide +kernel⟩
theorem scTake : FnScope ["_law_pot_here", "_law_many", "_law_digit", "_law_prime", "_law_mixed"] ["_law_pot_here", "_law_many"] (defScope sTake) := ⟨rfl, rfl, rfl, by decide +kernel, rfl, by decide +kernel, by decide +kernel⟩
theorem scOf : FnScope ["_law_pot_here", "_law_some"] ["_law_pot_here", "_law_some"] (defScope sOf) := ⟨rfl, rfl, rfl, by decide +kernel, rfl, by decide +kernel, by decide +kernel⟩
section
variable {P : Program} {w : World} {K : PySem.W.Frag} {mg : Str → Option Value} {base : Heap}
def primes : List V := [.int 2305843009213693951, .int 2305843009213693921, .int 2305843009213693907, .int 2305843009213693723]
theorem prime_at (j : Int) (h0 : 0 ≤ j) (h5 : j < 4) : ∃ r : Int, atI primes j = some (.int r) ∧ 0 < r ∧ r ≤ 2305843009213693951 := by
  have : j = 0 ∨ j = 1 ∨ j = 2 ∨ j = 3 := by omega
  rcases this with h | h | h | h <;> subst h <;> exact ⟨_, rfl, by decide, by decide⟩
theorem ok_take {f : Addr} {fd : FuncData} {k : Nat} (F : Fun K "_law_take" "_law_take" sTake f fd) : FnOk P w K mg base CX0 (k + 1) f fd ["_law_pot_here", "_law_many"] spTake := by
  refine F.ok scTake (fun vs H Q E h => ?_) (fun cdv A outer s H vs Q E hr h => ?_)
  · obtain ⟨p, n, m, rfl, _⟩ := h
    rfl
  · obtain ⟨p, n, m, rfl, hn1, hn2, hm, hP, q⟩ := h
    obtain ⟨g, s0, c, hp, hg, hs0, hs1, hc0, hc1⟩ := hP
    refine ⟨_, pss_cons (ps_if (pt_cmpR op_gt (pe_ix ix_list (pv 0) pe_int (fun _ _ => rfl)) pe_int (nomark _))
        (pss_cons (ps_set (i := 2) scTake.nd rfl (.inl rfl) (pe_op op_mod (pe_ix ix_list (pv 0) pe_int (fun _ _ => rfl)) (pv 1)))
        (pss_cons (ps_asg (pe_op op_fdiv (pe_ix ix_list (pv 0) pe_int (fun _ _ => rfl)) (pv 1)) (pg_sub (pv 0) pe_int set_list))
        (pss_one (ps_ret (pv 2))))) pss_nil)
      (pss_cons (ps_asg (pe_op op_add (pe_ix ix_list (pv 0) pe_int (fun _ _ => rfl)) pe_int) (pg_sub (pv 0) pe_int set_list))
      (pss_cons (ps_set (i := 3) scTake.nd rfl (.inl rfl) (pe_ix ix_list (pe_lst (pa_cons pe_int (pa_cons pe_int (pa_cons pe_int (pa_cons pe_int pa_nil))))) (pe_op op_mod (pe_ix ix_list (pv 0) pe_int (fun _ _ => rfl)) pe_int) (fun _ _ => rfl)))
      (pss_cons (ps_set (i := 4) scTake.nd rfl (.inl rfl) (pe_op op_mod (pe_op op_pow (pe_op op_add (pe_op op_add (pe_ix ix_list (pv 0) pe_int (fun _ _ => rfl))
        (pe_op op_mul (pe_op op_mul pe_int (pe_ix ix_list (pv 0) pe_int (fun _ _ => rfl))) (pe_ix ix_list (pv 0) pe_int (fun _ _ => rfl)))) pe_int) pe_int) (pv 3)))
      (pss_one (ps_ret (pe_op op_mod (pe_op op_fdiv (pe_op op_mod (pe_op op_mul (pv 4) (pe_op op_add (pe_op op_mod (pv 4) pe_int) (pe_ix ix_list (pv 0) pe_int (fun _ _ => rfl)))) (pv 3)) pe_int) (pv 1))))))), ?_⟩
    have ix : ∀ {H1 : Hp} {σ : L2.St} {xs : List V} {j : Int} {v : V}, H1 p = some (.lst xs) → σ[0]? = some (some (.ref p)) → atI xs j = some v → Ev (tOp (rIxL K) (tVar 0) (tC (.int j))) σ H1 v :=
      fun h h0 ha => ev_op (ev_var h0) ev_c (rv_ixL (sq_of h) ha)
    refine q_when (et_test (ev_op (ix hp rfl rfl) ev_c rv_I0)) (fun hb H1 e1 => ?_) (fun hb H1 e1 => ?_)
    · refine q_asg (ev_op (ix (e1 _ _ hp) rfl rfl) (ev_var rfl) (rv_I (by show (0 : Int) < n; omega))) fun H2 e2 => ?_
      refine q_setL (j := 0) (e2 _ _ (e1 _ _ hp)) (ev_op (ix (e2 _ _ (e1 _ _ hp)) rfl rfl) (ev_var rfl) (rv_I ⟨by omega, by omega⟩)) (ev_var rfl) ev_c (by show 0 < 3; decide) fun H3 e3 => ?_
      refine s_ret (ev_var rfl) fun H4 e4 => ?_
      refine q (g % n) H4 (Int.emod_nonneg _ (by omega)) (Int.emod_lt_of_pos _ (by omega)) (((Xp.ex ((e1.trans e2).trans e3)).trans Xp.upd).trans (Xp.ex e4)) ?_
      exact ⟨g / n, s0, c, e4 _ _ upd_same, Int.ediv_nonneg hg (by omega), hs0, hs1, hc0, by omega⟩
    · refine q_setL (j := 2) (e1 _ _ hp) (ev_op (ix (e1 _ _ hp) rfl rfl) ev_c rv_I0) (ev_var rfl) ev_c (by show 2 < 3; decide) fun H2 e2 => ?_
      generalize hH3 : upd H2 p _ = H3
      have hp3 : H3 p = some (.lst [.int g, .int s0, .int (c + 1)]) := by rw [← hH3]; exact upd_same
      have x3 : Xp p H H3 := (Xp.ex (e1.trans e2)).trans (by rw [← hH3]; exact Xp.upd)
      obtain ⟨r, hr1, hr2, hr3⟩ := prime_at ((c + 1) % 4) (Int.emod_nonneg _ (by omega)) (Int.emod_lt_of_pos _ (by omega))
      refine q_asg (v := .int r) (ev_opL1 (el_lst (ea_cons ev_c (ea_cons ev_c (ea_cons ev_c (ea_cons ev_c ea_nil)))) (by decide)) (fun H4 e4 => ev_op (ix (e4 _ _ hp3) rfl rfl) ev_c (rv_I (by show (0 : Int) < 4; decide)))
        (fun l H4 hl e4 => rv_ixL (sq_of hl) hr1)) fun H4 e4 => ?_
      have hp4 := e4 _ _ hp3
      have b1 : (c + 1) * (c + 1) ≤ 200000 * 200000 := Int.mul_le_mul (by omega) (by omega) (by omega) (by omega)
      have b0 : 0 ≤ (c + 1) * (c + 1) := Int.mul_nonneg (by omega) (by omega)
      have b2 : 15485863 * (c + 1) * (c + 1) = 15485863 * ((c + 1) * (c + 1)) := Int.mul_assoc _ _ _
      generalize (c + 1) * (c + 1) = cc at b1 b0 b2
      refine q_asg (ev_op (ev_op (ev_op (ev_op (ix hp4 rfl rfl) (ev_op (ev_op ev_c (ix hp4 rfl rfl) (rv_I (.inl ⟨by decide, by decide⟩))) (ix hp4 rfl rfl) (rv_I (.inl ⟨by show -(2 ^ 64) < 15485863 * (c + 1); omega, by show 15485863 * (c + 1) < 2 ^ 64; omega⟩))) rv_I0) ev_c rv_I0) ev_c
        (rv_I ⟨by decide, by decide, by rw [b2]; omega⟩)) (ev_var rfl) (rv_I (by show (0 : Int) < r; exact hr2))) fun H5 e5 => ?_
      generalize hM : ((s0 + 15485863 * (c + 1) * (c + 1) + 7) ^ (3 : Int).toNat % r : Int) = M
      have M0 : 0 ≤ M := by rw [← hM]; exact Int.emod_nonneg _ (by omega)
      have M1 : M < r := by rw [← hM]; exact Int.emod_lt_of_pos _ hr2
      refine s_ret (ev_op (ev_op (ev_op (ev_op (ev_var rfl) (ev_op (ev_op (ev_var rfl) ev_c (rv_I (by show (0 : Int) < 1000003; decide))) (ix (e5 _ _ hp4) rfl rfl) rv_I0)
        (rv_I (.inl ⟨by show -(2 ^ 64) < M; omega, by show M < 2 ^ 64; omega⟩))) (ev_var rfl) (rv_I (by show (0 : Int) < r; exact hr2))) ev_c (rv_I ⟨by decide, by decide⟩)) (ev_var rfl) (rv_I (by show (0 : Int) < n; omega))) fun H6 e6 => ?_
      exact q _ H6 (Int.emod_nonneg _ (by omega)) (Int.emod_lt_of_pos _ (by omega)) (x3.trans (Xp.ex ((e4.trans e5).trans e6))) ⟨g, s0, c + 1, e6 _ _ (e5 _ _ hp4), hg, hs0, hs1, by omega, by omega⟩
def absI (i : Int) : Int := if i < 0 then -i else i
def rAbs : List V → Hp → VK → Prop := fun xs H Q => ∃ i, xs = [.int i] ∧ Q (.int (absI i)) H
theorem rc_abs {H : Hp} {i : Int} : RC rAbs [.int i] H (.int (absI i)) := fun H1 _ _ q => ⟨i, rfl, q H1 (Ex.refl _)⟩
theorem rc_lenL {H : Hp} {a : Addr} {xs : List V} (h : SqL K H a xs) : RC (rLenS K) [.ref a] H (.int (xs.length : Int)) := fun H1 e _ q => ⟨a, xs, rfl, .inl (ex_l e h), q H1 (Ex.refl _)⟩
def rInt1 : List V → Hp → VK → Prop := fun xs H Q => (∃ i, xs = [.int i] ∧ Q (.int i) H) ∨ ∃ k, xs = [.bl k] ∧ Q (.int (if k then 1 else 0)) H
theorem rc_intB {H : Hp} {b : Bool} : RC rInt1 [.bl b] H (.int (if b = true then 1 else 0)) := fun H1 _ _ q => .inr ⟨b, rfl, q H1 (Ex.refl _)⟩
theorem big1 : (10 ^ (60 : Int).toNat : Int).natAbs < 2 ^ 200 := by decide +kernel
theorem big2 : (10 ^ (60 : Int).toNat * 10 ^ (60 : Int).toNat : Int).natAbs < 2 ^ 400 := by decide +kernel
theorem big3 : (0 : Int) < 10 ^ (60 : Int).toNat * 10 ^ (60 : Int).toNat * 10 ^ (60 : Int).toNat := by decide +kernel
/-- the pot of a cell -/
def spPot (K : PySem.W.Frag) : Sp := fun vs H Q _ => ∃ (a : Addr) (k : Nat) (ns : List Int), vs = [.ref a, .int (k : Int)] ∧ k ≤ 10 ∧ SqL K H a (ns.map V.int) ∧
  ∀ p H', H p = none → Ex H H' → Pot H' p 0 → Q (.ref p) H'
theorem ok_pot {f : Addr} {fd : FuncData} {k : Nat} (F : Fun K "_law_pot" "_law_pot" sPot f fd) (ml : mg "len" = none) (ma : mg "abs" = none) (mI : mg "int" = none) : FnOk P w K mg base CX0 (k + 1) f fd ["_law_script", "_law_k"] (spPot K) := by
  refine F.ok scPot (fun vs H Q E h => ?_) (fun cdv A outer s H vs Q E hr h => ?_)
  · obtain ⟨a, n, ns, rfl, _⟩ := h
    rfl
  · obtain ⟨a, n, ns, rfl, hn, hS, q⟩ := h
    refine ⟨_, pss_cons (ps_set (i := 2) scPot.nd rfl (.inl rfl) (pe_ifExp (pt_cmpR op_lt (pv 1) (pe_callB call_len_seq (by rfl) ml PySem.boot_len (pa_cons (pv 0) pa_nil)) (nomark _))
        (pe_ix ix_list (pv 0) (pv 1) (fun _ _ => rfl)) (pe_op op_add (pe_op op_mul pe_int (pv 1)) pe_int)))
      (pss_cons (ps_set (i := 3) scPot.nd rfl (.inl rfl) (pe_op op_mul (pe_op op_mod (pe_callB call_abs (by rfl) ma boot_abs (pa_cons (pv 2) pa_nil)) (pe_op op_mulW (pe_op op_mulW (pe_op op_pow pe_int pe_int) (pe_op op_pow pe_int pe_int)) (pe_op op_pow pe_int pe_int)))
        (pe_callTy call_int1 (by rfl) mI (by decide +kernel) (pa_cons (pe_cmpR op_ge (pe_callB call_abs (by rfl) ma boot_abs (pa_cons (pv 2) pa_nil)) (pe_op op_pow pe_int pe_int) (nomark _)) pa_nil))))
      (pss_one (ps_ret (pe_lst (pa_cons (pv 3) (pa_cons (pe_op op_mod (pe_op op_add (pe_op op_add (pe_op op_mul (pe_op op_mod (pv 2) pe_int) pe_int) (pe_op op_mul pe_int (pv 1))) pe_int) pe_int) (pa_cons pe_int pa_nil))))))), ?_⟩
    have hcell : ∃ c : Int, ((n : Int) < ((ns.map V.int).length : Int) → atI (ns.map V.int) (n : Int) = some (.int c)) ∧ (¬ (n : Int) < ((ns.map V.int).length : Int) → 7 * (n : Int) + 5 = c) := by
      by_cases hlt : n < ns.length
      · refine ⟨ns[n], fun _ => atI_nat ?_, fun z => absurd (by rw [List.length_map]; omega) z⟩
        rw [List.getElem?_map, List.getElem?_eq_getElem hlt]
        rfl
      · exact ⟨_, fun z => absurd z (by rw [List.length_map]; omega), fun _ => rfl⟩
    obtain ⟨c, hc1, hc2⟩ := hcell
    refine q_asg (v := .int c) (ev_if (et_test (ev_op (ev_var rfl) (ev_cb (ea_cons (ev_var rfl) ea_nil) (rc_lenL hS)) rv_I0)) (fun hb => ev_op (ev_var rfl) (ev_var rfl) (rv_ixL hS (hc1 (of_decide_eq_true hb))))
      (fun hb => ev_is (ev_op (ev_op ev_c (ev_var rfl) (rv_I (.inl ⟨by decide, by decide⟩))) ev_c rv_I0) (by rw [hc2 (of_decide_eq_false hb)]))) fun H1 e1 => ?_
    obtain ⟨g, hg0, hge⟩ : ∃ g : Int, 0 ≤ g ∧ absI c % (10 ^ (60 : Int).toNat * 10 ^ (60 : Int).toNat * 10 ^ (60 : Int).toNat) * (if decide (absI c ≥ 10 ^ (18 : Int).toNat) = true then 1 else 0) = g := by
      refine ⟨_, Int.mul_nonneg (Int.emod_nonneg _ (Int.ne_of_gt big3)) ?_, rfl⟩
      split <;> decide
    have pw : ∀ {σ : L2.St} {H1 : Hp}, Ev (tOp (rI CPow fun i j => .int (i ^ j.toNat)) (tC (.int 10)) (tC (.int 60))) σ H1 (.int (10 ^ (60 : Int).toNat)) := ev_op ev_c ev_c (rv_I ⟨by decide, by decide, by decide⟩)
    refine q_asg (v := .int g) (ev_is (ev_op (ev_op (ev_cb (ea_cons (ev_var rfl) ea_nil) rc_abs) (ev_op (ev_op pw pw (rv_I (wide_mul big1 big1 (by decide) (by decide) (by decide)))) pw (rv_I (wide_mul big2 big1 (by decide) (by decide) (by decide)))) (rv_I big3))
      (ev_cb (ea_cons (ev_op (ev_cb (ea_cons (ev_var rfl) ea_nil) rc_abs) (ev_op ev_c ev_c (rv_I ⟨by decide, by decide, by decide⟩)) rv_I0) ea_nil) (rc_intB)) (rv_I (.inr (by split <;> decide)))) (by rw [hge])) fun H2 e2 => ?_
    have m0 := Int.emod_nonneg c (show (2305843009213693951 : Int) ≠ 0 by decide)
    have m1 := Int.emod_lt_of_pos c (show (0 : Int) < 2305843009213693951 by decide)
    refine s_retL (el_lst (ea_cons (ev_var rfl) (ea_cons (ev_op (ev_op (ev_op (ev_op (ev_op (ev_var rfl) ev_c (rv_I (by show (0 : Int) < 2305843009213693951; decide))) ev_c (rv_I (.inl ⟨by omega, by omega⟩)))
      (ev_op ev_c (ev_var rfl) (rv_I (.inl ⟨by decide, by decide⟩))) rv_I0) ev_c rv_I0) ev_c (rv_I (by show (0 : Int) < 2305843009213693921; decide))) (ea_cons ev_c ea_nil))) (by show 3 ≤ 100000; decide)) fun p H3 hp e3 h3 => ?_
    refine q p H3 (fresh_back (e1.trans e2) hp) ((e1.trans e2).trans e3) ⟨g, _, 0, h3, hg0, Int.emod_nonneg _ (by decide), ?_, by decide, by decide⟩
    refine Int.lt_trans (Int.emod_lt_of_pos _ (by decide)) (by decide)
def spPickL : Sp := fun vs H Q _ => ∃ (p a : Addr) (m : Int) (xs : List V), vs = [.ref p, .ref a] ∧ m ≤ 100000 ∧ Pot H p m ∧ a ≠ p ∧ H a = some (.lst xs) ∧ 1 ≤ xs.length ∧ xs.length ≤ 1000 ∧
  ∀ v H', v ∈ xs → Xp p H H' → Pot H' p (m + 1) → Q v H'
theorem ok_of {f fT : Addr} {fd fdT : FuncData} {k : Nat} (F : Fun K "_law_of" "_law_of" sOf f fd) (FT : Fun K "_law_take" "_law_take" sTake fT fdT) (bT : Binds K fdT ["_law_pot_here", "_law_many"] []) (gT : mg "_law_take" = some (.ref fT)) (ml : mg "len" = none) :
    FnOk P w K mg base CX0 (k + 2) f fd ["_law_pot_here", "_law_some"] spPickL := by
  refine F.ok scOf (fun vs H Q E h => ?_) (fun cdv A outer s H vs Q E hr h => ?_)
  · obtain ⟨p, a, m, xs, rfl, _⟩ := h
    rfl
  · obtain ⟨p, a, m, xs, rfl, hm, hP, hne, ha, h1, h2, q⟩ := h
    refine ⟨_, pss_one (ps_ret (pe_ix ix_list (pv 1) (pe_call (ok_take FT) hr (by rfl) gT FT.kp bT .nil pass0 (pa_cons (pv 0) (pa_cons (pe_callB call_len_seq (by rfl) ml PySem.boot_len (pa_cons (pv 1) pa_nil)) pa_nil))) (fun _ _ => rfl))), ?_⟩
    refine ⟨_, rfl, _, rfl, _, rfl, a, xs, rfl, .inl (sq_of ha), p, _, m, rfl, by omega, by omega, hm, hP, fun r H' h0 h3 x pp => ?_⟩
    have hc : r.toNat < xs.length := by omega
    refine ⟨a, xs, r, xs[r.toNat], rfl, rfl, sq_of (x a _ hne ha), ?_, q _ H' (List.getElem_mem hc) x pp⟩
    have := atI_nat (xs := xs) (j := r.toNat) (v := xs[r.toNat]) (List.getElem?_eq_getElem hc)
    rw [Int.toNat_of_nonneg h0] at this
    exact this
end
end K59
namespace K59
open PySem PySem.Spec PyProof.Rows L2 Evl Es
/-! the sizes of the drawn values -/
def Sz (n : Nat) (d : PyData) : Prop := d.showable = true ∧ d.leavesShort 30 = true ∧ d.bulk ≤ 24 + 4 * n ∧ d.depth ≤ 3 + n
theorem sz_fit {d : PyData} (h : Fit 3 d) : Sz 0 d := ⟨h.1, h.2.1, (by have := h.2.2.1; omega), (by have := h.2.2.2; omega)⟩
theorem Sz.more {n m : Nat} {d : PyData} (h : Sz n d) (e : n ≤ m) : Sz m d := ⟨h.1, h.2.1, (by have := h.2.2.1; omega), (by have := h.2.2.2; omega)⟩
theorem Sz.tup {n : Nat} {d : PyData} (h : Sz n d) : Sz (n + 1) (.tuple [d]) := by
  obtain ⟨a, b, c, e⟩ := h
  refine ⟨?_, ?_, ?_, ?_⟩
  · show (d.showable && true) = true
    rw [a]
    rfl
  · show (d.leavesShort 30 && true) = true
    rw [b]
    rfl
  · show d.bulk + 1 + 0 ≤ _
    omega
  · show max d.depth 0 + 1 ≤ _
    omega
theorem Sz.lst {n : Nat} {d : PyData} (h : Sz n d) : Sz (n + 1) (.list [d]) := h.tup
theorem Sz.dk {n : Nat} {d : PyData} (h : Sz n d) : Sz (n + 1) (.dict [(.str "a", d)]) := by
  obtain ⟨a, b, c, e⟩ := h
  refine ⟨?_, ?_, ?_, ?_⟩
  · show (true && d.showable && true) = true
    rw [a]
    rfl
  · show (true && d.leavesShort 30 && true) = true
    rw [b]
    rfl
  · show 1 + d.bulk + 2 + 0 ≤ _
    omega
  · show max (max 0 d.depth) 0 + 1 ≤ _
    omega
theorem Sz.fit {d : PyData} (h : Sz 25 d) : Fit 190 d := ⟨h.1, h.2.1, (by have := h.2.2.1; omega), (by have := h.2.2.2; omega)⟩
theorem many_facts (d : PyData) : ∀ n : Nat, d.showable = true → d.leavesShort 30 = true → PyData.showableAll (List.replicate n d) = true ∧ PyData.leavesShortAll 30 (List.replicate n d) = true ∧ PyData.bulkAll (List.replicate n d) = n * (d.bulk + 1) ∧ PyData.depthAll (List.replicate n d) ≤ d.depth
  | 0, _, _ => ⟨rfl, rfl, (Nat.zero_mul _).symm, Nat.zero_le _⟩
  | n + 1, h1, h2 => by
    obtain ⟨a, b, c, e⟩ := many_facts d n h1 h2
    rw [List.replicate_succ]
    refine ⟨?_, ?_, ?_, ?_⟩
    · show (d.showable && PyData.showableAll (List.replicate n d)) = true
      rw [h1, a]
      rfl
    · show (d.leavesShort 30 && PyData.leavesShortAll 30 (List.replicate n d)) = true
      rw [h2, b]
      rfl
    · show d.bulk + 1 + PyData.bulkAll (List.replicate n d) = _
      rw [c, Nat.add_mul]
      omega
    · show max d.depth (PyData.depthAll (List.replicate n d)) ≤ _
      omega
theorem Sz.many {d : PyData} (h : Sz 25 d) : Fit 190 (.list (List.replicate 12 d)) := by
  obtain ⟨a, b, c, e⟩ := h
  obtain ⟨m1, m2, m3, m4⟩ := many_facts d 12 a b
  refine ⟨m1, m2, ?_, ?_⟩
  · show PyData.bulkAll (List.replicate 12 d) ≤ 8 * 190
    rw [m3]
    omega
  · show PyData.depthAll (List.replicate 12 d) + 1 ≤ 190
    omega
def AllSz (n : Nat) (ds : List PyData) : Prop := ∀ d ∈ ds, Sz n d
section
variable {S : Sx} {σ : L2.St} {H : Hp} {te : TE} {ta : TA}
theorem evz {n m : Nat} (h : EvP S 0 te σ H (Sz n)) (r : EvPA S 0 ta σ H (fun ds => AllSz n ds ∧ ds.length = m)) : EvPA S 0 (tCons te ta) σ H (fun ds => AllSz n ds ∧ ds.length = m + 1) :=
  evpa_c0 h r (by decide) fun d ds a b => ⟨fun x hx => by
    rcases List.mem_cons.mp hx with z | z
    · subst z
      exact a
    · exact b.1 x z, congrArg Nat.succ b.2⟩
theorem evz_nil {n : Nat} : EvPA S 0 tNil σ H (fun ds => AllSz n ds ∧ ds.length = 0) := evpa_nil ⟨(fun _ h => nomatch h), rfl⟩
theorem evz_tup {n i : Nat} {v : V} {d : PyData} (h : σ[i]? = some (some v)) (hd : Dd (some S) H v d) (hf : Sz n d) : EvP S 0 (tTup (tCons (tVar i) tNil)) σ H (Sz (n + 1)) := fun H1 c x P c0 c1 Q q =>
  ⟨v, h, sz_of (by show 1 ≤ 100000; decide), fun a na => by
    have e := Ex.new (o := .tup [v]) na
    exact q _ _ _ (Xp.ex e) ((P.up e).more (by omega)) (.tup (P.sn na) upd_same (.cons ((hd.xp x).up e) .nil)) hf.tup⟩
theorem evz_lst {n i : Nat} {v : V} {d : PyData} (h : σ[i]? = some (some v)) (hd : Dd (some S) H v d) (hf : Sz n d) : EvP S 0 (tLst1 (tCons (tVar i) tNil)) σ H (Sz (n + 1)) := fun H1 c x P c0 c1 Q q =>
  ⟨v, h, sz_of (by show 1 ≤ 100000; decide), fun a ns na => by
    have e := Ex.new (o := .lst [v]) na
    exact q _ _ _ (Xp.ex e) ((P.up e).more (by omega)) (.lst (P.sn na) ns upd_same (.cons ((hd.xp x).up e) .nil)) hf.lst⟩
theorem evz_dk {n i : Nat} {v : V} {d : PyData} (h : σ[i]? = some (some v)) (hd : Dd (some S) H v d) (hf : Sz n d) : EvP S 0 (tDisp [(tC (.str "a"), tVar i)]) σ H (Sz (n + 1)) := by
  intro H1 c x P c0 c1 Q q a na
  refine ⟨v, h, upd_same, [(Sum.inr "a", v)], rfl, by show 1 ≤ 15; decide, ?_⟩
  have e := Ex.mut (o := .dK (mergeK [] [(Sum.inr "a", v)])) (Ex.new (o := .dK []) na) na
  exact q _ _ _ (Xp.ex e) ((P.up e).more (by omega)) (.dk1 (P.sn na) upd_same ((hd.xp x).up e)) hf.dk
theorem fit_of {d : PyData} (h1 : d.showable = true := by decide +kernel) (h2 : d.leavesShort 30 = true := by decide +kernel) (h3 : d.bulk ≤ 8 * 3 := by decide +kernel) (h4 : d.depth ≤ 3 := by decide +kernel) : Fit 3 d := ⟨h1, h2, h3, h4⟩
theorem evp_pow : EvP S 0 (tOp (rI CPow fun i j => .int (i ^ j.toNat)) (tC (.int 10)) (tC (.int 18))) σ H (Sz 0) := fun H1 c x P c0 c1 Q q =>
  ⟨10, 18, rfl, rfl, ⟨by decide, by decide, by decide⟩, q _ (.int (10 ^ (18 : Int).toNat)) H1 (Xp.refl _ _) (P.more (by omega)) (.int _) (sz_fit fit_of)⟩
theorem evp_dkc : EvP S 0 (tDisp [(tC (.str "a"), tC (.int 2))]) σ H (Sz 0) := by
  intro H1 c x P c0 c1 Q q a na
  refine ⟨upd_same, [(Sum.inr "a", .int 2)], rfl, by show 1 ≤ 15; decide, ?_⟩
  have e := Ex.mut (o := .dK (mergeK [] [(Sum.inr "a", .int 2)])) (Ex.new (o := .dK []) na) na
  exact q _ (.dict [(.str "a", .int 2)]) _ (Xp.ex e) ((P.up e).more (by omega)) (.dk1 (P.sn na) upd_same (.int 2)) (sz_fit fit_of)
theorem evp_ab : EvP S 0 (tTup (tCons (tC (.str "a")) (tCons (tTup (tCons (tC (.str "b")) (tCons (tC (.int 1)) tNil))) tNil))) σ H (Sz 0) := fun H1 c x P c0 c1 Q q =>
  ⟨sz_of (by show 2 ≤ 100000; decide), fun t nt => ⟨sz_of (by show 2 ≤ 100000; decide), fun u nu => by
    have e := Ex.new (o := .tup [.str "b", .int 1]) nt
    have e2 := Ex.new (o := .tup [.str "a", .ref t]) nu
    exact q _ (.tuple [.str "a", .tuple [.str "b", .int 1]]) _ (Xp.ex (e.trans e2)) ((P.up (e.trans e2)).more (by omega)) (.tup ((P.up e).sn nu) upd_same (.cons (.str _) (.cons (.tup (P.sn nt) (e2 _ _ upd_same) (.cons (.str _) (.cons (.int _) .nil))) .nil))) (sz_fit fit_of)⟩⟩
theorem evp_one : EvP S 0 (tLst1 (tCons (tC (.int 1)) tNil)) σ H (Sz 0) := fun H1 c x P c0 c1 Q q =>
  ⟨sz_of (by show 1 ≤ 100000; decide), fun a ns na => by
    have e := Ex.new (o := .lst [.int 1]) na
    exact q _ (.list [.int 1]) _ (Xp.ex e) ((P.up e).more (by omega)) (.lst (P.sn na) ns upd_same (.cons (.int _) .nil)) (sz_fit fit_of)⟩
theorem evp_emp : EvP S 0 (tTup tNil) σ H (Sz 0) := fun H1 c x P c0 c1 Q q =>
  ⟨sz_of (by decide), fun a na => by
    have e := Ex.new (o := .tup []) na
    exact q _ (.tuple []) _ (Xp.ex e) ((P.up e).more (by omega)) (.tup (P.sn na) upd_same .nil) (sz_fit fit_of)⟩
end
/-! the marks as data -/
def marksD (i : Nat) : List PyData := (List.range 17).map fun j => .bool (decide (i = j))
theorem marks_range (i : Nat) : marks i = (List.range 17).map fun j => V.bl (decide (i = j)) := rfl
theorem dp_bools {K : PySem.W.Frag} {H : Hp} (f : Nat → Bool) : ∀ ns : List Nat, DpAll K H (ns.map fun j => V.bl (f j)) (ns.map fun j => PyData.bool (f j))
  | [] => .nil
  | n :: r => .cons (.bl _) (dp_bools f r)
theorem marks_eq (i : Nat) (h : i < 17) : SeqAt.shaped (.list (marksD i)) = true ∧ PyData.eqv (.list (marksD i)) (.list (marksD i)) = true := by
  have : ∀ i < 17, SeqAt.shaped (.list (marksD i)) = true ∧ PyData.eqv (.list (marksD i)) (.list (marksD i)) = true := by decide +kernel
  exact this i h
theorem cls_len (C D : Nat → Addr) : (cls C D).length = 17 := rfl
theorem dd_rep {p : Option Sx} {H : Hp} {v : V} {d : PyData} (h : Dd p H v d) : ∀ n : Nat, DdAll p H (List.replicate n v) (List.replicate n d)
  | 0 => .nil
  | n + 1 => .cons h (dd_rep h n)
theorem room200 {k : Nat} {A : Around} (r : Room k A) : A.units + 200 < cLine := by
  have := r.un
  omega
theorem int_eq (i j : Nat) : (decide (V.int (i : Int) = V.int (0 + (j : Int)))) = decide (i = j) := by
  refine decide_eq_decide.mpr ⟨fun h => ?_, fun h => ?_⟩
  · have h2 : (i : Int) = 0 + (j : Int) := V.int.inj h
    omega
  · subst h
    rw [Int.zero_add]
end K59
namespace K59
open PySem PySem.Spec PyProof.Rows L2 Evl Es
abbrev nRight : List Str := ["_law_pot_here", "_law_odd", "_law_turn", "_law_kept", "_law_made_here", "_law_k", "_law_error", "_law_other"]
theorem scRight : FnScope nRight ["_law_pot_here"] (defScope sRight) := ⟨rfl, rfl, rfl, by decide +kernel, rfl, by decide +kernel, by decide +kernel⟩
abbrev nLaw : List Str := ["_law_script", "_law_k"]
theorem scLaw : FnScope nLaw ["_law_script"] (defScope sLaw) := ⟨rfl, rfl, rfl, by decide +kernel, rfl, by decide +kernel, by decide +kernel⟩
section
variable {P : Program} {w : World} {K : PySem.W.Frag} {mg : Str → Option Value} {base : Heap} {C fI : Nat → Addr} {fd : Nat → FuncData} {D : Nat → Addr} {S fPot fTake fOf fMade fNamed fMarks fVals fRight : Addr} {dPot dTake dOf dMade dNamed dMarks dVals dRight : FuncData}
def spRight : Sp := fun vs H Q _ => ∃ p : Addr, vs = [.ref p] ∧ Pot H p 0 ∧ ∀ H', Xp p H H' → Q (.bl true) H'
theorem ok_right (T : Top K mg C fI fd D S fPot fTake fOf fMade fNamed fMarks fVals fRight dPot dTake dOf dMade dNamed dMarks dVals dRight) : GnOk P w K mg base 5 fRight dRight ["_law_pot_here"] spRight := by
  have b1 : Binds K dTake ["_law_pot_here", "_law_many"] [] := T.Take.binds fun _ _ _ _ _ _ us hl => match us, hl with | [_, _], _ => rfl
  have b2 : Binds K dOf ["_law_pot_here", "_law_some"] [] := T.Of.binds fun _ _ _ _ _ _ us hl => match us, hl with | [_, _], _ => rfl
  have b3 : Binds K dMade ["_law_odd"] [] := T.Made.binds fun _ _ _ _ _ _ us hl => match us, hl with | [_], _ => rfl
  have b4 : Binds K dNamed ["_law_odd"] [] := T.Named.binds fun _ _ _ _ _ _ us hl => match us, hl with | [_], _ => rfl
  have b5 : Binds K dMarks ["_law_error"] [] := T.Marks.binds fun _ _ _ _ _ _ us hl => match us, hl with | [_], _ => rfl
  have b6 : Binds K dVals ["_law_made_here"] [] := T.Vals.binds fun _ _ _ _ _ _ us hl => match us, hl with | [_], _ => rfl
  have G1 : FnOk P w K mg base CX0 4 fTake dTake ["_law_pot_here", "_law_many"] spTake := ok_take T.Take
  have G2 : FnOk P w K mg base CX0 4 fOf dOf ["_law_pot_here", "_law_some"] spPickL := ok_of T.Of T.Take b1 T.gTake T.zlen
  have G3 : FnOk P w K mg base CX0 4 fMade dMade ["_law_odd"] (spMade C D) := (ok_made T).mono (by decide)
  have G4 : FnOk P w K mg base CX0 4 fNamed dNamed ["_law_odd"] (spMade C D) := (ok_named T).mono (by decide)
  have G5 : FnOk P w K mg base CX0 4 fMarks dMarks ["_law_error"] (spMarks C D) := (ok_marks T).mono (by decide)
  have G6 : FnOk P w K mg base CX0 4 fVals dVals ["_law_made_here"] (spVals C D) := (ok_vals T).mono (by decide)
  refine gn_of (N := nRight) T.Right scRight (fun vs H Q E h => ?_) (fun cd A out s H vs Q E hg hr h => ?_)
  · obtain ⟨p, rfl, _⟩ := h
    rfl
  · obtain ⟨p, rfl, hP, q⟩ := h
    refine ⟨_, pss_cons (ps_set (i := 1) scRight.nd rfl (.inl rfl) (pe_call G2 hr (by rfl) T.gOf T.Of.kp b2 .nil pass0 (pa_cons (pv 0) (pa_cons (pe_lst (pa_cons pe_non (pa_cons pe_bl (pa_cons pe_int (pa_cons (pe_un un_neg pe_int) (pa_cons (pe_op op_pow pe_int pe_int) (pa_cons pe_str (pa_cons pe_str (pa_cons (pe_tup pa_nil) (pa_cons (pe_lst1 (pa_cons pe_int pa_nil)) (pa_cons (pe_disp (pps_cons pe_str pe_int pps_nil) (by rfl) (by rfl) (fun z => by cases z) (by decide)) (pa_cons (pe_tup (pa_cons pe_str (pa_cons (pe_tup (pa_cons pe_str (pa_cons pe_int pa_nil))) pa_nil))) pa_nil)))))))))))) pa_nil))))
      (pss_cons (ps_for PassesOwn.never rfl (pi_range1 (by rfl) T.zrange (pa_cons (pe_call G2 hr (by rfl) T.gOf T.Of.kp b2 .nil pass0 (pa_cons (pv 0) (pa_cons (pe_lst (pa_cons pe_int (pa_cons pe_int (pa_cons pe_int (pa_cons pe_int pa_nil))))) pa_nil))) pa_nil)) (pg_name (i := 2) scRight.nd rfl (.inl rfl))
        (pss_one (ps_set (i := 1) scRight.nd rfl (.inl rfl) (pe_ix ix_list (pe_lst (pa_cons (pe_tup (pa_cons (pv 1) pa_nil)) (pa_cons (pe_lst1 (pa_cons (pv 1) pa_nil))
          (pa_cons (pe_disp (pps_cons pe_str (pv 1) pps_nil) (by rfl) (by rfl) (fun z => by cases z) (by decide)) pa_nil))))
          (pe_call G1 hr (by rfl) T.gTake T.Take.kp b1 .nil pass0 (pa_cons (pv 0) (pa_cons pe_int pa_nil))) (fun _ _ => rfl)))))
      (pss_cons (ps_set (i := 3) scRight.nd rfl (.inl rfl) (pe_callB (cr_reprX hg (room200 hr)) (by rfl) T.zrepr boot_repr (pa_cons (pv 1) pa_nil)))
      (pss_cons (ps_for PassesOwn.never rfl (pi_tup (pe_tup (pa_cons (pe_call G3 hr (by rfl) T.gMade T.Made.kp b3 .nil pass0 (pa_cons (pv 1) pa_nil)) (pa_cons (pe_call G4 hr (by rfl) T.gNamed T.Named.kp b4 .nil pass0 (pa_cons (pv 1) pa_nil)) pa_nil)))) (pg_name (i := 4) scRight.nd rfl (.inl rfl))
        (pss_cons (ps_for PassesOwn.never rfl (pi_enum (by rfl) T.zenumerate (pa_cons (pv 4) pa_nil)) (pg_tup rfl (pgs_cons (pg_name (i := 5) scRight.nd rfl (.inr rfl)) (pgs_cons (pg_name (i := 6) scRight.nd rfl (.inl rfl)) pgs_nil)))
          (pss_cons (ps_if (pt_cmpR (op_neD hr.units) (pe_call G5 hr (by rfl) T.gMarks T.Marks.kp b5 .nil pass0 (pa_cons (pv 6) pa_nil))
              (pe_lc (own := [("_law_other", 7)]) (g := gName 7) (tt := tYes) rfl scRight.nd (pi_range1 (by rfl) T.zrange (pa_cons pe_int pa_nil))
                (blkOk_by (N := nRight) (sc := defScope sRight) (own := [("_law_other", 7)]) (by decide +kernel)) (fun _ _ _ _ _ => pg_name (i := 7) scRight.nd rfl (Or.inl rfl)) (fun _ _ _ _ _ => pts_nil)
                (fun _ _ _ _ _ => pe_cmpR op_eq (pv 5) (pv 7) (nomark _))) (nomark _)) (pss_one (ps_ret pe_bl)) pss_nil)
          (pss_one (ps_if (PW.pt (pw_or (pt_not (pt_val (pe_callB cr_isX (by rfl) T.zisinstance boot_isinstance (pa_cons (pv 6) (pa_cons (pe_glob (v := .ref S) (by rfl) T.gS rfl) pa_nil)))))
              (pw_or1 (pt_not (pt_val (pe_callB cr_isX (by rfl) T.zisinstance boot_isinstance (pa_cons (pv 6) (pa_cons (pe_bltn (v := .ty "ValueError") (by rfl) T.zValueError (by decide +kernel) rfl) pa_nil)))))))) (pss_one (ps_ret pe_bl)) pss_nil))))
        (pss_one (ps_if (pt_cmpR op_ne (pe_callB (cr_reprX hg (room200 hr)) (by rfl) T.zrepr boot_repr (pa_cons (pe_call G6 hr (by rfl) T.gVals T.Vals.kp b6 .nil pass0 (pa_cons (pv 4) pa_nil)) pa_nil))
            (pe_callB (cr_reprX hg (room200 hr)) (by rfl) T.zrepr boot_repr (pa_cons (pe_op op_rep12 (pe_lst (pa_cons (pv 1) pa_nil)) pe_int) pa_nil)) (nomark _)) (pss_one (ps_ret pe_bl)) pss_nil))))
      (pss_one (ps_ret (pe_cmpR op_eq (pe_callB (cr_reprX hg (room200 hr)) (by rfl) T.zrepr boot_repr (pa_cons (pv 1) pa_nil)) (pv 3) (nomark _))))))), ?_⟩
    -- one of eleven values
    let Z : Sx := ⟨p, fun _ => False⟩
    have PZ : PotS Z H 0 := ⟨hP, fun _ z => z.elim⟩
    have hsome := evl_lst (S := Z) (σ := L2.start nRight [.ref p]) (H := H) (N := 11) (L := AllSz 0) (evz (evp_non (sz_fit fit_of)) (evz (evp_bl (z := true) (sz_fit fit_of)) (evz (evp_int (z := 0) (sz_fit fit_of)) (evz (evp_neg (i := 7) (sz_fit fit_of)) (evz evp_pow (evz (evp_str (z := "a") (sz_fit fit_of)) (evz (evp_str (z := "") (sz_fit fit_of)) (evz evp_emp (evz evp_one (evz evp_dkc (evz evp_ab evz_nil))))))))))) (by decide)
    refine ⟨.ref p, rfl, ?_⟩
    refine cons_of (hsome H 0 (Xp.refl _ _) PZ (by decide) (by decide) _ fun l vs ds H1 x1 P1 nl hl hds hL => ?_)
    have hlen := hds.length
    have hL2 := hL.2
    refine ⟨p, l, 0, vs, rfl, by decide, P1.1, nl, hl, by omega, by omega, fun v H2 hv x2 P2 => ?_⟩
    obtain ⟨d, hdm, hvd⟩ := hds.mem hv
    have hvd2 : Dd (some Z) H2 v d := hvd.xp x2
    have hsz0 := hL.1 d hdm
    have x02 : Xp p H H2 := Xp.trans x1 x2
    clear hds hvd hL hl hv hdm x1 x2 P1 hsome
    -- how often it is wrapped
    refine ⟨.ref p, rfl, sz_of (by decide), fun l2 nl2 => ?_⟩
    have el2 := Ex.new (o := .lst [.int 0, .int 0, .int 1, .int 25]) nl2
    refine ⟨p, l2, 1, _, rfl, by decide, P2.up el2, P2.ne nl2, upd_same, by decide, by decide, fun rv H3 hrv x3 P3 => ?_⟩
    obtain ⟨r, rfl, r0, r1⟩ : ∃ r : Int, rv = .int r ∧ 0 ≤ r ∧ r ≤ 25 := by
      simp only [List.mem_cons, List.not_mem_nil, or_false] at hrv
      rcases hrv with rfl | rfl | rfl | rfl <;> exact ⟨_, rfl, by decide, by decide⟩
    have x23 : Xp p H2 H3 := (Xp.ex el2).trans x3
    refine ⟨r, rfl, by omega, by omega, for_range (lo := 0) (n := r.toNat) (fun i σ H' => Xp p H H' ∧ Pot H' p (2 + i) ∧ ∃ u e y, Dd (some Z) H' u e ∧ Sz i e ∧ σ = [some (.ref p), some u, y, none, none, none, none, none]) ?_ ?_ ?_⟩
    · exact ⟨x02.trans x23, P3.more (by omega), v, d, none, Dd.xp (q := Z) x23 hvd2, hsz0, rfl⟩
    · rintro i σ H' hi ⟨xi, Pi, u, e, y, hu, hf, rfl⟩
      have PZi : PotS Z H' (2 + i) := ⟨Pi, fun _ z => z.elim⟩
      have hch := evl_lst (S := Z) (σ := [some (.ref p), some u, some (.int (0 + (i : Int))), none, none, none, none, none]) (H := H') (N := 3) (L := AllSz (i + 1)) (evz (evz_tup (i := 1) rfl hu hf) (evz (evz_lst (i := 1) rfl hu hf) (evz (evz_dk (i := 1) rfl hu hf) evz_nil))) (by decide)
      refine sp_asg (op_of (hch H' (2 + i) (Xp.refl _ _) PZi (by omega) (by omega) _ fun m ws es H4 x4 P4 nm hm hws hM => ?_))
      have hwl := hws.length
      have hM2 := hM.2
      refine ⟨.ref p, rfl, p, 3, 2 + i + 0, rfl, by decide, by decide, by omega, P4.1, fun r2 H5 s0 s1 x5 P5 => ?_⟩
      have hlt : r2.toNat < ws.length := by omega
      obtain ⟨e2, he2, hd2⟩ := hws.mem (List.getElem_mem hlt)
      refine ⟨m, ws, r2, ws[r2.toNat], rfl, rfl, sq_of (x5 _ _ nm hm), ?_, ?_⟩
      · have := atI_nat (xs := ws) (j := r2.toNat) (v := ws[r2.toNat]) (List.getElem?_eq_getElem hlt)
        rw [Int.toNat_of_nonneg s0] at this
        exact this
      · have x4' : Xp p H' H4 := x4
        exact ⟨(xi.trans x4').trans x5, P5.more (by omega), ws[r2.toNat], e2, _, Dd.xp (q := Z) x5 hd2, hM.1 e2 he2, rfl⟩
    rintro σ H4 ⟨x4, P4, u, e, y2, hu, hf, rfl⟩
    have hsz : Sz 25 e := hf.more (by omega)
    have hfit := hsz.fit
    have hmany := hsz.many
    clear hf hsz0 hvd2 hsz
    -- what it was
    refine ⟨u, rfl, u, e, some Z, rfl, hu, hfit, ?_⟩
    -- all made, by place and by name
    refine ⟨u, rfl, u, rfl, fun la xa H5 e5 hla hxa => ?_⟩
    refine ⟨u, rfl, u, rfl, fun lb xb H6 e6 hlb hxb => ?_⟩
    refine ⟨sz_of (by show 2 ≤ 100000; decide), fun tp ntp => ?_⟩
    have e7 := Ex.new (o := .tup [.ref la, .ref lb]) ntp
    have e47 := (e5.trans e6).trans e7
    have both : ∀ l ∈ [V.ref la, V.ref lb], ∃ a xs, l = .ref a ∧ upd H6 tp (.tup [.ref la, .ref lb]) a = some (.lst xs) ∧ Errs (upd H6 tp (.tup [.ref la, .ref lb])) u xs (cls C D) := by
      intro l hl
      simp only [List.mem_cons, List.not_mem_nil, or_false] at hl
      rcases hl with rfl | rfl
      · exact ⟨la, xa, rfl, (e6.trans e7) _ _ hla, hxa.up (e6.trans e7)⟩
      · exact ⟨lb, xb, rfl, e7 _ _ hlb, hxb.up e7⟩
    have htp : upd H6 tp (.tup [.ref la, .ref lb]) tp = some (.tup [.ref la, .ref lb]) := upd_same
    generalize upd H6 tp (.tup [.ref la, .ref lb]) = H7 at e47 both htp
    clear e7 e6 e5 hla hlb hxa hxb ntp
    refine ⟨tp, rfl, ⟨_, st_of htp⟩, for_tup (xs := [.ref la, .ref lb]) (fun i σ H' => Ex H7 H' ∧ ∃ y4 y5 y6, σ = [some (.ref p), some u, y2, some (.str e.shown), y4, y5, y6, none]) ⟨Ex.refl _, none, none, none, rfl⟩ (fun i σ H' _ x => st_of (x.1 _ _ htp)) ?_ ?_⟩
    · rintro i x σ H8 hx ⟨e8, y4, y5, y6, rfl⟩
      obtain ⟨l, xs, rfl, hl7, hxs7⟩ := both x (List.mem_of_getElem? hx)
      have hl := e8 _ _ hl7
      have hxs := hxs7.up e8
      have hxl := hxs.length
      rw [cls_len] at hxl
      refine ⟨.ref l, rfl, l, xs, rfl, sq_of hl, for_it (walk_enum (xs := xs)) (fun j σ H' => Ex H8 H' ∧ ∃ y5 y6, σ = [some (.ref p), some u, y2, some (.str e.shown), some (.ref l), y5, y6, none]) ⟨Ex.refl _, y5, y6, rfl⟩ (fun j σ H' _ x => sq_of (x.1 _ _ hl)) ?_ ?_⟩
      · rintro j z σ H9 H10 hj ⟨e9, y5, y6, rfl⟩ ⟨tt, kz, ez, rfl, ntt, rfl, hk, hez⟩
        dsimp only at hk hez
        cases hk
        have hj17 : j < 17 := by omega
        obtain ⟨c, hc⟩ : ∃ c, (cls C D)[j]? = some c := ⟨_, List.getElem?_eq_getElem (by rw [cls_len]; exact hj17)⟩
        obtain ⟨a, ha, hxa⟩ := hxs.get hc
        rw [ha] at hez
        cases hez
        have et := Ex.new (o := .tup [.int (j : Nat), .ref a]) ntt
        refine ⟨tt, _, rfl, st_of upd_same, rfl, .int (j : Nat), [.ref a], rfl, .ref a, [], rfl, rfl, ?_⟩
        have hxa10 := hxa.up (e9.trans et)
        have kc := T.kit c (List.mem_of_getElem? hc)
        obtain ⟨sp1, sp2⟩ := T.sup c (List.mem_of_getElem? hc)
        obtain ⟨ms, me⟩ := marks_eq j hj17
        have e810 := e9.trans et
        generalize upd H9 tt (.tup [.int (j : Nat), .ref a]) = H10 at hxa10 e810
        -- its marks
        refine ⟨.ref a, rfl, a, j, c, _, rfl, hc, hxa10, fun m H11 nm e11 hm => ?_⟩
        refine ⟨17, rfl, by decide, by decide, fun Dl nDl => lc_range (lo := 0) (n := 17) (g := gName 7) (tt := tYes) (vs := [7]) (fun i H' => Ex H11 H' ∧ H' Dl = some (.lst ((List.range i).map fun o => V.bl (decide (j = o))))) ⟨Ex.new nDl, upd_same⟩ ?_ ?_⟩
        · rintro i H' hi ⟨ei, hD⟩
          refine ⟨rfl, .int (j : Nat), rfl, .int (0 + (i : Int)), rfl, rfl, _, hD, ?_, Ex.mut ei nDl, ?_⟩
          · rw [List.length_map, List.length_range]
            exact sz_lt (by omega)
          · rw [upd_same, int_eq, List.range_succ, List.map_append]
            rfl
        rintro H12 ⟨e12, hD⟩
        refine ⟨.list (marksD j), .list (marksD j), .lst (sq_of (e12 _ _ hm)) (dp_bools (fun o => decide (j = o)) (List.range 17)), .lst (sq_of hD) (dp_bools (fun o => decide (j = o)) (List.range 17)), ms, ms, _, rfl, ?_⟩
        rw [me]
        refine iteF ?_
        have e1012 := e11.trans e12
        have hxa12 := hxa10.up e1012
        refine ⟨.ref a, rfl, a, c.1, _, .ref S, .ref S, true, rfl, hxa12, kc, .own S, sp1, _, rfl, ?_⟩
        refine iteF ?_
        refine ⟨.ref a, rfl, a, c.1, _, .ty "ValueError", .type "ValueError", true, rfl, hxa12, kc, .ty _, sp2, _, rfl, ?_⟩
        refine iteF ?_
        exact ⟨e810.trans e1012, _, _, rfl⟩
      · rintro σ H9 ⟨e9, y5, y6, rfl⟩
        have hl9 := e9 _ _ hl
        have hu9 := hu.up ((e47.trans e8).trans e9)
        refine ⟨.ref l, rfl, l, xs, u, rfl, hl9, hxs.up e9, fun m H10 nsm nm e10 hm => ?_⟩
        have hu10 := hu9.up e10
        have hno : ∀ {a : Addr} {H' : Hp}, Ex H4 H' → H' a = none → ¬ Es.out (some Z) a := fun ex na => (PotS.sn (S := Z) (H := _) (c := 2 + (r.toNat : Int)) ⟨P4.up ex, fun _ z => z.elim⟩ na)
        have e49 := (e47.trans e8).trans e9
        have dm : Dd (some Z) H10 (.ref m) (.list (List.replicate 12 e)) := .lst (hno e49 nm) nsm hm (dd_rep hu10 12)
        refine ⟨.ref m, _, some Z, rfl, dm, hmany, u, rfl, sz_of (by show 1 ≤ 100000; decide), fun l1 nl1 => ?_⟩
        have el1 := Ex.new (o := .lst [u]) nl1
        refine ⟨l1, u, rfl, rfl, upd_same, fun l3 ns3 nl3 => ?_⟩
        have el3 := Ex.new (o := .lst (List.replicate 12 u)) nl3
        have ea := (e49.trans e10).trans el1
        refine ⟨.ref l3, _, some Z, rfl, .lst (hno ea nl3) ns3 upd_same (dd_rep (hu10.up (el1.trans el3)) 12), hmany, rfl, _, rfl, ?_⟩
        rw [decide_eq_true rfl]
        refine iteF ?_
        exact ⟨((e8.trans e9).trans e10).trans (el1.trans el3), _, _, _, rfl⟩
    · rintro σ H8 ⟨e8, y4, y5, y6, rfl⟩
      have hu8 := hu.up (e47.trans e8)
      refine ⟨u, rfl, u, e, some Z, rfl, hu8, hfit, _, rfl, rfl, ?_⟩
      rw [decide_eq_true rfl]
      exact q H8 (x4.trans (Xp.ex (e47.trans e8)))
def spLaw (K : PySem.W.Frag) : Sp := fun vs H Q _ => ∃ (a : Addr) (ns : List Int), vs = [.ref a] ∧ SqL K H a (ns.map V.int) ∧ ∀ H', Q (.bl true) H'
theorem rep_all : ∀ n : Nat, (List.replicate n true).all id = true
  | 0 => rfl
  | n + 1 => by
    rw [List.replicate_succ, List.all_cons, rep_all n]
    rfl
theorem ok_law {f : Addr} {fdl : FuncData} (F : Fun K "law" "law" sLaw f fdl) (T : Top K mg C fI fd D S fPot fTake fOf fMade fNamed fMarks fVals fRight dPot dTake dOf dMade dNamed dMarks dVals dRight) : GnOk P w K mg base 6 f fdl ["_law_script"] (spLaw K) := by
  have b1 : Binds K dPot ["_law_script", "_law_k"] [] := T.Pot.binds fun _ _ _ _ _ _ us hl => match us, hl with | [_, _], _ => rfl
  have b2 : Binds K dRight ["_law_pot_here"] [] := T.Right.binds fun _ _ _ _ _ _ us hl => match us, hl with | [_], _ => rfl
  have G1 : FnOk P w K mg base CX0 5 fPot dPot ["_law_script", "_law_k"] (spPot K) := ok_pot T.Pot T.zlen T.zabs T.zint
  have G2 : GnOk P w K mg base 5 fRight dRight ["_law_pot_here"] spRight := ok_right T
  refine gn_of (N := nLaw) F scLaw (fun vs H Q E h => ?_) (fun cd A out s H vs Q E hg hr h => ?_)
  · obtain ⟨a, ns, rfl, _⟩ := h
    rfl
  · obtain ⟨a, ns, rfl, hS, q⟩ := h
    refine ⟨_, pss_one (ps_ret (pe_callB (cr_all rfl) (by rfl) T.zall boot_all (pa_cons (pe_lc (own := [("_law_k", 1)]) (g := gName 1) (tt := tYes) rfl scLaw.nd
      (pi_range1 (by rfl) T.zrange (pa_cons (pe_callB (call_max2 rfl) (by rfl) T.zmax boot_max (pa_cons pe_int (pa_cons (pe_callB (call_min2 rfl) (by rfl) T.zmin boot_min (pa_cons pe_int (pa_cons (pe_callB call_len_seq (by rfl) T.zlen PySem.boot_len (pa_cons (pv 0) pa_nil)) pa_nil))) pa_nil))) pa_nil))
      (blkOk_by (N := nLaw) (sc := defScope sLaw) (own := [("_law_k", 1)]) (by decide +kernel)) (fun _ _ _ _ _ => pg_name (i := 1) scLaw.nd rfl (Or.inl rfl)) (fun _ _ _ _ _ => pts_nil)
      (fun _ _ _ _ _ => pe_callG G2 hg hr (by rfl) T.gRight T.Right.kp b2 (pa_cons (pe_call G1 hr (by rfl) T.gPot T.Pot.kp b1 .nil pass0 (pa_cons (pv 0) (pa_cons (pv 1) pa_nil))) pa_nil))) pa_nil))), ?_⟩
    obtain ⟨n, hn0, hn3, hn⟩ : ∃ n : Int, 0 ≤ n ∧ n ≤ 3 ∧ (if (if ((ns.map V.int).length : Int) < 2 then ((ns.map V.int).length : Int) else 2) > 1 then (if ((ns.map V.int).length : Int) < 2 then ((ns.map V.int).length : Int) else 2) else 1) = n := by
      refine ⟨_, ?_, ?_, rfl⟩ <;> (split <;> split <;> omega)
    refine ⟨.ref a, rfl, a, _, rfl, .inl hS, 2, _, rfl, 1, _, rfl, _, rfl, ?_⟩
    rw [hn]
    refine ⟨by omega, by omega, fun D nD => ?_⟩
    refine lc_range (lo := 0) (n := n.toNat) (g := gName 1) (tt := tYes) (vs := [1]) (fun i H' => Ex H H' ∧ H' D = some (.lst ((List.replicate i true).map V.bl))) ?_ ?_ ?_
    · exact ⟨Ex.new nD, upd_same⟩
    · rintro i H' hi ⟨e, hD⟩
      refine ⟨rfl, .ref a, rfl, .int (0 + (i : Int)), rfl, a, i, ns, by rw [Int.zero_add]; rfl, by omega, ex_l e hS, fun p H1 np e1 P1 => ?_⟩
      refine ⟨p, rfl, P1, fun H2 x2 => ?_⟩
      have hnp : ∀ b o, H' b = some o → H2 b = some o := fun b o hb => x2 b o (ne_of_none hb np) (e1 b o hb)
      refine ⟨_, hnp _ _ hD, ?_, Ex.mut (e.trans hnp) nD, ?_⟩
      · rw [List.length_map, List.length_replicate]
        exact sz_lt (by omega)
      · rw [upd_same, List.replicate_succ', List.map_append]
        rfl
    · rintro H' ⟨e, hD⟩
      refine ⟨D, List.replicate n.toNat true, rfl, sq_of hD, ?_⟩
      rw [rep_all]
      exact q H'
end
end K59
namespace K59
open PySem PySem.Spec PyProof.Rows L2 Evl Es
/-- what is asked of a class with a value, all at once -/
def inB (K : PySem.W.Frag) (C f : Addr) (g : Str) : Bool :=
  decide (PySem.W.findIn K (.ref C) "__setattr__" = some (some (.builtin "object.__setattr__"))) && (decide (PySem.W.typeIn K (.ref C) = some (.type "type")) && (PySem.W.keepIn K (.ref C) &&
    (decide (PySem.W.findIn K (.ref C) g = some none) && (decide (PySem.W.typeIn K (.ref f) = some (.type "function")) && kitCB K C))))
/-- how all the classes stand to one another -/
def prB (K : PySem.W.Frag) (cs : List Addr) (S : Addr) : Bool :=
  (List.range 17).all fun i => (decide (PySem.W.kitOne K (.ref (cs.getD i 0)) (.ref S) = some true) && decide (PySem.W.kitOne K (.ref (cs.getD i 0)) (.type "ValueError") = some true)) &&
    (List.range 17).all fun j => decide (PySem.W.kitOne K (.ref (cs.getD i 0)) (.ref (cs.getD j 0)) = some (decide (i = j)))
theorem prB_of {K : PySem.W.Frag} {cs : List Addr} {S : Addr} (h : prB K cs S = true) (i : Nat) (hi : i < 17) : PySem.W.kitOne K (.ref (cs.getD i 0)) (.ref S) = some true ∧ PySem.W.kitOne K (.ref (cs.getD i 0)) (.type "ValueError") = some true ∧
    ∀ j, j < 17 → PySem.W.kitOne K (.ref (cs.getD i 0)) (.ref (cs.getD j 0)) = some (decide (i = j)) := by
  unfold prB at h
  have h1 := List.all_eq_true.mp h i (List.mem_range.mpr hi)
  rw [Bool.and_eq_true, Bool.and_eq_true] at h1
  obtain ⟨⟨a, b⟩, c⟩ := h1
  exact ⟨of_decide_eq_true a, of_decide_eq_true b, fun j hj => of_decide_eq_true (List.all_eq_true.mp c j (List.mem_range.mpr hj))⟩
theorem err_mk {K : PySem.W.Frag} {mg : Str → Option Value} {x qual g : Str} {st : Stmt} {C f : Addr} {fd : FuncData} {nm q : Str} {N : Addr} {bs bm : List Value} {sn : List Str} {sub : List Value} {ab : Bool} {col : Option Bool} {dd : Option Addr} {k0 k1 k2 k3 k5 : Option Value}
    (cg : mg x = some (.ref C)) (xc : K.lookup C = some (excClassObj nm q C N bs bm true sn sub ab col dd k0 k1 k2 k3 k5 "ValueError.__new__")) (rc : PySem.HandSPX.refsVE bm = true) (ic : PySem.W.findIn K (.ref C) "__init__" = some (some (.ref f)))
    (b : inB K C f g = true) (F : Fun K "__init__" qual st f fd) : ErrI K mg x qual g st C f fd := by
  unfold inB at b
  simp only [Bool.and_eq_true, decide_eq_true_eq] at b
  obtain ⟨b1, b2, b3, b4, b5, b6⟩ := b
  have kc := kitC_of b6
  exact ⟨cg, ⟨⟨nm, q, N, bs, bm, sn, sub, ab, col, dd, k0, k1, k2, k3, k5, xc, rc⟩, b1, kc.ex, b2, b3⟩, kc, b4, ic, b5, F⟩
theorem all_mk {l : PySem.W.OpenLaw} {w : World} {K : PySem.W.Frag} {h : Heap} {mg : Str → Option Value} {fa : Addr} (X : K.In h) (G : h.Ns mainGlobals mg) (hfa : mg "law" = some (.ref fa))
    {c0 g0 : Addr} {nm0 q0 : Str} {N0 : Addr} {bs0 bm0 : List Value} {sn0 : List Str} {sub0 : List Value} {ab0 : Bool} {col0 : Option Bool} {dd0 : Option Addr} {m0_0 m1_0 m2_0 m3_0 m5_0 : Option Value} {od0 an0 : Option Addr} {sl0 : Array (Option Value)} {oc0 kV0 dc0 pm0 cd0 ct0 : Value}
    {c1 g1 : Addr} {nm1 q1 : Str} {N1 : Addr} {bs1 bm1 : List Value} {sn1 : List Str} {sub1 : List Value} {ab1 : Bool} {col1 : Option Bool} {dd1 : Option Addr} {m0_1 m1_1 m2_1 m3_1 m5_1 : Option Value} {od1 an1 : Option Addr} {sl1 : Array (Option Value)} {oc1 kV1 dc1 pm1 cd1 ct1 : Value}
    {c2 g2 : Addr} {nm2 q2 : Str} {N2 : Addr} {bs2 bm2 : List Value} {sn2 : List Str} {sub2 : List Value} {ab2 : Bool} {col2 : Option Bool} {dd2 : Option Addr} {m0_2 m1_2 m2_2 m3_2 m5_2 : Option Value} {od2 an2 : Option Addr} {sl2 : Array (Option Value)} {oc2 kV2 dc2 pm2 cd2 ct2 : Value}
    {c3 g3 : Addr} {nm3 q3 : Str} {N3 : Addr} {bs3 bm3 : List Value} {sn3 : List Str} {sub3 : List Value} {ab3 : Bool} {col3 : Option Bool} {dd3 : Option Addr} {m0_3 m1_3 m2_3 m3_3 m5_3 : Option Value} {od3 an3 : Option Addr} {sl3 : Array (Option Value)} {oc3 kV3 dc3 pm3 cd3 ct3 : Value}
    {c4 g4 : Addr} {nm4 q4 : Str} {N4 : Addr} {bs4 bm4 : List Value} {sn4 : List Str} {sub4 : List Value} {ab4 : Bool} {col4 : Option Bool} {dd4 : Option Addr} {m0_4 m1_4 m2_4 m3_4 m5_4 : Option Value} {od4 an4 : Option Addr} {sl4 : Array (Option Value)} {oc4 kV4 dc4 pm4 cd4 ct4 : Value}
    {c5 g5 : Addr} {nm5 q5 : Str} {N5 : Addr} {bs5 bm5 : List Value} {sn5 : List Str} {sub5 : List Value} {ab5 : Bool} {col5 : Option Bool} {dd5 : Option Addr} {m0_5 m1_5 m2_5 m3_5 m5_5 : Option Value} {od5 an5 : Option Addr} {sl5 : Array (Option Value)} {oc5 kV5 dc5 pm5 cd5 ct5 : Value}
    {c6 g6 : Addr} {nm6 q6 : Str} {N6 : Addr} {bs6 bm6 : List Value} {sn6 : List Str} {sub6 : List Value} {ab6 : Bool} {col6 : Option Bool} {dd6 : Option Addr} {m0_6 m1_6 m2_6 m3_6 m5_6 : Option Value} {od6 an6 : Option Addr} {sl6 : Array (Option Value)} {oc6 kV6 dc6 pm6 cd6 ct6 : Value}
    {c7 g7 : Addr} {nm7 q7 : Str} {N7 : Addr} {bs7 bm7 : List Value} {sn7 : List Str} {sub7 : List Value} {ab7 : Bool} {col7 : Option Bool} {dd7 : Option Addr} {m0_7 m1_7 m2_7 m3_7 m5_7 : Option Value} {od7 an7 : Option Addr} {sl7 : Array (Option Value)} {oc7 kV7 dc7 pm7 cd7 ct7 : Value}
    {c8 g8 : Addr} {nm8 q8 : Str} {N8 : Addr} {bs8 bm8 : List Value} {sn8 : List Str} {sub8 : List Value} {ab8 : Bool} {col8 : Option Bool} {dd8 : Option Addr} {m0_8 m1_8 m2_8 m3_8 m5_8 : Option Value} {od8 an8 : Option Addr} {sl8 : Array (Option Value)} {oc8 kV8 dc8 pm8 cd8 ct8 : Value}
    {c9 g9 : Addr} {nm9 q9 : Str} {N9 : Addr} {bs9 bm9 : List Value} {sn9 : List Str} {sub9 : List Value} {ab9 : Bool} {col9 : Option Bool} {dd9 : Option Addr} {m0_9 m1_9 m2_9 m3_9 m5_9 : Option Value} {od9 an9 : Option Addr} {sl9 : Array (Option Value)} {oc9 kV9 dc9 pm9 cd9 ct9 : Value}
    {c10 g10 : Addr} {nm10 q10 : Str} {N10 : Addr} {bs10 bm10 : List Value} {sn10 : List Str} {sub10 : List Value} {ab10 : Bool} {col10 : Option Bool} {dd10 : Option Addr} {m0_10 m1_10 m2_10 m3_10 m5_10 : Option Value} {od10 an10 : Option Addr} {sl10 : Array (Option Value)} {oc10 kV10 dc10 pm10 cd10 ct10 : Value}
    {c11 g11 : Addr} {nm11 q11 : Str} {N11 : Addr} {bs11 bm11 : List Value} {sn11 : List Str} {sub11 : List Value} {ab11 : Bool} {col11 : Option Bool} {dd11 : Option Addr} {m0_11 m1_11 m2_11 m3_11 m5_11 : Option Value} {od11 an11 : Option Addr} {sl11 : Array (Option Value)} {oc11 kV11 dc11 pm11 cd11 ct11 : Value}
    {e0 : Addr}
    {e1 : Addr}
    {e2 : Addr}
    {e3 : Addr}
    {e4 : Addr}
    {S : Addr}
    {f0 : Addr} {fod0 fan0 : Option Addr} {fsl0 : Array (Option Value)} {foc0 fkV0 fdc0 fpm0 fcd0 fct0 : Value}
    {f1 : Addr} {fod1 fan1 : Option Addr} {fsl1 : Array (Option Value)} {foc1 fkV1 fdc1 fpm1 fcd1 fct1 : Value}
    {f2 : Addr} {fod2 fan2 : Option Addr} {fsl2 : Array (Option Value)} {foc2 fkV2 fdc2 fpm2 fcd2 fct2 : Value}
    {f3 : Addr} {fod3 fan3 : Option Addr} {fsl3 : Array (Option Value)} {foc3 fkV3 fdc3 fpm3 fcd3 fct3 : Value}
    {f4 : Addr} {fod4 fan4 : Option Addr} {fsl4 : Array (Option Value)} {foc4 fkV4 fdc4 fpm4 fcd4 fct4 : Value}
    {f5 : Addr} {fod5 fan5 : Option Addr} {fsl5 : Array (Option Value)} {foc5 fkV5 fdc5 fpm5 fcd5 fct5 : Value}
    {f6 : Addr} {fod6 fan6 : Option Addr} {fsl6 : Array (Option Value)} {foc6 fkV6 fdc6 fpm6 fcd6 fct6 : Value}
    {f7 : Addr} {fod7 fan7 : Option Addr} {fsl7 : Array (Option Value)} {foc7 fkV7 fdc7 fpm7 fcd7 fct7 : Value}
    {f8 : Addr} {fod8 fan8 : Option Addr} {fsl8 : Array (Option Value)} {foc8 fkV8 fdc8 fpm8 fcd8 fct8 : Value}
    (ac0 : PySem.W.nsIn K mainGlobals "BadGrammar" = some (some (.ref c0)))
    (xc0 : K.lookup c0 = some (excClassObj nm0 q0 c0 N0 bs0 bm0 true sn0 sub0 ab0 col0 dd0 m0_0 m1_0 m2_0 m3_0 m5_0 "ValueError.__new__"))
    (rc0 : PySem.HandSPX.refsVE bm0 = true)
    (ic0 : PySem.W.findIn K (.ref c0) "__init__" = some (some (.ref g0)))
    (lf0 : K.lookup g0 = some ⟨oc0, od0, .func (PySem.W.fnOf "__init__" "BadGrammar.__init__" (defArgs (initS 2)) (defBody (initS 2)) (defScope (initS 2)) .none kV0 dc0 pm0 an0 cd0 ct0), sl0⟩)
    (cf0 : PySem.W.codeIn K cd0 "BadGrammar.__init__" = true)
    (kf0 : PySem.W.keepIn K (.ref g0) = true)
    (bc0 : inB K c0 g0 "field" = true)
    (ac1 : PySem.W.nsIn K mainGlobals "NoBlock" = some (some (.ref c1)))
    (xc1 : K.lookup c1 = some (excClassObj nm1 q1 c1 N1 bs1 bm1 true sn1 sub1 ab1 col1 dd1 m0_1 m1_1 m2_1 m3_1 m5_1 "ValueError.__new__"))
    (rc1 : PySem.HandSPX.refsVE bm1 = true)
    (ic1 : PySem.W.findIn K (.ref c1) "__init__" = some (some (.ref g1)))
    (lf1 : K.lookup g1 = some ⟨oc1, od1, .func (PySem.W.fnOf "__init__" "NoBlock.__init__" (defArgs (initS 3)) (defBody (initS 3)) (defScope (initS 3)) .none kV1 dc1 pm1 an1 cd1 ct1), sl1⟩)
    (cf1 : PySem.W.codeIn K cd1 "NoBlock.__init__" = true)
    (kf1 : PySem.W.keepIn K (.ref g1) = true)
    (bc1 : inB K c1 g1 "name" = true)
    (ac2 : PySem.W.nsIn K mainGlobals "NotPrefix" = some (some (.ref c2)))
    (xc2 : K.lookup c2 = some (excClassObj nm2 q2 c2 N2 bs2 bm2 true sn2 sub2 ab2 col2 dd2 m0_2 m1_2 m2_2 m3_2 m5_2 "ValueError.__new__"))
    (rc2 : PySem.HandSPX.refsVE bm2 = true)
    (ic2 : PySem.W.findIn K (.ref c2) "__init__" = some (some (.ref g2)))
    (lf2 : K.lookup g2 = some ⟨oc2, od2, .func (PySem.W.fnOf "__init__" "NotPrefix.__init__" (defArgs (initS 4)) (defBody (initS 4)) (defScope (initS 4)) .none kV2 dc2 pm2 an2 cd2 ct2), sl2⟩)
    (cf2 : PySem.W.codeIn K cd2 "NotPrefix.__init__" = true)
    (kf2 : PySem.W.keepIn K (.ref g2) = true)
    (bc2 : inB K c2 g2 "place" = true)
    (ac3 : PySem.W.nsIn K mainGlobals "NoSolution" = some (some (.ref c3)))
    (xc3 : K.lookup c3 = some (excClassObj nm3 q3 c3 N3 bs3 bm3 true sn3 sub3 ab3 col3 dd3 m0_3 m1_3 m2_3 m3_3 m5_3 "ValueError.__new__"))
    (rc3 : PySem.HandSPX.refsVE bm3 = true)
    (ic3 : PySem.W.findIn K (.ref c3) "__init__" = some (some (.ref g3)))
    (lf3 : K.lookup g3 = some ⟨oc3, od3, .func (PySem.W.fnOf "__init__" "NoSolution.__init__" (defArgs (initS 5)) (defBody (initS 5)) (defScope (initS 5)) .none kV3 dc3 pm3 an3 cd3 ct3), sl3⟩)
    (cf3 : PySem.W.codeIn K cd3 "NoSolution.__init__" = true)
    (kf3 : PySem.W.keepIn K (.ref g3) = true)
    (bc3 : inB K c3 g3 "number" = true)
    (ac4 : PySem.W.nsIn K mainGlobals "NoError" = some (some (.ref c4)))
    (xc4 : K.lookup c4 = some (excClassObj nm4 q4 c4 N4 bs4 bm4 true sn4 sub4 ab4 col4 dd4 m0_4 m1_4 m2_4 m3_4 m5_4 "ValueError.__new__"))
    (rc4 : PySem.HandSPX.refsVE bm4 = true)
    (ic4 : PySem.W.findIn K (.ref c4) "__init__" = some (some (.ref g4)))
    (lf4 : K.lookup g4 = some ⟨oc4, od4, .func (PySem.W.fnOf "__init__" "NoError.__init__" (defArgs (initS 6)) (defBody (initS 6)) (defScope (initS 6)) .none kV4 dc4 pm4 an4 cd4 ct4), sl4⟩)
    (cf4 : PySem.W.codeIn K cd4 "NoError.__init__" = true)
    (kf4 : PySem.W.keepIn K (.ref g4) = true)
    (bc4 : inB K c4 g4 "number" = true)
    (ac5 : PySem.W.nsIn K mainGlobals "UnknownToken" = some (some (.ref c5)))
    (xc5 : K.lookup c5 = some (excClassObj nm5 q5 c5 N5 bs5 bm5 true sn5 sub5 ab5 col5 dd5 m0_5 m1_5 m2_5 m3_5 m5_5 "ValueError.__new__"))
    (rc5 : PySem.HandSPX.refsVE bm5 = true)
    (ic5 : PySem.W.findIn K (.ref c5) "__init__" = some (some (.ref g5)))
    (lf5 : K.lookup g5 = some ⟨oc5, od5, .func (PySem.W.fnOf "__init__" "UnknownToken.__init__" (defArgs (initS 7)) (defBody (initS 7)) (defScope (initS 7)) .none kV5 dc5 pm5 an5 cd5 ct5), sl5⟩)
    (cf5 : PySem.W.codeIn K cd5 "UnknownToken.__init__" = true)
    (kf5 : PySem.W.keepIn K (.ref g5) = true)
    (bc5 : inB K c5 g5 "token" = true)
    (ac6 : PySem.W.nsIn K mainGlobals "BadText" = some (some (.ref c6)))
    (xc6 : K.lookup c6 = some (excClassObj nm6 q6 c6 N6 bs6 bm6 true sn6 sub6 ab6 col6 dd6 m0_6 m1_6 m2_6 m3_6 m5_6 "ValueError.__new__"))
    (rc6 : PySem.HandSPX.refsVE bm6 = true)
    (ic6 : PySem.W.findIn K (.ref c6) "__init__" = some (some (.ref g6)))
    (lf6 : K.lookup g6 = some ⟨oc6, od6, .func (PySem.W.fnOf "__init__" "BadText.__init__" (defArgs (initS 9)) (defBody (initS 9)) (defScope (initS 9)) .none kV6 dc6 pm6 an6 cd6 ct6), sl6⟩)
    (cf6 : PySem.W.codeIn K cd6 "BadText.__init__" = true)
    (kf6 : PySem.W.keepIn K (.ref g6) = true)
    (bc6 : inB K c6 g6 "value" = true)
    (ac7 : PySem.W.nsIn K mainGlobals "BadRange" = some (some (.ref c7)))
    (xc7 : K.lookup c7 = some (excClassObj nm7 q7 c7 N7 bs7 bm7 true sn7 sub7 ab7 col7 dd7 m0_7 m1_7 m2_7 m3_7 m5_7 "ValueError.__new__"))
    (rc7 : PySem.HandSPX.refsVE bm7 = true)
    (ic7 : PySem.W.findIn K (.ref c7) "__init__" = some (some (.ref g7)))
    (lf7 : K.lookup g7 = some ⟨oc7, od7, .func (PySem.W.fnOf "__init__" "BadRange.__init__" (defArgs (initS 10)) (defBody (initS 10)) (defScope (initS 10)) .none kV7 dc7 pm7 an7 cd7 ct7), sl7⟩)
    (cf7 : PySem.W.codeIn K cd7 "BadRange.__init__" = true)
    (kf7 : PySem.W.keepIn K (.ref g7) = true)
    (bc7 : inB K c7 g7 "value" = true)
    (ac8 : PySem.W.nsIn K mainGlobals "NotAFix" = some (some (.ref c8)))
    (xc8 : K.lookup c8 = some (excClassObj nm8 q8 c8 N8 bs8 bm8 true sn8 sub8 ab8 col8 dd8 m0_8 m1_8 m2_8 m3_8 m5_8 "ValueError.__new__"))
    (rc8 : PySem.HandSPX.refsVE bm8 = true)
    (ic8 : PySem.W.findIn K (.ref c8) "__init__" = some (some (.ref g8)))
    (lf8 : K.lookup g8 = some ⟨oc8, od8, .func (PySem.W.fnOf "__init__" "NotAFix.__init__" (defArgs (initS 11)) (defBody (initS 11)) (defScope (initS 11)) .none kV8 dc8 pm8 an8 cd8 ct8), sl8⟩)
    (cf8 : PySem.W.codeIn K cd8 "NotAFix.__init__" = true)
    (kf8 : PySem.W.keepIn K (.ref g8) = true)
    (bc8 : inB K c8 g8 "value" = true)
    (ac9 : PySem.W.nsIn K mainGlobals "NotPlain" = some (some (.ref c9)))
    (xc9 : K.lookup c9 = some (excClassObj nm9 q9 c9 N9 bs9 bm9 true sn9 sub9 ab9 col9 dd9 m0_9 m1_9 m2_9 m3_9 m5_9 "ValueError.__new__"))
    (rc9 : PySem.HandSPX.refsVE bm9 = true)
    (ic9 : PySem.W.findIn K (.ref c9) "__init__" = some (some (.ref g9)))
    (lf9 : K.lookup g9 = some ⟨oc9, od9, .func (PySem.W.fnOf "__init__" "NotPlain.__init__" (defArgs (initS 15)) (defBody (initS 15)) (defScope (initS 15)) .none kV9 dc9 pm9 an9 cd9 ct9), sl9⟩)
    (cf9 : PySem.W.codeIn K cd9 "NotPlain.__init__" = true)
    (kf9 : PySem.W.keepIn K (.ref g9) = true)
    (bc9 : inB K c9 g9 "piece" = true)
    (ac10 : PySem.W.nsIn K mainGlobals "BadSource" = some (some (.ref c10)))
    (xc10 : K.lookup c10 = some (excClassObj nm10 q10 c10 N10 bs10 bm10 true sn10 sub10 ab10 col10 dd10 m0_10 m1_10 m2_10 m3_10 m5_10 "ValueError.__new__"))
    (rc10 : PySem.HandSPX.refsVE bm10 = true)
    (ic10 : PySem.W.findIn K (.ref c10) "__init__" = some (some (.ref g10)))
    (lf10 : K.lookup g10 = some ⟨oc10, od10, .func (PySem.W.fnOf "__init__" "BadSource.__init__" (defArgs (initS 17)) (defBody (initS 17)) (defScope (initS 17)) .none kV10 dc10 pm10 an10 cd10 ct10), sl10⟩)
    (cf10 : PySem.W.codeIn K cd10 "BadSource.__init__" = true)
    (kf10 : PySem.W.keepIn K (.ref g10) = true)
    (bc10 : inB K c10 g10 "row" = true)
    (ac11 : PySem.W.nsIn K mainGlobals "BadLine" = some (some (.ref c11)))
    (xc11 : K.lookup c11 = some (excClassObj nm11 q11 c11 N11 bs11 bm11 true sn11 sub11 ab11 col11 dd11 m0_11 m1_11 m2_11 m3_11 m5_11 "ValueError.__new__"))
    (rc11 : PySem.HandSPX.refsVE bm11 = true)
    (ic11 : PySem.W.findIn K (.ref c11) "__init__" = some (some (.ref g11)))
    (lf11 : K.lookup g11 = some ⟨oc11, od11, .func (PySem.W.fnOf "__init__" "BadLine.__init__" (defArgs (initS 18)) (defBody (initS 18)) (defScope (initS 18)) .none kV11 dc11 pm11 an11 cd11 ct11), sl11⟩)
    (cf11 : PySem.W.codeIn K cd11 "BadLine.__init__" = true)
    (kf11 : PySem.W.keepIn K (.ref g11) = true)
    (bc11 : inB K c11 g11 "line" = true)
    (ap0 : PySem.W.nsIn K mainGlobals "Finished" = some (some (.ref e0)))
    (ep0 : PySem.W.excIn K e0 PySem.HandSPX.veTail "ValueError.__new__" = true)
    (kp0 : PySem.W.keepIn K (.ref e0) = true)
    (bp0 : kitCB K e0 = true)
    (ap1 : PySem.W.nsIn K mainGlobals "NothingToUndo" = some (some (.ref e1)))
    (ep1 : PySem.W.excIn K e1 PySem.HandSPX.veTail "ValueError.__new__" = true)
    (kp1 : PySem.W.keepIn K (.ref e1) = true)
    (bp1 : kitCB K e1 = true)
    (ap2 : PySem.W.nsIn K mainGlobals "NothingToRedo" = some (some (.ref e2)))
    (ep2 : PySem.W.excIn K e2 PySem.HandSPX.veTail "ValueError.__new__" = true)
    (kp2 : PySem.W.keepIn K (.ref e2) = true)
    (bp2 : kitCB K e2 = true)
    (ap3 : PySem.W.nsIn K mainGlobals "Busy" = some (some (.ref e3)))
    (ep3 : PySem.W.excIn K e3 PySem.HandSPX.veTail "ValueError.__new__" = true)
    (kp3 : PySem.W.keepIn K (.ref e3) = true)
    (bp3 : kitCB K e3 = true)
    (ap4 : PySem.W.nsIn K mainGlobals "UnlikeBlocks" = some (some (.ref e4)))
    (ep4 : PySem.W.excIn K e4 PySem.HandSPX.veTail "ValueError.__new__" = true)
    (kp4 : PySem.W.keepIn K (.ref e4) = true)
    (bp4 : kitCB K e4 = true)
    (aS : PySem.W.nsIn K mainGlobals "SpanError" = some (some (.ref S)))
    (pr : prB K [c0, c1, c2, c3, c4, c5, c6, c7, c8, c9, c10, c11, e0, e1, e2, e3, e4] S = true)
    (a0 : PySem.W.nsIn K mainGlobals "_law_pot" = some (some (.ref f0)))
    (l0 : K.lookup f0 = some ⟨foc0, fod0, .func (PySem.W.fnOf "_law_pot" "_law_pot" (defArgs sPot) (defBody sPot) (defScope sPot) .none fkV0 fdc0 fpm0 fan0 fcd0 fct0), fsl0⟩)
    (c_0 : PySem.W.codeIn K fcd0 "_law_pot" = true)
    (k_0 : PySem.W.keepIn K (.ref f0) = true)
    (a1 : PySem.W.nsIn K mainGlobals "_law_take" = some (some (.ref f1)))
    (l1 : K.lookup f1 = some ⟨foc1, fod1, .func (PySem.W.fnOf "_law_take" "_law_take" (defArgs sTake) (defBody sTake) (defScope sTake) .none fkV1 fdc1 fpm1 fan1 fcd1 fct1), fsl1⟩)
    (c_1 : PySem.W.codeIn K fcd1 "_law_take" = true)
    (k_1 : PySem.W.keepIn K (.ref f1) = true)
    (a2 : PySem.W.nsIn K mainGlobals "_law_of" = some (some (.ref f2)))
    (l2 : K.lookup f2 = some ⟨foc2, fod2, .func (PySem.W.fnOf "_law_of" "_law_of" (defArgs sOf) (defBody sOf) (defScope sOf) .none fkV2 fdc2 fpm2 fan2 fcd2 fct2), fsl2⟩)
    (c_2 : PySem.W.codeIn K fcd2 "_law_of" = true)
    (k_2 : PySem.W.keepIn K (.ref f2) = true)
    (a3 : PySem.W.nsIn K mainGlobals "_law_made" = some (some (.ref f3)))
    (l3 : K.lookup f3 = some ⟨foc3, fod3, .func (PySem.W.fnOf "_law_made" "_law_made" (defArgs sMade) (defBody sMade) (defScope sMade) .none fkV3 fdc3 fpm3 fan3 fcd3 fct3), fsl3⟩)
    (c_3 : PySem.W.codeIn K fcd3 "_law_made" = true)
    (k_3 : PySem.W.keepIn K (.ref f3) = true)
    (a4 : PySem.W.nsIn K mainGlobals "_law_named" = some (some (.ref f4)))
    (l4 : K.lookup f4 = some ⟨foc4, fod4, .func (PySem.W.fnOf "_law_named" "_law_named" (defArgs sNamed) (defBody sNamed) (defScope sNamed) .none fkV4 fdc4 fpm4 fan4 fcd4 fct4), fsl4⟩)
    (c_4 : PySem.W.codeIn K fcd4 "_law_named" = true)
    (k_4 : PySem.W.keepIn K (.ref f4) = true)
    (a5 : PySem.W.nsIn K mainGlobals "_law_marks" = some (some (.ref f5)))
    (l5 : K.lookup f5 = some ⟨foc5, fod5, .func (PySem.W.fnOf "_law_marks" "_law_marks" (defArgs sMarks) (defBody sMarks) (defScope sMarks) .none fkV5 fdc5 fpm5 fan5 fcd5 fct5), fsl5⟩)
    (c_5 : PySem.W.codeIn K fcd5 "_law_marks" = true)
    (k_5 : PySem.W.keepIn K (.ref f5) = true)
    (a6 : PySem.W.nsIn K mainGlobals "_law_values" = some (some (.ref f6)))
    (l6 : K.lookup f6 = some ⟨foc6, fod6, .func (PySem.W.fnOf "_law_values" "_law_values" (defArgs sVals) (defBody sVals) (defScope sVals) .none fkV6 fdc6 fpm6 fan6 fcd6 fct6), fsl6⟩)
    (c_6 : PySem.W.codeIn K fcd6 "_law_values" = true)
    (k_6 : PySem.W.keepIn K (.ref f6) = true)
    (a7 : PySem.W.nsIn K mainGlobals "_law_right" = some (some (.ref f7)))
    (l7 : K.lookup f7 = some ⟨foc7, fod7, .func (PySem.W.fnOf "_law_right" "_law_right" (defArgs sRight) (defBody sRight) (defScope sRight) .none fkV7 fdc7 fpm7 fan7 fcd7 fct7), fsl7⟩)
    (c_7 : PySem.W.codeIn K fcd7 "_law_right" = true)
    (k_7 : PySem.W.keepIn K (.ref f7) = true)
    (a8 : PySem.W.nsIn K mainGlobals "law" = some (some (.ref f8)))
    (l8 : K.lookup f8 = some ⟨foc8, fod8, .func (PySem.W.fnOf "law" "law" (defArgs sLaw) (defBody sLaw) (defScope sLaw) .none fkV8 fdc8 fpm8 fan8 fcd8 fct8), fsl8⟩)
    (c_8 : PySem.W.codeIn K fcd8 "law" = true)
    (k_8 : PySem.W.keepIn K (.ref f8) = true)
    (z0 : PySem.W.nsIn K mainGlobals "isinstance" = some none)
    (z1 : PySem.W.nsIn K mainGlobals "len" = some none)
    (z2 : PySem.W.nsIn K mainGlobals "abs" = some none)
    (z3 : PySem.W.nsIn K mainGlobals "int" = some none)
    (z4 : PySem.W.nsIn K mainGlobals "range" = some none)
    (z5 : PySem.W.nsIn K mainGlobals "repr" = some none)
    (z6 : PySem.W.nsIn K mainGlobals "enumerate" = some none)
    (z7 : PySem.W.nsIn K mainGlobals "all" = some none)
    (z8 : PySem.W.nsIn K mainGlobals "max" = some none)
    (z9 : PySem.W.nsIn K mainGlobals "min" = some none)
    (z10 : PySem.W.nsIn K mainGlobals "ValueError" = some none) :
    ∃ fd : FuncData, (∀ (s : Shared) (v : Value), BindsTo s fd ⟨[v], []⟩ [("_law_script", v)]) ∧ ∀ bs : Heap, K.In bs → bs.Ns mainGlobals mg → GnOk l.prog w K mg bs 6 fa fd ["_law_script"] (spLaw K) := by
  have e := hfa.symm.trans (PySem.W.mg_of X G a8)
  cases e
  have I0 := fun_mk (st := initS 2) lf0 cf0 kf0
  have I1 := fun_mk (st := initS 3) lf1 cf1 kf1
  have I2 := fun_mk (st := initS 4) lf2 cf2 kf2
  have I3 := fun_mk (st := initS 5) lf3 cf3 kf3
  have I4 := fun_mk (st := initS 6) lf4 cf4 kf4
  have I5 := fun_mk (st := initS 7) lf5 cf5 kf5
  have I6 := fun_mk (st := initS 9) lf6 cf6 kf6
  have I7 := fun_mk (st := initS 10) lf7 cf7 kf7
  have I8 := fun_mk (st := initS 11) lf8 cf8 kf8
  have I9 := fun_mk (st := initS 15) lf9 cf9 kf9
  have I10 := fun_mk (st := initS 17) lf10 cf10 kf10
  have I11 := fun_mk (st := initS 18) lf11 cf11 kf11
  have F0 := fun_mk (st := sPot) l0 c_0 k_0
  have F1 := fun_mk (st := sTake) l1 c_1 k_1
  have F2 := fun_mk (st := sOf) l2 c_2 k_2
  have F3 := fun_mk (st := sMade) l3 c_3 k_3
  have F4 := fun_mk (st := sNamed) l4 c_4 k_4
  have F5 := fun_mk (st := sMarks) l5 c_5 k_5
  have F6 := fun_mk (st := sVals) l6 c_6 k_6
  have F7 := fun_mk (st := sRight) l7 c_7 k_7
  have F8 := fun_mk (st := sLaw) l8 c_8 k_8
  have at_ : ∀ (i : Nat) (c : Spec), (cls (fun i => ([c0, c1, c2, c3, c4, c5, c6, c7, c8, c9, c10, c11] : List Addr).getD i 0) (fun i => ([e0, e1, e2, e3, e4] : List Addr).getD i 0))[i]? = some c → i < 17 ∧ c.1 = ([c0, c1, c2, c3, c4, c5, c6, c7, c8, c9, c10, c11, e0, e1, e2, e3, e4] : List Addr).getD i 0 := by
    intro i c hc
    have hl : i < 17 := (List.getElem?_eq_some_iff.mp hc).1
    refine ⟨hl, ?_⟩
    have h2 : ((cls (fun i => ([c0, c1, c2, c3, c4, c5, c6, c7, c8, c9, c10, c11] : List Addr).getD i 0) (fun i => ([e0, e1, e2, e3, e4] : List Addr).getD i 0)).map (·.1))[i]? = some c.1 := by rw [List.getElem?_map, hc]; rfl
    have h3 : ([c0, c1, c2, c3, c4, c5, c6, c7, c8, c9, c10, c11, e0, e1, e2, e3, e4] : List Addr)[i]? = some c.1 := h2
    rw [List.getD_eq_getElem?_getD, h3]
    rfl
  have kits : ∀ c ∈ cls (fun i => ([c0, c1, c2, c3, c4, c5, c6, c7, c8, c9, c10, c11] : List Addr).getD i 0) (fun i => ([e0, e1, e2, e3, e4] : List Addr).getD i 0), KitC K c.1 := by
    intro c hc
    simp only [cls, List.mem_cons, List.not_mem_nil, or_false] at hc
    rcases hc with rfl | rfl | rfl | rfl | rfl | rfl | rfl | rfl | rfl | rfl | rfl | rfl | rfl | rfl | rfl | rfl | rfl
    · exact (err_mk (PySem.W.mg_of X G ac0) xc0 rc0 ic0 bc0 I0).kit
    · exact (err_mk (PySem.W.mg_of X G ac1) xc1 rc1 ic1 bc1 I1).kit
    · exact (err_mk (PySem.W.mg_of X G ac2) xc2 rc2 ic2 bc2 I2).kit
    · exact (err_mk (PySem.W.mg_of X G ac3) xc3 rc3 ic3 bc3 I3).kit
    · exact (err_mk (PySem.W.mg_of X G ac4) xc4 rc4 ic4 bc4 I4).kit
    · exact (err_mk (PySem.W.mg_of X G ac5) xc5 rc5 ic5 bc5 I5).kit
    · exact (err_mk (PySem.W.mg_of X G ac6) xc6 rc6 ic6 bc6 I6).kit
    · exact (err_mk (PySem.W.mg_of X G ac7) xc7 rc7 ic7 bc7 I7).kit
    · exact (err_mk (PySem.W.mg_of X G ac8) xc8 rc8 ic8 bc8 I8).kit
    · exact (err_mk (PySem.W.mg_of X G ac9) xc9 rc9 ic9 bc9 I9).kit
    · exact (err_mk (PySem.W.mg_of X G ac10) xc10 rc10 ic10 bc10 I10).kit
    · exact (err_mk (PySem.W.mg_of X G ac11) xc11 rc11 ic11 bc11 I11).kit
    · exact kitC_of bp0
    · exact kitC_of bp1
    · exact kitC_of bp2
    · exact kitC_of bp3
    · exact kitC_of bp4
  have T : Top K mg (fun i => ([c0, c1, c2, c3, c4, c5, c6, c7, c8, c9, c10, c11] : List Addr).getD i 0) (fun i => ([g0, g1, g2, g3, g4, g5, g6, g7, g8, g9, g10, g11] : List Addr).getD i 0) (fun i => ([PySem.W.fnOf "__init__" "BadGrammar.__init__" (defArgs (initS 2)) (defBody (initS 2)) (defScope (initS 2)) .none kV0 dc0 pm0 an0 cd0 ct0, PySem.W.fnOf "__init__" "NoBlock.__init__" (defArgs (initS 3)) (defBody (initS 3)) (defScope (initS 3)) .none kV1 dc1 pm1 an1 cd1 ct1, PySem.W.fnOf "__init__" "NotPrefix.__init__" (defArgs (initS 4)) (defBody (initS 4)) (defScope (initS 4)) .none kV2 dc2 pm2 an2 cd2 ct2, PySem.W.fnOf "__init__" "NoSolution.__init__" (defArgs (initS 5)) (defBody (initS 5)) (defScope (initS 5)) .none kV3 dc3 pm3 an3 cd3 ct3, PySem.W.fnOf "__init__" "NoError.__init__" (defArgs (initS 6)) (defBody (initS 6)) (defScope (initS 6)) .none kV4 dc4 pm4 an4 cd4 ct4, PySem.W.fnOf "__init__" "UnknownToken.__init__" (defArgs (initS 7)) (defBody (initS 7)) (defScope (initS 7)) .none kV5 dc5 pm5 an5 cd5 ct5, PySem.W.fnOf "__init__" "BadText.__init__" (defArgs (initS 9)) (defBody (initS 9)) (defScope (initS 9)) .none kV6 dc6 pm6 an6 cd6 ct6, PySem.W.fnOf "__init__" "BadRange.__init__" (defArgs (initS 10)) (defBody (initS 10)) (defScope (initS 10)) .none kV7 dc7 pm7 an7 cd7 ct7, PySem.W.fnOf "__init__" "NotAFix.__init__" (defArgs (initS 11)) (defBody (initS 11)) (defScope (initS 11)) .none kV8 dc8 pm8 an8 cd8 ct8, PySem.W.fnOf "__init__" "NotPlain.__init__" (defArgs (initS 15)) (defBody (initS 15)) (defScope (initS 15)) .none kV9 dc9 pm9 an9 cd9 ct9, PySem.W.fnOf "__init__" "BadSource.__init__" (defArgs (initS 17)) (defBody (initS 17)) (defScope (initS 17)) .none kV10 dc10 pm10 an10 cd10 ct10, PySem.W.fnOf "__init__" "BadLine.__init__" (defArgs (initS 18)) (defBody (initS 18)) (defScope (initS 18)) .none kV11 dc11 pm11 an11 cd11 ct11] : List FuncData).getD i (PySem.W.fnOf "__init__" "BadGrammar.__init__" (defArgs (initS 2)) (defBody (initS 2)) (defScope (initS 2)) .none kV0 dc0 pm0 an0 cd0 ct0)) (fun i => ([e0, e1, e2, e3, e4] : List Addr).getD i 0) S f0 f1 f2 f3 f4 f5 f6 f7 _ _ _ _ _ _ _ _ := ⟨err_mk (PySem.W.mg_of X G ac0) xc0 rc0 ic0 bc0 I0,
    err_mk (PySem.W.mg_of X G ac1) xc1 rc1 ic1 bc1 I1,
    err_mk (PySem.W.mg_of X G ac2) xc2 rc2 ic2 bc2 I2,
    err_mk (PySem.W.mg_of X G ac3) xc3 rc3 ic3 bc3 I3,
    err_mk (PySem.W.mg_of X G ac4) xc4 rc4 ic4 bc4 I4,
    err_mk (PySem.W.mg_of X G ac5) xc5 rc5 ic5 bc5 I5,
    err_mk (PySem.W.mg_of X G ac6) xc6 rc6 ic6 bc6 I6,
    err_mk (PySem.W.mg_of X G ac7) xc7 rc7 ic7 bc7 I7,
    err_mk (PySem.W.mg_of X G ac8) xc8 rc8 ic8 bc8 I8,
    err_mk (PySem.W.mg_of X G ac9) xc9 rc9 ic9 bc9 I9,
    err_mk (PySem.W.mg_of X G ac10) xc10 rc10 ic10 bc10 I10,
    err_mk (PySem.W.mg_of X G ac11) xc11 rc11 ic11 bc11 I11,
    ⟨PySem.W.mg_of X G ap0, ep0, kp0, kitC_of bp0⟩,
    ⟨PySem.W.mg_of X G ap1, ep1, kp1, kitC_of bp1⟩,
    ⟨PySem.W.mg_of X G ap2, ep2, kp2, kitC_of bp2⟩,
    ⟨PySem.W.mg_of X G ap3, ep3, kp3, kitC_of bp3⟩,
    ⟨PySem.W.mg_of X G ap4, ep4, kp4, kitC_of bp4⟩,
    kits,
    fun i j c d hi hj => by rw [(at_ i c hi).2, (at_ j d hj).2]; exact (prB_of pr i (at_ i c hi).1).2.2 j (at_ j d hj).1,
    fun c hc => by obtain ⟨i, hi⟩ := List.getElem?_of_mem hc; rw [(at_ i c hi).2]; exact ⟨(prB_of pr i (at_ i c hi).1).1, (prB_of pr i (at_ i c hi).1).2.1⟩,
    PySem.W.mg_of X G aS,
    F0,
    F1,
    F2,
    F3,
    F4,
    F5,
    F6,
    F7,
    PySem.W.mg_of X G a0,
    PySem.W.mg_of X G a1,
    PySem.W.mg_of X G a2,
    PySem.W.mg_of X G a3,
    PySem.W.mg_of X G a4,
    PySem.W.mg_of X G a5,
    PySem.W.mg_of X G a6,
    PySem.W.mg_of X G a7,
    PySem.W.mg_none_of X G z0,
    PySem.W.mg_none_of X G z1,
    PySem.W.mg_none_of X G z2,
    PySem.W.mg_none_of X G z3,
    PySem.W.mg_none_of X G z4,
    PySem.W.mg_none_of X G z5,
    PySem.W.mg_none_of X G z6,
    PySem.W.mg_none_of X G z7,
    PySem.W.mg_none_of X G z8,
    PySem.W.mg_none_of X G z9,
    PySem.W.mg_none_of X G z10⟩
  exact ⟨_, fun s v => .of_eq rfl, fun bs _ _ => ok_law F8 T⟩
end K59
open PySem PySem.W PyProof.Rows
set_option maxHeartbeats 0 in
theorem PySem.Challenge.cw_errorspans_k59_errors_made_by_hand_holds : PySem.Challenge.rw_errorspans_k59_errors_made_by_hand.Holds := by
  w_on; o_law; k_head; (case hw => w_witness2)
  k_fill
  refine Es.walk_ofG (l := PySem.Challenge.rw_errorspans_k59_errors_made_by_hand) (n := 63) (k := 6) (x := "_law_script") (sp := K59.spLaw) rfl (by decide) rfl ⟨rfl, by decide, by decide⟩ (fun w h Y => PySem.W.kIn_of Y) ?F (fun _ _ a ns _ _ hS => ⟨a, ns, rfl, hS, fun _ => rfl⟩)
  case F =>
    intro w mg fa h KX G hmg
    refine' K59.all_mk KX G hmg ?ac0 ?xc0 ?rc0 ?ic0 ?lf0 ?cf0 ?kf0 ?bc0 ?ac1 ?xc1 ?rc1 ?ic1 ?lf1 ?cf1 ?kf1 ?bc1 ?ac2 ?xc2 ?rc2 ?ic2 ?lf2 ?cf2 ?kf2 ?bc2 ?ac3 ?xc3 ?rc3 ?ic3 ?lf3 ?cf3 ?kf3 ?bc3 ?ac4 ?xc4 ?rc4 ?ic4 ?lf4 ?cf4 ?kf4 ?bc4 ?ac5 ?xc5 ?rc5 ?ic5 ?lf5 ?cf5 ?kf5 ?bc5 ?ac6 ?xc6 ?rc6 ?ic6 ?lf6 ?cf6 ?kf6 ?bc6 ?ac7 ?xc7 ?rc7 ?ic7 ?lf7 ?cf7 ?kf7 ?bc7 ?ac8 ?xc8 ?rc8 ?ic8 ?lf8 ?cf8 ?kf8 ?bc8 ?ac9 ?xc9 ?rc9 ?ic9 ?lf9 ?cf9 ?kf9 ?bc9 ?ac10 ?xc10 ?rc10 ?ic10 ?lf10 ?cf10 ?kf10 ?bc10 ?ac11 ?xc11 ?rc11 ?ic11 ?lf11 ?cf11 ?kf11 ?bc11 ?ap0 ?ep0 ?kp0 ?bp0 ?ap1 ?ep1 ?kp1 ?bp1 ?ap2 ?ep2 ?kp2 ?bp2 ?ap3 ?ep3 ?kp3 ?bp3 ?ap4 ?ep4 ?kp4 ?bp4 ?aS ?pr ?a0 ?l0 ?c_0 ?k_0 ?a1 ?l1 ?c_1 ?k_1 ?a2 ?l2 ?c_2 ?k_2 ?a3 ?l3 ?c_3 ?k_3 ?a4 ?l4 ?c_4 ?k_4 ?a5 ?l5 ?c_5 ?k_5 ?a6 ?l6 ?c_6 ?k_6 ?a7 ?l7 ?c_7 ?k_7 ?a8 ?l8 ?c_8 ?k_8 ?z0 ?z1 ?z2 ?z3 ?z4 ?z5 ?z6 ?z7 ?z8 ?z9 ?z10
    (case ac0 => k_is); (case xc0 => k_is); (case rc0 => decide +kernel); (case ic0 => k_is); (case lf0 => k_is); (case cf0 => k_is); (case kf0 => k_is); (case bc0 => kernel_rfl)
    (case ac1 => k_is); (case xc1 => k_is); (case rc1 => decide +kernel); (case ic1 => k_is); (case lf1 => k_is); (case cf1 => k_is); (case kf1 => k_is); (case bc1 => kernel_rfl)
    (case ac2 => k_is); (case xc2 => k_is); (case rc2 => decide +kernel); (case ic2 => k_is); (case lf2 => k_is); (case cf2 => k_is); (case kf2 => k_is); (case bc2 => kernel_rfl)
    (case ac3 => k_is); (case xc3 => k_is); (case rc3 => decide +kernel); (case ic3 => k_is); (case lf3 => k_is); (case cf3 => k_is); (case kf3 => k_is); (case bc3 => kernel_rfl)
    (case ac4 => k_is); (case xc4 => k_is); (case rc4 => decide +kernel); (case ic4 => k_is); (case lf4 => k_is); (case cf4 => k_is); (case kf4 => k_is); (case bc4 => kernel_rfl)
    (case ac5 => k_is); (case xc5 => k_is); (case rc5 => decide +kernel); (case ic5 => k_is); (case lf5 => k_is); (case cf5 => k_is); (case kf5 => k_is); (case bc5 => kernel_rfl)
    (case ac6 => k_is); (case xc6 => k_is); (case rc6 => decide +kernel); (case ic6 => k_is); (case lf6 => k_is); (case cf6 => k_is); (case kf6 => k_is); (case bc6 => kernel_rfl)
    (case ac7 => k_is); (case xc7 => k_is); (case rc7 => decide +kernel); (case ic7 => k_is); (case lf7 => k_is); (case cf7 => k_is); (case kf7 => k_is); (case bc7 => kernel_rfl)
    (case ac8 => k_is); (case xc8 => k_is); (case rc8 => decide +kernel); (case ic8 => k_is); (case lf8 => k_is); (case cf8 => k_is); (case kf8 => k_is); (case bc8 => kernel_rfl)
    (case ac9 => k_is); (case xc9 => k_is); (case rc9 => decide +kernel); (case ic9 => k_is); (case lf9 => k_is); (case cf9 => k_is); (case kf9 => k_is); (case bc9 => kernel_rfl)
    (case ac10 => k_is); (case xc10 => k_is); (case rc10 => decide +kernel); (case ic10 => k_is); (case lf10 => k_is); (case cf10 => k_is); (case kf10 => k_is); (case bc10 => kernel_rfl)
    (case ac11 => k_is); (case xc11 => k_is); (case rc11 => decide +kernel); (case ic11 => k_is); (case lf11 => k_is); (case cf11 => k_is); (case kf11 => k_is); (case bc11 => kernel_rfl)
    (case ap0 => k_is); (case ep0 => kernel_rfl); (case kp0 => k_is); (case bp0 => kernel_rfl); (case ap1 => k_is); (case ep1 => kernel_rfl); (case kp1 => k_is); (case bp1 => kernel_rfl)
    (case ap2 => k_is); (case ep2 => kernel_rfl); (case kp2 => k_is); (case bp2 => kernel_rfl); (case ap3 => k_is); (case ep3 => kernel_rfl); (case kp3 => k_is); (case bp3 => kernel_rfl)
    (case ap4 => k_is); (case ep4 => kernel_rfl); (case kp4 => k_is); (case bp4 => kernel_rfl); (case aS => k_is); (case pr => kernel_rfl); (case a0 => k_is); (case l0 => k_is)
    (case c_0 => k_is); (case k_0 => k_is); (case a1 => k_is); (case l1 => k_is); (case c_1 => k_is); (case k_1 => k_is); (case a2 => k_is); (case l2 => k_is)
    (case c_2 => k_is); (case k_2 => k_is); (case a3 => k_is); (case l3 => k_is); (case c_3 => k_is); (case k_3 => k_is); (case a4 => k_is); (case l4 => k_is)
    (case c_4 => k_is); (case k_4 => k_is); (case a5 => k_is); (case l5 => k_is); (case c_5 => k_is); (case k_5 => k_is); (case a6 => k_is); (case l6 => k_is)
    (case c_6 => k_is); (case k_6 => k_is); (case a7 => k_is); (case l7 => k_is); (case c_7 => k_is); (case k_7 => k_is); (case a8 => k_is); (case l8 => k_is)
    (case c_8 => k_is); (case k_8 => k_is); (case z0 => k_is); (case z1 => k_is); (case z2 => k_is); (case z3 => k_is); (case z4 => k_is); (case z5 => k_is)
    (case z6 => k_is); (case z7 => k_is); (case z8 => k_is); (case z9 => k_is); (case z10 => k_is)
