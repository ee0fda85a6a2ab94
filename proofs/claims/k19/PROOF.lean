import PyProof.Rows.All
import Wide.All
import OpenK.AllK
import Wide.FinOn
import PyProof.ReprRoads
import PyProof.ReprLen
import HandS.Base
import HandS.Call
import HandS.List
import HandS.Ends
import HandS.Exc
import HandS.TryOnly
import HandS.ExcOwn
import HandS.ExcInit
import HandS.Dict
import HandS.Words
import HandS.WordsList
import HandS.WordsDict
import HandS.WordsExc
import HandS.Comp
import HandS.Iter
import HandS.Wide
import HandS.TupAny
import HandS.TupMul
import HandS.Conv
import HandS.Star
import HandS.Style
import HandS.Walk
import HandS.RaiseMore
import PyProof.CallFns
import HandS.WideBits
import KE.GoesEnumKw
import HandS.IsInst
import HandS.GenList
import HandS.AnyAll
import HandS.TupLe
import KE.KExcIs
import HandS.ExcIs
import HandS.ExcField
import HandS.SortRule
import HandS.DictTup
import HandS.DictSubView
import KE.KDictSum
import HandS.SortKw
import KE.DataMinMax
import KE.KTupSum
import PySem.Challenge.RW_freshparts_k19_things_that_are_no_papers
set_option Elab.async false
set_option linter.all false
set_option maxRecDepth 100000
set_option maxHeartbeats 4000000
namespace Fp
open PySem PySem.Spec PyProof.Rows L2

/-! ### promises of defs that show things: no repr runs around the call -/
structure FnG (P : Program) (w : World) (K : PySem.W.Frag) (mg : Str → Option Value) (base : Heap) (CX : CXT) (lv : Nat) (f : Addr) (fd : FuncData) (ps : List Str) (sp : Sp) : Prop where
  lens : ∀ vs H Q E, sp vs H Q E → vs.length = ps.length
  runs : ∀ (A : Around) (outer : List Env) (s : Shared) (H : Hp) (args : Args) (us : List Value) (vs : List V) (Q : VK) (E : XK), A.guards = some [] → Room lv A → Env0 P w K mg base A outer s H →
    BindsTo s fd args (ps.zip us) → Vals vs us → sp vs H Q E → codeAny (model P w) A (.call (.ref f) args) (CR CX outer P w H s Q E) s

section
variable {X : Cx} {CX : CXT} {lv : Nat} {f : Addr} {fd : FuncData} {ps : List Str} {sp : Sp} {E : XK} {x : Str} {p pos : Pos} {e : Expr} {es : List Expr} {t : TA}
theorem run_g {pins : List (Addr × Obj)} {σ : L2.St} {H : Hp} {s : Shared} {Q : VK} {us : List Value} {vs : List V} (G : FnG X.prog X.w X.K X.mg X.base CX lv f fd ps sp) (hq : X.A.guards = some []) (hr : Room lv X.A) (hb : Binds X.K fd ps [])
    (hx : Passes CX X E) (I : Inv X pins σ H s) (r : Vals vs us) (h : sp vs H Q E) : wpAny (model X.prog X.w) X.A (call (.ref f) us) (EP X pins σ Q) X.xe s := by
  have hl : us.length = ps.length := r.length.symm.trans (G.lens _ _ _ _ h)
  have b := hb s us I.kIn (by rw [List.append_nil]; exact hl)
  rw [List.append_nil] at b
  refine wpAny_call (codeAny_mono (G.runs X.A X.stack s H ⟨us, []⟩ us vs Q E hq hr I.env0 b r h) fun res s2 z => ?_)
  match res, z with
  | .error e, z => exact hx pins σ H s e s2 I z
  | .ok (.ret u), z => exact I.after z
  | .ok .next, z => exact False.elim z
  | .ok .brk, z => exact False.elim z
  | .ok .cont, z => exact False.elim z
def tCallG (sp : Sp) (E : XK) (t : TA) : TE := fun σ H Q => t σ H fun vs H1 => sp vs H1 Q E
theorem pe_callG (G : FnG X.prog X.w X.K X.mg X.base CX lv f fd ps sp) (hq : X.A.guards = some []) (hr : Room lv X.A) (hg : Gl X x) (hm : X.mg x = some (.ref f)) (hk : PySem.W.keepIn X.K (.ref f) = true) (hb : Binds X.K fd ps []) (hx : Passes CX X E)
    (ha : PA X (e :: es) t) (hdb : (x == ("__debug__" : Str)) = false := by decide) (he : starEach (e :: es) X.env = (false, eval e X.env) :: starEach es X.env := by rfl) (hpl : (backTo pos (starEach es X.env)).any (·.1) = false := by rfl) :
    PE X (.Call (.Name x p) (e :: es) [] pos) (tCallG sp E t) := by
  refine ⟨fun pins s σ H Q I h => wpAny_Call_Name_kw (ld_glob I hg hm ?_ hdb)⟩
  refine PySem.W.callWith_K (h₀ := X.base) I.ok.mod.kin hk (thn (ha.run pos pins s σ H _ I h) fun us s1 z => ?_) he hpl
  obtain ⟨vs, H1, I1, r, q⟩ := z
  exact ⟨I1.kIn, run_g G hq hr hb hx I1 r q⟩
end

section
variable {P : Program} {w : World} {K : PySem.W.Frag} {mg : Str → Option Value} {base : Heap}
theorem okG {x qual : Str} {st : Stmt} {f : Addr} {fd : FuncData} {N ps : List Str} {lv : Nat} {sp : Sp} (F : Fun K x qual st f fd) (S : FnScope N ps (defScope st)) (len : ∀ vs H Q E, sp vs H Q E → vs.length = ps.length)
    (hbody : ∀ (cdv : Value) (A : Around) (outer : List Env) (s : Shared) (H : Hp) (vs : List V) (Q : VK) (E : XK), (A.deeper (envOfC qual (defScope st) s.heap.objs.size f cdv)).guards = some [] → Room lv (A.deeper (envOfC qual (defScope st) s.heap.objs.size f cdv)) →
      sp vs H Q E → ∃ t, PSs (cxOf CX0 P w K mg base N qual (defScope st) f cdv A outer s H E).nox (defBody st) t ∧ t { nx := fun _ H' => Q .non H', rt := Q } (start N vs) H) : FnG P w K mg base CX0 (lv + 1) f fd ps sp := by
  obtain ⟨oc, od, kV, doc, pm, an, cdv, ct, osl, rfl, lk, hcd⟩ := F.ex
  refine ⟨len, fun A outer s H args us vs Q E hq hr e0 hb r hsp => ?_⟩
  have hl := len _ _ _ _ hsp
  have KX : K.In s.heap := e0.mod.kin.keeps fun b o z => (e0.bs b o z).1
  have lim : s.heap.NoLimit := e0.mod.nolimit.keeps fun b o z => (e0.bs b o z).1
  have kinds : ∀ y ∈ ps.zip us, (defScope st).names.lookup y.1 = some .local ∨ ((defScope st).names.lookup y.1 = some .cell ∧ ((cellsFrom (s.heap.objs.size + 1) (defScope st).names []).lookup y.1).isSome = true) := by
    rintro ⟨n, v⟩ hy
    exact (S.par n (List.of_mem_zip hy).1).imp id fun q => ⟨q, PySem.W.cellsFrom_some _ _ _ (.inl q)⟩
  refine codeAny_call_function hr.depth (KX _ _ lk) rfl S.co S.gen rfl (PySem.W.codeRec_of KX hcd) (hb _ _ _ _ ?_)
  refine wpAny_newFunctionEnv_cells S.kind kinds fun env he s1 z => ?_
  subst he
  refine ⟨lim.keeps z.toInCall.keep, codeAny_func ?_⟩
  obtain ⟨t, ht, hq2⟩ := hbody cdv A outer s H vs Q E hq (hr.deeper _) hsp
  have I : Inv (cxOf CX0 P w K mg base N qual (defScope st) f cdv A outer s H E) [] (start N vs) H s1 := inv_start S hr.hd e0 hl r z
  refine wpAny_mono (ht.nox.run [] s1 (start N vs) H _ I hq2) (fun fl s2 hs => ?_) fun _ _ hs => hs
  have fin : ∀ {σ' : L2.St} {H' : Hp} {v : V} {u : Value}, Inv (cxOf CX0 P w K mg base N qual (defScope st) f cdv A outer s H E) [] σ' H' s2 → RelV v u → Q v H' → CE outer P w H s Q u s2 :=
    fun {_ H' v _} J rv q => ⟨v, H', J.os, J.bare, J.base, J.hok, rv, q⟩
  match fl, hs with
  | .ret u, ⟨v, σ', H', J, rv, q⟩ => exact fin J rv q
  | .next, ⟨σ', H', J, q⟩ => exact fin (v := V.non) (u := Value.none) J rfl q
  | .brk, ⟨_, _, _, q⟩ => exact False.elim q
  | .cont, ⟨_, _, _, q⟩ => exact False.elim q
end

/-! ### the end of a law that shows things -/
theorem lawG {P : Program} {w : World} {K : PySem.W.Frag} {mg mb : Str → Option Value} {lv : Nat} {fa a : Addr} {fd : FuncData} {x : Str} {sp : Sp} {s1 : Shared} {vs : List Value} {ns : List Int}
    (KX : K.In s1.heap) (hns : s1.heap.Ns mainGlobals mg) (hb : s1.heap.Ns builtinsNs mb) (hbb : ∀ x : Str, x ≠ "__name__" → mb x = bootBuiltins x) (hlim : s1.heap.NoLimit) (hg : s1.gens = #[])
    (ha : s1.heap.get? a = some { cls := .type "list", data := .seq vs.toArray }) (hi : IntsAre vs ns) (hl : ns.length ≤ sizeLine) (hr : Room lv callerA)
    (G : ∀ base : Heap, K.In base → base.Ns mainGlobals mg → FnG P w K mg base CX0 lv fa fd [x] sp) (hbind : ∀ (s : Shared) (u : Value), BindsTo s fd ⟨[u], []⟩ [(x, u)])
    (hsp : ∀ H : Hp, Only H → SqL K H a (ns.map V.int) → sp [.ref a] H (fun v _ => v = .bl true) fun _ _ _ => False) :
    codeAny (model P w) callerA (.call (.ref fa) ⟨[.ref a], []⟩) (fun r s2 => r = .ok (.ret (.bool true)) ∧ OldK s1.heap s2.heap ∧ s2.os = s1.os ∧ AllBare s2.gens) s1 := by
  have rv := vals_ints hi
  have lenV := hi.length
  have main : ∀ H : Hp, Only H → SqL K H a (ns.map V.int) → HOk P w H s1.heap → (∀ b, H b ≠ none → b = a) → (H a ≠ none → K.lookup a = none) →
      codeAny (model P w) callerA (.call (.ref fa) ⟨[.ref a], []⟩) (fun r s2 => r = .ok (.ret (.bool true)) ∧ OldK s1.heap s2.heap ∧ s2.os = s1.os ∧ AllBare s2.gens) s1 := by
    intro H hO hS hok hA hK
    have kept : ∀ {b : Addr} {o : Obj}, s1.heap.get? b = some o → H b = none → (hidT s1.heap H).get? b = some o := fun z n => hidT_get z n
    have isA : ∀ {b : Addr} {u : HO}, H b = some u → b = a := fun {b u} z => hA b (by rw [z]; simp)
    have noD : ∀ {b : Addr} {o : Obj} {es : Array DictEntry} {ep : Nat}, s1.heap.get? b = some o → o.data = .dict es ep → H b = none := by
      intro b o es ep z d
      match q : H b with
      | none => rfl
      | some u =>
        have e2 := isA q
        subst e2
        rw [ha] at z; cases z
        have d2 : Data.seq vs.toArray _ = Data.dict es ep := d
        cases d2
    have nsK : ∀ {b : Addr} {m : Str → Option Value}, s1.heap.Ns b m → (hidT s1.heap H).Ns b m := fun {b m} z => by
      obtain ⟨o, es, ep, e1, d1, r1⟩ := z
      exact ⟨o, es, ep, kept e1 (noD e1 d1), d1, r1⟩
    have kinB : K.In (hidT s1.heap H) := fun b o z => kept (KX b o z) (by
      match q : H b with
      | none => rfl
      | some u =>
        have e2 := isA q
        subst e2
        rw [hK (by rw [q]; simp)] at z; cases z)
    have M : Mod K mg (hidT s1.heap H) := ⟨kinB, nsK hns, ⟨mb, nsK hb, hbb⟩, by obtain ⟨mc, h1, h2⟩ := hlim; exact ⟨mc, nsK h1, h2⟩⟩
    have nil_fr : ∀ {b : Addr}, ¬ b ∈ frs [] := fun {b} z => by
      have z2 : b ∈ ([] : List Addr) := z
      simp at z2
    have e0 : Env0 P w K mg (hidT s1.heap H) callerA [] s1 H := ⟨rfl, M, fun b o z => of_hidT z, Nat.le_of_eq (hidT_size _ _), trivial, fun b z => absurd z nil_fr, hok, .of_eq hg⟩
    refine codeAny_mono ((G _ kinB (nsK hns)).runs callerA [] s1 H ⟨[.ref a], []⟩ [.ref a] [.ref a] _ _ rfl hr e0 (hbind s1 (.ref a)) (.cons rfl .nil) (hsp H hO hS)) fun res s2 z => ?_
    match res, z with
    | .error e, z => exact False.elim z
    | .ok .next, z => exact False.elim z
    | .ok .brk, z => exact False.elim z
    | .ok .cont, z => exact False.elim z
    | .ok (.ret u), z =>
      obtain ⟨v, H2, os, bare, un, hok2, r2, q⟩ := z
      have qv : v = .bl true := q
      subst qv
      obtain rfl : u = Value.bool true := r2
      refine ⟨rfl, OldK.of_keep fun b o e1 => ?_, os, bare⟩
      match q : H b with
      | none => exact un.keep b o e1 q nil_fr (by simp)
      | some u =>
        rcases hO b with z | ⟨ob, xs, z⟩
        · rw [q] at z; cases z
        · obtain ⟨g1, _⟩ := hok b _ z
          obtain ⟨g2, _⟩ := hok2 b _ (un.frzs b ob _ z)
          rw [e1] at g1; cases g1
          exact g2
  match hk : K.lookup a with
  | some o =>
    have z := KX a o hk
    rw [ha] at z
    cases z
    refine main (fun _ => none) (fun _ => .inl rfl) (.inr ⟨_, vs.toArray, _, hk, rfl, rfl, rfl, by rw [List.size_toArray, lenV]; exact hl, by simpa using rv⟩) (fun b u z => ?_) (fun b z => absurd rfl z) fun z => absurd rfl z
    have z2 : (none : Option HO) = some u := z
    cases z2
  | none =>
    have yes : ∀ {b : Addr}, b = a → (if b = a then some (HO.frz { cls := .type "list", data := .seq vs.toArray } (.lst (ns.map V.int))) else none) = some (HO.frz { cls := .type "list", data := .seq vs.toArray } (.lst (ns.map V.int))) := fun z => if_pos z
    have nay : ∀ {b : Addr}, b ≠ a → (if b = a then some (HO.frz { cls := .type "list", data := .seq vs.toArray } (.lst (ns.map V.int))) else none) = none := fun z => if_neg z
    refine main (fun b => if b = a then some (HO.frz { cls := .type "list", data := .seq vs.toArray } (.lst (ns.map V.int))) else none) (fun b => ?_) (.inl (.inr ⟨_, yes rfl⟩)) (fun b u z => ?_) (fun b z => ?_) fun _ => hk
    · rcases Classical.em (b = a) with h | h
      · exact .inr ⟨_, _, yes h⟩
      · exact .inl (nay h)
    · rcases Classical.em (b = a) with h | h
      · have z2 := (yes h).symm.trans z
        cases z2
        subst h
        exact ⟨ha, by rw [List.length_map]; exact hl, vs, _, rv, ha⟩
      · have z2 := (nay h).symm.trans z
        cases z2
    · rcases Classical.em (b = a) with h | h
      · exact h
      · exact absurd (nay h) z

theorem walkG {l : PySem.W.OpenLaw} {n lv : Nat} {q : Program} {loose : List Str} {XP : (Str → Option Value) → Heap → Prop} {YP : World → Heap → Prop} {d : DefRec} {K : Params → PySem.W.Frag} {sp : World → Sp} {x : Str}
    (hn : l.most = some n) (hn2 : n ≤ sizeLine) (hdf : d.params.defaults = []) (hr : Room lv callerA) (hY : ∀ (w : World) (h : Heap), YP w h → (K w.params).In h)
    (G : ∀ (w : World) (mg : Str → Option Value) (fa : Addr) (h : Heap), (K w.params).In h → h.Ns mainGlobals mg → mg d.name = some (.ref fa) →
      ∃ fd : FuncData, (∀ (s : Shared) (u : Value), BindsTo s fd ⟨[u], []⟩ [(x, u)]) ∧ ∀ base : Heap, (K w.params).In base → base.Ns mainGlobals mg → FnG l.prog w (K w.params) mg base CX0 lv fa fd [x] (sp w))
    (hsp : ∀ (w : World) (H : Hp) (a : Addr) (ns : List Int), ns.length ≤ n → Only H → SqL (K w.params) H a (ns.map V.int) → sp w [.ref a] H (fun v _ => v = .bl true) fun _ _ _ => False) :
    PySem.W.WalkO q loose XP YP l.row.toRowW d [] (fun f vs => PySem.call f vs) := by
  refine Att.attach_call hn hdf fun w s0 s1 mg mb fa o pm cd doc a vs ns Gr Y ho hd hcd hmg hobj hints hlen hg => ?_
  have KX := hY w _ Y
  obtain ⟨fd, hb, hF⟩ := G w mg fa _ KX Gr.T.g hmg
  exact lawG KX Gr.T.g Gr.T.b Gr.T.builtins Gr.T.nolimit hg hobj hints (Nat.le_trans hlen hn2) hr hF hb fun H hO hS => hsp w H a ns hlen hO hS

/-! ### repr of tuples and lists -/
mutual
theorem dp_noDict {K : PySem.W.Frag} {H : Hp} : ∀ {v : V} {d : PyData}, Dp K H v d → d.hasDict = false
  | _, _, .non => by simp only [PyData.hasDict]
  | _, _, .bl _ => by simp only [PyData.hasDict]
  | _, _, .int _ => by simp only [PyData.hasDict]
  | _, _, .str _ => by simp only [PyData.hasDict]
  | _, _, .lst _ h => by simp only [PyData.hasDict]; exact dp_noDictAll h
  | _, _, .tup _ h => by simp only [PyData.hasDict]; exact dp_noDictAll h
theorem dp_noDictAll {K : PySem.W.Frag} {H : Hp} : ∀ {vs : List V} {ds : List PyData}, DpAll K H vs ds → PyData.hasDictAll ds = false
  | _, _, .nil => by simp only [PyData.hasDictAll]
  | _, _, .cons h r => by simp only [PyData.hasDictAll, dp_noDict h, dp_noDictAll r, Bool.or_false]
end
/-! how long a thing is, shown, at most -/
mutual
def cost : PyData → Nat
  | .none | .bool _ => 5
  | .int _ => 2000
  | .str x => 10 * x.cps.size + 2
  | .list xs | .tuple xs => costAll xs + 3
  | .dict _ => 0
def costAll : List PyData → Nat
  | [] => 0
  | x :: xs => cost x + 2 + costAll xs
end
mutual
theorem shown_cost : ∀ d : PyData, d.leavesShort 2000 = true → d.hasDict = false → d.shown.length ≤ cost d
  | .none, _, _ => by decide
  | .bool b, _, _ => by cases b <;> decide
  | .int i, h, _ => by
    simp only [PyData.leavesShort, decide_eq_true_eq] at h
    simp only [cost]
    exact h
  | .str x, h, _ => by
    have hx : ∀ c ∈ x.cps.toList, c < 16 ^ 8 := by simpa only [PyData.leavesShort, List.all_eq_true, decide_eq_true_eq] using h
    have e := StrLaws.reprText_len x hx
    have e2 : x.length = x.cps.size := rfl
    simp only [PyData.shown, cost]
    omega
  | .list xs, h, hd => by
    have h1 := shown_costs xs (by simpa only [PyData.leavesShort] using h) (by simpa only [PyData.hasDict] using hd)
    have h2 := listText_len_le (PyData.shownAll xs)
    have h3 := PyData.shownAll_length xs
    simp only [PyData.shown, cost]
    omega
  | .tuple xs, h, hd => by
    have h1 := shown_costs xs (by simpa only [PyData.leavesShort] using h) (by simpa only [PyData.hasDict] using hd)
    have h2 := tupleText_len_le (PyData.shownAll xs)
    have h3 := PyData.shownAll_length xs
    simp only [PyData.shown, cost]
    omega
  | .dict _, _, hd => by simp [PyData.hasDict] at hd
theorem shown_costs : ∀ xs : List PyData, PyData.leavesShortAll 2000 xs = true → PyData.hasDictAll xs = false → ((PyData.shownAll xs).map (·.length)).sum + 2 * xs.length ≤ costAll xs
  | [], _, _ => by simp only [PyData.shownAll, costAll, List.map_nil, List.sum_nil, List.length_nil]; omega
  | x :: xs, h, hd => by
    simp only [PyData.leavesShortAll, Bool.and_eq_true] at h
    simp only [PyData.hasDictAll, Bool.or_eq_false_iff] at hd
    have h1 := shown_cost x h.1 hd.1
    have h2 := shown_costs xs h.2 hd.2
    simp only [PyData.shownAll, costAll, List.map_cons, List.sum_cons, List.length_cons]
    omega
end
/-- what may be shown: ints of at most 1919 bits, texts of plain signs; its length and depth bounded -/
def Shows (d : PyData) : Prop := d.showable = true ∧ d.leavesShort 2000 = true ∧ cost d ≤ 16000000 ∧ d.depth ≤ 60
theorem Shows.len {d : PyData} (h : Shows d) (n : d.hasDict = false) : d.shown.length ≤ sizeLine := by
  have e := shown_cost d h.2.1 n
  have w := h.2.2.1
  rw [sizeLine_eq]
  omega
section
variable {X : Cx}
theorem call_reprD {lv : Nat} (hq : X.A.guards = some []) (hr : Room lv X.A) : CallR X (.builtin "repr") (fun xs H Q => ∃ a d, xs = [.ref a] ∧ Dp X.K H (.ref a) d ∧ Shows d ∧ Q (.str d.shown) H) := by
  intro pins s σ H xs us Q I r h
  obtain ⟨a, d, rfl, hd, hs, q⟩ := h
  obtain ⟨u, rfl, ru⟩ := vals1 r
  obtain ⟨as, rd⟩ := Dp.reads I d _ _ hd ru
  obtain rfl : u = Value.ref a := ru
  have hu := hr.un
  have hdp := hs.2.2.2
  refine repr_of_reads' (h₀ := s.heap) rd hs.1 (PyData.noDict_hsm (dp_noDict hd)) hq (by omega) (fun _ _ z => z) (fun h' t tk k => ?_) (hs.len (dp_noDict hd))
  exact ⟨.str d.shown, H, I.kept k, ⟨t, rfl⟩, q⟩
/-- // by any number but nought, below 2 ^ 9000 in size -/
def CDivA (_ j : Int) : Prop := j ≠ 0 ∧ j.natAbs.log2 < 9000
theorem op_fdivA : OpR X (binaryOp .FloorDiv) (rI CDivA fun i j => .int (i.fdiv j)) := opI fun i j _ _ _ _ _ hc q => floordiv_int hc.1 q (.inl (PyProof.noPylong_of_log2 hc.2))
/-- * of two factors of together less than a million bits -/
def CMulA (i j : Int) : Prop := i.natAbs.log2 + j.natAbs.log2 < 1000000
theorem mulA_ok {i j : Int} (h : CMulA i j) : IntMulOk i j := by
  have bits : ∀ x : Int, Builtin.Int.intBits x ≤ x.natAbs.log2 + 1 := fun x => by
    unfold Builtin.Int.intBits
    split <;> omega
  have h1 := bits i
  have h2 := bits j
  have h3 : i.natAbs.log2 + j.natAbs.log2 < 1000000 := h
  intro z
  rw [Bool.and_eq_true] at z
  have z3 := of_decide_eq_true (show decide _ = true from z.2)
  have e : bitsLine = 134217728 := by decide
  rw [e] at z3
  omega
theorem op_mulA : OpR X (binaryOp .Mult) (rI CMulA fun i j => .int (i * j)) := opI fun _ _ _ _ _ _ _ hc q => mul_int q (mulA_ok hc)
end
/-! ### a word between two statements -/
def tMid (t u : TS) : TS := fun D σ H => ∃ M : L2.St → Hp → Prop, t { D with nx := M } σ H ∧ ∀ σ2 H2, M σ2 H2 → u D σ2 H2
theorem pss_mid {X : Cx} {st : Stmt} {more : List Stmt} {t u : TS} (a : PS X st t) (b : PSs X more u) : PSs X (st :: more) (tMid t u) := by
  refine ⟨fun pins s σ H D I h => ?_⟩
  obtain ⟨M, hm, hu⟩ := h
  refine wpAny_execs_cons (thn (a.run pins s σ H { D with nx := M } I hm) fun fl s1 z => ?_)
  match fl, z with
  | .next, ⟨σ2, H2, I2, z⟩ => exact b.run pins s1 σ2 H2 D I2 (hu σ2 H2 z)
  | .ret v, z => exact z
  | .brk, z => exact z
  | .cont, z => exact z
end Fp

set_option Elab.async false
set_option linter.all false
set_option maxRecDepth 100000
set_option maxHeartbeats 4000000
namespace Fp
open PySem PySem.Spec PyProof.Rows L2
/-! ### C.f(e, ..), C a class of one's own, f a def of its body -/
structure ClsFn (K : PySem.W.Frag) (C : Addr) (m : Str) (f : Addr) : Prop where
  rd : PySem.W.readsIn K C (.type "type") = true
  fc : PySem.W.findCls K (.ref C) (.type "type") m = some (.val (.ref f))
  hd : PySem.W.handedIn (.ref f) = true
  sp : PySem.W.specialIn K (.ref C) "__getattribute__" = some (some (.builtin "type.__getattribute__"))
  kp : PySem.W.keepIn K (.ref f) = true
section
variable {X : Cx} {CX : CXT} {lv : Nat} {f C : Addr} {fd : FuncData} {ps : List Str} {sp : Sp} {E : XK} {x m : Str} {p pos apos : Pos} {e : Expr} {es : List Expr} {t : TA}
theorem pe_clsfn {pl : Sem Bool} (c : ClsFn X.K C m f) (F : FnOk X.prog X.w X.K X.mg X.base CX lv f fd ps sp) (hr : Room lv X.A) (hg : Gl X x) (hm : X.mg x = some (.ref C)) (hb : Binds X.K fd ps []) (hx : Passes CX X E) (ha : PA X (e :: es) t)
    (hdb : (x == ("__debug__" : Str)) = false := by decide) (hst : starEach (e :: es) X.env = (false, eval e X.env) :: starEach es X.env := by rfl) (hpl : (backTo pos (starEach es X.env)).any (·.1) = false := by rfl)
    (ht : eval (.Call (.Attribute (.Name x p) m apos) (e :: es) [] pos) X.env = (do
      let ov ← eval (.Name x p) X.env
      standAt apos.atName
      let (g, first) ← holding [ov] (getMethod ov m pl)
      callWith pos g first (backTo pos (starEach (e :: es) X.env)) (backToKw pos (keywordEach [] X.env))) := by rfl) :
    PE X (.Call (.Attribute (.Name x p) m apos) (e :: es) [] pos) (tCall sp [] E t) := by
  refine ⟨fun pins s σ H Q I h => PySem.W.methodCall_KW (pl := pl) (ld_glob I hg hm ?_ hdb) ht⟩
  refine PySem.W.method_cls I.kIn c.sp (PySem.W.cls_value I.kIn c.rd c.fc c.hd ?_)
  refine PySem.W.callWith_K (first := []) (h₀ := X.base) I.ok.mod.kin c.kp (thn (ha.run pos pins _ σ H _ (I.tok _) h) fun us s2 z => ?_) hst hpl
  obtain ⟨vs, H2, I2, r, q⟩ := z
  exact ⟨I2.kIn, run_fn F hr hb .nil hx I2 r q⟩
end
/-- an error of the class at S is what an except of S names -/
theorem exm_own {K : PySem.W.Frag} {S : Addr} (h1 : PySem.W.subIn K (.ref S) (.type "BaseException") = some true) (h2 : PySem.W.isClsIn K S = true) (h3 : PySem.W.typeIn K (.ref S) = some (.type "type")) (h4 : PySem.W.subIn K (.ref S) (.ref S) = some true) :
    PySem.W.exmOne K (.ref S) (.ref S) = some true := by
  have y1 : (PySem.W.subIn K (.ref S) (.type "BaseException") == some true) = true := by rw [h1] <;> rfl
  have y2 : ((PySem.W.clsIn K S).isSome && PySem.W.typeIn K (.ref S) == some (.type "type")) = true := by
    have h5 : (PySem.W.clsIn K S).isSome = true := h2
    rw [h5, h3] <;> rfl
  show (if (PySem.W.subIn K (.ref S) (.type "BaseException") == some true) = true then (if ((PySem.W.clsIn K S).isSome && PySem.W.typeIn K (.ref S) == some (.type "type")) = true then PySem.W.subIn K (.ref S) (.ref S) else none) else none) = some true
  rw [if_pos y1, if_pos y2]
  exact h4
/-! ### C(), C an own exception over ValueError whose __init__ stores nothing -/
section
variable {X : Cx}
/-- the promise of such an __init__ of one argument, self -/
def spIni (K : PySem.W.Frag) : Sp := fun vs H Q _ => ∃ a C : Addr, vs = [.ref a] ∧ OexC K C ∧ H a = some (exo a C none) ∧ Q .non H
/-- .. of self and a text -/
def spIni1 (K : PySem.W.Frag) : Sp := fun vs H Q _ => ∃ (a C : Addr) (y : V), vs = [.ref a, y] ∧ OexC K C ∧ H a = some (exo a C none) ∧ Q .non H
theorem let_go {pins : List (Addr × Obj)} {σ : L2.St} {H1 : Hp} {hp hp2 h2 : Heap} {g1 g2 : Array GenState} {d1 d2 : Drawn} {t1 t2 : Nat} {os1 os2 : OsState} {a C : Addr} (I1 : Inv X pins σ H1 ⟨hp, g1, d1, t1, os1⟩)
    (ha : hp.objs.size ≤ a) (k : ∀ b o, hp.get? b = some o → hp2.get? b = some o) (un : Un (frs X.stack) [] (upd H1 a (exo a C none)) (upd H1 a (exo a C none)) hp2 h2) (hok : HOk X.prog X.w (upd H1 a (exo a C none)) h2) (ho : os2 = os1) (hb : AllBare g2) :
    ∃ (t0 : Addr) (G : Heap), Inv X pins σ H1 ⟨G, g2, d2, t2, os2⟩ ∧ (∀ b o, G.get? b = some o → h2.get? b = some o) ∧ G.get? a = none ∧
      h2.get? a = some ({ cls := .ref C, dict := none, data := .fields #[.ref t0, .none, .none, .none, .bool false, .none] } : Obj) := by
  obtain ⟨t0, hoe⟩ := exo_at hok (upd_same (H := H1))
  have hn : H1 a = none := I1.hok.fresh ha
  obtain ⟨G, y1, y2⟩ := restrict h2 fun b => decide (b ≠ a)
  have gk : ∀ b, b ≠ a → G.get? b = h2.get? b := fun b hb => y1 b (decide_eq_true hb)
  have ge : G.get? a = none := y2 a (by simp)
  have old : ∀ {b : Addr} {o : Obj}, hp.get? b = some o → b ≠ a := fun {b o} z => Nat.ne_of_lt (Nat.lt_of_lt_of_le (Heap.lt_size z) ha)
  have up : ∀ {b : Addr}, b ≠ a → H1 b = none → upd H1 a (exo a C none) b = none := fun {b} hb n => by rw [upd_ne hb]; exact n
  have dn : ∀ {b : Addr} {u : HO}, H1 b = some u → upd H1 a (exo a C none) b = some u := fun {b u} z => by rw [upd_ne (ne_of_none z hn)]; exact z
  have ne : ∀ {b : Addr} {u : HO}, H1 b = some u → b ≠ a := fun {b u} z => ne_of_none z hn
  have U : Un (frs X.stack) [] H1 H1 hp G :=
    ⟨fun b o z n hf hx => by rw [gk b (old z)]; exact un.keep b o (k b o z) (up (old z) n) hf hx,
     fun b o z n hf hx => by rw [gk b (old z)]; exact un.slot b o (k b o z) (up (old z) n) hf hx,
     fun b o z n hx => n,
     fun b o z hx => by rw [gk b (old z)]; exact un.there b o (k b o z) hx,
     fun b xs z => z, fun b o v z => z, fun b qs z => ⟨#[], by rw [z]; simp⟩⟩
  have hok3 : HOk X.prog X.w H1 G := fun b o z => by
    refine (hok b o (dn z)).stay (fun c v hc y => ?_) (fun c hc => ?_) (fun c xs hc => ?_)
    · have hca : c ≠ a := by
        rcases hc with hc | hc
        · rw [hc]; exact ne z
        · exact at_ne (upd_same (H := H1)) hc exo_own
      rw [gk c hca]
      exact y
    · have hca : c ≠ a := at_ne (upd_same (H := H1)) hc exo_own
      rw [upd_ne hca] at hc
      exact hc
    · have hca : c ≠ a := at_ne (upd_same (H := H1)) hc exo_tup
      rw [upd_ne hca] at hc
      exact hc
  have J : Inv X pins σ H1 ⟨G, g2, d2, t2, os2⟩ := I1.call' (ch := []) ho U hok3 hb (fun b z => absurd z (by simp))
  refine ⟨t0, G, J, fun b o z => ?_, ge, hoe⟩
  rcases Classical.em (b = a) with hba | hba
  · rw [hba, ge] at z
    cases z
  · exact (gk b hba).symm.trans z
theorem pmk_bare {CX : CXT} {x : Str} {C fI : Addr} {lv : Nat} {fd : FuncData} {ps : List Str} {p pos : Pos} (T : OexC X.K C) (iC : PySem.W.findIn X.K (.ref C) "__init__" = some (some (.ref fI))) (tI : PySem.W.typeIn X.K (.ref fI) = some (.type "function"))
    (F1 : FnOk X.prog X.w X.K X.mg X.base CX lv fI fd ps (spIni X.K)) (hr : Room (lv + 1) X.A) (hb : Binds X.K fd ps []) (hx : Passes CX X (fun _ _ _ => False)) (hg : Gl X x) (hm : X.mg x = some (.ref C)) (hdb : (x == ("__debug__" : Str)) = false := by decide) :
    PMk X (.Call (.Name x p) [] [] pos) (fun _ H Q => Q (.ref C) none H) := by
  intro pins s σ H Q I h
  obtain ⟨nm, q, N, bs, bm, sn, sub, ab, col, dd, k0, k1, k2, k3, k5, hC, hbm⟩ := T.cls
  refine wpAny_Call_Name_kw (ld_glob I hg hm ?_ hdb)
  refine PySem.W.callWith_K0 I.kIn T.kC ?_
  show wpAny _ _ (call (.ref C) []) _ _ _
  obtain ⟨hp, g, dr, tk, os⟩ := s
  have hsz : hp.objs.size ≤ hp.objs.size + 1 := Nat.le_succ _
  have kk : ∀ b o, hp.get? b = some o → ((hp.push (PySem.W.kdv_tup [])).push (PySem.HandSPX.excO C hp.objs.size)).get? b = some o := fun b o z => Heap.get?_push_of_some _ (Heap.get?_push_of_some _ z)
  have hget : ((hp.push (PySem.W.kdv_tup [])).push (PySem.HandSPX.excO C hp.objs.size)).get? (hp.objs.size + 1) = some (PySem.HandSPX.excO C hp.objs.size) := by heap_get
  have I2 : Inv X pins σ (upd H (hp.objs.size + 1) (exo (hp.objs.size + 1) C none)) ⟨(hp.push (PySem.W.kdv_tup [])).push (PySem.HandSPX.excO C hp.objs.size), g, dr, tk, os⟩ :=
    I.laid (t' := tk) (a := hp.objs.size + 1) (o := exo (hp.objs.size + 1) C none) (h' := (hp.push (PySem.W.kdv_tup [])).push (PySem.HandSPX.excO C hp.objs.size)) kk hsz (exo_ok hget)
  have r2 : Vals [V.ref (hp.objs.size + 1)] [Value.ref (hp.objs.size + 1)] := .cons rfl .nil
  have hsp : spIni X.K [V.ref (hp.objs.size + 1)] (upd H (hp.objs.size + 1) (exo (hp.objs.size + 1) C none)) (fun v H2 => v = .non ∧ H2 = upd H (hp.objs.size + 1) (exo (hp.objs.size + 1) C none)) (fun _ _ _ => False) :=
    ⟨_, C, rfl, T, upd_same, rfl, rfl⟩
  have hl : ([Value.ref (hp.objs.size + 1)] ++ []).length = ps.length := by
    have z := F1.len _ _ _ _ hsp
    exact z
  refine wpAny_call (PySem.HandSPX.call_own F.excBase_ValueError (fun Y => PySem.HandSPX.refsVE_contains Y bm hbm) (I.kIn _ _ hC) (PySem.W.looks_findIn I.kIn iC) (fun self => PySem.W.bind_fn I.kIn self tI) (Nat.zero_le _)
    (codeAny_mono (F1.run _ X.stack _ _ ⟨[Value.ref (hp.objs.size + 1)], []⟩ [Value.ref (hp.objs.size + 1)] _ _ (fun _ _ _ => False) (hr.make C [] []) (I2.env0.make C [] []) (hb _ [Value.ref (hp.objs.size + 1)] I2.kIn hl) r2 hsp) fun res s2 z => ?_))
  match res, z with
  | .error er, z => exact hx pins σ _ _ er s2 I2 z
  | .ok .next, z => exact False.elim z
  | .ok .brk, z => exact False.elim z
  | .ok .cont, z => exact False.elim z
  | .ok (.ret u), z =>
    obtain ⟨v, H2, os2, bare2, un2, hok2, rv, ev, eH⟩ := z
    subst ev
    rw [eH] at un2 hok2
    obtain ⟨h2, g2, d2, t2, os3⟩ := s2
    obtain ⟨t0, G, J, kG, ge, hoe⟩ := let_go (d2 := d2) (t2 := t2) I hsz kk un2 hok2 os2 bare2
    exact ⟨rv, _, _, _, ⟨G, g2, d2, t2, os3⟩, _, .ref C, none, rfl, J, kG, ge, hoe, ⟨rfl, rfl⟩, rfl, rfl, I.hok.fresh hsz, rfl, bare2, raises_own T.exC T.tyC, h⟩
end
end Fp

set_option Elab.async false
set_option linter.all false
set_option maxRecDepth 100000
set_option maxHeartbeats 4000000
namespace Fp
open PySem PySem.Spec PyProof.Rows L2
/-! ### a tuple taken some times, none and once too -/
theorem tuple_mul_one (l : Addr) (items : Array Value) (n : Nat) (dd : Option Addr) (sl : Array (Option Value)) (u : Tok) :
    Meets (Builtin.«tuple.__mul__» ⟨[.ref l, .int 1 u], []⟩) (fun _ R s => s.heap.get? l = some { cls := .type "tuple", dict := dd, data := .seq items n, slots := sl } ∧ R (.ok (.ret (Value.ref l))) s) :=
  .of_wp fun prog w A R s h => by
    obtain ⟨hp, g, d, tk, os⟩ := s
    obtain ⟨hl, h⟩ := h
    have f1 := AutoSeq1.idx_int
    have c1 : (items.isEmpty || (1 : Int) == 1) = true := by simp
    wp_walk using wpAny_loadPart' hl
    exact ⟨_, rfl, h⟩
theorem tuple_mul_nil (l : Addr) (items : Array Value) (n : Nat) (dd : Option Addr) (sl : Array (Option Value)) (u : Tok) (c1 : items.isEmpty = false) :
    Meets (Builtin.«tuple.__mul__» ⟨[.ref l, .int 0 u], []⟩) (fun _ R s => s.heap.get? l = some { cls := .type "tuple", dict := dd, data := .seq items n, slots := sl } ∧
      R (.ok (.ret (Value.ref s.heap.objs.size))) { s with heap := s.heap.push { cls := Value.type "tuple", data := Data.seq #[] }, toks := s.toks }) :=
  .of_wp fun prog w A R s h => by
    obtain ⟨hp, g, d, tk, os⟩ := s
    obtain ⟨hl, h⟩ := h
    have f1 := AutoSeq1.idx_int
    have c2 : (items.isEmpty || (0 : Int) == 1) = false := by rw [c1]; rfl
    wp_walk using wpAny_loadPart' hl
    exact ⟨_, rfl, h⟩
def rRepA (K : PySem.W.Frag) : R2 := fun x y H Q => ∃ l k xs, x = .ref l ∧ y = .int k ∧ SqT K H l xs ∧ xs ≠ [] ∧ 0 ≤ k ∧ k ≤ 1000 ∧ xs.length ≤ 1000 ∧ (k = 1 → Q (.ref l) H) ∧ (k ≠ 1 → ∀ p, H p = none → Q (.ref p) (upd H p (.tup (List.replicate k.toNat xs).flatten)))
section
variable {X : Cx}
theorem op_repA : OpR X (binaryOp .Mult) (rRepA X.K) := by
  intro pins s σ H x y v u Q I rx ry h
  obtain ⟨l, k, xs, rfl, rfl, hT, hne, h0, h2, hz, q1, q2⟩ := h
  rcases (by omega : k = 0 ∨ k = 1 ∨ 2 ≤ k) with rfl | rfl | hk
  · cases rx
    obtain ⟨t, rfl⟩ := ry
    obtain ⟨its, r, ⟨⟨cls, dd, data, sl⟩, ho, hc, n, hd⟩, hs⟩ := I.tuple hT
    simp only at hc hd
    subst hc hd
    have hle : its.length = xs.length := r.length.symm
    have hi : its.toArray.isEmpty = false := by
      cases its with
      | nil => exact absurd (List.eq_nil_of_length_eq_zero hle.symm) hne
      | cons a b => rfl
    refine wpAny_binaryOp_repeat_ref (T := "tuple") (U := "int") (by decide) ⟨_, ho, rfl⟩ (fun s2 => typeIs_int s2 0 t) noFill_tuple_mul F.fills_int_mul F.slot_int_rmul repeat_tuple F.slot_int_index.lookup
      (call_meets F.slot_int_rmul (typeIs_int s 0 t) F.entry_int_rmul (F.args_int_rmul_2 _ _) (int_rmul_tuple 0 t l its.toArray n dd sl)
        ⟨ho, rfl, ⟨_, ho, rfl⟩, call_meets F.slot_tuple_mul ⟨_, ho, rfl⟩ F.entry_tuple_mul (F.args_tuple_mul_2 _ _) (tuple_mul_nil l its.toArray n dd sl t hi) ⟨ho, ?_⟩⟩)
    refine ⟨.ref s.heap.objs.size, _, I.laid (t' := s.toks) (o := .tup []) (fun b ob z => Heap.get?_push_of_some _ z) (Nat.le_refl _) ?_, rfl, q2 (by decide) _ (I.hok.fresh (Nat.le_refl _))⟩
    exact ⟨Nat.zero_le _, [], .nil, IsTup.new _ _⟩
  · cases rx
    obtain ⟨t, rfl⟩ := ry
    obtain ⟨its, r, ⟨⟨cls, dd, data, sl⟩, ho, hc, n, hd⟩, hs⟩ := I.tuple hT
    simp only at hc hd
    subst hc hd
    refine wpAny_binaryOp_repeat_ref (T := "tuple") (U := "int") (by decide) ⟨_, ho, rfl⟩ (fun s2 => typeIs_int s2 1 t) noFill_tuple_mul F.fills_int_mul F.slot_int_rmul repeat_tuple F.slot_int_index.lookup
      (call_meets F.slot_int_rmul (typeIs_int s 1 t) F.entry_int_rmul (F.args_int_rmul_2 _ _) (int_rmul_tuple 1 t l its.toArray n dd sl)
        ⟨ho, rfl, ⟨_, ho, rfl⟩, call_meets F.slot_tuple_mul ⟨_, ho, rfl⟩ F.entry_tuple_mul (F.args_tuple_mul_2 _ _) (tuple_mul_one l its.toArray n dd sl t) ⟨ho, ?_⟩⟩)
    exact ⟨.ref l, H, I, rfl, q1 rfl⟩
  · exact op_repT pins s σ H _ _ v u Q I rx ry ⟨l, k, xs, rfl, rfl, hT, hne, hk, h2, hz, q2 (by omega)⟩
end
end Fp


set_option Elab.async false
set_option linter.all false
set_option maxRecDepth 100000
set_option maxHeartbeats 4000000
namespace Fp
open PySem PySem.Spec PyProof.Rows L2
/-! ### x *= y of great numbers; xs[i] += y -/
section
variable {X : Cx}
theorem ip_mulA : PIp X .Mult (rI CMulA fun i j => .int (i * j)) := opI fun _ _ _ _ _ _ _ hc q => imul_int q (mulA_ok hc)
def rIxN (K : PySem.W.Frag) : V → V → Hp → VK → Prop := fun x y H Q => ∃ p xs i v, x = .ref p ∧ y = .int i ∧ SqL K H p xs ∧ 0 ≤ i ∧ atI xs i = some v ∧ Q v H
theorem get_listN : PGet X (rIxN X.K) := by
  intro pins s σ H x y v u Q I rx ry h
  obtain ⟨p, xs, i, z, rfl, rfl, hq, h0, he, q⟩ := h
  cases rx
  obtain ⟨t, rfl⟩ := ry
  obtain ⟨its, r, pl, hz⟩ := I.list hq
  obtain ⟨j, h1, h2, h3, h4, h5⟩ := atI_get he
  obtain ⟨w, ew, rw'⟩ := r.get h2
  have hl := r.length
  have hn := line63
  have hj : i.toNat = j := by
    rw [seqIndex_of h0 h5] at h1
    exact Option.some.inj h1
  exact wpAny_getItem_list pl.isList h0 (by omega) (by rw [hj]; simpa using ew) ⟨z, H, I, rw', q⟩
end
end Fp

set_option Elab.async false
set_option linter.all false
set_option maxRecDepth 100000
set_option maxHeartbeats 4000000
namespace Fp
open PySem PySem.Spec PyProof.Rows L2
/-! ### repr of what may be None, a number or an object -/
theorem shown_non : PyData.none.shown = ("None" : Str) := rfl
theorem shown_int (i : Int) : (PyData.int i).shown = Str.ofString (toString i) := rfl
section
variable {X : Cx}
theorem call_reprV {lv : Nat} (hq : X.A.guards = some []) (hr : Room lv X.A) : CallR X (.builtin "repr") (fun xs H Q => ∃ v d, xs = [v] ∧ (v = .non ∨ (∃ i, v = .int i) ∨ ∃ a, v = .ref a) ∧ Dp X.K H v d ∧ Shows d ∧ Q (.str d.shown) H) := by
  intro pins s σ H xs us Q I r h
  obtain ⟨v, d, rfl, hv, hd, hs, q⟩ := h
  rcases hv with rfl | ⟨i, rfl⟩ | ⟨a, rfl⟩
  · cases hd
    obtain ⟨u, rfl, ru⟩ := vals1 r
    obtain rfl : u = Value.none := ru
    exact PySem.P.repr_of_none ⟨.str PyData.none.shown, H, I.tok _, ⟨_, rfl⟩, q⟩
  · cases hd
    refine SkE.call_repr_int pins s σ H _ us Q I r ⟨i, rfl, ?_, q⟩
    have h1 := hs.1
    simp only [PyData.showable, decide_eq_true_eq] at h1
    omega
  · exact call_reprD hq hr pins s σ H _ us Q I r ⟨a, d, rfl, hd, hs, q⟩
end
end Fp


set_option Elab.async false
set_option linter.all false
set_option maxRecDepth 100000
set_option maxHeartbeats 4000000
namespace Fp
open PySem PySem.Spec PyProof.Rows L2
/-! ### enumerate(xs, start=k), of a list and of a tuple -/
/-- the items of a row as it stands, each in a new pair with its number from k on -/
def Itq (Sq : Hp → List V → Prop) (k : Int) : It :=
  ⟨fun i H => ∃ xs x, Sq H xs ∧ xs[i]? = some x, fun i H v H2 => ∃ T x, v = .ref T ∧ H T = none ∧ H2 = upd H T (.tup [.int (k + (i : Nat)), x]) ∧ ∀ zs, Sq H zs → zs[i]? = some x, fun i H => ∃ xs, Sq H xs ∧ xs.length ≤ i⟩
theorem walk_q {Sq : Hp → List V → Prop} {k : Int} {xs : List V} : Walk (Itq Sq k) xs.length (fun H => Sq H xs) (YPair (fun i => some (.int (k + (i : Nat)))) (fun i => xs[i]?)) := by
  refine ⟨fun i _ hi q => ⟨xs, xs[i], q, by simp [hi]⟩, fun _ q => ⟨xs, q, Nat.le_refl _⟩, fun i H v H2 _ q y => ?_⟩
  obtain ⟨T, x, y1, y2, y3, y4⟩ := y
  exact ⟨T, _, x, y1, y2, y3, rfl, y4 xs q⟩
section
variable {M : Model} {A : Around} {E : Value → Shared → Prop} {s : Shared} {env : Env}
theorem cw_typeKw {pos : Pos} {T : String} {args : List (Bool × Sem Value)} {kws : List (Option Str × Sem Value)} {Q : Value → Shared → Prop} (hp : args.any (·.1) = false) (hk : kws.any (·.1.isNone) = false)
    (h : wpAny M A (evalArgs (.type T) true args kws) (fun a t => wpAny M A (call (.type T) a.pos a.kw) Q E t) E s) : wpAny M A (callWith pos (.type T) [] args kws) Q E s := by
  unfold callWith
  refine wpAny_bind (wpAny_holding (wpAny_mono h (fun g t hg => wpAny_bind (wpAny_standAt ?_)) fun _ _ z => z))
  simp only [hp, hk, Bool.or_false]
  refine wpAny_bind (wpAny_pure ?_)
  exact wpAny_bind (wpAny_mono hg (fun r t2 hr => wpAny_bind (wpAny_holding (wpAny_point (wpAny_pure hr)))) fun _ _ z => z)
end
section
variable {prog : Program} {w : World} {A : Around} {E : Value → Shared → Prop} {s : Shared}
theorem enum_end_q {e it : Addr} {i : Int} {old : Value} {Q : Option Value → Shared → Prop} (ee : IsEnum s.heap e it i old)
    (dn : ∀ (Q2 : Value → Shared → Prop) (F : Value → Shared → Prop), (∀ h2 x, Heap.ExtBut it s.heap h2 → (∃ o, h2.get? x = some o ∧ o.cls = .type "StopIteration") → F (.ref x) { s with heap := h2 }) → wpAny (model prog w) A.in1 (Builtin.SmallTypes.nextOf (.ref it)) Q2 F s)
    (hQ : ∀ h2, Heap.ExtBut it s.heap h2 → Q none { s with heap := h2 }) : wpAny (model prog w) A (pyNext (.ref e)) Q E s := by
  have ty : s.TypeIs (.ref e) "enumerate" := ⟨_, ee, rfl⟩
  unfold pyNext
  refine wpAny_bind (wpAny_attempt (wpAny_callSpecial?_slot (name := Str.ofString "__next__") ty F.slot_enumerate_next (wpAny_call_entry F.slot_enumerate_next ty F.entry_enumerate_next ?_ (F.args_enumerate_next_1 _))))
  show wpAny (model prog w) _ (field (.ref e) 2 >>= _) _ _ _
  refine wpAny_bind (wpAny_field ee rfl (x := .ref it) rfl (wpAny_bind (dn _ _ fun h2 x eb ox => ?_)))
  obtain ⟨o, oe, oc⟩ := ox
  exact wpAny_bind (wpAny_isInstance (T := "StopIteration") (b := true) ⟨o, oe, oc⟩ isSubtype_stop (wpAny_pure (hQ _ eb)))
end
theorem turn_qL {P : Program} {w : World} {K : PySem.W.Frag} {elts : List Expr} {kk : Nat} {tpos : Pos} (k : Int) (a e it : Addr) :
    Turn P w K (.Tuple elts kk tpos) (Itq (fun H xs => SqL K H a xs) k) [e, it] e (fun i h => (∃ old, IsEnum h e it (k + (i : Nat)) old) ∧ h.IsListIter it a i ∧ e ≠ it) where
  mem := by simp
  obj := fun i h st b hb => by
    obtain ⟨⟨_, ee⟩, ⟨o, oe, _, od⟩, _⟩ := st
    rcases (show b = e ∨ b = it by simpa using hb) with z | z
    · subst z
      exact ⟨_, ee, fun v q => nomatch q⟩
    · subst z
      exact ⟨o, oe, fun v q => by rw [od] at q; cases q⟩
  keep := fun i h h2 st kp => by
    obtain ⟨⟨old, ee⟩, ie, hne⟩ := st
    exact ⟨⟨old, kp e (by simp) _ ee⟩, ie.at fun o q => kp it (by simp) o q, hne⟩
  item := by
    intro Y yP yw yK yc i pn s sl H F I hf st hg
    subst yP yw yK
    obtain ⟨⟨old, ee⟩, ie, hne⟩ := st
    obtain ⟨xs, x, sq, ex⟩ := hg
    obtain ⟨vs, rv, po, _⟩ := I.list sq
    obtain ⟨u, eu, ru⟩ := rv.get ex
    have oa : s.heap.IsList a vs.toArray := po.isList
    have ai : a ≠ it := fun z => by
      subst z
      obtain ⟨o1, q1, c1, _⟩ := ie
      obtain ⟨o2, q2, c2, _⟩ := id oa
      rw [q1] at q2
      cases q2
      rw [c1] at c2
      injection c2 with c3
      exact absurd c3 (by decide)
    have ae : e ≠ a := fun z => by
      subst z
      obtain ⟨o2, q2, c2, _⟩ := id oa
      have q1 : s.heap.get? e = _ := ee
      rw [q1] at q2
      cases q2
      have c3 := c2
      injection c3 with c4
      exact absurd c4 (by decide)
    have le : e < s.heap.objs.size := Heap.lt_size ee
    have li : it < s.heap.objs.size := by
      obtain ⟨_, q, _⟩ := ie
      exact Heap.lt_size q
    have hi : i < vs.toArray.size := by
      have := (List.getElem?_eq_some_iff.mp eu).1
      simpa using this
    refine wpAny_pyNext_enum_itemC (Draws.list (A := Y.A.in1) (show Y.A.in1.handled = none from I.ok.hd yc) it a ai vs.toArray) ee ⟨ie, oa⟩ hi hne (by simp [hne, ae]) fun u2 h2 tk pu oe st2 oT zT kp => ?_
    have e2 : u2 = u := by
      have : vs[i]? = some u2 := by simpa using pu
      rw [eu] at this
      exact Option.some.inj this.symm
    subst e2
    refine ⟨_, rfl, wpAny_letOwnedTupleGo_enum (s := { s with heap := h2, toks := tk + 1 }) oe fun h3 ee3 sb => ?_⟩
    have oT3 := (sb.2 _ (Nat.ne_of_gt le)).trans oT
    have new : ObjOk Y.prog Y.w (upd H s.heap.objs.size (.tup [.int (k + (i : Nat)), x])) h3 s.heap.objs.size (.tup [.int (k + (i : Nat)), x]) :=
      ⟨by show 2 ≤ sizeLine; decide, [.int (k + (i : Nat)) tk, u2], .cons ⟨_, rfl⟩ (.cons ru .nil), ⟨_, oT3, rfl, _, rfl⟩⟩
    have I3 : Inv Y pn sl (upd H s.heap.objs.size (.tup [.int (k + (i : Nat)), x])) { s with heap := h3, toks := tk + 1 } := by
      refine I.turnedNew (ch := [e, it]) (fun b ob hb q => ?_) hf (Nat.le_refl _) new
      exact (sb.2 b fun z => hb (by simp [z])).trans (kp b ob (fun z => hb (by simp [z])) (fun z => hb (by simp [z])) q)
    refine ⟨.ref s.heap.objs.size, _, I3, rfl, ⟨_, x, rfl, I.hok.fresh (Nat.le_refl _), rfl, fun zs hz => ?_⟩, ⟨⟨u2, ?_⟩, st2.1.at fun o q => (sb.2 it (Ne.symm hne)).trans q, hne⟩, fun b hb => ?_⟩
    · rw [I.list_inj hz sq]
      exact ex
    · rw [show k + ((i + 1 : Nat) : Int) = k + (i : Int) + 1 by omega]
      exact ee3
    · have lb : b < s.heap.objs.size := by
        rcases (show b = e ∨ b = it by simpa using hb) with z | z
        · rw [z]
          exact le
        · rw [z]
          exact li
      rw [upd_ne (Nat.ne_of_lt lb)]
      exact (hf b hb).1
  done := by
    intro Y yP yw yK yc i pn s sl H F I hf st hg
    subst yP yw yK
    obtain ⟨⟨old, ee⟩, ie, hne⟩ := st
    obtain ⟨xs, sq, hx⟩ := hg
    obtain ⟨vs, rv, po, _⟩ := I.list sq
    have oa : s.heap.IsList a vs.toArray := po.isList
    obtain ⟨g0, g1, g2, g3, g4, g5⟩ := hf it (by simp)
    have hl := rv.length
    have ai : a ≠ it := fun z => by
      subst z
      obtain ⟨o1, q1, c1, _⟩ := ie
      obtain ⟨o2, q2, c2, _⟩ := id oa
      rw [q1] at q2
      cases q2
      rw [c1] at c2
      injection c2 with c3
      exact absurd c3 (by decide)
    exact enum_end_q ee (fun Q2 F2 hQ2 => wpAny_nextOf_list_end (show Y.A.in1.handled = none from I.ok.hd yc) ie oa (by simp; omega) hQ2) fun h2 eb => ⟨rfl, I.turned (t' := s.toks) (fun b o hb q => eb b o hb q) g0 g1 g3 g4 g5⟩
  self := fun A2 i s Q F st h => by
    obtain ⟨⟨_, ee⟩, _⟩ := st
    exact wpAny_pyIter_enum ee h
theorem turn_qT {P : Program} {w : World} {K : PySem.W.Frag} {elts : List Expr} {kk : Nat} {tpos : Pos} (k : Int) (a e it : Addr) :
    Turn P w K (.Tuple elts kk tpos) (Itq (fun H xs => SqT K H a xs) k) [e, it] e (fun i h => (∃ old, IsEnum h e it (k + (i : Nat)) old) ∧ h.IsTupleIter it a i ∧ e ≠ it) where
  mem := by simp
  obj := fun i h st b hb => by
    obtain ⟨⟨_, ee⟩, ⟨o, oe, _, od⟩, _⟩ := st
    rcases (show b = e ∨ b = it by simpa using hb) with z | z
    · subst z
      exact ⟨_, ee, fun v q => nomatch q⟩
    · subst z
      exact ⟨o, oe, fun v q => by rw [od] at q; cases q⟩
  keep := fun i h h2 st kp => by
    obtain ⟨⟨old, ee⟩, ie, hne⟩ := st
    exact ⟨⟨old, kp e (by simp) _ ee⟩, ie.at fun o q => kp it (by simp) o q, hne⟩
  item := by
    intro Y yP yw yK yc i pn s sl H F I hf st hg
    subst yP yw yK
    obtain ⟨⟨old, ee⟩, ie, hne⟩ := st
    obtain ⟨xs, x, sq, ex⟩ := hg
    obtain ⟨vs, rv, po, _⟩ := I.tuple sq
    obtain ⟨u, eu, ru⟩ := rv.get ex
    have oa : s.heap.IsTuple a vs.toArray := po
    have ai : a ≠ it := fun z => by
      subst z
      obtain ⟨o1, q1, c1, _⟩ := ie
      obtain ⟨o2, q2, c2, _⟩ := id oa
      rw [q1] at q2
      cases q2
      rw [c1] at c2
      injection c2 with c3
      exact absurd c3 (by decide)
    have ae : e ≠ a := fun z => by
      subst z
      obtain ⟨o2, q2, c2, _⟩ := id oa
      have q1 : s.heap.get? e = _ := ee
      rw [q1] at q2
      cases q2
      have c3 := c2
      injection c3 with c4
      exact absurd c4 (by decide)
    have le : e < s.heap.objs.size := Heap.lt_size ee
    have li : it < s.heap.objs.size := by
      obtain ⟨_, q, _⟩ := ie
      exact Heap.lt_size q
    have hi : i < vs.toArray.size := by
      have := (List.getElem?_eq_some_iff.mp eu).1
      simpa using this
    refine wpAny_pyNext_enum_itemC (Draws.tuple (A := Y.A.in1) (show Y.A.in1.handled = none from I.ok.hd yc) it a ai vs.toArray) ee ⟨ie, oa⟩ hi hne (by simp [hne, ae]) fun u2 h2 tk pu oe st2 oT zT kp => ?_
    have e2 : u2 = u := by
      have : vs[i]? = some u2 := by simpa using pu
      rw [eu] at this
      exact Option.some.inj this.symm
    subst e2
    refine ⟨_, rfl, wpAny_letOwnedTupleGo_enum (s := { s with heap := h2, toks := tk + 1 }) oe fun h3 ee3 sb => ?_⟩
    have oT3 := (sb.2 _ (Nat.ne_of_gt le)).trans oT
    have new : ObjOk Y.prog Y.w (upd H s.heap.objs.size (.tup [.int (k + (i : Nat)), x])) h3 s.heap.objs.size (.tup [.int (k + (i : Nat)), x]) :=
      ⟨by show 2 ≤ sizeLine; decide, [.int (k + (i : Nat)) tk, u2], .cons ⟨_, rfl⟩ (.cons ru .nil), ⟨_, oT3, rfl, _, rfl⟩⟩
    have I3 : Inv Y pn sl (upd H s.heap.objs.size (.tup [.int (k + (i : Nat)), x])) { s with heap := h3, toks := tk + 1 } := by
      refine I.turnedNew (ch := [e, it]) (fun b ob hb q => ?_) hf (Nat.le_refl _) new
      exact (sb.2 b fun z => hb (by simp [z])).trans (kp b ob (fun z => hb (by simp [z])) (fun z => hb (by simp [z])) q)
    refine ⟨.ref s.heap.objs.size, _, I3, rfl, ⟨_, x, rfl, I.hok.fresh (Nat.le_refl _), rfl, fun zs hz => ?_⟩, ⟨⟨u2, ?_⟩, st2.1.at fun o q => (sb.2 it (Ne.symm hne)).trans q, hne⟩, fun b hb => ?_⟩
    · rw [I.tuple_inj hz sq]
      exact ex
    · rw [show k + ((i + 1 : Nat) : Int) = k + (i : Int) + 1 by omega]
      exact ee3
    · have lb : b < s.heap.objs.size := by
        rcases (show b = e ∨ b = it by simpa using hb) with z | z
        · rw [z]
          exact le
        · rw [z]
          exact li
      rw [upd_ne (Nat.ne_of_lt lb)]
      exact (hf b hb).1
  done := by
    intro Y yP yw yK yc i pn s sl H F I hf st hg
    subst yP yw yK
    obtain ⟨⟨old, ee⟩, ie, hne⟩ := st
    obtain ⟨xs, sq, hx⟩ := hg
    obtain ⟨vs, rv, po, _⟩ := I.tuple sq
    have oa : s.heap.IsTuple a vs.toArray := po
    obtain ⟨g0, g1, g2, g3, g4, g5⟩ := hf it (by simp)
    have hl := rv.length
    have ai : a ≠ it := fun z => by
      subst z
      obtain ⟨o1, q1, c1, _⟩ := ie
      obtain ⟨o2, q2, c2, _⟩ := id oa
      rw [q1] at q2
      cases q2
      rw [c1] at c2
      injection c2 with c3
      exact absurd c3 (by decide)
    exact enum_end_q ee (fun Q2 F2 hQ2 => wpAny_nextOf_tuple_end (show Y.A.in1.handled = none from I.ok.hd yc) ie oa (by simp; omega) hQ2) fun h2 eb => ⟨rfl, I.turned (t' := s.toks) (fun b o hb q => eb b o hb q) g0 g1 g3 g4 g5⟩
  self := fun A2 i s Q F st h => by
    obtain ⟨⟨_, ee⟩, _⟩ := st
    exact wpAny_pyIter_enum ee h
def iQL (K : PySem.W.Frag) (k : Int) (ta : TA) : TI := fun σ H R => ta σ H fun vs H1 => ∃ a xs, vs = [.ref a] ∧ SqL K H1 a xs ∧ R (Itq (fun H xs => SqL K H a xs) k) H1
theorem pi_qL {X : Cx} {e : Expr} {ta : TA} {p pos tpos kp cp : Pos} {elts : List Expr} {kk jj : Nat} {k : Int} (k0 : -(2 ^ 63) ≤ k) (k1 : k < 2 ^ 63) (hg : Gl X "enumerate") (hm : X.mg "enumerate" = none) (ha : PA X [e] ta) (hs : starEach [e] X.env = [(false, eval e X.env)] := by rfl) :
    PI X (.Tuple elts kk tpos) (.Call (.Name "enumerate" p) [e] [⟨some "start", .Constant (.int k) jj cp, kp⟩] pos) (iQL X.K k ta) := by
  refine ⟨fun pn s sl H R I h => wpAny_Call_Name_kw (ld_blt I hg hm boot_enumerate ?_)⟩
  have he : backTo pos (starEach [e] X.env) = (false, eval e X.env) :: [] := by
    rw [hs]
    rfl
  refine cw_typeKw (by rw [he]; rfl) (by rfl) ?_
  have go := ha.run pos pn s sl H _ I h
  rw [he] at go ⊢
  refine evalArgs_kwB (by rfl) (thn go fun us s1 z1 => ?_)
  obtain ⟨vs, H1, I1, r1, q1⟩ := z1
  have pkw : PK X [⟨some "start", .Constant (.int k) jj cp, kp⟩] (tCons (tC (.int k)) tNil) := pk_cons pe_int pk_nil
  refine thn (pkw.run pos pn s1 sl H1 (fun zs H2 => zs = [.int k] ∧ H2 = H1) I1 ⟨rfl, rfl⟩) fun ws s2 z2 => ?_
  obtain ⟨zs, H2, I2, r2, rfl, rfl⟩ := z2
  obtain ⟨a, xs, rfl, sq, q⟩ := q1
  cases r1 with
  | cons ra rn =>
    cases rn
    cases ra
    cases r2 with
    | cons rk rn =>
      cases rn
      obtain ⟨tk, rfl⟩ := rk
      obtain ⟨us, rv, po, _⟩ := I2.list sq
      have oa : s2.heap.IsList a us.toArray := po.isList
      refine enum_begins_start (begins_list a us.toArray) oa k0 k1 fun h2 ee oi _ kp2 => wpAny_pyIter_enum ee ?_
      have I3 : Inv X pn sl H2 { s2 with heap := h2 } := I2.kept (t' := s2.toks) kp2
      refine ⟨s2.heap.objs.size + 1, [s2.heap.objs.size + 1, s2.heap.objs.size], _, _, H2, rfl, I3, turn_qL k a (s2.heap.objs.size + 1) s2.heap.objs.size, ⟨⟨.none, ?_⟩, ⟨_, oi, rfl, rfl⟩, Nat.succ_ne_self _⟩, fun b hb => ?_, q⟩
      · rw [show k + ((0 : Nat) : Int) = k by omega]
        exact ee
      · have lb : s2.heap.objs.size ≤ b := by
          rcases (show b = s2.heap.objs.size + 1 ∨ b = s2.heap.objs.size by simpa using hb) with z | z
          · rw [z]
            exact Nat.le_add_right _ _
          · rw [z]
            exact Nat.le_refl _
        exact I2.fpOk lb (I2.hok.fresh lb)
def iQT (K : PySem.W.Frag) (k : Int) (ta : TA) : TI := fun σ H R => ta σ H fun vs H1 => ∃ a xs, vs = [.ref a] ∧ SqT K H1 a xs ∧ R (Itq (fun H xs => SqT K H a xs) k) H1
theorem pi_qT {X : Cx} {e : Expr} {ta : TA} {p pos tpos kp cp : Pos} {elts : List Expr} {kk jj : Nat} {k : Int} (k0 : -(2 ^ 63) ≤ k) (k1 : k < 2 ^ 63) (hg : Gl X "enumerate") (hm : X.mg "enumerate" = none) (ha : PA X [e] ta) (hs : starEach [e] X.env = [(false, eval e X.env)] := by rfl) :
    PI X (.Tuple elts kk tpos) (.Call (.Name "enumerate" p) [e] [⟨some "start", .Constant (.int k) jj cp, kp⟩] pos) (iQT X.K k ta) := by
  refine ⟨fun pn s sl H R I h => wpAny_Call_Name_kw (ld_blt I hg hm boot_enumerate ?_)⟩
  have he : backTo pos (starEach [e] X.env) = (false, eval e X.env) :: [] := by
    rw [hs]
    rfl
  refine cw_typeKw (by rw [he]; rfl) (by rfl) ?_
  have go := ha.run pos pn s sl H _ I h
  rw [he] at go ⊢
  refine evalArgs_kwB (by rfl) (thn go fun us s1 z1 => ?_)
  obtain ⟨vs, H1, I1, r1, q1⟩ := z1
  have pkw : PK X [⟨some "start", .Constant (.int k) jj cp, kp⟩] (tCons (tC (.int k)) tNil) := pk_cons pe_int pk_nil
  refine thn (pkw.run pos pn s1 sl H1 (fun zs H2 => zs = [.int k] ∧ H2 = H1) I1 ⟨rfl, rfl⟩) fun ws s2 z2 => ?_
  obtain ⟨zs, H2, I2, r2, rfl, rfl⟩ := z2
  obtain ⟨a, xs, rfl, sq, q⟩ := q1
  cases r1 with
  | cons ra rn =>
    cases rn
    cases ra
    cases r2 with
    | cons rk rn =>
      cases rn
      obtain ⟨tk, rfl⟩ := rk
      obtain ⟨us, rv, po, _⟩ := I2.tuple sq
      have oa : s2.heap.IsTuple a us.toArray := po
      refine enum_begins_start (begins_tuple a us.toArray) oa k0 k1 fun h2 ee oi _ kp2 => wpAny_pyIter_enum ee ?_
      have I3 : Inv X pn sl H2 { s2 with heap := h2 } := I2.kept (t' := s2.toks) kp2
      refine ⟨s2.heap.objs.size + 1, [s2.heap.objs.size + 1, s2.heap.objs.size], _, _, H2, rfl, I3, turn_qT k a (s2.heap.objs.size + 1) s2.heap.objs.size, ⟨⟨.none, ?_⟩, ⟨_, oi, rfl, rfl⟩, Nat.succ_ne_self _⟩, fun b hb => ?_, q⟩
      · rw [show k + ((0 : Nat) : Int) = k by omega]
        exact ee
      · have lb : s2.heap.objs.size ≤ b := by
          rcases (show b = s2.heap.objs.size + 1 ∨ b = s2.heap.objs.size by simpa using hb) with z | z
          · rw [z]
            exact Nat.le_add_right _ _
          · rw [z]
            exact Nat.le_refl _
        exact I2.fpOk lb (I2.hok.fresh lb)
end Fp

set_option Elab.async false
set_option linter.all false
namespace Fp
open PySem PySem.Spec PyProof.Rows L2
/-! ### isinstance of whole numbers -/
theorem int_bool (K : PySem.W.Frag) : PySem.W.kitOne K (.type "int") (.type "bool") = some false := by
  first | rfl | (unfold PySem.W.kitOne; rfl) | (unfold PySem.W.kitOne PySem.W.kitCls; simp) | skip
end Fp

set_option Elab.async false
set_option linter.all false
set_option maxRecDepth 100000
set_option maxHeartbeats 4000000
namespace Fp
open PySem PySem.Spec PyProof.Rows L2
/-! ### all(e for t in xs), any(e for t in xs): e of any kind, xs whatever is walked -/
/-- a code object's table at P: it may grow -/
def tabx (P : Addr) : HO := .ext fun h => ∃ ps : Array Value, h.get? P = some { cls := .none, data := .fields ps } ∧ TriplesOk ps.toList
theorem tabx_at {Pr : Program} {w : World} {H : Hp} {h : Heap} {P : Addr} (ok : HOk Pr w H h) (e : H P = some (tabx P)) : ∃ ps : Array Value, h.get? P = some { cls := .none, data := .fields ps } ∧ TriplesOk ps.toList :=
  (show ObjOk Pr w H h P (.ext fun h => ∃ ps : Array Value, h.get? P = some { cls := .none, data := .fields ps } ∧ TriplesOk ps.toList) from ok P _ e).1
theorem tabx_ok {Pr : Program} {w : World} {H : Hp} {h : Heap} {P : Addr} {ps : Array Value} (e : h.get? P = some { cls := .none, data := .fields ps }) (t : TriplesOk ps.toList) : ObjOk Pr w H h P (tabx P) :=
  ⟨⟨ps, e, t⟩, ⟨_, e⟩, fun _ _ ⟨qs, e1, e2⟩ k => ⟨qs, k _ e1, e2⟩⟩
theorem upd_self {H : Hp} {a : Addr} {o : HO} (h : H a = some o) : upd H a o = H := by
  funext b
  by_cases e : b = a
  · rw [e, upd_same, h]
  · rw [upd_ne e]
/-- the generator expression's scope -/
structure GxS (scope : Scope) : Prop where
  co : scope.isCoroutine = false
  cell : ∀ y ∈ scope.names, y.2 ≠ .cell
  dot : scope.names.lookup (".0" : Str) = some NameKind.local
def gxC (scope : Scope) : Bool := !scope.isCoroutine && (scope.names.all fun y => decide (y.2 ≠ .cell)) && decide (scope.names.lookup (".0" : Str) = some NameKind.local)
theorem gxS_by {scope : Scope} (h : gxC scope = true) : GxS scope := by
  unfold gxC at h
  simp only [Bool.and_eq_true, List.all_eq_true, decide_eq_true_eq, Bool.not_eq_true'] at h
  exact ⟨h.1.1, h.1.2, h.2⟩
/-- the context of such a generator's frame: begun at s, its iterator's objects fp, itself at p -/
abbrev gxX (X : Cx) (s : Shared) (H : Hp) (cenv : Env) (fp : List Addr) (p : Addr × Obj) : Cx :=
  { X with A := X.A.in1.in1.deeper cenv, s_0 := s, H_0 := H, env := cenv, outer := X.stack, stack := cenv :: X.stack, ex := fp, fn := fun _ => false, pn := [p], xe := fun _ _ => False }
theorem gx_room {k : Nat} {A : Around} {env : Env} (r : Room (k + 1) A) : Room k (A.in1.in1.deeper env) :=
  ⟨r.hd, by have := r.dp; show A.depth + 1 + 3 * k + 5 < _; omega, by have := r.un; show A.units + 1 + 1 + 3 + 16 * k + 200 < _; omega⟩
section
variable {X : Cx} {pins : List (Addr × Obj)} {σ : L2.St} {H : Hp} {s : Shared}
theorem clo_get {cells : List (Str × Addr)} {names : List (Str × NameKind)} {y : Str} {c : Addr} (hf : ∀ z ∈ names, z.2 = .free → ∃ c, cells.lookup z.1 = some c) (h : (cloFrom cells names []).lookup y = some c) : (y, NameKind.free) ∈ names ∧ cells.lookup y = some c := by
  rcases cloFrom_mem (PySem.mem_of_lookup h) with m | ⟨m, e⟩
  · cases m
  · obtain ⟨c2, h2⟩ := hf _ m rfl
    have h2' : cells.lookup y = some c2 := h2
    rw [h2'] at e
    rw [h2', e]
    exact ⟨m, rfl⟩
theorem clo_has {cells : List (Str × Addr)} {names : List (Str × NameKind)} {y : Str} (hf : ∀ z ∈ names, z.2 = .free → ∃ c, cells.lookup z.1 = some c) (h : (y, NameKind.free) ∈ names) : ∃ c, (cloFrom cells names []).lookup y = some c ∧ cells.lookup y = some c := by
  obtain ⟨c, hc⟩ := mem_lookup (cloFrom_has (cells := cells) (acc := []) h)
  exact ⟨c, hc, (clo_get hf hc).2⟩
/-- the generator's frame is laid -/
theorem gx_begin {scope : Scope} {own : List (Str × Nat)} {fp : List Addr} {code : Value} {cenv : Env} {p : Addr × Obj} {s5 : Shared} {m : Str → Option Value} (I : Inv X pins σ H s) (ok : BlkOk X.N X.env.scope scope own) (hN : X.N.Nodup)
    (nc : ∀ y ∈ scope.names, y.2 ≠ .cell) (hfp : ∀ b ∈ fp, FpOk X pins H b ∧ b < s.heap.objs.size) (ce : cenv = genEnv scope (cloFrom X.env.cells scope.names []) s.heap.objs.size code builtinsNs X.env) (k : ∀ b o, s.heap.get? b = some o → s5.heap.get? b = some o)
    (hn : s5.heap.Ns s.heap.objs.size m) (hb : AllBare s5.gens) (ho : s5.os = s.os) (hp : s5.heap.get? p.1 = some p.2) (hps : s.heap.objs.size < p.1) (hpd : ∀ v, p.2.data ≠ .cell v) : Inv (gxX X s H cenv fp p) [] (wipe σ (own.map (·.2))) H s5 := by
  have hf : ∀ y ∈ scope.names, y.2 = .free → ∃ c, X.env.cells.lookup y.1 = some c := fun y hy e => (ok.free y hy e).elim (fun z => I.ok.has _ (.inl z)) fun z => I.ok.has _ (.inr z)
  have eL : cenv.locals = s.heap.objs.size := by rw [ce]; rfl
  have eC : cenv.cells = cloFrom X.env.cells scope.names [] := by rw [ce]; rfl
  have eS : cenv.scope = scope := by rw [ce]; rfl
  have cl : ∀ {y c}, cenv.cells.lookup y = some c → X.env.cells.lookup y = some c ∧ c < s.heap.objs.size := fun {y c} h => by
    rw [eC] at h
    have h2 := (clo_get hf h).2
    obtain ⟨v, hv⟩ := I.cell y c h2
    exact ⟨h2, hv.lt⟩
  have ok2 : (gxX X s H cenv fp p).Ok := {
    mod := I.ok.mod, bs := I.bs, bsz := Nat.le_trans I.ok.bsz I.sz, funs := I.stack, frf := I.stkFree
    kind := by show cenv.scope.kind = _; rw [eS]; exact ok.kind
    glob := by show cenv.globals = _; rw [ce]; exact I.ok.glob
    blt := by show cenv.builtins = _; rw [ce]; rfl
    above := by show _ ≤ cenv.locals; rw [eL]; exact Nat.le_refl _
    inj := fun y z c h1 h2 => I.ok.inj y z c (cl h1).1 (cl h2).1
    has := fun y hy => by
      have look : ∀ q, cenv.kindOf y = some q → q = .cell ∨ q = .free → ∃ c, cenv.cells.lookup y = some c := fun q h1 h2 => by
        have h3 : scope.names.lookup y = some q := by
          have z : cenv.scope.names.lookup y = some q := h1
          rw [eS] at z
          exact z
        have m1 := PySem.mem_of_lookup h3
        rcases h2 with e | e
        · exact absurd e (nc _ m1)
        · subst e
          obtain ⟨c, h4, _⟩ := clo_has hf m1
          exact ⟨c, by rw [eC]; exact h4⟩
      exact hy.elim (fun z => look _ z (.inl rfl)) fun z => look _ z (.inr rfl)
    cab := fun _ _ z => absurd z Bool.false_ne_true
    hd := I.ok.hd
    frames := Around.frames_deeper I.ok.frames
    stk := .inr ⟨rfl, by show cenv.frame = some cenv.locals; rw [ce]; rfl⟩
    exf := fun b hb => ⟨by show b ≠ cenv.locals; rw [eL]; exact Nat.ne_of_lt (hfp b hb).2, fun y c h => (hfp b hb).1.2.2.2.2.1 y c (cl h).1⟩
    noex := fun b o e hb => (hfp b hb).1.2.2.2.1.elim (fun z => I.ok.noex b o e z) fun z => Nat.lt_irrefl _ (Nat.lt_of_lt_of_le (Heap.lt_size e) (Nat.le_trans I.ok.bsz z))
    exfs := fun b hb z => by
      rcases List.mem_cons.mp (I.stkSub b z) with y | y
      · exact (hfp b hb).1.2.1 y
      · exact (hfp b hb).1.2.2.1 y }
  refine { ok := ok2, os := ho, bare := hb, base := Un.kept k, loc := ⟨m, ?_, ?_⟩, cell := ?_, free := ?_, freeC := ?_, pin := ?_, hok := I.hok.kept k, len := by rw [wipe_length]; exact I.len }
  · show s5.heap.Ns cenv.locals m
    rw [eL]
    exact hn
  · intro i y v e1 e2 e3
    obtain ⟨e2, own2⟩ := wipe_some e2
    have free : scope.names.lookup y = some .free := by
      have no : ∀ {q}, scope.names.lookup y = some q → q = .local ∨ q = .cell → False := fun {q} h1 h2 => by
        have m1 := PySem.mem_of_lookup h1
        rcases h2 with e | e
        · subst e
          rcases ok.own _ m1 (.inl rfl) with o | o
          · obtain ⟨q, hq, he⟩ := List.mem_map.mp o
            have e4 := ok.ix q hq
            have he2 : q.1 = y := he
            rw [he2] at e4
            exact absurd (List.mem_map.mpr ⟨q, hq, nodup_ix hN e4 e1⟩) own2
          · exact absurd (List.mem_of_getElem? e1) o
        · exact absurd e (nc _ m1)
      have z : Vis cenv.scope y := e3
      unfold Vis at z
      rw [eS] at z
      rcases z with z | z | z
      · exact (no z (.inl rfl)).elim
      · exact (no z (.inr rfl)).elim
      · exact z
    obtain ⟨c, h4, h5⟩ := clo_has hf (PySem.mem_of_lookup free)
    obtain ⟨m0, hn0, look⟩ := I.loc
    have vis : Vis X.env.scope y := (ok.free _ (PySem.mem_of_lookup free) rfl).elim (fun z => .inr (.inl z)) fun z => .inr (.inr z)
    obtain ⟨u, ru, q⟩ := look i y v e1 e2 vis
    refine ⟨u, ru, .inr ⟨.inr ?_, c, ?_, ?_⟩⟩
    · show cenv.scope.names.lookup y = some .free
      rw [eS]
      exact free
    · show cenv.cells.lookup y = some c
      rw [eC]
      exact h4
    · rcases q with ⟨z, _⟩ | ⟨_, c2, z1, z2⟩
      · have z : X.env.scope.names.lookup y = some .local := z
        rcases ok.free _ (PySem.mem_of_lookup free) rfl with z2 | z2
        · exact absurd (z.symm.trans z2) (by decide)
        · exact absurd (z.symm.trans z2) (by decide)
      · rw [h5] at z1
        cases z1
        exact z2.keeps k
  · intro y c h
    obtain ⟨v, hv⟩ := I.cell y c (cl h).1
    exact ⟨v, hv.keeps k⟩
  · show H cenv.locals = none
    rw [eL]
    exact I.hok.fresh (Nat.le_refl _)
  · intro y c h
    exact I.freeC y c (cl h).1
  · intro q hq
    have hq2 : q = p := by simpa using hq
    subst hq2
    refine ⟨hp, I.hok.fresh (Nat.le_of_lt hps), ?_, fun z => ?_, hpd⟩
    · show q.1 ≠ cenv.locals
      rw [eL]
      exact Nat.ne_of_gt hps
    · obtain ⟨_, o, e, _⟩ := I.stack.mem z
      exact Nat.lt_irrefl _ (Nat.lt_of_lt_of_le (Heap.lt_size e) (Nat.le_of_lt hps))
/-- nothing of ours has changed -/
structure Idle (s s2 : Shared) : Prop where
  os : s2.os = s.os
  bare : AllBare s2.gens
  keep : ∀ b o, s.heap.get? b = some o → s2.heap.get? b = some o
theorem Inv.idle {s2 : Shared} (I : Inv X pins σ H s) (z : Idle s s2) : Inv X pins σ H s2 := I.call' (ch := []) z.os (Un.kept z.keep) (I.hok.kept z.keep) z.bare (fun b q => absurd q (by simp))
/-- the end of the generator; what it hands out -/
def gxR (Y : Cx) (z : Bool) (Q : VK) : GenEnd := fun _ _ r s1 => r = .ok .next ∧ ∃ σ1 H1, Inv Y [] σ1 H1 s1 ∧ Q (.bl !z) H1
def gxY (Y : Cx) (z : Bool) (Q : VK) : Protocol := fun _ _ v s1 kap => ∃ b σ1 H1, v = .bool b ∧ Inv Y [] σ1 H1 s1 ∧ (b = z → Q (.bl z) H1) ∧ (b ≠ z → ∀ s2, Idle s1 s2 → kap (.send .none) s2)
/-- what a turn asks, W by the turn and a measure -/
def gxW (z : Bool) (J : It) (g : TG) (te : TE) (vs : List Nat) (σ : L2.St) (Q : VK) (W : Nat → Nat → Hp → Prop) : Prop := ∀ i m H2, W i m H2 → (J.stop i H2 ∧ Q (.bl !z) H2) ∨ (J.go i H2 ∧ ∀ x H3, J.yld i H2 x H3 →
  g x (wipe σ vs) H3 fun σ4 H4 => wipe σ4 vs = wipe σ vs ∧ te σ4 H4 fun y H5 => ∃ b, y = .bl b ∧ (b = z → Q (.bl z) H5) ∧ (b ≠ z → ∃ m2, m2 < m ∧ W (i + 1) m2 H5))
theorem gx_over {A : Around} {elt tg iter : Expr} {scope : Scope} {pos : Pos} {it acc : Value} {env : Env} : A.over (.compLoop (.GeneratorExp elt [⟨tg, iter, [], 0⟩] scope pos) 0 it acc env) [] = A.deeper env := rfl
theorem gx_loop {Y : Cx} {Aw : Around} {z : Bool} {Q : VK} {elt tg iter : Expr} {scope : Scope} {pos : Pos} {own : List Nat} {fp : List Addr} {it : Addr} {tn : Nat → Heap → Prop} {J : It} {g : TG} {te : TE} {W : Nat → Nat → Hp → Prop} {σ : L2.St}
    (eA : Y.A = Aw.deeper Y.env) (eX : Y.ex = fp) (eF : Y.outer = Y.outer) (xe : Y.xe = fun _ _ => False) (calm : Y.calm = true) (T : Turn Y.prog Y.w Y.K tg J fp it tn) (pg : PG Y tg g) (pe : PE Y elt te) (hW : gxW z J g te own σ Q W) (apart : ∀ b ∈ fp, ∀ p ∈ Y.pn, p.1 ≠ b) (co : Y.env.scope.isCoroutine = false) :
    ∀ (n i m : Nat) (H1 : Hp) (s0 s1 : Shared), m < n → W i m H1 → Inv Y [] (wipe σ own) H1 s1 → tn i s1.heap → (∀ b ∈ fp, H1 b = none) →
      Seg (model Y.prog Y.w) Aw (gxR Y z Q) (gxY Y z Q) n s0 (.compLoop (.GeneratorExp elt [⟨tg, iter, [], 0⟩] scope pos) 0 (.ref it) .none Y.env) ((model Y.prog Y.w).den (.compLoop (.GeneratorExp elt [⟨tg, iter, [], 0⟩] scope pos) 0 (.ref it) .none Y.env)) [] s1 := by
  intro n
  induction n with
  | zero => exact fun _ m _ _ _ h => absurd h (Nat.not_lt_zero m)
  | succ n ih =>
    intro i m H1 s0 s1 hm w I st nf
    have stat : ∀ {σ2 : L2.St} {H2 : Hp} {s2 : Shared}, Inv Y [] σ2 H2 s2 → (∀ b ∈ fp, H2 b = none) → ∀ b ∈ fp, FpOk Y [] H2 b := fun I2 hn b hb =>
      ⟨hn b hb, (I2.ok.exf b (by rw [eX]; exact hb)).1, I2.ok.exfs b (by rw [eX]; exact hb), .inl (by rw [eX]; exact hb), fun x c e => (I2.ok.exf b (by rw [eX]; exact hb)).2 x c e, fun p hp => apart b hb p (by simpa using hp)⟩
    show Seg _ Aw _ _ _ s0 _ ((compTurn (.GeneratorExp elt [⟨tg, iter, [], 0⟩] scope pos) 0 (.ref it) .none Y.env).onRaise (leaving Y.env)) [] s1
    rw [compTurn_gen]
    rw [Sem.onRaise_eq_wrap]
    refine seg_bind_wrap (wpAny_standAt ?_)
    rcases hW i m H1 w with ⟨stop, q⟩ | ⟨go, step⟩
    · have td := T.done Y rfl rfl rfl calm i [] s1 _ H1 (fun _ _ => False) I (stat I nf) st stop
      refine seg_bind_wrap ?_
      rw [gx_over, ← eA]
      refine wpAny_mono td (fun r s2 y => ?_) (fun _ _ y => y.elim)
      obtain ⟨hr, I2⟩ := y
      subst hr
      exact seg_end (.ok .next) ⟨rfl, _, _, I2, q⟩
    · have ti := T.item Y rfl rfl rfl calm i [] s1 _ H1 (fun _ _ => False) I (stat I nf) st go
      refine seg_bind_wrap ?_
      rw [gx_over, ← eA]
      refine wpAny_mono ti (fun r s2 y => ?_) (fun _ _ y => y.elim)
      obtain ⟨u, hr, h2⟩ := y
      subst hr
      refine seg_bind_wrap ?_
      rw [gx_over, ← eA]
      refine wpAny_mono h2 (fun _ s3 y => ?_) (fun _ _ y => y.elim)
      obtain ⟨x, H3, I3, r3, y3, st3, n3⟩ := y
      have P3 := I3.pinned (stat I3 n3) (T.obj _ _ st3)
      refine seg_bind_wrap ?_
      rw [gx_over, ← eA]
      refine wpAny_mono (pg.run _ s3 _ H3 x u _ P3 r3 (step x H3 y3)) (fun _ s4 y => ?_) (fun _ _ y => by rw [xe] at y; exact y.elim)
      obtain ⟨σ4, H4, I4, hw4, q4⟩ := y
      refine seg_bind_wrap (wpAny_tests_nil ?_)
      simp only [if_true]
      have out : ∀ v, yieldOut Y.env v = yieldValue v := fun v => by
        simp only [yieldOut, co, Bool.false_eq_true, if_false]
      simp only [out]
      rw [Sem.bind_eq_wrap', Sem.bind_eq_wrap']
      rw [Sem.wrap_wrap, Sem.wrap_wrap]
      refine seg_wrap ?_
      rw [gx_over, ← eA]
      refine wpAny_mono (pe.run _ s4 σ4 H4 _ I4 q4) (fun v s5 y => ?_) (fun _ _ y => by rw [xe] at y; exact y.elim)
      obtain ⟨yv, H5, I5, r5, b, eb, hz, hnz⟩ := y
      subst eb
      obtain rfl : v = Value.bool b := r5
      refine seg_at (seg_yield rfl rfl rfl ?_)
      refine ⟨b, σ4, H5, rfl, I5.unpinned (pins := []), hz, fun ne s6 idle => ?_⟩
      obtain ⟨m2, lt2, w2⟩ := hnz ne
      have pin : ∀ c ∈ fp, ∀ o, s3.heap.get? c = some o → s5.heap.get? c = some o ∧ H5 c = none := fun c hc o e =>
        let y := I5.pin (c, o) (List.mem_append_right _ (List.mem_append_right _ (mem_pinsAt hc e)))
        ⟨y.1, y.2.1⟩
      have hl : (wipe σ own).length = σ4.length := by rw [← hw4, wipe_length]
      have I6 : Inv Y [] (wipe σ own) H5 s6 := Inv.idle ((I5.unpinned (pins := [])).weak hl fun j v e => by
        rw [← hw4] at e
        exact (wipe_some e).1) idle
      refine seg_again rfl (ih (i + 1) m2 H5 s6 s6 (by omega) w2 I6 (T.keep _ _ _ st3 fun c hc o e => idle.keep _ _ (pin c hc o e).1) fun c hc => ?_)
      obtain ⟨o, e, _⟩ := T.obj _ _ st3 c hc
      exact (pin c hc o e).2
theorem gx_first {Y : Cx} {Aw : Around} {R : GenEnd} {P : Protocol} {n : Nat} {elt tg iter : Expr} {scope : Scope} {pos : Pos} {it : Addr} {s0 s1 : Shared}
    (self : ∀ (A : Around) (s : Shared) (Q : Value → Shared → Prop) (E : Value → Shared → Prop), s = s1 → Q (.ref it) s → wpAny (model Y.prog Y.w) A (pyIter (.ref it)) Q E s)
    (loop : Seg (model Y.prog Y.w) Aw R P n s0 (.compLoop (.GeneratorExp elt [⟨tg, iter, [], 0⟩] scope pos) 0 (.ref it) .none Y.env) ((model Y.prog Y.w).den (.compLoop (.GeneratorExp elt [⟨tg, iter, [], 0⟩] scope pos) 0 (.ref it) .none Y.env)) [] s1) :
    Seg (model Y.prog Y.w) Aw R P n s0 (.compStart (.GeneratorExp elt [⟨tg, iter, [], 0⟩] scope pos) 0 (.ref it) .none Y.env) ((model Y.prog Y.w).den (.compStart (.GeneratorExp elt [⟨tg, iter, [], 0⟩] scope pos) 0 (.ref it) .none Y.env)) [] s1 := by
  show Seg _ Aw _ _ _ s0 _ ((compStart (.GeneratorExp elt [⟨tg, iter, [], 0⟩] scope pos) 0 (.ref it) .none Y.env).onRaise (leaving Y.env)) [] s1
  unfold compStart
  rw [Sem.onRaise_eq_wrap]
  show Seg _ Aw _ _ _ s0 _ ((ask >>= _).wrap _ _ _ _) [] s1
  refine seg_bind_wrap (wpAny_askSetting ?_)
  split
  · exact seg_again rfl loop
  · first
      | exact seg_bind_wrap (wpAny_rule (seg_bind_wrap (wpAny_standAt (seg_bind_wrap (self _ _ _ _ rfl (seg_again rfl loop))))))
      | (refine seg_bind_wrap (wpAny_rule ?_)
         show Seg _ Aw _ _ _ s0 _ ((standAt iter.pos >>= _).wrap _ _ _ _) [] s1
         exact seg_bind_wrap (wpAny_standAt (seg_bind_wrap (self _ _ _ _ rfl (seg_again rfl loop)))))
end
end Fp

set_option Elab.async false
set_option linter.all false
set_option maxRecDepth 100000
set_option maxHeartbeats 4000000
namespace Fp
open PySem PySem.Spec PyProof.Rows L2
section
variable {Y : Cx} {a : Addr} {g : Nat} {go : Obj} {z : Bool} {Q : VK}
theorem gens_of {s : Shared} {g : Nat} {x : GenState} (h : AllBare s.gens) (hx : x.bare = true) : AllBare (s.setGen g x).gens := allBare_setGen h hx
/-- what the consumer knows ahead of a turn -/
def gxAt (Y : Cx) (A : Around) (a : Addr) (g : Nat) (z : Bool) (Q : VK) (n : Nat) (s : Shared) : Prop :=
  s.heap.IsGen a g ∧ s.heap.NoLimit ∧ g < s.gens.size ∧ AllBare s.gens ∧ s.os = Y.s_0.os ∧
    ∃ gs, s.gens[g]? = some gs ∧ gs.Goes (model Y.prog Y.w) A (gxR Y z Q) (gxY Y z Q) n (.send .none) (s.setGen g .running)
/-- one turn of the consumer: it gets None and is at the end, or b -/
theorem gx_next {A : Around} {E : Value → Shared → Prop} {n : Nat} {s : Shared} {QQ : Option Value → Shared → Prop} (hh : A.handled = none) (hd : A.depth < recursionLimit) (hpn : Y.pn = [(a, go)]) (hgo : ∀ h : Heap, h.get? a = some go → h.IsGen a g)
    (h : gxAt Y A.in1 a g z Q n s)
    (hend : ∀ σ1 H1 s1 s2, Inv Y [] σ1 H1 s1 → Idle s1 s2 → Q (.bl !z) H1 → QQ none s2)
    (hstop : ∀ σ1 H1 s1 s2, Inv Y [] σ1 H1 s1 → Idle s1 s2 → Q (.bl z) H1 → QQ (some (.bool z)) s2)
    (hmore : ∀ s2, (∃ m, n = m + 1 ∧ ∀ s3, s3.gens = s2.gens → s3.os = s2.os → (∀ b o, s2.heap.get? b = some o → s3.heap.get? b = some o) → gxAt Y A.in1 a g z Q m s3) → QQ (some (.bool !z)) s2) :
    wpAny (model Y.prog Y.w) A (pyNext (.ref a)) QQ E s := by
  obtain ⟨hg, hl, hlt, hb, hos, gs, hgs, hgoes⟩ := h
  have at_ : ∀ {σ1 : L2.St} {H1 : Hp} {s1 : Shared}, Inv Y [] σ1 H1 s1 → s1.heap.get? a = some go := fun I => (I.pin (a, go) (by rw [hpn]; simp)).1
  refine GenW.wpAny_gsz (n := g + 1) hlt (wpAny_pyNext_genexpQ (P := fun _ _ s1 => ∃ σ1 H1, Inv Y [] σ1 H1 s1 ∧ Q (.bl !z) H1) hh hl hd hg hgs hgoes (fun v s1 gs2 hbare hv => ?_) (fun s1 hp h2 hk => ?_))
  · intro size
    obtain ⟨b, σ1, H1, rfl, I1, hz, hnz⟩ := hv
    have idle1 : Idle s1 (s1.setGen g gs2) := ⟨rfl, gens_of I1.bare hbare, fun _ _ e => e⟩
    have size1 : g < s1.gens.size := by
      have e := GenW.setGen_size s1 g gs2
      omega
    by_cases hbz : b = z
    · subst hbz
      exact hstop σ1 H1 s1 _ I1 idle1 (hz rfl)
    · have eb : b = !z := by cases b <;> cases z <;> simp_all
      have wake := hnz hbz
      rw [eb]
      cases n with
      | zero => exact (wake s1 ⟨rfl, I1.bare, fun _ _ e => e⟩).elim
      | succ m =>
        refine hmore _ ⟨m, rfl, fun s3 e1 e2 k => ?_⟩
        have k1 : ∀ b o, s1.heap.get? b = some o → s3.heap.get? b = some o := k
        have os3 : s3.os = s1.os := e2
        have gn : s3.gens = (s1.setGen g gs2).gens := e1
        refine ⟨hgo _ (k1 _ _ (at_ I1)), I1.nolimit.keeps k1, by rw [gn, GenW.setGen_size]; exact size1, by rw [gn]; exact idle1.bare, os3.trans I1.os, gs2, by rw [gn]; exact setGen_at size1, ?_⟩
        exact wake (s3.setGen g .running) ⟨os3, gens_of (s := s3) (by rw [gn]; exact idle1.bare) rfl, k1⟩
  · intro size
    obtain ⟨σ1, H1, I1, q⟩ := hp
    exact hend σ1 H1 s1 _ I1 ⟨rfl, gens_of I1.bare rfl, hk⟩ q
theorem gx_all {A : Around} {R : Result → Shared → Prop} (hh : A.handled = none) (hd : A.depth < recursionLimit) (hpn : Y.pn = [(a, go)]) (hgo : ∀ h : Heap, h.get? a = some go → h.IsGen a g)
    (hR : ∀ b σ1 H1 s1 s2, Inv Y [] σ1 H1 s1 → Idle s1 s2 → Q (.bl b) H1 → R (.ok (.ret (.bool b))) s2) : ∀ (n : Nat) (s : Shared), gxAt Y A.in1.in1 a g false Q n s → codeAny (model Y.prog Y.w) A (.builtin "all.loop" ⟨[.ref a], []⟩) R s := by
  intro n
  induction n with
  | zero =>
    intro s h
    refine codeAny_builtin F.entry_all_loop ?_
    rw [Around.under_plainId F.plain_all_loop _]
    show wpAny _ A.in1 (pyNext (.ref a) >>= _) _ _ s
    refine wpAny_bind (gx_next (A := A.in1) hh hd hpn hgo h (fun σ1 H1 s1 s2 I idle q => ?_) (fun σ1 H1 s1 s2 I idle q => ?_) (fun s2 y => ?_))
    · exact wpAny_bind (wpAny_rule (wpAny_pure (hR _ σ1 H1 s1 _ I idle q)))
    · refine wpAny_bind (wpAny_holding (wpAny_truthy_bool (wpAny_bind (wpAny_letGo ?_))))
      simp only [Bool.false_eq_true, if_false]
      exact wpAny_bind (wpAny_rule (wpAny_pure (hR _ σ1 H1 s1 _ I idle q)))
    · obtain ⟨m, e, _⟩ := y
      cases e
  | succ n ih =>
    intro s h
    refine codeAny_builtin F.entry_all_loop ?_
    rw [Around.under_plainId F.plain_all_loop _]
    show wpAny _ A.in1 (pyNext (.ref a) >>= _) _ _ s
    refine wpAny_bind (gx_next (A := A.in1) hh hd hpn hgo h (fun σ1 H1 s1 s2 I idle q => ?_) (fun σ1 H1 s1 s2 I idle q => ?_) (fun s2 y => ?_))
    · exact wpAny_bind (wpAny_rule (wpAny_pure (hR _ σ1 H1 s1 _ I idle q)))
    · refine wpAny_bind (wpAny_holding (wpAny_truthy_bool (wpAny_bind (wpAny_letGo ?_))))
      simp only [Bool.false_eq_true, if_false]
      exact wpAny_bind (wpAny_rule (wpAny_pure (hR _ σ1 H1 s1 _ I idle q)))
    · obtain ⟨m, e, more⟩ := y
      cases e
      refine wpAny_bind (wpAny_holding (wpAny_truthy_bool (wpAny_bind (wpAny_letGo ?_))))
      simp only [Bool.not_false, if_true]
      exact wpAny_pure ⟨plainId_quiet F.plain_all_loop _, ih _ (more _ rfl rfl fun _ _ e => e)⟩
theorem gx_any {A : Around} {R : Result → Shared → Prop} (hh : A.handled = none) (hd : A.depth < recursionLimit) (hpn : Y.pn = [(a, go)]) (hgo : ∀ h : Heap, h.get? a = some go → h.IsGen a g)
    (hR : ∀ b σ1 H1 s1 s2, Inv Y [] σ1 H1 s1 → Idle s1 s2 → Q (.bl b) H1 → R (.ok (.ret (.bool b))) s2) : ∀ (n : Nat) (s : Shared), gxAt Y A.in1.in1 a g true Q n s → codeAny (model Y.prog Y.w) A (.builtin "any.loop" ⟨[.ref a], []⟩) R s := by
  intro n
  induction n with
  | zero =>
    intro s h
    refine codeAny_builtin F.entry_any_loop ?_
    rw [Around.under_plainId F.plain_any_loop _]
    show wpAny _ A.in1 (pyNext (.ref a) >>= _) _ _ s
    refine wpAny_bind (gx_next (A := A.in1) hh hd hpn hgo h (fun σ1 H1 s1 s2 I idle q => ?_) (fun σ1 H1 s1 s2 I idle q => ?_) (fun s2 y => ?_))
    · exact wpAny_bind (wpAny_rule (wpAny_pure (hR _ σ1 H1 s1 _ I idle q)))
    · refine wpAny_bind (wpAny_holding (wpAny_truthy_bool (wpAny_bind (wpAny_letGo ?_))))
      simp only [if_true]
      exact wpAny_bind (wpAny_rule (wpAny_pure (hR _ σ1 H1 s1 _ I idle q)))
    · obtain ⟨m, e, _⟩ := y
      cases e
  | succ n ih =>
    intro s h
    refine codeAny_builtin F.entry_any_loop ?_
    rw [Around.under_plainId F.plain_any_loop _]
    show wpAny _ A.in1 (pyNext (.ref a) >>= _) _ _ s
    refine wpAny_bind (gx_next (A := A.in1) hh hd hpn hgo h (fun σ1 H1 s1 s2 I idle q => ?_) (fun σ1 H1 s1 s2 I idle q => ?_) (fun s2 y => ?_))
    · exact wpAny_bind (wpAny_rule (wpAny_pure (hR _ σ1 H1 s1 _ I idle q)))
    · refine wpAny_bind (wpAny_holding (wpAny_truthy_bool (wpAny_bind (wpAny_letGo ?_))))
      simp only [if_true]
      exact wpAny_bind (wpAny_rule (wpAny_pure (hR _ σ1 H1 s1 _ I idle q)))
    · obtain ⟨m, e, more⟩ := y
      cases e
      refine wpAny_bind (wpAny_holding (wpAny_truthy_bool (wpAny_bind (wpAny_letGo ?_))))
      simp only [Bool.not_true, Bool.false_eq_true, if_false]
      exact wpAny_pure ⟨plainId_quiet F.plain_any_loop _, ih _ (more _ rfl rfl fun _ _ e => e)⟩
end
section
variable {X : Cx}
/-- all(e for t in xs) (z = false), any(..) (z = true); P: where the running def's code table is -/
def tGx (P : Addr) (z : Bool) (wi : TI) (g : TG) (te : TE) (vs : List Nat) : TE := fun σ H Q => wi σ H fun J H1 => H1 P = some (tabx P) ∧ ∃ W : Nat → Nat → Hp → Prop, (∃ m, W 0 m H1) ∧ gxW z J g te vs σ Q W
/-- the generator stands, and whatever its consumer comes to is ours -/
def gxMade (X : Cx) (pins : List (Addr × Obj)) (σ : L2.St) (z : Bool) (Q : VK) (v : Value) (s5 : Shared) : Prop :=
  ∃ (Y : Cx) (a : Addr) (g : Nat) (go : Obj) (n : Nat), v = .ref a ∧ Y.prog = X.prog ∧ Y.w = X.w ∧ Y.pn = [(a, go)] ∧ (∀ h : Heap, h.get? a = some go → h.IsGen a g) ∧ gxAt Y X.A.in1.in1 a g z Q n s5 ∧
    ∀ σ1 H1 s1 s2, Inv Y [] σ1 H1 s1 → Idle s1 s2 → Inv X pins σ H1 s2
theorem gx_make {k : Nat} {c P : Addr} {elt tg iter : Expr} {scope : Scope} {own : List (Str × Nat)} {pos : Pos} {wi : TI} {g : TG} {te : TE} {z : Bool} {pins : List (Addr × Obj)} {σ : L2.St} {H : Hp} {s : Shared} {Q : VK}
    (hc : X.calm = true) (hN : X.N.Nodup) (hr : Room (k + 1) X.A) (TB : GxR.TabB X.base X.mg c P) (code : X.env.code = .ref c) (S : GxS scope) (hi : PI X tg iter wi) (ok : BlkOk X.N X.env.scope scope own)
    (hg : ∀ (s : Shared) (H : Hp) (cv : Value) (C : Addr) (cl : List (Str × Addr)) (fp : List Addr) (p : Addr × Obj), PG (gxX X s H (genEnv scope cl C cv builtinsNs X.env) fp p) tg g)
    (he : ∀ (s : Shared) (H : Hp) (cv : Value) (C : Addr) (cl : List (Str × Addr)) (fp : List Addr) (p : Addr × Obj), Room k (gxX X s H (genEnv scope cl C cv builtinsNs X.env) fp p).A → PE (gxX X s H (genEnv scope cl C cv builtinsNs X.env) fp p) elt te)
    (hs : ∀ x, genFold iter X.env x = pure x) (I : Inv X pins σ H s) (h : tGx P z wi g te (own.map (·.2)) σ H Q) :
    wpAny (model X.prog X.w) X.A (eval (.GeneratorExp elt [⟨tg, iter, [], 0⟩] scope pos) X.env) (gxMade X pins σ z Q) X.xe s := by
  have hf : ∀ y ∈ scope.names, y.2 = .free → ∃ c, X.env.cells.lookup y.1 = some c := fun y hy e => (ok.free y hy e).elim (fun z => I.ok.has _ (.inl z)) fun z => I.ok.has _ (.inr z)
  refine wpAny_GeneratorExp_make S.co (closure_ok hf) S.cell S.dot ok.kind (by have := hr.dp; omega) (thn (hi.run pins s σ H _ I h) fun xv s1 h1 => thn h1 fun itv s2 h2 => ?_) hs
  obtain ⟨it, fp, tn, J, H2, e, I2, T, st2, f2, hP, W, ⟨m0, w0⟩, hW⟩ := h2
  subst e
  refine ⟨I2.nolimit, ?_⟩
  obtain ⟨ps, eP, tP⟩ := tabx_at I2.hok hP
  have cd : PySem.W.CodeHd s2.heap c P := TB.code.keeps I2.bk
  have nP : ∀ b ∈ fp, b ≠ P := fun b hb y => by
    have z := (f2 b hb).1
    rw [y, hP] at z
    cases z
  -- the code is found or made: the table alone may have grown
  have go_on : ∀ (cv : Value) (h3 : Heap) (tk : Nat) (qs : Array Value), Heap.ExtBut P s2.heap h3 → h3.get? P = some { cls := .none, data := .fields qs } → TriplesOk qs.toList →
      wpAny (model X.prog X.w) X.A (builtinsFor X.env.globals X.env.builtins) (fun bi s4 => ∀ h', h'.Ns s4.heap.objs.size (fun y => if y = ".0" then some (Value.ref it) else none) → Heap.SameBut s4.heap.objs.size (s4.heap.push { cls := .type "frame", data := .dict #[] }) h' →
        gxMade X pins σ z Q (.ref h'.objs.size) { s4 with gens := s4.gens.push (.fresh (.compStart (.GeneratorExp elt [⟨tg, iter, [], 0⟩] scope pos) 0 (.ref it) .none (genEnv scope (cloFrom X.env.cells scope.names []) s4.heap.objs.size cv bi X.env))), toks := s4.toks + 1 + 1 + 1, heap := h'.push { cls := .type "generator", data := .fields #[.int s4.gens.size 0, .str "<genexpr>" (s4.toks + 1), .str (X.env.qual ++ "<genexpr>") (s4.toks + 1 + 1)] } }) X.xe { s2 with heap := h3, toks := tk } := by
    intro cv h3 tk qs ext eQ tQ
    have I4 : Inv X pins σ H2 { s2 with heap := h3, toks := tk } := by
      have y := I2.write (t' := tk) (x := P) (e := P) (o := tabx P) (h' := h3) (by rw [hP]; exact True.intro) (.inl rfl) (fun b u hb q => ext b u hb q) ⟨_, eQ⟩ (tabx_ok eQ tQ)
      rw [upd_self hP] at y
      exact y
    obtain ⟨bm, ob, e1, e2, e3, e4, e5, e6, e7, e8⟩ := TB.bm
    refine wpAny_builtinsFor (m := X.mg) (by rw [I4.ok.glob]; exact I4.mod.glob.keeps I4.bk) e1 e2 (I4.bk _ _ e5) e6 e7 e8 ?_
    intro h' hn same
    have szF : h'.objs.size = h3.objs.size + 1 := by
      rw [same.1]
      exact Heap.size_push ..
    have kF : ∀ b o, h3.get? b = some o → h'.get? b = some o := fun b o e => same.extBut b o (Nat.ne_of_lt (Heap.lt_size e)) (Heap.get?_push_of_some _ e)
    generalize hgo : ({ cls := .type "generator", data := .fields #[.int s2.gens.size 0, .str "<genexpr>" (tk + 1), .str (X.env.qual ++ "<genexpr>") (tk + 1 + 1)] } : Obj) = go
    generalize hcode : (Code.compStart (.GeneratorExp elt [⟨tg, iter, [], 0⟩] scope pos) 0 (.ref it) .none (genEnv scope (cloFrom X.env.cells scope.names []) h3.objs.size cv builtinsNs X.env)) = cod
    have fp4 : ∀ b ∈ fp, FpOk X pins H2 b ∧ b < h3.objs.size := fun b hb => by
      obtain ⟨o, e, _⟩ := T.obj _ _ st2 b hb
      exact ⟨f2 b hb, Heap.lt_size (ext b o (nP b hb) e)⟩
    have st4 : tn 0 h3 := T.keep _ _ _ st2 fun b hb o e => ext b o (nP b hb) e
    have isG : ∀ h : Heap, h.get? h'.objs.size = some go → h.IsGen h'.objs.size s2.gens.size := fun h e => ⟨go, _, _, e, by rw [← hgo], by rw [← hgo], by rw [← hgo]⟩
    have atG : (h'.push go).get? h'.objs.size = some go := by
      rw [← hgo]
      exact Heap.get?_push_size _ rfl
    have gD : ∀ v, go.data ≠ .cell v := fun v => by
      rw [← hgo]
      exact fun z => by cases z
    have k5 : ∀ b o, h3.get? b = some o → (h'.push go).get? b = some o := fun b o e => Heap.get?_push_of_some _ (kF b o e)
    have bare5 : AllBare (s2.gens.push (.fresh cod)) := I2.bare.push rfl
    let cenv := genEnv scope (cloFrom X.env.cells scope.names []) h3.objs.size cv builtinsNs X.env
    let Y := gxX X { s2 with heap := h3, toks := tk } H2 cenv fp (h'.objs.size, go)
    have J5 : Inv Y [] (wipe σ (own.map (·.2))) H2 { s2 with gens := s2.gens.push (.fresh cod), toks := tk + 1 + 1 + 1, heap := h'.push go } :=
      gx_begin I4 ok hN S.cell fp4 rfl k5 (hn.keeps fun b o e => Heap.get?_push_of_some _ e) bare5 rfl atG (by show h3.objs.size < h'.objs.size; omega) gD
    refine ⟨Y, h'.objs.size, s2.gens.size, go, m0 + 1, rfl, rfl, rfl, rfl, isG, ⟨isG _ atG, J5.nolimit, by show _ < (s2.gens.push _).size; rw [Array.size_push]; omega, bare5, rfl, .fresh cod, Array.getElem?_push_size .., rfl, ?_⟩, fun σ1 H1 s1 s6 I6 idle => ?_⟩
    · have J6 : Inv Y [] (wipe σ (own.map (·.2))) H2 (({ s2 with gens := s2.gens.push (.fresh cod), toks := tk + 1 + 1 + 1, heap := h'.push go } : Shared).setGen s2.gens.size .running) :=
        Inv.idle J5 ⟨rfl, gens_of bare5 rfl, fun _ _ e => e⟩
      have st6 : tn 0 (h'.push go) := T.keep _ _ _ st4 fun b _ o e => k5 b o e
      have apart : ∀ b ∈ fp, ∀ p ∈ Y.pn, p.1 ≠ b := fun b hb p hp y => by
        have hp2 : p = (h'.objs.size, go) := List.mem_singleton.mp hp
        rw [hp2] at y
        have y2 : h'.objs.size = b := y
        have l := (fp4 b hb).2
        rw [← y2, szF] at l
        exact Nat.lt_irrefl _ (Nat.lt_of_succ_lt l)
      subst hcode
      refine gx_first (Y := Y) (fun A s Q E hs q => T.self A 0 s Q E (by rw [hs]; exact st6) q) ?_
      exact gx_loop (Y := Y) (z := z) (Q := Q) (own := own.map (·.2)) (W := W) (σ := σ) rfl rfl rfl rfl hc T (hg _ _ _ _ _ _ _) (he _ _ _ _ _ _ _ (gx_room hr)) hW apart S.co (m0 + 1) 0 m0 H2 _ _ (Nat.lt_succ_self _) w0 J6 st6 (fun b hb => (f2 b hb).1)
    · exact I4.call' (ch := fp) (idle.os.trans I6.os) (I6.base.trans (Un.kept idle.keep)) (I6.hok.kept idle.keep) idle.bare fun b hb => ⟨(f2 b hb).2.2.2.1, (f2 b hb).2.1, (f2 b hb).2.2.2.2.1, (f2 b hb).2.2.2.2.2⟩
  cases hfound : codeAmong pos ps.toList with
  | none =>
    refine wpAny_genexprCodeX code (cd.code eP tP) (cd.tab eP) hfound fun c2 h3 tk ext _ _ isC _ tab _ => ?_
    obtain ⟨o1, vs, f1, tf, fl, tgc, inF, tx, tt, op, _, _, _, _, _, _, _, _, _, tr, _⟩ := isC
    exact go_on _ h3 tk _ ext tab.2 tr
  | some cv =>
    refine wpAny_genexprCode_hit code (cd.code eP tP) hfound ?_
    exact go_on cv s2.heap s2.toks ps (Heap.ExtBut.refl _ _) eP tP
theorem pe_allG {k : Nat} {c P : Addr} {elt tg iter : Expr} {scope : Scope} {own : List (Str × Nat)} {pos p pos2 : Pos} {wi : TI} {g : TG} {te : TE} (hg0 : Gl X "all") (hm0 : X.mg "all" = none)
    (hc : X.calm = true) (hN : X.N.Nodup) (hr : Room (k + 1) X.A) (TB : GxR.TabB X.base X.mg c P) (code : X.env.code = .ref c) (S : GxS scope) (hi : PI X tg iter wi) (ok : BlkOk X.N X.env.scope scope own)
    (hg : ∀ (s : Shared) (H : Hp) (cv : Value) (C : Addr) (cl : List (Str × Addr)) (fp : List Addr) (p : Addr × Obj), PG (gxX X s H (genEnv scope cl C cv builtinsNs X.env) fp p) tg g)
    (he : ∀ (s : Shared) (H : Hp) (cv : Value) (C : Addr) (cl : List (Str × Addr)) (fp : List Addr) (p : Addr × Obj), Room k (gxX X s H (genEnv scope cl C cv builtinsNs X.env) fp p).A → PE (gxX X s H (genEnv scope cl C cv builtinsNs X.env) fp p) elt te)
    (hs : ∀ x, genFold iter X.env x = pure x := by intro _; rfl) (hst : starEach [.GeneratorExp elt [⟨tg, iter, [], 0⟩] scope pos] X.env = (false, eval (.GeneratorExp elt [⟨tg, iter, [], 0⟩] scope pos) X.env) :: starEach [] X.env := by rfl) :
    PE X (.Call (.Name "all" p) [.GeneratorExp elt [⟨tg, iter, [], 0⟩] scope pos] [] pos2) (tGx P false wi g te (own.map (·.2))) := by
  refine ⟨fun pins s σ H Q I h => ?_⟩
  refine wpAny_Call_Name_kw (ld_blt I hg0 hm0 boot_all ?_)
  refine PyProof.Rows.callWith_builtin1 ?_ hst (by rfl)
  rw [hst]
  show wpAny _ _ (spliced ((false, eval (.GeneratorExp elt [⟨tg, iter, [], 0⟩] scope pos) X.env) :: backTo pos2 (starEach [] X.env))) _ _ s
  refine Calls.spliced_cons (thn (gx_make hc hN hr TB code S hi ok hg he hs I h) fun v s5 y => Calls.spliced_nil ?_)
  obtain ⟨Y, a, gn, go, n, rfl, e1, e2, hpn, isG, hat, back⟩ := y
  refine call_function_tree F.kind_all F.plain_all F.entry_all (F.args_all1 _) ?_
  unfold Builtin.«all»
  refine wpAny_bind (m := oneArg "all" _) (wpAny_pure ?_)
  refine wpAny_bind (wpAny_pyIter_gen hat.1 ?_)
  refine wpAny_pure ⟨plainId_quiet F.plain_all_loop _, ?_⟩
  have fin := gx_all (Y := Y) (Q := Q) (A := X.A) (R := fun r s' => match r with | .ok (.ret v) => EP X pins σ Q v s' | .ok _ => False | .error e => X.xe e s') hr.hd (by have := hr.dp; show X.A.depth < _; omega) hpn isG (fun b σ1 H1 s1 s2 I1 idle q => ⟨.bl b, H1, back σ1 H1 s1 s2 I1 idle, rfl, q⟩) n s5 hat
  rw [e1, e2] at fin
  exact fin
theorem pe_anyG {k : Nat} {c P : Addr} {elt tg iter : Expr} {scope : Scope} {own : List (Str × Nat)} {pos p pos2 : Pos} {wi : TI} {g : TG} {te : TE} (hg0 : Gl X "any") (hm0 : X.mg "any" = none)
    (hc : X.calm = true) (hN : X.N.Nodup) (hr : Room (k + 1) X.A) (TB : GxR.TabB X.base X.mg c P) (code : X.env.code = .ref c) (S : GxS scope) (hi : PI X tg iter wi) (ok : BlkOk X.N X.env.scope scope own)
    (hg : ∀ (s : Shared) (H : Hp) (cv : Value) (C : Addr) (cl : List (Str × Addr)) (fp : List Addr) (p : Addr × Obj), PG (gxX X s H (genEnv scope cl C cv builtinsNs X.env) fp p) tg g)
    (he : ∀ (s : Shared) (H : Hp) (cv : Value) (C : Addr) (cl : List (Str × Addr)) (fp : List Addr) (p : Addr × Obj), Room k (gxX X s H (genEnv scope cl C cv builtinsNs X.env) fp p).A → PE (gxX X s H (genEnv scope cl C cv builtinsNs X.env) fp p) elt te)
    (hs : ∀ x, genFold iter X.env x = pure x := by intro _; rfl) (hst : starEach [.GeneratorExp elt [⟨tg, iter, [], 0⟩] scope pos] X.env = (false, eval (.GeneratorExp elt [⟨tg, iter, [], 0⟩] scope pos) X.env) :: starEach [] X.env := by rfl) :
    PE X (.Call (.Name "any" p) [.GeneratorExp elt [⟨tg, iter, [], 0⟩] scope pos] [] pos2) (tGx P true wi g te (own.map (·.2))) := by
  refine ⟨fun pins s σ H Q I h => ?_⟩
  refine wpAny_Call_Name_kw (ld_blt I hg0 hm0 boot_any ?_)
  refine PyProof.Rows.callWith_builtin1 ?_ hst (by rfl)
  rw [hst]
  show wpAny _ _ (spliced ((false, eval (.GeneratorExp elt [⟨tg, iter, [], 0⟩] scope pos) X.env) :: backTo pos2 (starEach [] X.env))) _ _ s
  refine Calls.spliced_cons (thn (gx_make hc hN hr TB code S hi ok hg he hs I h) fun v s5 y => Calls.spliced_nil ?_)
  obtain ⟨Y, a, gn, go, n, rfl, e1, e2, hpn, isG, hat, back⟩ := y
  refine call_function_tree F.kind_any F.plain_any F.entry_any (F.args_any1 _) ?_
  unfold Builtin.«any»
  refine wpAny_bind (m := oneArg "any" _) (wpAny_pure ?_)
  refine wpAny_bind (wpAny_pyIter_gen hat.1 ?_)
  refine wpAny_pure ⟨plainId_quiet F.plain_any_loop _, ?_⟩
  have fin := gx_any (Y := Y) (Q := Q) (A := X.A) (R := fun r s' => match r with | .ok (.ret v) => EP X pins σ Q v s' | .ok _ => False | .error e => X.xe e s') hr.hd (by have := hr.dp; show X.A.depth < _; omega) hpn isG (fun b σ1 H1 s1 s2 I1 idle q => ⟨.bl b, H1, back σ1 H1 s1 s2 I1 idle, rfl, q⟩) n s5 hat
  rw [e1, e2] at fin
  exact fin
end
end Fp

set_option Elab.async false
set_option linter.all false
namespace Fp
open PySem PySem.Spec PyProof.Rows L2
/-! ### x is True, x is not True -/
def rIsB : R2 := fun x y H Q => ∃ a b, x = .bl a ∧ y = .bl b ∧ Q (.bl (decide (a = b))) H
def rNotB : R2 := fun x y H Q => ∃ a b, x = .bl a ∧ y = .bl b ∧ Q (.bl (!decide (a = b))) H
theorem op_isB {X : Cx} : OpR X (compareOp .Is) rIsB := by
  intro pins s σ H x y v u Q I rx ry h
  obtain ⟨a, b, rfl, rfl, q⟩ := h
  cases (show v = Value.bool a from rx)
  cases (show u = Value.bool b from ry)
  refine wpAny_is_plain (by cases a <;> cases b <;> rfl) (fin_bl I q ?_)
  cases a <;> cases b <;> rfl
theorem op_notB {X : Cx} : OpR X (compareOp .IsNot) rNotB := by
  intro pins s σ H x y v u Q I rx ry h
  obtain ⟨a, b, rfl, rfl, q⟩ := h
  cases (show v = Value.bool a from rx)
  cases (show u = Value.bool b from ry)
  refine wpAny_isNot_plain (by cases a <;> cases b <;> rfl) (fin_bl I q ?_)
  cases a <;> cases b <;> rfl
theorem tcn_go {v : V} {σ : L2.St} {H : Hp} {R : List V → Hp → Prop} (h : R [v] H) : tCons (tC v) tNil σ H R := h
/-- all, any over a walk: R by the turn -/
theorem gx_walk {z : Bool} {J : It} {n : Nat} {G : Hp → Prop} {Y : Nat → Hp → V → Hp → Prop} (w : Walk J n G Y) {g : TG} {te : TE} {vs : List Nat} {σ : L2.St} {H1 : Hp} {Q : VK} (R : Nat → Hp → Prop) (h0 : R 0 H1) (hG : ∀ i H, i ≤ n → R i H → G H)
    (hs : ∀ i x H2 H3 (S : VK), i < n → R i H2 → Y i H2 x H3 → (∀ H5, R (i + 1) H5 → S (.bl !z) H5) → (∀ H5, Q (.bl z) H5 → S (.bl z) H5) → g x (wipe σ vs) H3 fun σ4 H4 => wipe σ4 vs = wipe σ vs ∧ te σ4 H4 S)
    (hd : ∀ H2, R n H2 → Q (.bl !z) H2) : ∃ W : Nat → Nat → Hp → Prop, (∃ m, W 0 m H1) ∧ gxW z J g te vs σ Q W := by
  refine ⟨fun i m H => m = n - i ∧ i ≤ n ∧ R i H, ⟨n, by simp, Nat.zero_le _, h0⟩, ?_⟩
  rintro i m H ⟨rfl, hi, r⟩
  have q := hG i H hi r
  by_cases hlt : i < n
  · refine .inr ⟨w.goes i H hlt q, fun x H3 y => hs i x H H3 _ hlt r (w.yields i H x H3 hlt q y) (fun H5 r5 => ⟨!z, rfl, fun e => ?_, fun _ => ⟨n - (i + 1), by omega, rfl, hlt, r5⟩⟩) (fun H5 q5 => ⟨z, rfl, fun _ => q5, fun e => absurd rfl e⟩)⟩
    cases z <;> cases e
  · have e : i = n := by omega
    subst e
    exact .inl ⟨w.stops H q, hd H r⟩
/-- a mark not below or like the one ahead -/
theorem mark_go {K : PySem.W.Frag} {H : Hp} {p q : Addr} {a b c d : Int} {Q : VK} (hp : SqT K H p [.int a, .int b]) (hq : SqT K H q [.int c, .int d]) (h : a < c ∨ (a = c ∧ b < d)) (k : Q (.bl false) H) : rLeT K (.ref q) (.ref p) H Q := by
  refine ⟨q, p, [c, d], [a, b], rfl, rfl, hq, hp, ?_⟩
  have e : Ob.lexAt (fun j => decide ([c, d].getD j 0 = [a, b].getD j 0)) (fun j => decide ([c, d].getD j 0 ≤ [a, b].getD j 0)) (decide ([c, d].length ≤ [a, b].length)) 0 (min [c, d].length [a, b].length) = false := by
    show (if decide (c = a) = true then (if decide (d = b) = true then true else decide (d ≤ b)) else decide (c ≤ a)) = false
    rcases h with h | ⟨h1, h2⟩
    · rw [if_neg (by simp; omega)]
      simp; omega
    · rw [if_pos (by simp; omega), if_neg (by simp; omega)]
      simp; omega
  rw [e]
  exact k
end Fp

set_option Elab.async false
set_option linter.all false
set_option maxRecDepth 100000
set_option maxHeartbeats 4000000
namespace Fp
open PySem PySem.Spec PyProof.Rows L2
/-! ### a caught exception that is kept in a name, beyond the suite too -/
/-- at a: an exception of the class cls with its dict at d, whatever its own fields say by now -/
def exk (a : Addr) (cls : Value) (d : Option Addr) : HO := .ext fun h => ∃ (oe : Obj) (vs : Array Value), h.get? a = some oe ∧ oe.cls = cls ∧ oe.dict = d ∧ oe.data = .fields vs
theorem exk_at {P : Program} {w : World} {H : Hp} {h : Heap} {a : Addr} {cls : Value} {d : Option Addr} (ok : HOk P w H h) (e : H a = some (exk a cls d)) : ∃ (oe : Obj) (vs : Array Value), h.get? a = some oe ∧ oe.cls = cls ∧ oe.dict = d ∧ oe.data = .fields vs :=
  (show ObjOk P w H h a (.ext fun h => ∃ (oe : Obj) (vs : Array Value), h.get? a = some oe ∧ oe.cls = cls ∧ oe.dict = d ∧ oe.data = .fields vs) from ok a _ e).1
theorem exk_ok {P : Program} {w : World} {H : Hp} {h : Heap} {a : Addr} {cls : Value} {d : Option Addr} {oe : Obj} {vs : Array Value} (e : h.get? a = some oe) (z : Zc cls d oe) (hd : oe.data = .fields vs) : ObjOk P w H h a (exk a cls d) :=
  ⟨⟨oe, vs, e, z.1, z.2, hd⟩, ⟨oe, e⟩, fun _ _ ⟨o, v, e1, e2, e3, e4⟩ k => ⟨o, v, k _ e1, e2, e3, e4⟩⟩
section
variable {X : Cx} {pins : List (Addr × Obj)} {σ : L2.St} {H : Hp} {s : Shared}
/-- such an exception, new to the def, is held from now on -/
theorem track_exc {a : Addr} {oe : Obj} {vs : Array Value} {cls : Value} {d : Option Addr} (I : Inv X pins σ H s) (ha : s.heap.get? a = some oe) (hz : Zc cls d oe) (hd : oe.data = .fields vs) (na : H a = none) (nL : a ≠ X.env.locals)
    (fresh : ∀ o, X.s_0.heap.get? a = some o → a ∈ X.ex) (np : ∀ p ∈ X.pn ++ pins, p.1 ≠ a) : Inv X pins σ (upd H a (exk a cls d)) s := by
  have up : ∀ {b : Addr} {u : HO}, H b = some u → upd H a (exk a cls d) b = some u := fun {b u} z => by
    rw [upd_ne (ne_of_none z na)]
    exact z
  have ck : ∀ x c, X.env.cells.lookup x = some c → c ≠ a := fun x c z y => by
    subst y
    obtain ⟨v, hv⟩ := I.cell x c z
    obtain ⟨o, h1, h2⟩ := hv
    rw [ha] at h1
    cases h1
    rw [hd] at h2
    cases h2
  refine { ok := I.ok, os := I.os, bare := I.bare, loc := I.loc, cell := I.cell, len := I.len, base := ?_, free := ?_, freeC := ?_, pin := ?_, hok := ?_ }
  · exact { keep := I.base.keep, slot := I.base.slot, there := I.base.there
            free := fun b o z n hx => by
              rw [upd_ne (fun y => hx (by subst y; exact fresh o z))]
              exact I.base.free b o z n hx
            tups := fun b xs z => up (I.base.tups b xs z)
            frzs := fun b o u z => up (I.base.frzs b o u z)
            tbls := fun b ps z => by
              obtain ⟨more, y⟩ := I.base.tbls b ps z
              exact ⟨more, up y⟩ }
  · rw [upd_ne (Ne.symm nL)]
    exact I.free
  · intro x c z
    rw [upd_ne (ck x c z)]
    exact I.freeC x c z
  · intro p hp
    obtain ⟨h1, h2, h3⟩ := I.pin p hp
    exact ⟨h1, by rw [upd_ne (np p hp)]; exact h2, h3⟩
  · intro b o z
    by_cases hb : b = a
    · subst hb
      rw [upd_same] at z
      cases z
      exact exk_ok ha hz hd
    · rw [upd_ne hb] at z
      exact ObjOk.stay (I.hok b o z) (fun _ _ _ y => y) (fun _ y => up y) (fun _ _ y => up y)
/-- into the suite, nothing pinned; and out of it -/
theorem into_suite (I : Inv X pins σ H s) (a : Addr) : Inv (X.suite a (X.pn ++ pins)) [] σ H s :=
  { ok := I.ok.suite _ _, os := I.os, bare := I.bare, base := I.base, loc := I.loc, cell := I.cell, free := I.free, freeC := I.freeC, hok := I.hok, len := I.len
    pin := fun p hp => I.pin p (by simpa using hp) }
theorem from_suite {a : Addr} {pn' : List (Addr × Obj)} (I : Inv (X.suite a (X.pn ++ pins)) pn' σ H s) (ok : X.Ok) : Inv X pins σ H s :=
  { ok := ok, os := I.os, bare := I.bare, base := I.base, loc := I.loc, cell := I.cell, free := I.free, freeC := I.freeC, hok := I.hok, len := I.len
    pin := fun p hp => I.pin p (List.mem_append_left _ hp) }
/-- no frame is such an exception -/
theorem not_frame {B : Heap} {l : List Env} {h : Heap} {a : Addr} {o : Obj} {vs : Array Value} (ff : h.FunFrames B l) (e : h.get? a = some o) (d : o.data = .fields vs) : a ∉ frs l := fun m => by
  obtain ⟨_, o2, e2, nf⟩ := ff.mem m
  rw [e] at e2
  cases e2
  exact nf _ d
end
/-- what 'except x as n' wishes, the exception kept -/
def wKeep (K : PySem.W.Frag) (c : Value) (i : Nat) (ts : Addr → Value → Option Addr → TS) (Wout : WX) (D : Ends) : WX := fun cls d σ H =>
  ∃ yes, PySem.W.exmOne K cls c = some yes ∧ (yes = false → Wout cls d σ H) ∧
    (yes = true → ∀ a, H a = none → ts a cls d { nx := fun σ2 H2 => D.nx (σ2.set i none) H2, rt := D.rt, bk := fun σ2 H2 => D.bk (σ2.set i none) H2, ct := fun σ2 H2 => D.ct (σ2.set i none) H2 } (σ.set i (some (.ref a))) (upd H a (exk a cls d)))
section
variable {X : Cx} {x n : Str} {c : Value} {i : Nat} {body suite : List Stmt} {first : Stmt} {np p1 p2 : Pos} {tb : WX → TS} {ts : Addr → Value → Option Addr → TS} {Wout : WX}
theorem ps_try_keep (hs : X.stack = X.env :: X.outer) (hf : X.env.frame = some X.env.locals) (hN : X.N.Nodup) (hi : X.N[i]? = some n) (hln : X.env.kindOf n = some .local) (hc : Names X x c) (tk : Takes X Wout)
    (hb : ∀ (W : WX) (pn : List (Addr × Obj)) (xe : Value → Shared → Prop), Takes (X.tr pn xe) W → PassesOwn (model X.prog X.w) X.A X.env xe → PSs (X.tr pn xe) body (tb W))
    (hsu : ∀ (a : Addr) (cls : Value) (d : Option Addr) (pn : List (Addr × Obj)), PSs (X.suite a pn) (first :: suite) (ts a cls d)) :
    PS X (.Try body [.ExceptHandler (some (.Name x np)) (some n) (first :: suite) p2] [] [] p1) (fun D σ H => tb (wKeep X.K c i ts Wout D) D σ H) := by
  constructor
  intro pins s σ H D I h
  have ok := I.ok
  have ef : X.A.frames = some (X.env :: X.outer) := by
    rw [← hs]
    exact ok.frames
  have isl : Loc X.env.scope n := .inl hln
  apply wpAny_Try_except
  refine wpAny_mono ((hb (wKeep X.K c i ts Wout D) (X.pn ++ pins) (fun e t1 => wpAny (model X.prog X.w) X.A (noteFrame e X.env) (fun _ t2 => wpAny (model X.prog X.w) X.A (setFlight e none) (fun _ t3 =>
    wpAny (model X.prog X.w) X.A (handleBy e X.env [.ExceptHandler (some (.Name x np)) (some n) (first :: suite) p2]) (SP X pins D) X.xe t3) X.xe t2) X.xe t1) (fun u t air => ?caught) PassesOwn.looking).run [] s σ H D (I.toTry _) h) (fun f s1 z => ?ended) (fun _ _ z => z)
  case caught =>
    obtain ⟨a, B, sI, pins2, σ2, H2, cls, d, rfl, J0, nb, up, sky, na, os, ag, yes, hyes, no, go⟩ := air
    have J : Inv X pins σ2 H2 sI := J0.ofTry ok
    have sky2 : Sky B (X.env :: X.outer) a (Zc cls d) X.env.locals t.heap := by
      rw [← hs]
      exact sky
    show wpAny _ X.A (noteFrame (.ref a) X.env) _ _ _
    refine Sky.land Zc.steady ef hf sky2 fun h3 fl3 up3 => ?_
    have J3 : Inv X pins σ2 H2 { t with heap := h3 } := J.landed nb fl3.1 (up.trans up3) os ag
    obtain ⟨oe3, vs3, he3, hz3, hd3⟩ := fl3.there
    have nfr := not_frame fl3.2.2.1 he3 hd3
    have nL : a ≠ X.env.locals := fun z => nfr (List.mem_filterMap.mpr ⟨X.env, by simp, by rw [hf, z]⟩)
    have noB : B.get? a = none := fl3.2.1
    have noI : ∀ o, sI.heap.get? a ≠ some o := fun o z => by
      have y := nb a o z (by rw [hs]; exact nfr)
      rw [noB] at y
      cases y
    have fresh : ∀ o, X.s_0.heap.get? a = some o → a ∈ X.ex := fun o z => Classical.byContradiction fun m => by
      obtain ⟨o2, y⟩ := J.base.there a o z m
      exact noI o2 y
    have apart : ∀ p ∈ X.pn ++ pins, p.1 ≠ a := fun p hp z => by
      have y := (J.pin p hp).1
      rw [z] at y
      exact noI _ y
    have S3 : Inv (X.suite a (X.pn ++ pins)) [] σ2 H2 { t with heap := h3 } := into_suite J3 a
    refine wpAny_handleBy_cons (codeAny_handlers_test ?_) (fun z => nomatch z)
    have isC : PySem.W.Looks (model X.prog X.w) h3 (typeOf (.ref a)) cls := fun A2 Q2 E2 s2 k q => wpAny_typeOf_ref (k _ _ he3) (by rw [hz3.1]; exact q)
    have meets := PySem.W.exm_one (M := model X.prog X.w) J3.kIn isC hyes
    have named : ∀ {Q E : Value → Shared → Prop}, Q c { t with heap := h3 } → wpAny (model X.prog X.w) (X.A.mark (some (.ref a))) (eval (.Name x np) X.env) Q E { t with heap := h3 } := fun {Q E} q => by
      obtain ⟨hg, hdb, m | ⟨m, hv, hn⟩⟩ := hc
      · exact ld_glob (X := X.suite a (X.pn ++ pins)) S3 hg m q hdb
      · exact ld_blt (X := X.suite a (X.pn ++ pins)) S3 hg m hv q hn hdb
    refine named (meets.here ?_)
    match yes, no, go with
    | true, no, go =>
      apply codeAny_handlers_suite_as
      refine HandSPX.lands_againZ fl3 fun h4 fl4 up4 => ?_
      obtain ⟨oe4, vs4, he4, hz4, hd4⟩ := fl4.there
      have J4 : Inv X pins σ2 H2 { t with heap := h4 } := J.landed nb fl4.1 ((up.trans up3).trans up4) os ag
      have K4 := into_suite (track_exc J4 he4 hz4 hd4 na nL fresh apart) a
      refine store_ok (X := X.suite a (X.pn ++ pins)) (v := .ref a) K4 hN hi isl rfl (fun s5 S5 => ?_) (.inr hln)
      refine wpAny_mono ((hsu a cls d (X.pn ++ pins)).run [] s5 _ _ _ S5 (go rfl a na)) (fun f s6 z => ?_) (fun _ _ z => z.elim)
      have out : ∀ {σ6 : L2.St} {H6 : Hp} {Q : Shared → Prop}, Inv (X.suite a (X.pn ++ pins)) [] σ6 H6 s6 → (∀ s7, Inv X pins (σ6.set i none) H6 s7 → Q s7) → wpAny (model X.prog X.w) X.A (do bindName X.env n .none; unbindBehindTheSuite X.env n p2) (fun _ s7 => Q s7) X.xe s6 :=
        fun S6 q => gone_ok (from_suite S6 ok) hN hi hln q
      match f, z with
      | .next, ⟨_, _, S6, q⟩ => exact out S6 fun _ J7 => ⟨_, _, J7, q⟩
      | .brk, ⟨_, _, S6, q⟩ => exact out S6 fun _ J7 => ⟨_, _, J7, q⟩
      | .cont, ⟨_, _, S6, q⟩ => exact out S6 fun _ J7 => ⟨_, _, J7, q⟩
      | .ret u, ⟨_, _, _, S6, r, q⟩ => exact out S6 fun _ J7 => ⟨_, _, _, J7, r, q⟩
    | false, no, go =>
      show wpAny _ X.A (handleBy (.ref a) X.env []) _ _ _
      apply wpAny_handleBy_nil
      obtain ⟨_, _, _, oe, vs, T, oT, _, he, _, hd, h1, _⟩ := id fl3
      unfold PySem.passOn
      refine wpAny_bind (wpAny_field he hd h1 ?_)
      rw [if_neg (show ¬ ((Value.ref T == Value.none) = true) by simp)]
      have on : wpAny (model X.prog X.w) X.A (setFlight (.ref a) X.env.frame) (fun _ t4 => wpAny (model X.prog X.w) X.A (throw (.ref a) : Sem Flow) (SP X pins D) X.xe t4) X.xe { t with heap := h3 } := by
        rw [hf]
        refine HandSPX.setFlight_upZ fl3 fun h4 held up4 => wpAny_throw (tk _ _ ⟨a, B, sI, pins, σ2, H2, cls, d, rfl, J, nb, (up.trans up3).trans up4, .inr (.inr ?_), na, os, ag, no rfl⟩)
        rw [hs]
        exact held
      first
        | exact wpAny_bind on
        | exact wpAny_bind (wpAny_pure (wpAny_bind on))
  case ended =>
    match f, z with
    | .next, ⟨_, _, J, q⟩ => exact wpAny_execs_nil ⟨_, _, J.ofTry ok, q⟩
    | .brk, ⟨_, _, J, q⟩ => exact ⟨_, _, J.ofTry ok, q⟩
    | .cont, ⟨_, _, J, q⟩ => exact ⟨_, _, J.ofTry ok, q⟩
    | .ret u, ⟨_, _, _, J, r, q⟩ => exact ⟨_, _, _, J.ofTry ok, r, q⟩
end
/-! ### isinstance, fields -/
/-- a kept exception of the class at D, its fields fs -/
def ExK (H : Hp) (a D : Addr) (fs : List (Str × V)) : Prop := (fs = [] ∧ H a = some (exk a (.ref D) none)) ∨ ∃ dd, H a = some (exk a (.ref D) (some dd)) ∧ H dd = some (.xd fs)
theorem ExK.inst {X : Cx} {pins : List (Addr × Obj)} {σ : L2.St} {H : Hp} {s : Shared} {a D : Addr} {fs : List (Str × V)} (I : Inv X pins σ H s) (h : ExK H a D fs) : ∃ (oe : Obj) (od : Option Obj), PySem.W.InstAt s.heap a oe D od := by
  rcases h with ⟨_, h⟩ | ⟨dd, h, hd⟩
  · obtain ⟨oe, vs, e, e1, e2, e3⟩ := exk_at I.hok h
    exact ⟨oe, none, ⟨e, e1, by unfold PySem.W.notCls; rw [e3] <;> rfl, by rw [e2]; exact trivial⟩⟩
  · obtain ⟨oe, vs, e, e1, e2, e3⟩ := exk_at I.hok h
    have hx : ObjOk X.prog X.w H s.heap dd (.xd fs) := I.hok dd _ hd
    obtain ⟨mA, hns, _⟩ := hx
    obtain ⟨od, ho, _⟩ := lookIn_ns hns
    exact ⟨oe, some od, ⟨e, e1, by unfold PySem.W.notCls; rw [e3] <;> rfl, by rw [e2]; exact ho⟩⟩
theorem ExK.same {H H' : Hp} {a D : Addr} {fs : List (Str × V)} (h : ExK H a D fs) (e : ∀ b o, H b = some o → H' b = some o) : ExK H' a D fs := by
  rcases h with ⟨z, h⟩ | ⟨dd, h, hd⟩
  · exact .inl ⟨z, e _ _ h⟩
  · exact .inr ⟨dd, e _ _ h, e _ _ hd⟩
def rIsK (K : PySem.W.Frag) : List V → Hp → VK → Prop := fun xs H Q => ∃ (a D : Addr) (fs : List (Str × V)) (c : V) (cv : Value) (b : Bool), xs = [.ref a, c] ∧ ExK H a D fs ∧ ExcC K D ∧ ClsV c cv ∧ PySem.W.kitOne K (.ref D) cv = some b ∧ Q (.bl b) H
theorem clsIn_of {K : PySem.W.Frag} {D : Addr} (C : ExcC K D) : (PySem.W.clsIn K D).isSome = true := by
  obtain ⟨cd, hc, _⟩ := PySem.W.any_some C.hd
  rw [hc]
  rfl
theorem call_isK {X : Cx} : CallR X (.builtin "isinstance") (rIsK X.K) := by
  intro pins s σ H xs us Q I r h
  obtain ⟨a, D, fs, c, cv, b, rfl, hx, C, hcv, e, q⟩ := h
  obtain ⟨u1, u2, rfl, r1, r2⟩ := vals2 r
  obtain rfl : u1 = Value.ref a := r1
  obtain rfl := hcv.eq r2
  obtain ⟨oe, od, J⟩ := hx.inst I
  exact PySem.W.kia_one (PySem.W.kitx_exc (clsIn_of C) C.hg C.hk C.hs C.ha C.hn C.ht C.hm) I.kIn J e (fun z => nomatch z) fun tk => ⟨.bl b, H, I.kept (t' := tk) fun _ _ z => z, rfl, q⟩
def rIsKT (K : PySem.W.Frag) : List V → Hp → VK → Prop := fun xs H Q => ∃ (a D tp : Addr) (fs : List (Str × V)) (cs : List V) (us : List Value) (b : Bool), xs = [.ref a, .ref tp] ∧ ExK H a D fs ∧ ExcC K D ∧ H tp = some (.tup cs) ∧ Paired ClsV cs us ∧ PySem.W.kitAny K (.ref D) us = some b ∧ Q (.bl b) H
theorem call_isKT {X : Cx} : CallR X (.builtin "isinstance") (rIsKT X.K) := by
  intro pins s σ H xs us Q I r h
  obtain ⟨a, D, tp, fs, cs, ws, b, rfl, hx, C, hT, k, e, q⟩ := h
  obtain ⟨u1, u2, rfl, r1, r2⟩ := vals2 r
  obtain rfl : u1 = Value.ref a := r1
  obtain rfl : u2 = Value.ref tp := r2
  obtain ⟨oe, od, J⟩ := hx.inst I
  have hx2 : ObjOk X.prog X.w H s.heap tp (.tup cs) := I.hok tp _ hT
  obtain ⟨_, its, rv, o, h1, h2, n, h3⟩ := hx2
  obtain rfl := ClsV.all k rv
  obtain ⟨oc, od2, dt, sl⟩ := o
  simp only at h2 h3
  subst h2 h3
  exact PySem.W.kia_tup (PySem.W.kitx_exc (clsIn_of C) C.hg C.hk C.hs C.ha C.hn C.ht C.hm) I.kIn J h1 e (fun z => nomatch z) fun tk => ⟨.bl b, H, I.kept (t' := tk) fun _ _ z => z, rfl, q⟩
/-- e.f, e such an exception -/
def tFldK (K : PySem.W.Frag) (f : Str) (te : TE) : TE := fun σ H Q => te σ H fun x H1 => ∃ (a C : Addr) (fs : List (Str × V)) (v : V), x = .ref a ∧ ExK H1 a C fs ∧ XfC K C ∧ PySem.W.findIn K (.ref C) f = some none ∧ fs.lookup f = some v ∧ Q v H1
theorem pe_fldK {X : Cx} {e : Expr} {te : TE} {pos : Pos} {n : Str} (he : PE X e te) (hb : attributeBase e n X.env (eval e X.env) = eval e X.env := by rfl) : PE X (.Attribute e n pos) (tFldK X.K n te) := by
  refine ⟨fun pins s σ H Q I h => ?_⟩
  refine attr_of hb (thn (he.run pins s σ H _ I h) fun u s1 hh => ?_)
  obtain ⟨x, H1, I1, rx, a, C, fs, v, ex, hk, T, hno, l, q⟩ := hh
  subst ex
  obtain rfl : u = Value.ref a := rx
  rcases hk with ⟨z, _⟩ | ⟨dd, ea, ed⟩
  · rw [z] at l
    cases l
  · obtain ⟨oe, vs, e0, e1, e2, e3⟩ := exk_at I1.hok ea
    have hx : ObjOk X.prog X.w H1 s1.heap dd (.xd fs) := I1.hok dd _ ed
    obtain ⟨mA, hns, hr⟩ := hx
    obtain ⟨od, ho, hl⟩ := lookIn_ns hns
    obtain ⟨u, hu, ru⟩ := RelO.some_of (v := v) (o := mA n) (by rw [← l]; exact hr n)
    have J : PySem.W.InstAt s1.heap a oe C (some od) := ⟨e0, e1, by unfold PySem.W.notCls; rw [e3] <;> rfl, by rw [e2]; exact ho⟩
    exact HandSPX.exc_get I1.kIn J T.ga T.gg T.exC (PySem.W.findObj_own T.hdC hno rfl (by rw [hl, hu])) (handed_of ru) ⟨v, H1, I1.tok _, ru, q⟩
end Fp

set_option Elab.async false
set_option linter.all false
set_option maxRecDepth 100000
set_option maxHeartbeats 4000000
namespace Fp
open PySem PySem.Spec PyProof.Rows L2
/-! ### defs whose code is known: generator expressions in them; a law's end with code tables and sys.modules -/
/-- as Fun, the code's value told -/
structure FunC (K : PySem.W.Frag) (x qual : Str) (st : Stmt) (f : Addr) (fd : FuncData) (cv : Value) : Prop where
  ex : ∃ (oc : Value) (od : Option Addr) (kV doc pm : Value) (an : Option Addr) (ct : Value) (osl : Array (Option Value)), fd = PySem.W.fnOf x qual (defArgs st) (defBody st) (defScope st) .none kV doc pm an cv ct ∧ K.lookup f = some ⟨oc, od, .func fd, osl⟩ ∧ PySem.W.codeIn K cv qual = true
  kp : PySem.W.keepIn K (.ref f) = true
theorem FunC.fun {K : PySem.W.Frag} {x qual : Str} {st : Stmt} {f : Addr} {fd : FuncData} {cv : Value} (F : FunC K x qual st f fd cv) : Fun K x qual st f fd := by
  obtain ⟨oc, od, kV, doc, pm, an, ct, osl, e, l, c⟩ := F.ex
  exact ⟨⟨oc, od, kV, doc, pm, an, cv, ct, osl, e, l, c⟩, F.kp⟩
theorem funC_mk {K : PySem.W.Frag} {x qual : Str} {st : Stmt} {f : Addr} {oc : Value} {od an : Option Addr} {osl : Array (Option Value)} {kV doc pm cv ct : Value} (l : K.lookup f = some ⟨oc, od, .func (PySem.W.fnOf x qual (defArgs st) (defBody st) (defScope st) .none kV doc pm an cv ct), osl⟩) (c : PySem.W.codeIn K cv qual = true)
    (k : PySem.W.keepIn K (.ref f) = true) : FunC K x qual st f (PySem.W.fnOf x qual (defArgs st) (defBody st) (defScope st) .none kV doc pm an cv ct) cv := ⟨⟨oc, od, kV, doc, pm, an, ct, osl, rfl, l, c⟩, k⟩
section
variable {P : Program} {w : World} {K : PySem.W.Frag} {mg : Str → Option Value} {base : Heap} {x qual : Str} {st : Stmt} {f : Addr} {fd : FuncData} {N ps : List Str} {k : Nat} {sp : Sp} {cv : Value}
theorem FunC.ok (F : FunC K x qual st f fd cv) (S : FnScope N ps (defScope st)) (len : ∀ vs H Q E, sp vs H Q E → vs.length = ps.length)
    (body : ∀ (A : Around) (outer : List Env) (s : Shared) (H : Hp) (vs : List V) (Q : VK) (E : XK), Room k (A.deeper (envOfC qual (defScope st) s.heap.objs.size f cv)) → sp vs H Q E →
      ∃ t, PSs (cxOf CX0 P w K mg base N qual (defScope st) f cv A outer s H E).nox (defBody st) t ∧ t { nx := fun _ H' => Q .non H', rt := Q } (start N vs) H) : FnOk P w K mg base CX0 (k + 1) f fd ps sp := by
  obtain ⟨oc, od, kV, doc, pm, an, ct, osl, rfl, l, c⟩ := F.ex
  refine fn_of l c S len fun A outer s H vs Q E hr hsp => ?_
  obtain ⟨t, h, q⟩ := body A outer s H vs Q E hr hsp
  exact ⟨t, h.nox, q⟩
theorem FunC.okX (F : FunC K x qual st f fd cv) (S : FnScope N ps (defScope st)) (len : ∀ vs H Q E, sp vs H Q E → vs.length = ps.length)
    (body : ∀ (A : Around) (outer : List Env) (s : Shared) (H : Hp) (vs : List V) (Q : VK) (E : XK), Room k (A.deeper (envOfC qual (defScope st) s.heap.objs.size f cv)) → sp vs H Q E →
      ∃ t, PSs (cxOf (L2.CX P w) P w K mg base N qual (defScope st) f cv A outer s H E) (defBody st) t ∧ t { nx := fun _ H' => Q .non H', rt := Q } (start N vs) H) : FnOk P w K mg base (L2.CX P w) (k + 1) f fd ps sp := by
  obtain ⟨oc, od, kV, doc, pm, an, ct, osl, rfl, l, c⟩ := F.ex
  exact fn_of l c S len fun A outer s H vs Q E hr hsp => body A outer s H vs Q E hr hsp
end
/-- where the table of a code object of the written part is -/
def tabOf (K : PySem.W.Frag) (cv : Value) : Option Addr := match cv with
  | .ref c => (match K.lookup c with
    | some ⟨_, _, .fields vs, _⟩ => (match vs.toList.drop 11 with
      | .ref P :: _ => some P
      | _ => none)
    | _ => none)
  | _ => none
theorem tabOf_spec {K : PySem.W.Frag} {cv : Value} {P : Addr} (h : tabOf K cv = some P) : ∃ c oc od vs osl, cv = .ref c ∧ K.lookup c = some ⟨oc, od, .fields vs, osl⟩ ∧ vs[11]? = some (.ref P) := by
  unfold tabOf at h
  split at h
  · rename_i c
    split at h
    · rename_i oc od vs osl e
      split at h
      · rename_i Q r e2
        cases h
        refine ⟨c, oc, od, vs, osl, rfl, e, ?_⟩
        have z : (vs.toList.drop 11)[0]? = some (.ref P) := by rw [e2]; rfl
        rw [List.getElem?_drop] at z
        simpa using z
      · cases h
    · cases h
  · cases h
/-- a def of the top, its code's table at P, outside of the written part -/
structure TabAt (K : PySem.W.Frag) (q : Program) (mg : Str → Option Value) (c P : Addr) : Prop where
  ex : ∃ (d : DefRec) (f : Addr) (oc : Value) (od : Option Addr) (fd : FuncData) (osl : Array (Option Value)), d ∈ recsOf q ∧ mg d.name = some (.ref f) ∧ K.lookup f = some ⟨oc, od, .func fd, osl⟩ ∧ fd.code = .ref c
  tab : tabOf K (.ref c) = some P
  out : K.lookup P = none
theorem rec_of {q : Program} {n : Str} (h : ((recsOf q).any fun d => d.name == n) = true) : ∃ d ∈ recsOf q, d.name = n := by
  obtain ⟨d, hd, e⟩ := List.any_eq_true.mp h
  exact ⟨d, hd, eq_of_beq e⟩
theorem tabAt_mk {K : PySem.W.Frag} {q : Program} {mg : Str → Option Value} {n : Str} {f c P : Addr} {oc : Value} {od : Option Addr} {fd : FuncData} {osl : Array (Option Value)} {cv : Value} (h : ((recsOf q).any fun d => d.name == n) = true) (hm : mg n = some (.ref f)) (l : K.lookup f = some ⟨oc, od, .func fd, osl⟩) (hc : fd.code = cv)
    (ht : tabOf K cv = some P) (ho : K.lookup P = none) : ∃ c, cv = .ref c ∧ TabAt K q mg c P := by
  obtain ⟨d, hd, e⟩ := rec_of h
  obtain ⟨c, _, _, _, _, rfl, _, _⟩ := tabOf_spec ht
  exact ⟨c, rfl, ⟨d, f, oc, od, fd, osl, hd, by rw [e]; exact hm, l, hc⟩, ht, ho⟩
theorem tab_facts {K : PySem.W.Frag} {q : Program} {mg mb : Str → Option Value} {loose : List Str} {mean : ExcName → Option Value} {h : Heap} {c P : Addr} (KX : K.In h) (T : Top q loose mean mg mb h) (t : TabAt K q mg c P) :
    h.get? P = some { cls := .none, data := .fields #[] } ∧ PySem.W.CodeHd h c P := by
  obtain ⟨d, f, oc, od, fd, osl, hd, hm, l, hc⟩ := t.ex
  obtain ⟨a, o, fd2, c2, P2, e1, e2, e3, e4, isC, tabA⟩ := T.tab d hd
  rw [hm] at e1
  cases e1
  have e5 := KX _ _ l
  rw [e2] at e5
  cases e5
  have e3' : fd = fd2 := by
    have z : Data.func fd = Data.func fd2 := e3
    cases z
    rfl
  subst e3'
  rw [hc] at e4
  cases e4
  obtain ⟨c3, oc3, od3, vs3, osl3, e6, e7, e8⟩ := tabOf_spec t.tab
  cases e6
  obtain ⟨⟨o4, vs4, f1, f2, f3, f4⟩, f5⟩ := tabA
  have e9 := KX _ _ e7
  rw [f1] at e9
  cases e9
  have e10 : vs4 = vs3 := by
    have z : Data.fields vs3 = Data.fields vs4 := f3
    cases z
    rfl
  subst e10
  rw [e8] at f4
  cases f4
  exact ⟨f5, PySem.W.CodeHd.of isC ⟨⟨_, vs4, f1, f2, f3, e8⟩, f5⟩⟩
/-- sys.modules stands in the ground -/
def SysB (base : Heap) : Prop := ∃ mm, base.Ns sysModules mm
theorem SysB.nolist {X : Cx} {pins : List (Addr × Obj)} {σ : L2.St} {H : Hp} {s : Shared} (y : SysB X.base) (I : Inv X pins σ H s) {o : Obj} {xs : Array Value} {n : Nat} (e : s.heap.get? sysModules = some o) (d : o.data = .seq xs n) : False := by
  obtain ⟨mm, o2, es, ep, e1, e2, _⟩ := y
  have z := I.bk _ _ e1
  rw [e] at z
  cases z
  rw [d] at e2
  cases e2
theorem lawGT {P : Program} {w : World} {K : PySem.W.Frag} {mg mb : Str → Option Value} {lv : Nat} {fa a : Addr} {cs : List (Addr × Addr)} {fd : FuncData} {x : Str} {sp : Sp} {s1 : Shared} {vs : List Value} {ns : List Int}
    (KX : K.In s1.heap) (hns : s1.heap.Ns mainGlobals mg) (hb : s1.heap.Ns builtinsNs mb) (hbb : ∀ x : Str, x ≠ "__name__" → mb x = bootBuiltins x) (hlim : s1.heap.NoLimit) (hsys : SysB s1.heap) (hg : s1.gens = #[])
    (hT : ∀ p ∈ cs, s1.heap.get? p.2 = some { cls := .none, data := .fields #[] }) (nT : ∀ p ∈ cs, K.lookup p.2 = none) (C : ∀ p ∈ cs, PySem.W.CodeHd s1.heap p.1 p.2)
    (hbm : ∃ (bm : Addr) (ob : Obj), mg "__builtins__" = some (.ref bm) ∧ bm ≠ builtinsNs ∧ s1.heap.get? bm = some ob ∧ ob.cls = .type "module" ∧ ob.dict = some builtinsNs ∧ ob.data = .plain)
    (ha : s1.heap.get? a = some { cls := .type "list", data := .seq vs.toArray }) (hi : IntsAre vs ns) (hl : ns.length ≤ sizeLine) (hr : Room lv callerA)
    (G : ∀ base : Heap, K.In base → base.Ns mainGlobals mg → SysB base → (∀ p ∈ cs, GxR.TabB base mg p.1 p.2) → FnG P w K mg base CX0 lv fa fd [x] sp) (hbind : ∀ (s : Shared) (u : Value), BindsTo s fd ⟨[u], []⟩ [(x, u)])
    (hsp : ∀ H : Hp, (∀ p ∈ cs, H p.2 = some (tabx p.2)) → SqL K H a (ns.map V.int) → sp [.ref a] H (fun v H2 => v = .bl true ∧ ∀ p ∈ cs, H2 p.2 = some (tabx p.2)) fun _ _ _ => False) :
    codeAny (model P w) callerA (.call (.ref fa) ⟨[.ref a], []⟩) (fun r s2 => r = .ok (.ret (.bool true)) ∧ OldK s1.heap s2.heap ∧ s2.os = s1.os ∧ AllBare s2.gens) s1 := by
  have rv := vals_ints hi
  have lenV := hi.length
  have tabs : ∀ b ∈ cs.map (·.2), s1.heap.get? b = some { cls := .none, data := .fields #[] } := fun b hb2 => by
    obtain ⟨p, hp, e⟩ := List.mem_map.mp hb2
    rw [← e]
    exact hT p hp
  have inT : ∀ p ∈ cs, p.2 ∈ cs.map (·.2) := fun p hp => List.mem_map.mpr ⟨p, hp, rfl⟩
  have aT : a ∉ cs.map (·.2) := fun z => by
    have y := tabs a z
    rw [ha] at y
    have y2 : Data.seq vs.toArray _ = Data.fields #[] := congrArg Obj.data (Option.some.inj y)
    cases y2
  have main : ∀ H : Hp, (∀ p ∈ cs, H p.2 = some (tabx p.2)) → (∀ b, H b = none ∨ b ∈ cs.map (·.2) ∨ ∃ ob xs, H b = some (.frz ob (.lst xs))) → SqL K H a (ns.map V.int) → HOk P w H s1.heap → (∀ b, H b ≠ none → b = a ∨ b ∈ cs.map (·.2)) → (H a ≠ none → K.lookup a = none) →
      codeAny (model P w) callerA (.call (.ref fa) ⟨[.ref a], []⟩) (fun r s2 => r = .ok (.ret (.bool true)) ∧ OldK s1.heap s2.heap ∧ s2.os = s1.os ∧ AllBare s2.gens) s1 := by
    intro H hH hO hS hok hA hK
    have free : ∀ {b : Addr} {o : Obj}, s1.heap.get? b = some o → (∀ xs n, o.data ≠ .seq xs n) → o.data ≠ .fields #[] → H b = none := fun {b o} e d1 d2 => by
      match q : H b with
      | none => rfl
      | some u =>
        rcases hA b (by rw [q]; simp) with z | z
        · rw [z, ha] at e
          cases e
          exact absurd rfl (d1 _ _)
        · rw [tabs b z] at e
          cases e
          exact absurd rfl d2
    have ground : ∀ {b : Addr} {o : Obj}, s1.heap.get? b = some o → (∀ xs n, o.data ≠ .seq xs n) → o.data ≠ .fields #[] → (hidT s1.heap H).get? b = some o := fun e d1 d2 => hidT_get e (free e d1 d2)
    have dct : ∀ {b : Addr} {o : Obj} {es : Array DictEntry} {ep : Nat}, s1.heap.get? b = some o → o.data = .dict es ep → (hidT s1.heap H).get? b = some o := fun {b o es ep} e d => ground e (fun xs n z => by rw [d] at z; cases z) (fun z => by rw [d] at z; cases z)
    have nsK : ∀ {b : Addr} {m : Str → Option Value}, s1.heap.Ns b m → (hidT s1.heap H).Ns b m := fun {b m} z => by
      obtain ⟨o, es, ep, e1, d1, r1⟩ := z
      exact ⟨o, es, ep, dct e1 d1, d1, r1⟩
    have kinB : K.In (hidT s1.heap H) := fun b o e => hidT_get (KX b o e) (by
      match q : H b with
      | none => rfl
      | some u =>
        rcases hA b (by rw [q]; simp) with z | z
        · rw [z] at e q
          rw [hK (by rw [q]; simp)] at e
          cases e
        · obtain ⟨p, hp, ep⟩ := List.mem_map.mp z
          rw [← ep, nT p hp] at e
          cases e)
    have M : Mod K mg (hidT s1.heap H) := ⟨kinB, nsK hns, ⟨mb, nsK hb, hbb⟩, by obtain ⟨mc, h1, h2⟩ := hlim; exact ⟨mc, nsK h1, h2⟩⟩
    have sysB : SysB (hidT s1.heap H) := by
      obtain ⟨mm, h1⟩ := hsys
      exact ⟨mm, nsK h1⟩
    have TB : ∀ p ∈ cs, GxR.TabB (hidT s1.heap H) mg p.1 p.2 := fun p hp => by
      have eT := hT p hp
      refine ⟨?_, ?_, fun z => ?_⟩
      · obtain ⟨o, us, file, tf, flags, tg, inF, text, tt, e1, r1, r2, r3, r4⟩ := C p hp
        refine ⟨o, us, file, tf, flags, tg, inF, text, tt, ground e1 (fun xs n z => by rw [r2] at z; cases z) (fun z => ?_), r1, r2, r3, r4⟩
        rw [r2] at z
        cases z
        simp at r3
      · obtain ⟨bm, ob, b1, b2, b3, b4, b5, b6⟩ := hbm
        refine ⟨bm, ob, b1, b2, fun y => ?_, fun y => ?_, ground b3 (fun xs n z => by rw [b6] at z; cases z) (fun z => by rw [b6] at z; cases z), b4, b5, b6⟩
        · obtain ⟨o, es, ep, e, d, _⟩ := hns
          rw [y, e] at b3
          cases b3
          rw [d] at b6
          cases b6
        · rw [y, eT] at b3
          cases b3
          cases b6
      · obtain ⟨o, es, ep, e, d, _⟩ := hns
        rw [z, eT] at e
        cases e
        cases d
    have nofr : ∀ {b : Addr}, ¬ b ∈ frs [] := fun {b} z => by
      have z2 : b ∈ ([] : List Addr) := z
      simp at z2
    have e0 : Env0 P w K mg (hidT s1.heap H) callerA [] s1 H := ⟨rfl, M, fun b o z => of_hidT z, Nat.le_of_eq (hidT_size _ _), trivial, fun b z => absurd z nofr, hok, .of_eq hg⟩
    refine codeAny_mono ((G _ kinB (nsK hns) sysB TB).runs callerA [] s1 H ⟨[.ref a], []⟩ [.ref a] [.ref a] _ _ rfl hr e0 (hbind s1 (.ref a)) (.cons rfl .nil) (hsp H hH hS)) fun res s2 z => ?_
    match res, z with
    | .error e, z => exact False.elim z
    | .ok .next, z => exact False.elim z
    | .ok .brk, z => exact False.elim z
    | .ok .cont, z => exact False.elim z
    | .ok (.ret u), z =>
      obtain ⟨v, H2, os, bare, un, hok2, r2, q⟩ := z
      obtain ⟨qv, qT⟩ := q
      subst qv
      obtain rfl : u = Value.bool true := r2
      have kept : ∀ b o, b ∉ cs.map (·.2) → s1.heap.get? b = some o → s2.heap.get? b = some o := fun b o nb e => by
        match q : H b with
        | none => exact un.keep b o e q nofr (by simp)
        | some u =>
          rcases hO b with z | z | ⟨ob, xs, z⟩
          · rw [q] at z; cases z
          · exact absurd z nb
          · obtain ⟨g1, _⟩ := hok b _ z
            obtain ⟨g2, _⟩ := hok2 b _ (un.frzs b ob _ z)
            rw [e] at g1; cases g1
            exact g2
      -- a table: it may have grown
      have grown : ∀ p ∈ cs, ∃ more : Array Value, s2.heap.get? p.2 = some { cls := .none, data := .fields more } := fun p hp => by
        obtain ⟨more, e, _⟩ := tabx_at hok2 (qT p hp)
        exact ⟨more, e⟩
      refine ⟨rfl, ⟨fun b o e => ?_, fun b o e => ?_⟩, os, bare⟩
      · by_cases hbt : b ∈ cs.map (·.2)
        · obtain ⟨p, hp, ep⟩ := List.mem_map.mp hbt
          obtain ⟨more, hm⟩ := grown p hp
          rw [← ep] at e ⊢
          rw [hT p hp] at e
          cases e
          exact .inr (.inl ⟨((C p hp).tab (hT p hp)).isCodeTable, rfl, #[], more, rfl, by rw [Array.empty_append]; exact hm⟩)
        · exact .inl (kept b o hbt e)
      · by_cases hbt : b ∈ cs.map (·.2)
        · obtain ⟨p, hp, ep⟩ := List.mem_map.mp hbt
          obtain ⟨more, hm⟩ := grown p hp
          rw [← ep]
          exact ⟨_, hm⟩
        · exact ⟨o, kept b o hbt e⟩
  have nilT : TriplesOk (#[] : Array Value).toList := True.intro
  match hk : K.lookup a with
  | some o =>
    have e := KX a o hk
    rw [ha] at e
    cases e
    have yes : ∀ {b : Addr}, b ∈ cs.map (·.2) → (if b ∈ cs.map (·.2) then some (tabx b) else none) = some (tabx b) := fun z => if_pos z
    have nay : ∀ {b : Addr}, b ∉ cs.map (·.2) → (if b ∈ cs.map (·.2) then some (tabx b) else none) = none := fun z => if_neg z
    refine main (fun b => if b ∈ cs.map (·.2) then some (tabx b) else none) (fun p hp => yes (inT p hp)) (fun b => ?_) (.inr ⟨_, vs.toArray, _, hk, rfl, rfl, rfl, by rw [List.size_toArray, lenV]; exact hl, by simpa using rv⟩) (fun b u z => ?_) (fun b z => ?_) fun z => absurd (nay aT) z
    · by_cases h : b ∈ cs.map (·.2)
      · exact .inr (.inl h)
      · exact .inl (nay h)
    · by_cases h : b ∈ cs.map (·.2)
      · have z2 := (yes h).symm.trans z
        cases z2
        exact tabx_ok (tabs b h) nilT
      · have z2 := (nay h).symm.trans z
        cases z2
    · by_cases h : b ∈ cs.map (·.2)
      · exact .inr h
      · exact absurd (nay h) z
  | none =>
    let F0 : HO := HO.frz { cls := .type "list", data := .seq vs.toArray } (.lst (ns.map V.int))
    have y1 : ∀ {b : Addr}, b = a → (if b = a then some F0 else if b ∈ cs.map (·.2) then some (tabx b) else none) = some F0 := fun z => if_pos z
    have y2 : ∀ {b : Addr}, b ≠ a → b ∈ cs.map (·.2) → (if b = a then some F0 else if b ∈ cs.map (·.2) then some (tabx b) else none) = some (tabx b) := fun z h => (if_neg z).trans (if_pos h)
    have y3 : ∀ {b : Addr}, b ≠ a → b ∉ cs.map (·.2) → (if b = a then some F0 else if b ∈ cs.map (·.2) then some (tabx b) else none) = none := fun z h => (if_neg z).trans (if_neg h)
    refine main (fun b => if b = a then some F0 else if b ∈ cs.map (·.2) then some (tabx b) else none) (fun p hp => y2 (fun z => aT (by rw [← z]; exact inT p hp)) (inT p hp)) (fun b => ?_) (.inl (.inr ⟨_, y1 rfl⟩)) (fun b u z => ?_) (fun b z => ?_) fun _ => hk
    · by_cases h : b = a
      · exact .inr (.inr ⟨_, _, y1 h⟩)
      · by_cases h2 : b ∈ cs.map (·.2)
        · exact .inr (.inl h2)
        · exact .inl (y3 h h2)
    · by_cases h : b = a
      · have z2 := (y1 h).symm.trans z
        cases z2
        subst h
        exact ⟨ha, by rw [List.length_map]; exact hl, vs, _, rv, ha⟩
      · by_cases h2 : b ∈ cs.map (·.2)
        · have z2 := (y2 h h2).symm.trans z
          cases z2
          exact tabx_ok (tabs b h2) nilT
        · have z2 := (y3 h h2).symm.trans z
          cases z2
    · by_cases h : b = a
      · exact .inl h
      · by_cases h2 : b ∈ cs.map (·.2)
        · exact .inr h2
        · exact absurd (y3 h h2) z
theorem walkGT {l : PySem.W.OpenLaw} {n lv : Nat} {q : Program} {loose : List Str} {XP : (Str → Option Value) → Heap → Prop} {YP : World → Heap → Prop} {d : DefRec} {K : Params → PySem.W.Frag} {x : Str}
    (hn : l.most = some n) (hn2 : n ≤ sizeLine) (hdf : d.params.defaults = []) (hr : Room lv callerA) (hY : ∀ (w : World) (h : Heap), YP w h → (K w.params).In h) (hseer : importsNone q = true)
    (G : ∀ (w : World) (mg : Str → Option Value) (fa : Addr) (h : Heap), (K w.params).In h → h.Ns mainGlobals mg → mg d.name = some (.ref fa) →
      ∃ (fd : FuncData) (cs : List (Addr × Addr)) (sp : Sp), (∀ p ∈ cs, TabAt (K w.params) q mg p.1 p.2) ∧ (∀ (s : Shared) (u : Value), BindsTo s fd ⟨[u], []⟩ [(x, u)]) ∧
        (∀ (H : Hp) (a : Addr) (ns : List Int), ns.length ≤ n → (∀ p ∈ cs, H p.2 = some (tabx p.2)) → SqL (K w.params) H a (ns.map V.int) → sp [.ref a] H (fun v H2 => v = .bl true ∧ ∀ p ∈ cs, H2 p.2 = some (tabx p.2)) fun _ _ _ => False) ∧
        ∀ base : Heap, (K w.params).In base → base.Ns mainGlobals mg → SysB base → (∀ p ∈ cs, GxR.TabB base mg p.1 p.2) → FnG l.prog w (K w.params) mg base CX0 lv fa fd [x] sp) :
    PySem.W.WalkO q loose XP YP l.row.toRowW d [] (fun f vs => PySem.call f vs) := by
  refine Att.attach_call hn hdf fun w s0 s1 mg mb fa o pm cd doc a vs ns Gr Y ho hd hcd hmg hobj hints hlen hg => ?_
  have KX := hY w _ Y
  obtain ⟨fd, cs, sp, hC, hb, hsp, hF⟩ := G w mg fa _ KX Gr.T.g hmg
  have seer := Gr.T.seer hseer
  obtain ⟨mm, hmods, _⟩ := seer.mods
  exact lawGT KX Gr.T.g Gr.T.b Gr.T.builtins Gr.T.nolimit ⟨mm, hmods⟩ hg (fun p hp => (tab_facts KX Gr.T (hC p hp)).1) (fun p hp => (hC p hp).out) (fun p hp => (tab_facts KX Gr.T (hC p hp)).2) Gr.T.bmain hobj hints (Nat.le_trans hlen hn2) hr hF hb fun H hH hS => hsp H a ns hlen hH hS
end Fp

set_option Elab.async false
set_option linter.all false
set_option maxRecDepth 100000
set_option maxHeartbeats 4000000
namespace Fp
open PySem PySem.Spec PyProof.Rows L2
/-! ### C(e, ..) as a value: an own exception over ValueError, kept as it stands -/
/-- C(e, ..), C's own __init__ keeping sp; the exception stands in the heap as exo, its fields as exd -/
def tMkV (C : Addr) (sp : Sp) (dvs : List V) (ta : TA) : TE := fun σ H Q => ta σ H fun vs H1 => vs.length ≤ 1000 ∧ ∀ a, H1 a = none → sp (.ref a :: (vs ++ dvs)) (upd H1 a (exo a C none)) (fun v H2 => v = .non ∧ Q (.ref a) H2) (fun _ _ _ => False)
section
variable {X : Cx}
theorem pe_mkV {CX : CXT} {x : Str} {C fI : Addr} {k : Nat} {fd : FuncData} {ps : List Str} {sp : Sp} {ds : List Value} {dvs : List V} {e : Expr} {es : List Expr} {ta : TA} {p pos : Pos} (T : OexC X.K C) (iC : PySem.W.findIn X.K (.ref C) "__init__" = some (some (.ref fI))) (tI : PySem.W.typeIn X.K (.ref fI) = some (.type "function"))
    (F1 : FnOk X.prog X.w X.K X.mg X.base CX k fI fd ps sp) (hr : Room (k + 1) X.A) (hb : Binds X.K fd ps ds) (hd : Vals dvs ds) (hx : Passes CX X (fun _ _ _ => False)) (hg : Gl X x) (hm : X.mg x = some (.ref C)) (ha : PA X (e :: es) ta)
    (hdb : (x == ("__debug__" : Str)) = false := by decide) (he : starEach (e :: es) X.env = (false, eval e X.env) :: starEach es X.env := by rfl) (hpl : (backTo pos (starEach es X.env)).any (·.1) = false := by rfl) :
    PE X (.Call (.Name x p) (e :: es) [] pos) (tMkV C sp dvs ta) := by
  refine ⟨fun pins s σ H Q I h => ?_⟩
  obtain ⟨nm, q, N, bs, bm, sn, sub, ab, col, dd, k0, k1, k2, k3, k5, hC, hbm⟩ := T.cls
  refine wpAny_Call_Name_kw (ld_glob I hg hm ?_ hdb)
  refine PySem.W.callWith_K (h₀ := X.base) I.ok.mod.kin T.kC (thn (ha.run pos pins s σ H _ I h) fun us s1 ⟨vs, H1, I1, r1, hz, q1⟩ => ⟨I1.kIn, ?_⟩) he hpl
  show wpAny _ _ (call (.ref C) us) _ _ _
  obtain ⟨hp, g, dr, tk, os⟩ := s1
  have hsz : hp.objs.size ≤ hp.objs.size + 1 := Nat.le_succ _
  have hn : H1 (hp.objs.size + 1) = none := I1.hok.fresh hsz
  have hq := q1 (hp.objs.size + 1) hn
  have kk : ∀ b o, hp.get? b = some o → ((hp.push (PySem.W.kdv_tup us)).push (PySem.HandSPX.excO C hp.objs.size)).get? b = some o := fun b o e => Heap.get?_push_of_some _ (Heap.get?_push_of_some _ e)
  have hget : ((hp.push (PySem.W.kdv_tup us)).push (PySem.HandSPX.excO C hp.objs.size)).get? (hp.objs.size + 1) = some (PySem.HandSPX.excO C hp.objs.size) := by heap_get
  have I2 : Inv X pins σ (upd H1 (hp.objs.size + 1) (exo (hp.objs.size + 1) C none)) ⟨(hp.push (PySem.W.kdv_tup us)).push (PySem.HandSPX.excO C hp.objs.size), g, dr, tk, os⟩ :=
    I1.laid (t' := tk) (a := hp.objs.size + 1) (o := exo (hp.objs.size + 1) C none) (h' := (hp.push (PySem.W.kdv_tup us)).push (PySem.HandSPX.excO C hp.objs.size)) kk hsz (exo_ok hget)
  have r2 : Vals (V.ref (hp.objs.size + 1) :: (vs ++ dvs)) (Value.ref (hp.objs.size + 1) :: (us ++ ds)) := .cons rfl (r1.append hd)
  have hl : (Value.ref (hp.objs.size + 1) :: us ++ ds).length = ps.length := by
    have e := r2.length
    rw [F1.len _ _ _ _ hq] at e
    exact e.symm
  have hus : us.length ≤ sizeLine := by
    rw [← Paired.length r1, sizeLine_eq]
    omega
  refine wpAny_call (PySem.HandSPX.call_own F.excBase_ValueError (fun Y => PySem.HandSPX.refsVE_contains Y bm hbm) (I1.kIn _ _ hC) (PySem.W.looks_findIn I1.kIn iC) (fun self => PySem.W.bind_fn I1.kIn self tI) hus
    (codeAny_mono (F1.run _ X.stack _ _ ⟨Value.ref (hp.objs.size + 1) :: us, []⟩ (Value.ref (hp.objs.size + 1) :: (us ++ ds)) _ _ (fun _ _ _ => False) (hr.make C us []) (I2.env0.make C us []) (hb _ (Value.ref (hp.objs.size + 1) :: us) I2.kIn hl) r2 hq) fun r s' hq' => ?_))
  cases r with
  | error er => exact hx pins σ _ _ er s' I2 hq'
  | ok fl =>
    cases fl with
    | ret u =>
      obtain ⟨v, H2, os2, bare2, un2, hok2, rv, ev, q2⟩ := hq'
      subst ev
      obtain ⟨h2, g2, d2, t2, os'⟩ := s'
      have J : Inv X pins σ H2 ⟨h2, g2, d2, t2, os'⟩ := I2.call' (ch := []) os2 un2 hok2 bare2 (fun b z => absurd z (by simp))
      exact ⟨rv, ⟨.ref (hp.objs.size + 1), H2, J, rfl, q2⟩⟩
    | next => exact False.elim hq'
    | brk => exact False.elim hq'
    | cont => exact False.elim hq'
theorem pe_mkV0 {CX : CXT} {x : Str} {C fI : Addr} {k : Nat} {fd : FuncData} {ps : List Str} {sp : Sp} {p pos : Pos} (T : OexC X.K C) (iC : PySem.W.findIn X.K (.ref C) "__init__" = some (some (.ref fI))) (tI : PySem.W.typeIn X.K (.ref fI) = some (.type "function"))
    (F1 : FnOk X.prog X.w X.K X.mg X.base CX k fI fd ps sp) (hr : Room (k + 1) X.A) (hb : Binds X.K fd ps []) (hx : Passes CX X (fun _ _ _ => False)) (hg : Gl X x) (hm : X.mg x = some (.ref C)) (hdb : (x == ("__debug__" : Str)) = false := by decide) :
    PE X (.Call (.Name x p) [] [] pos) (tMkV C sp [] tNil) := by
  refine ⟨fun pins s σ H Q I h => ?_⟩
  obtain ⟨nm, q, N, bs, bm, sn, sub, ab, col, dd, k0, k1, k2, k3, k5, hC, hbm⟩ := T.cls
  refine wpAny_Call_Name_kw (ld_glob I hg hm ?_ hdb)
  refine PySem.W.callWith_K0 I.kIn T.kC ?_
  show wpAny _ _ (call (.ref C) []) _ _ _
  obtain ⟨hp, g, dr, tk, os⟩ := s
  have hsz : hp.objs.size ≤ hp.objs.size + 1 := Nat.le_succ _
  have hsp := (show [].length ≤ 1000 ∧ ∀ a, H a = none → sp [.ref a] (upd H a (exo a C none)) (fun v H2 => v = .non ∧ Q (.ref a) H2) (fun _ _ _ => False) from h).2 (hp.objs.size + 1) (I.hok.fresh hsz)
  have kk : ∀ b o, hp.get? b = some o → ((hp.push (PySem.W.kdv_tup [])).push (PySem.HandSPX.excO C hp.objs.size)).get? b = some o := fun b o z => Heap.get?_push_of_some _ (Heap.get?_push_of_some _ z)
  have hget : ((hp.push (PySem.W.kdv_tup [])).push (PySem.HandSPX.excO C hp.objs.size)).get? (hp.objs.size + 1) = some (PySem.HandSPX.excO C hp.objs.size) := by heap_get
  have I2 : Inv X pins σ (upd H (hp.objs.size + 1) (exo (hp.objs.size + 1) C none)) ⟨(hp.push (PySem.W.kdv_tup [])).push (PySem.HandSPX.excO C hp.objs.size), g, dr, tk, os⟩ :=
    I.laid (t' := tk) (a := hp.objs.size + 1) (o := exo (hp.objs.size + 1) C none) (h' := (hp.push (PySem.W.kdv_tup [])).push (PySem.HandSPX.excO C hp.objs.size)) kk hsz (exo_ok hget)
  have r2 : Vals [V.ref (hp.objs.size + 1)] [Value.ref (hp.objs.size + 1)] := .cons rfl .nil
  have hl : ([Value.ref (hp.objs.size + 1)] ++ []).length = ps.length := by
    have z := F1.len _ _ _ _ hsp
    exact z
  refine wpAny_call (PySem.HandSPX.call_own F.excBase_ValueError (fun Y => PySem.HandSPX.refsVE_contains Y bm hbm) (I.kIn _ _ hC) (PySem.W.looks_findIn I.kIn iC) (fun self => PySem.W.bind_fn I.kIn self tI) (Nat.zero_le _)
    (codeAny_mono (F1.run _ X.stack _ _ ⟨[Value.ref (hp.objs.size + 1)], []⟩ [Value.ref (hp.objs.size + 1)] _ _ (fun _ _ _ => False) (hr.make C [] []) (I2.env0.make C [] []) (hb _ [Value.ref (hp.objs.size + 1)] I2.kIn hl) r2 hsp) fun res s2 z => ?_))
  match res, z with
  | .error er, z => exact hx pins σ _ _ er s2 I2 z
  | .ok .next, z => exact False.elim z
  | .ok .brk, z => exact False.elim z
  | .ok .cont, z => exact False.elim z
  | .ok (.ret u), z =>
    obtain ⟨v, H2, os2, bare2, un2, hok2, rv, ev, q2⟩ := z
    subst ev
    obtain ⟨h2, g2, d2, t2, os3⟩ := s2
    have J : Inv X pins σ H2 ⟨h2, g2, d2, t2, os3⟩ := I2.call' (ch := []) os2 un2 hok2 bare2 (fun b z => absurd z (by simp))
    exact ⟨rv, ⟨.ref (hp.objs.size + 1), H2, J, rfl, q2⟩⟩
end
end Fp

set_option Elab.async false
set_option linter.all false
set_option maxRecDepth 100000
set_option maxHeartbeats 4000000
namespace Fp
open PySem PySem.Spec PyProof.Rows L2
/-! ### an own exception as a value: isinstance, fields -/
/-- an exception of the class D, with the fields fs -/
def ExV (H : Hp) (a D : Addr) (fs : List (Str × V)) : Prop := (fs = [] ∧ H a = some (exo a D none)) ∨ ∃ dd, H a = some (exo a D (some dd)) ∧ H dd = some (exd dd fs)
theorem ExV.inst {X : Cx} {pins : List (Addr × Obj)} {σ : L2.St} {H : Hp} {s : Shared} {a D : Addr} {fs : List (Str × V)} (I : Inv X pins σ H s) (h : ExV H a D fs) : ∃ (oe : Obj) (od : Option Obj), PySem.W.InstAt s.heap a oe D od := by
  rcases h with ⟨_, h⟩ | ⟨dd, h, hd⟩
  · obtain ⟨t1, e⟩ := exo_at I.hok h
    exact ⟨_, none, ⟨e, rfl, rfl, trivial⟩⟩
  · obtain ⟨t1, e⟩ := exo_at I.hok h
    obtain ⟨mA, hns, _⟩ := exd_at I.hok hd
    obtain ⟨od, ho, _⟩ := lookIn_ns hns
    exact ⟨_, some od, ⟨e, rfl, rfl, ho⟩⟩
def rIsV (K : PySem.W.Frag) : List V → Hp → VK → Prop := fun xs H Q => ∃ (a D : Addr) (fs : List (Str × V)) (c : V) (cv : Value) (b : Bool), xs = [.ref a, c] ∧ ExV H a D fs ∧ ExcC K D ∧ (∀ u, RelV c u → u = cv) ∧ PySem.W.kitOne K (.ref D) cv = some b ∧ Q (.bl b) H
theorem call_isV {X : Cx} : CallR X (.builtin "isinstance") (rIsV X.K) := by
  intro pins s σ H xs us Q I r h
  obtain ⟨a, D, fs, c, cv, b, rfl, hx, C, hcv, e, q⟩ := h
  cases r with
  | cons rx rr =>
    cases rr with
    | cons rt rr =>
      cases rr
      cases rx
      have ec := hcv _ rt
      subst ec
      obtain ⟨oe, od, J⟩ := hx.inst I
      have hcl : (PySem.W.clsIn X.K D).isSome = true := by
        obtain ⟨cd, hc, _⟩ := PySem.W.any_some C.hd
        rw [hc]
        rfl
      exact PySem.W.kia_one (PySem.W.kitx_exc hcl C.hg C.hk C.hs C.ha C.hn C.ht C.hm) I.kIn J e (fun z => nomatch z) fun tk => ⟨.bl b, H, I.kept (t' := tk) fun _ _ z => z, rfl, q⟩
/-- e.f, e such an exception -/
def tFld (K : PySem.W.Frag) (f : Str) (te : TE) : TE := fun σ H Q => te σ H fun x H1 => ∃ (a C dd : Addr) (fs : List (Str × V)) (v : V), x = .ref a ∧ H1 a = some (exo a C (some dd)) ∧ H1 dd = some (exd dd fs) ∧ XfC K C ∧ PySem.W.findIn K (.ref C) f = some none ∧ fs.lookup f = some v ∧ Q v H1
theorem pe_fld {X : Cx} {e : Expr} {te : TE} {pos : Pos} {n : Str} (he : PE X e te) (hb : attributeBase e n X.env (eval e X.env) = eval e X.env := by rfl) : PE X (.Attribute e n pos) (tFld X.K n te) := by
  refine ⟨fun pins s σ H Q I h => ?_⟩
  refine attr_of hb (thn (he.run pins s σ H _ I h) fun u s1 hh => ?_)
  obtain ⟨x, H1, I1, rx, a, C, dd, fs, v, ex, ea, ed, T, hno, l, q⟩ := hh
  subst ex
  obtain rfl : u = Value.ref a := rx
  obtain ⟨t1, e1⟩ := exo_at I1.hok ea
  obtain ⟨mA, hns, hr⟩ := exd_at I1.hok ed
  obtain ⟨od, ho, hl⟩ := lookIn_ns hns
  obtain ⟨u, hu, ru⟩ := RelO.some_of (v := v) (o := mA n) (by rw [← l]; exact hr n)
  have J : PySem.W.InstAt s1.heap a ({ cls := .ref C, dict := some dd, data := .fields #[.ref t1, .none, .none, .none, .bool false, .none] } : Obj) C (some od) := ⟨e1, rfl, rfl, ho⟩
  exact HandSPX.exc_get I1.kIn J T.ga T.gg T.exC (PySem.W.findObj_own T.hdC hno rfl (by rw [hl, hu])) (handed_of ru) ⟨v, H1, I1.tok _, ru, q⟩
end Fp

set_option Elab.async false
set_option linter.all false
set_option maxRecDepth 100000
set_option maxHeartbeats 4000000
namespace Fp
open PySem PySem.Spec PyProof.Rows L2
/-! ### things with empty dicts in them, shown -/
mutual
inductive DpX (K : PySem.W.Frag) (H : Hp) : V → PyData → Prop
  | non : DpX K H .non .none
  | bl (b : Bool) : DpX K H (.bl b) (.bool b)
  | int (i : Int) : DpX K H (.int i) (.int i)
  | str (x : Str) : DpX K H (.str x) (.str x)
  | lst {a : Addr} {xs : List V} {ds : List PyData} : SqL K H a xs → DpXAll K H xs ds → DpX K H (.ref a) (.list ds)
  | tup {a : Addr} {xs : List V} {ds : List PyData} : SqT K H a xs → DpXAll K H xs ds → DpX K H (.ref a) (.tuple ds)
  | emp {a : Addr} : H a = some (.dK []) → DpX K H (.ref a) (.dict [])
inductive DpXAll (K : PySem.W.Frag) (H : Hp) : List V → List PyData → Prop
  | nil : DpXAll K H [] []
  | cons {v : V} {vs : List V} {d : PyData} {ds : List PyData} : DpX K H v d → DpXAll K H vs ds → DpXAll K H (v :: vs) (d :: ds)
end
section
variable {X : Cx} {pins : List (Addr × Obj)} {σ : L2.St} {H : Hp} {s : Shared}
mutual
theorem DpX.reads (I : Inv X pins σ H s) (y : SysB X.base) : ∀ (d : PyData) (v : V) (u : Value), DpX X.K H v d → RelV v u → ∃ as, Reads s.heap u d as ∧ sysModules ∉ as
  | .none, _, _, h, r => by
    cases h
    cases r
    exact ⟨_, Reads.none, List.not_mem_nil⟩
  | .bool b, _, _, h, r => by
    cases h
    cases r
    exact ⟨_, Reads.bool b, List.not_mem_nil⟩
  | .int i, _, _, h, r => by
    cases h
    obtain ⟨t, rfl⟩ := r
    exact ⟨_, Reads.int i t, List.not_mem_nil⟩
  | .str x, _, _, h, r => by
    cases h
    obtain ⟨t, rfl⟩ := r
    exact ⟨_, Reads.str x t, List.not_mem_nil⟩
  | .list ds, _, _, h, r => by
    cases h with
    | @lst a xs _ hs ha =>
      cases r
      obtain ⟨its, rv, ⟨o, n, ho, hc, _, hd⟩, _⟩ := I.list hs
      obtain ⟨as, hr, hn⟩ := DpX.readsAll I y ds _ its ha rv
      refine ⟨_, Reads.list ho hc hd hr, fun m => ?_⟩
      rcases List.mem_cons.mp m with e | e
      · rw [← e] at ho
        exact (y.nolist I ho hd).elim
      · exact hn e
  | .tuple ds, _, _, h, r => by
    cases h with
    | tup hs ha =>
      cases r
      obtain ⟨its, rv, ⟨o, ho, hc, n, hd⟩, _⟩ := I.tuple hs
      obtain ⟨as, hr, hn⟩ := DpX.readsAll I y ds _ its ha rv
      exact ⟨_, Reads.tuple ho hc hd hr, hn⟩
  | .dict _, _, _, h, r => by
    cases h with
    | @emp a ha =>
      cases r
      obtain ⟨_, lo, vs, rk, hd⟩ := (show ObjOk X.prog X.w H s.heap a (.dK []) from I.hok a _ ha)
      have hl : vs = [] := List.length_eq_zero_iff.mp (Paired.length rk).symm
      subst hl
      obtain ⟨o, es, ep, ho, hx, hd2, _, hp, _⟩ := hd
      have he : es.toList = [] := by
        cases h9 : es.toList with
        | nil => rfl
        | cons e r =>
          rw [h9] at hp
          cases hp
      refine ⟨_, Reads.dict ho hx.1 hd2 (as := []) (bs := []) ?_ ?_, fun m => ?_⟩
      · rw [he]
        exact ReadsAll.nil
      · rw [he]
        exact ReadsAll.nil
      · rcases List.mem_cons.mp m with e | e
        · rw [← e] at lo
          exact absurd lo (by decide)
        · cases e
theorem DpX.readsAll (I : Inv X pins σ H s) (y : SysB X.base) : ∀ (ds : List PyData) (vs : List V) (us : List Value), DpXAll X.K H vs ds → Vals vs us → ∃ as, ReadsAll s.heap us ds as ∧ sysModules ∉ as
  | [], _, _, h, r => by
    cases h
    cases r
    exact ⟨_, ReadsAll.nil, List.not_mem_nil⟩
  | d :: ds, _, _, h, r => by
    cases h with
    | cons h1 h2 =>
      cases r with
      | cons r1 r2 =>
        obtain ⟨as, a1, a2⟩ := DpX.reads I y d _ _ h1 r1
        obtain ⟨bs, b1, b2⟩ := DpX.readsAll I y ds _ _ h2 r2
        exact ⟨_, ReadsAll.cons a1 b1, fun m => (List.mem_append.mp m).elim a2 b2⟩
end
/-- repr of such a thing -/
theorem call_reprX {lv : Nat} (hq : X.A.guards = some []) (hr : Room lv X.A) (hy : SysB X.base) : CallR X (.builtin "repr") (fun xs H Q => ∃ a d, xs = [.ref a] ∧ DpX X.K H (.ref a) d ∧ d.showable = true ∧ d.depth ≤ 60 ∧ d.shown.length ≤ sizeLine ∧ Q (.str d.shown) H) := by
  intro pins s σ H xs us Q I r h
  obtain ⟨a, d, rfl, hd, h1, h2, h3, q⟩ := h
  obtain ⟨u, rfl, ru⟩ := vals1 r
  obtain ⟨as, rd, hn⟩ := DpX.reads I hy d _ _ hd ru
  obtain rfl : u = Value.ref a := ru
  have hu := hr.un
  refine repr_of_reads' (h₀ := s.heap) rd h1 (fun _ => hn) hq (by omega) (fun _ _ z => z) (fun h' t tk k => ?_) h3
  exact ⟨.str d.shown, H, I.kept k, ⟨t, rfl⟩, q⟩
end
end Fp

set_option Elab.async false
set_option linter.all false
set_option maxRecDepth 100000
set_option maxHeartbeats 4000000
namespace Fp
open PySem PySem.Spec PyProof.Rows L2
/-! ### repr of anything told by DpX -/
section
variable {X : Cx}
theorem call_reprA {lv : Nat} (hq : X.A.guards = some []) (hr : Room lv X.A) (hy : SysB X.base) : CallR X (.builtin "repr") (fun xs H Q => ∃ v d, xs = [v] ∧ DpX X.K H v d ∧ d.showable = true ∧ d.depth ≤ 60 ∧ d.shown.length ≤ sizeLine ∧ Q (.str d.shown) H) := by
  intro pins s σ H xs us Q I r h
  obtain ⟨v, d, rfl, hd, h1, h2, h3, q⟩ := h
  cases hd with
  | non =>
    obtain ⟨u, rfl, ru⟩ := vals1 r
    obtain rfl : u = Value.none := ru
    exact PySem.P.repr_of_none ⟨.str PyData.none.shown, H, I.tok _, ⟨_, rfl⟩, q⟩
  | bl b =>
    obtain ⟨u, rfl, ru⟩ := vals1 r
    obtain rfl : u = Value.bool b := ru
    refine PySem.P.repr_of_bool ⟨.str (PyData.bool b).shown, H, I.tok _, ⟨s.toks, ?_⟩, q⟩
    cases b <;> rfl
  | int i =>
    refine SkE.call_repr_int pins s σ H _ us Q I r ⟨i, rfl, ?_, q⟩
    simp only [PyData.showable, decide_eq_true_eq] at h1
    omega
  | str x =>
    obtain ⟨u, rfl, t, rfl⟩ := vals1 r
    exact PySem.P.repr_of_str ⟨.str (PyData.str x).shown, H, I.tok _, ⟨_, rfl⟩, q⟩ h3
  | lst g1 g2 => exact call_reprX hq hr hy pins s σ H _ us Q I r ⟨_, _, rfl, .lst g1 g2, h1, h2, h3, q⟩
  | tup g1 g2 => exact call_reprX hq hr hy pins s σ H _ us Q I r ⟨_, _, rfl, .tup g1 g2, h1, h2, h3, q⟩
  | emp g => exact call_reprX hq hr hy pins s σ H _ us Q I r ⟨_, _, rfl, .emp g, h1, h2, h3, q⟩
/-- repr, len, list and str by name -/
def rRepr (K : PySem.W.Frag) : List V → Hp → VK → Prop := fun xs H Q => ∃ v d, xs = [v] ∧ DpX K H v d ∧ d.showable = true ∧ d.depth ≤ 60 ∧ d.shown.length ≤ sizeLine ∧ Q (.str d.shown) H
def rLen (K : PySem.W.Frag) : List V → Hp → VK → Prop := fun xs H Q => ∃ p ys, xs = [.ref p] ∧ (SqL K H p ys ∨ SqT K H p ys) ∧ Q (.int ys.length) H
def rLst (K : PySem.W.Frag) : List V → Hp → VK → Prop := fun xs H Q => ∃ p ys, xs = [.ref p] ∧ (SqL K H p ys ∨ SqT K H p ys) ∧ ∀ l, H l = none → Q (.ref l) (upd H l (.lst ys))
def rStrI : List V → Hp → VK → Prop := fun xs H Q => ∃ i, xs = [.int i] ∧ i.natAbs.log2 < 1920 ∧ Q (.str (toString i)) H
def rTupl (K : PySem.W.Frag) : List V → Hp → VK → Prop := fun xs H Q => ∃ p ys, xs = [.ref p] ∧ ((SqL K H p ys ∧ ∀ l, H l = none → Q (.ref l) (upd H l (.tup ys))) ∨ (SqT K H p ys ∧ Q (.ref p) H))
theorem call_tupN : CallR X (.type "tuple") (rTupl X.K) := call_tuple_of
theorem call_reprN {lv : Nat} (hq : X.A.guards = some []) (hr : Room lv X.A) (hy : SysB X.base) : CallR X (.builtin "repr") (rRepr X.K) := call_reprA hq hr hy
theorem call_lenN : CallR X (.builtin "len") (rLen X.K) := call_len_seq
theorem call_lstN : CallR X (.type "list") (rLst X.K) := call_list_of
theorem call_strN : CallR X (.type "str") rStrI := call_str_int
end
end Fp

set_option Elab.async false
set_option linter.all false
set_option maxRecDepth 100000
set_option maxHeartbeats 4000000
namespace Fp
open PySem PySem.Spec PyProof.Rows L2
/-! ### dicts with pairs of whole numbers as keys: values, sorted -/
section
variable {prog : Program} {w : World} {A : Around} {E : Value → Shared → Prop} {s : Shared} {o : Obj} {es : Array DictEntry} {ep : Nat}
theorem meetsVals {d : Addr} (hd : (d == sysModules) = false) :
    MeetsIn prog w (Builtin.«dict.values» ⟨[.ref d], []⟩) (fun _ R s => DT.Raw s.heap d es ep ∧
      R (.ok (.ret (.ref s.heap.objs.size))) { s with heap := s.heap.push (DSub.viewOb "dict_values" d) }) :=
  .of_wp fun A R s ⟨hm, h⟩ => by
    unfold Builtin.«dict.values»
    refine wpAny_bind ?_
    unfold Builtin.Dict.noArgs
    refine wpAny_bind (wpAny_notOrdered_dict hm.typeIs ?_)
    show wpAny _ _ (pure d) _ _ s
    refine wpAny_pure ?_
    show wpAny _ _ (Builtin.Dict.showsAll d >>= _) _ _ s
    unfold Builtin.Dict.showsAll
    rw [if_neg (by rw [hd]; exact Bool.false_ne_true)]
    refine wpAny_bind (wpAny_pure ?_)
    exact wpAny_bind (wpAny_newObj_type (wpAny_pure ⟨_, rfl, h⟩))
theorem callVals {d : Addr} {Q : Value → Shared → Prop} (hd : (d == sysModules) = false) (hm : DT.Raw s.heap d es ep) (h : Q (.ref s.heap.objs.size) { s with heap := s.heap.push (DSub.viewOb "dict_values" d) }) : wpAny (model prog w) A (call (.builtin "dict.values") [.ref d]) Q E s :=
  call_meetsIn PySem.F.slot_dict_values hm.typeIs PySem.F.entry_dict_values (PySem.F.args_dict_values_1 _) (meetsVals (es := es) (ep := ep) hd) ⟨hm, h⟩
theorem kdl_rawV {r d : Addr} (hd : o.data = .dict es ep) :
    PySem.W.KdlSrc prog w "dict_values" r d es.size (fun i v => ∃ en : DictEntry, es[i]? = some en ∧ v = en.val) (fun h => h.get? r = some (DSub.viewOb "dict_values" d) ∧ h.get? d = some o) where
  type := fun _ hm => ⟨_, hm.1, rfl⟩
  there := fun _ hm => ⟨Heap.lt_size hm.1, Heap.lt_size hm.2⟩
  keep := fun _ _ hm hk => ⟨hk r (.inl rfl) _ hm.1, hk d (.inr rfl) _ hm.2⟩
  notList := by decide
  notTuple := by decide
  hint := fun _ _ s _ hm hq => PySem.W.kdl_hint_values (s := s) ⟨_, hm.1, rfl⟩ hq
  iter := fun _ s hh hm => ⟨_, _, (fun _ _ hq => DSub.iter_vals hm.1 hm.2 hd hq), DSub.walksVal hh (Nat.ne_of_lt (Heap.lt_size hm.2)) hd (fun i e he => ⟨e, he, rfl⟩), ⟨Heap.get?_push_size _ rfl, Heap.get?_push_of_some _ hm.2⟩⟩
end
section
variable {X : Cx}
def rValuesT : V → List V → Hp → VK → Prop := fun x xs H Q => ∃ (a : Addr) (kvs : List (List L2.Key × V)), x = .ref a ∧ xs = [] ∧ H a = some (.dT kvs) ∧ ∀ p, H p = none → Q (.ref p) (upd H p (viewO "dict_values" p a))
theorem mt_valuesT : MtR X "dict.values" rValuesT := by
  intro pins s σ H x xs v us Q I rx rxs h
  obtain ⟨a, kvs, rfl, rfl, ha, q⟩ := h
  cases rx
  cases rxs
  obtain ⟨z, hd, xs', rel, o, es, ep, ho, hx, hdat, _⟩ := dt_of I.hok ha
  refine callVals (es := es) (ep := ep) hd ⟨o, ho, hx, hdat⟩ ?_
  have hf : H s.heap.objs.size = none := I.hok.fresh (Nat.le_refl _)
  exact ⟨.ref s.heap.objs.size, upd H s.heap.objs.size (viewO "dict_values" s.heap.objs.size a), I.laid (t' := s.toks) (fun b u e => Heap.get?_push_of_some _ e) (Nat.le_refl _) (viewO_ok (Heap.get?_push_size _ rfl)), rfl, q _ hf⟩
theorem vals_pairs {H : Hp} : ∀ {kvs : List (List L2.Key × V)} {ks : List (List L2.Key × Addr × Value)}, Paired (fun (p : List L2.Key × V) (q : List L2.Key × Addr × Value) => p.1 = q.1 ∧ H q.2.1 = some (.tup (p.1.map kV)) ∧ RelV p.2 q.2.2) kvs ks → Vals (kvs.map (·.2)) (ks.map (·.2.2))
  | _, _, .nil => .nil
  | _, _, .cons h t => .cons h.2.2 (vals_pairs t)
/-- what is gathered of a dict's entries -/
theorem got_is {α : Type} {f : DictEntry → Value} {g : α → DictEntry} {rows : Array DictEntry} {ks : List α} {got : Array Value} (e : rows.toList = ks.map g) (its : ItemsOf (fun i v => ∃ en : DictEntry, rows[i]? = some en ∧ v = f en) got rows.size) : got.toList = ks.map fun b => f (g b) := by
  have hl : rows.size = ks.length := by rw [← Array.length_toList, e, List.length_map]
  refine List.ext_getElem (by rw [Array.length_toList, its.1, List.length_map, hl]) fun j h1 h2 => ?_
  obtain ⟨en, h3, h4⟩ := its.2 j got.toList[j] (by rw [← Array.getElem?_toList]; exact List.getElem?_eq_getElem h1)
  rw [h4, List.getElem_map]
  rw [← Array.getElem?_toList, e, List.getElem?_map, List.getElem?_eq_getElem (by simpa using h2)] at h3
  rw [← Option.some.inj h3]
/-- list(d.values()) -/
theorem call_list_valsT (hc : X.calm = true) : CallR X (.type "list") (fun xs H Q => ∃ v d kvs, xs = [V.ref v] ∧ H v = some (viewO "dict_values" v d) ∧ H d = some (.dT kvs) ∧ ∀ p, H p = none → Q (.ref p) (upd H p (.lst (kvs.map (·.2))))) := by
  intro pins s σ H xs us Q I r h
  obtain ⟨v, d, kvs, rfl, hv, hd, q⟩ := h
  obtain ⟨u, rfl, rx⟩ := r.one
  cases rx
  have hv2 : s.heap.get? v = some (DSub.viewOb "dict_values" d) := (show ObjOk X.prog X.w H s.heap v (viewO "dict_values" v d) from I.hok v _ hv).1
  obtain ⟨z, hs, ks, pr, o, es, ep, ho, hx, hdt, he, hn⟩ := (show ObjOk X.prog X.w H s.heap d (.dT kvs) from I.hok d _ hd)
  have l1 : es.size = ks.length := size_of_entries he
  have l2 : kvs.length = ks.length := Paired.length pr
  refine PySem.W.kdl_call (kdl_rawV (r := v) hdt) (I.ok.hd hc) ⟨hv2, ho⟩ (by omega) fun h' tk acc' c' kp e it => ?_
  have ea : acc'.toList = ks.map fun x => x.2.2 := got_is (f := fun en => en.val) he it
  have rv : Vals (kvs.map (·.2)) acc'.toList := by rw [ea]; exact vals_pairs pr
  have hz : (kvs.map (·.2)).length ≤ sizeLine := by rw [List.length_map]; omega
  refine ⟨.ref s.heap.objs.size, _, I.laid (t' := tk) (o := .lst (kvs.map (·.2))) kp (Nat.le_refl _) ?_, rfl, q _ (I.hok.fresh (Nat.le_refl _))⟩
  exact ⟨hz, acc'.toList, c', rv, by rw [Array.toArray_toList]; exact e⟩
/-- what is gathered, and that the heap grew -/
theorem gathered {prog : Program} {w : World} {A : Around} {E : Value → Shared → Prop} {st : Shared} {T : String} {r d : Addr} {n : Nat} {I0 : Nat → Value → Prop} {ok : Heap → Prop} {R : List Value → Shared → Prop} (src : PySem.W.KdlSrc prog w T r d n I0 ok) (ah : A.handled = none) (o0 : ok st.heap) (small : n ≤ sizeLine)
    (go : ∀ (g : Heap) (k : Nat) (got : Array Value), (∀ b u, st.heap.get? b = some u → g.get? b = some u) → st.heap.objs.size ≤ g.objs.size → ItemsOf I0 got n → R got.toList { st with heap := g, toks := k }) : wpAny (model prog w) A (collect (.ref r)) R E st := by
  obtain ⟨lr, ld⟩ := src.there _ o0
  unfold collect
  refine wpAny_bind <| wpAny_runValue <| codeAny_builtin entry_proto_collect' ?_
  rw [(Around.under_plainId PySem.F.plain_proto_collect _)]
  show wpAny _ (A.in1) (newList [] >>= (fun l => again (.builtin "list.__iadd__" ⟨[l, .ref r], []⟩))) _ _ st
  refine wpAny_bind <| wpAny_newObj_type <| wpAny_pure ⟨plainId_quiet PySem.F.plain_list_iadd _, codeAny_builtin entry_list_iadd' ?_⟩
  rw [(Around.under_plainId PySem.F.plain_list_iadd _)]
  have hl0 : (st.heap.push { cls := .type "list", data := .seq ([] : List Value).toArray }).get? st.heap.objs.size = some { cls := .type "list", data := .seq #[] } := Heap.get?_push_size _ (rfl)
  show wpAny _ (A.in1) (Builtin.List.listExtendWith (.ref st.heap.objs.size) (.ref r) (.ref st.heap.objs.size)) _ _ _
  have all := PySem.W.kdl_extend (A := A) (s := { st with heap := st.heap.push { cls := .type "list", data := .seq ([] : List Value).toArray } }) (R := fun (res : Result) (z : Shared) => ∃ (g : Heap) (k : Nat) (got : Array Value) (c : Nat), res = .ok (.ret (.ref st.heap.objs.size)) ∧ z = { st with heap := g, toks := k } ∧ (∀ b u, st.heap.get? b = some u → g.get? b = some u) ∧ g.get? st.heap.objs.size = some { cls := .type "list", dict := none, data := .seq got c, slots := #[] } ∧ ItemsOf I0 got n)
    src ah (src.keep _ _ o0 fun b _ u x => Heap.get?_push_of_some _ x) st.heap.objs.size (Nat.ne_of_gt lr) (Nat.ne_of_gt ld) (.ref st.heap.objs.size) 0 hl0 (fun g k got c kp at0 its => ⟨g, k, got, c, rfl, rfl, fun b u x => kp b u (Nat.ne_of_lt (Heap.lt_size x)) (Heap.get?_push_of_some _ x), at0, its⟩) small
  refine wpAny_mono all (fun f z y => ?_) fun f z y => ?_
  · cases f with
    | done f0 =>
      obtain ⟨g, k, got, c, ef, rfl, kp, at0, its⟩ := y
      cases ef
      show wpAny _ A (load st.heap.objs.size >>= _) _ _ _
      exact wpAny_bind <| wpAny_load at0 <| wpAny_pure <| go g k got kp (Nat.le_of_lt (Heap.lt_size at0)) its
    | again c1 =>
      refine ⟨y.1, codeAny_mono y.2 fun res z2 y2 => ?_⟩
      obtain ⟨g, k, got, c, rfl, rfl, kp, at0, its⟩ := y2
      show wpAny _ A (load st.heap.objs.size >>= _) _ _ _
      exact wpAny_bind <| wpAny_load at0 <| wpAny_pure <| go g k got kp (Nat.le_of_lt (Heap.lt_size at0)) its
  · obtain ⟨_, _, _, _, ef, _⟩ := y
    cases ef
/-- sorted(d), d with pairs of whole numbers as keys -/
def rSortedT : List V → Hp → VK → Prop := fun vs H Q => ∃ (d : Addr) (kvs : List (List L2.Key × V)), vs = [V.ref d] ∧ H d = some (.dT kvs) ∧ (∀ e ∈ kvs, ∃ i j : Int, e.1 = [.inl i, .inl j]) ∧
  ∀ (ys : List V) (bs : List Addr) (k : V → Int × Int) (p : Addr), IsKeys H kvs bs → (∀ x ∈ bs.map V.ref, ∃ t, x = V.ref t ∧ H t = some (.tup [.int (k x).1, .int (k x).2])) → SrtO.Srtd (ltP k) ys → SrtO.Stb (ltP k) ys (bs.map V.ref) → H p = none → Q (.ref p) (upd H p (.lst ys))
noncomputable def pairAt (H : Hp) (x : V) : Int × Int := match x with
  | .ref t => match H t with
    | some (.tup [.int i, .int j]) => (i, j)
    | _ => (0, 0)
  | _ => (0, 0)
theorem keys_pairs {H : Hp} : ∀ {kvs : List (List L2.Key × V)} {bs : List Addr}, IsKeys H kvs bs → (∀ e ∈ kvs, ∃ i j : Int, e.1 = [.inl i, .inl j]) → ∀ x ∈ bs.map V.ref, ∃ t, x = V.ref t ∧ H t = some (.tup [.int (pairAt H x).1, .int (pairAt H x).2])
  | _, _, .nil, _, x, hx => by simp at hx
  | _, _, .cons (b := b) h t, hk, x, hx => by
    rcases List.mem_cons.mp hx with z | z
    · obtain ⟨i, j, e⟩ := hk _ (List.mem_cons_self ..)
      have h2 : H b = some (.tup [.int i, .int j]) := by
        rw [h, e]
        rfl
      refine ⟨b, z, ?_⟩
      rw [z]
      show H b = some (.tup [.int (pairAt H (.ref b)).1, .int (pairAt H (.ref b)).2])
      have e9 : pairAt H (.ref b) = (i, j) := by
        unfold pairAt
        simp only [h2]
      rw [e9, h2]
    · exact keys_pairs t (fun e he => hk e (List.mem_cons_of_mem _ he)) x z
theorem cr_sortedT (hc : X.calm = true) : CallR X (.builtin "sorted") rSortedT := by
  intro pins s σ H xs us Q I r h
  obtain ⟨d, kvs, rfl, hd, hkey, q⟩ := h
  obtain ⟨u, rfl, rx⟩ := vals1 r
  obtain rfl : u = Value.ref d := rx
  obtain ⟨z, hs, ks, pr, o, es, ep, ho, hx, hdt, he, hn⟩ := (show ObjOk X.prog X.w H s.heap d (.dT kvs) from I.hok d _ hd)
  have l1 : es.size = ks.length := size_of_entries he
  have l2 : kvs.length = ks.length := Paired.length pr
  have IK : IsKeys H kvs (ks.map fun x => x.2.1) := isKeys_of pr
  have hp := keys_pairs IK hkey
  refine PySem.Calls.call_function_entry kind_sorted plain_sorted entry_sorted (args_sorted1 _) ?_
  unfold Builtin.«sorted»
  refine wpAny_bind (m := checkCount "sorted" 1 1 _) (wpAny_pure ?_)
  refine wpAny_bind (gathered (A := X.A.in1) (kdl_raw hs hx hdt) (I.ok.hd hc) ho (by omega) fun h' tk acc hk hLn hacc => ?_)
  have ea : acc.toList = (ks.map fun x => x.2.1).map Value.ref := by
    rw [got_is (f := fun en => en.key) he hacc, List.map_map]
    rfl
  have hl : acc.toList.length ≤ sizeLine := by
    rw [ea, List.length_map, List.length_map]
    omega
  refine wpAny_bind (wpAny_newList ?_ hl)
  have hoL : (h'.push (seqObj "list" acc.toList.toArray 0)).get? h'.objs.size = some (seqObj "list" acc.toList.toArray 0) := Heap.get?_push_size _ rfl
  have keep : ∀ b o, s.heap.get? b = some o → b ≠ h'.objs.size ∧ (h'.push (seqObj "list" acc.toList.toArray 0)).get? b = some o := fun b o e => ⟨Nat.ne_of_lt (Heap.lt_size (hk _ _ e)), Heap.get?_push_of_some _ (hk _ _ e)⟩
  have hpair : ∀ v ∈ acc.toList, Srt.IsPair (h'.push (seqObj "list" acc.toList.toArray 0)) v (pairAt H (backV v)).1 (pairAt H (backV v)).2 := fun v hv => by
    rw [ea] at hv
    obtain ⟨b, hb, rfl⟩ := List.mem_map.mp hv
    obtain ⟨t, e, ht⟩ := hp (V.ref b) (List.mem_map.mpr ⟨b, hb, rfl⟩)
    cases e
    obtain ⟨_, its2, r2, o2, ho2, hc2, n2, hd2⟩ := I.hok _ _ ht
    obtain ⟨u1, u2, rfl, ri, rj⟩ := vals2 r2
    obtain ⟨t1, rfl⟩ := ri
    obtain ⟨t2, rfl⟩ := rj
    exact ⟨b, o2, t1, t2, n2, rfl, (keep _ _ ho2).2, hc2, hd2⟩
  show wpAny _ _ _ _ _ { s with heap := h'.push (seqObj "list" acc.toList.toArray 0), toks := tk }
  refine wpAny_bind (wpAny_holding (wpAny_call_entry slot_list_sort ⟨_, hoL, rfl⟩ entry_list_sort (SrtO.list_sort_ord (s := { s with heap := h'.push (seqObj "list" acc.toList.toArray 0), toks := tk }) (SrtO.swo_lex fun u => pairAt H (backV u)) hoL hl (fun h2 => SrtO.pairs_sortableO (by omega) hpair fun o2 e2 => ?_) fun out h1 h2 => ⟨_, rfl, ?_⟩) (args_list_sort _)))
  · have e' : some o2 = some (seqObj "list" acc.toList.toArray 0) := e2.symm.trans hoL
    cases e'
    intro c
    exact absurd (Value.type.inj c) (by decide)
  refine wpAny_pure ⟨_, rfl, ?_⟩
  have e1 : (ks.map fun x => x.2.1).map V.ref = acc.toList.map backV := by
    rw [ea]
    simp only [List.map_map]
    rfl
  have h3 : ∀ u ∈ out, ∃ a, u = Value.ref a := fun u hu => by
    have := h2.perm.mem_iff.mp hu
    rw [ea] at this
    obtain ⟨b, _, rfl⟩ := List.mem_map.mp this
    exact ⟨b, rfl⟩
  have hb : SrtO.Stb (ltP (pairAt H)) (out.map backV) ((ks.map fun x => x.2.1).map V.ref) := by
    rw [e1]
    exact SrtO.Stb.map (ltP_swo _) backV h2
  obtain ⟨n, hn2⟩ := sortedHeap_at (out := out.toArray) hoL
  have fr : H h'.objs.size = none := I.hok.fresh hLn
  refine ⟨.ref h'.objs.size, upd H h'.objs.size (.lst (out.map backV)), I.laid (t' := tk) (fun b u e => ?_) hLn ⟨?_, out, n, vals_back h3, hn2⟩, rfl, q _ _ (pairAt H) h'.objs.size IK hp (SrtO.srtd_map h1) hb fr⟩
  · obtain ⟨k1, k2⟩ := keep b u e
    rw [sortedHeap_old k1 (Heap.lt_size k2)]
    exact k2
  · rw [hb.len, List.length_map, List.length_map]
    omega
end
end Fp

set_option Elab.async false
set_option linter.all false
set_option maxRecDepth 100000
set_option maxHeartbeats 4000000
namespace Fp
open PySem PySem.Spec PyProof.Rows L2
/-! ### max(xs, default=d) of whole numbers -/
theorem ints_read {h : Heap} : ∀ {ns : List Int} {its : List Value}, Vals (ns.map V.int) its → ReadsAll h its (ns.map PyData.int) []
  | [], [], _ => .nil
  | n :: r, _ :: t, .cons x y => by
    obtain ⟨k, e⟩ := (show ∃ k, _ = Value.int n k from x)
    rw [e]
    exact ReadsAll.cons (as := []) (bs := []) (.int n k) (ints_read y)
theorem ints_flat : ∀ ns : List Int, PyData.depthAll (ns.map PyData.int) = 0
  | [] => rfl
  | n :: r => by
    show max (PyData.depth (.int n)) (PyData.depthAll (r.map PyData.int)) = 0
    rw [ints_flat r]
    rfl
theorem fold_max : ∀ (r : List Int) (n : Int), r.foldl max n ∈ n :: r ∧ ∀ y ∈ n :: r, y ≤ r.foldl max n
  | [], n => ⟨List.mem_cons_self .., fun y hy => by rw [List.mem_singleton.mp hy]; exact Int.le_refl _⟩
  | k :: r, n => by
    obtain ⟨h1, h2⟩ := fold_max r (max n k)
    show r.foldl max (max n k) ∈ n :: k :: r ∧ ∀ y ∈ n :: k :: r, y ≤ r.foldl max (max n k)
    have h3 := h2 (max n k) (List.mem_cons_self ..)
    refine ⟨?_, fun y hy => ?_⟩
    · rcases List.mem_cons.mp h1 with z | z
      · rw [z]
        rcases (by omega : max n k = n ∨ max n k = k) with u | u
        · rw [u]
          exact List.mem_cons_self ..
        · rw [u]
          exact List.mem_cons_of_mem _ (List.mem_cons_self ..)
      · exact List.mem_cons_of_mem _ (List.mem_cons_of_mem _ z)
    · rcases List.mem_cons.mp hy with z | z
      · rw [z]
        omega
      · rcases List.mem_cons.mp z with u | u
        · rw [u]
          omega
        · exact h2 y (List.mem_cons_of_mem _ u)
def rMaxD (K : PySem.W.Frag) : List V → List V → Hp → VK → Prop := fun vs zs H Q => ∃ (a : Addr) (ns : List Int) (d : Int), vs = [.ref a] ∧ zs = [.int d] ∧ SqL K H a (ns.map V.int) ∧ (ns = [] → Q (.int d) H) ∧ ∀ m ∈ ns, (∀ y ∈ ns, y ≤ m) → Q (.int m) H
section
variable {X : Cx}
theorem cr_maxD (hc : X.calm = true) (hu : X.A.units + 64 < cLine) : CallRK X (.builtin "max") ["default"] (rMaxD X.K) := by
  intro pins st σ H xs zs us ws Q I rx rz ask
  obtain ⟨a, ns, d, rfl, rfl, hs, q0, q1⟩ := ask
  obtain ⟨its, rv, hl, _⟩ := I.list hs
  obtain ⟨d', rfl, rd⟩ := vals1 rz
  obtain ⟨k, rfl⟩ := (show ∃ k, d' = Value.int d k from rd)
  rw [Vals.ref1 rx]
  show wpAny _ _ (call (.builtin "max") [.ref a] [(Str.ofString "default", Value.int d k)]) _ _ st
  refine PySem.W.max_list_default (xs := ns.map PyData.int) (as := []) (I.ok.hd hc) hl.isList (by rw [List.toList_toArray]; exact ints_read rv) ⟨fun x hx y hy => ?_, fun x hx => ?_⟩ (by rw [ints_flat]; omega) (fun z h' tk kp => ?_) (fun y ys i v h' tk bs e hv hr kp => ?_)
  · obtain ⟨i, _, rfl⟩ := List.mem_map.mp hx
    obtain ⟨j, _, rfl⟩ := List.mem_map.mp hy
    rfl
  · obtain ⟨i, _, rfl⟩ := List.mem_map.mp hx
    intro z
    cases z
  · exact ⟨.int d, H, I.kept kp, ⟨_, rfl⟩, q0 (List.map_eq_nil_iff.mp z)⟩
  · cases ns with
    | nil => cases e
    | cons n r =>
      have e2 := (List.cons.inj e)
      rw [← e2.1, ← e2.2, PySem.W.maxD_ints] at hr
      obtain ⟨t, rfl⟩ : ∃ t, v = Value.int (r.foldl max n) t := by
        cases hr with
        | int i t => exact ⟨t, rfl⟩
      obtain ⟨m1, m2⟩ := fold_max r n
      exact ⟨.int _, H, I.kept kp, ⟨_, rfl⟩, q1 _ m1 m2⟩
end
end Fp

set_option Elab.async false
set_option linter.all false
set_option maxRecDepth 100000
set_option maxHeartbeats 4000000
namespace Fp
open PySem PySem.Spec PyProof.Rows L2
/-! ### max(way, default=d), way a tuple of whole numbers -/
def rMaxDT (K : PySem.W.Frag) : List V → List V → Hp → VK → Prop := fun vs zs H Q => ∃ (a : Addr) (ns : List Int) (d : Int), vs = [.ref a] ∧ zs = [.int d] ∧ SqT K H a (ns.map V.int) ∧ (ns = [] → Q (.int d) H) ∧ ∀ m ∈ ns, (∀ y ∈ ns, y ≤ m) → Q (.int m) H
section
variable {X : Cx}
theorem cr_maxDT (hc : X.calm = true) (hu : X.A.units + 64 < cLine) : CallRK X (.builtin "max") ["default"] (rMaxDT X.K) := by
  intro pins st σ H xs zs us ws Q I rx rz ask
  obtain ⟨a, ns, d, rfl, rfl, hs, q0, q1⟩ := ask
  obtain ⟨its, rv, hl, _⟩ := I.tuple hs
  obtain ⟨d', rfl, rd⟩ := vals1 rz
  obtain ⟨k, rfl⟩ := (show ∃ k, d' = Value.int d k from rd)
  rw [Vals.ref1 rx]
  show wpAny _ _ (call (.builtin "max") [.ref a] [(Str.ofString "default", Value.int d k)]) _ _ st
  refine PySem.W.max_tuple_default (xs := ns.map PyData.int) (as := []) (I.ok.hd hc) hl (by rw [List.toList_toArray]; exact ints_read rv) ⟨fun x hx y hy => ?_, fun x hx => ?_⟩ (by rw [ints_flat]; omega) (fun z h' tk kp => ?_) (fun y ys i v h' tk bs e hv hr kp => ?_)
  · obtain ⟨i, _, rfl⟩ := List.mem_map.mp hx
    obtain ⟨j, _, rfl⟩ := List.mem_map.mp hy
    rfl
  · obtain ⟨i, _, rfl⟩ := List.mem_map.mp hx
    intro z
    cases z
  · exact ⟨.int d, H, I.kept kp, ⟨_, rfl⟩, q0 (List.map_eq_nil_iff.mp z)⟩
  · cases ns with
    | nil => cases e
    | cons n r =>
      have e2 := (List.cons.inj e)
      rw [← e2.1, ← e2.2, PySem.W.maxD_ints] at hr
      obtain ⟨t, rfl⟩ : ∃ t, v = Value.int (r.foldl max n) t := by
        cases hr with
        | int i t => exact ⟨t, rfl⟩
      obtain ⟨m1, m2⟩ := fold_max r n
      exact ⟨.int _, H, I.kept kp, ⟨_, rfl⟩, q1 _ m1 m2⟩
end
end Fp

set_option Elab.async false
set_option linter.all false
set_option maxRecDepth 100000
set_option maxHeartbeats 4000000
namespace Fp
open PySem PySem.Spec PyProof.Rows L2
/-! ### sorted(xs), tuples of whole numbers -/
/-- one before the other: by the first number that differs, a shorter one first -/
def ltW : List Int → List Int → Bool
  | [], [] => false
  | [], _ :: _ => true
  | _ :: _, [] => false
  | x :: xs, y :: ys => if x = y then ltW xs ys else decide (x < y)
theorem ltW_asym : ∀ x y : List Int, ltW x y = true → ltW y x = false
  | [], [], h => by cases h
  | [], _ :: _, _ => rfl
  | _ :: _, [], h => by cases h
  | x :: xs, y :: ys, h => by
    unfold ltW at h ⊢
    by_cases e : x = y
    · rw [if_pos e] at h
      rw [if_pos e.symm]
      exact ltW_asym xs ys h
    · rw [if_neg e, decide_eq_true_eq] at h
      rw [if_neg fun z => e z.symm]
      exact decide_eq_false (by omega)
theorem ltW_neg : ∀ x y z : List Int, ltW y x = false → ltW z y = false → ltW z x = false
  | [], _, [], _, _ => rfl
  | [], [], _ :: _, _, _ => rfl
  | [], _ :: _, _ :: _, _, _ => rfl
  | _ :: _, [], _, h, _ => by cases h
  | _ :: _, _ :: _, [], _, h => by cases h
  | x :: xs, y :: ys, z :: zs, h1, h2 => by
    unfold ltW at h1 h2 ⊢
    by_cases e1 : y = x
    · rw [if_pos e1] at h1
      by_cases e2 : z = y
      · rw [if_pos e2] at h2
        rw [if_pos (e2.trans e1)]
        exact ltW_neg xs ys zs h1 h2
      · rw [if_neg e2] at h2
        have b := of_decide_eq_false h2
        rw [if_neg (by omega)]
        exact decide_eq_false (by omega)
    · rw [if_neg e1] at h1
      have a := of_decide_eq_false h1
      by_cases e2 : z = y
      · rw [if_neg (by omega)]
        exact decide_eq_false (by omega)
      · rw [if_neg e2] at h2
        have b := of_decide_eq_false h2
        rw [if_neg (by omega)]
        exact decide_eq_false (by omega)
theorem swo_W {α : Type} (k : α → List Int) : SrtO.Swo fun x y => ltW (k x) (k y) := ⟨fun x y h => ltW_asym _ _ h, fun x y z h1 h2 => ltW_neg _ _ _ h1 h2⟩
/-- v is a tuple of whole numbers in the heap -/
def IsW (h : Heap) (v : Value) (ns : List Int) : Prop := ∃ a o its n, v = .ref a ∧ h.get? a = some o ∧ o.cls = .type "tuple" ∧ o.data = .seq its n ∧ IntsAre its.toList ns
theorem IsW.keeps {h h' : Heap} {v : Value} {ns : List Int} (p : IsW h v ns) (k : ∀ b o, h.get? b = some o → o.cls = .type "tuple" → h'.get? b = some o) : IsW h' v ns := by
  obtain ⟨a, o, its, n, e, ho, hc, hd, hi⟩ := p
  exact ⟨a, o, its, n, e, k _ _ ho hc, hc, hd, hi⟩
section
variable {prog : Program} {w : World} {A : Around} {s : Shared}
theorem kat_W {fin : Bool} {Q : Bool → Shared → Prop} : ∀ {is js : List Value} {ns ms : List Int} {i : Nat}, IntsAre is ns → IntsAre js ms → fin = decide (ns.length < ms.length) → Q (ltW ns ms) s → PySem.W.KatLex prog w A true fin Q (is.zip js) i s
  | _, _, _, _, i, .nil, .nil, hf, q => PySem.W.kat_nil (by rw [hf]; exact q)
  | _, _, _, _, i, .nil, .cons _ _ _, hf, q => PySem.W.kat_nil (by rw [hf]; exact q)
  | _, _, _, _, i, .cons _ _ _, .nil, hf, q => PySem.W.kat_nil (by rw [hf]; exact q)
  | _, _, _, _, i, .cons x t r1, .cons y u r2, hf, q => by
    refine PySem.W.kat_cons (SeqAt.EqAt.int_int x t y u prog w _ _ ?_)
    refine PySem.W.kat_go (fun e1 => ?_) (fun e1 => ?_)
    · have ex : x = y := by simpa using e1
      unfold ltW at q
      rw [if_pos ex] at q
      refine PySem.W.kat_yes (kat_W r1 r2 ?_ q)
      rw [hf, List.length_cons, List.length_cons]
      exact decide_eq_decide.mpr (by omega)
    · have ex : ¬ x = y := by simpa using e1
      unfold ltW at q
      rw [if_neg ex] at q
      refine PySem.W.kat_no ?_
      cases e9 : (true && i == 0) with
      | true => exact oneLt_int q
      | false => exact PySem.W.kat_one _ _ (PyProof.Rows.lt_int q)
theorem w_cmp {vs : List Value} {k : Value → List Int} (hp : ∀ v ∈ vs, IsW s.heap v (k v)) : SrtO.Cmp prog w A s (tuples' true) (fun p => p.1 ∈ vs) (SrtO.lt2 fun v u => ltW (k v) (k u)) := by
  intro p q hm hm'
  obtain ⟨a, o, its, n, e, ho, hc, hd, hi⟩ := hp _ hm
  obtain ⟨a', o', its', n', e', ho', hc', hd', hi'⟩ := hp _ hm'
  show wpAny (model prog w) A (keyLt' (tuples' true) p.1 q.1) (fun r s' => s' = s ∧ r = ltW (k p.1) (k q.1)) (fun _ _ => False) s
  generalize k p.1 = ns at hi ⊢
  generalize k q.1 = ms at hi' ⊢
  rw [e, e']
  refine PySem.W.kat_lt ho hd ho' hd' ?_
  refine kat_W hi hi' ?_ ⟨rfl, rfl⟩
  have l1 := hi.length
  have l2 := hi'.length
  rw [Array.length_toList] at l1 l2
  rw [l1, l2]
theorem firsts_W {h : Heap} : ∀ {vs : List Value} {k : Value → List Int}, (∀ v ∈ vs, IsW h v (k v) ∧ k v ≠ []) → ∃ fs : List Value, PySem.W.KatTups h vs fs ∧ fs.length = vs.length ∧ ∀ f ∈ fs, ∃ x t, f = Value.int x t
  | [], _, _ => ⟨[], PySem.W.KatTups.nil, rfl, fun _ hm => by simp at hm⟩
  | v :: vs, k, hp => by
    obtain ⟨fs, h1, h2, h3⟩ := firsts_W (vs := vs) fun v' hm => hp v' (List.mem_cons_of_mem _ hm)
    obtain ⟨⟨a, o, its, n, e, ho, hc, hd, hi⟩, hne⟩ := hp v (List.mem_cons_self ..)
    generalize k v = ns at hi hne
    subst e
    obtain ⟨f, f1, x, t, rfl⟩ : ∃ f, its[0]? = some f ∧ ∃ x t, f = Value.int x t := by
      rw [← Array.getElem?_toList]
      generalize its.toList = l at hi
      cases hi with
      | nil => exact absurd rfl hne
      | cons x t r => exact ⟨_, rfl, x, t, rfl⟩
    refine ⟨.int x t :: fs, PySem.W.KatTups.cons ho hc hd f1 h1, by rw [List.length_cons, List.length_cons, h2], fun f hm => ?_⟩
    rcases List.mem_cons.mp hm with rfl | hm
    · exact ⟨x, t, rfl⟩
    · exact h3 f hm
theorem w_sortable {a : Addr} {vs : List Value} {k : Value → List Int} (h0 : 0 < vs.length) (hp : ∀ v ∈ vs, IsW s.heap v (k v) ∧ k v ≠ []) (ha : ∀ o, s.heap.get? a = some o → o.cls ≠ .type "tuple") : SrtO.SortableO prog w A s a vs fun v u => ltW (k v) (k u) := by
  intro h' keep
  have hp' : ∀ v ∈ vs, IsW h' v (k v) := fun v hm => (hp v hm).1.keeps fun b o e c => keep b o (fun z => by subst z; exact ha o e c) e
  obtain ⟨fs, h1, h2, h3⟩ := firsts_W (h := h') (k := k) fun v hm => ⟨hp' v hm, (hp v hm).2⟩
  refine ⟨tuples' true, fun Q E hq => ?_, w_cmp hp'⟩
  refine PySem.W.kat_kind (T := .type "int") h1 (by omega) (fun f hm => ?_) (by rfl) ?_
  · obtain ⟨x, t, rfl⟩ := h3 f hm
    exact PySem.W.Looks.now
  · have e : (Value.type "int" != Value.type "tuple") = true := by first | decide +kernel | rfl | decide
    rw [e]
    exact hq
theorem sorted_W {E : Value → Shared → Prop} {l : Addr} {vs : List Value} {k : Value → List Int} {Q : Value → Shared → Prop} (hl : s.heap.IsList l vs.toArray) (hz : vs.length ≤ sizeLine) (hp : 2 ≤ vs.length → ∀ v ∈ vs, IsW s.heap v (k v) ∧ k v ≠ [])
    (h : ∀ (h' : Heap) (d : Addr) (out : List Value), SrtO.Srtd (fun v u => ltW (k v) (k u)) out → SrtO.Stb (fun v u => ltW (k v) (k u)) out vs → (∀ b o, s.heap.get? b = some o → h'.get? b = some o) → s.heap.objs.size ≤ d → (∃ n, h'.get? d = some (seqObj "list" out.toArray n)) → Q (.ref d) { s with heap := h' }) :
    wpAny (model prog w) A (call (.builtin "sorted") [.ref l]) Q E s := by
  refine SrtO.sorted_ord (swo_W k) hl hz (fun h2 h₁ a ha kk => ?_) fun out hs hb => ?_
  · refine w_sortable (s := { s with heap := h₁ }) (by omega) (fun v hm => ⟨(hp h2 v hm).1.keeps fun b o e _ => (kk b o e).2, (hp h2 v hm).2⟩) fun o e => ?_
    have e' : some o = some (seqObj "list" vs.toArray 0) := e.symm.trans ha
    cases e'
    intro c
    exact absurd (Value.type.inj c) (by decide)
  · exact h _ _ out hs hb (fun b o e => sortedAll_old e) (Nat.le_succ _) (sortedAll_at s.heap vs out.toArray)
end
theorem ints_fun : ∀ {l : List Value} {ns ms : List Int}, IntsAre l ns → IntsAre l ms → ns = ms
  | _, _, _, .nil, .nil => rfl
  | _, _, _, .cons n t r, .cons _ _ r2 => by rw [ints_fun r r2]
theorem IsW.fun {h : Heap} {v : Value} {ns ms : List Int} (p : IsW h v ns) (q : IsW h v ms) : ns = ms := by
  obtain ⟨a, o, its, n, e, ho, hc, hd, hi⟩ := p
  obtain ⟨a', o', its', n', e', ho', hc', hd', hi'⟩ := q
  rw [e] at e'
  cases e'
  rw [ho] at ho'
  cases ho'
  rw [hd] at hd'
  cases hd'
  exact ints_fun hi hi'
open Classical in
noncomputable def kWv (h : Heap) (u : Value) : List Int := if p : ∃ ns, IsW h u ns then p.choose else []
theorem kWv_is {h : Heap} {u : Value} {ns : List Int} (p : IsW h u ns) : kWv h u = ns := by
  have z : ∃ ns, IsW h u ns := ⟨ns, p⟩
  have e : kWv h u = z.choose := by
    unfold kWv
    rw [dif_pos z]
  rw [e]
  exact IsW.fun z.choose_spec p
/-- sorted(xs), xs a list of tuples of whole numbers (none empty, if there are two or more): a new list of the same ones -/
def rSortedW (K : PySem.W.Frag) : List V → Hp → VK → Prop := fun vs H Q => ∃ (a : Addr) (rs : List Addr) (wl : List (List Int)), vs = [V.ref a] ∧ SqL K H a (rs.map V.ref) ∧ rs.length = wl.length ∧ (∀ (i : Nat) (r : Addr) (y : List Int), rs[i]? = some r → wl[i]? = some y → SqT K H r (y.map V.int)) ∧ (2 ≤ wl.length → ∀ y ∈ wl, y ≠ []) ∧
  ∀ (qs : List Addr) (zl : List (List Int)) (p : Addr), List.Perm zl wl → zl.Pairwise (fun x y => ltW y x = false) → qs.length = zl.length → (∀ (i : Nat) (r : Addr) (y : List Int), qs[i]? = some r → zl[i]? = some y → SqT K H r (y.map V.int)) → H p = none → Q (.ref p) (upd H p (.lst (qs.map V.ref)))
def adr : Value → Addr
  | .ref a => a
  | _ => 0
section
variable {X : Cx}
theorem cr_sortedW : CallR X (.builtin "sorted") (rSortedW X.K) := by
  intro pins s σ H vs us Q I r h
  obtain ⟨a, rs, wl, rfl, hs, hlen, hx, hne, q⟩ := h
  obtain ⟨its, rv, hl, hz⟩ := I.list hs
  obtain ⟨u, rfl, ru⟩ := vals1 r
  obtain rfl : u = Value.ref a := ru
  have eits : its = rs.map Value.ref := by
    have key : ∀ (rs : List Addr) (its : List Value), Vals (rs.map V.ref) its → its = rs.map Value.ref := by
      intro rs
      induction rs with
      | nil => intro its h; cases h; rfl
      | cons r rs ih =>
        intro its h
        cases h with
        | cons h1 h2 =>
          rw [ih _ h2]
          have : _ = Value.ref r := h1
          rw [this]
          rfl
    exact key rs its rv
  have hw : ∀ i r y, rs[i]? = some r → wl[i]? = some y → IsW s.heap (.ref r) y := fun i r y h1 h2 => by
    obtain ⟨its2, r2, p2, _⟩ := I.tuple (hx i r y h1 h2)
    obtain ⟨o, ho, hc, n, hd⟩ := p2
    exact ⟨r, o, its2.toArray, n, rfl, ho, hc, hd, (Vals.ints r2 : IntsAre its2 y)⟩
  have hk : ∀ i r y, rs[i]? = some r → wl[i]? = some y → kWv s.heap (.ref r) = y := fun i r y h1 h2 => kWv_is (hw i r y h1 h2)
  have emap : its.map (kWv s.heap) = wl := by
    rw [eits, List.map_map]
    refine List.ext_getElem? fun i => ?_
    rw [List.getElem?_map]
    cases e : rs[i]? with
    | none =>
      rw [List.getElem?_eq_none (by have := List.getElem?_eq_none_iff.mp e; omega)]
      rfl
    | some r =>
      have hi := (List.getElem?_eq_some_iff.mp e).1
      obtain ⟨y, hy⟩ : ∃ y, wl[i]? = some y := ⟨_, List.getElem?_eq_getElem (by omega)⟩
      rw [hy]
      show some (kWv s.heap (.ref r)) = some y
      rw [hk i r y e hy]
  have hmem : ∀ v ∈ its, ∃ i r y, v = Value.ref r ∧ rs[i]? = some r ∧ wl[i]? = some y := fun v hv => by
    rw [eits] at hv
    obtain ⟨r, hr, rfl⟩ := List.mem_map.mp hv
    obtain ⟨i, hi⟩ := List.mem_iff_getElem?.mp hr
    have hi2 := (List.getElem?_eq_some_iff.mp hi).1
    exact ⟨i, r, wl[i], rfl, hi, List.getElem?_eq_getElem (by omega)⟩
  refine sorted_W (k := kWv s.heap) hl.isList (by rw [← rv.length]; exact hz) (fun h2 v hv => ?_) fun h' d out h1 h2 kp hd hn => ?_
  · obtain ⟨i, r, y, rfl, e1, e2⟩ := hmem v hv
    rw [hk i r y e1 e2]
    refine ⟨hw i r y e1 e2, hne ?_ y (List.mem_of_getElem? e2)⟩
    rw [eits, List.length_map] at h2
    omega
  · obtain ⟨n, hn⟩ := hn
    have hom : ∀ v ∈ out, ∃ i r y, v = Value.ref r ∧ rs[i]? = some r ∧ wl[i]? = some y := fun v hv => hmem v (h2.perm.mem_iff.mp hv)
    have eout : out = (out.map adr).map Value.ref := by
      rw [List.map_map]
      refine (List.map_id out).symm.trans (List.map_congr_left fun v hv => ?_)
      obtain ⟨i, r, y, rfl, _, _⟩ := hom v hv
      rfl
    have hV : Vals ((out.map adr).map V.ref) out := by
      have key : ∀ l : List Addr, Vals (l.map V.ref) (l.map Value.ref) := by
        intro l
        induction l with
        | nil => exact .nil
        | cons r l ih => exact .cons rfl ih
      have := key (out.map adr)
      rw [← eout] at this
      exact this
    refine ⟨.ref d, upd H d (.lst ((out.map adr).map V.ref)), I.laid (t' := s.toks) kp hd ⟨?_, out, n, hV, hn⟩, rfl, q (out.map adr) (out.map (kWv s.heap)) d ?_ ?_ (by rw [List.length_map, List.length_map]) ?_ (I.hok.fresh hd)⟩
    · rw [List.length_map, List.length_map, h2.perm.length_eq, ← rv.length]
      exact hz
    · have := h2.perm.map (kWv s.heap)
      rw [emap] at this
      exact this
    · exact List.pairwise_map.mpr h1
    · intro i r y e1 e2
      rw [List.getElem?_map] at e1 e2
      cases e : out[i]? with
      | none => rw [e] at e1; cases e1
      | some v =>
        rw [e] at e1 e2
        obtain ⟨j, r', y', rfl, f1, f2⟩ := hom v (List.mem_of_getElem? e)
        cases e1
        cases e2
        rw [hk j _ y' f1 f2]
        exact hx j _ y' f1 f2
end
end Fp

set_option Elab.async false
set_option linter.all false
set_option maxRecDepth 100000
set_option maxHeartbeats 4000000
namespace Fp
open PySem PySem.Spec PyProof.Rows L2
/-! ### sorted(xs), tuples of whole numbers, empty ones too -/
theorem ltW_lex : ∀ x y : List Int, HT.lexLt x y = ltW x y
  | [], [] => rfl
  | [], _ :: _ => rfl
  | _ :: _, [] => rfl
  | x :: xs, y :: ys => by
    show (if x = y then HT.lexLt xs ys else decide (x < y)) = if x = y then ltW xs ys else decide (x < y)
    rw [ltW_lex xs ys]
section
variable {prog : Program} {w : World} {A : Around} {s : Shared}
theorem IsW.tup {h : Heap} {v : Value} {ns : List Int} (p : IsW h v ns) : ∃ a its, v = .ref a ∧ h.IsTuple a its ∧ IntsAre its.toList ns := by
  obtain ⟨a, o, its, n, e, ho, hc, hd, hi⟩ := p
  exact ⟨a, its, e, ⟨o, ho, hc, n, hd⟩, hi⟩
theorem w_cmp_gen {vs : List Value} {k : Value → List Int} (hu : A.units < cLine) (hp : ∀ v ∈ vs, IsW s.heap v (k v)) : SrtO.Cmp prog w A s general' (fun p => p.1 ∈ vs) (SrtO.lt2 fun v u => ltW (k v) (k u)) := by
  intro p q hm hm'
  obtain ⟨a, its, e, ha, hi⟩ := (hp _ hm).tup
  obtain ⟨a', its', e', ha', hi'⟩ := (hp _ hm').tup
  show wpAny (model prog w) A (oneLt' false p.1 q.1) (fun r s' => s' = s ∧ r = ltW (k p.1) (k q.1)) (fun _ _ => False) s
  generalize k p.1 = ns at hi ⊢
  generalize k q.1 = ms at hi' ⊢
  rw [e, e']
  refine PySem.W.kat_one _ _ (HT.lt_tupInts ha ha' hi hi' hu ?_)
  exact (show s = s ∧ HT.lexLt ns ms = ltW ns ms from ⟨rfl, ltW_lex ns ms⟩)
theorem call_ltW {l b : Addr} {items items2 : Array Value} {ns ms : List Int} {E : Value → Shared → Prop} {Q : Value → Shared → Prop} (hl : s.heap.IsTuple l items) (hb : s.heap.IsTuple b items2) (hi : IntsAre items.toList ns) (hj : IntsAre items2.toList ms) (h : Q (.bool (HT.lexLt ns ms)) s) :
    wpAny (model prog w) A (call (.builtin "tuple.__lt__") [.ref l, .ref b]) Q E s := by
  obtain ⟨⟨cls, dd, data, sl⟩, ho, hc, n, hd⟩ := id hl
  obtain ⟨⟨cls2, dd2, data2, sl2⟩, ho2, hc2, n2, hd2⟩ := id hb
  simp only at hc hd hc2 hd2
  subst hc hd hc2 hd2
  exact call_meets PySem.F.slot_tuple_lt ⟨_, ho, rfl⟩ PySem.F.entry_tuple_lt (PySem.F.args_tuple_lt_2 _ _) (HT.tuple_lt_ints l b items items2 n n2 dd dd2 sl sl2 ns ms hi hj) ⟨ho, ho2, h⟩
theorem w_cmp_one {vs : List Value} {k : Value → List Int} (hu : A.units < cLine) (hp : ∀ v ∈ vs, IsW s.heap v (k v)) : SrtO.Cmp prog w A s oneType' (fun p => p.1 ∈ vs) (SrtO.lt2 fun v u => ltW (k v) (k u)) := by
  intro p q hm hm'
  obtain ⟨a, its, e, ha, hi⟩ := (hp _ hm).tup
  obtain ⟨a', its', e', ha', hi'⟩ := (hp _ hm').tup
  show wpAny (model prog w) A (keyLt' oneType' p.1 q.1) (fun r s' => s' = s ∧ r = ltW (k p.1) (k q.1)) (fun _ _ => False) s
  generalize k p.1 = ns at hi ⊢
  generalize k q.1 = ms at hi' ⊢
  rw [e, e', keyLt'_oneType, oneLt'_eq]
  simp only [if_true]
  refine wpAny_bind (wpAny_cRoomFor hu ?_)
  have hT : s.TypeIs (.ref a) "tuple" := by
    obtain ⟨o, ho, hc, _⟩ := ha
    exact ⟨o, ho, hc⟩
  refine wpAny_bind (wpAny_callSpecialIfBound?_slot hT PySem.F.slot_tuple_lt (call_ltW ha ha' hi hi' ?_))
  refine wpAny_truthy_bool ?_
  exact ⟨rfl, ltW_lex ns ms⟩
/-- the first items, of tuples that may be empty -/
def HeadsO (h : Heap) : List Value → List (Option Value) → Prop
  | [], [] => True
  | v :: vs, f :: fs => (∃ a o xs n, v = .ref a ∧ h.get? a = some o ∧ o.cls = .type "tuple" ∧ o.data = .seq xs n ∧ xs[0]? = f) ∧ HeadsO h vs fs
  | _, _ => False
theorem heads_run {M : Model} {E : Value → Shared → Prop} : ∀ (vs : List Value) (fs : List (Option Value)) {Q : List (Option Value) → Shared → Prop}, HeadsO s.heap vs fs → Q fs s → wpAny M A (vs.mapM firstOfTuple') Q E s
  | [], [], _, _, h => by rw [List.mapM_nil]; exact wpAny_pure h
  | [], _ :: _, _, t, _ => t.elim
  | _ :: _, [], _, t, _ => t.elim
  | v :: vs, f :: fs, Q, t, h => by
    obtain ⟨⟨a, o, xs, n, rfl, ho, hc, hd, hf⟩, t⟩ := t
    rw [List.mapM_cons]
    refine wpAny_bind ?_
    rw [PySem.W.kas_first_eq]
    refine wpAny_bind (PySem.W.Looks.here (show PySem.W.Looks M s.heap (typeOf (.ref a)) o.cls from (PySem.W.Looks.ld ho).andThen .now) ?_)
    rw [hc, if_neg (by first | decide | simp)]
    refine wpAny_bind (listItems_at ho hd (wpAny_pure ?_))
    rw [hf]
    exact wpAny_bind (heads_run vs fs (Q := fun bs s' => wpAny M A (pure (f :: bs)) Q E s') t (wpAny_pure h))
theorem heads_of {h : Heap} : ∀ {vs : List Value} {k : Value → List Int}, (∀ v ∈ vs, IsW h v (k v)) → ∃ fs : List (Option Value), HeadsO h vs fs ∧ fs.length = vs.length ∧ ∀ (i : Nat) (v : Value), vs[i]? = some v → ∃ f, fs[i]? = some f ∧ (f = none ↔ k v = [])
  | [], _, _ => ⟨[], trivial, rfl, fun i v h => by simp at h⟩
  | v :: vs, k, hp => by
    obtain ⟨fs, h1, h2, h3⟩ := heads_of (vs := vs) fun v' hm => hp v' (List.mem_cons_of_mem _ hm)
    obtain ⟨a, o, its, n, e, ho, hc, hd, hi⟩ := hp v (List.mem_cons_self ..)
    refine ⟨its[0]? :: fs, ⟨⟨a, o, its, n, e, ho, hc, hd, rfl⟩, h1⟩, by rw [List.length_cons, List.length_cons, h2], fun i u hu => ?_⟩
    match i, hu with
    | 0, hu =>
      cases Option.some.inj hu
      refine ⟨_, rfl, ?_⟩
      rw [← Array.getElem?_toList]
      generalize k v = ns at hi
      generalize its.toList = l at hi
      cases hi with
      | nil => exact ⟨fun _ => rfl, fun _ => rfl⟩
      | cons x t r => exact ⟨fun z => by simp at z, fun z => by simp at z⟩
    | i + 1, hu => exact h3 i u hu
theorem kind_other {M : Model} {E : Value → Shared → Prop} {vs : List Value} {fs : List (Option Value)} {Q : SortKind → Shared → Prop} (t : HeadsO s.heap vs fs) (h0 : 0 < vs.length) (hn : fs.all (·.isSome) = false) (hT : ∀ v ∈ vs, PySem.W.Looks M s.heap (typeOf v) (Value.type "tuple")) (q1 : (∃ f, fs[0]? = some (some f)) → Q general' s) (q2 : fs[0]? = some none → Q oneType' s) :
    wpAny M A (keyKind' vs.toArray) Q E s := by
  rw [kat_kind_eq, List.mapM_toArray, map_eq_pure_bind]
  refine wpAny_bind (wpAny_bind (heads_run vs fs t (wpAny_pure ?_)))
  have hall : (fs.toArray.all fun x => x.isSome) = false := by simpa using hn
  rw [if_neg (by rw [hall]; exact Bool.false_ne_true)]
  have hfl : 0 < fs.length := by
    cases fs with
    | nil =>
      cases vs with
      | nil => exact absurd h0 (by decide)
      | cons _ _ => exact t.elim
    | cons _ _ => exact Nat.succ_pos _
  obtain ⟨f0, hf0⟩ : ∃ f0, fs[0]? = some f0 := ⟨_, List.getElem?_eq_getElem hfl⟩
  have ha0 : fs.toArray[0]? = some f0 := by simpa using hf0
  rw [ha0]
  cases f0 with
  | some f =>
    rw [if_pos (by rfl)]
    exact wpAny_pure (q1 ⟨f, hf0⟩)
  | none =>
    rw [if_neg (by simp)]
    rw [oneTypeOnly'_eq, List.mapM_toArray, map_eq_pure_bind]
    refine wpAny_bind (wpAny_bind (wpAny_bind (PySem.W.kas_mapM (r := Value.type "tuple") _ (fun v hv Q' hq => (hT v hv).here hq) (wpAny_pure ?_))))
    have hall2 : ((List.map (fun _ => Value.type "tuple") vs).toArray.all fun x => x == Value.type "tuple") = true := by
      simp only [List.all_toArray, List.all_map, List.all_eq_true]
      intro _ _
      rfl
    have h00 : (List.map (fun _ => Value.type "tuple") vs).toArray[0]? = some (Value.type "tuple") := by
      cases vs with
      | nil => exact absurd h0 (by decide)
      | cons _ _ => simp
    rw [h00]
    simp only [hall2, if_true]
    exact wpAny_pure (wpAny_pure (q2 hf0))
theorem x_sortable {a : Addr} {vs : List Value} {k : Value → List Int} (hu : A.units < cLine) (h0 : 0 < vs.length) (hp : ∀ v ∈ vs, IsW s.heap v (k v)) (ha : ∀ o, s.heap.get? a = some o → o.cls ≠ .type "tuple") : SrtO.SortableO prog w A s a vs fun v u => ltW (k v) (k u) := by
  by_cases hne : ∀ v ∈ vs, k v ≠ []
  · exact w_sortable h0 (fun v hv => ⟨hp v hv, hne v hv⟩) ha
  · intro h' keep
    have hp' : ∀ v ∈ vs, IsW h' v (k v) := fun v hm => (hp v hm).keeps fun b o e c => keep b o (fun z => by subst z; exact ha o e c) e
    obtain ⟨fs, h1, h2, h3⟩ := heads_of (h := h') (k := k) hp'
    have hn : fs.all (·.isSome) = false := by
      rw [List.all_eq_false]
      have : ∃ v ∈ vs, k v = [] := by
        rcases Classical.em (∃ v ∈ vs, k v = []) with z | z
        · exact z
        · exact absurd (fun v hv e => z ⟨v, hv, e⟩) hne
      obtain ⟨v, hv, e⟩ := this
      obtain ⟨i, hi⟩ := List.mem_iff_getElem?.mp hv
      obtain ⟨f, hf, hff⟩ := h3 i v hi
      refine ⟨f, List.mem_of_getElem? hf, ?_⟩
      rw [hff.mpr e]
      decide
    have hT : ∀ v ∈ vs, PySem.W.Looks (model prog w) h' (typeOf v) (Value.type "tuple") := fun v hv => by
      obtain ⟨a, o, its, n, rfl, ho, hc, hd, hi⟩ := hp' v hv
      exact hc ▸ (PySem.W.Looks.ld ho).andThen .now
    cases e0 : fs[0]? with
    | none => exact absurd (List.getElem?_eq_none_iff.mp e0) (by omega)
    | some f0 =>
      cases f0 with
      | some f => exact ⟨general', fun Q E hq => kind_other (s := { s with heap := h' }) h1 h0 hn hT (fun _ => hq) (fun z => by rw [e0] at z; cases z), w_cmp_gen hu hp'⟩
      | none => exact ⟨oneType', fun Q E hq => kind_other (s := { s with heap := h' }) h1 h0 hn hT (fun z => by obtain ⟨f, z⟩ := z; rw [e0] at z; cases z) (fun _ => hq), w_cmp_one hu hp'⟩
theorem sorted_X {E : Value → Shared → Prop} {l : Addr} {vs : List Value} {k : Value → List Int} {Q : Value → Shared → Prop} (hu : A.units + 64 < cLine) (hl : s.heap.IsList l vs.toArray) (hz : vs.length ≤ sizeLine) (hp : ∀ v ∈ vs, IsW s.heap v (k v))
    (h : ∀ (h' : Heap) (d : Addr) (out : List Value), SrtO.Srtd (fun v u => ltW (k v) (k u)) out → SrtO.Stb (fun v u => ltW (k v) (k u)) out vs → (∀ b o, s.heap.get? b = some o → h'.get? b = some o) → s.heap.objs.size ≤ d → (∃ n, h'.get? d = some (seqObj "list" out.toArray n)) → Q (.ref d) { s with heap := h' }) :
    wpAny (model prog w) A (call (.builtin "sorted") [.ref l]) Q E s := by
  refine SrtO.sorted_ord (swo_W k) hl hz (fun h2 h₁ a ha kk => ?_) fun out hs hb => ?_
  · refine x_sortable (s := { s with heap := h₁ }) (by simp only [Around.in1_units]; omega) (by omega) (fun v hm => (hp v hm).keeps fun b o e _ => (kk b o e).2) fun o e => ?_
    have e' : some o = some (seqObj "list" vs.toArray 0) := e.symm.trans ha
    cases e'
    intro c
    exact absurd (Value.type.inj c) (by decide)
  · exact h _ _ out hs hb (fun b o e => sortedAll_old e) (Nat.le_succ _) (sortedAll_at s.heap vs out.toArray)
end
/-- sorted(xs), xs a list of tuples of whole numbers : a new list of the same ones -/
def rSortedX (K : PySem.W.Frag) : List V → Hp → VK → Prop := fun vs H Q => ∃ (a : Addr) (rs : List Addr) (wl : List (List Int)), vs = [V.ref a] ∧ SqL K H a (rs.map V.ref) ∧ rs.length = wl.length ∧ (∀ (i : Nat) (r : Addr) (y : List Int), rs[i]? = some r → wl[i]? = some y → SqT K H r (y.map V.int)) ∧
  ∀ (qs : List Addr) (zl : List (List Int)) (p : Addr), List.Perm zl wl → zl.Pairwise (fun x y => ltW y x = false) → qs.length = zl.length → (∀ (i : Nat) (r : Addr) (y : List Int), qs[i]? = some r → zl[i]? = some y → SqT K H r (y.map V.int)) → H p = none → Q (.ref p) (upd H p (.lst (qs.map V.ref)))
section
variable {X : Cx}
theorem cr_sortedX (hu : X.A.units + 64 < cLine) : CallR X (.builtin "sorted") (rSortedX X.K) := by
  intro pins s σ H vs us Q I r h
  obtain ⟨a, rs, wl, rfl, hs, hlen, hx, q⟩ := h
  obtain ⟨its, rv, hl, hz⟩ := I.list hs
  obtain ⟨u, rfl, ru⟩ := vals1 r
  obtain rfl : u = Value.ref a := ru
  have eits : its = rs.map Value.ref := by
    have key : ∀ (rs : List Addr) (its : List Value), Vals (rs.map V.ref) its → its = rs.map Value.ref := by
      intro rs
      induction rs with
      | nil => intro its h; cases h; rfl
      | cons r rs ih =>
        intro its h
        cases h with
        | cons h1 h2 =>
          rw [ih _ h2]
          have : _ = Value.ref r := h1
          rw [this]
          rfl
    exact key rs its rv
  have hw : ∀ i r y, rs[i]? = some r → wl[i]? = some y → IsW s.heap (.ref r) y := fun i r y h1 h2 => by
    obtain ⟨its2, r2, p2, _⟩ := I.tuple (hx i r y h1 h2)
    obtain ⟨o, ho, hc, n, hd⟩ := p2
    exact ⟨r, o, its2.toArray, n, rfl, ho, hc, hd, (Vals.ints r2 : IntsAre its2 y)⟩
  have hk : ∀ i r y, rs[i]? = some r → wl[i]? = some y → kWv s.heap (.ref r) = y := fun i r y h1 h2 => kWv_is (hw i r y h1 h2)
  have emap : its.map (kWv s.heap) = wl := by
    rw [eits, List.map_map]
    refine List.ext_getElem? fun i => ?_
    rw [List.getElem?_map]
    cases e : rs[i]? with
    | none =>
      rw [List.getElem?_eq_none (by have := List.getElem?_eq_none_iff.mp e; omega)]
      rfl
    | some r =>
      have hi := (List.getElem?_eq_some_iff.mp e).1
      obtain ⟨y, hy⟩ : ∃ y, wl[i]? = some y := ⟨_, List.getElem?_eq_getElem (by omega)⟩
      rw [hy]
      show some (kWv s.heap (.ref r)) = some y
      rw [hk i r y e hy]
  have hmem : ∀ v ∈ its, ∃ i r y, v = Value.ref r ∧ rs[i]? = some r ∧ wl[i]? = some y := fun v hv => by
    rw [eits] at hv
    obtain ⟨r, hr, rfl⟩ := List.mem_map.mp hv
    obtain ⟨i, hi⟩ := List.mem_iff_getElem?.mp hr
    have hi2 := (List.getElem?_eq_some_iff.mp hi).1
    exact ⟨i, r, wl[i], rfl, hi, List.getElem?_eq_getElem (by omega)⟩
  refine sorted_X (k := kWv s.heap) hu hl.isList (by rw [← rv.length]; exact hz) (fun v hv => ?_) fun h' d out h1 h2 kp hd hn => ?_
  · obtain ⟨i, r, y, rfl, e1, e2⟩ := hmem v hv
    rw [hk i r y e1 e2]
    exact hw i r y e1 e2
  · obtain ⟨n, hn⟩ := hn
    have hom : ∀ v ∈ out, ∃ i r y, v = Value.ref r ∧ rs[i]? = some r ∧ wl[i]? = some y := fun v hv => hmem v (h2.perm.mem_iff.mp hv)
    have eout : out = (out.map adr).map Value.ref := by
      rw [List.map_map]
      refine (List.map_id out).symm.trans (List.map_congr_left fun v hv => ?_)
      obtain ⟨i, r, y, rfl, _, _⟩ := hom v hv
      rfl
    have hV : Vals ((out.map adr).map V.ref) out := by
      have key : ∀ l : List Addr, Vals (l.map V.ref) (l.map Value.ref) := by
        intro l
        induction l with
        | nil => exact .nil
        | cons r l ih => exact .cons rfl ih
      have := key (out.map adr)
      rw [← eout] at this
      exact this
    refine ⟨.ref d, upd H d (.lst ((out.map adr).map V.ref)), I.laid (t' := s.toks) kp hd ⟨?_, out, n, hV, hn⟩, rfl, q (out.map adr) (out.map (kWv s.heap)) d ?_ ?_ (by rw [List.length_map, List.length_map]) ?_ (I.hok.fresh hd)⟩
    · rw [List.length_map, List.length_map, h2.perm.length_eq, ← rv.length]
      exact hz
    · have := h2.perm.map (kWv s.heap)
      rw [emap] at this
      exact this
    · exact List.pairwise_map.mpr h1
    · intro i r y e1 e2
      rw [List.getElem?_map] at e1 e2
      cases e : out[i]? with
      | none => rw [e] at e1; cases e1
      | some v =>
        rw [e] at e1 e2
        obtain ⟨j, r', y', rfl, f1, f2⟩ := hom v (List.mem_of_getElem? e)
        cases e1
        cases e2
        rw [hk j _ y' f1 f2]
        exact hx j _ y' f1 f2
end
end Fp

set_option Elab.async false
set_option linter.all false
set_option maxRecDepth 100000
set_option maxHeartbeats 4000000
namespace Fp
open PySem PySem.Spec PyProof.Rows L2
/-! ### sum(xs), a tuple of whole numbers -/
def rSumT (K : PySem.W.Frag) : List V → Hp → VK → Prop := fun vs H Q => ∃ (a : Addr) (ns : List Int), vs = [V.ref a] ∧ SqT K H a (ns.map V.int) ∧ Q (.int ns.sum) H
section
variable {X : Cx}
theorem cr_sumT (hc : X.calm = true) : CallR X (.builtin "sum") (rSumT X.K) := by
  intro pins s σ H vs us Q I r h
  obtain ⟨a, ns, rfl, hs, q⟩ := h
  obtain ⟨its, rv, hl, _⟩ := I.tuple hs
  rw [Vals.ref1 r]
  have hi := rv.ints
  obtain ⟨xs, e⟩ := hi.allInts.items
  have hn : numsOf (intItems xs).toList = ns := by rw [← e]; exact hi.numsOf
  rw [nums_intItems] at hn
  rw [e] at hl
  refine PySem.W.ktm_sumG (I.ok.hd hc) hl fun h' tk t' hk => ?_
  rw [preSum_eq, List.take_of_length_le (by simp), hn]
  exact ⟨.int _, H, I.kept hk, ⟨_, rfl⟩, q⟩
end
end Fp

set_option Elab.async false
set_option linter.all false
set_option maxRecDepth 100000
set_option maxHeartbeats 4000000
set_option exponentiation.threshold 10000
namespace Fp
open PySem PySem.Spec PyProof.Rows L2
def topS (i : Nat) : Stmt := PySem.Challenge.pw_freshparts_k19_things_that_are_no_papers.main.body.getD i (.Pass ⟨0, 0, 0, 0⟩)
abbrev s_cd : Stmt := topS 15
theorem sc_cd : FnScope ["one", "other", "great", "small"] ["one", "other"] (defScope s_cd) := ⟨rfl, rfl, rfl, by decide +kernel, rfl, by decide +kernel, by decide +kernel⟩

/-! ### the greatest common divisor -/
theorem abs_if (i : Int) : (if i < 0 then -i else i) = (i.natAbs : Int) := by split <;> omega
theorem gcd_turn {g s : Int} (hs : 0 < s) (hg : 0 ≤ g) : Int.gcd s (g.fmod s) = Int.gcd g s := by
  obtain ⟨n, rfl⟩ := Int.eq_ofNat_of_zero_le hg
  obtain ⟨m, rfl⟩ := Int.eq_ofNat_of_zero_le (Int.le_of_lt hs)
  rw [Int.fmod_eq_emod_of_nonneg _ (Int.le_of_lt hs)]
  show Nat.gcd m ((n : Int) % (m : Int)).natAbs = Nat.gcd n m
  rw [show ((n : Int) % (m : Int)) = ((n % m : Nat) : Int) from (Int.natCast_emod n m).symm, Int.natAbs_natCast, Nat.gcd_comm n m, Nat.gcd_comm m (n % m)]
  exact (Nat.gcd_rec m n).symm

section
variable {P : Program} {w : World} {K : PySem.W.Frag} {mg : Str → Option Value} {base : Heap}
def spCd : Sp := fun vs H Q _ => ∃ a b : Int, vs = [.int a, .int b] ∧ Q (.int (Int.gcd a b : Nat)) H
theorem ok_cd {f : Addr} {fd : FuncData} {k : Nat} (F : Fun K "common_divisor" "common_divisor" s_cd f fd) (ma : mg "abs" = none) : FnOk P w K mg base CX0 (k + 1) f fd ["one", "other"] spCd := by
  refine F.ok sc_cd (fun vs H Q E h => ?_) (fun cdv A outer s H vs Q E hr h => ?_)
  · obtain ⟨a, b, rfl, _⟩ := h
    rfl
  · obtain ⟨a, b, rfl, q⟩ := h
    refine ⟨_, pss_cons (ps_par (i := 2) (j := 3) rfl sc_cd.nd rfl rfl (by decide) rfl rfl (pa_cons (pe_callB call_abs (by rfl) ma (by decide +kernel) (pa_cons (pv 0) pa_nil)) (pa_cons (pe_callB call_abs (by rfl) ma (by decide +kernel) (pa_cons (pv 1) pa_nil)) pa_nil)) (by rfl))
      (pss_cons (ps_while PassesOwn.never (pt_cmpR op_ne (pv 3) pe_int (nomark _)) (pss_one (ps_par (i := 2) (j := 3) rfl sc_cd.nd rfl rfl (by decide) rfl rfl (pa_cons (pv 3) (pa_cons (pe_op op_modN (pv 2) (pv 3)) pa_nil)) (by rfl))))
      (pss_one (ps_ret (pv 2)))), ?_⟩
    refine ⟨_, rfl, a, rfl, _, rfl, b, rfl, _, _, rfl, ?_⟩
    refine while_by (fun σ H1 => H1 = H ∧ ∃ g s : Int, σ = [some (.int a), some (.int b), some (.int g), some (.int s)] ∧ 0 ≤ g ∧ 0 ≤ s ∧ Int.gcd g s = Int.gcd a b)
      (fun σ _ => match σ with | [_, _, _, some (.int s)] => s.toNat | _ => 0) ?_ ?_ ?_
    · refine ⟨rfl, _, _, rfl, ?_, ?_, ?_⟩
      · rw [abs_if]; omega
      · rw [abs_if]; omega
      · rw [abs_if, abs_if]
        show Nat.gcd _ _ = Nat.gcd _ _
        rw [Int.natAbs_natCast, Int.natAbs_natCast]
    · rintro σ H1 ⟨rfl, g, s, rfl, hg, hs, e⟩
      refine ⟨_, rfl, rfl, _, rfl, ite2 (fun c => ?_) (fun c => ?_)⟩
      · have hs0 : s ≠ 0 := fun z => by
          rw [z] at c
          exact absurd c (by decide)
        have hp : 0 < s := by omega
        have lt : s > g.fmod s := Int.fmod_lt_of_pos g hp
        have nn : 0 ≤ g.fmod s := Int.fmod_nonneg_of_pos g hp
        refine ⟨_, rfl, _, rfl, _, rfl, g, s, rfl, rfl, hs0, _, _, rfl, ⟨rfl, s, g.fmod s, rfl, hs, nn, ?_⟩, ?_⟩
        · rw [gcd_turn hp hg]; exact e
        · show (g.fmod s).toNat < s.toNat
          omega
      · have hs0 : s = 0 := by
          rcases Classical.em (s = 0) with z | z
          · exact z
          · exact absurd (show (!decide (V.int s = V.int 0)) = true by simp [z]) c
        subst hs0
        refine ⟨_, rfl, ?_⟩
        have eg : g = ((Int.gcd a b : Nat) : Int) := by
          rw [← e, Int.gcd_zero_right]
          omega
        rw [eg]
        exact q
    · intro σ H1 Q1 Q2 hq h
      obtain ⟨v, e1, e2, k, e3, h⟩ := h
      exact ⟨v, e1, e2, k, e3, hq _ _ h⟩
end

end Fp

set_option Elab.async false
set_option linter.all false
set_option maxRecDepth 100000
set_option maxHeartbeats 4000000
set_option exponentiation.threshold 10000
namespace Fp
open PySem PySem.Spec PyProof.Rows L2
/-! ### ratio -/
def ratG (t b : Int) : Int := if b < 0 then -((Int.gcd t b : Nat) : Int) else ((Int.gcd t b : Nat) : Int)
def ratT (t b : Int) : Int := t.fdiv (ratG t b)
def ratB (t b : Int) : Int := b.fdiv (ratG t b)
theorem gcd_le {t b : Int} (h : b ≠ 0) : 0 < Int.gcd t b ∧ Int.gcd t b ≤ b.natAbs := by
  have hb : 0 < b.natAbs := by omega
  exact ⟨Nat.gcd_pos_of_pos_right _ hb, Nat.gcd_le_right _ hb⟩
theorem ratG_ok {t b : Int} {n : Nat} (h : b ≠ 0) (hb : b.natAbs < 2 ^ n) (hn : n ≤ 9000) (h0 : 0 < n) : CDivA t (ratG t b) ∧ CDivA b (ratG t b) := by
  obtain ⟨h1, h2⟩ := gcd_le (t := t) h
  have e : (ratG t b).natAbs = Int.gcd t b := by
    unfold ratG
    split <;> omega
  have ne : ratG t b ≠ 0 := by omega
  have l : (ratG t b).natAbs.log2 < 9000 := by
    rw [e]
    exact Nat.lt_of_lt_of_le ((Nat.log2_lt (by omega)).mpr (Nat.lt_of_le_of_lt h2 hb)) hn
  exact ⟨⟨ne, l⟩, ⟨ne, l⟩⟩

end Fp

set_option Elab.async false
set_option linter.all false
set_option maxRecDepth 100000
set_option maxHeartbeats 4000000
set_option exponentiation.threshold 10000
namespace Fp
open PySem PySem.Spec PyProof.Rows L2
/-! ### the refusals -/
/-- where the classes stand -/
structure EC where
  F : Addr
  N : Addr
  A : Addr
  B : Addr
  P : Addr
  T : Addr
  X : Addr
  L : Addr
  M : Addr
  R : Addr
/-- what the written part says of such a class, all at once -/
def errB (K : PySem.W.Frag) (C : Addr) : Bool :=
  decide (PySem.W.findIn K (.ref C) "__setattr__" = some (some (.builtin "object.__setattr__"))) && (decide (PySem.W.subIn K (.ref C) (.type "BaseException") = some true) && (decide (PySem.W.typeIn K (.ref C) = some (.type "type")) && (PySem.W.keepIn K (.ref C) && (PySem.W.hasDictIn K C && (PySem.W.isClsIn K C &&
  (decide (PySem.W.findIn K (.ref C) "__getattribute__" = some (some (.builtin "BaseException.__getattribute__"))) && (decide (PySem.W.findIn K (.ref C) "__getattr__" = some none) && (decide (PySem.W.findIn K (.ref C) "__class__" = some (some (.builtin "object.__class__"))) &&
  (decide (PySem.W.specialIn K (.builtin "object.__class__") "__get__" = some (some (.builtin "getset_descriptor.__get__"))) && (decide (PySem.W.takesIn K (.builtin "object.__class__") = some true) && decide (PySem.W.mroIn K C (.type "object") = some true)))))))))))
theorem errB_ok {K : PySem.W.Frag} {C : Addr} (h : errB K C = true) : ExcC K C ∧ XfC K C ∧ PySem.W.findIn K (.ref C) "__setattr__" = some (some (.builtin "object.__setattr__")) ∧ PySem.W.typeIn K (.ref C) = some (.type "type") ∧ PySem.W.keepIn K (.ref C) = true ∧ PySem.W.isClsIn K C = true := by
  unfold errB at h
  simp only [Bool.and_eq_true, decide_eq_true_eq] at h
  obtain ⟨h1, h2, h3, h4, h5, h6, h7, h8, h9, h10, h11, h12⟩ := h
  exact ⟨⟨h7, h8, h2, h5, h9, h10, h11, h12⟩, ⟨h7, h8, h2, h5⟩, h1, h3, h4, h6⟩
/-- what isinstance tells of an instance of D, class by class -/
def kitsB (K : PySem.W.Frag) (D : Addr) (l : List (Value × Bool)) : Bool := l.all fun p => decide (PySem.W.kitOne K (.ref D) p.1 = some p.2)
theorem kits_at {K : PySem.W.Frag} {D : Addr} {l : List (Value × Bool)} (h : kitsB K D l = true) {c : Value} {b : Bool} (m : (c, b) ∈ l) : PySem.W.kitOne K (.ref D) c = some b := by
  unfold kitsB at h
  exact of_decide_eq_true (List.all_eq_true.mp h _ m)
theorem kits_none {K : PySem.W.Frag} {D : Addr} {l : List (Value × Bool)} (h : kitsB K D l = true) : ∀ (cs : List Value), (∀ c ∈ cs, (c, false) ∈ l) → PySem.W.kitAny K (.ref D) cs = some false
  | [], _ => rfl
  | c :: cs, m => kitAny_cons (kits_at h (m c (List.mem_cons_self ..))) (fun _ => kits_none h cs fun d hd => m d (List.mem_cons_of_mem _ hd)) (fun z => nomatch z)
section
variable {P : Program} {w : World} {K : PySem.W.Frag} {mg : Str → Option Value} {base : Heap}
abbrev s_iF : Stmt := inClass (topS 1) 0
theorem sc_iF : FnScope ["self", "text"] ["self", "text"] (defScope s_iF) := ⟨rfl, rfl, rfl, by decide +kernel, rfl, by decide +kernel, by decide +kernel⟩
/-- the base of them all -/
structure ErrF (K : PySem.W.Frag) (mg : Str → Option Value) (CF fF : Addr) (fdF : FuncData) : Prop where
  g : mg "FreshError" = some (.ref CF)
  c : ClsFn K CF "__init__" fF
  F : Fun K "__init__" "FreshError.__init__" s_iF fF fdF
  b : Binds K fdF ["self", "text"] []
  mV : mg "ValueError" = none
  vV : PySem.W.findCls K (.type "ValueError") (.type "type") "__init__" = some (.val (.builtin "ValueError.__init__"))
theorem ok_iF {CF fF : Addr} {fdF : FuncData} (T : ErrF K mg CF fF fdF) : FnOk P w K mg base CX0 1 fF fdF ["self", "text"] (spIni1 K) := by
  refine T.F.ok sc_iF (fun vs H Q E h => ?_) (fun cdv A outer s H vs Q E hr h => ?_)
  · obtain ⟨a, C, y, rfl, _⟩ := h
    rfl
  · obtain ⟨a, C, y, rfl, o, ea, q⟩ := h
    refine ⟨_, pss_one (ps_expr (pe_veinit (by rfl) T.mV T.vV (pa_cons (pv 0) (pa_cons (pv 1) pa_nil)))), ?_⟩
    exact ⟨_, rfl, _, rfl, a, C, [y], rfl, by show 1 ≤ 1000; decide, o, ea, q⟩
/-- a class over it -/
structure ErrC (K : PySem.W.Frag) (mg : Str → Option Value) (x qual : Str) (st : Stmt) (ps : List Str) (C f : Addr) (fd : FuncData) : Prop where
  g : mg x = some (.ref C)
  o : OexC K C
  i : PySem.W.findIn K (.ref C) "__init__" = some (some (.ref f))
  t : PySem.W.typeIn K (.ref f) = some (.type "function")
  F : Fun K "__init__" qual st f fd
  b : Binds K fd ps []
  x : errB K C = true
theorem ErrC.xc {x qual : Str} {st : Stmt} {ps : List Str} {C f : Addr} {fd : FuncData} (T : ErrC K mg x qual st ps C f fd) : ExcC K C := (errB_ok T.x).1
theorem ErrC.xf {x qual : Str} {st : Stmt} {ps : List Str} {C f : Addr} {fd : FuncData} (T : ErrC K mg x qual st ps C f fd) : XfC K C := (errB_ok T.x).2.1
/-- the promises of their __init__: nothing, one field, two -/
def spI1 (K : PySem.W.Frag) (f : Str) : Sp := fun vs H Q _ => ∃ (a C : Addr) (y : V), vs = [.ref a, y] ∧ OexC K C ∧ PySem.W.findIn K (.ref C) f = some none ∧ H a = some (exo a C none) ∧
  ∀ d, H d = none → d ≠ a → Q .non (upd (upd H d (exd d [(f, y)])) a (exo a C (some d)))
def spI2 (K : PySem.W.Frag) (f1 f2 : Str) : Sp := fun vs H Q _ => ∃ (a C : Addr) (y z : V), vs = [.ref a, y, z] ∧ OexC K C ∧ PySem.W.findIn K (.ref C) f1 = some none ∧ PySem.W.findIn K (.ref C) f2 = some none ∧ H a = some (exo a C none) ∧
  ∀ d, H d = none → d ≠ a → Q .non (upd (upd (upd H d (exd d [(f1, y)])) a (exo a C (some d))) d (exd d [(f2, z), (f1, y)]))
theorem exc_eq {H : Hp} {a C d : Addr} {fs : List (Str × V)} {fo : HO} {G : Hp} (na : H a = none) (nd : d ≠ a) (hG : ∀ b, b ≠ a → b ≠ d → G b = H b) : upd (del G a) d (.xd fs) = upd H d (.xd fs) := by
  funext b
  by_cases e : b = d
  · rw [e, upd_same, upd_same]
  · rw [upd_ne e, upd_ne e]
    by_cases e2 : b = a
    · rw [e2, del_same, na]
    · rw [del_ne e2]
      exact hG b e2 e
/-- C(y) raised -/
theorem raise1 {C : Addr} {f : Str} {y : V} {H : Hp} {W : XK} (o : OexC K C) (no : PySem.W.findIn K (.ref C) f = some none) (q : ∀ d, H d = none → W (.ref C) (some d) (upd H d (.xd [(f, y)]))) :
    [y].length ≤ 1000 ∧ ∀ a, H a = none → spI1 K f (.ref a :: ([y] ++ [])) (upd H a (exo a C none)) (fun v H2 => v = .non ∧ ∃ (d : Addr) (fs : List (Str × V)), H2 a = some (exo a C (some d)) ∧ H2 d = some (exd d fs) ∧ H d = none ∧ W (.ref C) (some d) (upd (del H2 a) d (.xd fs))) (fun _ _ _ => False) := by
  refine ⟨by show 1 ≤ 1000; decide, fun a na => ⟨a, C, y, rfl, o, no, upd_same, fun d nd ne => ?_⟩⟩
  have nd0 : H d = none := by
    rw [upd_ne ne] at nd
    exact nd
  refine ⟨rfl, d, [(f, y)], upd_same, by rw [upd_ne ne, upd_same], nd0, ?_⟩
  rw [exc_eq (H := H) (fo := .xd []) (C := C) na ne fun b h1 h2 => by rw [upd_ne h1, upd_ne h2, upd_ne h1]]
  exact q d nd0
/-- C(y, z) raised -/
theorem raise2 {C : Addr} {f1 f2 : Str} {y z : V} {H : Hp} {W : XK} (o : OexC K C) (no1 : PySem.W.findIn K (.ref C) f1 = some none) (no2 : PySem.W.findIn K (.ref C) f2 = some none) (q : ∀ d, H d = none → W (.ref C) (some d) (upd H d (.xd [(f2, z), (f1, y)]))) :
    [y, z].length ≤ 1000 ∧ ∀ a, H a = none → spI2 K f1 f2 (.ref a :: ([y, z] ++ [])) (upd H a (exo a C none)) (fun v H2 => v = .non ∧ ∃ (d : Addr) (fs : List (Str × V)), H2 a = some (exo a C (some d)) ∧ H2 d = some (exd d fs) ∧ H d = none ∧ W (.ref C) (some d) (upd (del H2 a) d (.xd fs))) (fun _ _ _ => False) := by
  refine ⟨by show 2 ≤ 1000; decide, fun a na => ⟨a, C, y, z, rfl, o, no1, no2, upd_same, fun d nd ne => ?_⟩⟩
  have nd0 : H d = none := by
    rw [upd_ne ne] at nd
    exact nd
  refine ⟨rfl, d, [(f2, z), (f1, y)], by rw [upd_ne (Ne.symm ne), upd_same], upd_same, nd0, ?_⟩
  rw [exc_eq (H := H) (fo := .xd []) (C := C) na ne fun b h1 h2 => by rw [upd_ne h2, upd_ne h1, upd_ne h2, upd_ne h1]]
  exact q d nd0
end
section
variable {P : Program} {w : World} {K : PySem.W.Frag} {mg : Str → Option Value} {base : Heap} {CF fF C f : Addr} {fdF fd : FuncData}
abbrev s_iN : Stmt := inClass (topS 2) 0
theorem sc_iN : FnScope ["self"] ["self"] (defScope s_iN) := ⟨rfl, rfl, rfl, by decide +kernel, rfl, by decide +kernel, by decide +kernel⟩
abbrev ErrN (K : PySem.W.Frag) (mg : Str → Option Value) (C f : Addr) (fd : FuncData) : Prop := ErrC K mg "NoRatio" "NoRatio.__init__" s_iN ["self"] C f fd
theorem ok_iN (TF : ErrF K mg CF fF fdF) (T : ErrN K mg C f fd) : FnOk P w K mg base CX0 2 f fd ["self"] (spIni K) := by
  refine T.F.ok sc_iN (fun vs H Q E h => ?_) (fun cdv A outer s H vs Q E hr h => ?_)
  · obtain ⟨a, C, rfl, _⟩ := h
    rfl
  · obtain ⟨a, C, rfl, o, ea, q⟩ := h
    refine ⟨_, pss_one (ps_expr (pe_clsfn TF.c (ok_iF TF) hr (by rfl) TF.g TF.b pass0 (pa_cons (pv 0) (pa_cons pe_str pa_nil)))), ?_⟩
    exact ⟨_, rfl, a, C, _, rfl, o, ea, q⟩
abbrev s_iA : Stmt := inClass (topS 3) 0
theorem sc_iA : FnScope ["self", "age"] ["self", "age"] (defScope s_iA) := ⟨rfl, rfl, rfl, by decide +kernel, rfl, by decide +kernel, by decide +kernel⟩
abbrev ErrA (K : PySem.W.Frag) (mg : Str → Option Value) (C f : Addr) (fd : FuncData) : Prop := ErrC K mg "NoAge" "NoAge.__init__" s_iA ["self", "age"] C f fd
theorem ok_iA (TF : ErrF K mg CF fF fdF) (T : ErrA K mg C f fd) : FnOk P w K mg base CX0 2 f fd ["self", "age"] (spI1 K "age") := by
  refine T.F.ok sc_iA (fun vs H Q E h => ?_) (fun cdv A outer s H vs Q E hr h => ?_)
  · obtain ⟨a, C, y, rfl, _⟩ := h
    rfl
  · obtain ⟨a, C, y, rfl, o, no, ea, q⟩ := h
    refine ⟨_, pss_cons (ps_expr (pe_clsfn TF.c (ok_iF TF) hr (by rfl) TF.g TF.b pass0 (pa_cons (pv 0) (pa_cons pe_str pa_nil)))) (pss_one (ps_ost (pv 0) (pv 1))), ?_⟩
    refine ⟨_, rfl, a, C, _, rfl, o, ea, _, rfl, _, rfl, a, C, rfl, o, no, .inl ⟨ea, fun d nd ne => q d nd ne⟩⟩
abbrev s_iB : Stmt := inClass (topS 4) 0
theorem sc_iB : FnScope ["self", "beat"] ["self", "beat"] (defScope s_iB) := ⟨rfl, rfl, rfl, by decide +kernel, rfl, by decide +kernel, by decide +kernel⟩
abbrev ErrB (K : PySem.W.Frag) (mg : Str → Option Value) (C f : Addr) (fd : FuncData) : Prop := ErrC K mg "NoBeat" "NoBeat.__init__" s_iB ["self", "beat"] C f fd
theorem ok_iB (TF : ErrF K mg CF fF fdF) (T : ErrB K mg C f fd) : FnOk P w K mg base CX0 2 f fd ["self", "beat"] (spI1 K "beat") := by
  refine T.F.ok sc_iB (fun vs H Q E h => ?_) (fun cdv A outer s H vs Q E hr h => ?_)
  · obtain ⟨a, C, y, rfl, _⟩ := h
    rfl
  · obtain ⟨a, C, y, rfl, o, no, ea, q⟩ := h
    refine ⟨_, pss_cons (ps_expr (pe_clsfn TF.c (ok_iF TF) hr (by rfl) TF.g TF.b pass0 (pa_cons (pv 0) (pa_cons pe_str pa_nil)))) (pss_one (ps_ost (pv 0) (pv 1))), ?_⟩
    refine ⟨_, rfl, a, C, _, rfl, o, ea, _, rfl, _, rfl, a, C, rfl, o, no, .inl ⟨ea, fun d nd ne => q d nd ne⟩⟩
abbrev s_iP : Stmt := inClass (topS 5) 0
theorem sc_iP : FnScope ["self", "word", "place"] ["self", "word", "place"] (defScope s_iP) := ⟨rfl, rfl, rfl, by decide +kernel, rfl, by decide +kernel, by decide +kernel⟩
abbrev ErrP (K : PySem.W.Frag) (mg : Str → Option Value) (C f : Addr) (fd : FuncData) : Prop := ErrC K mg "NoPaper" "NoPaper.__init__" s_iP ["self", "word", "place"] C f fd
theorem ok_iP (TF : ErrF K mg CF fF fdF) (T : ErrP K mg C f fd) : FnOk P w K mg base CX0 2 f fd ["self", "word", "place"] (spI2 K "word" "place") := by
  refine T.F.ok sc_iP (fun vs H Q E h => ?_) (fun cdv A outer s H vs Q E hr h => ?_)
  · obtain ⟨a, C, y, z, rfl, _⟩ := h
    rfl
  · obtain ⟨a, C, y, z, rfl, o, no1, no2, ea, q⟩ := h
    refine ⟨_, pss_cons (ps_expr (pe_clsfn TF.c (ok_iF TF) hr (by rfl) TF.g TF.b pass0 (pa_cons (pv 0) (pa_cons pe_str pa_nil)))) (pss_cons (ps_ost (pv 0) (pv 1)) (pss_one (ps_ost (pv 0) (pv 2)))), ?_⟩
    refine ⟨_, rfl, a, C, _, rfl, o, ea, _, rfl, _, rfl, a, C, rfl, o, no1, .inl ⟨ea, fun d nd ne => ?_⟩⟩
    exact ⟨_, rfl, _, rfl, a, C, rfl, o, no2, .inr ⟨d, _, upd_same, by rw [upd_ne ne, upd_same], by show 1 ≤ 900; decide, q d nd ne⟩⟩
abbrev s_iT : Stmt := inClass (topS 6) 0
theorem sc_iT : FnScope ["self", "word"] ["self", "word"] (defScope s_iT) := ⟨rfl, rfl, rfl, by decide +kernel, rfl, by decide +kernel, by decide +kernel⟩
abbrev ErrT (K : PySem.W.Frag) (mg : Str → Option Value) (C f : Addr) (fd : FuncData) : Prop := ErrC K mg "TooMany" "TooMany.__init__" s_iT ["self", "word"] C f fd
theorem ok_iT (TF : ErrF K mg CF fF fdF) (T : ErrT K mg C f fd) : FnOk P w K mg base CX0 2 f fd ["self", "word"] (spI1 K "word") := by
  refine T.F.ok sc_iT (fun vs H Q E h => ?_) (fun cdv A outer s H vs Q E hr h => ?_)
  · obtain ⟨a, C, y, rfl, _⟩ := h
    rfl
  · obtain ⟨a, C, y, rfl, o, no, ea, q⟩ := h
    refine ⟨_, pss_cons (ps_expr (pe_clsfn TF.c (ok_iF TF) hr (by rfl) TF.g TF.b pass0 (pa_cons (pv 0) (pa_cons pe_str pa_nil)))) (pss_one (ps_ost (pv 0) (pv 1))), ?_⟩
    refine ⟨_, rfl, a, C, _, rfl, o, ea, _, rfl, _, rfl, a, C, rfl, o, no, .inl ⟨ea, fun d nd ne => q d nd ne⟩⟩
abbrev s_iX : Stmt := inClass (topS 7) 0
theorem sc_iX : FnScope ["self", "at"] ["self", "at"] (defScope s_iX) := ⟨rfl, rfl, rfl, by decide +kernel, rfl, by decide +kernel, by decide +kernel⟩
abbrev ErrX (K : PySem.W.Frag) (mg : Str → Option Value) (C f : Addr) (fd : FuncData) : Prop := ErrC K mg "NoText" "NoText.__init__" s_iX ["self", "at"] C f fd
theorem ok_iX (TF : ErrF K mg CF fF fdF) (T : ErrX K mg C f fd) : FnOk P w K mg base CX0 2 f fd ["self", "at"] (spI1 K "at") := by
  refine T.F.ok sc_iX (fun vs H Q E h => ?_) (fun cdv A outer s H vs Q E hr h => ?_)
  · obtain ⟨a, C, y, rfl, _⟩ := h
    rfl
  · obtain ⟨a, C, y, rfl, o, no, ea, q⟩ := h
    refine ⟨_, pss_cons (ps_expr (pe_clsfn TF.c (ok_iF TF) hr (by rfl) TF.g TF.b pass0 (pa_cons (pv 0) (pa_cons pe_str pa_nil)))) (pss_one (ps_ost (pv 0) (pv 1))), ?_⟩
    refine ⟨_, rfl, a, C, _, rfl, o, ea, _, rfl, _, rfl, a, C, rfl, o, no, .inl ⟨ea, fun d nd ne => q d nd ne⟩⟩
abbrev s_iL : Stmt := inClass (topS 8) 0
theorem sc_iL : FnScope ["self", "row", "word"] ["self", "row", "word"] (defScope s_iL) := ⟨rfl, rfl, rfl, by decide +kernel, rfl, by decide +kernel, by decide +kernel⟩
abbrev ErrL (K : PySem.W.Frag) (mg : Str → Option Value) (C f : Addr) (fd : FuncData) : Prop := ErrC K mg "NoLines" "NoLines.__init__" s_iL ["self", "row", "word"] C f fd
theorem ok_iL (TF : ErrF K mg CF fF fdF) (T : ErrL K mg C f fd) : FnOk P w K mg base CX0 2 f fd ["self", "row", "word"] (spI2 K "row" "word") := by
  refine T.F.ok sc_iL (fun vs H Q E h => ?_) (fun cdv A outer s H vs Q E hr h => ?_)
  · obtain ⟨a, C, y, z, rfl, _⟩ := h
    rfl
  · obtain ⟨a, C, y, z, rfl, o, no1, no2, ea, q⟩ := h
    refine ⟨_, pss_cons (ps_expr (pe_clsfn TF.c (ok_iF TF) hr (by rfl) TF.g TF.b pass0 (pa_cons (pv 0) (pa_cons pe_str pa_nil)))) (pss_cons (ps_ost (pv 0) (pv 1)) (pss_one (ps_ost (pv 0) (pv 2)))), ?_⟩
    refine ⟨_, rfl, a, C, _, rfl, o, ea, _, rfl, _, rfl, a, C, rfl, o, no1, .inl ⟨ea, fun d nd ne => ?_⟩⟩
    exact ⟨_, rfl, _, rfl, a, C, rfl, o, no2, .inr ⟨d, _, upd_same, by rw [upd_ne ne, upd_same], by show 1 ≤ 900; decide, q d nd ne⟩⟩
abbrev s_iM : Stmt := inClass (topS 9) 0
theorem sc_iM : FnScope ["self", "name"] ["self", "name"] (defScope s_iM) := ⟨rfl, rfl, rfl, by decide +kernel, rfl, by decide +kernel, by decide +kernel⟩
abbrev ErrM (K : PySem.W.Frag) (mg : Str → Option Value) (C f : Addr) (fd : FuncData) : Prop := ErrC K mg "NoName" "NoName.__init__" s_iM ["self", "name"] C f fd
theorem ok_iM (TF : ErrF K mg CF fF fdF) (T : ErrM K mg C f fd) : FnOk P w K mg base CX0 2 f fd ["self", "name"] (spI1 K "name") := by
  refine T.F.ok sc_iM (fun vs H Q E h => ?_) (fun cdv A outer s H vs Q E hr h => ?_)
  · obtain ⟨a, C, y, rfl, _⟩ := h
    rfl
  · obtain ⟨a, C, y, rfl, o, no, ea, q⟩ := h
    refine ⟨_, pss_cons (ps_expr (pe_clsfn TF.c (ok_iF TF) hr (by rfl) TF.g TF.b pass0 (pa_cons (pv 0) (pa_cons pe_str pa_nil)))) (pss_one (ps_ost (pv 0) (pv 1))), ?_⟩
    refine ⟨_, rfl, a, C, _, rfl, o, ea, _, rfl, _, rfl, a, C, rfl, o, no, .inl ⟨ea, fun d nd ne => q d nd ne⟩⟩
abbrev s_iR : Stmt := inClass (topS 10) 0
theorem sc_iR : FnScope ["self", "row"] ["self", "row"] (defScope s_iR) := ⟨rfl, rfl, rfl, by decide +kernel, rfl, by decide +kernel, by decide +kernel⟩
abbrev ErrR (K : PySem.W.Frag) (mg : Str → Option Value) (C f : Addr) (fd : FuncData) : Prop := ErrC K mg "NoRow" "NoRow.__init__" s_iR ["self", "row"] C f fd
theorem ok_iR (TF : ErrF K mg CF fF fdF) (T : ErrR K mg C f fd) : FnOk P w K mg base CX0 2 f fd ["self", "row"] (spI1 K "row") := by
  refine T.F.ok sc_iR (fun vs H Q E h => ?_) (fun cdv A outer s H vs Q E hr h => ?_)
  · obtain ⟨a, C, y, rfl, _⟩ := h
    rfl
  · obtain ⟨a, C, y, rfl, o, no, ea, q⟩ := h
    refine ⟨_, pss_cons (ps_expr (pe_clsfn TF.c (ok_iF TF) hr (by rfl) TF.g TF.b pass0 (pa_cons (pv 0) (pa_cons pe_str pa_nil)))) (pss_one (ps_ost (pv 0) (pv 1))), ?_⟩
    refine ⟨_, rfl, a, C, _, rfl, o, ea, _, rfl, _, rfl, a, C, rfl, o, no, .inl ⟨ea, fun d nd ne => q d nd ne⟩⟩
end
/-- the names of the classes, all of them -/
structure ErrG (mg : Str → Option Value) (e : EC) : Prop where
  F : mg "FreshError" = some (.ref e.F)
  N : mg "NoRatio" = some (.ref e.N)
  A : mg "NoAge" = some (.ref e.A)
  B : mg "NoBeat" = some (.ref e.B)
  P : mg "NoPaper" = some (.ref e.P)
  T : mg "TooMany" = some (.ref e.T)
  X : mg "NoText" = some (.ref e.X)
  L : mg "NoLines" = some (.ref e.L)
  M : mg "NoName" = some (.ref e.M)
  R : mg "NoRow" = some (.ref e.R)
def ktsN (e : EC) : List (Value × Bool) := [(.ref e.F, true), (.ref e.N, true), (.ref e.A, false), (.ref e.B, false), (.ref e.P, false), (.ref e.T, false), (.ref e.X, false), (.ref e.L, false), (.ref e.M, false), (.ref e.R, false), (.type "ValueError", true)]
def ktsA (e : EC) : List (Value × Bool) := [(.ref e.F, true), (.ref e.N, false), (.ref e.A, true), (.ref e.B, false), (.ref e.P, false), (.ref e.T, false), (.ref e.X, false), (.ref e.L, false), (.ref e.M, false), (.ref e.R, false), (.type "ValueError", true)]
def ktsB (e : EC) : List (Value × Bool) := [(.ref e.F, true), (.ref e.N, false), (.ref e.A, false), (.ref e.B, true), (.ref e.P, false), (.ref e.T, false), (.ref e.X, false), (.ref e.L, false), (.ref e.M, false), (.ref e.R, false), (.type "ValueError", true)]
def ktsP (e : EC) : List (Value × Bool) := [(.ref e.F, true), (.ref e.N, false), (.ref e.A, false), (.ref e.B, false), (.ref e.P, true), (.ref e.T, false), (.ref e.X, false), (.ref e.L, false), (.ref e.M, false), (.ref e.R, false), (.type "ValueError", true)]
def ktsT (e : EC) : List (Value × Bool) := [(.ref e.F, true), (.ref e.N, false), (.ref e.A, false), (.ref e.B, false), (.ref e.P, false), (.ref e.T, true), (.ref e.X, false), (.ref e.L, false), (.ref e.M, false), (.ref e.R, false), (.type "ValueError", true)]
def ktsX (e : EC) : List (Value × Bool) := [(.ref e.F, true), (.ref e.N, false), (.ref e.A, false), (.ref e.B, false), (.ref e.P, false), (.ref e.T, false), (.ref e.X, true), (.ref e.L, false), (.ref e.M, false), (.ref e.R, false), (.type "ValueError", true)]
def ktsL (e : EC) : List (Value × Bool) := [(.ref e.F, true), (.ref e.N, false), (.ref e.A, false), (.ref e.B, false), (.ref e.P, false), (.ref e.T, false), (.ref e.X, false), (.ref e.L, true), (.ref e.M, false), (.ref e.R, false), (.type "ValueError", true)]
def ktsM (e : EC) : List (Value × Bool) := [(.ref e.F, true), (.ref e.N, false), (.ref e.A, false), (.ref e.B, false), (.ref e.P, false), (.ref e.T, false), (.ref e.X, false), (.ref e.L, false), (.ref e.M, true), (.ref e.R, false), (.type "ValueError", true)]
def ktsR (e : EC) : List (Value × Bool) := [(.ref e.F, true), (.ref e.N, false), (.ref e.A, false), (.ref e.B, false), (.ref e.P, false), (.ref e.T, false), (.ref e.X, false), (.ref e.L, false), (.ref e.M, false), (.ref e.R, true), (.type "ValueError", true)]

end Fp

set_option Elab.async false
set_option linter.all false
set_option maxRecDepth 100000
set_option maxHeartbeats 4000000
set_option exponentiation.threshold 10000
namespace Fp
open PySem PySem.Spec PyProof.Rows L2
abbrev s_ratio : Stmt := topS 17
theorem sc_ratio : FnScope ["top", "bottom", "divisor"] ["top", "bottom"] (defScope s_ratio) := ⟨rfl, rfl, rfl, by decide +kernel, rfl, by decide +kernel, by decide +kernel⟩
section
variable {P : Program} {w : World} {K : PySem.W.Frag} {mg : Str → Option Value} {base : Heap}
def spRat0 : Sp := fun vs H Q _ => ∃ (t b : Int), vs = [.int t, .int b] ∧ b.natAbs < 2 ^ 8000 ∧ b ≠ 0 ∧ ∀ p, H p = none → Q (.ref p) (upd H p (.tup [.int (ratT t b), .int (ratB t b)]))
theorem ok_ratio {f fC : Addr} {fd fdC : FuncData} (F : Fun K "ratio" "ratio" s_ratio f fd) (FC : Fun K "common_divisor" "common_divisor" s_cd fC fdC) (bC : Binds K fdC ["one", "other"] [])
    (gC : mg "common_divisor" = some (.ref fC)) (ma : mg "abs" = none) : FnOk P w K mg base CX0 2 f fd ["top", "bottom"] spRat0 := by
  have GC : FnOk P w K mg base CX0 1 fC fdC ["one", "other"] spCd := ok_cd FC ma
  refine F.ok sc_ratio (fun vs H Q E h => ?_) (fun cdv A outer s H vs Q E hr h => ?_)
  · obtain ⟨t, b, rfl, _⟩ := h
    rfl
  · obtain ⟨t, b, rfl, hb, h0, q1⟩ := h
    refine ⟨_, (pss_cons (ps_if (pt_cmpR op_eq (pv 1) pe_int (nomark _)) (pss_one ps_never) pss_nil) (pss_cons (ps_set (i := 2) sc_ratio.nd rfl (.inl rfl) (pe_call GC hr (by rfl) gC FC.kp bC .nil pass0 (pa_cons (pv 0) (pa_cons (pv 1) pa_nil)))) (pss_cons (ps_if (pt_cmpR op_lt (pv 1) pe_int (nomark _)) (pss_one (ps_set (i := 2) sc_ratio.nd rfl (.inl rfl) (pe_un un_neg (pv 2)))) pss_nil) (pss_one (ps_ret (pe_tup (pa_cons (pe_op op_fdivA (pv 0) (pv 2)) (pa_cons (pe_op op_fdivA (pv 1) (pv 2)) pa_nil)))))))), ?_⟩
    refine ⟨_, rfl, rfl, _, rfl, ite2 (fun c => ?_) (fun c => ?_)⟩
    · exact absurd (V.int.inj (of_decide_eq_true c)) h0
    · obtain ⟨c1, c2⟩ := ratG_ok (t := t) h0 hb (by decide) (by decide)
      refine ⟨_, rfl, _, rfl, t, b, rfl, ?_⟩
      have fin : ∀ g : Int, g = ratG t b → ∀ p, H p = none → Q (.ref p) (upd H p (.tup [.int (t.fdiv g), .int (b.fdiv g)])) := fun g eg p hp => by
        rw [eg]
        exact q1 p hp
      refine ⟨_, rfl, b, 0, rfl, rfl, _, rfl, ite2 (fun c3 => ?_) (fun c3 => ?_)⟩
      · have hneg : b < 0 := of_decide_eq_true c3
        have eg : -((Int.gcd t b : Nat) : Int) = ratG t b := by unfold ratG; rw [if_pos hneg]
        refine ⟨_, rfl, _, rfl, ?_⟩
        refine ⟨_, rfl, _, rfl, t, _, rfl, rfl, by rw [eg]; exact c1, _, rfl, _, rfl, b, _, rfl, rfl, by rw [eg]; exact c2, by show 2 ≤ sizeLine; decide, fin _ eg⟩
      · have hneg : ¬ b < 0 := fun z => c3 (decide_eq_true z)
        have eg : ((Int.gcd t b : Nat) : Int) = ratG t b := by unfold ratG; rw [if_neg hneg]
        refine ⟨_, rfl, _, rfl, t, _, rfl, rfl, by rw [eg]; exact c1, _, rfl, _, rfl, b, _, rfl, rfl, by rw [eg]; exact c2, by show 2 ≤ sizeLine; decide, fin _ eg⟩
end

end Fp

set_option Elab.async false
set_option linter.all false
set_option maxRecDepth 100000
set_option maxHeartbeats 4000000
set_option exponentiation.threshold 10000
namespace Fp
open PySem PySem.Spec PyProof.Rows L2
/-! ### two ratios reckoned -/
theorem sqT_same {K : PySem.W.Frag} {H H' : Hp} {a : Addr} {xs : List V} (e : Same H H') (h : SqT K H a xs) : SqT K H' a xs := by
  rcases h with (h | ⟨o, h⟩) | h
  · exact .inl (.inl (e _ _ h))
  · exact .inl (.inr ⟨o, e _ _ h⟩)
  · exact .inr h
theorem same_new {H : Hp} {p : Addr} {o : HO} (h : H p = none) : Same H (upd H p o) := fun b x z => by
  rw [upd_ne (ne_of_none z h)]
  exact z
/-- bounds of what is multiplied -/
def Sm (n : Nat) (a : Int) : Prop := a.natAbs < 2 ^ n
theorem Sm.log {n : Nat} {a : Int} (h : Sm n a) (h0 : 0 < n) : a.natAbs.log2 < n := by
  rcases Nat.eq_zero_or_pos a.natAbs with z | z
  · rw [z]; simpa using h0
  · exact (Nat.log2_lt (by omega)).mpr h
theorem Sm.mul {n m : Nat} {a b : Int} (ha : Sm n a) (hb : Sm m b) : Sm (n + m) (a * b) := by
  unfold Sm at *
  rw [Int.natAbs_mul, Nat.pow_add]
  exact Nat.mul_lt_mul'' ha hb
theorem Sm.add {n : Nat} {a b : Int} (ha : Sm n a) (hb : Sm n b) : Sm (n + 1) (a + b) := by
  unfold Sm at *
  rw [Nat.pow_succ]
  omega
theorem Sm.sub {n : Nat} {a b : Int} (ha : Sm n a) (hb : Sm n b) : Sm (n + 1) (a - b) := by
  unfold Sm at *
  rw [Nat.pow_succ]
  omega
theorem Sm.mono {n m : Nat} {a : Int} (h : Sm n a) (l : n ≤ m) : Sm m a := Nat.lt_of_lt_of_le h (Nat.pow_le_pow_right (by decide) l)
theorem Sm.cmul {n m : Nat} {a b : Int} (ha : Sm n a) (hb : Sm m b) (h0 : 0 < n) (h1 : 0 < m) (h : n + m ≤ 1000000) : CMulA a b := by
  have x := ha.log h0
  have y := hb.log h1
  unfold CMulA
  omega
/-- at p1 and p2 the ratios a by b, c by d -/
structure Two (K : PySem.W.Frag) (H : Hp) (p1 p2 : Addr) (a b c d : Int) : Prop where
  t1 : SqT K H p1 [.int a, .int b]
  t2 : SqT K H p2 [.int c, .int d]
  sa : Sm 3000 a
  sb : Sm 3000 b
  sc : Sm 3000 c
  sd : Sm 3000 d
  pb : 0 < b
  pd : 0 < d
theorem Two.den {K : PySem.W.Frag} {H : Hp} {p1 p2 : Addr} {a b c d : Int} (h : Two K H p1 p2 a b c d) : 0 < b * d := Int.mul_pos h.pb h.pd
theorem Two.same {K : PySem.W.Frag} {H H' : Hp} {p1 p2 : Addr} {a b c d : Int} (h : Two K H p1 p2 a b c d) (e : Same H H') : Two K H' p1 p2 a b c d := ⟨sqT_same e h.t1, sqT_same e h.t2, h.sa, h.sb, h.sc, h.sd, h.pb, h.pd⟩
def spTwo (K : PySem.W.Frag) (num : Int → Int → Int → Int → Int) : Sp := fun vs H Q _ => ∃ (p1 p2 : Addr) (a b c d : Int), vs = [.ref p1, .ref p2] ∧ Two K H p1 p2 a b c d ∧
  ∀ p, H p = none → Q (.ref p) (upd H p (.tup [.int (ratT (num a b c d) (b * d)), .int (ratB (num a b c d) (b * d))]))

end Fp

set_option Elab.async false
set_option linter.all false
set_option maxRecDepth 100000
set_option maxHeartbeats 4000000
set_option exponentiation.threshold 10000
namespace Fp
open PySem PySem.Spec PyProof.Rows L2
abbrev s_minus : Stmt := topS 18
theorem sc_minus : FnScope ["one", "other"] ["one", "other"] (defScope s_minus) := ⟨rfl, rfl, rfl, by decide +kernel, rfl, by decide +kernel, by decide +kernel⟩
section
variable {P : Program} {w : World} {K : PySem.W.Frag} {mg : Str → Option Value} {base : Heap}
theorem ok_minus {f fR : Addr} {fd fdR : FuncData} (F : Fun K "minus" "minus" s_minus f fd) (FR : Fun K "ratio" "ratio" s_ratio fR fdR) (bR : Binds K fdR ["top", "bottom"] []) (gR : mg "ratio" = some (.ref fR)) (GR : FnOk P w K mg base CX0 2 fR fdR ["top", "bottom"] spRat0) : FnOk P w K mg base CX0 3 f fd ["one", "other"] (spTwo K (fun a b c d => a * d - c * b)) := by
  refine F.ok sc_minus (fun vs H Q E h => ?_) (fun cdv A outer s H vs Q E hr h => ?_)
  · obtain ⟨_, _, _, _, _, _, rfl, _⟩ := h
    rfl
  · obtain ⟨p1, p2, a, b, c, d, rfl, T, q⟩ := h
    refine ⟨_, pss_one (ps_ret (pe_call GR hr (by rfl) gR FR.kp bR .nil pass0 (pa_cons (pe_op op_sub (pe_op op_mulA (pe_ix ix_tup (pv 0) pe_int (fun _ _ => rfl)) (pe_ix ix_tup (pv 1) pe_int (fun _ _ => rfl))) (pe_op op_mulA (pe_ix ix_tup (pv 1) pe_int (fun _ _ => rfl)) (pe_ix ix_tup (pv 0) pe_int (fun _ _ => rfl)))) (pa_cons (pe_op op_mulA (pe_ix ix_tup (pv 0) pe_int (fun _ _ => rfl)) (pe_ix ix_tup (pv 1) pe_int (fun _ _ => rfl))) pa_nil)))), ?_⟩
    refine ⟨_, rfl, p1, _, 0, _, rfl, rfl, T.t1, atI_nat (j := 0) rfl, _, rfl, p2, _, 1, _, rfl, rfl, T.t2, atI_nat (j := 1) rfl, a, d, rfl, rfl, T.sa.cmul T.sd (by decide) (by decide) (by decide), _, rfl, p2, _, 0, _, rfl, rfl, T.t2, atI_nat (j := 0) rfl, _, rfl, p1, _, 1, _, rfl, rfl, T.t1, atI_nat (j := 1) rfl, c, b, rfl, rfl, T.sc.cmul T.sb (by decide) (by decide) (by decide), _, _, rfl, rfl, _, rfl, p1, _, 1, _, rfl, rfl, T.t1, atI_nat (j := 1) rfl, _, rfl, p2, _, 1, _, rfl, rfl, T.t2, atI_nat (j := 1) rfl, b, d, rfl, rfl, T.sb.cmul T.sd (by decide) (by decide) (by decide), ?_⟩
    exact ⟨_, _, rfl, (T.sb.mul T.sd).mono (by decide), Int.ne_of_gt T.den, q⟩
end

end Fp

set_option Elab.async false
set_option linter.all false
set_option maxRecDepth 100000
set_option maxHeartbeats 4000000
set_option exponentiation.threshold 10000
namespace Fp
open PySem PySem.Spec PyProof.Rows L2
abbrev s_times : Stmt := topS 19
theorem sc_times : FnScope ["one", "other"] ["one", "other"] (defScope s_times) := ⟨rfl, rfl, rfl, by decide +kernel, rfl, by decide +kernel, by decide +kernel⟩
section
variable {P : Program} {w : World} {K : PySem.W.Frag} {mg : Str → Option Value} {base : Heap}
theorem ok_times {f fR : Addr} {fd fdR : FuncData} (F : Fun K "times" "times" s_times f fd) (FR : Fun K "ratio" "ratio" s_ratio fR fdR) (bR : Binds K fdR ["top", "bottom"] []) (gR : mg "ratio" = some (.ref fR)) (GR : FnOk P w K mg base CX0 2 fR fdR ["top", "bottom"] spRat0) : FnOk P w K mg base CX0 3 f fd ["one", "other"] (spTwo K (fun a b c d => a * c)) := by
  refine F.ok sc_times (fun vs H Q E h => ?_) (fun cdv A outer s H vs Q E hr h => ?_)
  · obtain ⟨_, _, _, _, _, _, rfl, _⟩ := h
    rfl
  · obtain ⟨p1, p2, a, b, c, d, rfl, T, q⟩ := h
    refine ⟨_, pss_one (ps_ret (pe_call GR hr (by rfl) gR FR.kp bR .nil pass0 (pa_cons (pe_op op_mulA (pe_ix ix_tup (pv 0) pe_int (fun _ _ => rfl)) (pe_ix ix_tup (pv 1) pe_int (fun _ _ => rfl))) (pa_cons (pe_op op_mulA (pe_ix ix_tup (pv 0) pe_int (fun _ _ => rfl)) (pe_ix ix_tup (pv 1) pe_int (fun _ _ => rfl))) pa_nil)))), ?_⟩
    refine ⟨_, rfl, p1, _, 0, _, rfl, rfl, T.t1, atI_nat (j := 0) rfl, _, rfl, p2, _, 0, _, rfl, rfl, T.t2, atI_nat (j := 0) rfl, a, c, rfl, rfl, T.sa.cmul T.sc (by decide) (by decide) (by decide), _, rfl, p1, _, 1, _, rfl, rfl, T.t1, atI_nat (j := 1) rfl, _, rfl, p2, _, 1, _, rfl, rfl, T.t2, atI_nat (j := 1) rfl, b, d, rfl, rfl, T.sb.cmul T.sd (by decide) (by decide) (by decide), ?_⟩
    exact ⟨_, _, rfl, (T.sb.mul T.sd).mono (by decide), Int.ne_of_gt T.den, q⟩
end

end Fp

set_option Elab.async false
set_option linter.all false
set_option maxRecDepth 100000
set_option maxHeartbeats 4000000
set_option exponentiation.threshold 10000
namespace Fp
open PySem PySem.Spec PyProof.Rows L2
section
variable {P : Program} {w : World} {K : PySem.W.Frag} {mg : Str → Option Value} {base : Heap}
def spOver0 (K : PySem.W.Frag) : Sp := fun vs H Q _ => ∃ (p1 p2 : Addr) (a b c d : Int), vs = [.ref p1, .ref p2] ∧ Two K H p1 p2 a b c d ∧ b * c ≠ 0 ∧
  ∀ p, H p = none → Q (.ref p) (upd H p (.tup [.int (ratT (a * d) (b * c)), .int (ratB (a * d) (b * c))]))
end

end Fp

set_option Elab.async false
set_option linter.all false
set_option maxRecDepth 100000
set_option maxHeartbeats 4000000
set_option exponentiation.threshold 10000
namespace Fp
open PySem PySem.Spec PyProof.Rows L2
/-! ### the feed of draws -/
abbrev s_feed : Stmt := topS 39
abbrev s_draw : Stmt := topS 40
theorem sc_feed : FnScope ["_law_script"] ["_law_script"] (defScope s_feed) := ⟨rfl, rfl, rfl, by decide +kernel, rfl, by decide +kernel, by decide +kernel⟩
theorem sc_draw : FnScope ["_law_feed_here", "_law_many", "_law_turn", "_law_digit", "_law_at", "_law_cells", "_law_cell", "_law_mixed"] ["_law_feed_here", "_law_many"] (defScope s_draw) := ⟨rfl, rfl, rfl, by decide +kernel, rfl, by decide +kernel, by decide +kernel⟩
def feedL (c : Addr) (a l t : Int) : List (Key × V) := [(.inr "cells", .ref c), (.inr "at", .int a), (.inr "left", .int l), (.inr "turn", .int t)]
theorem feed_at (c : Addr) (a l t : Int) : valV (feedL c a l t) (.inr "at") = some (.int a) := rfl
theorem feed_cells (c : Addr) (a l t : Int) : valV (feedL c a l t) (.inr "cells") = some (.ref c) := rfl
theorem feed_left (c : Addr) (a l t : Int) : valV (feedL c a l t) (.inr "left") = some (.int l) := rfl
theorem feed_turn (c : Addr) (a l t : Int) : valV (feedL c a l t) (.inr "turn") = some (.int t) := rfl
theorem put_at (c : Addr) (a l t x : Int) : putK (feedL c a l t) (.inr "at") (.int x) = feedL c x l t := rfl
theorem put_left (c : Addr) (a l t x : Int) : putK (feedL c a l t) (.inr "left") (.int x) = feedL c a x t := rfl
theorem put_turn (c : Addr) (a l t x : Int) : putK (feedL c a l t) (.inr "turn") (.int x) = feedL c a l x := rfl
theorem feed_len (c : Addr) (a l t : Int) : (feedL c a l t).length < sizeLine := by show 4 < sizeLine; decide
theorem feed_merge (c : Addr) : mergeK [] (feedL c 0 0 0) = feedL c 0 0 0 := rfl
/-- at d a feed that has told t draws -/
def Feed (H : Hp) (d c : Addr) (t : Int) : Prop := ∃ (a l : Int) (ns : List Int), H d = some (.dK (feedL c a l t)) ∧ H c = some (.lst (ns.map V.int)) ∧ 0 ≤ t
/-- all but d as it was -/
def Keep (d : Addr) (H H' : Hp) : Prop := ∀ b o, b ≠ d → H b = some o → H' b = some o
theorem Keep.trans {d : Addr} {H H1 H2 : Hp} (a : Keep d H H1) (b : Keep d H1 H2) : Keep d H H2 := fun c o n z => b c o n (a c o n z)
theorem Keep.of_same {d : Addr} {H H' : Hp} (a : Same H H') : Keep d H H' := fun b o _ z => a b o z
theorem Keep.upd {d : Addr} {H : Hp} {o : HO} : Keep d H (upd H d o) := fun b x n z => by rw [upd_ne n]; exact z
theorem Feed.same {H H' : Hp} {d c : Addr} {t : Int} (f : Feed H d c t) (e : Same H H') : Feed H' d c t := by
  obtain ⟨a, l, ns, h1, h2, h3⟩ := f
  exact ⟨a, l, ns, e _ _ h1, e _ _ h2, h3⟩
theorem Feed.wr {H : Hp} {d c p : Addr} {t : Int} {o : HO} (f : Feed H d c t) (h1 : p ≠ d) (h2 : p ≠ c) : Feed (upd H p o) d c t := by
  obtain ⟨a, l, ns, e1, e2, e3⟩ := f
  exact ⟨a, l, ns, by rw [upd_ne h1.symm]; exact e1, by rw [upd_ne h2.symm]; exact e2, e3⟩
theorem Feed.ne {H : Hp} {d c p : Addr} {t : Int} {o : HO} (f : Feed H d c t) (h : H p = some o) (n : ∀ kvs, o ≠ .dK kvs) : p ≠ d := by
  obtain ⟨a, l, ns, h1, _⟩ := f
  exact ne_of h h1 (n _)
theorem Feed.nd {H : Hp} {d c p : Addr} {t : Int} (f : Feed H d c t) (h : H p = none) : p ≠ d := by
  obtain ⟨a, l, ns, h1, _⟩ := f
  exact (ne_of_none h1 h).symm
theorem Feed.nc {H : Hp} {d c p : Addr} {t : Int} (f : Feed H d c t) (h : H p = none) : p ≠ c := by
  obtain ⟨a, l, ns, _, h1, _⟩ := f
  exact (ne_of_none h1 h).symm
theorem Feed.new {H : Hp} {d c p : Addr} {t : Int} {o : HO} (f : Feed H d c t) (n : H p = none) : Feed (upd H p o) d c t := f.same (same_new n)
theorem keep_at {d c p : Addr} {H H' : Hp} {t : Int} {o : HO} (f : Feed H d c t) (k : Keep d H H') (h : H p = some o) (n : ∀ kvs, o ≠ .dK kvs) : H' p = some o := k p o (f.ne h n) h
theorem keep_new {d p : Addr} {H H' : Hp} {o : HO} (n : H p = none) (k : Keep d (upd H p o) H') : Keep d H H' := (Keep.of_same (same_new n)).trans k
theorem Keep.none {d c p : Addr} {t : Int} {H H' : Hp} (k : Keep d H H') (f : Feed H' d c t) (n : H' p = none) : H p = none := by
  match z : H p with
  | Option.none => rfl
  | some o =>
    have := k p o (f.nd n) z
    rw [n] at this
    cases this
/-- what was not there when k began may be written -/
theorem Keep.wr {d p : Addr} {H H' : Hp} {o : HO} (k : Keep d H H') (n : H p = Option.none) : Keep d H (L2.upd H' p o) := fun b x hb z => by
  rw [upd_ne (ne_of_none z n)]
  exact k b x hb z
theorem Keep.refl {d : Addr} {H : Hp} : Keep d H H := fun _ _ _ z => z
theorem sqT_keep {K : PySem.W.Frag} {H H' : Hp} {a d c : Addr} {t : Int} {xs : List V} (f : Feed H d c t) (e : Keep d H H') (h : SqT K H a xs) : SqT K H' a xs := by
  obtain ⟨x, l, ns, h1, _⟩ := f
  rcases h with (h | ⟨o, h⟩) | h
  · exact .inl (.inl (e _ _ (ne_of h h1 (by intro z; cases z)) h))
  · exact .inl (.inr ⟨o, e _ _ (ne_of h h1 (by intro z; cases z)) h⟩)
  · exact .inr h
theorem cut_ints (ns : List Int) (lo hi : Option Int) : ∃ ms : List Int, cutV (ns.map V.int) lo hi = ms.map V.int := by
  unfold cutV
  exact ⟨_, by rw [← List.map_drop, ← List.map_take]⟩
theorem dpAll_ints {K : PySem.W.Frag} {H : Hp} : ∀ ns : List Int, DpAll K H (ns.map V.int) (ns.map PyData.int)
  | [] => .nil
  | n :: r => .cons (.int n) (dpAll_ints r)
theorem canLay_ints : ∀ ns : List Int, PyData.canLayAll0 (ns.map PyData.int) = true
  | [] => rfl
  | n :: r => by
    show (PyData.canLay0 (.int n) && PyData.canLayAll0 (r.map PyData.int)) = true
    rw [canLay_ints r]
    rfl
theorem depth_ints : ∀ ns : List Int, PyData.depthAll (ns.map PyData.int) = 0
  | [] => rfl
  | n :: r => by
    show max (PyData.depth (.int n)) (PyData.depthAll (r.map PyData.int)) = 0
    rw [depth_ints r]
    rfl
theorem shaped_ints (ns : List Int) : SeqAt.shaped (.list (ns.map PyData.int)) = true := by
  unfold SeqAt.shaped
  have h1 : PyData.canLay0 (.list (ns.map PyData.int)) = true := by
    show PyData.canLayAll0 (ns.map PyData.int) = true
    exact canLay_ints ns
  have h2 : (PyData.list (ns.map PyData.int)).depth = 1 := by
    show PyData.depthAll (ns.map PyData.int) + 1 = 1
    rw [depth_ints]
  rw [h1, h2]
  rfl
theorem eqv_nil (ns : List Int) : PyData.eqv (.list (ns.map PyData.int)) (.list []) = ns.isEmpty := by
  cases ns with
  | nil => rfl
  | cons n r => rfl

section
variable {P : Program} {w : World} {K : PySem.W.Frag} {mg : Str → Option Value} {base : Heap}
def spFeed (K : PySem.W.Frag) : Sp := fun vs H Q _ => ∃ (a : Addr) (ns : List Int), vs = [.ref a] ∧ SqL K H a (ns.map V.int) ∧ ∀ d c H', Same H H' → Feed H' d c 0 → Q (.ref d) H'
theorem ok_feed {f : Addr} {fd : FuncData} {k : Nat} (F : Fun K "_law_feed" "_law_feed" s_feed f fd) (ml : mg "list" = none) : FnOk P w K mg base CX0 (k + 1) f fd ["_law_script"] (spFeed K) := by
  refine F.ok sc_feed (fun vs H Q E h => ?_) (fun cdv A outer s H vs Q E hr h => ?_)
  · obtain ⟨a, ns, rfl, _⟩ := h
    rfl
  · obtain ⟨a, ns, rfl, hS, q⟩ := h
    refine ⟨_, pss_one (ps_ret (pe_disp (pps_cons pe_str (pe_callTy call_list_of (by rfl) ml (by decide +kernel) (pa_cons (pe_slice sl_list (pv 0) po_none (po_some pe_int)) pa_nil))
      (pps_cons pe_str pe_int (pps_cons pe_str pe_int (pps_cons pe_str pe_int pps_nil)))) (by rfl) (by rfl) (fun z => by cases z) (by decide))), ?_⟩
    refine fun d nd => ?_
    have s1 : Same H (upd H d (.dK [])) := same_new nd
    obtain ⟨ms, em⟩ := cut_ints ns none (some 63)
    refine ⟨_, rfl, 63, rfl, a, ns.map V.int, rfl, s1.seq hS, fun x nx => ?_⟩
    have s2 := same_new (o := HO.lst (cutV (ns.map V.int) none (some 63))) nx
    refine ⟨x, _, rfl, .inl (SqL.of upd_same), fun c nc => ?_⟩
    have s3 := same_new (o := HO.lst (cutV (ns.map V.int) none (some 63))) nc
    refine ⟨?_, feedL c 0 0 0, rfl, by show 4 ≤ 15; decide, ?_⟩
    · exact s3 _ _ (s2 _ _ upd_same)
    · rw [feed_merge]
      have ncd : c ≠ d := fun z => by
        rw [z] at nc
        exact absurd nc (by rw [s2 _ _ upd_same]; exact fun z => nomatch z)
      refine q d c _ (fun b o z => ?_) ⟨0, 0, ms, upd_same, ?_, by decide⟩
      · have nb : b ≠ d := ne_of_none z nd
        rw [upd_ne nb]
        exact s3 _ _ (s2 _ _ (s1 _ _ z))
      · rw [upd_ne ncd, upd_same, em]
def spDraw : Sp := fun vs H Q _ => ∃ (d c : Addr) (many t : Int), vs = [.ref d, .int many] ∧ Feed H d c t ∧ t ≤ 1000000 ∧ 0 < many ∧ many < 1073741824 ∧
  ∀ r H', 0 ≤ r → r < many → Keep d H H' → Feed H' d c (t + 1) → Q (.int r) H'
theorem ok_draw {f : Addr} {fd : FuncData} {k : Nat} (F : Fun K "_law_draw" "_law_draw" s_draw f fd) (ml : mg "len" = none) : FnOk P w K mg base CX0 (k + 1) f fd ["_law_feed_here", "_law_many"] spDraw := by
  refine F.ok sc_draw (fun vs H Q E h => ?_) (fun cdv A outer s H vs Q E hr h => ?_)
  · obtain ⟨_, _, _, _, rfl, _⟩ := h
    rfl
  · obtain ⟨d, c, many, t, rfl, ⟨a, l, ns, hd, hc, ht0⟩, ht, hm0, hm1, q⟩ := h
    have hu := hu_of hr
    refine ⟨_, pss_cons (ps_set (i := 2) sc_draw.nd rfl (.inl rfl) (pe_op op_add (pe_dget hu (pv 0) pe_str (fun _ _ => rfl)) pe_int))
      (pss_cons (ps_dput hu (pv 0) pe_str (pv 2) rfl)
      (pss_cons (ps_if (pt_cmpR op_gt (pe_dget hu (pv 0) pe_str (fun _ _ => rfl)) pe_int (nomark _))
        (pss_cons (ps_set (i := 3) sc_draw.nd rfl (.inl rfl) (pe_op op_modN (pe_dget hu (pv 0) pe_str (fun _ _ => rfl)) (pv 1)))
        (pss_cons (ps_dput hu (pv 0) pe_str (pe_op op_fdiv (pe_dget hu (pv 0) pe_str (fun _ _ => rfl)) (pv 1)) rfl)
        (pss_one (ps_ret (pv 3))))) pss_nil)
      (pss_cons (ps_par (i := 4) (j := 5) rfl sc_draw.nd rfl rfl (by decide) rfl rfl (pa_cons (pe_dget hu (pv 0) pe_str (fun _ _ => rfl)) (pa_cons (pe_dget hu (pv 0) pe_str (fun _ _ => rfl)) pa_nil)) (by rfl))
      (pss_cons (ps_dput hu (pv 0) pe_str (pe_op op_add (pv 4) pe_int) rfl)
      (pss_cons (ps_set (i := 6) sc_draw.nd rfl (.inl rfl) (pe_ifExp (pt_cmpR (op_neD hr.units) (pv 5) (pe_lst pa_nil) (nomark _))
          (pe_ix ix_list (pv 5) (pe_op op_modN (pv 4) (pe_callB call_len_seq (by rfl) ml PySem.boot_len (pa_cons (pv 5) pa_nil))) (fun _ _ => rfl)) pe_int))
      (pss_cons (ps_if (PW.pt (pw_and (pt_cmpR op_ge (pv 6) (pe_op op_pow pe_int pe_int) (nomark _)) (pw_and1 (pt_cmpR op_lt (pv 4) (pe_callB call_len_seq (by rfl) ml PySem.boot_len (pa_cons (pv 5) pa_nil)) (nomark _)))))
        (pss_cons (ps_dput hu (pv 0) pe_str (pe_op op_fdiv (pv 6) (pv 1)) rfl) (pss_one (ps_ret (pe_op op_modN (pv 6) (pv 1))))) pss_nil)
      (pss_cons (ps_set (i := 7) sc_draw.nd rfl (.inl rfl) (pe_op op_modN (pe_op op_pow (pe_op op_add (pe_op op_modN (pv 6) pe_int) (pe_op op_mul pe_int (pv 2))) pe_int) pe_int))
      (pss_one (ps_ret (pe_op op_modN (pe_op op_fdiv (pe_op op_modN (pe_op op_mul (pv 7) (pe_op op_add (pe_op op_mul pe_int (pv 2)) pe_int)) pe_int) pe_int) (pv 1))))))))))), ?_⟩
    have ndc : c ≠ d := ne_of hc hd (by intro z; cases z)
    have mod_ok : ∀ x : Int, 0 ≤ x.fmod many ∧ x.fmod many < many := fun x => ⟨Int.fmod_nonneg_of_pos x hm0, Int.fmod_lt_of_pos x hm0⟩
    -- turn
    refine ⟨_, rfl, d, _, rfl, .inl ⟨_, .inr "turn", .inl hd, rfl, feed_turn c a l t⟩, t, 1, rfl, rfl, ?_⟩
    refine ⟨_, rfl, _, rfl, d, _, rfl, DPut.k (k := .inr "turn") hd (feed_len c a l t), ?_⟩
    rw [put_turn]
    -- left
    refine ⟨_, rfl, d, _, rfl, .inl ⟨_, .inr "left", .inl upd_same, rfl, feed_left c a l (t + 1)⟩, l, 0, rfl, rfl, _, rfl, ite2 (fun cl => ?_) (fun cl => ?_)⟩
    · refine ⟨_, rfl, d, _, rfl, .inl ⟨_, .inr "left", .inl upd_same, rfl, feed_left c a l (t + 1)⟩, _, rfl, l, many, rfl, rfl, Int.ne_of_gt hm0, ?_⟩
      refine ⟨_, rfl, d, _, rfl, .inl ⟨_, .inr "left", .inl upd_same, rfl, feed_left c a l (t + 1)⟩, _, rfl, l, many, rfl, rfl, ⟨hm0, hm1⟩, _, rfl, d, _, rfl, DPut.k (k := .inr "left") upd_same (feed_len c a l (t + 1)), ?_⟩
      rw [put_left, upd_upd]
      refine ⟨_, rfl, q _ _ (mod_ok l).1 (mod_ok l).2 Keep.upd ⟨a, _, ns, upd_same, ?_, by omega⟩⟩
      rw [upd_ne ndc]
      exact hc
    · refine ⟨_, rfl, d, _, rfl, .inl ⟨_, .inr "at", .inl upd_same, rfl, feed_at c a l (t + 1)⟩, _, rfl, d, _, rfl, .inl ⟨_, .inr "cells", .inl upd_same, rfl, feed_cells c a l (t + 1)⟩, _, _, rfl, ?_⟩
      refine ⟨_, rfl, a, 1, rfl, rfl, _, rfl, d, _, rfl, DPut.k (k := .inr "at") upd_same (feed_len c a l (t + 1)), ?_⟩
      rw [put_at, upd_upd]
      have hc2 : upd H d (.dK (feedL c (a + 1) l (t + 1))) c = some (.lst (ns.map V.int)) := by
        rw [upd_ne ndc]
        exact hc
      -- cells != []
      refine ⟨_, rfl, Nat.zero_le _, fun e ne => ?_⟩
      have s1 := same_new (o := HO.lst []) ne
      have hc3 := s1 _ _ hc2
      have hd3 := s1 _ _ (upd_same (H := H) (a := d) (o := .dK (feedL c (a + 1) l (t + 1))))
      have k3 : Keep d H (upd (upd H d (.dK (feedL c (a + 1) l (t + 1)))) e (.lst [])) := Keep.upd.trans (Keep.of_same s1)
      refine ⟨.list (ns.map PyData.int), .list [], .lst (SqL.of hc3) (dpAll_ints ns), .lst (SqL.of upd_same) .nil, shaped_ints ns, rfl, _, rfl, ?_⟩
      rw [eqv_nil]
      -- behind the cell
      have rest : ∀ cell : Int, tSeq (tIfS (tAnd (tTest (tOp (rI0 fun i j => .bl (decide (j ≤ i))) (tVar 6) (tOp (rI CPow fun i j => .int (i ^ j.toNat)) (tC (.int 10)) (tC (.int 18))))) (tTest (tOp (rI0 fun i j => .bl (decide (i < j))) (tVar 4) (tCB (fun xs H Q => ∃ p ys, xs = [.ref p] ∧ (SqL K H p ys ∨ SqT K H p ys) ∧ Q (.int ys.length) H) (tCons (tVar 5) tNil)))))
          (tSeq (sDPut (tVar 0) (tC (.str "left")) (tOp (rI CDiv fun i j => .int (i / j)) (tVar 6) (tVar 1))) (tRet (tOp (rI (fun _ j => j ≠ 0) fun i j => .int (i.fmod j)) (tVar 6) (tVar 1)))) tNext)
          (tSeq (tAsg (tOp (rI (fun _ j => j ≠ 0) fun i j => .int (i.fmod j)) (tOp (rI CPow fun i j => .int (i ^ j.toNat)) (tOp (rI0 fun i j => .int (i + j)) (tOp (rI (fun _ j => j ≠ 0) fun i j => .int (i.fmod j)) (tVar 6) (tC (.int 999983))) (tOp (rI CMul fun i j => .int (i * j)) (tC (.int 7919)) (tVar 2))) (tC (.int 5))) (tC (.int 2305843009213693951))) (gName 7))
          (tRet (tOp (rI (fun _ j => j ≠ 0) fun i j => .int (i.fmod j)) (tOp (rI CDiv fun i j => .int (i / j)) (tOp (rI (fun _ j => j ≠ 0) fun i j => .int (i.fmod j)) (tOp (rI CMul fun i j => .int (i * j)) (tVar 7) (tOp (rI0 fun i j => .int (i + j)) (tOp (rI CMul fun i j => .int (i * j)) (tC (.int 2)) (tVar 2)) (tC (.int 104729)))) (tC (.int 2147483629))) (tC (.int 64))) (tVar 1))))
          { nx := fun _ H' => Q .non H', rt := Q } [some (.ref d), some (.int many), some (.int (t + 1)), none, some (.int a), some (.ref c), some (.int cell), none] (upd (upd H d (.dK (feedL c (a + 1) l (t + 1)))) e (.lst [])) := by
        intro cell
        have fin : tSeq (tAsg (tOp (rI (fun _ j => j ≠ 0) fun i j => .int (i.fmod j)) (tOp (rI CPow fun i j => .int (i ^ j.toNat)) (tOp (rI0 fun i j => .int (i + j)) (tOp (rI (fun _ j => j ≠ 0) fun i j => .int (i.fmod j)) (tVar 6) (tC (.int 999983))) (tOp (rI CMul fun i j => .int (i * j)) (tC (.int 7919)) (tVar 2))) (tC (.int 5))) (tC (.int 2305843009213693951))) (gName 7))
          (tRet (tOp (rI (fun _ j => j ≠ 0) fun i j => .int (i.fmod j)) (tOp (rI CDiv fun i j => .int (i / j)) (tOp (rI (fun _ j => j ≠ 0) fun i j => .int (i.fmod j)) (tOp (rI CMul fun i j => .int (i * j)) (tVar 7) (tOp (rI0 fun i j => .int (i + j)) (tOp (rI CMul fun i j => .int (i * j)) (tC (.int 2)) (tVar 2)) (tC (.int 104729)))) (tC (.int 2147483629))) (tC (.int 64))) (tVar 1)))
          { nx := fun _ H' => Q .non H', rt := Q } [some (.ref d), some (.int many), some (.int (t + 1)), none, some (.int a), some (.ref c), some (.int cell), none] (upd (upd H d (.dK (feedL c (a + 1) l (t + 1)))) e (.lst [])) := by
          have hm : 0 ≤ cell.fmod 999983 ∧ cell.fmod 999983 < 999983 := ⟨Int.fmod_nonneg_of_pos _ (by decide), Int.fmod_lt_of_pos _ (by decide)⟩
          refine ⟨_, rfl, cell, 999983, rfl, rfl, by show (999983 : Int) ≠ 0; decide, _, rfl, 7919, t + 1, rfl, rfl, .inl ⟨by decide, by decide⟩, _, _, rfl, rfl, _, 5, rfl, rfl, ⟨by decide, by decide, ?_⟩, _, 2305843009213693951, rfl, rfl, by show (2305843009213693951 : Int) ≠ 0; decide, ?_⟩
          · have e64 : (2 : Nat) ^ 64 = 18446744073709551616 := by decide
            rw [e64]
            omega
          · refine ⟨_, rfl, _, rfl, 2, t + 1, rfl, rfl, .inl ⟨by decide, by decide⟩, _, 104729, rfl, rfl, _, _, rfl, rfl, .inr ⟨?_, ?_⟩, _, 2147483629, rfl, rfl, by show (2147483629 : Int) ≠ 0; decide, _, 64, rfl, rfl, ⟨by decide, by decide⟩, _, rfl, _, many, rfl, rfl, Int.ne_of_gt hm0, ?_⟩
            · have e64 : (2 : Int) ^ 64 = 18446744073709551616 := by decide
              omega
            · have e64 : (2 : Int) ^ 64 = 18446744073709551616 := by decide
              omega
            · exact q _ _ (mod_ok _).1 (mod_ok _).2 k3 ⟨a + 1, l, ns, hd3, hc3, by omega⟩
        refine ⟨_, rfl, 10, 18, rfl, rfl, ⟨by decide, by decide, by decide⟩, cell, _, rfl, rfl, _, rfl, ite2 (fun c1 => ?_) (fun c1 => iteF fin)⟩
        refine ⟨_, rfl, _, rfl, c, _, rfl, .inl (SqL.of hc3), a, _, rfl, rfl, _, rfl, ite2 (fun c2 => ?_) (fun c2 => fin)⟩
        refine ⟨_, rfl, _, rfl, cell, many, rfl, rfl, ⟨hm0, hm1⟩, _, rfl, d, _, rfl, DPut.k (k := .inr "left") hd3 (feed_len c (a + 1) l (t + 1)), ?_⟩
        rw [put_left]
        refine ⟨_, rfl, _, rfl, cell, many, rfl, rfl, Int.ne_of_gt hm0, q _ _ (mod_ok cell).1 (mod_ok cell).2 (k3.trans Keep.upd) ⟨a + 1, _, ns, upd_same, ?_, by omega⟩⟩
        rw [upd_ne ndc]
        exact hc3
      cases ns with
      | nil => exact iteF (rest 0)
      | cons n r =>
        refine iteT ?_
        have hlen : (0 : Int) < (((n :: r).map V.int).length : Nat) := by simp
        have h1 : 0 ≤ a.fmod ((((n :: r).map V.int).length : Nat) : Int) := Int.fmod_nonneg_of_pos _ hlen
        have h2 : a.fmod ((((n :: r).map V.int).length : Nat) : Int) < ((((n :: r).map V.int).length : Nat) : Int) := Int.fmod_lt_of_pos _ hlen
        have h3 : (a.fmod ((((n :: r).map V.int).length : Nat) : Int)).toNat < ((n :: r).map V.int).length := by omega
        have h4 : ∃ x, ((n :: r).map V.int)[(a.fmod ((((n :: r).map V.int).length : Nat) : Int)).toNat]? = some (.int x) := by
          rw [List.getElem?_map]
          rw [List.length_map] at h3
          rw [List.length_map, List.getElem?_eq_getElem h3]
          exact ⟨_, rfl⟩
        obtain ⟨x, hx⟩ := h4
        refine ⟨_, rfl, _, rfl, _, rfl, c, _, rfl, .inl (SqL.of hc3), a, _, rfl, rfl, Int.ne_of_gt hlen, c, _, _, _, rfl, rfl, SqL.of hc3, at_of (Int.toNat_of_nonneg h1).symm hx, rest x⟩
end

end Fp

set_option Elab.async false
set_option linter.all false
set_option maxRecDepth 100000
set_option maxHeartbeats 4000000
set_option exponentiation.threshold 10000
namespace Fp
open PySem PySem.Spec PyProof.Rows L2
abbrev s_low : Stmt := topS 41
theorem sc_low : FnScope ["_law_top", "_law_bottom", "_law_one", "_law_other"] ["_law_top", "_law_bottom"] (defScope s_low) := ⟨rfl, rfl, rfl, by decide +kernel, rfl, by decide +kernel, by decide +kernel⟩
section
variable {P : Program} {w : World} {K : PySem.W.Frag} {mg : Str → Option Value} {base : Heap}
/-! ### lowest terms by the law's own division -/
def spLow : Sp := fun vs H Q _ => ∃ t b : Int, vs = [.int t, .int b] ∧ 0 < b ∧ Sm 8000 b ∧ ∀ p, H p = none → Q (.ref p) (upd H p (.tup [.int (ratT t b), .int (ratB t b)]))
theorem ok_low {f : Addr} {fd : FuncData} {k : Nat} (F : Fun K "_law_low" "_law_low" s_low f fd) (ma : mg "abs" = none) : FnOk P w K mg base CX0 (k + 1) f fd ["_law_top", "_law_bottom"] spLow := by
  refine F.ok sc_low (fun vs H Q E h => ?_) (fun cdv A outer s H vs Q E hr h => ?_)
  · obtain ⟨a, b, rfl, _⟩ := h
    rfl
  · obtain ⟨a, b, rfl, hb, sb, q⟩ := h
    refine ⟨_, pss_cons (ps_par (i := 2) (j := 3) rfl sc_low.nd rfl rfl (by decide) rfl rfl (pa_cons (pe_callB call_abs (by rfl) ma (by decide +kernel) (pa_cons (pv 0) pa_nil)) (pa_cons (pv 1) pa_nil)) (by rfl))
      (pss_cons (ps_while PassesOwn.never (pt_cmpR op_gt (pv 3) pe_int (nomark _)) (pss_one (ps_par (i := 2) (j := 3) rfl sc_low.nd rfl rfl (by decide) rfl rfl (pa_cons (pv 3) (pa_cons (pe_op op_modN (pv 2) (pv 3)) pa_nil)) (by rfl))))
      (pss_one (ps_ret (pe_tup (pa_cons (pe_op op_fdivA (pv 0) (pv 2)) (pa_cons (pe_op op_fdivA (pv 1) (pv 2)) pa_nil)))))), ?_⟩
    refine ⟨_, rfl, a, rfl, _, rfl, _, _, rfl, ?_⟩
    refine while_by (fun σ H1 => H1 = H ∧ ∃ g s : Int, σ = [some (.int a), some (.int b), some (.int g), some (.int s)] ∧ 0 ≤ g ∧ 0 ≤ s ∧ Int.gcd g s = Int.gcd a b)
      (fun σ _ => match σ with | [_, _, _, some (.int s)] => s.toNat | _ => 0) ?_ ?_ ?_
    · refine ⟨rfl, _, _, rfl, ?_, Int.le_of_lt hb, ?_⟩
      · rw [abs_if]; omega
      · rw [abs_if]
        show Nat.gcd _ _ = Nat.gcd _ _
        rw [Int.natAbs_natCast]
    · rintro σ H1 ⟨rfl, g, s, rfl, hg, hs, e⟩
      refine ⟨_, rfl, s, 0, rfl, rfl, _, rfl, ite2 (fun c => ?_) (fun c => ?_)⟩
      · have hp : 0 < s := of_decide_eq_true c
        have lt : s > g.fmod s := Int.fmod_lt_of_pos g hp
        have nn : 0 ≤ g.fmod s := Int.fmod_nonneg_of_pos g hp
        refine ⟨_, rfl, _, rfl, _, rfl, g, s, rfl, rfl, Int.ne_of_gt hp, _, _, rfl, ⟨rfl, s, g.fmod s, rfl, hs, nn, ?_⟩, ?_⟩
        · rw [gcd_turn hp hg]; exact e
        · show (g.fmod s).toNat < s.toNat
          omega
      · have hs0 : s = 0 := by
          have : ¬ 0 < s := fun z => c (decide_eq_true z)
          omega
        subst hs0
        have eg : g = ratG a b := by
          unfold ratG
          rw [if_neg (by omega), ← e, Int.gcd_zero_right]
          omega
        obtain ⟨c1, c2⟩ := ratG_ok (t := a) (Int.ne_of_gt hb) sb (by decide) (by decide)
        rw [eg]
        exact ⟨_, rfl, _, rfl, a, _, rfl, rfl, c1, _, rfl, _, rfl, b, _, rfl, rfl, c2, by show 2 ≤ sizeLine; decide, q⟩
    · intro σ H1 Q1 Q2 hq h
      obtain ⟨v, e1, i, j, e2, e3, k, e4, h⟩ := h
      exact ⟨v, e1, i, j, e2, e3, k, e4, hq _ _ h⟩
/-- what comes of lowest terms is no greater -/
theorem fdiv_le {x g : Int} (hg : 0 < g) (hd : g ∣ x) : (x.fdiv g).natAbs ≤ x.natAbs := by
  obtain ⟨y, rfl⟩ := hd
  rw [Int.mul_fdiv_cancel_left y (Int.ne_of_gt hg), Int.natAbs_mul]
  have : 1 ≤ g.natAbs := by omega
  exact Nat.le_mul_of_pos_left _ this
theorem ratG_pos {t b : Int} (hb : 0 < b) : 0 < ratG t b ∧ ratG t b ∣ t ∧ ratG t b ∣ b := by
  have e : ratG t b = ((Int.gcd t b : Nat) : Int) := by
    unfold ratG
    rw [if_neg (by omega)]
  rw [e]
  have := (gcd_le (t := t) (Int.ne_of_gt hb)).1
  exact ⟨by omega, Int.gcd_dvd_left .., Int.gcd_dvd_right ..⟩
theorem ratT_sm {t b : Int} {n : Nat} (hb : 0 < b) (h : Sm n t) : Sm n (ratT t b) := by
  obtain ⟨h1, h2, _⟩ := ratG_pos (t := t) hb
  exact Nat.lt_of_le_of_lt (fdiv_le h1 h2) h
theorem ratB_sm {t b : Int} {n : Nat} (hb : 0 < b) (h : Sm n b) : Sm n (ratB t b) := by
  obtain ⟨h1, _, h2⟩ := ratG_pos (t := t) hb
  exact Nat.lt_of_le_of_lt (fdiv_le h1 h2) h
theorem ratB_pos {t b : Int} (hb : 0 < b) : 0 < ratB t b := by
  obtain ⟨h1, _, y, hy⟩ := ratG_pos (t := t) hb
  unfold ratB
  have e : b.fdiv (ratG t b) = y := by
    have := Int.mul_fdiv_cancel_left y (Int.ne_of_gt h1)
    rw [← hy] at this
    exact this
  rw [e]
  rcases Int.lt_trichotomy y 0 with z | z | z
  · have := Int.mul_neg_of_pos_of_neg h1 z
    omega
  · rw [z, Int.mul_zero] at hy
    omega
  · exact z
end

end Fp

set_option Elab.async false
set_option linter.all false
set_option maxRecDepth 100000
set_option maxHeartbeats 4000000
set_option exponentiation.threshold 10000
namespace Fp
open PySem PySem.Spec PyProof.Rows L2
abbrev s_ltimes : Stmt := topS 43
theorem sc_ltimes : FnScope ["_law_one", "_law_other"] ["_law_one", "_law_other"] (defScope s_ltimes) := ⟨rfl, rfl, rfl, by decide +kernel, rfl, by decide +kernel, by decide +kernel⟩
section
variable {P : Program} {w : World} {K : PySem.W.Frag} {mg : Str → Option Value} {base : Heap}
theorem ok_ltimes {f fR : Addr} {fd fdR : FuncData} (F : Fun K "_law_times" "_law_times" s_ltimes f fd) (FR : Fun K "_law_low" "_law_low" s_low fR fdR) (bR : Binds K fdR ["_law_top", "_law_bottom"] []) (gR : mg "_law_low" = some (.ref fR)) (GR : FnOk P w K mg base CX0 1 fR fdR ["_law_top", "_law_bottom"] spLow) : FnOk P w K mg base CX0 2 f fd ["_law_one", "_law_other"] (spTwo K (fun a b c d => a * c)) := by
  refine F.ok sc_ltimes (fun vs H Q E h => ?_) (fun cdv A outer s H vs Q E hr h => ?_)
  · obtain ⟨_, _, _, _, _, _, rfl, _⟩ := h
    rfl
  · obtain ⟨p1, p2, a, b, c, d, rfl, T, q⟩ := h
    refine ⟨_, pss_one (ps_ret (pe_call GR hr (by rfl) gR FR.kp bR .nil pass0 (pa_cons (pe_op op_mulA (pe_ix ix_tup (pv 0) pe_int (fun _ _ => rfl)) (pe_ix ix_tup (pv 1) pe_int (fun _ _ => rfl))) (pa_cons (pe_op op_mulA (pe_ix ix_tup (pv 0) pe_int (fun _ _ => rfl)) (pe_ix ix_tup (pv 1) pe_int (fun _ _ => rfl))) pa_nil)))), ?_⟩
    refine ⟨_, rfl, p1, _, 0, _, rfl, rfl, T.t1, atI_nat (j := 0) rfl, _, rfl, p2, _, 0, _, rfl, rfl, T.t2, atI_nat (j := 0) rfl, a, c, rfl, rfl, T.sa.cmul T.sc (by decide) (by decide) (by decide), _, rfl, p1, _, 1, _, rfl, rfl, T.t1, atI_nat (j := 1) rfl, _, rfl, p2, _, 1, _, rfl, rfl, T.t2, atI_nat (j := 1) rfl, b, d, rfl, rfl, T.sb.cmul T.sd (by decide) (by decide) (by decide), ?_⟩
    exact ⟨_, _, rfl, T.den, (T.sb.mul T.sd).mono (by decide), q⟩
end

end Fp

set_option Elab.async false
set_option linter.all false
set_option maxRecDepth 100000
set_option maxHeartbeats 4000000
set_option exponentiation.threshold 10000
namespace Fp
open PySem PySem.Spec PyProof.Rows L2
abbrev s_lless : Stmt := topS 44
theorem sc_lless : FnScope ["_law_one", "_law_other"] ["_law_one", "_law_other"] (defScope s_lless) := ⟨rfl, rfl, rfl, by decide +kernel, rfl, by decide +kernel, by decide +kernel⟩
section
variable {P : Program} {w : World} {K : PySem.W.Frag} {mg : Str → Option Value} {base : Heap}
theorem ok_lless {f fR : Addr} {fd fdR : FuncData} (F : Fun K "_law_less" "_law_less" s_lless f fd) (FR : Fun K "_law_low" "_law_low" s_low fR fdR) (bR : Binds K fdR ["_law_top", "_law_bottom"] []) (gR : mg "_law_low" = some (.ref fR)) (GR : FnOk P w K mg base CX0 1 fR fdR ["_law_top", "_law_bottom"] spLow) : FnOk P w K mg base CX0 2 f fd ["_law_one", "_law_other"] (spTwo K (fun a b c d => a * d - c * b)) := by
  refine F.ok sc_lless (fun vs H Q E h => ?_) (fun cdv A outer s H vs Q E hr h => ?_)
  · obtain ⟨_, _, _, _, _, _, rfl, _⟩ := h
    rfl
  · obtain ⟨p1, p2, a, b, c, d, rfl, T, q⟩ := h
    refine ⟨_, pss_one (ps_ret (pe_call GR hr (by rfl) gR FR.kp bR .nil pass0 (pa_cons (pe_op op_sub (pe_op op_mulA (pe_ix ix_tup (pv 0) pe_int (fun _ _ => rfl)) (pe_ix ix_tup (pv 1) pe_int (fun _ _ => rfl))) (pe_op op_mulA (pe_ix ix_tup (pv 1) pe_int (fun _ _ => rfl)) (pe_ix ix_tup (pv 0) pe_int (fun _ _ => rfl)))) (pa_cons (pe_op op_mulA (pe_ix ix_tup (pv 0) pe_int (fun _ _ => rfl)) (pe_ix ix_tup (pv 1) pe_int (fun _ _ => rfl))) pa_nil)))), ?_⟩
    refine ⟨_, rfl, p1, _, 0, _, rfl, rfl, T.t1, atI_nat (j := 0) rfl, _, rfl, p2, _, 1, _, rfl, rfl, T.t2, atI_nat (j := 1) rfl, a, d, rfl, rfl, T.sa.cmul T.sd (by decide) (by decide) (by decide), _, rfl, p2, _, 0, _, rfl, rfl, T.t2, atI_nat (j := 0) rfl, _, rfl, p1, _, 1, _, rfl, rfl, T.t1, atI_nat (j := 1) rfl, c, b, rfl, rfl, T.sc.cmul T.sb (by decide) (by decide) (by decide), _, _, rfl, rfl, _, rfl, p1, _, 1, _, rfl, rfl, T.t1, atI_nat (j := 1) rfl, _, rfl, p2, _, 1, _, rfl, rfl, T.t2, atI_nat (j := 1) rfl, b, d, rfl, rfl, T.sb.cmul T.sd (by decide) (by decide) (by decide), ?_⟩
    exact ⟨_, _, rfl, T.den, (T.sb.mul T.sd).mono (by decide), q⟩
end

end Fp

set_option Elab.async false
set_option linter.all false
set_option maxRecDepth 100000
set_option maxHeartbeats 4000000
set_option exponentiation.threshold 10000
namespace Fp
open PySem PySem.Spec PyProof.Rows L2
theorem tC_go {v : V} {σ : L2.St} {H : Hp} {Q : VK} (h : Q v H) : tC v σ H Q := h
theorem tYes_go {σ : L2.St} {H : Hp} {Q : Bool → Hp → Prop} (h : Q true H) : tYes σ H Q := h
/-! ### lives as they stand in the heap -/
abbrev RT := Int × Int
def RAt (K : PySem.W.Frag) (H : Hp) (p : Addr) (x : RT) : Prop := SqT K H p [.int x.1, .int x.2]
inductive RsAt (K : PySem.W.Frag) (H : Hp) : List Addr → List RT → Prop
  | nil : RsAt K H [] []
  | cons {p : Addr} {x : RT} {ps : List Addr} {xs : List RT} : RAt K H p x → RsAt K H ps xs → RsAt K H (p :: ps) (x :: xs)
def RowAt (K : PySem.W.Frag) (H : Hp) (p : Addr) (xs : List RT) : Prop := ∃ rs : List Addr, SqT K H p (rs.map V.ref) ∧ RsAt K H rs xs
def LifeAt (K : PySem.W.Frag) (H : Hp) (p : Addr) (row : List RT) (step : RT) : Prop := ∃ pr ps : Addr, SqT K H p [.ref pr, .ref ps] ∧ RowAt K H pr row ∧ RAt K H ps step
/-- tuples stay -/
def Tk (K : PySem.W.Frag) (H H' : Hp) : Prop := ∀ a xs, SqT K H a xs → SqT K H' a xs
section
variable {K : PySem.W.Frag} {H H' H2 : Hp}
theorem Tk.refl : Tk K H H := fun _ _ h => h
theorem Tk.trans (a : Tk K H H') (b : Tk K H' H2) : Tk K H H2 := fun p xs h => b p xs (a p xs h)
theorem Tk.same (e : Same H H') : Tk K H H' := fun _ _ h => sqT_same e h
theorem Tk.new {p : Addr} {o : HO} (n : H p = none) : Tk K H (upd H p o) := Tk.same (same_new n)
theorem Tk.keep {d c : Addr} {t : Int} (f : Feed H d c t) (e : Keep d H H') : Tk K H H' := fun _ _ h => sqT_keep f e h
theorem RAt.tk {p : Addr} {x : RT} (h : RAt K H p x) (e : Tk K H H') : RAt K H' p x := e _ _ h
theorem RsAt.tk : ∀ {ps : List Addr} {xs : List RT}, RsAt K H ps xs → Tk K H H' → RsAt K H' ps xs
  | _, _, .nil, _ => .nil
  | _, _, .cons h r, e => .cons (h.tk e) (r.tk e)
theorem RowAt.tk {p : Addr} {xs : List RT} (h : RowAt K H p xs) (e : Tk K H H') : RowAt K H' p xs := by
  obtain ⟨rs, h1, h2⟩ := h
  exact ⟨rs, e _ _ h1, h2.tk e⟩
theorem LifeAt.tk {p : Addr} {row : List RT} {step : RT} (h : LifeAt K H p row step) (e : Tk K H H') : LifeAt K H' p row step := by
  obtain ⟨pr, ps, h1, h2, h3⟩ := h
  exact ⟨pr, ps, e _ _ h1, h2.tk e, h3.tk e⟩
theorem RsAt.length : ∀ {ps : List Addr} {xs : List RT}, RsAt K H ps xs → ps.length = xs.length
  | _, _, .nil => rfl
  | _, _, .cons _ r => congrArg (· + 1) r.length
theorem RsAt.get : ∀ {ps : List Addr} {xs : List RT} {i : Nat} {x : RT}, RsAt K H ps xs → xs[i]? = some x → ∃ p, ps[i]? = some p ∧ RAt K H p x
  | _, _, _, _, .nil, e => by simp at e
  | _, _, 0, _, .cons h _, e => by
    cases Option.some.inj e
    exact ⟨_, rfl, h⟩
  | _, _, i + 1, x, .cons _ r, e => RsAt.get (i := i) (x := x) r e
theorem RsAt.append : ∀ {ps qs : List Addr} {xs ys : List RT}, RsAt K H ps xs → RsAt K H qs ys → RsAt K H (ps ++ qs) (xs ++ ys)
  | _, _, _, _, .nil, s => s
  | _, _, _, _, .cons h r, s => .cons h (r.append s)
theorem RsAt.take : ∀ {ps : List Addr} {xs : List RT} (n : Nat), RsAt K H ps xs → RsAt K H (ps.take n) (xs.take n)
  | _, _, 0, _ => .nil
  | _, _, _ + 1, .nil => .nil
  | _, _, n + 1, .cons h r => .cons h (r.take n)
theorem RsAt.drop : ∀ {ps : List Addr} {xs : List RT} (n : Nat), RsAt K H ps xs → RsAt K H (ps.drop n) (xs.drop n)
  | _, _, 0, r => r
  | _, _, _ + 1, .nil => .nil
  | _, _, n + 1, .cons _ r => RsAt.drop n r
end
/-! ### lowest terms -/
def low2 (t b : Int) : RT := (ratT t b, ratB t b)
/-- a ratio in lowest terms -/
def Red (x : RT) : Prop := 0 < x.2 ∧ Int.gcd x.1 x.2 = 1
theorem low2_red {t b : Int} (hb : b ≠ 0) : Red (low2 t b) := by
  have main : ∀ (t b : Int), 0 < b → Red (low2 t b) := fun t b hb => by
    refine ⟨ratB_pos hb, ?_⟩
    have e : ratG t b = ((Int.gcd t b : Nat) : Int) := by
      unfold ratG
      rw [if_neg (by omega)]
    have hg := (gcd_le (t := t) (Int.ne_of_gt hb)).1
    obtain ⟨h1, ⟨x, hx⟩, ⟨y, hy⟩⟩ := ratG_pos (t := t) hb
    have ex : t.fdiv (ratG t b) = x := by
      have := Int.mul_fdiv_cancel_left x (Int.ne_of_gt h1)
      rw [← hx] at this
      exact this
    have ey : b.fdiv (ratG t b) = y := by
      have := Int.mul_fdiv_cancel_left y (Int.ne_of_gt h1)
      rw [← hy] at this
      exact this
    show Int.gcd (t.fdiv (ratG t b)) (b.fdiv (ratG t b)) = 1
    rw [ex, ey]
    have z : Int.gcd t b = (ratG t b).natAbs * Int.gcd x y := by
      have := Int.gcd_mul_left (ratG t b) x y
      rw [← hx, ← hy] at this
      exact this
    have z2 : (ratG t b).natAbs = Int.gcd t b := by rw [e]; exact Int.natAbs_natCast _
    rw [z2] at z
    exact (Nat.eq_of_mul_eq_mul_left hg (by rw [Nat.mul_one]; exact z)).symm
  rcases (by omega : 0 < b ∨ b < 0) with z | z
  · exact main t b z
  · have e1 : ratG t b = -((Int.gcd t b : Nat) : Int) := by unfold ratG; rw [if_pos z]
    have e2 : ratG (-t) (-b) = ((Int.gcd t b : Nat) : Int) := by
      unfold ratG
      rw [if_neg (by omega)]
      show ((Nat.gcd _ _ : Nat) : Int) = ((Nat.gcd _ _ : Nat) : Int)
      rw [Int.natAbs_neg, Int.natAbs_neg]
    have fl : ∀ x g : Int, x.fdiv (-g) = (-x).fdiv g := fun x g => by
      have y := Int.neg_fdiv_neg (-x) g
      rw [Int.neg_neg] at y
      exact y
    have e : low2 t b = low2 (-t) (-b) := by
      unfold low2 ratT ratB
      rw [e1, e2, fl, fl]
    rw [e]
    exact main _ _ (by omega)
/-- the value of it: a by b, told crosswise -/
theorem low2_cross {t b : Int} (hb : 0 < b) : (low2 t b).1 * b = t * (low2 t b).2 := by
  obtain ⟨h1, ⟨x, hx⟩, ⟨y, hy⟩⟩ := ratG_pos (t := t) hb
  have ex : (low2 t b).1 = x := by
    show t.fdiv (ratG t b) = x
    have := Int.mul_fdiv_cancel_left x (Int.ne_of_gt h1)
    rw [← hx] at this
    exact this
  have ey : (low2 t b).2 = y := by
    show b.fdiv (ratG t b) = y
    have := Int.mul_fdiv_cancel_left y (Int.ne_of_gt h1)
    rw [← hy] at this
    exact this
  rw [ex, ey]
  generalize ratG t b = g at hx hy
  subst hx hy
  rw [Int.mul_comm g y, Int.mul_comm g x, Int.mul_assoc x g y, Int.mul_comm g y, ← Int.mul_assoc]
theorem dvd_cop {b a d : Int} (h : b ∣ a * d) (g : Int.gcd b a = 1) : b ∣ d := by
  rw [← Int.natAbs_dvd_natAbs] at h ⊢
  rw [Int.natAbs_mul] at h
  exact Nat.Coprime.dvd_of_dvd_mul_left g h
/-- two ratios in lowest terms of one value are one -/
theorem red_eq {x y : RT} (hx : Red x) (hy : Red y) (h : x.1 * y.2 = y.1 * x.2) : x = y := by
  obtain ⟨a, b⟩ := x
  obtain ⟨c, d⟩ := y
  obtain ⟨hb, g1⟩ := hx
  obtain ⟨hd, g2⟩ := hy
  dsimp only at *
  have b_d : b ∣ d := by
    have h1 : b ∣ a * d := ⟨c, by rw [h, Int.mul_comm]⟩
    exact dvd_cop h1 (by rw [Int.gcd_comm]; exact g1)
  have d_b : d ∣ b := by
    have h1 : d ∣ c * b := ⟨a, by rw [← h, Int.mul_comm]⟩
    exact dvd_cop h1 (by rw [Int.gcd_comm]; exact g2)
  have e : b = d := Int.dvd_antisymm (Int.le_of_lt hb) (Int.le_of_lt hd) b_d d_b
  subst e
  have e2 : a = c := Int.eq_of_mul_eq_mul_right (Int.ne_of_gt hb) h
  rw [e2]
def rT (x y : RT) : RT := low2 (x.1 * y.1) (x.2 * y.2)
/-! ### drawn lives -/
def lastW (ws : List Int) : Int := ws.getLastD 0
def wholeOf (ws : List Int) (extra : Int) (step : RT) : Int := (step.2 - step.1) * (ws.sum + extra) + step.1 * lastW ws
def rowOf (ws : List Int) (extra : Int) (step : RT) : List RT := ws.map fun x => low2 ((step.2 - step.1) * x) (wholeOf ws extra step)
structure Made (ws : List Int) (extra : Int) (step : RT) : Prop where
  ne : ws ≠ []
  len : ws.length ≤ 6
  nn : ∀ x ∈ ws, 0 ≤ x ∧ x ≤ 5
  last : 0 < lastW ws
  ex : 0 ≤ extra ∧ extra ≤ 8
  st : step = (0, 1) ∨ step = (1, 2) ∨ step = (1, 3) ∨ step = (2, 3) ∨ step = (3, 4)
theorem sum_bound : ∀ {ws : List Int}, (∀ x ∈ ws, 0 ≤ x ∧ x ≤ 5) → 0 ≤ ws.sum ∧ ws.sum ≤ 5 * (ws.length : Int)
  | [], _ => ⟨by decide, by decide⟩
  | x :: r, h => by
    have h1 := h x (List.mem_cons_self ..)
    have h2 := sum_bound fun y hy => h y (List.mem_cons_of_mem _ hy)
    rw [List.sum_cons, List.length_cons]
    omega
theorem last_le_sum : ∀ {ws : List Int}, (∀ x ∈ ws, 0 ≤ x ∧ x ≤ 5) → lastW ws ≤ ws.sum
  | [], _ => by decide
  | [x], h => by
    show x ≤ _
    rw [List.sum_cons, List.sum_nil]
    omega
  | x :: y :: r, h => by
    have h1 := h x (List.mem_cons_self ..)
    have h2 := last_le_sum (ws := y :: r) fun z hz => h z (List.mem_cons_of_mem _ hz)
    have e : lastW (x :: y :: r) = lastW (y :: r) := by
      unfold lastW
      rw [List.getLastD_cons, List.getLastD_cons]
      show _ = (y :: r).getLastD 0
      rw [List.getLastD_cons]
    rw [e, List.sum_cons]
    omega
theorem Made.step_ok {ws : List Int} {extra : Int} {step : RT} (m : Made ws extra step) : 0 ≤ step.1 ∧ step.1 < step.2 ∧ step.2 ≤ 4 ∧ Red step := by
  rcases m.st with rfl | rfl | rfl | rfl | rfl <;> exact ⟨by decide, by decide, by decide, by decide, by decide⟩
theorem Made.whole {ws : List Int} {extra : Int} {step : RT} (m : Made ws extra step) : 0 < wholeOf ws extra step ∧ wholeOf ws extra step ≤ 200 := by
  have h1 := sum_bound m.nn
  have h2 := last_le_sum m.nn
  have h3 := m.last
  have h4 := m.ex
  have h5 := m.len
  unfold wholeOf
  generalize ws.sum = S at *
  generalize lastW ws = L at *
  rcases m.st with rfl | rfl | rfl | rfl | rfl <;> dsimp only <;> omega

end Fp

set_option Elab.async false
set_option linter.all false
set_option maxRecDepth 100000
set_option maxHeartbeats 4000000
set_option exponentiation.threshold 10000
namespace Fp
open PySem PySem.Spec PyProof.Rows L2
abbrev s_life : Stmt := topS 45
abbrev N_life : List Str := ["_law_feed_here", "_law_way", "_law_many", "_law_part", "_law_weights", "_law_top", "_law_bottom", "_law_extra", "_law_whole", "_law_k", "_law_weight"]
theorem sc_life : FnScope N_life ["_law_feed_here", "_law_way"] (defScope s_life) := ⟨rfl, rfl, rfl, by decide +kernel, rfl, by decide +kernel, by decide +kernel⟩
theorem pick4 {a b c d : V} {r : Int} (h0 : 0 ≤ r) (h1 : r < 4) : ∃ v, atI [a, b, c, d] r = some v ∧ (v = a ∨ v = b ∨ v = c ∨ v = d) := by
  rcases (by omega : r = 0 ∨ r = 1 ∨ r = 2 ∨ r = 3) with rfl | rfl | rfl | rfl
  · exact ⟨a, atI_nat (j := 0) rfl, .inl rfl⟩
  · exact ⟨b, atI_nat (j := 1) rfl, .inr (.inl rfl)⟩
  · exact ⟨c, atI_nat (j := 2) rfl, .inr (.inr (.inl rfl))⟩
  · exact ⟨d, atI_nat (j := 3) rfl, .inr (.inr (.inr rfl))⟩
theorem pick2' {a b : V} {r : Int} (h0 : 0 ≤ r) (h1 : r < 2) : ∃ v, atI [a, b] r = some v ∧ (v = a ∨ v = b) := by
  rcases (by omega : r = 0 ∨ r = 1) with rfl | rfl
  · exact ⟨a, atI_nat (j := 0) rfl, .inl rfl⟩
  · exact ⟨b, atI_nat (j := 1) rfl, .inr rfl⟩
theorem tk_lst {K : PySem.W.Frag} {H : Hp} {p : Addr} {xs ys : List V} (h : H p = some (.lst xs)) : Tk K H (upd H p (.lst ys)) := fun a zs z => by
  rcases z with (z | ⟨o, z⟩) | z
  · exact .inl (.inl (by rw [upd_ne (ne_of z h (by intro y; cases y))]; exact z))
  · exact .inl (.inr ⟨o, by rw [upd_ne (ne_of z h (by intro y; cases y))]; exact z⟩)
  · exact .inr z
theorem last_set {ws : List Int} (h : ws ≠ []) (x : Int) : lastW (ws.set (ws.length - 1) x) = x := by
  unfold lastW
  rw [List.getLastD_eq_getLast?, List.getLast?_eq_getElem?, List.length_set, List.getElem?_set_self (by
    have := List.length_pos_iff.mpr h
    omega)]
  rfl
theorem last_get {ws : List Int} (h : ws ≠ []) : ws[ws.length - 1]? = some (lastW ws) := by
  unfold lastW
  rw [List.getLastD_eq_getLast?, List.getLast?_eq_getElem?]
  have := List.length_pos_iff.mpr h
  rw [List.getElem?_eq_getElem (by omega)]
  rfl
theorem atI_lastW {ws : List Int} (h : ws ≠ []) : atI (ws.map V.int) (-1) = some (.int (lastW ws)) := by
  have e : ws.map V.int = ws.dropLast.map V.int ++ [V.int (ws.getLast h)] := by
    rw [← List.map_singleton, ← List.map_append, List.dropLast_concat_getLast]
  rw [e, atI_last]
  unfold lastW
  rw [List.getLastD_eq_getLast?, List.getLast?_eq_some_getLast h]
  rfl
section
variable {P : Program} {w : World} {K : PySem.W.Frag} {mg : Str → Option Value} {base : Heap}
def spLife (K : PySem.W.Frag) : Sp := fun vs H Q _ => ∃ (d c : Addr) (way t : Int), vs = [.ref d, .int way] ∧ Feed H d c t ∧ t ≤ 900000 ∧
  ∀ p ws extra step t' H', Keep d H H' → Feed H' d c t' → t' ≤ t + 12 → Made ws extra step → (way ≠ 2 → way ≠ 4 → extra = 0) → (way = 2 ∨ way = 4 → 0 < extra) → (way ≠ 3 → way ≠ 4 → step = (0, 1)) → LifeAt K H' p (rowOf ws extra step) step → Q (.ref p) H'
theorem draws_row {K : PySem.W.Frag} {H : Hp} {rs : List Addr} {xs : List RT} {p : Addr} {x : RT} (h : RsAt K H rs xs) (e : RAt K H p x) : RsAt K H (rs ++ [p]) (xs ++ [x]) := h.append (.cons e .nil)
theorem in_two {a b x : Int} : inV (.int x) [.int a, .int b] = (decide (x = a) || decide (x = b)) := by
  have e : ∀ y : Int, eqV (.int y) (.int x) = decide (x = y) := fun y => by
    show (y == x) = _
    rw [Bool.eq_iff_iff]
    simp
    exact ⟨fun z => z.symm, fun z => z.symm⟩
  unfold inV
  rw [List.any_cons, List.any_cons, List.any_nil, e, e, Bool.or_false]
theorem map_last {ws : List Int} (h : ws ≠ []) (x : Int) : ws.set (ws.length - 1) x ≠ [] := by
  intro z
  have := congrArg List.length z
  rw [List.length_set, List.length_nil] at this
  exact h (List.length_eq_zero_iff.mp this)
theorem ixN_last {n : Nat} (h : 0 < n) : ixN n (-1) = some (n - 1) := by
  unfold ixN
  rw [if_neg (by omega)]
  first
    | (rw [if_pos (by omega)]; congr 1; omega)
    | (simp; omega)
theorem ok_life {f fD fL : Addr} {fd fdD fdL : FuncData} (F : Fun K "_law_life" "_law_life" s_life f fd) (FD : Fun K "_law_draw" "_law_draw" s_draw fD fdD) (bD : Binds K fdD ["_law_feed_here", "_law_many"] []) (gD : mg "_law_draw" = some (.ref fD))
    (GD : FnOk P w K mg base CX0 1 fD fdD ["_law_feed_here", "_law_many"] spDraw)
    (FL : Fun K "_law_low" "_law_low" s_low fL fdL) (bL : Binds K fdL ["_law_top", "_law_bottom"] []) (gL : mg "_law_low" = some (.ref fL)) (GL : FnOk P w K mg base CX0 1 fL fdL ["_law_top", "_law_bottom"] spLow)
    (mr : mg "range" = none) (mi : mg "int" = none) (ms : mg "sum" = none) (mt : mg "tuple" = none) : FnOk P w K mg base CX0 2 f fd ["_law_feed_here", "_law_way"] (spLife K) := by
  refine F.ok sc_life (fun vs H Q E h => ?_) (fun cdv A outer s H vs Q E hr h => ?_)
  · obtain ⟨_, _, _, _, rfl, _⟩ := h
    rfl
  · obtain ⟨d, c, way, t, rfl, f0, ht, q⟩ := h
    have hr1 := hr
    refine ⟨_, (pss_cons (ps_set (i := 2) sc_life.nd rfl (.inl rfl) (pe_op op_add pe_int (pe_call GD hr (by rfl) gD FD.kp bD .nil pass0 (pa_cons (pv 0) (pa_cons (pe_ix ix_list (pe_lst (pa_cons pe_int (pa_cons pe_int pa_nil))) (pe_call GD hr (by rfl) gD FD.kp bD .nil pass0 (pa_cons (pv 0) (pa_cons pe_int pa_nil))) (fun _ _ => rfl)) pa_nil))))) (pss_cons (ps_set (i := 3) sc_life.nd rfl (.inr rfl) (pe_op op_add pe_int (pe_call GD hr (by rfl) gD FD.kp bD .nil pass0 (pa_cons (pv 0) (pa_cons pe_int pa_nil))))) (pss_mid (ps_if (pt_cmpR op_eq (pv 1) pe_int (nomark _)) (pss_one (ps_set (i := 2) sc_life.nd rfl (.inl rfl) (pe_op op_mul (pv 3) (pe_op op_add pe_int (pe_call GD hr (by rfl) gD FD.kp bD .nil pass0 (pa_cons (pv 0) (pa_cons (pe_op op_fdiv pe_int (pv 3)) pa_nil))))))) pss_nil) (pss_mid (ps_set (i := 4) sc_life.nd rfl (.inr rfl) (pe_lc (own := [("_law_k", 9)]) (g := gName 9) (tt := tYes) rfl sc_life.nd (pi_range1 (by rfl) mr (pa_cons (pv 2) pa_nil)) (blkOk_by (own := [("_law_k", 9)]) (N := N_life) (sc := defScope s_life) (by decide +kernel))
          (fun _ _ _ _ _ => pg_name (i := 9) sc_life.nd rfl (.inl rfl)) (fun _ _ _ _ _ => pts_nil) (fun _ _ _ _ _ => (pe_call GD hr (by rfl) gD FD.kp bD .nil pass0 (pa_cons (pv 0) (pa_cons pe_int pa_nil)))))) (pss_mid (ps_asg (pe_ifExp (pt_cmpR op_in_seq (pv 1) (pe_tup (pa_cons pe_int (pa_cons pe_int pa_nil))) (by rfl))
          (pe_ix ix_list (pe_lst (pa_cons (pe_tup (pa_cons pe_int (pa_cons pe_int pa_nil))) (pa_cons (pe_tup (pa_cons pe_int (pa_cons pe_int pa_nil))) (pa_cons (pe_tup (pa_cons pe_int (pa_cons pe_int pa_nil))) (pa_cons (pe_tup (pa_cons pe_int (pa_cons pe_int pa_nil))) pa_nil))))) (pe_call GD hr (by rfl) gD FD.kp bD .nil pass0 (pa_cons (pv 0) (pa_cons pe_int pa_nil))) (fun _ _ => rfl))
          (pe_tup (pa_cons pe_int (pa_cons pe_int pa_nil)))) (pg_tup rfl (pgs_cons (pg_name (i := 5) sc_life.nd rfl (.inr rfl)) (pgs_cons (pg_name (i := 6) sc_life.nd rfl (.inr rfl)) pgs_nil)))) (pss_mid (ps_if (pt_cmpR op_eq (pv 1) pe_int (nomark _)) (pss_one (ps_set (i := 4) sc_life.nd rfl (.inr rfl) (pe_lc (own := [("_law_k", 9)]) (g := gName 9) (tt := tYes) (te := tOp (rI CMul fun i j => .int (i * j)) (tOp (rIxL K) (tVar 4) (tVar 9)) (tCB (fun xs H Q => (∃ i, xs = [.int i] ∧ Q (.int i) H) ∨ ∃ k, xs = [.bl k] ∧ Q (.int (if k then 1 else 0)) H) (tCons (tOp rEq (tOp (rI (fun _ j => j ≠ 0) fun i j => .int (i.fmod j)) (tOp (rI0 fun i j => .int (i + j)) (tVar 9) (tC (.int 1))) (tVar 3)) (tC (.int 0))) tNil))) rfl sc_life.nd (pi_range1 (by rfl) mr (pa_cons (pv 2) pa_nil)) (blkOk_by (own := [("_law_k", 9)]) (N := N_life) (sc := defScope s_life) (by decide +kernel))
          (fun _ _ _ _ _ => pg_name (i := 9) sc_life.nd rfl (.inl rfl)) (fun _ _ _ _ _ => pts_nil)
          (fun _ _ _ _ _ => (pe_op op_mul (pe_ix ix_list (pv 4) (pv 9) (fun _ _ => rfl)) (pe_callTy call_int1 (by rfl) mi (by decide +kernel) (pa_cons (pe_cmpR op_eq (pe_op op_modN (pe_op op_add (pv 9) pe_int) (pv 3)) pe_int (nomark _)) pa_nil))))))) pss_nil) (pss_mid (ps_asg (pe_op op_add (pe_ix ix_list (pv 4) (pe_un un_neg pe_int) (fun _ _ => rfl)) pe_int) (pg_sub (pv 4) (pe_un un_neg pe_int) set_list)) (pss_mid (ps_set (i := 7) sc_life.nd rfl (.inl rfl) (pe_ifExp (pt_cmpR op_in_seq (pv 1) (pe_tup (pa_cons pe_int (pa_cons pe_int pa_nil))) (by rfl)) (pe_op op_add pe_int (pe_call GD hr (by rfl) gD FD.kp bD .nil pass0 (pa_cons (pv 0) (pa_cons pe_int pa_nil)))) pe_int)) (pss_cons (ps_set (i := 8) sc_life.nd rfl (.inr rfl) (pe_op op_add (pe_op op_mul (pe_op op_sub (pv 6) (pv 5)) (pe_op op_add (pe_callB (cr_sum rfl) (by rfl) ms (by decide +kernel) (pa_cons (pv 4) pa_nil)) (pv 7))) (pe_op op_mul (pv 5) (pe_ix ix_list (pv 4) (pe_un un_neg pe_int) (fun _ _ => rfl))))) (pss_one (ps_ret (pe_tup (pa_cons (pe_callTy call_tuple_of (by rfl) mt (by decide +kernel) (pa_cons (pe_lc (own := [("_law_weight", 10)]) (g := gName 10) (tt := tYes) rfl sc_life.nd (pi_list (pv 4)) (blkOk_by (own := [("_law_weight", 10)]) (N := N_life) (sc := defScope s_life) (by decide +kernel))
          (fun _ _ _ _ _ => pg_name (i := 10) sc_life.nd rfl (.inl rfl)) (fun _ _ _ _ _ => pts_nil) (fun _ _ _ _ _ => (pe_call GL hr1 (by rfl) gL FL.kp bL .nil pass0 (pa_cons (pe_op op_mul (pe_op op_sub (pv 6) (pv 5)) (pv 10)) (pa_cons (pv 8) pa_nil))))) pa_nil))
          (pa_cons (pe_tup (pa_cons (pv 5) (pa_cons (pv 6) pa_nil))) pa_nil)))))))))))))), ?_⟩
    -- many, part
    refine ⟨_, rfl, by show 2 ≤ sizeLine; decide, fun p1 n1 => ?_⟩
    refine ⟨_, rfl, d, c, 2, t, rfl, f0.new n1, by omega, by decide, by decide, fun r1 H1 h10 h11 k1 f1 => ?_⟩
    obtain ⟨v1, e1, c1⟩ := pick2' (a := V.int 3) (b := V.int 6) h10 h11
    obtain ⟨x1, rfl, y1⟩ : ∃ x : Int, v1 = .int x ∧ 0 < x ∧ x ≤ 6 := by
      rcases c1 with z | z
      · exact ⟨3, z, by decide, by decide⟩
      · exact ⟨6, z, by decide, by decide⟩
    refine ⟨p1, _, r1, _, rfl, rfl, SqL.of (keep_at (f0.new n1) k1 upd_same (fun _ z => nomatch z)), e1, ?_⟩
    refine ⟨d, c, x1, t + 1, rfl, f1, by omega, y1.1, by omega, fun r2 H2 h20 h21 k2 f2 => ?_⟩
    refine ⟨1, r2, rfl, rfl, ?_⟩
    refine ⟨_, rfl, d, c, 2, t + 1 + 1, rfl, f2, by omega, by decide, by decide, fun r3 H3 h30 h31 k3 f3 => ?_⟩
    refine ⟨2, r3, rfl, rfl, ?_⟩
    have K3 := (keep_new n1 k1).trans (k2.trans k3)
    -- way 5
    refine ⟨fun σ H4 => ∃ many t4 : Int, σ = [some (.ref d), some (.int way), some (.int many), some (.int (2 + r3)), none, none, none, none, none, none, none] ∧ Keep d H H4 ∧ Feed H4 d c t4 ∧ t4 ≤ t + 4 ∧ 1 ≤ many ∧ many ≤ 6, ?_, ?_⟩
    · refine ⟨_, rfl, rfl, _, rfl, ite2 (fun c5 => ?_) (fun c5 => ?_)⟩
      · refine ⟨_, rfl, _, rfl, _, rfl, 6, 2 + r3, rfl, rfl, ⟨by omega, by omega⟩, ?_⟩
        have m6 : 1 ≤ 6 / (2 + r3) ∧ (2 + r3) * (6 / (2 + r3)) ≤ 6 := by
          rcases (by omega : r3 = 0 ∨ r3 = 1) with rfl | rfl <;> decide
        refine ⟨d, c, _, t + 1 + 1 + 1, rfl, f3, by omega, by omega, ?_, fun r4 H4 h40 h41 k4 f4 => ?_⟩
        · rcases (by omega : r3 = 0 ∨ r3 = 1) with rfl | rfl <;> decide
        · refine ⟨1, r4, rfl, rfl, 2 + r3, 1 + r4, rfl, rfl, .inl ⟨by omega, by omega⟩, _, _, rfl, K3.trans k4, f4, by omega, ?_, ?_⟩
          · rcases (by omega : r3 = 0 ∨ r3 = 1) with rfl | rfl <;> omega
          · rcases (by omega : r3 = 0 ∨ r3 = 1) with rfl | rfl
            · have : r4 < 3 := h41
              omega
            · have : r4 < 2 := h41
              omega
      · exact ⟨_, _, rfl, K3, f3, by omega, by omega, by omega⟩
    rintro σ H4 ⟨many, t4, rfl, K4, f4, ht4, hm1, hm6⟩
    -- weights
    refine ⟨fun σ H5 => ∃ (W : Addr) (ws : List Int) (t5 : Int), σ = [some (.ref d), some (.int way), some (.int many), some (.int (2 + r3)), some (.ref W), none, none, none, none, none, none] ∧ Keep d H H5 ∧ Feed H5 d c t5 ∧ t5 ≤ t4 + many ∧ H W = none ∧ W ≠ c ∧
      H5 W = some (.lst (ws.map V.int)) ∧ (ws.length : Int) = many ∧ ∀ x ∈ ws, 0 ≤ x ∧ x ≤ 4, ?_, ?_⟩
    · refine ⟨_, rfl, many, rfl, by omega, by omega, fun W nW => ?_⟩
      have nW0 := K4.none f4 nW
      have nWc := f4.nc nW
      have nWd := f4.nd nW
      refine lc_range (lo := 0) (n := many.toNat) (fun i H5 => ∃ (ws : List Int) (t5 : Int), Keep d H H5 ∧ Feed H5 d c t5 ∧ t5 = t4 + i ∧ H5 W = some (.lst (ws.map V.int)) ∧ ws.length = i ∧ ∀ x ∈ ws, 0 ≤ x ∧ x ≤ 4) ?_ ?_ ?_
      · exact ⟨[], t4, K4.wr nW0, f4.wr nWd nWc, by omega, upd_same, rfl, fun x hx => by simp at hx⟩
      · rintro i H5 hi ⟨ws, t5, K5, f5, et, hW, hl, hx⟩
        refine ⟨rfl, tYes_go ?_⟩
        refine iteT ?_
        refine ⟨_, rfl, d, c, 5, t5, rfl, f5, by omega, by decide, by decide, fun r H6 h0 h1 k6 f6 => ?_⟩
        refine ⟨ws.map V.int, keep_at f5 k6 hW (fun _ z => nomatch z), by rw [List.length_map, hl]; exact small1000 (by omega), ?_⟩
        refine ⟨ws ++ [r], t5 + 1, (K5.trans k6).wr nW0, f6.wr nWd nWc, by omega, ?_, by simp [hl], fun x hx2 => ?_⟩
        · rw [upd_same, List.map_append]
          rfl
        · rcases List.mem_append.mp hx2 with z | z
          · exact hx x z
          · have := List.mem_singleton.mp z
            omega
      · rintro H5 ⟨ws, t5, K5, f5, et, hW, hl, hx⟩
        exact ⟨W, ws, t5, rfl, K5, f5, by omega, nW0, nWc, hW, by omega, hx⟩
    rintro σ H5 ⟨W, ws, t5, rfl, K5, f5, ht5, nW0, nWc, hW, hl, hx⟩
    -- top, bottom
    refine ⟨fun σ H6 => ∃ (step : RT) (t6 : Int), σ = [some (.ref d), some (.int way), some (.int many), some (.int (2 + r3)), some (.ref W), some (.int step.1), some (.int step.2), none, none, none, none] ∧ Keep d H H6 ∧ Feed H6 d c t6 ∧ t6 ≤ t5 + 1 ∧ H6 W = some (.lst (ws.map V.int)) ∧
      (step = (0, 1) ∨ step = (1, 2) ∨ step = (1, 3) ∨ step = (2, 3) ∨ step = (3, 4)) ∧ (way ≠ 3 → way ≠ 4 → step = (0, 1)), ?_, ?_⟩
    · refine ⟨_, rfl, by show 2 ≤ sizeLine; decide, fun p2 n2 => ?_⟩
      refine ⟨p2, _, rfl, .inr (SqT.of upd_same), rfl, rfl, _, rfl, ?_⟩
      rw [in_two]
      have a2 := same_new (o := HO.tup [.int 3, .int 4]) n2
      refine ite2 (fun c6 => ?_) (fun c6 => ?_)
      · refine ⟨by show 2 ≤ sizeLine; decide, fun q1 m1 => ?_⟩
        have a3 := same_new (o := HO.tup [.int 1, .int 2]) m1
        refine ⟨by show 2 ≤ sizeLine; decide, fun q2 m2 => ?_⟩
        have a4 := same_new (o := HO.tup [.int 1, .int 3]) m2
        refine ⟨by show 2 ≤ sizeLine; decide, fun q3 m3 => ?_⟩
        have a5 := same_new (o := HO.tup [.int 2, .int 3]) m3
        refine ⟨by show 2 ≤ sizeLine; decide, fun q4 m4 => ?_⟩
        have a6 := same_new (o := HO.tup [.int 3, .int 4]) m4
        refine ⟨by show 4 ≤ sizeLine; decide, fun q5 m5 => ?_⟩
        have a7 := same_new (o := HO.lst [.ref q1, .ref q2, .ref q3, .ref q4]) m5
        have S := a2.trans (a3.trans (a4.trans (a5.trans (a6.trans a7))))
        have g1 := a7 _ _ (a6 _ _ (a5 _ _ (a4 _ _ (upd_same (H := upd H5 p2 (HO.tup [.int 3, .int 4])) (a := q1) (o := HO.tup [.int 1, .int 2])))))
        have g2 := a7 _ _ (a6 _ _ (a5 _ _ (upd_same (H := upd (upd H5 p2 (HO.tup [.int 3, .int 4])) q1 (HO.tup [.int 1, .int 2])) (a := q2) (o := HO.tup [.int 1, .int 3]))))
        have g3 := a7 _ _ (a6 _ _ (upd_same (H := upd (upd (upd H5 p2 (HO.tup [.int 3, .int 4])) q1 (HO.tup [.int 1, .int 2])) q2 (HO.tup [.int 1, .int 3])) (a := q3) (o := HO.tup [.int 2, .int 3])))
        have g4 := a7 _ _ (upd_same (H := upd (upd (upd (upd H5 p2 (HO.tup [.int 3, .int 4])) q1 (HO.tup [.int 1, .int 2])) q2 (HO.tup [.int 1, .int 3])) q3 (HO.tup [.int 2, .int 3])) (a := q4) (o := HO.tup [.int 3, .int 4]))
        have fS := f5.same S
        refine ⟨_, rfl, d, c, 4, t5, rfl, fS, by omega, by decide, by decide, fun r H6 h0 h1 k6 f6 => ?_⟩
        have tk : Tk K _ H6 := Tk.keep fS k6
        obtain ⟨v, ev, cv⟩ := pick4 (a := V.ref q1) (b := V.ref q2) (c := V.ref q3) (d := V.ref q4) h0 h1
        obtain ⟨qq, step, rfl, hs, hq⟩ : ∃ (qq : Addr) (step : RT), v = .ref qq ∧ (step = (0, 1) ∨ step = (1, 2) ∨ step = (1, 3) ∨ step = (2, 3) ∨ step = (3, 4)) ∧ SqT K H6 qq [.int step.1, .int step.2] := by
          rcases cv with z | z | z | z
          · exact ⟨q1, (1, 2), z, by decide, tk _ _ (SqT.of g1)⟩
          · exact ⟨q2, (1, 3), z, by decide, tk _ _ (SqT.of g2)⟩
          · exact ⟨q3, (2, 3), z, by decide, tk _ _ (SqT.of g3)⟩
          · exact ⟨q4, (3, 4), z, by decide, tk _ _ (SqT.of g4)⟩
        refine ⟨q5, _, r, _, rfl, rfl, SqL.of (keep_at fS k6 upd_same (fun _ z => nomatch z)), ev, ?_⟩
        refine ⟨qq, _, rfl, hq, rfl, _, _, rfl, _, _, rfl, rfl, step, t5 + 1, rfl, K5.trans ((Keep.of_same S).trans k6), f6, by omega, keep_at fS k6 (S _ _ hW) (fun _ z => nomatch z), hs, fun z1 z2 => ?_⟩
        simp [z1, z2] at c6
      · refine ⟨by show 2 ≤ sizeLine; decide, fun q1 m1 => ?_⟩
        have a3 := same_new (o := HO.tup [.int 0, .int 1]) m1
        exact ⟨q1, _, rfl, SqT.of upd_same, rfl, _, _, rfl, _, _, rfl, rfl, (0, 1), t5, rfl, K5.trans ((Keep.of_same a2).trans (Keep.of_same a3)), (f5.same a2).same a3, by omega, a3 _ _ (a2 _ _ hW), .inl rfl, fun _ _ => rfl⟩
    rintro σ H6 ⟨step, t6, rfl, K6, f6, ht6, hW6, hst, hs34⟩
    -- way 5 again
    refine ⟨fun σ H7 => ∃ (W : Addr) (ws : List Int) (y9 : Option V), σ = [some (.ref d), some (.int way), some (.int many), some (.int (2 + r3)), some (.ref W), some (.int step.1), some (.int step.2), none, none, y9, none] ∧ Keep d H H7 ∧ Feed H7 d c t6 ∧ H W = none ∧ W ≠ c ∧
      H7 W = some (.lst (ws.map V.int)) ∧ (ws.length : Int) = many ∧ ∀ x ∈ ws, 0 ≤ x ∧ x ≤ 4, ?_, ?_⟩
    · refine ⟨_, rfl, rfl, _, rfl, ite2 (fun c5 => ?_) (fun c5 => ?_)⟩
      · refine ⟨_, rfl, many, rfl, by omega, by omega, fun W2 n2 => ?_⟩
        have m0 := K6.none f6 n2
        have mc := f6.nc n2
        have md := f6.nd n2
        have nWW : W ≠ W2 := ne_of_none hW6 n2
        refine lc_range (lo := 0) (n := many.toNat) (fun i H7 => ∃ us : List Int, Keep d H H7 ∧ Feed H7 d c t6 ∧ H7 W = some (.lst (ws.map V.int)) ∧ H7 W2 = some (.lst (us.map V.int)) ∧ us.length = i ∧ ∀ x ∈ us, 0 ≤ x ∧ x ≤ 4) ?_ ?_ ?_
        · refine ⟨[], K6.wr m0, f6.wr md mc, ?_, upd_same, rfl, fun x hx => by simp at hx⟩
          rw [upd_ne nWW]
          exact hW6
        · rintro i H7 hi ⟨us, K7, f7, hW7, hU7, hul, hux⟩
          have hi2 : i < ws.length := by omega
          have hg : (ws.map V.int)[i]? = some (.int ws[i]) := by
            rw [List.getElem?_map, List.getElem?_eq_getElem hi2]
            rfl
          have hwi := hx ws[i] (List.getElem_mem hi2)
          refine ⟨rfl, tYes_go ?_⟩
          refine iteT ?_
          refine ⟨_, rfl, _, rfl, W, _, _, _, rfl, rfl, SqL.of hW7, at_of (by omega) hg, ?_⟩
          refine ⟨_, rfl, _, 1, rfl, rfl, _, rfl, _, 2 + r3, rfl, rfl, by show (2 + r3 : Int) ≠ 0; omega, rfl, .inr ⟨_, rfl, ?_⟩⟩
          have fin : ∀ b : Bool, 0 ≤ ws[i] * (if b = true then 1 else 0) ∧ ws[i] * (if b = true then 1 else 0) ≤ 4 := fun b => by
            cases b
            · rw [if_neg (by decide), Int.mul_zero]
              exact ⟨by decide, by decide⟩
            · rw [if_pos rfl, Int.mul_one]
              exact hwi
          refine ⟨_, _, rfl, rfl, .inl ⟨by omega, by omega⟩, us.map V.int, hU7, by rw [List.length_map, hul]; exact small1000 (by omega), us ++ [ws[i] * (if decide (V.int ((0 + (i : Int) + 1).fmod (2 + r3)) = V.int 0) = true then 1 else 0)], K7.wr m0, f7.wr md mc, ?_, ?_, by simp [hul], fun x hx2 => ?_⟩
          · rw [upd_ne nWW]
            exact hW7
          · rw [upd_same, List.map_append]
            rfl
          · rcases List.mem_append.mp hx2 with z | z
            · exact hux x z
            · have := List.mem_singleton.mp z
              subst this
              exact fin _
        · rintro H7 ⟨us, K7, f7, hW7, hU7, hul, hux⟩
          exact ⟨W2, us, _, rfl, K7, f7, m0, mc, hU7, by omega, hux⟩
      · exact ⟨W, ws, _, rfl, K6, f6, nW0, nWc, hW6, hl, hx⟩
    clear hx hl hW6 hW nWc nW0
    rintro σ H7 ⟨W, ws, y9, rfl, K7, f7, nW0, nWc, hW, hl, hx⟩
    have hne : ws ≠ [] := fun z => by
      rw [z] at hl
      simp at hl
      omega
    have nWd : W ≠ d := f7.ne hW (fun _ z => nomatch z)
    -- the last one
    refine ⟨fun σ H8 => ∃ us : List Int, σ = [some (.ref d), some (.int way), some (.int many), some (.int (2 + r3)), some (.ref W), some (.int step.1), some (.int step.2), none, none, y9, none] ∧ Keep d H H8 ∧ Feed H8 d c t6 ∧ H8 W = some (.lst (us.map V.int)) ∧
      us ≠ [] ∧ us.length ≤ 6 ∧ (∀ x ∈ us, 0 ≤ x ∧ x ≤ 5) ∧ 0 < lastW us, ?_, ?_⟩
    · have hlast : 0 ≤ lastW ws ∧ lastW ws ≤ 4 := hx _ (by
        have := last_get hne
        exact List.mem_of_getElem? this)
      refine ⟨_, rfl, 1, rfl, W, _, -1, _, rfl, rfl, SqL.of hW, atI_lastW hne, lastW ws, 1, rfl, rfl, ?_⟩
      refine ⟨_, rfl, 1, rfl, W, _, -1, ws.length - 1, rfl, rfl, hW, ?_, ?_⟩
      · rw [List.length_map]
        exact ixN_last (List.length_pos_iff.mpr hne)
      · refine ⟨ws.set (ws.length - 1) (lastW ws + 1), rfl, K7.wr nW0, f7.wr nWd nWc, ?_, map_last hne _, ?_, fun x hx2 => ?_, ?_⟩
        · rw [upd_same, List.map_set]
        · rw [List.length_set]
          omega
        · rcases List.mem_or_eq_of_mem_set hx2 with z | z
          · have := hx x z
            omega
          · omega
        · rw [last_set hne]
          omega
    clear hx hl hW hne
    rintro σ H8 ⟨us, rfl, K8, f8, hW, hne, hl, hx, hlast⟩
    -- extra
    refine ⟨fun σ H9 => ∃ extra t9 : Int, σ = [some (.ref d), some (.int way), some (.int many), some (.int (2 + r3)), some (.ref W), some (.int step.1), some (.int step.2), some (.int extra), none, y9, none] ∧ Keep d H H9 ∧ Feed H9 d c t9 ∧ t9 ≤ t6 + 1 ∧ H9 W = some (.lst (us.map V.int)) ∧
      0 ≤ extra ∧ extra ≤ 8 ∧ (way ≠ 2 → way ≠ 4 → extra = 0) ∧ (way = 2 ∨ way = 4 → 0 < extra), ?_, ?_⟩
    · refine ⟨_, rfl, by show 2 ≤ sizeLine; decide, fun p2 n2 => ?_⟩
      refine ⟨p2, _, rfl, .inr (SqT.of upd_same), rfl, rfl, _, rfl, ?_⟩
      rw [in_two]
      have a2 := same_new (o := HO.tup [.int 2, .int 4]) n2
      refine ite2 (fun c6 => ?_) (fun c6 => ?_)
      · refine ⟨_, rfl, d, c, 8, t6, rfl, f8.same a2, by omega, by decide, by decide, fun r H9 h0 h1 k9 f9 => ?_⟩
        refine ⟨1, r, rfl, rfl, 1 + r, t6 + 1, rfl, K8.trans ((Keep.of_same a2).trans k9), f9, by omega, keep_at (f8.same a2) k9 (a2 _ _ hW) (fun _ z => nomatch z), by omega, by omega, fun z1 z2 => ?_, fun _ => by omega⟩
        simp [z1, z2] at c6
      · refine ⟨0, t6, rfl, K8.trans (Keep.of_same a2), f8.same a2, by omega, a2 _ _ hW, by decide, by decide, fun _ _ => rfl, fun z => ?_⟩
        rcases z with z | z <;> simp [z] at c6
    rintro σ H9 ⟨extra, t9, rfl, K9, f9, ht9, hW9, he0, he8, he24, hep⟩
    have M : Made us extra step := ⟨hne, hl, hx, hlast, ⟨he0, he8⟩, hst⟩
    obtain ⟨s1, s2, s3, s4⟩ := M.step_ok
    have hsum := sum_bound hx
    have hll := last_le_sum hx
    obtain ⟨w0, w1⟩ := M.whole
    -- whole
    refine ⟨_, rfl, _, rfl, step.2, step.1, rfl, rfl, _, rfl, W, us, rfl, SqL.of hW9, _, rfl, us.sum, extra, rfl, rfl, _, _, rfl, rfl, .inl ⟨by omega, by omega⟩,
      _, rfl, _, rfl, 1, rfl, W, _, -1, _, rfl, rfl, SqL.of hW9, atI_lastW hne, step.1, lastW us, rfl, rfl, .inl ⟨by omega, by omega⟩, _, _, rfl, rfl, ?_⟩
    -- the row
    refine ⟨_, rfl, W, rfl, ⟨_, SqL.of hW9⟩, fun R nR => ?_⟩
    have nRW : W ≠ R := ne_of_none hW9 nR
    have nR0 := K9.none f9 nR
    have nRc := f9.nc nR
    have nRd := f9.nd nR
    refine lc_list (K := K) (a := W) (xs := us.map V.int) (fun i HA => ∃ rs : List Addr, Keep d H HA ∧ Feed HA d c t9 ∧ HA W = some (.lst (us.map V.int)) ∧ HA R = some (.lst (rs.map V.ref)) ∧ RsAt K HA rs ((rowOf us extra step).take i)) ?_ ?_ ?_ ?_
    · refine ⟨[], K9.wr nR0, f9.wr nRd nRc, ?_, upd_same, .nil⟩
      rw [upd_ne nRW]
      exact hW9
    · rintro i HA hi ⟨rs, KA, fA, hWA, hRA, hrs⟩
      exact SqL.of hWA
    · rintro i y HA hi ⟨rs, KA, fA, hWA, hRA, hrs⟩
      obtain ⟨x, hxi, rfl⟩ : ∃ x, us[i]? = some x ∧ y = V.int x := by
        rw [List.getElem?_map] at hi
        match e : us[i]? with
        | none =>
          rw [e] at hi
          cases hi
        | some z =>
          rw [e] at hi
          exact ⟨z, rfl, (Option.some.inj hi).symm⟩
      have hx5 := hx x (List.mem_of_getElem? hxi)
      have hlen : i < us.length := (List.getElem?_eq_some_iff.mp hxi).1
      refine ⟨rfl, tYes_go ?_⟩
      refine iteT ?_
      refine ⟨_, rfl, _, rfl, step.2, step.1, rfl, rfl, _, rfl, _, x, rfl, rfl, .inl ⟨by omega, by omega⟩, _, rfl, ?_⟩
      refine ⟨_, _, rfl, w0, ?_, fun p np => ?_⟩
      · have : Sm 8 (wholeOf us extra step) := by
          unfold Sm
          omega
        exact this.mono (by decide)
      have nRp : R ≠ p := ne_of_none hRA np
      have hr2 := same_new (o := HO.tup [.int (ratT ((step.2 - step.1) * x) (wholeOf us extra step)), .int (ratB ((step.2 - step.1) * x) (wholeOf us extra step))]) np
      refine ⟨rs.map V.ref, hr2 _ _ hRA, ?_, rs ++ [p], (KA.trans (Keep.of_same hr2)).wr nR0, (fA.same hr2).wr nRd nRc, ?_, ?_, ?_⟩
      · have := hrs.length
        rw [List.length_map, this, List.length_take]
        exact small1000 (by omega)
      · rw [upd_ne nRW]
        exact hr2 _ _ hWA
      · rw [upd_same, List.map_append]
        rfl
      · have tk1 : Tk K HA (upd HA p _) := Tk.same hr2
        have tk2 : Tk K (upd HA p _) (upd (upd HA p (HO.tup [.int (ratT ((step.2 - step.1) * x) (wholeOf us extra step)), .int (ratB ((step.2 - step.1) * x) (wholeOf us extra step))])) R (.lst (rs.map V.ref ++ [V.ref p]))) := tk_lst (hr2 _ _ hRA)
        have e : (rowOf us extra step).take (i + 1) = (rowOf us extra step).take i ++ [low2 ((step.2 - step.1) * x) (wholeOf us extra step)] := by
          rw [List.take_add_one]
          congr 1
          unfold rowOf
          rw [List.getElem?_map, hxi]
          rfl
        rw [e]
        exact draws_row ((hrs.tk tk1).tk tk2) (tk2 _ _ (SqT.of upd_same))
    · rintro HA ⟨rs, KA, fA, hWA, hRA, hrs⟩
      rw [List.length_map] at hrs
      have e : (rowOf us extra step).take us.length = rowOf us extra step := by
        rw [List.take_of_length_le]
        unfold rowOf
        rw [List.length_map]
        exact Nat.le_refl _
      rw [e] at hrs
      refine ⟨R, _, rfl, .inl ⟨SqL.of hRA, fun T nT => ?_⟩⟩
      have b1 := same_new (o := HO.tup (rs.map V.ref)) nT
      refine ⟨_, rfl, _, rfl, by show 2 ≤ sizeLine; decide, fun S nS => ?_⟩
      have b2 := same_new (o := HO.tup [.int step.1, .int step.2]) nS
      refine ⟨by show 2 ≤ sizeLine; decide, fun Z nZ => ?_⟩
      have b3 := same_new (o := HO.tup [.ref T, .ref S]) nZ
      have B := b1.trans (b2.trans b3)
      refine q Z us extra step t9 _ (KA.trans (Keep.of_same B)) (fA.same B) (by omega) M he24 hep hs34 ⟨T, S, SqT.of upd_same, ⟨rs, SqT.of (b3 _ _ (b2 _ _ upd_same)), hrs.tk (Tk.same B)⟩, SqT.of (b3 _ _ upd_same)⟩
end

end Fp

set_option Elab.async false
set_option linter.all false
set_option maxRecDepth 100000
set_option maxHeartbeats 4000000
set_option exponentiation.threshold 10000
namespace Fp
open PySem PySem.Spec PyProof.Rows L2
theorem snoc_cases {α : Type} (xs : List α) : xs = [] ∨ ∃ ys y, xs = ys ++ [y] := by
  rcases List.eq_nil_or_concat xs with h | ⟨ys, y, h⟩
  · exact .inl h
  · exact .inr ⟨ys, y, by rw [h, List.concat_eq_append]⟩
/-! ### rows joined, cut, compared -/
theorem eqv_D2 (x y : RT) : PyData.eqv (.tuple [.int x.1, .int x.2]) (.tuple [.int y.1, .int y.2]) = decide (x = y) := by
  show ((x.1 == y.1) && ((x.2 == y.2) && true)) = _
  rw [Bool.eq_iff_iff]
  simp only [Bool.and_true, Bool.and_eq_true, beq_iff_eq, decide_eq_true_eq]
  exact ⟨fun z => Prod.ext z.1 z.2, fun z => ⟨congrArg Prod.fst z, congrArg Prod.snd z⟩⟩
section
variable {K : PySem.W.Frag} {H : Hp}
theorem RAt.dp {p : Addr} {x : RT} (h : RAt K H p x) : Dp K H (.ref p) (.tuple [.int x.1, .int x.2]) := .tup h (.cons (.int _) (.cons (.int _) .nil))
theorem ne_rat {p q : Addr} {x y : RT} {Q : VK} (h1 : RAt K H p x) (h2 : RAt K H q y) (h : Q (.bl (!decide (x = y))) H) : rNeD K (.ref p) (.ref q) H Q := by
  refine ⟨_, _, h1.dp, h2.dp, rfl, rfl, ?_⟩
  rw [eqv_D2]
  exact h
theorem eq_rat {p q : Addr} {x y : RT} {Q : VK} (h1 : RAt K H p x) (h2 : RAt K H q y) (h : Q (.bl (decide (x = y))) H) : rEqD K (.ref p) (.ref q) H Q := by
  refine ⟨_, _, h1.dp, h2.dp, rfl, rfl, ?_⟩
  rw [eqv_D2]
  exact h
theorem cat_row {p q : Addr} {xs ys : List RT} {Q : VK} (h1 : RowAt K H p xs) (h2 : RowAt K H q ys) (hl : xs.length + ys.length ≤ 1000) (h : ∀ r H', Same H H' → RowAt K H' r (xs ++ ys) → Q (.ref r) H') : rCatA K (.ref p) (.ref q) H Q := by
  obtain ⟨as, a1, a2⟩ := h1
  obtain ⟨bs, b1, b2⟩ := h2
  have la := a2.length
  have lb := b2.length
  refine ⟨p, q, _, _, rfl, rfl, a1, b1, ?_, fun z => ?_, fun _ z => ?_, fun _ _ r nr => ?_⟩
  · rw [List.length_map, List.length_map, sizeLine_eq]
    omega
  · have e : as = [] := List.map_eq_nil_iff.mp z
    subst e
    have e2 : xs = [] := List.length_eq_zero_iff.mp la.symm
    subst e2
    exact h q H (Same.refl H) ⟨bs, b1, b2⟩
  · have e : bs = [] := List.map_eq_nil_iff.mp z
    subst e
    have e2 : ys = [] := List.length_eq_zero_iff.mp lb.symm
    subst e2
    refine h p H (Same.refl H) ?_
    rw [List.append_nil]
    exact ⟨as, a1, a2⟩
  · have s := same_new (o := HO.tup (as.map V.ref ++ bs.map V.ref)) nr
    refine h r _ s ⟨as ++ bs, ?_, (a2.append b2).tk (Tk.same s)⟩
    rw [List.map_append]
    exact SqT.of upd_same
theorem row_at {p : Addr} {xs : List RT} {i : Nat} {x : RT} (h : RowAt K H p xs) (e : xs[i]? = some x) : ∃ (rs : List Addr) (r : Addr), SqT K H p (rs.map V.ref) ∧ rs.length = xs.length ∧ (rs.map V.ref)[i]? = some (.ref r) ∧ RAt K H r x := by
  obtain ⟨rs, h1, h2⟩ := h
  obtain ⟨r, e1, e2⟩ := h2.get e
  refine ⟨rs, r, h1, h2.length, ?_, e2⟩
  rw [List.getElem?_map, e1]
  rfl
/-- row[i] from the front -/
theorem ix_row {p : Addr} {xs : List RT} {i : Int} {j : Nat} {x : RT} {Q : VK} (h : RowAt K H p xs) (ei : i = (j : Int)) (e : xs[j]? = some x) (hq : ∀ r, RAt K H r x → Q (.ref r) H) : rIxT K (.ref p) (.int i) H Q := by
  obtain ⟨rs, r, h1, _, h3, h4⟩ := row_at h e
  exact ⟨p, _, i, _, rfl, rfl, h1, at_of ei h3, hq r h4⟩
/-- row[-k] from the end -/
theorem ix_back {p : Addr} {xs : List RT} {k j : Nat} {x : RT} {Q : VK} (h : RowAt K H p xs) (hk : 0 < k) (ej : j + k = xs.length) (e : xs[j]? = some x) (hq : ∀ r, RAt K H r x → Q (.ref r) H) : rIxT K (.ref p) (.int (-(k : Int))) H Q := by
  obtain ⟨rs, r, h1, h2, h3, h4⟩ := row_at h e
  refine ⟨p, _, _, _, rfl, rfl, h1, ?_, hq r h4⟩
  unfold atI
  have : ixN (rs.map V.ref).length (-(k : Int)) = some j := by
    unfold ixN
    rw [List.length_map, if_neg (by omega), if_pos (by omega)]
    congr 1
    omega
  rw [this]
  exact h3
theorem cutV_take (vs : List V) (n : Nat) : cutV vs none (some (n : Int)) = vs.take n := by
  unfold cutV
  rw [HT.sIx_none, HT.sIx_nat]
  show (vs.drop 0).take (min n vs.length - 0) = _
  rw [List.drop_zero, Nat.sub_zero]
  rcases Nat.le_total n vs.length with z | z
  · rw [Nat.min_eq_left z]
  · rw [Nat.min_eq_right z, List.take_length, List.take_of_length_le z]
/-- row[:n] -/
theorem take_row {p : Addr} {xs : List RT} {n : Nat} {Q : VK} (h : RowAt K H p xs) (hq : ∀ r H', Same H H' → RowAt K H' r (xs.take n) → Q (.ref r) H') : rSlA K (.ref p) none (some (n : Int)) H Q := by
  obtain ⟨rs, h1, h2⟩ := h
  have hl := h2.length
  refine ⟨p, _, rfl, h1, fun z => ?_, fun _ r nr => ?_⟩
  · have z2 := z.2
    rw [HT.sIx_nat, List.length_map] at z2
    refine hq p H (Same.refl H) ?_
    rw [List.take_of_length_le (by omega)]
    exact ⟨rs, h1, h2⟩
  · rw [cutV_take]
    have s := same_new (o := HO.tup ((rs.map V.ref).take n)) nr
    refine hq r _ s ⟨rs.take n, ?_, (h2.take n).tk (Tk.same s)⟩
    rw [List.map_take]
    exact SqT.of upd_same
end

end Fp

set_option Elab.async false
set_option linter.all false
set_option maxRecDepth 100000
set_option maxHeartbeats 4000000
set_option exponentiation.threshold 10000
namespace Fp
open PySem PySem.Spec PyProof.Rows L2
abbrev s_any : Stmt := topS 46
theorem sc_any : FnScope ["_law_feed_here", "_law_way", "_law_row", "_law_step", "_law_turn"] ["_law_feed_here"] (defScope s_any) := ⟨rfl, rfl, rfl, by decide +kernel, rfl, by decide +kernel, by decide +kernel⟩
/-- a life as it is first drawn -/
def BaseLife (row : List RT) (step : RT) : Prop := (∃ ws extra, Made ws extra step ∧ row = rowOf ws extra step) ∨ (row = [] ∧ step = (0, 1))
/-- .. and made longer by one -/
def AnyLife (row : List RT) (step : RT) : Prop := BaseLife row step ∨
  (∃ row0 l, BaseLife row0 step ∧ row0.length ≤ 5 ∧ step ≠ (0, 1) ∧ row0[row0.length - 1]? = some l ∧ row = row0 ++ [rT l step]) ∨
  (∃ row0, BaseLife row0 (0, 1) ∧ row0.length ≤ 5 ∧ row = row0 ++ [(0, 1)] ∧ (step = (0, 1) ∨ step = (1, 3)))
theorem rowOf_len {ws : List Int} {extra : Int} {step : RT} : (rowOf ws extra step).length = ws.length := by
  unfold rowOf
  rw [List.length_map]
theorem BaseLife.len {row : List RT} {step : RT} (h : BaseLife row step) : row.length ≤ 6 := by
  rcases h with ⟨ws, extra, m, rfl⟩ | ⟨rfl, _⟩
  · rw [rowOf_len]
    exact m.len
  · decide
theorem BaseLife.ne {row : List RT} {step : RT} (h : BaseLife row step) (hs : step ≠ (0, 1)) : row ≠ [] := by
  rcases h with ⟨ws, extra, m, rfl⟩ | ⟨rfl, z⟩
  · intro z
    have := congrArg List.length z
    rw [rowOf_len, List.length_nil] at this
    exact m.ne (List.length_eq_zero_iff.mp this)
  · exact absurd z hs
/-- small ratios -/
def SmR (n : Nat) (x : RT) : Prop := Red x ∧ Sm n x.1 ∧ Sm n x.2
theorem low2_sm {t b : Int} {n : Nat} (hb : 0 < b) (h1 : Sm n t) (h2 : Sm n b) : SmR n (low2 t b) := ⟨low2_red (Int.ne_of_gt hb), ratT_sm hb h1, ratB_sm hb h2⟩
theorem SmR.mono {n m : Nat} {x : RT} (h : SmR n x) (l : n ≤ m) : SmR m x := ⟨h.1, h.2.1.mono l, h.2.2.mono l⟩
theorem rT_sm {x y : RT} {n m : Nat} (hx : SmR n x) (hy : SmR m y) : SmR (n + m) (rT x y) :=
  low2_sm (Int.mul_pos hx.1.1 hy.1.1) (hx.2.1.mul hy.2.1) (hx.2.2.mul hy.2.2)
theorem Made.sm {ws : List Int} {extra : Int} {step : RT} (m : Made ws extra step) : ∀ x ∈ rowOf ws extra step, SmR 10 x ∧ 0 ≤ x.1 := by
  intro x hx
  unfold rowOf at hx
  obtain ⟨y, hy, rfl⟩ := List.mem_map.mp hx
  obtain ⟨h1, h2⟩ := m.nn y hy
  obtain ⟨s1, s2, s3, _⟩ := m.step_ok
  obtain ⟨w0, w1⟩ := m.whole
  have hp : 0 ≤ (step.2 - step.1) * y := Int.mul_nonneg (by omega) h1
  have hq : (step.2 - step.1) * y ≤ 20 := by
    have : (step.2 - step.1) * y ≤ 4 * 5 := Int.mul_le_mul (by omega) h2 h1 (by decide)
    omega
  refine ⟨low2_sm w0 ?_ ?_, ?_⟩
  · unfold Sm
    omega
  · unfold Sm
    omega
  · obtain ⟨g1, ⟨z, hz⟩, _⟩ := ratG_pos (t := (step.2 - step.1) * y) w0
    have e : (low2 ((step.2 - step.1) * y) (wholeOf ws extra step)).1 = z := by
      show Int.fdiv _ _ = z
      have := Int.mul_fdiv_cancel_left z (Int.ne_of_gt g1)
      rw [← hz] at this
      exact this
    rw [e]
    rcases (by omega : 0 ≤ z ∨ z < 0) with q | q
    · exact q
    · have := Int.mul_neg_of_pos_of_neg g1 q
      omega
theorem BaseLife.sm {row : List RT} {step : RT} (h : BaseLife row step) : (∀ x ∈ row, SmR 10 x ∧ 0 ≤ x.1) ∧ SmR 4 step ∧ 0 ≤ step.1 ∧ step.1 < step.2 := by
  rcases h with ⟨ws, extra, m, rfl⟩ | ⟨rfl, rfl⟩
  · refine ⟨m.sm, ?_⟩
    rcases m.st with rfl | rfl | rfl | rfl | rfl <;> exact ⟨⟨⟨by decide, by decide⟩, by unfold Sm; decide, by unfold Sm; decide⟩, by decide, by decide⟩
  · exact ⟨fun x hx => by simp at hx, ⟨⟨⟨by decide, by decide⟩, by unfold Sm; decide, by unfold Sm; decide⟩, by decide, by decide⟩⟩
section
variable {P : Program} {w : World} {K : PySem.W.Frag} {mg : Str → Option Value} {base : Heap}
def spAny (K : PySem.W.Frag) : Sp := fun vs H Q _ => ∃ (d c : Addr) (t : Int), vs = [.ref d] ∧ Feed H d c t ∧ t ≤ 800000 ∧
  ∀ p row step t' H', Keep d H H' → Feed H' d c t' → t' ≤ t + 14 → AnyLife row step → LifeAt K H' p row step → Q (.ref p) H'
theorem ok_any {f fD fF fT : Addr} {fd fdD fdF fdT : FuncData} (F : Fun K "_law_any_life" "_law_any_life" s_any f fd) (FD : Fun K "_law_draw" "_law_draw" s_draw fD fdD) (bD : Binds K fdD ["_law_feed_here", "_law_many"] []) (gD : mg "_law_draw" = some (.ref fD))
    (GD : FnOk P w K mg base CX0 1 fD fdD ["_law_feed_here", "_law_many"] spDraw)
    (FF : Fun K "_law_life" "_law_life" s_life fF fdF) (bF : Binds K fdF ["_law_feed_here", "_law_way"] []) (gF : mg "_law_life" = some (.ref fF)) (GF : FnOk P w K mg base CX0 2 fF fdF ["_law_feed_here", "_law_way"] (spLife K))
    (FT : Fun K "_law_times" "_law_times" s_ltimes fT fdT) (bT : Binds K fdT ["_law_one", "_law_other"] []) (gT : mg "_law_times" = some (.ref fT)) (GT : FnOk P w K mg base CX0 2 fT fdT ["_law_one", "_law_other"] (spTwo K (fun a b c d => a * c)))
    (ml : mg "len" = none) : FnOk P w K mg base CX0 3 f fd ["_law_feed_here"] (spAny K) := by
  refine F.ok sc_any (fun vs H Q E h => ?_) (fun cdv A outer s H vs Q E hr2 h => ?_)
  · obtain ⟨_, _, _, rfl, _⟩ := h
    rfl
  · obtain ⟨d, c, t, rfl, f0, ht, q⟩ := h
    have hr := hr2.mono (show 1 ≤ 2 by decide)
    refine ⟨_, (pss_cons (ps_set (i := 1) sc_any.nd rfl (.inl rfl) (pe_call GD hr (by rfl) gD FD.kp bD .nil pass0 (pa_cons (pv 0) (pa_cons pe_int pa_nil)))) (pss_cons (ps_asg (pe_call GF hr2 (by rfl) gF FF.kp bF .nil pass0 (pa_cons (pv 0) (pa_cons (pe_op op_modN (pv 1) pe_int) pa_nil))) (pg_tup rfl (pgs_cons (pg_name (i := 2) sc_any.nd rfl (.inl rfl)) (pgs_cons (pg_name (i := 3) sc_any.nd rfl (.inl rfl)) pgs_nil)))) (pss_mid (ps_if (pt_cmpR op_eq (pv 1) pe_int (nomark _)) (pss_one (ps_asg (pe_tup (pa_cons (pe_tup pa_nil) (pa_cons (pe_tup (pa_cons pe_int (pa_cons pe_int pa_nil))) pa_nil))) (pg_tup rfl (pgs_cons (pg_name (i := 2) sc_any.nd rfl (.inl rfl)) (pgs_cons (pg_name (i := 3) sc_any.nd rfl (.inl rfl)) pgs_nil))))) pss_nil) (pss_cons (ps_set (i := 4) sc_any.nd rfl (.inl rfl) (pe_call GD hr (by rfl) gD FD.kp bD .nil pass0 (pa_cons (pv 0) (pa_cons pe_int pa_nil)))) (pss_cons (ps_if (PW.pt (pw_or (pt_cmpR op_gt (pv 4) pe_int (nomark _)) (pw_or1 (pt_cmpR op_gt (pe_callB call_len_seq (by rfl) ml PySem.boot_len (pa_cons (pv 2) pa_nil)) pe_int (nomark _))))) (pss_one (ps_ret (pe_tup (pa_cons (pv 2) (pa_cons (pv 3) pa_nil))))) pss_nil) (pss_cons (ps_if (pt_cmpR (op_neD hr.units) (pv 3) (pe_tup (pa_cons pe_int (pa_cons pe_int pa_nil))) (nomark _)) (pss_one (ps_ret (pe_tup (pa_cons (pe_op op_catA (pv 2) (pe_tup (pa_cons (pe_call GT hr2 (by rfl) gT FT.kp bT .nil pass0 (pa_cons (pe_ix ix_tup (pv 2) (pe_un un_neg pe_int) (fun _ _ => rfl)) (pa_cons (pv 3) pa_nil))) pa_nil))) (pa_cons (pv 3) pa_nil))))) pss_nil) (pss_one (ps_ret (pe_tup (pa_cons (pe_op op_catA (pv 2) (pe_tup (pa_cons (pe_tup (pa_cons pe_int (pa_cons pe_int pa_nil))) pa_nil))) (pa_cons (pe_ix ix_list (pe_lst (pa_cons (pe_tup (pa_cons pe_int (pa_cons pe_int pa_nil))) (pa_cons (pe_tup (pa_cons pe_int (pa_cons pe_int pa_nil))) pa_nil))) (pv 4) (fun _ _ => rfl)) pa_nil))))))))))), ?_⟩
    refine ⟨_, rfl, d, c, 8, t, rfl, f0, by omega, by decide, by decide, fun way H1 hw0 hw1 k1 f1 => ?_⟩
    refine ⟨_, rfl, _, rfl, way, 6, rfl, rfl, by show (6 : Int) ≠ 0; decide, d, c, _, t + 1, rfl, f1, by omega, fun p ws extra step t2 H2 k2 f2 ht2 M _ _ _ L2' => ?_⟩
    obtain ⟨pr, ps, l1, l2, l3⟩ := L2'
    refine ⟨p, _, rfl, l1, rfl, _, _, rfl, _, _, rfl, rfl, ?_⟩
    have K2 := k1.trans k2
    refine ⟨fun σ H3 => ∃ (pr ps : Addr) (row : List RT) (step : RT), σ = [some (.ref d), some (.int way), some (.ref pr), some (.ref ps), none] ∧ Keep d H H3 ∧ Feed H3 d c t2 ∧ BaseLife row step ∧ RowAt K H3 pr row ∧ RAt K H3 ps step, ?_, ?_⟩
    · refine ⟨_, rfl, rfl, _, rfl, ite2 (fun c7 => ?_) (fun c7 => ?_)⟩
      · refine ⟨by show 0 ≤ sizeLine; decide, fun a na => ?_⟩
        have e1 := same_new (o := HO.tup []) na
        refine ⟨by show 2 ≤ sizeLine; decide, fun b nb => ?_⟩
        have e2 := same_new (o := HO.tup [.int 0, .int 1]) nb
        refine ⟨by show 2 ≤ sizeLine; decide, fun z nz => ?_⟩
        have e3 := same_new (o := HO.tup [.ref a, .ref b]) nz
        have S := e1.trans (e2.trans e3)
        exact ⟨z, _, rfl, SqT.of upd_same, rfl, _, _, rfl, _, _, rfl, rfl, a, b, [], (0, 1), rfl, K2.trans (Keep.of_same S), f2.same S, .inr ⟨rfl, rfl⟩, ⟨[], SqT.of (e3 _ _ (e2 _ _ upd_same)), .nil⟩, SqT.of (e3 _ _ upd_same)⟩
      · exact ⟨pr, ps, _, step, rfl, K2, f2, .inl ⟨ws, extra, M, rfl⟩, l2, l3⟩
    clear l1 l2 l3 M
    rintro σ H3 ⟨pr, ps, row, step, rfl, K3, f3, B, hrow, hstep⟩
    obtain ⟨sm1, sm2, st0, st1⟩ := B.sm
    have hlen := B.len
    refine ⟨_, rfl, d, c, 4, t2, rfl, f3, by omega, by decide, by decide, fun turn H4 h0 h1 k4 f4 => ?_⟩
    have K4 := K3.trans k4
    have tk4 : Tk K H3 H4 := Tk.keep f3 k4
    have hrow4 := hrow.tk tk4
    have hstep4 := hstep.tk tk4
    have keepIt : ∀ a, H4 a = none → Q (.ref a) (upd H4 a (.tup [.ref pr, .ref ps])) := fun a na => by
      have e1 := same_new (o := HO.tup [.ref pr, .ref ps]) na
      exact q a row step (t2 + 1) _ (K4.trans (Keep.of_same e1)) (f4.same e1) (by omega) (.inl B) ⟨pr, ps, SqT.of upd_same, hrow4.tk (Tk.same e1), hstep4.tk (Tk.same e1)⟩
    refine ⟨_, rfl, turn, 1, rfl, rfl, _, rfl, ite2 (fun c1 => ?_) (fun c1 => ?_)⟩
    · exact iteT ⟨_, rfl, _, rfl, by show 2 ≤ sizeLine; decide, keepIt⟩
    have hturn : turn ≤ 1 := by
      have : ¬ (1 < turn) := fun z => c1 (decide_eq_true z)
      omega
    obtain ⟨rs, r1, r2⟩ := id hrow4
    have rlen := r2.length
    refine ⟨_, rfl, pr, _, rfl, .inr r1, _, 5, rfl, rfl, _, rfl, ite2 (fun c2 => ?_) (fun c2 => ?_)⟩
    · exact ⟨_, rfl, _, rfl, by show 2 ≤ sizeLine; decide, keepIt⟩
    have hl5 : row.length ≤ 5 := by
      have : ¬ ((5 : Int) < ((rs.map V.ref).length : Nat)) := fun z => c2 (decide_eq_true z)
      rw [List.length_map] at this
      omega
    -- step != (0, 1)
    refine ⟨_, rfl, by show 2 ≤ sizeLine; decide, fun a na => ?_⟩
    have e1 := same_new (o := HO.tup [.int 0, .int 1]) na
    refine ne_rat (hstep4.tk (Tk.same e1)) (y := (0, 1)) (SqT.of upd_same) ⟨_, rfl, ?_⟩
    have f5 := f4.same e1
    have K5 := K4.trans (Keep.of_same e1)
    have hrow5 := hrow4.tk (Tk.same e1)
    have hstep5 := hstep4.tk (Tk.same e1)
    refine ite2 (fun c3 => ?_) (fun c3 => ?_)
    · have hs : step ≠ (0, 1) := fun z => by
        rw [z] at c3
        exact absurd c3 (by decide)
      have hne := B.ne hs
      have hpos := List.length_pos_iff.mpr hne
      have hget : row[row.length - 1]? = some (row.getLast hne) := by
        rw [List.getLast_eq_getElem]
        exact List.getElem?_eq_getElem _
      have smL := (sm1 (row.getLast hne) (List.getLast_mem hne)).1
      refine ⟨_, rfl, _, rfl, 1, rfl, ?_⟩
      refine ix_back (k := 1) hrow5 (by decide) (by omega) hget fun r hr3 => ?_
      refine ⟨_, rfl, r, ps, _, _, _, _, rfl, ⟨hr3, hstep5, smL.2.1.mono (by decide), smL.2.2.mono (by decide), sm2.2.1.mono (by decide), sm2.2.2.mono (by decide), smL.1.1, sm2.1.1⟩, fun b nb => ?_⟩
      have e2 := same_new (o := HO.tup [.int (rT (row.getLast hne) step).1, .int (rT (row.getLast hne) step).2]) nb
      refine ⟨by show 1 ≤ sizeLine; decide, fun b2 nb2 => ?_⟩
      have e3 := same_new (o := HO.tup [.ref b]) nb2
      refine cat_row (hrow5.tk (Tk.same (e2.trans e3))) (ys := [rT (row.getLast hne) step]) ⟨[b], SqT.of upd_same, .cons (SqT.of (e3 _ _ upd_same)) .nil⟩ (by simp; omega) fun z H6 s6 hz => ?_
      have S := e2.trans (e3.trans s6)
      refine ⟨_, rfl, by show 2 ≤ sizeLine; decide, fun y ny => ?_⟩
      have e4 := same_new (o := HO.tup [.ref z, .ref ps]) ny
      exact q y _ step (t2 + 1) _ (K5.trans ((Keep.of_same S).trans (Keep.of_same e4))) ((f5.same S).same e4) (by omega) (.inr (.inl ⟨row, _, B, hl5, hs, hget, rfl⟩)) ⟨z, ps, SqT.of upd_same, hz.tk (Tk.same e4), hstep5.tk (Tk.same (S.trans e4))⟩
    · have hs : step = (0, 1) := by
        rcases Classical.em (step = (0, 1)) with z | z
        · exact z
        · exact absurd (show (!decide (step = (0, 1))) = true by simp [z]) c3
      subst hs
      refine ⟨_, rfl, by show 2 ≤ sizeLine; decide, fun b nb => ?_⟩
      have e2 := same_new (o := HO.tup [.int 0, .int 1]) nb
      refine ⟨by show 1 ≤ sizeLine; decide, fun b2 nb2 => ?_⟩
      have e3 := same_new (o := HO.tup [.ref b]) nb2
      refine cat_row (hrow5.tk (Tk.same (e2.trans e3))) (ys := [(0, 1)]) ⟨[b], SqT.of upd_same, .cons (SqT.of (e3 _ _ upd_same)) .nil⟩ (by simp; omega) fun z H6 s6 hz => ?_
      have S := e2.trans (e3.trans s6)
      refine ⟨by show 2 ≤ sizeLine; decide, fun g1 m1 => ?_⟩
      have e4 := same_new (o := HO.tup [.int 0, .int 1]) m1
      refine ⟨by show 2 ≤ sizeLine; decide, fun g2 m2 => ?_⟩
      have e5 := same_new (o := HO.tup [.int 1, .int 3]) m2
      refine ⟨by show 2 ≤ sizeLine; decide, fun g3 m3 => ?_⟩
      have e6 := same_new (o := HO.lst [.ref g1, .ref g2]) m3
      have S2 := e4.trans (e5.trans e6)
      obtain ⟨v, ev, cv⟩ := pick2' (a := V.ref g1) (b := V.ref g2) (r := turn) h0 (by omega)
      obtain ⟨g, st, rfl, hst, hg⟩ : ∃ (g : Addr) (st : RT), v = .ref g ∧ (st = (0, 1) ∨ st = (1, 3)) ∧ RAt K (upd (upd (upd H6 g1 (HO.tup [.int 0, .int 1])) g2 (HO.tup [.int 1, .int 3])) g3 (HO.lst [.ref g1, .ref g2])) g st := by
        rcases cv with y | y
        · exact ⟨g1, (0, 1), y, .inl rfl, SqT.of (e6 _ _ (e5 _ _ upd_same))⟩
        · exact ⟨g2, (1, 3), y, .inr rfl, SqT.of (e6 _ _ upd_same)⟩
      refine ⟨_, rfl, g3, _, turn, _, rfl, rfl, SqL.of upd_same, ev, by show 2 ≤ sizeLine; decide, fun y ny => ?_⟩
      have e7 := same_new (o := HO.tup [.ref z, .ref g]) ny
      have S3 := S.trans (S2.trans e7)
      exact q y _ st (t2 + 1) _ (K5.trans (Keep.of_same S3)) (f5.same S3) (by omega) (.inr (.inr ⟨row, B, hl5, rfl, hst⟩)) ⟨z, g, SqT.of upd_same, hz.tk (Tk.same (S2.trans e7)), hg.tk (Tk.same e7)⟩
end

end Fp

set_option Elab.async false
set_option linter.all false
set_option maxRecDepth 100000
set_option maxHeartbeats 4000000
set_option exponentiation.threshold 10000
namespace Fp
open PySem PySem.Spec PyProof.Rows L2
/-! ### ratios by their value -/
def qv (x : RT) : Rat := (x.1 : Rat) / (x.2 : Rat)
theorem cast_ne {b : Int} (h : b ≠ 0) : (b : Rat) ≠ 0 := fun z => h (Rat.intCast_inj.mp (by simpa using z))
theorem qv_low2 {t b : Int} (hb : 0 < b) : qv (low2 t b) = (t : Rat) / (b : Rat) := by
  have e := low2_cross (t := t) hb
  have hp : (low2 t b).2 ≠ 0 := Int.ne_of_gt (low2_red (t := t) (Int.ne_of_gt hb)).1
  have h1 := cast_ne hp
  have h2 := cast_ne (Int.ne_of_gt hb)
  have e2 : ((low2 t b).1 : Rat) * (b : Rat) = (t : Rat) * ((low2 t b).2 : Rat) := by
    rw [← Rat.intCast_mul, ← Rat.intCast_mul, e]
  unfold qv
  grind
theorem qv_inj {x y : RT} (hx : Red x) (hy : Red y) (h : qv x = qv y) : x = y := by
  refine red_eq hx hy ?_
  have h1 := cast_ne (Int.ne_of_gt hx.1)
  have h2 := cast_ne (Int.ne_of_gt hy.1)
  unfold qv at h
  refine Rat.intCast_inj.mp ?_
  rw [Rat.intCast_mul, Rat.intCast_mul]
  grind
theorem qv_rT {x y : RT} (hx : Red x) (hy : Red y) : Red (rT x y) ∧ qv (rT x y) = qv x * qv y := by
  have hb := Int.mul_pos hx.1 hy.1
  refine ⟨low2_red (Int.ne_of_gt hb), ?_⟩
  unfold rT
  rw [qv_low2 hb, Rat.intCast_mul, Rat.intCast_mul]
  have h1 := cast_ne (Int.ne_of_gt hx.1)
  have h2 := cast_ne (Int.ne_of_gt hy.1)
  unfold qv
  grind
/-- a by b, whatever the terms -/
theorem qv_of {x : RT} {n D : Int} (hx : Red x) (hD : 0 < D) (h : qv x = (n : Rat) / (D : Rat)) : x = low2 n D := qv_inj hx (low2_red (Int.ne_of_gt hD)) (by rw [qv_low2 hD]; exact h)
/-- in lowest terms no part is greater than by other terms -/
theorem red_small {x : RT} {n D : Int} (hx : Red x) (hD : 0 < D) (h : qv x = (n : Rat) / (D : Rat)) : x.2 ∣ D ∧ x.1.natAbs ≤ n.natAbs := by
  have e := qv_of hx hD h
  obtain ⟨g1, g2, g3⟩ := ratG_pos (t := n) hD
  have e1 : x.1 = n.fdiv (ratG n D) := congrArg Prod.fst e
  have e2 : x.2 = D.fdiv (ratG n D) := congrArg Prod.snd e
  refine ⟨?_, ?_⟩
  · rw [e2]
    obtain ⟨y, hy⟩ := g3
    have z := Int.mul_fdiv_cancel_left y (Int.ne_of_gt g1)
    rw [← hy] at z
    rw [z]
    exact ⟨ratG n D, by rw [Int.mul_comm]; exact hy⟩
  · rw [e1]
    exact fdiv_le g1 g2
theorem dvd_small {a b : Int} {n : Nat} (h : a ∣ b) (hb : 0 < b) (s : Sm n b) : Sm n a := by
  unfold Sm at *
  exact Nat.lt_of_le_of_lt (Nat.le_of_dvd (by omega) (Int.natAbs_dvd_natAbs.mpr h)) s
/-- the value told over any number that its bottom divides -/
theorem qv_over {x : RT} {D : Int} (hx : 0 < x.2) (h : x.2 ∣ D) (hD : 0 < D) : qv x = ((x.1 * (D / x.2) : Int) : Rat) / (D : Rat) := by
  obtain ⟨y, hy⟩ := h
  have h1 := cast_ne (Int.ne_of_gt hx)
  have e : D / x.2 = y := by
    rw [hy]
    exact Int.mul_ediv_cancel_left y (Int.ne_of_gt hx)
  have h2 := cast_ne (Int.ne_of_gt hD)
  have h3 : (D : Rat) = (x.2 : Rat) * (y : Rat) := by rw [← Rat.intCast_mul, hy]
  unfold qv
  rw [e, Rat.intCast_mul]
  grind
/-- the bottoms of some, multiplied -/
def prodB (xs : List RT) : Int := (xs.map (·.2)).foldr (· * ·) 1
theorem prodB_pos : ∀ {xs : List RT}, (∀ x ∈ xs, 0 < x.2) → 0 < prodB xs
  | [], _ => by decide
  | x :: r, h => Int.mul_pos (h x (List.mem_cons_self ..)) (prodB_pos fun y hy => h y (List.mem_cons_of_mem _ hy))
theorem prodB_dvd : ∀ {xs : List RT} {x : RT}, x ∈ xs → x.2 ∣ prodB xs
  | y :: r, x, h => by
    rcases List.mem_cons.mp h with rfl | h
    · exact Int.dvd_mul_right ..
    · exact Int.dvd_trans (prodB_dvd h) (Int.dvd_mul_left ..)
theorem prodB_sm {n : Nat} : ∀ {xs : List RT}, (∀ x ∈ xs, Sm n x.2) → Sm (n * xs.length + 1) (prodB xs)
  | [], _ => by
    unfold Sm
    show 1 < 2 ^ (n * 0 + 1)
    simp
  | x :: r, h => by
    have h1 := (h x (List.mem_cons_self ..)).mul (prodB_sm fun y hy => h y (List.mem_cons_of_mem _ hy))
    refine h1.mono ?_
    rw [List.length_cons, Nat.mul_add]
    omega

end Fp

set_option Elab.async false
set_option linter.all false
set_option maxRecDepth 100000
set_option maxHeartbeats 4000000
set_option exponentiation.threshold 10000
namespace Fp
open PySem PySem.Spec PyProof.Rows L2
/-! ### rows on one bottom, added -/
abbrev s_oob : Stmt := topS 22
abbrev s_added : Stmt := topS 23
abbrev N_oob : List Str := ["told", "common", "top", "bottom"]
theorem sc_oob : FnScope N_oob ["told"] (defScope s_oob) := ⟨rfl, rfl, rfl, by decide +kernel, rfl, by decide +kernel, by decide +kernel⟩
theorem sc_added : FnScope ["told", "tops", "bottom"] ["told"] (defScope s_added) := ⟨rfl, rfl, rfl, by decide +kernel, rfl, by decide +kernel, by decide +kernel⟩
/-- a list of ratios -/
def LstAt (K : PySem.W.Frag) (H : Hp) (p : Addr) (xs : List RT) : Prop := ∃ rs : List Addr, SqL K H p (rs.map V.ref) ∧ RsAt K H rs xs
theorem LstAt.same {K : PySem.W.Frag} {H H' : Hp} {p : Addr} {xs : List RT} (h : LstAt K H p xs) (e : Same H H') : LstAt K H' p xs := by
  obtain ⟨rs, h1, h2⟩ := h
  exact ⟨rs, e.seq h1, h2.tk (Tk.same e)⟩
/-- all over one number -/
structure Over1 (n d : Nat) (D : Int) (xs : List RT) : Prop where
  pos : 0 < D
  sm : Sm d D
  ok : ∀ x ∈ xs, 0 < x.2 ∧ x.2 ∣ D ∧ Sm n x.1
  len : xs.length ≤ 1000
def topsOn (c : Int) (xs : List RT) : List Int := xs.map fun x => x.1 * (c / x.2)
theorem lcm_ok {c b D : Int} (hc : 0 < c) (hb : 0 < b) (h1 : c ∣ D) (h2 : b ∣ D) : 0 < c.fdiv (Int.gcd c b : Nat) * b ∧ c.fdiv (Int.gcd c b : Nat) * b ∣ D ∧ c ∣ c.fdiv (Int.gcd c b : Nat) * b ∧ b ∣ c.fdiv (Int.gcd c b : Nat) * b := by
  have hg : 0 < Int.gcd c b := Nat.gcd_pos_of_pos_right _ (by omega)
  obtain ⟨x, hx⟩ : ((Int.gcd c b : Nat) : Int) ∣ c := Int.gcd_dvd_left ..
  obtain ⟨y, hy⟩ : ((Int.gcd c b : Nat) : Int) ∣ b := Int.gcd_dvd_right ..
  generalize hgg : ((Int.gcd c b : Nat) : Int) = g at *
  have g0 : 0 < g := by omega
  have e : c.fdiv g = x := by
    have := Int.mul_fdiv_cancel_left x (Int.ne_of_gt g0)
    rw [← hx] at this
    exact this
  have x0 : 0 < x := by
    rcases (by omega : 0 < x ∨ x ≤ 0) with z | z
    · exact z
    · have := Int.mul_nonpos_of_nonneg_of_nonpos (Int.le_of_lt g0) z
      omega
  have cop : Int.gcd x y = 1 := by
    have z : Int.gcd c b = g.natAbs * Int.gcd x y := by
      have := Int.gcd_mul_left g x y
      rw [← hx, ← hy] at this
      exact this
    have z2 : g.natAbs = Int.gcd c b := by rw [← hgg]; exact Int.natAbs_natCast _
    rw [z2] at z
    exact (Nat.eq_of_mul_eq_mul_left hg (by rw [Nat.mul_one]; exact z)).symm
  rw [e]
  refine ⟨Int.mul_pos x0 hb, ?_, ⟨y, ?_⟩, Int.dvd_mul_left ..⟩
  · obtain ⟨u, hu⟩ := h1
    have h3 : y ∣ x * u := by
      have : g * y ∣ g * (x * u) := by
        rw [← Int.mul_assoc, ← hx, ← hu, ← hy]
        exact h2
      exact Int.dvd_of_mul_dvd_mul_left (Int.ne_of_gt g0) this
    obtain ⟨v, hv⟩ := dvd_cop h3 (by rw [Int.gcd_comm]; exact cop)
    refine ⟨v, ?_⟩
    rw [hu, hv, hx, hy]
    rw [Int.mul_assoc g x, ← Int.mul_assoc x y v, Int.mul_comm x (g * y), Int.mul_assoc g y x, Int.mul_assoc g (y * x) v, Int.mul_comm y x]
  · rw [hy, hx, Int.mul_comm g x, Int.mul_assoc]
theorem tops_sum {c : Int} (hc : 0 < c) : ∀ {xs : List RT}, (∀ x ∈ xs, 0 < x.2 ∧ x.2 ∣ c) → (((topsOn c xs).sum : Int) : Rat) / (c : Rat) = (xs.map qv).sum
  | [], _ => by
    show ((0 : Int) : Rat) / (c : Rat) = 0
    have := cast_ne (Int.ne_of_gt hc)
    grind
  | x :: r, h => by
    have h1 := h x (List.mem_cons_self ..)
    have h2 := tops_sum hc (xs := r) fun y hy => h y (List.mem_cons_of_mem _ hy)
    have e := qv_over h1.1 h1.2 hc
    show (((x.1 * (c / x.2) :: topsOn c r).sum : Int) : Rat) / (c : Rat) = (qv x :: r.map qv).sum
    rw [List.sum_cons, List.sum_cons, ← h2, e, Rat.intCast_add]
    have := cast_ne (Int.ne_of_gt hc)
    grind
theorem tops_sm {n d : Nat} {c D : Int} (hc : 0 < c) (hD : 0 < D) (hcD : c ∣ D) (sD : Sm d D) : ∀ {xs : List RT}, (∀ x ∈ xs, 0 < x.2 ∧ Sm n x.1) → (topsOn c xs).sum.natAbs ≤ xs.length * 2 ^ (n + d)
  | [], _ => by
    show (0 : Int).natAbs ≤ 0 * _
    simp
  | x :: r, h => by
    have h1 := h x (List.mem_cons_self ..)
    have h2 := tops_sm hc hD hcD sD (xs := r) fun y hy => h y (List.mem_cons_of_mem _ hy)
    have sc : Sm d c := dvd_small hcD hD sD
    have sq : Sm d (c / x.2) := by
      unfold Sm at *
      have a : (c / x.2).natAbs ≤ c.natAbs := Int.natAbs_ediv_le_natAbs ..
      omega
    have sp : Sm (n + d) (x.1 * (c / x.2)) := h1.2.mul sq
    show (x.1 * (c / x.2) :: topsOn c r).sum.natAbs ≤ (r.length + 1) * _
    rw [List.sum_cons, Nat.add_mul]
    unfold Sm at sp
    have := Int.natAbs_add_le (x.1 * (c / x.2)) (topsOn c r).sum
    omega
section
variable {P : Program} {w : World} {K : PySem.W.Frag} {mg : Str → Option Value} {base : Heap}
def spOob (K : PySem.W.Frag) : Sp := fun vs H Q _ => ∃ (p : Addr) (xs : List RT) (n d : Nat) (D : Int), vs = [.ref p] ∧ LstAt K H p xs ∧ Over1 n d D xs ∧ n ≤ 4000 ∧ d ≤ 4000 ∧
  ∀ z zl c H', Same H H' → H' z = some (.tup [.ref zl, .int c]) → H' zl = some (.lst ((topsOn c xs).map V.int)) → 0 < c → c ∣ D → (∀ x ∈ xs, x.2 ∣ c) → Q (.ref z) H'
theorem ok_oob {f fC : Addr} {fd fdC : FuncData} (F : Fun K "on_one_bottom" "on_one_bottom" s_oob f fd) (FC : Fun K "common_divisor" "common_divisor" s_cd fC fdC) (bC : Binds K fdC ["one", "other"] []) (gC : mg "common_divisor" = some (.ref fC)) (ma : mg "abs" = none) :
    FnOk P w K mg base CX0 2 f fd ["told"] (spOob K) := by
  have GC : FnOk P w K mg base CX0 1 fC fdC ["one", "other"] spCd := ok_cd FC ma
  refine F.ok sc_oob (fun vs H Q E h => ?_) (fun cdv A outer s H vs Q E hr h => ?_)
  · obtain ⟨_, _, _, _, _, rfl, _⟩ := h
    rfl
  · obtain ⟨p, xs, n, d, D, rfl, hlst, O, hn, hd, q⟩ := h
    obtain ⟨rs, r1, r2⟩ := id hlst
    have hl := r2.length
    refine ⟨_, (pss_cons (ps_set (i := 1) sc_oob.nd rfl (.inr rfl) pe_int) (pss_cons (ps_for PassesOwn.never rfl (pi_list (pv 0)) (pg_tup rfl (pgs_cons (pg_name (i := 2) sc_oob.nd rfl (.inl rfl)) (pgs_cons (pg_name (i := 3) sc_oob.nd rfl (.inl rfl)) pgs_nil)))
          (pss_one (ps_set (i := 1) sc_oob.nd rfl (.inr rfl) (pe_op op_mulA (pe_op op_fdivA (pv 1) (pe_call GC hr (by rfl) gC FC.kp bC .nil pass0 (pa_cons (pv 1) (pa_cons (pv 3) pa_nil)))) (pv 3))))) (pss_one (ps_ret (pe_tup (pa_cons (pe_lc (own := [("top", 2), ("bottom", 3)]) (g := gTup K 2 (gCons (gName 2) (gCons (gName 3) gNil))) (tt := tYes) (te := tOp (rI CMulA fun i j => .int (i * j)) (tVar 2) (tOp (rI CDivA fun i j => .int (i.fdiv j)) (tVar 1) (tVar 3))) rfl sc_oob.nd (pi_list (pv 0)) (blkOk_by (own := [("top", 2), ("bottom", 3)]) (N := N_oob) (sc := defScope s_oob) (by decide +kernel))
          (fun _ _ _ _ _ => pg_tup rfl (pgs_cons (pg_name (i := 2) sc_oob.nd rfl (.inl rfl)) (pgs_cons (pg_name (i := 3) sc_oob.nd rfl (.inl rfl)) pgs_nil))) (fun _ _ _ _ _ => pts_nil) (fun _ _ _ _ _ => pe_op op_mulA (pv 2) (pe_op op_fdivA (pv 1) (pv 3)))) (pa_cons (pv 1) pa_nil))))))), ?_⟩
    refine ⟨_, rfl, p, rfl, ⟨_, r1⟩, for_list (K := K) (a := p) (xs := rs.map V.ref) (fun i σ H1 => H1 = H ∧ ∃ (c : Int) (y2 y3 : Option V), σ = [some (.ref p), some (.int c), y2, y3] ∧ 0 < c ∧ c ∣ D ∧ ∀ x ∈ xs.take i, x.2 ∣ c) ?_ ?_ ?_ ?_⟩
    · exact ⟨rfl, 1, _, _, rfl, by decide, Int.one_dvd D, fun x hx => by simp at hx⟩
    · rintro i σ H1 _ ⟨rfl, _⟩
      exact r1
    · rintro i y σ H1 hi ⟨rfl, c, y2, y3, rfl, c0, cD, hc⟩
      have hi2 : i < xs.length := by
        have := (List.getElem?_eq_some_iff.mp hi).1
        rw [List.length_map, hl] at this
        exact this
      have hg : xs[i]? = some xs[i] := List.getElem?_eq_getElem hi2
      obtain ⟨r, er, hr2⟩ := r2.get hg
      have ey : y = .ref r := by
        rw [List.getElem?_map, er] at hi
        exact (Option.some.inj hi).symm
      subst ey
      obtain ⟨b0, bD, _⟩ := O.ok xs[i] (List.getElem_mem hi2)
      have sc : Sm d c := dvd_small cD O.pos O.sm
      have sb : Sm d xs[i].2 := dvd_small bD O.pos O.sm
      have hg0 : 0 < Int.gcd c xs[i].2 := Nat.gcd_pos_of_pos_right _ (by omega)
      have hgs : Sm d ((Int.gcd c xs[i].2 : Nat) : Int) := by
        unfold Sm at *
        rw [Int.natAbs_natCast]
        exact Nat.lt_of_le_of_lt (Nat.gcd_le_right _ (by omega)) sb
      have d0 : 0 < d := by
        rcases Nat.eq_zero_or_pos d with z | z
        · rw [z] at sc
          unfold Sm at sc
          omega
        · exact z
      have hq1 : Sm d (c.fdiv ((Int.gcd c xs[i].2 : Nat) : Int)) := Nat.lt_of_le_of_lt (fdiv_le (by omega) (Int.gcd_dvd_left ..)) sc
      obtain ⟨k0, k1, k2, k3⟩ := lcm_ok c0 b0 cD bD
      refine ⟨r, _, rfl, hr2, rfl, _, _, rfl, _, _, rfl, rfl, ?_⟩
      refine ⟨_, rfl, _, rfl, _, rfl, c, xs[i].2, rfl, ?_⟩
      refine ⟨c, _, rfl, rfl, ⟨by omega, Nat.lt_of_lt_of_le (hgs.log d0) (by omega)⟩, _, rfl, _, _, rfl, rfl, hq1.cmul sb d0 d0 (by omega), rfl, _, _, _, rfl, k0, k1, fun x hx => ?_⟩
      rw [List.take_add_one, hg] at hx
      rcases List.mem_append.mp hx with z | z
      · exact Int.dvd_trans (hc x z) k2
      · rw [List.mem_singleton.mp z]
        exact k3
    · rintro σ H1 ⟨rfl, c, y2, y3, rfl, c0, cD, hc⟩
      rw [List.length_map, hl, List.take_length] at hc
      have sc : Sm d c := dvd_small cD O.pos O.sm
      have d0 : 0 < d := by
        rcases Nat.eq_zero_or_pos d with z | z
        · rw [z] at sc
          unfold Sm at sc
          omega
        · exact z
      refine ⟨_, rfl, p, rfl, ⟨_, r1⟩, fun R nR => ?_⟩
      have e1 := same_new (o := HO.lst []) nR
      refine lc_list (K := K) (a := p) (xs := rs.map V.ref) (fun i H2 => Same H1 H2 ∧ H2 R = some (.lst ((topsOn c (xs.take i)).map V.int))) ?_ ?_ ?_ ?_
      · exact ⟨e1, upd_same⟩
      · rintro i H2 _ ⟨s2, _⟩
        exact s2.seq r1
      · rintro i y H2 hi ⟨s2, hR⟩
        have hi2 : i < xs.length := by
          have := (List.getElem?_eq_some_iff.mp hi).1
          rw [List.length_map, hl] at this
          exact this
        have hg : xs[i]? = some xs[i] := List.getElem?_eq_getElem hi2
        obtain ⟨r, er, hr2⟩ := r2.get hg
        have ey : y = .ref r := by
          rw [List.getElem?_map, er] at hi
          exact (Option.some.inj hi).symm
        subst ey
        obtain ⟨b0, bD, sn⟩ := O.ok xs[i] (List.getElem_mem hi2)
        have sb : Sm d xs[i].2 := dvd_small bD O.pos O.sm
        have hdv := hc xs[i] (List.getElem_mem hi2)
        have ef : c.fdiv xs[i].2 = c / xs[i].2 := Int.fdiv_eq_ediv_of_nonneg _ (by omega)
        have sq : Sm d (c.fdiv xs[i].2) := Nat.lt_of_le_of_lt (fdiv_le b0 hdv) sc
        refine ⟨r, _, rfl, hr2.tk (Tk.same s2), rfl, _, _, rfl, _, _, rfl, rfl, rfl, tYes_go ?_⟩
        refine iteT ?_
        refine ⟨_, rfl, _, rfl, _, rfl, c, xs[i].2, rfl, rfl, ⟨by omega, Nat.lt_of_lt_of_le (sb.log d0) (by omega)⟩, _, _, rfl, rfl, (sn.mono (show n ≤ n + 1 by omega)).cmul sq (by omega) d0 (by omega), _, hR, ?_, ?_, ?_⟩
        · rw [List.length_map]
          unfold topsOn
          rw [List.length_map, List.length_take]
          have := O.len
          exact small1000 (by omega)
        · intro b o hb
          rw [upd_ne (ne_of_none hb nR)]
          exact s2 _ _ hb
        · rw [upd_same, List.take_add_one, hg]
          unfold topsOn
          rw [List.map_append, List.map_append, ef]
          rfl
      · rintro H2 ⟨s2, hR⟩
        rw [List.length_map, hl, List.take_length] at hR
        refine ⟨_, rfl, by show 2 ≤ sizeLine; decide, fun z nz => ?_⟩
        have e2 := same_new (o := HO.tup [.ref R, .int c]) nz
        exact q z R c _ (s2.trans e2) upd_same (e2 _ _ hR) c0 cD hc
def spAdded (K : PySem.W.Frag) : Sp := fun vs H Q _ => ∃ (p : Addr) (xs : List RT) (n d : Nat) (D : Int), vs = [.ref p] ∧ LstAt K H p xs ∧ Over1 n d D xs ∧ n ≤ 4000 ∧ d ≤ 4000 ∧
  ∀ z x H', Same H H' → RAt K H' z x → Red x → qv x = (xs.map qv).sum → x.2 ∣ D → Sm (n + d + 11) x.1 → Q (.ref z) H'
theorem ok_added {f fO fR : Addr} {fd fdO fdR : FuncData} (F : Fun K "added" "added" s_added f fd) (FO : Fun K "on_one_bottom" "on_one_bottom" s_oob fO fdO) (bO : Binds K fdO ["told"] []) (gO : mg "on_one_bottom" = some (.ref fO)) (GO : FnOk P w K mg base CX0 2 fO fdO ["told"] (spOob K))
    (FR : Fun K "ratio" "ratio" s_ratio fR fdR) (bR : Binds K fdR ["top", "bottom"] []) (gR : mg "ratio" = some (.ref fR)) (GR : FnOk P w K mg base CX0 2 fR fdR ["top", "bottom"] spRat0) (ms : mg "sum" = none) : FnOk P w K mg base CX0 3 f fd ["told"] (spAdded K) := by
  refine F.ok sc_added (fun vs H Q E h => ?_) (fun cdv A outer s H vs Q E hr h => ?_)
  · obtain ⟨_, _, _, _, _, rfl, _⟩ := h
    rfl
  · obtain ⟨p, xs, n, d, D, rfl, hlst, O, hn, hd, q⟩ := h
    refine ⟨_, (pss_cons (ps_asg (pe_call GO hr (by rfl) gO FO.kp bO .nil pass0 (pa_cons (pv 0) pa_nil)) (pg_tup rfl (pgs_cons (pg_name (i := 1) sc_added.nd rfl (.inl rfl)) (pgs_cons (pg_name (i := 2) sc_added.nd rfl (.inl rfl)) pgs_nil)))) (pss_one (ps_ret (pe_call GR hr (by rfl) gR FR.kp bR .nil pass0 (pa_cons (pe_callB (cr_sum rfl) (by rfl) ms (by decide +kernel) (pa_cons (pv 1) pa_nil)) (pa_cons (pv 2) pa_nil)))))), ?_⟩
    refine ⟨_, rfl, p, xs, n, d, D, rfl, hlst, O, hn, hd, fun z zl c H1 s1 hz hzl c0 cD hc => ?_⟩
    refine ⟨z, _, rfl, SqT.of hz, rfl, _, _, rfl, _, _, rfl, rfl, ?_⟩
    have sc : Sm d c := dvd_small cD O.pos O.sm
    refine ⟨_, rfl, zl, _, rfl, SqL.of hzl, _, rfl, _, c, rfl, sc.mono (show d ≤ 8000 by omega), Int.ne_of_gt c0, fun y ny => ?_⟩
    have e := same_new (o := HO.tup [.int (ratT (topsOn c xs).sum c), .int (ratB (topsOn c xs).sum c)]) ny
    have red : Red (low2 (topsOn c xs).sum c) := low2_red (Int.ne_of_gt c0)
    have val : qv (low2 (topsOn c xs).sum c) = (((topsOn c xs).sum : Int) : Rat) / (c : Rat) := qv_low2 c0
    obtain ⟨y1, y2⟩ := red_small red c0 val
    refine q y (low2 (topsOn c xs).sum c) _ (s1.trans e) (SqT.of upd_same) red (val.trans (tops_sum c0 fun x hx => ⟨(O.ok x hx).1, hc x hx⟩)) (Int.dvd_trans y1 cD) ?_
    have t := tops_sm (n := n) c0 O.pos cD O.sm (xs := xs) fun x hx => ⟨(O.ok x hx).1, (O.ok x hx).2.2⟩
    have hlen := O.len
    unfold Sm
    have t2 : xs.length * 2 ^ (n + d) ≤ 1000 * 2 ^ (n + d) := Nat.mul_le_mul_right _ hlen
    have t3 : 2 ^ (n + d + 11) = 2048 * 2 ^ (n + d) := by rw [Nat.pow_add, Nat.mul_comm]
    have t4 : 0 < 2 ^ (n + d) := Nat.pow_pos (by decide)
    omega
end

end Fp

set_option Elab.async false
set_option linter.all false
set_option maxRecDepth 100000
set_option maxHeartbeats 4000000
set_option exponentiation.threshold 10000
namespace Fp
open PySem PySem.Spec PyProof.Rows L2
/-! ### the program's own: what lasts behind the row's end, the short life -/
structure ConstN (K : PySem.W.Frag) (mg : Str → Option Value) (aN : Addr) : Prop where
  gN : mg "NOUGHT" = some (.ref aN)
  tN : ∀ H : Hp, RAt K H aN (0, 1)
structure Consts (K : PySem.W.Frag) (mg : Str → Option Value) (aN aO : Addr) : Prop where
  gN : mg "NOUGHT" = some (.ref aN)
  gO : mg "ONE" = some (.ref aO)
  tN : ∀ H, RAt K H aN (0, 1)
  tO : ∀ H, RAt K H aO (1, 1)
theorem Consts.n {K : PySem.W.Frag} {mg : Str → Option Value} {aN aO : Addr} (C : Consts K mg aN aO) : ConstN K mg aN := ⟨C.gN, C.tN⟩
def rM (x y : RT) : RT := low2 (x.1 * y.2 - y.1 * x.2) (x.2 * y.2)
def rO (x y : RT) : RT := low2 (x.1 * y.2) (x.2 * y.1)
/-- a step: from nought on, below one -/
def StepOk (n : Nat) (s : RT) : Prop := SmR n s ∧ 0 ≤ s.1 ∧ s.1 < s.2
theorem gap_pos {s : RT} (h : Red s) (h1 : s.1 < s.2) : 0 < (rM (1, 1) s).1 := by
  have hb : (0 : Int) < 1 * s.2 := by have := h.1; omega
  have e := low2_cross (t := 1 * s.2 - s.1 * 1) hb
  have hp := ratB_pos (t := 1 * s.2 - s.1 * 1) hb
  show 0 < (low2 (1 * s.2 - s.1 * 1) (1 * s.2)).1
  have hp2 : 0 < (low2 (1 * s.2 - s.1 * 1) (1 * s.2)).2 := hp
  generalize (low2 (1 * s.2 - s.1 * 1) (1 * s.2)).1 = x at *
  generalize (low2 (1 * s.2 - s.1 * 1) (1 * s.2)).2 = y at *
  rcases (by omega : 0 < x ∨ x ≤ 0) with z | z
  · exact z
  · have a1 : 0 < (1 * s.2 - s.1 * 1) * y := Int.mul_pos (by omega) hp2
    have a2 : x * (1 * s.2) ≤ 0 := Int.mul_nonpos_of_nonpos_of_nonneg z (Int.le_of_lt hb)
    omega
def behindR (row : List RT) (step : RT) : RT := match row.getLast? with
  | none => (0, 1)
  | some l => rO (rT l step) (rM (1, 1) step)
theorem behindR_snoc (ys : List RT) (y step : RT) : behindR (ys ++ [y]) step = rO (rT y step) (rM (1, 1) step) := by
  have e : (ys ++ [y]).getLast? = some y := by simp
  unfold behindR
  rw [e]
/-! data of a row -/
def rowD (xs : List RT) : List PyData := xs.map fun x => .tuple [.int x.1, .int x.2]
theorem RsAt.dp {K : PySem.W.Frag} {H : Hp} : ∀ {ps : List Addr} {xs : List RT}, RsAt K H ps xs → DpAll K H (ps.map V.ref) (rowD xs)
  | _, _, .nil => .nil
  | _, _, .cons h r => .cons h.dp r.dp
theorem RowAt.dp {K : PySem.W.Frag} {H : Hp} {p : Addr} {xs : List RT} (h : RowAt K H p xs) : Dp K H (.ref p) (.tuple (rowD xs)) := by
  obtain ⟨rs, h1, h2⟩ := h
  exact .tup h1 h2.dp
theorem rowD_lay : ∀ xs : List RT, PyData.canLayAll0 (rowD xs) = true
  | [] => rfl
  | x :: r => by
    show (PyData.canLay0 (.tuple [.int x.1, .int x.2]) && PyData.canLayAll0 (rowD r)) = true
    rw [rowD_lay r]
    rfl
theorem rowD_depth : ∀ xs : List RT, PyData.depthAll (rowD xs) ≤ 1
  | [] => by decide
  | x :: r => by
    show max (PyData.depth (.tuple [.int x.1, .int x.2])) (PyData.depthAll (rowD r)) ≤ 1
    have := rowD_depth r
    have e : PyData.depth (.tuple [.int x.1, .int x.2]) = 1 := rfl
    omega
theorem rowD_shaped (xs : List RT) : SeqAt.shaped (.tuple (rowD xs)) = true := by
  unfold SeqAt.shaped
  have h1 : PyData.canLay0 (.tuple (rowD xs)) = true := rowD_lay xs
  have h2 : (PyData.tuple (rowD xs)).depth ≤ 64 := by
    show PyData.depthAll (rowD xs) + 1 ≤ 64
    have := rowD_depth xs
    omega
  rw [h1, decide_eq_true h2]
  rfl
theorem rowD_nil (xs : List RT) : PyData.eqv (.tuple (rowD xs)) (.tuple []) = xs.isEmpty := by
  cases xs with
  | nil => rfl
  | cons x r => rfl
section
variable {P : Program} {w : World} {K : PySem.W.Frag} {mg : Str → Option Value} {base : Heap} {aN aO : Addr}
def spBehind (K : PySem.W.Frag) : Sp := fun vs H Q _ => ∃ (p : Addr) (row : List RT) (step : RT), vs = [.ref p] ∧ LifeAt K H p row step ∧ (∀ x ∈ row, SmR 1900 x) ∧ StepOk 300 step ∧
  ∀ z H', Same H H' → RAt K H' z (behindR row step) → Q (.ref z) H'
end

end Fp

set_option Elab.async false
set_option linter.all false
set_option maxRecDepth 100000
set_option maxHeartbeats 4000000
set_option exponentiation.threshold 10000
namespace Fp
open PySem PySem.Spec PyProof.Rows L2
/-! ### chances, one behind the other -/

def chR (row : List RT) (step : RT) (i : Nat) : Rat := match row[i]? with
  | some x => qv x
  | none => match row.getLast? with
    | none => 0
    | some l => qv l * qv step ^ (i + 1 - row.length)
theorem chR_in {row : List RT} {step : RT} {i : Nat} {x : RT} (h : row[i]? = some x) : chR row step i = qv x := by
  unfold chR
  rw [h]
theorem chR_out {row : List RT} {step l : RT} {i : Nat} (h : row.length ≤ i) (hl : row.getLast? = some l) : chR row step i = qv l * qv step ^ (i + 1 - row.length) := by
  unfold chR
  rw [List.getElem?_eq_none h, hl]
theorem chR_nil {step : RT} {i : Nat} : chR [] step i = 0 := rfl
theorem last_is {row : List RT} (h : row ≠ []) : ∃ l, row.getLast? = some l ∧ row[row.length - 1]? = some l ∧ l ∈ row := by
  refine ⟨row.getLast h, List.getLast?_eq_some_getLast h, ?_, List.getLast_mem h⟩
  rw [List.getLast_eq_getElem]
  exact List.getElem?_eq_getElem _
theorem chR_next {row : List RT} {step : RT} {k : Nat} (h : row.length ≤ k + 1) (hne : row ≠ []) : chR row step (k + 1) = chR row step k * qv step := by
  obtain ⟨l, h1, h2, _⟩ := last_is hne
  have hp := List.length_pos_iff.mpr hne
  rw [chR_out h h1]
  rcases (by omega : row.length = k + 1 ∨ row.length ≤ k) with z | z
  · have e : row[k]? = some l := by
      rw [← h2]
      congr 1
      omega
    rw [chR_in e, show k + 1 + 1 - row.length = 0 + 1 by omega, Rat.pow_succ, Rat.pow_zero]
    grind
  · rw [chR_out z h1, show k + 1 + 1 - row.length = (k + 1 - row.length) + 1 by omega, Rat.pow_succ]
    grind
/-- the chances 1 to as many as there are -/
structure IsCh (row : List RT) (step : RT) (n most : Nat) (chs : List RT) : Prop where
  len : chs.length = most
  ok : ∀ i x, chs[i]? = some x → SmR (n + 5 * i) x ∧ qv x = chR row step i
/-- what one number stands under all of them -/
theorem ch_dvd {row : List RT} {step x : RT} {n i most : Nat} (hr : ∀ y ∈ row, SmR n y) (hs : Red step) (hx : Red x) (h : qv x = chR row step i) (hi : i < most) : x.2 ∣ prodB row * step.2 ^ most := by
  match e : row[i]? with
  | some y =>
    have hy := List.mem_of_getElem? e
    have ex : x = y := qv_inj hx (hr y hy).1 (h.trans (chR_in e))
    rw [ex]
    exact Int.dvd_trans (prodB_dvd hy) (Int.dvd_mul_right ..)
  | none =>
    have hle : row.length ≤ i := List.getElem?_eq_none_iff.mp e
    match el : row.getLast? with
    | none =>
      have er : row = [] := List.getLast?_eq_none_iff.mp el
      rw [er, chR_nil] at h
      have ex : x = (0, 1) := qv_inj hx ⟨by decide, by decide⟩ (by
        rw [h]
        unfold qv
        show (0 : Rat) = ((0 : Int) : Rat) / ((1 : Int) : Rat)
        grind)
      rw [ex]
      exact Int.one_dvd _
    | some l =>
      have hl : l ∈ row := List.mem_of_getLast? el
      have hl0 := (hr l hl).1
      rw [chR_out hle el] at h
      obtain ⟨j, ej, hj⟩ : ∃ j, i + 1 - row.length = j ∧ j ≤ most := ⟨_, rfl, by omega⟩
      rw [ej] at h
      have key : ∀ j : Nat, qv l * qv step ^ j = ((l.1 * step.1 ^ j : Int) : Rat) / ((l.2 * step.2 ^ j : Int) : Rat) := by
        intro j
        induction j with
        | zero =>
          rw [Rat.pow_zero, Int.pow_zero, Int.pow_zero, Int.mul_one, Int.mul_one]
          unfold qv
          grind
        | succ j ih =>
          have h1 := cast_ne (Int.ne_of_gt hs.1)
          have h2 := cast_ne (Int.ne_of_gt (Int.mul_pos hl0.1 (show (0 : Int) < step.2 ^ j from Int.pow_pos hs.1)))
          rw [Rat.pow_succ, ← Rat.mul_assoc, ih, Int.pow_succ, Int.pow_succ, ← Int.mul_assoc, ← Int.mul_assoc, Rat.intCast_mul (l.1 * step.1 ^ j), Rat.intCast_mul (l.2 * step.2 ^ j)]
          unfold qv
          grind
      rw [key j] at h
      obtain ⟨d1, _⟩ := red_small hx (Int.mul_pos hl0.1 (Int.pow_pos hs.1)) h
      refine Int.dvd_trans d1 ?_
      obtain ⟨u, hu⟩ := prodB_dvd hl
      refine ⟨u * step.2 ^ (most - j), ?_⟩
      rw [hu, show most = j + (most - j) by omega, Int.pow_add, Nat.add_sub_cancel_left]
      rw [Int.mul_assoc l.2 u, ← Int.mul_assoc u, Int.mul_comm u (step.2 ^ j), Int.mul_assoc (step.2 ^ j), ← Int.mul_assoc l.2]
theorem sm_pow {n : Nat} {a : Int} (h : Sm n a) (hn : 0 < n) : ∀ k : Nat, Sm (n * k + 1) (a ^ k)
  | 0 => by
    unfold Sm
    rw [Int.pow_zero]
    simp
  | k + 1 => by
    rw [Int.pow_succ]
    have := (sm_pow h hn k).mul h
    refine this.mono ?_
    rw [Nat.mul_add]
    omega
theorem over_ch {row : List RT} {step : RT} {n most : Nat} {chs : List RT} (hr : ∀ y ∈ row, SmR n y) (hs : SmR 5 step) (hl : row.length ≤ 14) (hn : n ≤ 64) (hm : most ≤ 70) (h : IsCh row step n most chs) : Over1 (n + 350) 1300 (prodB row * step.2 ^ most) chs := by
  refine ⟨Int.mul_pos (prodB_pos fun x hx => (hr x hx).1.1) (Int.pow_pos hs.1.1), ?_, fun x hx => ?_, by rw [h.len]; omega⟩
  · have h1 := prodB_sm fun x hx => (hr x hx).2.2
    have h2 := sm_pow hs.2.2 (by decide) most
    refine (h1.mul h2).mono ?_
    have : n * row.length ≤ 64 * 14 := Nat.mul_le_mul hn hl
    omega
  · obtain ⟨i, hi⟩ := List.mem_iff_getElem?.mp hx
    have hi2 := (List.getElem?_eq_some_iff.mp hi).1
    rw [h.len] at hi2
    obtain ⟨s1, s2⟩ := h.ok i x hi
    exact ⟨s1.1.1, ch_dvd hr hs.1 s1.1 s2 hi2, s1.2.1.mono (by omega)⟩
def sumCh (row : List RT) (step : RT) : Nat → Rat
  | 0 => 0
  | k + 1 => sumCh row step k + chR row step k
theorem sum_snoc (xs : List Rat) (x : Rat) : (xs ++ [x]).sum = xs.sum + x := by
  induction xs with
  | nil =>
    show x + 0 = 0 + x
    grind
  | cons y r ih =>
    show y + (r ++ [x]).sum = y + r.sum + x
    rw [ih]
    grind
theorem IsCh.sum {row : List RT} {step : RT} {n most : Nat} {chs : List RT} (h : IsCh row step n most chs) : (chs.map qv).sum = sumCh row step most := by
  have key : ∀ k, k ≤ most → ((chs.take k).map qv).sum = sumCh row step k := by
    intro k
    induction k with
    | zero =>
      intro _
      rfl
    | succ k ih =>
      intro hk
      have hk2 : k < chs.length := by rw [h.len]; omega
      have hg : chs[k]? = some chs[k] := List.getElem?_eq_getElem hk2
      rw [List.take_add_one, hg]
      show ((chs.take k ++ [chs[k]]).map qv).sum = sumCh row step k + chR row step k
      rw [List.map_append, List.map_singleton, sum_snoc, ih (by omega), (h.ok k _ hg).2]
  have := key most (Nat.le_refl _)
  rw [← h.len, List.take_length] at this
  rw [h.len] at this
  exact this
abbrev s_chto : Stmt := topS 25
theorem sc_chto : FnScope ["life", "most", "row", "step", "chances"] ["life", "most"] (defScope s_chto) := ⟨rfl, rfl, rfl, by decide +kernel, rfl, by decide +kernel, by decide +kernel⟩
/-- a life as the program is asked of it -/
structure LifeOk (n : Nat) (row : List RT) (step : RT) : Prop where
  sm : ∀ y ∈ row, SmR n y
  st : StepOk 5 step
  len : row.length ≤ 14
  n64 : n ≤ 64
  n1 : 1 ≤ n
section
variable {P : Program} {w : World} {K : PySem.W.Frag} {mg : Str → Option Value} {base : Heap} {aN aO : Addr}
def spChto (K : PySem.W.Frag) : Sp := fun vs H Q _ => ∃ (p : Addr) (row : List RT) (step : RT) (n most : Nat), vs = [.ref p, .int (most : Int)] ∧ LifeAt K H p row step ∧ LifeOk n row step ∧ most ≤ 70 ∧
  ∀ z rs chs H', Same H H' → H' z = some (.lst (rs.map V.ref)) → RsAt K H' rs chs → IsCh row step n most chs → Q (.ref z) H'
theorem ok_chto {f fT : Addr} {fd fdT : FuncData} (F : Fun K "chances_to" "chances_to" s_chto f fd) (C : ConstN K mg aN)
    (FT : Fun K "times" "times" s_times fT fdT) (bT : Binds K fdT ["one", "other"] []) (gT : mg "times" = some (.ref fT)) (GT : FnOk P w K mg base CX0 3 fT fdT ["one", "other"] (spTwo K (fun a b c d => a * c)))
    (ml : mg "len" = none) (mL : mg "list" = none) : FnOk P w K mg base CX0 4 f fd ["life", "most"] (spChto K) := by
  refine F.ok sc_chto (fun vs H Q E h => ?_) (fun cdv A outer s H vs Q E hr h => ?_)
  · obtain ⟨_, _, _, _, _, rfl, _⟩ := h
    rfl
  · obtain ⟨p, row, step, n, most, rfl, ⟨pr, ps, l1, l2, l3⟩, L, hm, q⟩ := h
    refine ⟨_, (pss_cons (ps_asg (pv 0) (pg_tup rfl (pgs_cons (pg_name (i := 2) sc_chto.nd rfl (.inl rfl)) (pgs_cons (pg_name (i := 3) sc_chto.nd rfl (.inl rfl)) pgs_nil)))) (pss_cons (ps_set (i := 4) sc_chto.nd rfl (.inl rfl) (pe_callTy call_list_of (by rfl) mL (by decide +kernel) (pa_cons (pe_slice sl_tupA (pv 2) po_none (po_some (pv 1))) pa_nil))) (pss_cons (ps_while PassesOwn.never (pt_cmpR op_lt (pe_callB call_len_seq (by rfl) ml PySem.boot_len (pa_cons (pv 4) pa_nil)) (pv 1) (nomark _))
          (pss_one (ps_expr (pe_bm PySem.F.plainAttrs_list PySem.F.slot_list_append PySem.F.type_list_append mt_append (pv 4) (pa_cons (pe_ifExp (pt_truth (pv 4) (by intro _; rfl)) (pe_call GT hr (by rfl) gT FT.kp bT .nil pass0 (pa_cons (pe_ix ix_list (pv 4) (pe_un un_neg pe_int) (fun _ _ => rfl)) (pa_cons (pv 3) pa_nil))) (pe_glob (v := .ref aN) rfl C.gN rfl)) pa_nil))))) (pss_one (ps_ret (pv 4)))))), ?_⟩
    refine ⟨_, rfl, p, _, rfl, l1, rfl, _, _, rfl, _, _, rfl, rfl, ?_⟩
    refine ⟨_, rfl, _, rfl, most, rfl, ?_⟩
    refine take_row l2 fun a H1 s1 ha => ?_
    obtain ⟨rs0, a1, a2⟩ := id ha
    refine ⟨a, _, rfl, .inr a1, fun c nc => ?_⟩
    have e1 := same_new (o := HO.lst (rs0.map V.ref)) nc
    have nc0 : H c = none := s1.free nc
    have hlen0 := a2.length
    rw [List.length_take] at hlen0
    refine ⟨fun m σ H2 => ∃ (rs : List Addr) (chs : List RT), σ = [some (.ref p), some (.int (most : Int)), some (.ref pr), some (.ref ps), some (.ref c)] ∧ Same H H2 ∧ H2 c = some (.lst (rs.map V.ref)) ∧ RsAt K H2 rs chs ∧ m + chs.length = most ∧ (row.length ≤ chs.length ∨ m = 0) ∧ (∀ i x, chs[i]? = some x → SmR (n + 5 * i) x ∧ qv x = chR row step i), ⟨most - (row.take most).length, rs0, row.take most, rfl, s1.trans e1, upd_same, a2.tk (Tk.same e1), ?_, ?_, ?_⟩, ?_⟩
    · rw [List.length_take]
      omega
    · rw [List.length_take]
      omega
    · intro i x hx
      rw [List.getElem?_take] at hx
      split at hx
      · exact ⟨(L.sm x (List.mem_of_getElem? hx)).mono (by omega), (chR_in hx).symm⟩
      · cases hx
    · rintro m σ H2 ⟨rs, chs, rfl, s2, hc, hrs, em, hlr, hok⟩
      have hl := hrs.length
      refine ⟨_, rfl, c, _, rfl, .inl (SqL.of hc), _, rfl, _, _, rfl, rfl, _, rfl, ite2 (fun c2 => ?_) (fun c2 => ?_)⟩
      · have hlt : chs.length < most := by
          have : (((rs.map V.ref).length : Nat) : Int) < (most : Int) := of_decide_eq_true c2
          rw [List.length_map] at this
          omega
        have hrl : row.length ≤ chs.length := by
          rcases hlr with z | z
          · exact z
          · omega
        refine ⟨fun σ' H' => ∃ (rs : List Addr) (chs' : List RT), σ' = [some (.ref p), some (.int (most : Int)), some (.ref pr), some (.ref ps), some (.ref c)] ∧ Same H H' ∧ H' c = some (.lst (rs.map V.ref)) ∧ RsAt K H' rs chs' ∧ chs'.length = chs.length + 1 ∧ (∀ i x, chs'[i]? = some x → SmR (n + 5 * i) x ∧ qv x = chR row step i), fun σ' H' z => ?_, ?_⟩
        · obtain ⟨rs', chs', z1, z2, z3, z4, z5, z6⟩ := z
          exact ⟨m - 1, by omega, rs', chs', z1, z2, z3, z4, by omega, .inl (by omega), z6⟩
        · have put : ∀ (r : Addr) (x : RT) (H3 : Hp), Same H2 H3 → RAt K H3 r x → SmR (n + 5 * chs.length) x → qv x = chR row step chs.length →
              ∃ (l : Addr) (xs : List V) (y : V), V.ref c = .ref l ∧ [V.ref r] = [y] ∧ H3 l = some (.lst xs) ∧ xs.length < sizeLine ∧ ∃ (rs : List Addr) (chs' : List RT), [some (V.ref p), some (.int (most : Int)), some (.ref pr), some (.ref ps), some (.ref c)] = [some (.ref p), some (.int (most : Int)), some (.ref pr), some (.ref ps), some (.ref c)] ∧ Same H (upd H3 l (.lst (xs ++ [y]))) ∧ upd H3 l (.lst (xs ++ [y])) c = some (.lst (rs.map V.ref)) ∧ RsAt K (upd H3 l (.lst (xs ++ [y]))) rs chs' ∧ chs'.length = chs.length + 1 ∧ (∀ i x, chs'[i]? = some x → SmR (n + 5 * i) x ∧ qv x = chR row step i) := by
            intro r x H3 s3 hx hsx hqx
            have hc3 := s3 _ _ hc
            refine ⟨c, _, _, rfl, rfl, hc3, ?_, rs ++ [r], chs ++ [x], rfl, ?_, ?_, ?_, by simp, ?_⟩
            · rw [List.length_map, hl]
              exact small1000 (by omega)
            · intro b o hb
              rw [upd_ne (ne_of_none hb nc0)]
              exact s3 _ _ (s2 _ _ hb)
            · rw [upd_same, List.map_append]
              rfl
            · exact ((hrs.tk (Tk.same s3)).append (.cons hx .nil)).tk (tk_lst hc3)
            · intro i y hy
              rcases (by omega : i < chs.length ∨ i = chs.length ∨ chs.length < i) with z | z | z
              · rw [List.getElem?_append_left z] at hy
                exact hok i y hy
              · subst z
                rw [List.getElem?_append_right (Nat.le_refl _), Nat.sub_self] at hy
                cases Option.some.inj hy
                exact ⟨hsx, hqx⟩
              · rw [List.getElem?_append_right (by omega), List.getElem?_eq_none (by simp; omega)] at hy
                cases hy
          refine ⟨_, rfl, .inl ⟨rfl, _, SqL.of hc⟩, ?_⟩
          refine ⟨_, rfl, _, .inl ⟨_, SqL.of hc, rfl⟩, ?_⟩
          rcases snoc_cases chs with e0 | ⟨ys, y, e0⟩
          · have er : rs = [] := by
              rw [e0] at hl
              exact List.length_eq_zero_iff.mp hl
            subst er
            have erow : row = [] := by
              rw [e0] at hrl
              exact List.length_eq_zero_iff.mp (by simpa using hrl)
            refine iteF ?_
            refine put aN (0, 1) H2 (Same.refl _) (C.tN _) (SmR.mono (n := 1) ⟨⟨by decide, by decide⟩, by unfold Sm; decide, by unfold Sm; decide⟩ (by have := L.n1; omega)) ?_
            · rw [erow, chR_nil]
              unfold qv
              show ((0 : Int) : Rat) / ((1 : Int) : Rat) = 0
              grind
          · have hne : (rs.map V.ref).isEmpty = false := by
              rw [e0] at hl
              cases rs with
              | nil => simp at hl
              | cons b t => rfl
            rw [hne]
            refine iteT ?_
            have hy : chs[ys.length]? = some y := by
              rw [e0]
              simp
            have hyl : chs.length = ys.length + 1 := by
              rw [e0]
              simp
            obtain ⟨r, er, hr2⟩ := hrs.get hy
            have eat : atI (rs.map V.ref) (-1) = some (.ref r) := by
              have e2 : ixN (rs.map V.ref).length (-1) = some ys.length := by
                unfold ixN
                rw [List.length_map, hl, hyl, if_neg (by omega), if_pos (by omega)]
                congr 1
                omega
              unfold atI
              rw [e2]
              show (rs.map V.ref)[ys.length]? = _
              rw [List.getElem?_map, er]
              rfl
            obtain ⟨sy, qy⟩ := hok _ _ hy
            refine ⟨_, rfl, 1, rfl, c, _, -1, _, rfl, rfl, SqL.of hc, eat, ?_⟩
            have hn64 := L.n64
            have hst := L.st.1
            refine ⟨_, rfl, r, ps, _, _, _, _, rfl, ⟨hr2, l3.tk (Tk.same s2), sy.2.1.mono (by omega), sy.2.2.mono (by omega), hst.2.1.mono (by decide), hst.2.2.mono (by decide), sy.1.1, hst.1.1⟩, fun b nb => ?_⟩
            have e3 := same_new (o := HO.tup [.int (rT y step).1, .int (rT y step).2]) nb
            obtain ⟨v1, v2⟩ := qv_rT sy.1 hst.1
            refine put b (rT y step) _ e3 (SqT.of upd_same) ((rT_sm sy hst).mono (by omega)) ?_
            rw [v2, qy, hyl]
            rcases Classical.em (row = []) with z | z
            · rw [z, chR_nil, chR_nil]
              grind
            · exact (chR_next (by omega) z).symm
      · have hge : m = 0 := by
          have : ¬ (((rs.map V.ref).length : Nat) : Int) < (most : Int) := fun z => c2 (decide_eq_true z)
          rw [List.length_map] at this
          omega
        exact ⟨_, rfl, q c rs chs H2 s2 hc hrs ⟨by omega, hok⟩⟩
end

end Fp

set_option Elab.async false
set_option linter.all false
set_option maxRecDepth 100000
set_option maxHeartbeats 4000000
set_option exponentiation.threshold 10000
namespace Fp
open PySem PySem.Spec PyProof.Rows L2
/-! ### a chance, lasting, the miss -/
theorem qv_rM {x y : RT} (hx : Red x) (hy : Red y) : Red (rM x y) ∧ qv (rM x y) = qv x - qv y := by
  have hb := Int.mul_pos hx.1 hy.1
  refine ⟨low2_red (Int.ne_of_gt hb), ?_⟩
  unfold rM
  rw [qv_low2 hb, Rat.intCast_sub, Rat.intCast_mul, Rat.intCast_mul, Rat.intCast_mul]
  have h1 := cast_ne (Int.ne_of_gt hx.1)
  have h2 := cast_ne (Int.ne_of_gt hy.1)
  unfold qv
  grind
theorem qv_rO {x y : RT} (hx : Red x) (hy : Red y) (h : 0 < y.1) : Red (rO x y) ∧ qv (rO x y) = qv x / qv y := by
  have hb := Int.mul_pos hx.1 h
  refine ⟨low2_red (Int.ne_of_gt hb), ?_⟩
  unfold rO
  rw [qv_low2 hb, Rat.intCast_mul, Rat.intCast_mul]
  have h1 := cast_ne (Int.ne_of_gt hx.1)
  have h2 := cast_ne (Int.ne_of_gt hy.1)
  have h3 := cast_ne (Int.ne_of_gt h)
  unfold qv
  grind
theorem qv_one : qv (1, 1) = 1 := by
  unfold qv
  show ((1 : Int) : Rat) / ((1 : Int) : Rat) = 1
  grind
theorem qv_nought : qv (0, 1) = 0 := by
  unfold qv
  show ((0 : Int) : Rat) / ((1 : Int) : Rat) = 0
  grind
theorem one_red : Red (1, 1) := ⟨by decide, by decide⟩
theorem gap_val {s : RT} (hs : Red s) (h : s.1 < s.2) : (1 : Rat) - qv s ≠ 0 := by
  obtain ⟨r, v⟩ := qv_rM one_red hs
  have hg := gap_pos hs h
  have e : qv (rM (1, 1) s) ≠ 0 := by
    have h1 := cast_ne (Int.ne_of_gt hg)
    have h2 := cast_ne (Int.ne_of_gt r.1)
    unfold qv
    grind
  rw [v, qv_one] at e
  exact e
/-- what lasts behind the row's end -/
def behQ (row : List RT) (step : RT) : Rat := match row.getLast? with
  | none => 0
  | some l => qv l * qv step / (1 - qv step)
theorem behind_val {row : List RT} {step : RT} {n : Nat} (hr : ∀ x ∈ row, SmR n x) (hs : StepOk 5 step) : SmR (n + 20) (behindR row step) ∧ qv (behindR row step) = behQ row step := by
  rcases snoc_cases row with rfl | ⟨ys, y, rfl⟩
  · exact ⟨SmR.mono (n := 1) (x := (0, 1)) ⟨⟨by decide, by decide⟩, by unfold Sm; decide, by unfold Sm; decide⟩ (by omega), qv_nought⟩
  · have hy := hr y (by simp)
    rw [behindR_snoc]
    have e : behQ (ys ++ [y]) step = qv y * qv step / (1 - qv step) := by
      have e : (ys ++ [y]).getLast? = some y := by simp
      unfold behQ
      rw [e]
    rw [e]
    obtain ⟨h1, h2, h3⟩ := hs
    obtain ⟨a1, a2⟩ := qv_rT hy.1 h1.1
    obtain ⟨b1, b2⟩ := qv_rM one_red h1.1
    have g := gap_pos h1.1 h3
    obtain ⟨c1, c2⟩ := qv_rO a1 b1 g
    refine ⟨⟨c1, ?_, ?_⟩, ?_⟩
    · have sT := rT_sm hy h1
      have hden : (0 : Int) < 1 * step.2 := by have := h1.1.1; omega
      have m1 : Sm 6 (1 * step.2 - step.1 * 1) := by
        rw [Int.one_mul, Int.mul_one]
        exact h1.2.2.sub h1.2.1
      have m2 : Sm 6 (1 * step.2) := by
        rw [Int.one_mul]
        exact h1.2.2.mono (by decide)
      have sM : SmR 6 (rM (1, 1) step) := low2_sm hden m1 m2
      exact (ratT_sm (Int.mul_pos sT.1.1 g) ((sT.2.1.mul sM.2.2).mono (show n + 5 + 6 ≤ n + 20 by omega)))
    · have sT := rT_sm hy h1
      have hden : (0 : Int) < 1 * step.2 := by have := h1.1.1; omega
      have m1 : Sm 6 (1 * step.2 - step.1 * 1) := by
        rw [Int.one_mul, Int.mul_one]
        exact h1.2.2.sub h1.2.1
      have m2 : Sm 6 (1 * step.2) := by
        rw [Int.one_mul]
        exact h1.2.2.mono (by decide)
      have sM : SmR 6 (rM (1, 1) step) := low2_sm hden m1 m2
      exact (ratB_sm (Int.mul_pos sT.1.1 g) ((sT.2.2.mul sM.2.1).mono (show n + 5 + 6 ≤ n + 20 by omega)))
    · rw [c2, a2, b2, qv_one]
section
variable {P : Program} {w : World} {K : PySem.W.Frag} {mg : Str → Option Value} {base : Heap} {aN aO : Addr}
def spLasting (K : PySem.W.Frag) : Sp := fun vs H Q _ => ∃ (p : Addr) (row : List RT) (step : RT) (n k : Nat), vs = [.ref p, .int (k : Int)] ∧ LifeAt K H p row step ∧ LifeOk n row step ∧ k ≤ 70 ∧
  ∀ z x H', Same H H' → RAt K H' z x → SmR 1800 x → qv x = 1 - sumCh row step k → Q (.ref z) H'
/-- one less a ratio -/
theorem one_less {x : RT} {n : Nat} (h : SmR n x) : SmR (n + 1) (rM (1, 1) x) ∧ qv (rM (1, 1) x) = 1 - qv x := by
  obtain ⟨b1, b2⟩ := qv_rM one_red h.1
  have hden : (0 : Int) < 1 * x.2 := by have := h.1.1; omega
  have m1 : Sm (n + 1) (1 * x.2 - x.1 * 1) := by
    rw [Int.one_mul, Int.mul_one]
    exact h.2.2.sub h.2.1
  have m2 : Sm (n + 1) (1 * x.2) := by
    rw [Int.one_mul]
    exact h.2.2.mono (by omega)
  refine ⟨low2_sm hden m1 m2, ?_⟩
  rw [b2, qv_one]
def rowQ (row : List RT) : Rat := (row.map qv).sum
end

end Fp

set_option Elab.async false
set_option linter.all false
set_option maxRecDepth 100000
set_option maxHeartbeats 4000000
set_option exponentiation.threshold 10000
namespace Fp
open PySem PySem.Spec PyProof.Rows L2
/-! ### the law's own sums, chances and rests -/
abbrev s_lsum : Stmt := topS 42
theorem sc_lsum : FnScope ["_law_some", "_law_found", "_law_one"] ["_law_some"] (defScope s_lsum) := ⟨rfl, rfl, rfl, by decide +kernel, rfl, by decide +kernel, by decide +kernel⟩
theorem sum_red {xs : List RT} {n d : Nat} {D : Int} {x : RT} (O : Over1 n d D xs) (hx : Red x) (h : qv x = (xs.map qv).sum) : x.2 ∣ D ∧ Sm (n + d + 11) x.1 := by
  have val : qv x = (((topsOn D xs).sum : Int) : Rat) / (D : Rat) := h.trans (tops_sum O.pos fun y hy => ⟨(O.ok y hy).1, (O.ok y hy).2.1⟩).symm
  obtain ⟨y1, y2⟩ := red_small hx O.pos val
  refine ⟨y1, ?_⟩
  have t := tops_sm (n := n) O.pos O.pos (Int.dvd_refl D) O.sm (xs := xs) fun y hy => ⟨(O.ok y hy).1, (O.ok y hy).2.2⟩
  have hlen := O.len
  unfold Sm
  have t2 : xs.length * 2 ^ (n + d) ≤ 1000 * 2 ^ (n + d) := Nat.mul_le_mul_right _ hlen
  have t3 : 2 ^ (n + d + 11) = 2048 * 2 ^ (n + d) := by rw [Nat.pow_add, Nat.mul_comm]
  have t4 : 0 < 2 ^ (n + d) := Nat.pow_pos (by decide)
  omega
theorem Over1.take {xs : List RT} {n d : Nat} {D : Int} (O : Over1 n d D xs) (i : Nat) : Over1 n d D (xs.take i) := ⟨O.pos, O.sm, fun x hx => O.ok x (List.mem_of_mem_take hx), by rw [List.length_take]; have := O.len; omega⟩
def rP (x y : RT) : RT := low2 (x.1 * y.2 + y.1 * x.2) (x.2 * y.2)
theorem qv_rP {x y : RT} (hx : Red x) (hy : 0 < y.2) : Red (rP x y) ∧ qv (rP x y) = qv x + qv y := by
  have hb := Int.mul_pos hx.1 hy
  refine ⟨low2_red (Int.ne_of_gt hb), ?_⟩
  unfold rP
  rw [qv_low2 hb, Rat.intCast_add, Rat.intCast_mul, Rat.intCast_mul, Rat.intCast_mul]
  have h1 := cast_ne (Int.ne_of_gt hx.1)
  have h2 := cast_ne (Int.ne_of_gt hy)
  unfold qv
  grind
section
variable {P : Program} {w : World} {K : PySem.W.Frag} {mg : Str → Option Value} {base : Heap}
def spLsum (K : PySem.W.Frag) (At : PySem.W.Frag → Hp → Addr → List RT → Prop) : Sp := fun vs H Q _ => ∃ (p : Addr) (xs : List RT) (n d : Nat) (D : Int), vs = [.ref p] ∧ At K H p xs ∧ Over1 n d D xs ∧ n ≤ 3500 ∧ d ≤ 3500 ∧
  ∀ z x H', Same H H' → RAt K H' z x → Red x → qv x = (xs.map qv).sum → x.2 ∣ D → Sm (n + d + 11) x.1 → Q (.ref z) H'
theorem ok_lsumL {f fL : Addr} {fd fdL : FuncData} (F : Fun K "_law_sum" "_law_sum" s_lsum f fd)
    (FL : Fun K "_law_low" "_law_low" s_low fL fdL) (bL : Binds K fdL ["_law_top", "_law_bottom"] []) (gL : mg "_law_low" = some (.ref fL)) (GL : FnOk P w K mg base CX0 1 fL fdL ["_law_top", "_law_bottom"] spLow) : FnOk P w K mg base CX0 2 f fd ["_law_some"] (spLsum K LstAt) := by
  refine F.ok sc_lsum (fun vs H Q E h => ?_) (fun cdv A outer s H vs Q E hr h => ?_)
  · obtain ⟨_, _, _, _, _, rfl, _⟩ := h
    rfl
  · obtain ⟨p, xs, n, d, D, rfl, hlst, O, hn, hd, q⟩ := h
    obtain ⟨rs, r1, r2⟩ := id hlst
    have hl := r2.length
    have hr1 := hr
    have d0 : 0 < d := by
      have h1 := O.sm
      have h2 := O.pos
      rcases Nat.eq_zero_or_pos d with z | z
      · rw [z] at h1
        unfold Sm at h1
        omega
      · exact z
    refine ⟨_, (pss_cons (ps_set (i := 1) sc_lsum.nd rfl (.inl rfl) (pe_tup (pa_cons pe_int (pa_cons pe_int pa_nil)))) (pss_cons (ps_for PassesOwn.never rfl (pi_list (pv 0)) (pg_name (i := 2) sc_lsum.nd rfl (.inl rfl)) (pss_one (ps_set (i := 1) sc_lsum.nd rfl (.inl rfl) (pe_call GL hr1 (by rfl) gL FL.kp bL .nil pass0 (pa_cons (pe_op op_add (pe_op op_mulA (pe_ix ix_tup (pv 1) pe_int (fun _ _ => rfl)) (pe_ix ix_tup (pv 2) pe_int (fun _ _ => rfl))) (pe_op op_mulA (pe_ix ix_tup (pv 2) pe_int (fun _ _ => rfl)) (pe_ix ix_tup (pv 1) pe_int (fun _ _ => rfl)))) (pa_cons (pe_op op_mulA (pe_ix ix_tup (pv 1) pe_int (fun _ _ => rfl)) (pe_ix ix_tup (pv 2) pe_int (fun _ _ => rfl))) pa_nil)))))) (pss_one (ps_ret (pv 1))))), ?_⟩
    refine ⟨by show 2 ≤ sizeLine; decide, fun a na => ?_⟩
    have e := same_new (o := HO.tup [.int 0, .int 1]) na
    refine ⟨_, rfl, p, rfl, ⟨_, e.seq r1⟩, for_list (K := K) (a := p) (xs := rs.map V.ref) (fun i σ H1 => ∃ (b : Addr) (y : RT) (y2 : Option V), σ = [some (.ref p), some (.ref b), y2] ∧ Same H H1 ∧ RAt K H1 b y ∧ Red y ∧ qv y = ((xs.take i).map qv).sum) ?_ ?_ ?_ ?_⟩
    · exact ⟨a, (0, 1), _, rfl, e, SqT.of upd_same, ⟨by decide, by decide⟩, by unfold qv; show ((0 : Int) : Rat) / ((1 : Int) : Rat) = 0; grind⟩
    · rintro i σ H1 _ ⟨_, _, _, _, s1, _⟩
      exact s1.seq r1
    · rintro i v σ H1 hi ⟨b, y, y2, rfl, s1, hb, ry, vy⟩
      have hi2 : i < xs.length := by
        have := (List.getElem?_eq_some_iff.mp hi).1
        rw [List.length_map, hl] at this
        exact this
      have hg : xs[i]? = some xs[i] := List.getElem?_eq_getElem hi2
      obtain ⟨r, er, hr2⟩ := r2.get hg
      have ev : v = .ref r := by
        rw [List.getElem?_map, er] at hi
        exact (Option.some.inj hi).symm
      subst ev
      obtain ⟨b0, bD, sn⟩ := O.ok xs[i] (List.getElem_mem hi2)
      obtain ⟨dy, sy⟩ := sum_red (O.take i) ry vy
      have sy2 : Sm d y.2 := dvd_small dy O.pos O.sm
      have sx2 : Sm d xs[i].2 := dvd_small bD O.pos O.sm
      have hr3 := hr2.tk (Tk.same (K := K) s1)
      refine ⟨_, rfl, b, _, 0, _, rfl, rfl, hb, atI_nat (j := 0) rfl, _, rfl, r, _, 1, _, rfl, rfl, hr3, atI_nat (j := 1) rfl, _, _, rfl, rfl, sy.cmul sx2 (by omega) d0 (by omega),
        _, rfl, r, _, 0, _, rfl, rfl, hr3, atI_nat (j := 0) rfl, _, rfl, b, _, 1, _, rfl, rfl, hb, atI_nat (j := 1) rfl, _, _, rfl, rfl, (sn.mono (show n ≤ n + 1 by omega)).cmul sy2 (by omega) d0 (by omega), _, _, rfl, rfl,
        _, rfl, b, _, 1, _, rfl, rfl, hb, atI_nat (j := 1) rfl, _, rfl, r, _, 1, _, rfl, rfl, hr3, atI_nat (j := 1) rfl, _, _, rfl, rfl, sy2.cmul sx2 d0 d0 (by omega), ?_⟩
      refine ⟨_, _, rfl, Int.mul_pos ry.1 b0, (sy2.mul sx2).mono (by omega), fun z nz => ?_⟩
      have e2 := same_new (o := HO.tup [.int (rP y xs[i]).1, .int (rP y xs[i]).2]) nz
      obtain ⟨w1, w2⟩ := qv_rP ry b0
      refine ⟨z, rP y xs[i], _, rfl, s1.trans e2, SqT.of upd_same, w1, ?_⟩
      rw [w2, vy, List.take_add_one, hg]
      show _ = ((xs.take i ++ [xs[i]]).map qv).sum
      rw [List.map_append, List.map_singleton, sum_snoc]
    · rintro σ H1 ⟨b, y, y2, rfl, s1, hb, ry, vy⟩
      rw [List.length_map, hl, List.take_length] at vy
      obtain ⟨dy, sy⟩ := sum_red O ry vy
      exact ⟨_, rfl, q b y _ s1 hb ry vy dy sy⟩
theorem ok_lsumT {f fL : Addr} {fd fdL : FuncData} (F : Fun K "_law_sum" "_law_sum" s_lsum f fd)
    (FL : Fun K "_law_low" "_law_low" s_low fL fdL) (bL : Binds K fdL ["_law_top", "_law_bottom"] []) (gL : mg "_law_low" = some (.ref fL)) (GL : FnOk P w K mg base CX0 1 fL fdL ["_law_top", "_law_bottom"] spLow) : FnOk P w K mg base CX0 2 f fd ["_law_some"] (spLsum K RowAt) := by
  refine F.ok sc_lsum (fun vs H Q E h => ?_) (fun cdv A outer s H vs Q E hr h => ?_)
  · obtain ⟨_, _, _, _, _, rfl, _⟩ := h
    rfl
  · obtain ⟨p, xs, n, d, D, rfl, hlst, O, hn, hd, q⟩ := h
    obtain ⟨rs, r1, r2⟩ := id hlst
    have hl := r2.length
    have hr1 := hr
    have d0 : 0 < d := by
      have h1 := O.sm
      have h2 := O.pos
      rcases Nat.eq_zero_or_pos d with z | z
      · rw [z] at h1
        unfold Sm at h1
        omega
      · exact z
    refine ⟨_, (pss_cons (ps_set (i := 1) sc_lsum.nd rfl (.inl rfl) (pe_tup (pa_cons pe_int (pa_cons pe_int pa_nil)))) (pss_cons (ps_for PassesOwn.never rfl (pi_tup (pv 0)) (pg_name (i := 2) sc_lsum.nd rfl (.inl rfl)) (pss_one (ps_set (i := 1) sc_lsum.nd rfl (.inl rfl) (pe_call GL hr1 (by rfl) gL FL.kp bL .nil pass0 (pa_cons (pe_op op_add (pe_op op_mulA (pe_ix ix_tup (pv 1) pe_int (fun _ _ => rfl)) (pe_ix ix_tup (pv 2) pe_int (fun _ _ => rfl))) (pe_op op_mulA (pe_ix ix_tup (pv 2) pe_int (fun _ _ => rfl)) (pe_ix ix_tup (pv 1) pe_int (fun _ _ => rfl)))) (pa_cons (pe_op op_mulA (pe_ix ix_tup (pv 1) pe_int (fun _ _ => rfl)) (pe_ix ix_tup (pv 2) pe_int (fun _ _ => rfl))) pa_nil)))))) (pss_one (ps_ret (pv 1))))), ?_⟩
    refine ⟨by show 2 ≤ sizeLine; decide, fun a na => ?_⟩
    have e := same_new (o := HO.tup [.int 0, .int 1]) na
    refine ⟨_, rfl, p, rfl, ⟨_, sqT_same e r1⟩, for_tup (K := K) (a := p) (xs := rs.map V.ref) (fun i σ H1 => ∃ (b : Addr) (y : RT) (y2 : Option V), σ = [some (.ref p), some (.ref b), y2] ∧ Same H H1 ∧ RAt K H1 b y ∧ Red y ∧ qv y = ((xs.take i).map qv).sum) ?_ ?_ ?_ ?_⟩
    · exact ⟨a, (0, 1), _, rfl, e, SqT.of upd_same, ⟨by decide, by decide⟩, by unfold qv; show ((0 : Int) : Rat) / ((1 : Int) : Rat) = 0; grind⟩
    · rintro i σ H1 _ ⟨_, _, _, _, s1, _⟩
      exact sqT_same s1 r1
    · rintro i v σ H1 hi ⟨b, y, y2, rfl, s1, hb, ry, vy⟩
      have hi2 : i < xs.length := by
        have := (List.getElem?_eq_some_iff.mp hi).1
        rw [List.length_map, hl] at this
        exact this
      have hg : xs[i]? = some xs[i] := List.getElem?_eq_getElem hi2
      obtain ⟨r, er, hr2⟩ := r2.get hg
      have ev : v = .ref r := by
        rw [List.getElem?_map, er] at hi
        exact (Option.some.inj hi).symm
      subst ev
      obtain ⟨b0, bD, sn⟩ := O.ok xs[i] (List.getElem_mem hi2)
      obtain ⟨dy, sy⟩ := sum_red (O.take i) ry vy
      have sy2 : Sm d y.2 := dvd_small dy O.pos O.sm
      have sx2 : Sm d xs[i].2 := dvd_small bD O.pos O.sm
      have hr3 := hr2.tk (Tk.same (K := K) s1)
      refine ⟨_, rfl, b, _, 0, _, rfl, rfl, hb, atI_nat (j := 0) rfl, _, rfl, r, _, 1, _, rfl, rfl, hr3, atI_nat (j := 1) rfl, _, _, rfl, rfl, sy.cmul sx2 (by omega) d0 (by omega),
        _, rfl, r, _, 0, _, rfl, rfl, hr3, atI_nat (j := 0) rfl, _, rfl, b, _, 1, _, rfl, rfl, hb, atI_nat (j := 1) rfl, _, _, rfl, rfl, (sn.mono (show n ≤ n + 1 by omega)).cmul sy2 (by omega) d0 (by omega), _, _, rfl, rfl,
        _, rfl, b, _, 1, _, rfl, rfl, hb, atI_nat (j := 1) rfl, _, rfl, r, _, 1, _, rfl, rfl, hr3, atI_nat (j := 1) rfl, _, _, rfl, rfl, sy2.cmul sx2 d0 d0 (by omega), ?_⟩
      refine ⟨_, _, rfl, Int.mul_pos ry.1 b0, (sy2.mul sx2).mono (by omega), fun z nz => ?_⟩
      have e2 := same_new (o := HO.tup [.int (rP y xs[i]).1, .int (rP y xs[i]).2]) nz
      obtain ⟨w1, w2⟩ := qv_rP ry b0
      refine ⟨z, rP y xs[i], _, rfl, s1.trans e2, SqT.of upd_same, w1, ?_⟩
      rw [w2, vy, List.take_add_one, hg]
      show _ = ((xs.take i ++ [xs[i]]).map qv).sum
      rw [List.map_append, List.map_singleton, sum_snoc]
    · rintro σ H1 ⟨b, y, y2, rfl, s1, hb, ry, vy⟩
      rw [List.length_map, hl, List.take_length] at vy
      obtain ⟨dy, sy⟩ := sum_red O ry vy
      exact ⟨_, rfl, q b y _ s1 hb ry vy dy sy⟩
abbrev s_lpower : Stmt := topS 51
theorem sc_lpower : FnScope ["_law_one", "_law_far", "_law_found", "_law_turn"] ["_law_one", "_law_far"] (defScope s_lpower) := ⟨rfl, rfl, rfl, by decide +kernel, rfl, by decide +kernel, by decide +kernel⟩
def spLpower (K : PySem.W.Frag) : Sp := fun vs H Q _ => ∃ (p : Addr) (x : RT) (far : Nat), vs = [.ref p, .int (far : Int)] ∧ RAt K H p x ∧ SmR 5 x ∧ far ≤ 80 ∧
  ∀ z y H', Same H H' → RAt K H' z y → SmR (1 + 5 * far) y → qv y = qv x ^ far → Q (.ref z) H'
theorem ok_lpower {f fT : Addr} {fd fdT : FuncData} (F : Fun K "_law_power" "_law_power" s_lpower f fd)
    (FT : Fun K "_law_times" "_law_times" s_ltimes fT fdT) (bT : Binds K fdT ["_law_one", "_law_other"] []) (gT : mg "_law_times" = some (.ref fT)) (GT : FnOk P w K mg base CX0 2 fT fdT ["_law_one", "_law_other"] (spTwo K (fun a b c d => a * c)))
    (mr : mg "range" = none) : FnOk P w K mg base CX0 3 f fd ["_law_one", "_law_far"] (spLpower K) := by
  refine F.ok sc_lpower (fun vs H Q E h => ?_) (fun cdv A outer s H vs Q E hr h => ?_)
  · obtain ⟨_, _, _, rfl, _⟩ := h
    rfl
  · obtain ⟨p, x, far, rfl, hp, sx, hf, q⟩ := h
    refine ⟨_, (pss_cons (ps_set (i := 2) sc_lpower.nd rfl (.inl rfl) (pe_tup (pa_cons pe_int (pa_cons pe_int pa_nil)))) (pss_cons (ps_for PassesOwn.never rfl (pi_range1 (by rfl) mr (pa_cons (pv 1) pa_nil)) (pg_name (i := 3) sc_lpower.nd rfl (.inl rfl)) (pss_one (ps_set (i := 2) sc_lpower.nd rfl (.inl rfl) (pe_call GT hr (by rfl) gT FT.kp bT .nil pass0 (pa_cons (pv 2) (pa_cons (pv 0) pa_nil)))))) (pss_one (ps_ret (pv 2))))), ?_⟩
    refine ⟨by show 2 ≤ sizeLine; decide, fun a na => ?_⟩
    have e := same_new (o := HO.tup [.int 1, .int 1]) na
    refine ⟨_, rfl, far, rfl, by omega, by omega, for_range (lo := 0) (n := ((far : Nat) : Int).toNat) (fun i σ H1 => ∃ (b : Addr) (y : RT) (y3 : Option V), σ = [some (.ref p), some (.int (far : Int)), some (.ref b), y3] ∧ Same H H1 ∧ RAt K H1 b y ∧ SmR (1 + 5 * i) y ∧ qv y = qv x ^ i) ?_ ?_ ?_⟩
    · exact ⟨a, (1, 1), _, rfl, e, SqT.of upd_same, ⟨⟨by decide, by decide⟩, by unfold Sm; decide, by unfold Sm; decide⟩, by rw [Rat.pow_zero]; unfold qv; show ((1 : Int) : Rat) / ((1 : Int) : Rat) = 1; grind⟩
    · rintro i σ H1 hi ⟨b, y, y3, rfl, s1, hb, sy, vy⟩
      refine ⟨_, rfl, _, rfl, b, p, _, _, _, _, rfl, ⟨hb, hp.tk (Tk.same s1), sy.2.1.mono (by omega), sy.2.2.mono (by omega), sx.2.1.mono (by decide), sx.2.2.mono (by decide), sy.1.1, sx.1.1⟩, fun b2 nb => ?_⟩
      have e2 := same_new (o := HO.tup [.int (rT y x).1, .int (rT y x).2]) nb
      obtain ⟨v1, v2⟩ := qv_rT sy.1 sx.1
      refine ⟨b2, rT y x, _, rfl, s1.trans e2, SqT.of upd_same, (rT_sm sy sx).mono (by omega), ?_⟩
      rw [v2, vy, Rat.pow_succ]
    · rintro σ H1 ⟨b, y, y3, rfl, s1, hb, sy, vy⟩
      have ef : ((far : Nat) : Int).toNat = far := by omega
      rw [ef] at sy vy
      exact ⟨_, rfl, q b y _ s1 hb sy vy⟩
theorem pow_val {l step : RT} (hl : 0 < l.2) (hs : 0 < step.2) (j : Nat) : qv l * qv step ^ j = ((l.1 * step.1 ^ j : Int) : Rat) / ((l.2 * step.2 ^ j : Int) : Rat) := by
  induction j with
  | zero =>
    rw [Rat.pow_zero, Int.pow_zero, Int.pow_zero, Int.mul_one, Int.mul_one]
    unfold qv
    grind
  | succ j ih =>
    have h1 := cast_ne (Int.ne_of_gt hs)
    have h2 := cast_ne (Int.ne_of_gt (Int.mul_pos hl (show (0 : Int) < step.2 ^ j from Int.pow_pos hs)))
    rw [Rat.pow_succ, ← Rat.mul_assoc, ih, Int.pow_succ, Int.pow_succ, ← Int.mul_assoc, ← Int.mul_assoc, Rat.intCast_mul (l.1 * step.1 ^ j), Rat.intCast_mul (l.2 * step.2 ^ j)]
    unfold qv
    grind
abbrev s_lchance : Stmt := topS 47
theorem sc_lchance : FnScope ["_law_life_here", "_law_k", "_law_row", "_law_step", "_law_far", "_law_top", "_law_bottom", "_law_turn"] ["_law_life_here", "_law_k"] (defScope s_lchance) := ⟨rfl, rfl, rfl, by decide +kernel, rfl, by decide +kernel, by decide +kernel⟩
theorem zero_pow {j : Nat} (h : 0 < j) : (0 : Rat) ^ j = 0 := by
  obtain ⟨i, rfl⟩ : ∃ i, j = i + 1 := ⟨j - 1, by omega⟩
  rw [Rat.pow_succ]
  grind
def spLchance (K : PySem.W.Frag) : Sp := fun vs H Q _ => ∃ (p : Addr) (row : List RT) (step : RT) (n k : Nat), vs = [.ref p, .int (k : Int)] ∧ LifeAt K H p row step ∧ LifeOk n row step ∧ (row = [] → step = (0, 1)) ∧ 1 ≤ k ∧ k ≤ 70 ∧
  ∀ z x H', Same H H' → RAt K H' z x → SmR 500 x → qv x = chR row step (k - 1) → Q (.ref z) H'
theorem ok_lchance {f fL : Addr} {fd fdL : FuncData} (F : Fun K "_law_chance" "_law_chance" s_lchance f fd)
    (FL : Fun K "_law_low" "_law_low" s_low fL fdL) (bL : Binds K fdL ["_law_top", "_law_bottom"] []) (gL : mg "_law_low" = some (.ref fL)) (GL : FnOk P w K mg base CX0 1 fL fdL ["_law_top", "_law_bottom"] spLow)
    (ml : mg "len" = none) (mr : mg "range" = none) : FnOk P w K mg base CX0 2 f fd ["_law_life_here", "_law_k"] (spLchance K) := by
  refine F.ok sc_lchance (fun vs H Q E h => ?_) (fun cdv A outer s H vs Q E hr h => ?_)
  · obtain ⟨_, _, _, _, _, rfl, _⟩ := h
    rfl
  · obtain ⟨p, row, step, n, k, rfl, hlife, L, hnil, hk1, hk, q⟩ := h
    obtain ⟨pr, ps, l1, l2, l3⟩ := id hlife
    obtain ⟨rs, r1, r2⟩ := id l2
    have hl := r2.length
    have hr1 := hr
    have hn := L.n64
    have hn1 := L.n1
    refine ⟨_, (pss_cons (ps_asg (pv 0) (pg_tup rfl (pgs_cons (pg_name (i := 2) sc_lchance.nd rfl (.inl rfl)) (pgs_cons (pg_name (i := 3) sc_lchance.nd rfl (.inl rfl)) pgs_nil)))) (pss_cons (ps_if (pt_cmpR op_le (pv 1) (pe_callB call_len_seq (by rfl) ml PySem.boot_len (pa_cons (pv 2) pa_nil)) (nomark _)) (pss_one (ps_ret (pe_ix ix_tup (pv 2) (pe_op op_sub (pv 1) pe_int) (fun _ _ => rfl)))) pss_nil) (pss_cons (ps_if (pt_cmpR (op_eqD hr.units) (pv 3) (pe_tup (pa_cons pe_int (pa_cons pe_int pa_nil))) (nomark _)) (pss_one (ps_ret (pe_tup (pa_cons pe_int (pa_cons pe_int pa_nil))))) pss_nil) (pss_cons (ps_set (i := 4) sc_lchance.nd rfl (.inl rfl) (pe_op op_sub (pv 1) (pe_callB call_len_seq (by rfl) ml PySem.boot_len (pa_cons (pv 2) pa_nil)))) (pss_cons (ps_asg (pe_ix ix_tup (pv 2) (pe_un un_neg pe_int) (fun _ _ => rfl)) (pg_tup rfl (pgs_cons (pg_name (i := 5) sc_lchance.nd rfl (.inl rfl)) (pgs_cons (pg_name (i := 6) sc_lchance.nd rfl (.inl rfl)) pgs_nil)))) (pss_cons (ps_for PassesOwn.never rfl (pi_range1 (by rfl) mr (pa_cons (pv 4) pa_nil)) (pg_name (i := 7) sc_lchance.nd rfl (.inl rfl)) (pss_one (ps_par (i := 5) (j := 6) rfl sc_lchance.nd rfl rfl (by decide) rfl rfl (pa_cons (pe_op op_mulA (pv 5) (pe_ix ix_tup (pv 3) pe_int (fun _ _ => rfl))) (pa_cons (pe_op op_mulA (pv 6) (pe_ix ix_tup (pv 3) pe_int (fun _ _ => rfl))) pa_nil)) (by rfl)))) (pss_one (ps_ret (pe_call GL hr1 (by rfl) gL FL.kp bL .nil pass0 (pa_cons (pv 5) (pa_cons (pv 6) pa_nil))))))))))), ?_⟩
    refine ⟨_, rfl, p, _, rfl, l1, rfl, _, _, rfl, _, _, rfl, rfl, ?_⟩
    refine ⟨_, rfl, _, rfl, pr, _, rfl, .inr r1, _, _, rfl, rfl, _, rfl, ite2 (fun c => ?_) (fun c => ?_)⟩
    · have hkl : k ≤ row.length := by
        have : (k : Int) ≤ (((rs.map V.ref).length : Nat) : Int) := of_decide_eq_true c
        rw [List.length_map, hl] at this
        omega
      have hg : row[k - 1]? = some row[k - 1] := List.getElem?_eq_getElem (by omega)
      refine ⟨_, rfl, _, rfl, _, 1, rfl, rfl, ?_⟩
      exact ix_row (j := k - 1) l2 (by omega) hg fun r hr2 => q r _ _ (Same.refl _) hr2 ((L.sm _ (List.getElem_mem _)).mono (by omega)) (chR_in hg).symm
    · have hkl : row.length < k := by
        have : ¬ (k : Int) ≤ (((rs.map V.ref).length : Nat) : Int) := fun z => c (decide_eq_true z)
        rw [List.length_map, hl] at this
        omega
      refine ⟨_, rfl, by show 2 ≤ sizeLine; decide, fun a na => ?_⟩
      have e1 := same_new (o := HO.tup [.int 0, .int 1]) na
      refine eq_rat (y := (0, 1)) (l3.tk (Tk.same e1)) (SqT.of upd_same) ?_
      refine ⟨_, rfl, ite2 (fun c2 => ?_) (fun c2 => ?_)⟩
      · have hs : step = (0, 1) := of_decide_eq_true c2
        refine ⟨by show 2 ≤ sizeLine; decide, fun b nb => ?_⟩
        have e2 := same_new (o := HO.tup [.int 0, .int 1]) nb
        refine q b (0, 1) _ (e1.trans e2) (SqT.of upd_same) (SmR.mono (n := 1) ⟨⟨by decide, by decide⟩, by unfold Sm; decide, by unfold Sm; decide⟩ (by decide)) ?_
        rw [qv_nought, hs]
        rcases Classical.em (row = []) with z | z
        · rw [z, chR_nil]
        · obtain ⟨l, g1, _, _⟩ := last_is z
          rw [chR_out (by omega) g1, qv_nought, zero_pow (by omega)]
          grind
      · have hs : step ≠ (0, 1) := fun z => c2 (decide_eq_true z)
        have hne : row ≠ [] := fun z => hs (hnil z)
        obtain ⟨l, g1, g2, g3⟩ := last_is hne
        have hpos := List.length_pos_iff.mpr hne
        have sl := L.sm l g3
        have st := L.st.1
        have l2' := l2.tk (Tk.same (K := K) e1)
        have l3' := l3.tk (Tk.same (K := K) e1)
        refine ⟨_, rfl, _, rfl, pr, _, rfl, .inr (Tk.same e1 _ _ r1), _, _, rfl, rfl, ?_⟩
        refine ⟨_, rfl, 1, rfl, ?_⟩
        refine ix_back (k := 1) l2' (by decide) (by omega) g2 fun r hr2 => ?_
        refine ⟨r, _, rfl, hr2, rfl, _, _, rfl, _, _, rfl, rfl, ?_⟩
        have efar : (k : Int) - (((rs.map V.ref).length : Nat) : Int) = ((k - row.length : Nat) : Int) := by
          rw [List.length_map, hl]
          omega
        refine ⟨_, rfl, (k : Int) - (((rs.map V.ref).length : Nat) : Int), rfl, by rw [efar]; omega, by rw [efar]; omega, for_range (lo := 0) (n := ((k : Int) - (((rs.map V.ref).length : Nat) : Int)).toNat) (fun i σ H1 => H1 = upd H a (HO.tup [.int 0, .int 1]) ∧ ∃ y7 : Option V, σ = [some (.ref p), some (.int (k : Int)), some (.ref pr), some (.ref ps), some (.int ((k : Int) - (((rs.map V.ref).length : Nat) : Int))), some (.int (l.1 * step.1 ^ i)), some (.int (l.2 * step.2 ^ i)), y7]) ?_ ?_ ?_⟩
        · refine ⟨rfl, none, ?_⟩
          rw [Int.pow_zero, Int.pow_zero, Int.mul_one, Int.mul_one]
          rfl
        · rintro i σ H1 hi ⟨rfl, y7, rfl⟩
          rw [efar] at hi
          have p1 := sm_pow st.2.1 (by decide) i
          have p2 := sm_pow st.2.2 (by decide) i
          refine ⟨_, rfl, _, rfl, ps, _, 0, _, rfl, rfl, l3', atI_nat (j := 0) rfl, _, _, rfl, rfl, (sl.2.1.mul p1).cmul st.2.1 (by omega) (by decide) (by omega), ?_⟩
          refine ⟨_, rfl, _, rfl, ps, _, 1, _, rfl, rfl, l3', atI_nat (j := 1) rfl, _, _, rfl, rfl, (sl.2.2.mul p2).cmul st.2.2 (by omega) (by decide) (by omega), _, _, rfl, rfl, some (.int (0 + (i : Int))), ?_⟩
          rw [Int.pow_succ, Int.pow_succ, ← Int.mul_assoc, ← Int.mul_assoc]
          rfl
        · rintro σ H1 ⟨rfl, y7, rfl⟩
          have ef : ((k : Int) - (((rs.map V.ref).length : Nat) : Int)).toNat = k - row.length := by
            rw [efar]
            omega
          rw [ef]
          have p1 := sm_pow st.2.1 (by decide) (k - row.length)
          have p2 := sm_pow st.2.2 (by decide) (k - row.length)
          have b0 : 0 < l.2 * step.2 ^ (k - row.length) := Int.mul_pos sl.1.1 (Int.pow_pos st.1.1)
          refine ⟨_, rfl, _, rfl, _, _, rfl, b0, (sl.2.2.mul p2).mono (by omega), fun b nb => ?_⟩
          have e2 := same_new (o := HO.tup [.int (ratT (l.1 * step.1 ^ (k - row.length)) (l.2 * step.2 ^ (k - row.length))), .int (ratB (l.1 * step.1 ^ (k - row.length)) (l.2 * step.2 ^ (k - row.length)))]) nb
          refine q b (low2 (l.1 * step.1 ^ (k - row.length)) (l.2 * step.2 ^ (k - row.length))) _ (e1.trans e2) (SqT.of upd_same) (low2_sm b0 ((sl.2.1.mul p1).mono (by omega)) ((sl.2.2.mul p2).mono (by omega))) ?_
          rw [qv_low2 b0, ← pow_val sl.1.1 st.1.1, chR_out (by omega) g1, show k - 1 + 1 - row.length = k - row.length by omega]
end
/-- all chances from a place on -/
def restR (row : List RT) (step : RT) (k : Nat) : Rat := rowQ (row.drop k) + match row.getLast? with
  | none => 0
  | some l => qv l * qv step ^ (1 + (k - row.length)) / (1 - qv step)
theorem restR_zero {row : List RT} {step : RT} : restR row step 0 = rowQ row + behQ row step := by
  unfold restR behQ
  rw [List.drop_zero]
  match row.getLast? with
  | none => rfl
  | some l =>
    show _ + qv l * qv step ^ (1 + (0 - row.length)) / (1 - qv step) = _
    rw [Nat.zero_sub, Nat.add_zero]
    have : qv step ^ 1 = qv step := by
      rw [show (1 : Nat) = 0 + 1 from rfl, Rat.pow_succ, Rat.pow_zero]
      grind
    rw [this]
theorem restR_next {row : List RT} {step : RT} (hs : (1 : Rat) - qv step ≠ 0) (k : Nat) : restR row step k = chR row step k + restR row step (k + 1) := by
  rcases Classical.em (row = []) with z | z
  · subst z
    rw [chR_nil]
    unfold restR
    show (([].drop k : List RT).map qv).sum + 0 = 0 + ((([].drop (k + 1) : List RT).map qv).sum + 0)
    rw [List.drop_nil, List.drop_nil]
    grind
  · obtain ⟨l, g1, g2, g3⟩ := last_is z
    rcases (by omega : k < row.length ∨ row.length ≤ k) with hk | hk
    · have hg : row[k]? = some row[k] := List.getElem?_eq_getElem hk
      have ed : row.drop k = row[k] :: row.drop (k + 1) := List.drop_eq_getElem_cons hk
      rw [chR_in hg]
      unfold restR
      rw [g1, ed, show k - row.length = 0 by omega, show k + 1 - row.length = 0 by omega]
      show (qv row[k] + ((row.drop (k + 1)).map qv).sum) + _ = qv row[k] + (rowQ (row.drop (k + 1)) + _)
      unfold rowQ
      grind
    · rw [chR_out hk g1]
      unfold restR
      rw [g1, List.drop_eq_nil_of_le hk, List.drop_eq_nil_of_le (by omega)]
      show rowQ [] + qv l * qv step ^ (1 + (k - row.length)) / (1 - qv step) = qv l * qv step ^ (k + 1 - row.length) + (rowQ [] + qv l * qv step ^ (1 + (k + 1 - row.length)) / (1 - qv step))
      rw [show 1 + (k - row.length) = k + 1 - row.length by omega, show 1 + (k + 1 - row.length) = (k + 1 - row.length) + 1 by omega, Rat.pow_succ]
      grind
theorem restR_sum {row : List RT} {step : RT} (hs : (1 : Rat) - qv step ≠ 0) : ∀ k : Nat, restR row step 0 = sumCh row step k + restR row step k
  | 0 => by
    show _ = 0 + _
    grind
  | k + 1 => by
    rw [restR_sum hs k, restR_next hs k]
    show _ = sumCh row step k + chR row step k + _
    grind

end Fp

set_option Elab.async false
set_option linter.all false
set_option maxRecDepth 100000
set_option maxHeartbeats 4000000
set_option exponentiation.threshold 10000
namespace Fp
open PySem PySem.Spec PyProof.Rows L2
abbrev s_lrest : Stmt := topS 52
theorem sc_lrest : FnScope ["_law_life_here", "_law_k", "_law_row", "_law_step", "_law_found", "_law_first"] ["_law_life_here", "_law_k"] (defScope s_lrest) := ⟨rfl, rfl, rfl, by decide +kernel, rfl, by decide +kernel, by decide +kernel⟩
theorem tNoPart_go {σ : L2.St} {H : Hp} {Q : Option Int → Hp → Prop} (h : Q none H) : tNoPart σ H Q := h
theorem cutV_from (vs : List V) (n : Nat) : cutV vs (some (n : Int)) none = vs.drop n := by
  unfold cutV
  rw [HT.sIx_none, HT.sIx_nat]
  rcases Nat.le_total n vs.length with z | z
  · rw [Nat.min_eq_left z]
    rw [List.take_of_length_le (by rw [List.length_drop]; exact Nat.le_refl _)]
  · rw [Nat.min_eq_right z, List.drop_eq_nil_of_le (Nat.le_refl _), List.drop_eq_nil_of_le z, List.take_nil]
/-- row[n:] -/
theorem from_row {K : PySem.W.Frag} {H : Hp} {p : Addr} {xs : List RT} {n : Nat} {Q : VK} (h : RowAt K H p xs) (hq : ∀ r H', Same H H' → RowAt K H' r (xs.drop n) → Q (.ref r) H') : rSlA K (.ref p) (some (n : Int)) none H Q := by
  obtain ⟨rs, h1, h2⟩ := h
  have hl := h2.length
  refine ⟨p, _, rfl, h1, fun z => ?_, fun _ r nr => ?_⟩
  · have z1 := z.1
    rw [HT.sIx_nat, List.length_map] at z1
    refine hq p H (Same.refl H) ?_
    rcases (by omega : n = 0 ∨ xs.length = 0) with e | e
    · rw [e, List.drop_zero]
      exact ⟨rs, h1, h2⟩
    · have e2 := List.length_eq_zero_iff.mp e
      subst e2
      rw [List.drop_nil]
      exact ⟨rs, h1, h2⟩
  · rw [cutV_from]
    have s := same_new (o := HO.tup ((rs.map V.ref).drop n)) nr
    refine hq r _ s ⟨rs.drop n, ?_, (h2.drop n).tk (Tk.same s)⟩
    rw [List.map_drop]
    exact SqT.of upd_same
theorem over_two {x y : RT} {n a b : Nat} (hx : 0 < x.2) (hy : 0 < y.2) (sx : Sm n x.1) (sy : Sm n y.1) (dx : Sm a x.2) (dy : Sm b y.2) : Over1 n (a + b) (x.2 * y.2) [x, y] := by
  refine ⟨Int.mul_pos hx hy, dx.mul dy, fun z hz => ?_, by show 2 ≤ 1000; decide⟩
  rcases List.mem_cons.mp hz with e | e
  · subst e
    exact ⟨hx, Int.dvd_mul_right .., sx⟩
  · rw [List.mem_singleton.mp e]
    exact ⟨hy, Int.dvd_mul_left .., sy⟩
theorem sum_two (x y : RT) : (([x, y] : List RT).map qv).sum = qv x + qv y := by
  show qv x + (qv y + 0) = _
  grind
section
variable {P : Program} {w : World} {K : PySem.W.Frag} {mg : Str → Option Value} {base : Heap}
def spLrest (K : PySem.W.Frag) : Sp := fun vs H Q _ => ∃ (p : Addr) (row : List RT) (step : RT) (n k : Nat), vs = [.ref p, .int (k : Int)] ∧ LifeAt K H p row step ∧ LifeOk n row step ∧ (row = [] → step = (0, 1)) ∧ k ≤ 70 ∧
  ∀ z x H', Same H H' → RAt K H' z x → Red x → qv x = restR row step k → Sm 2350 x.1 → Sm 1350 x.2 → Q (.ref z) H'
theorem ok_lrest {f fS fT fW fL : Addr} {fd fdS fdT fdW fdL : FuncData} (F : Fun K "_law_rest" "_law_rest" s_lrest f fd)
    (FS : Fun K "_law_sum" "_law_sum" s_lsum fS fdS) (bS : Binds K fdS ["_law_some"] []) (gS : mg "_law_sum" = some (.ref fS)) (GST : FnOk P w K mg base CX0 2 fS fdS ["_law_some"] (spLsum K RowAt)) (GSL : FnOk P w K mg base CX0 2 fS fdS ["_law_some"] (spLsum K LstAt))
    (FT : Fun K "_law_times" "_law_times" s_ltimes fT fdT) (bT : Binds K fdT ["_law_one", "_law_other"] []) (gT : mg "_law_times" = some (.ref fT)) (GT : FnOk P w K mg base CX0 2 fT fdT ["_law_one", "_law_other"] (spTwo K (fun a b c d => a * c)))
    (FW : Fun K "_law_power" "_law_power" s_lpower fW fdW) (bW : Binds K fdW ["_law_one", "_law_far"] []) (gW : mg "_law_power" = some (.ref fW)) (GW : FnOk P w K mg base CX0 3 fW fdW ["_law_one", "_law_far"] (spLpower K))
    (FL : Fun K "_law_low" "_law_low" s_low fL fdL) (bL : Binds K fdL ["_law_top", "_law_bottom"] []) (gL : mg "_law_low" = some (.ref fL)) (GL : FnOk P w K mg base CX0 1 fL fdL ["_law_top", "_law_bottom"] spLow)
    (ml : mg "len" = none) (mx : mg "max" = none) : FnOk P w K mg base CX0 4 f fd ["_law_life_here", "_law_k"] (spLrest K) := by
  refine F.ok sc_lrest (fun vs H Q E h => ?_) (fun cdv A outer s H vs Q E hr h => ?_)
  · obtain ⟨_, _, _, _, _, rfl, _⟩ := h
    rfl
  · obtain ⟨p, row, step, n, k, rfl, hlife, L, hnil, hk, q⟩ := h
    obtain ⟨pr, ps, l1, l2, l3⟩ := id hlife
    have hr1 := hr.mono (show 1 ≤ 3 by decide)
    have hr2 := hr.mono (show 2 ≤ 3 by decide)
    have hn := L.n64
    have hn1 := L.n1
    have hlen := L.len
    refine ⟨_, (pss_cons (ps_asg (pv 0) (pg_tup rfl (pgs_cons (pg_name (i := 2) sc_lrest.nd rfl (.inl rfl)) (pgs_cons (pg_name (i := 3) sc_lrest.nd rfl (.inl rfl)) pgs_nil)))) (pss_cons (ps_set (i := 4) sc_lrest.nd rfl (.inl rfl) (pe_call GST hr2 (by rfl) gS FS.kp bS .nil pass0 (pa_cons (pe_slice sl_tupA (pv 2) (po_some (pv 1)) po_none) pa_nil))) (pss_cons (ps_if (PW.pt (pw_or (pt_cmpR (op_eqD hr.units) (pv 2) (pe_tup pa_nil) (nomark _)) (pw_or1 (pt_cmpR (op_eqD hr.units) (pv 3) (pe_tup (pa_cons pe_int (pa_cons pe_int pa_nil))) (nomark _))))) (pss_one (ps_ret (pv 4))) pss_nil) (pss_cons (ps_set (i := 5) sc_lrest.nd rfl (.inl rfl) (pe_call GT hr2 (by rfl) gT FT.kp bT .nil pass0 (pa_cons (pe_ix ix_tup (pv 2) (pe_un un_neg pe_int) (fun _ _ => rfl)) (pa_cons (pe_call GW hr (by rfl) gW FW.kp bW .nil pass0 (pa_cons (pv 3) (pa_cons (pe_op op_add pe_int (pe_callB (call_max2 rfl) (by rfl) mx (by decide +kernel) (pa_cons pe_int (pa_cons (pe_op op_sub (pv 1) (pe_callB call_len_seq (by rfl) ml PySem.boot_len (pa_cons (pv 2) pa_nil))) pa_nil)))) pa_nil))) pa_nil)))) (pss_one (ps_ret (pe_call GSL hr2 (by rfl) gS FS.kp bS .nil pass0 (pa_cons (pe_lst (pa_cons (pv 4) (pa_cons (pe_call GL hr1 (by rfl) gL FL.kp bL .nil pass0 (pa_cons (pe_op op_mulA (pe_ix ix_tup (pv 5) pe_int (fun _ _ => rfl)) (pe_ix ix_tup (pv 3) pe_int (fun _ _ => rfl))) (pa_cons (pe_op op_mulA (pe_ix ix_tup (pv 5) pe_int (fun _ _ => rfl)) (pe_op op_sub (pe_ix ix_tup (pv 3) pe_int (fun _ _ => rfl)) (pe_ix ix_tup (pv 3) pe_int (fun _ _ => rfl)))) pa_nil))) pa_nil))) pa_nil)))))))), ?_⟩
    refine ⟨_, rfl, p, _, rfl, l1, rfl, _, _, rfl, _, _, rfl, rfl, ?_⟩
    refine ⟨_, rfl, _, rfl, k, rfl, ?_⟩
    refine tNoPart_go (from_row l2 fun a H1 s1 ha => ?_)
    have O : Over1 n 900 (prodB row) (row.drop k) := by
      refine ⟨prodB_pos fun x hx => (L.sm x hx).1.1, ?_, fun x hx => ?_, by rw [List.length_drop]; omega⟩
      · refine (prodB_sm fun x hx => (L.sm x hx).2.2).mono ?_
        have : n * row.length ≤ 64 * 14 := Nat.mul_le_mul hn hlen
        omega
      · have hx2 := List.mem_of_mem_drop hx
        exact ⟨(L.sm x hx2).1.1, prodB_dvd hx2, (L.sm x hx2).2.1⟩
    refine ⟨a, _, _, _, _, rfl, ha, O, by omega, by decide, fun b x H2 s2 hb rx vx dx sx => ?_⟩
    have sx2 : Sm 900 x.2 := dvd_small dx O.pos O.sm
    have S2 := s1.trans s2
    have l2b := l2.tk (Tk.same (K := K) S2)
    have l3b := l3.tk (Tk.same (K := K) S2)
    -- row == () or step == (0, 1)
    refine ⟨_, rfl, by show 0 ≤ sizeLine; decide, fun a2 na2 => ?_⟩
    have e2 := same_new (o := HO.tup []) na2
    refine ⟨_, _, (l2b.tk (Tk.same e2)).dp, .tup (SqT.of upd_same) .nil, rowD_shaped row, rfl, _, rfl, ?_⟩
    rw [rowD_nil]
    have fin : ∀ H3, Same H2 H3 → restR row step k = rowQ (row.drop k) → tRet (tVar 4) { nx := fun _ H' => Q .non H', rt := Q } [some (.ref p), some (.int (k : Int)), some (.ref pr), some (.ref ps), some (.ref b), none] H3 := fun H3 s3 z =>
      ⟨_, rfl, q b x H3 (S2.trans s3) (hb.tk (Tk.same s3)) rx (vx.trans z.symm) (sx.mono (by omega)) (sx2.mono (by decide))⟩
    rcases Classical.em (row = []) with z0 | z0
    · have eE : row.isEmpty = true := by rw [z0]; rfl
      rw [eE]
      refine iteT (fin _ e2 ?_)
      rw [z0]
      unfold restR
      show rowQ _ + 0 = _
      grind
    · have eE : row.isEmpty = false := by
        cases row with
        | nil => exact absurd rfl z0
        | cons _ _ => rfl
      rw [eE]
      refine iteF ?_
      obtain ⟨l, g1, g2, g3⟩ := last_is z0
      have hpos := List.length_pos_iff.mpr z0
      have er : restR row step k = rowQ (row.drop k) + qv l * qv step ^ (1 + (k - row.length)) / (1 - qv step) := by
        unfold restR
        rw [g1]
      refine ⟨_, rfl, by show 2 ≤ sizeLine; decide, fun a3 na3 => ?_⟩
      have e3 := same_new (o := HO.tup [.int 0, .int 1]) na3
      have l3c := l3b.tk (Tk.same (K := K) (e2.trans e3))
      refine eq_rat (y := (0, 1)) l3c (SqT.of upd_same) ?_
      refine ⟨_, rfl, ite2 (fun c => ?_) (fun c => ?_)⟩
      · have hs : step = (0, 1) := of_decide_eq_true c
        refine fin _ (e2.trans e3) ?_
        rw [er, hs, qv_nought, zero_pow (by omega)]
        grind
      · have S3 := e2.trans e3
        have l2c := l2b.tk (Tk.same (K := K) S3)
        obtain ⟨rs, r1, r2⟩ := id l2c
        have hl := r2.length
        have sl := L.sm l g3
        obtain ⟨st1, st2, st3⟩ := L.st
        refine ⟨_, rfl, 1, rfl, ?_⟩
        refine ix_back (k := 1) l2c (by decide) (by omega) g2 fun r hrl => ?_
        refine ⟨_, rfl, _, rfl, _, rfl, pr, _, rfl, .inr r1, _, _, rfl, rfl, 0, _, rfl, 1, _, rfl, rfl, ?_⟩
        have ef : (1 : Int) + (if (k : Int) - (((rs.map V.ref).length : Nat) : Int) > 0 then (k : Int) - (((rs.map V.ref).length : Nat) : Int) else 0) = ((1 + (k - row.length) : Nat) : Int) := by
          rw [List.length_map, hl]
          split <;> omega
        refine ⟨ps, step, 1 + (k - row.length), by rw [← ef]; rfl, l3c, st1, by omega, fun c1 y1 H4 s4 hy1 sy1 vy1 => ?_⟩
        refine ⟨r, c1, _, _, _, _, rfl, ⟨hrl.tk (Tk.same s4), hy1, sl.2.1.mono (by omega), sl.2.2.mono (by omega), sy1.2.1.mono (by omega), sy1.2.2.mono (by omega), sl.1.1, sy1.1.1⟩, fun c2 nc2 => ?_⟩
        have e5 := same_new (o := HO.tup [.int (rT l y1).1, .int (rT l y1).2]) nc2
        obtain ⟨v1, v2⟩ := qv_rT sl.1 sy1.1
        have sf : SmR 425 (rT l y1) := (rT_sm sl sy1).mono (by omega)
        have l3d := l3c.tk (Tk.same (K := K) (s4.trans e5))
        have hgap : 0 < step.2 - step.1 := by omega
        have sgap : Sm 6 (step.2 - step.1) := st1.2.2.sub st1.2.1
        have hden : 0 < (rT l y1).2 * (step.2 - step.1) := Int.mul_pos sf.1.1 hgap
        refine ⟨_, rfl, _, rfl, c2, _, 0, _, rfl, rfl, SqT.of upd_same, atI_nat (j := 0) rfl, _, rfl, ps, _, 1, _, rfl, rfl, l3d, atI_nat (j := 1) rfl, _, _, rfl, rfl, sf.2.1.cmul st1.2.2 (by decide) (by decide) (by decide),
          _, rfl, c2, _, 1, _, rfl, rfl, SqT.of upd_same, atI_nat (j := 1) rfl, _, rfl, ps, _, 1, _, rfl, rfl, l3d, atI_nat (j := 1) rfl, _, rfl, ps, _, 0, _, rfl, rfl, l3d, atI_nat (j := 0) rfl, _, _, rfl, rfl, _, _, rfl, rfl, sf.2.2.cmul sgap (by decide) (by decide) (by decide), ?_⟩
        refine ⟨_, _, rfl, hden, (sf.2.2.mul sgap).mono (by decide), fun c3 nc3 => ?_⟩
        have sY : SmR 431 (low2 ((rT l y1).1 * step.2) ((rT l y1).2 * (step.2 - step.1))) := low2_sm hden ((sf.2.1.mul st1.2.2).mono (by decide)) (sf.2.2.mul sgap)
        have e6 := same_new (o := HO.tup [.int (low2 ((rT l y1).1 * step.2) ((rT l y1).2 * (step.2 - step.1))).1, .int (low2 ((rT l y1).1 * step.2) ((rT l y1).2 * (step.2 - step.1))).2]) nc3
        have vY : qv (low2 ((rT l y1).1 * step.2) ((rT l y1).2 * (step.2 - step.1))) = qv l * qv step ^ (1 + (k - row.length)) / (1 - qv step) := by
          rw [qv_low2 hden, ← vy1, ← v2, Rat.intCast_mul, Rat.intCast_mul, Rat.intCast_sub]
          have h1 := cast_ne (Int.ne_of_gt sf.1.1)
          have h2 := cast_ne (Int.ne_of_gt st1.1.1)
          have h3 := cast_ne (Int.ne_of_gt hgap)
          rw [Rat.intCast_sub] at h3
          unfold qv
          have h4 : (1 : Rat) - (step.1 : Rat) / (step.2 : Rat) ≠ 0 := gap_val st1.1 st3
          grind
        refine ⟨by show 2 ≤ sizeLine; decide, fun c4 nc4 => ?_⟩
        have e7 := same_new (o := HO.lst [.ref b, .ref c3]) nc4
        have S7 := S3.trans (s4.trans (e5.trans (e6.trans e7)))
        have O2 : Over1 976 (900 + 431) (x.2 * (low2 ((rT l y1).1 * step.2) ((rT l y1).2 * (step.2 - step.1))).2) [x, low2 ((rT l y1).1 * step.2) ((rT l y1).2 * (step.2 - step.1))] :=
          over_two rx.1 sY.1.1 (sx.mono (by omega)) (sY.2.1.mono (by decide)) sx2 sY.2.2
        refine ⟨c4, _, _, _, _, rfl, ⟨[b, c3], SqL.of upd_same, .cons (hb.tk (Tk.same S7)) (.cons (SqT.of (e7 _ _ upd_same)) .nil)⟩, O2, by decide, by decide, fun z y H8 s8 hz ry vy dy sy => ?_⟩
        refine q z y _ (S2.trans (S7.trans s8)) hz ry ?_ (sy.mono (by decide)) ((dvd_small dy O2.pos O2.sm).mono (by decide))
        rw [vy, sum_two, vx, vY, er]
        rfl
end

end Fp

set_option Elab.async false
set_option linter.all false
set_option maxRecDepth 100000
set_option maxHeartbeats 4000000
set_option exponentiation.threshold 10000
namespace Fp
open PySem PySem.Spec PyProof.Rows L2
/-! ### the one ratio in lowest terms of a value -/
def rdq (q : Rat) : RT := (q.num, (q.den : Int))
theorem rdq_red (q : Rat) : Red (rdq q) := ⟨by have := q.den_nz; show (0 : Int) < (q.den : Int); omega, by
  have := q.reduced
  show Nat.gcd q.num.natAbs ((q.den : Int)).natAbs = 1
  rw [Int.natAbs_natCast]
  exact this⟩
theorem qv_rdq (q : Rat) : qv (rdq q) = q := by
  have h := Rat.num_divInt_den q
  rw [Rat.divInt_eq_div] at h
  exact h
theorem red_rdq {x : RT} (h : Red x) : x = rdq (qv x) := qv_inj h (rdq_red _) (qv_rdq _).symm
theorem is_rdq {x : RT} {q : Rat} (h : Red x) (e : qv x = q) : x = rdq q := by
  rw [← e]
  exact red_rdq h
mutual
theorem Dp.same' {K : PySem.W.Frag} {H H' : Hp} (e : Same H H') : ∀ {v : V} {d : PyData}, Dp K H v d → Dp K H' v d
  | _, _, .non => .non
  | _, _, .bl b => .bl b
  | _, _, .int i => .int i
  | _, _, .str x => .str x
  | _, _, .lst h r => .lst (e.seq h) (DpAll.same' e r)
  | _, _, .tup h r => .tup (sqT_same e h) (DpAll.same' e r)
theorem DpAll.same' {K : PySem.W.Frag} {H H' : Hp} (e : Same H H') : ∀ {vs : List V} {ds : List PyData}, DpAll K H vs ds → DpAll K H' vs ds
  | _, _, .nil => .nil
  | _, _, .cons h r => .cons (Dp.same' e h) (DpAll.same' e r)
end

end Fp

set_option Elab.async false
set_option linter.all false
set_option maxRecDepth 100000
set_option maxHeartbeats 4000000
set_option exponentiation.threshold 10000
namespace Fp
open PySem PySem.Spec PyProof.Rows L2
/-! ### lives shown -/
theorem sh_int {i : Int} (h : Sm 1900 i) : (PyData.int i).showable = true ∧ (PyData.int i).leavesShort 2000 = true := by
  have l : i.natAbs.log2 < 1900 := h.log (by decide)
  refine ⟨?_, ?_⟩
  · simp only [PyData.showable, decide_eq_true_eq]
    omega
  · simp only [PyData.leavesShort, decide_eq_true_eq]
    have e := int_text_length_le (k := 1900) (by decide) l
    show (Str.ofString (toString i)).length ≤ 2000
    rw [PySem.ofString_length]
    omega
/-- a thing that may be shown within others -/
structure Sh (c k : Nat) (d : PyData) : Prop where
  sh : d.showable = true
  lv : d.leavesShort 2000 = true
  co : cost d ≤ c
  dp : d.depth ≤ k
theorem Sh.shows {c k : Nat} {d : PyData} (h : Sh c k d) (hc : c ≤ 16000000) (hk : k ≤ 60) : Shows d := ⟨h.sh, h.lv, Nat.le_trans h.co hc, Nat.le_trans h.dp hk⟩
structure Shs (c k : Nat) (ds : List PyData) : Prop where
  sh : PyData.showableAll ds = true
  lv : PyData.leavesShortAll 2000 ds = true
  co : costAll ds ≤ c
  dp : PyData.depthAll ds ≤ k
theorem Shs.nil {k : Nat} : Shs 0 k [] := ⟨rfl, rfl, Nat.le_refl _, Nat.zero_le _⟩
theorem Shs.cons {c1 c2 k : Nat} {d : PyData} {ds : List PyData} (h : Sh c1 k d) (hs : Shs c2 k ds) : Shs (c1 + 2 + c2) k (d :: ds) := by
  refine ⟨?_, ?_, ?_, ?_⟩
  · show (d.showable && PyData.showableAll ds) = true
    rw [h.sh, hs.sh]
    rfl
  · show (d.leavesShort 2000 && PyData.leavesShortAll 2000 ds) = true
    rw [h.lv, hs.lv]
    rfl
  · show cost d + 2 + costAll ds ≤ _
    have := h.co
    have := hs.co
    omega
  · show max d.depth (PyData.depthAll ds) ≤ k
    have := h.dp
    have := hs.dp
    omega
theorem Shs.tup {c k : Nat} {ds : List PyData} (h : Shs c k ds) : Sh (c + 3) (k + 1) (.tuple ds) := ⟨h.sh, h.lv, Nat.add_le_add_right h.co 3, Nat.add_le_add_right h.dp 1⟩
theorem Shs.lst {c k : Nat} {ds : List PyData} (h : Shs c k ds) : Sh (c + 3) (k + 1) (.list ds) := ⟨h.sh, h.lv, Nat.add_le_add_right h.co 3, Nat.add_le_add_right h.dp 1⟩
theorem Sh.int {i : Int} (h : Sm 1900 i) : Sh 2000 0 (.int i) := ⟨(sh_int h).1, (sh_int h).2, Nat.le_refl _, Nat.le_refl _⟩
theorem Sh.bool {b : Bool} : Sh 5 0 (.bool b) := ⟨rfl, rfl, Nat.le_refl _, Nat.le_refl _⟩
theorem Sh.mono {c c2 k k2 : Nat} {d : PyData} (h : Sh c k d) (h1 : c ≤ c2) (h2 : k ≤ k2) : Sh c2 k2 d := ⟨h.sh, h.lv, Nat.le_trans h.co h1, Nat.le_trans h.dp h2⟩
theorem Shs.mono {c c2 k k2 : Nat} {ds : List PyData} (h : Shs c k ds) (h1 : c ≤ c2) (h2 : k ≤ k2) : Shs c2 k2 ds := ⟨h.sh, h.lv, Nat.le_trans h.co h1, Nat.le_trans h.dp h2⟩
def ratD (x : RT) : PyData := .tuple [.int x.1, .int x.2]
theorem Sh.rat {x : RT} {n : Nat} (h : SmR n x) (hn : n ≤ 1900) : Sh 4007 1 (ratD x) := (Shs.cons (Sh.int (h.2.1.mono hn)) (Shs.cons (Sh.int (h.2.2.mono hn)) Shs.nil)).tup
theorem Shs.row {n : Nat} (hn : n ≤ 1900) : ∀ {xs : List RT}, (∀ x ∈ xs, SmR n x) → Shs (4009 * xs.length) 1 (rowD xs)
  | [], _ => Shs.nil
  | x :: r, h => by
    have h1 := Shs.cons (Sh.rat (h x (List.mem_cons_self ..)) hn) (Shs.row hn fun y hy => h y (List.mem_cons_of_mem _ hy))
    refine h1.mono ?_ (Nat.le_refl _)
    rw [List.length_cons]
    omega
def lifeD (row : List RT) (step : RT) : PyData := .tuple [.tuple (rowD row), ratD step]
theorem Sh.life {n : Nat} {row : List RT} {step : RT} (hn : n ≤ 1900) (h : ∀ x ∈ row, SmR n x) (hs : SmR n step) (hl : row.length ≤ 100) : Sh 500000 3 (lifeD row step) := by
  have h1 := (Shs.row hn h).tup
  have h2 := (Shs.cons h1 (Shs.cons ((Sh.rat hs hn).mono (Nat.le_refl _) (by decide : 1 ≤ 2)) Shs.nil)).tup
  exact h2.mono (by omega) (Nat.le_refl _)
theorem LifeAt.dp {K : PySem.W.Frag} {H : Hp} {p : Addr} {row : List RT} {step : RT} (h : LifeAt K H p row step) : Dp K H (.ref p) (lifeD row step) := by
  obtain ⟨pr, ps, h1, h2, h3⟩ := h
  exact .tup h1 (.cons h2.dp (.cons h3.dp .nil))

end Fp

set_option Elab.async false
set_option linter.all false
set_option maxRecDepth 100000
set_option maxHeartbeats 4000000
set_option exponentiation.threshold 10000
namespace Fp
open PySem PySem.Spec PyProof.Rows L2
theorem flat_rep {α : Type} (a : α) : ∀ k : Nat, (List.replicate k [a]).flatten = List.replicate k a
  | 0 => rfl
  | k + 1 => by
    rw [List.replicate_succ, List.flatten_cons, flat_rep a k]
    rfl
theorem RsAt.rep {K : PySem.W.Frag} {H : Hp} {p : Addr} {x : RT} (h : RAt K H p x) : ∀ k : Nat, RsAt K H (List.replicate k p) (List.replicate k x)
  | 0 => .nil
  | k + 1 => .cons h (RsAt.rep h k)
/-- ((0, 1),) * k -/
theorem rep_row {K : PySem.W.Frag} {H : Hp} {p a : Addr} {x : RT} {k : Nat} {Q : VK} (h : SqT K H p [.ref a]) (ha : RAt K H a x) (hk : k ≤ 1000) (q : ∀ r H', Same H H' → RowAt K H' r (List.replicate k x) → Q (.ref r) H') : rRepA K (.ref p) (.int (k : Int)) H Q := by
  refine ⟨p, k, _, rfl, rfl, h, by simp, by omega, by omega, by show 1 ≤ 1000; decide, fun z => ?_, fun _ r nr => ?_⟩
  · have e : k = 1 := by omega
    subst e
    exact q p H (Same.refl H) ⟨[a], h, .cons ha .nil⟩
  · have s := same_new (o := HO.tup (List.replicate (k : Int).toNat [V.ref a]).flatten) nr
    refine q r _ s ⟨List.replicate k a, ?_, (RsAt.rep ha k).tk (Tk.same s)⟩
    have e : (List.replicate k a).map V.ref = (List.replicate (k : Int).toNat [V.ref a]).flatten := by
      rw [flat_rep, List.map_replicate, Int.toNat_natCast]
    rw [e]
    exact SqT.of upd_same

end Fp

set_option Elab.async false
set_option linter.all false
set_option maxRecDepth 100000
set_option maxHeartbeats 4000000
set_option exponentiation.threshold 10000
namespace Fp
open PySem PySem.Spec PyProof.Rows L2
/-! ### chances put anew: the recursion -/
def sumTo (n : Nat) (f : Nat → Rat) : Rat := ((List.range n).map f).sum
def renL (a b : Nat → Rat) : Nat → List Rat
  | 0 => []
  | n + 1 => renL a b n ++ [b n + sumTo n fun j => a j * (renL a b n)[n - 1 - j]?.getD 0]
theorem renL_len (a b : Nat → Rat) : ∀ n, (renL a b n).length = n
  | 0 => rfl
  | n + 1 => by
    show (renL a b n ++ [_]).length = _
    rw [List.length_append, renL_len a b n]
    rfl
theorem renL_at (a b : Nat → Rat) : ∀ {n j : Nat}, j < n → (renL a b n)[j]? = (renL a b (j + 1))[j]?
  | 0, j, h => absurd h (Nat.not_lt_zero _)
  | n + 1, j, h => by
    rcases (by omega : j < n ∨ j = n) with z | z
    · show (renL a b n ++ [_])[j]? = _
      rw [List.getElem?_append_left (by rw [renL_len]; exact z)]
      exact renL_at a b z
    · subst z
      rfl
/-- what is at n: the told one, and by each chance what is so much before -/
def renQ (a b : Nat → Rat) (n : Nat) : Rat := (renL a b (n + 1))[n]?.getD 0
theorem renQ_is (a b : Nat → Rat) (n : Nat) : renQ a b n = b n + sumTo n fun j => a j * renQ a b (n - 1 - j) := by
  unfold renQ
  show (renL a b n ++ [b n + sumTo n fun j => a j * (renL a b n)[n - 1 - j]?.getD 0])[n]?.getD 0 = _
  rw [List.getElem?_append_right (by rw [renL_len]; exact Nat.le_refl _), renL_len, Nat.sub_self]
  show b n + sumTo n (fun j => a j * (renL a b n)[n - 1 - j]?.getD 0) = _
  congr 1
  unfold sumTo
  congr 1
  refine List.map_congr_left fun j hj => ?_
  have := List.mem_range.mp hj
  rw [renL_at a b (show n - 1 - j < n by omega)]
def qa (xs : List RT) (j : Nat) : Rat := match xs[j]? with
  | some x => qv x
  | none => 0
theorem qa_at {xs : List RT} {j : Nat} {x : RT} (h : xs[j]? = some x) : qa xs j = qv x := by
  unfold qa
  rw [h]
def getI (xs : List Int) (j : Nat) : Int := xs[j]?.getD 0
theorem getI_at {xs : List Int} {j : Nat} (h : j < xs.length) : xs[j]? = some (getI xs j) := by
  unfold getI
  rw [List.getElem?_eq_getElem h]
  rfl
theorem CMulA.of {n m : Nat} {a b : Int} (ha : Sm n a) (hb : Sm m b) (hn : 0 < n) (hm : 0 < m) (h : n + m ≤ 1000000) : CMulA a b := by
  unfold CMulA
  have := ha.log hn
  have := hb.log hm
  omega
theorem sum_sm {e : Nat} : ∀ {xs : List Int}, (∀ x ∈ xs, Sm e x) → xs.length ≤ 32 → Sm (e + 6) xs.sum := by
  have key : ∀ {xs : List Int}, (∀ x ∈ xs, Sm e x) → xs.sum.natAbs ≤ xs.length * 2 ^ e := by
    intro xs
    induction xs with
    | nil =>
      intro _
      simp
    | cons x r ih =>
      intro h
      have h1 := h x (List.mem_cons_self ..)
      have h2 := ih fun y hy => h y (List.mem_cons_of_mem _ hy)
      rw [List.sum_cons, List.length_cons, Nat.add_mul]
      unfold Sm at h1
      have := Int.natAbs_add_le x r.sum
      omega
  intro xs h hl
  have h1 := key h
  unfold Sm
  have h2 : xs.length * 2 ^ e ≤ 32 * 2 ^ e := Nat.mul_le_mul_right _ hl
  have h3 : 2 ^ (e + 6) = 64 * 2 ^ e := by rw [Nat.pow_add, Nat.mul_comm]
  have h4 : 0 < 2 ^ e := Nat.pow_pos (by decide)
  omega
/-- the sums as the program has them -/
structure SOk (a b : Nat → Rat) (c c2 : Int) (u i : Nat) (ss : List Int) : Prop where
  len : ss.length = i
  val : ∀ j, j < i → ((getI ss j : Int) : Rat) = (c2 : Rat) * (c : Rat) ^ j * renQ a b j
  sm : ∀ j, j < i → Sm ((2 * u + 8) * (j + 1)) (getI ss j)
def partI (tp ss : List Int) (c : Int) (i j : Nat) : Int := getI tp j * c ^ j * getI ss (i - 1 - j)
theorem sumTo_cast (f : Nat → Int) (n : Nat) : ((((List.range n).map f).sum : Int) : Rat) = sumTo n fun j => ((f j : Int) : Rat) := by
  unfold sumTo
  induction n with
  | zero => rfl
  | succ n ih =>
    rw [List.range_succ, List.map_append, List.map_append, List.sum_append, Rat.intCast_add, ih]
    simp only [List.map_cons, List.map_nil]
    rw [sum_snoc]
    congr 1
    simp
theorem sumTo_mul (k : Rat) (f : Nat → Rat) (n : Nat) : k * sumTo n f = sumTo n fun j => k * f j := by
  unfold sumTo
  induction n with
  | zero =>
    show k * 0 = 0
    grind
  | succ n ih =>
    rw [List.range_succ, List.map_append, List.map_append]
    simp only [List.map_cons, List.map_nil]
    rw [sum_snoc, sum_snoc, ← ih]
    grind
theorem sumTo_congr {n : Nat} {f g : Nat → Rat} (h : ∀ j, j < n → f j = g j) : sumTo n f = sumTo n g := by
  unfold sumTo
  congr 1
  exact List.map_congr_left fun j hj => h j (List.mem_range.mp hj)
theorem cast_pow (c : Int) : ∀ j : Nat, ((c ^ j : Int) : Rat) = (c : Rat) ^ j
  | 0 => by
    rw [Int.pow_zero, Rat.pow_zero]
    rfl
  | j + 1 => by rw [Int.pow_succ, Rat.pow_succ, Rat.intCast_mul, cast_pow c j]
theorem pow_plus (c : Rat) (m : Nat) : ∀ n : Nat, c ^ (m + n) = c ^ m * c ^ n
  | 0 => by
    rw [Rat.pow_zero, Nat.add_zero]
    grind
  | n + 1 => by
    rw [← Nat.add_assoc, Rat.pow_succ, Rat.pow_succ, pow_plus c m n]
    grind
theorem SOk.step {a b : Nat → Rat} {c c2 tt : Int} {u i : Nat} {ss tp : List Int} (h : SOk a b c c2 u i ss) (hc : (c : Rat) ≠ 0) (ht : ((tt : Int) : Rat) = (c2 : Rat) * b i) (ha : ∀ j, j < i → ((getI tp j : Int) : Rat) = (c : Rat) * a j)
    (su : 0 < u) (st : Sm u tt) (sc : Sm u c) (sp : ∀ j, j < i → Sm u (getI tp j)) (hi : i ≤ 32) : SOk a b c c2 u (i + 1) (ss ++ [tt * c ^ i + ((List.range i).map (partI tp ss c i)).sum]) := by
  have old : ∀ j, j < i → ∀ x, getI (ss ++ [x]) j = getI ss j := fun j hj x => by
    unfold getI
    rw [List.getElem?_append_left (by rw [h.len]; exact hj)]
  have new : ∀ x, getI (ss ++ [x]) i = x := fun x => by
    unfold getI
    rw [List.getElem?_append_right (by rw [h.len]; exact Nat.le_refl _), h.len, Nat.sub_self]
    rfl
  refine ⟨by rw [List.length_append, h.len]; rfl, fun j hj => ?_, fun j hj => ?_⟩
  · rcases (by omega : j < i ∨ j = i) with z | z
    · rw [old j z]
      exact h.val j z
    · subst z
      rw [new, Rat.intCast_add, Rat.intCast_mul, sumTo_cast, cast_pow, ht, renQ_is a b j]
      have e : (sumTo j fun k => ((partI tp ss c j k : Int) : Rat)) = (c2 : Rat) * (c : Rat) ^ j * sumTo j fun k => a k * renQ a b (j - 1 - k) := by
        rw [sumTo_mul]
        refine sumTo_congr fun k hk => ?_
        unfold partI
        rw [Rat.intCast_mul, Rat.intCast_mul, cast_pow, ha k hk, h.val (j - 1 - k) (by omega)]
        have e2 : (c : Rat) ^ j = (c : Rat) * (c : Rat) ^ k * (c : Rat) ^ (j - 1 - k) := by
          have : j = (k + (j - 1 - k)) + 1 := by omega
          conv => lhs; rw [this]
          rw [Rat.pow_succ, pow_plus]
          grind
        rw [e2]
        grind
      rw [e]
      grind
  · rcases (by omega : j < i ∨ j = i) with z | z
    · rw [old j z]
      exact h.sm j z
    · subst z
      rw [new]
      have hU : ∀ k, k < j → Sm (u + 1 + (2 * u + 8) * j) (partI tp ss c j k) := fun k hk => by
        unfold partI
        have h1 := ((sp k hk).mul (sm_pow sc su k)).mul (h.sm (j - 1 - k) (by omega))
        refine h1.mono ?_
        have e1 : j - 1 - k + 1 = j - k := by omega
        rw [e1]
        have e2 : (2 * u + 8) * j = (2 * u + 8) * (j - k) + (2 * u + 8) * k := by rw [← Nat.mul_add]; congr 1; omega
        rw [e2]
        have e3 : u * k ≤ (2 * u + 8) * k := Nat.mul_le_mul_right _ (by omega)
        omega
      have s1 : Sm (u + 1 + (2 * u + 8) * j + 6) ((List.range j).map (partI tp ss c j)).sum := by
        refine sum_sm (fun x hx => ?_) (by rw [List.length_map, List.length_range]; exact hi)
        obtain ⟨k, hk, rfl⟩ := List.mem_map.mp hx
        exact hU k (List.mem_range.mp hk)
      have s2 : Sm (u + 1 + (2 * u + 8) * j + 6) (tt * c ^ j) := by
        refine (st.mul (sm_pow sc su j)).mono ?_
        have e3 : u * j ≤ (2 * u + 8) * j := Nat.mul_le_mul_right _ (by omega)
        omega
      have s3 := s2.add s1
      refine s3.mono ?_
      rw [Nat.mul_add]
      omega

end Fp

set_option Elab.async false
set_option linter.all false
set_option maxRecDepth 100000
set_option maxHeartbeats 4000000
set_option exponentiation.threshold 10000
namespace Fp
open PySem PySem.Spec PyProof.Rows L2
/-! ### renewed -/
abbrev N_ren : List Str := ["chances", "told", "tops", "bottom", "told_tops", "told_bottom", "powers", "sums", "n", "told_top", "parts", "k", "total", "power"]
def powL (c : Int) (m : Nat) : List Int := (List.range m).map fun j => c ^ j
theorem powL_len {c : Int} {m : Nat} : (powL c m).length = m := by
  unfold powL
  rw [List.length_map, List.length_range]
theorem powL_at {c : Int} {m j : Nat} (h : j < m) : (powL c m)[j]? = some (c ^ j) := by
  unfold powL
  rw [List.getElem?_map, List.getElem?_range h]
  rfl
theorem powL_succ {c : Int} {m : Nat} : powL c (m + 1) = powL c m ++ [c ^ m] := by
  unfold powL
  rw [List.range_succ, List.map_append]
  rfl
theorem tops_len {c : Int} {xs : List RT} : (topsOn c xs).length = xs.length := by
  unfold topsOn
  rw [List.length_map]
theorem tops_get {c : Int} {xs : List RT} {j : Nat} {x : RT} (h : xs[j]? = some x) : getI (topsOn c xs) j = x.1 * (c / x.2) := by
  unfold getI topsOn
  rw [List.getElem?_map, h]
  rfl
theorem tops_val {c : Int} (hc : 0 < c) {xs : List RT} {j : Nat} (hj : j < xs.length) (h : ∀ x ∈ xs, 0 < x.2 ∧ x.2 ∣ c) : ((getI (topsOn c xs) j : Int) : Rat) = (c : Rat) * qa xs j := by
  have hg : xs[j]? = some xs[j] := List.getElem?_eq_getElem hj
  obtain ⟨h1, h2⟩ := h _ (List.getElem_mem hj)
  rw [tops_get hg, qa_at hg, qv_over h1 h2 hc]
  have := cast_ne (Int.ne_of_gt hc)
  grind
theorem tops_each {n d : Nat} {c D : Int} (hD : 0 < D) (hcD : c ∣ D) (sD : Sm d D) {xs : List RT} {j : Nat} (hj : j < xs.length) (h : ∀ x ∈ xs, Sm n x.1) : Sm (n + d) (getI (topsOn c xs) j) := by
  have hg : xs[j]? = some xs[j] := List.getElem?_eq_getElem hj
  rw [tops_get hg]
  have sc : Sm d c := dvd_small hcD hD sD
  have sq : Sm d (c / xs[j].2) := by
    unfold Sm at *
    have a : (c / xs[j].2).natAbs ≤ c.natAbs := Int.natAbs_ediv_le_natAbs ..
    omega
  exact (h _ (List.getElem_mem hj)).mul sq
theorem upd_int {H : Hp} {l : Addr} {xs : List Int} {x : Int} : upd H l (.lst (xs.map V.int ++ [.int x])) l = some (.lst ((xs ++ [x]).map V.int)) := by
  rw [upd_same, List.map_append]
  rfl
section
variable {P : Program} {w : World} {K : PySem.W.Frag} {mg : Str → Option Value} {base : Heap}
def spRen (K : PySem.W.Frag) : Sp := fun vs H Q _ => ∃ (p t : Addr) (chs tld : List RT) (n1 d1 n2 d2 : Nat) (D1 D2 : Int), vs = [.ref p, .ref t] ∧ LstAt K H p chs ∧ LstAt K H t tld ∧ Over1 n1 d1 D1 chs ∧ Over1 n2 d2 D2 tld ∧ n1 ≤ 2000 ∧ d1 ≤ 300 ∧ n2 ≤ 2000 ∧ d2 ≤ 300 ∧ tld.length ≤ 22 ∧ tld.length ≤ chs.length + 1 ∧
  ∀ z rs H', Same H H' → H' z = some (.lst (rs.map V.ref)) → RsAt K H' rs ((List.range tld.length).map fun i => rdq (renQ (qa chs) (qa tld) i)) → Q (.ref z) H'
end

end Fp

set_option Elab.async false
set_option linter.all false
set_option maxRecDepth 100000
set_option maxHeartbeats 4000000
set_option exponentiation.threshold 10000
namespace Fp
open PySem PySem.Spec PyProof.Rows L2
/-! ### chances of drawn lives stand over a small number -/
theorem ch_dvdW {row : List RT} {step x : RT} {n i most : Nat} {W : Int} (hW : ∀ y ∈ row, y.2 ∣ W) (hr : ∀ y ∈ row, SmR n y) (hs : Red step) (hx : Red x) (h : qv x = chR row step i) (hi : i < most) : x.2 ∣ W * step.2 ^ most := by
  match e : row[i]? with
  | some y =>
    have hy := List.mem_of_getElem? e
    have ex : x = y := qv_inj hx (hr y hy).1 (h.trans (chR_in e))
    rw [ex]
    exact Int.dvd_trans (hW y hy) (Int.dvd_mul_right ..)
  | none =>
    have hle : row.length ≤ i := List.getElem?_eq_none_iff.mp e
    match el : row.getLast? with
    | none =>
      have er : row = [] := List.getLast?_eq_none_iff.mp el
      rw [er, chR_nil] at h
      have ex : x = (0, 1) := qv_inj hx ⟨by decide, by decide⟩ (by rw [h, qv_nought])
      rw [ex]
      exact Int.one_dvd _
    | some l =>
      have hl : l ∈ row := List.mem_of_getLast? el
      have hl0 := (hr l hl).1
      rw [chR_out hle el] at h
      obtain ⟨j, ej, hj⟩ : ∃ j, i + 1 - row.length = j ∧ j ≤ most := ⟨_, rfl, by omega⟩
      rw [ej] at h
      have key : ∀ j : Nat, qv l * qv step ^ j = ((l.1 * step.1 ^ j : Int) : Rat) / ((l.2 * step.2 ^ j : Int) : Rat) := by
        intro j
        induction j with
        | zero =>
          rw [Rat.pow_zero, Int.pow_zero, Int.pow_zero, Int.mul_one, Int.mul_one]
          unfold qv
          grind
        | succ j ih =>
          have h1 := cast_ne (Int.ne_of_gt hs.1)
          have h2 := cast_ne (Int.ne_of_gt (Int.mul_pos hl0.1 (show (0 : Int) < step.2 ^ j from Int.pow_pos hs.1)))
          rw [Rat.pow_succ, ← Rat.mul_assoc, ih, Int.pow_succ, Int.pow_succ, ← Int.mul_assoc, ← Int.mul_assoc, Rat.intCast_mul (l.1 * step.1 ^ j), Rat.intCast_mul (l.2 * step.2 ^ j)]
          unfold qv
          grind
      rw [key j] at h
      obtain ⟨d1, _⟩ := red_small hx (Int.mul_pos hl0.1 (Int.pow_pos hs.1)) h
      refine Int.dvd_trans d1 ?_
      obtain ⟨u, hu⟩ := hW l hl
      refine ⟨u * step.2 ^ (most - j), ?_⟩
      rw [hu, show most = j + (most - j) by omega, Int.pow_add, Nat.add_sub_cancel_left]
      rw [Int.mul_assoc l.2 u, ← Int.mul_assoc u, Int.mul_comm u (step.2 ^ j), Int.mul_assoc (step.2 ^ j), ← Int.mul_assoc l.2]
/-- one small number under a whole row -/
structure WOk (W : Int) (row : List RT) : Prop where
  pos : 0 < W
  sm : Sm 14 W
  dvd : ∀ y ∈ row, y.2 ∣ W
theorem over_chW {row : List RT} {step : RT} {n most : Nat} {chs : List RT} {W : Int} (hW : WOk W row) (hr : ∀ y ∈ row, SmR n y) (hs : SmR 5 step) (hm : most ≤ 20) (h : IsCh row step n most chs) : Over1 (n + 100) 121 (W * step.2 ^ most) chs := by
  refine ⟨Int.mul_pos hW.pos (Int.pow_pos hs.1.1), ?_, fun x hx => ?_, by rw [h.len]; omega⟩
  · exact (hW.sm.mul (sm_pow hs.2.2 (by decide) most)).mono (by omega)
  · obtain ⟨i, hi⟩ := List.mem_iff_getElem?.mp hx
    have hi2 := (List.getElem?_eq_some_iff.mp hi).1
    rw [h.len] at hi2
    obtain ⟨s1, s2⟩ := h.ok i x hi
    exact ⟨s1.1.1, ch_dvdW hW.dvd hr hs.1 s1.1 s2 hi2, s1.2.1.mono (by omega)⟩
theorem BaseLife.w {row : List RT} {step : RT} (h : BaseLife row step) : ∃ W : Int, 0 < W ∧ Sm 10 W ∧ ∀ y ∈ row, y.2 ∣ W := by
  rcases h with ⟨ws, extra, m, rfl⟩ | ⟨rfl, rfl⟩
  · obtain ⟨w0, w1⟩ := m.whole
    refine ⟨wholeOf ws extra step, w0, by unfold Sm; omega, fun y hy => ?_⟩
    unfold rowOf at hy
    obtain ⟨z, hz, rfl⟩ := List.mem_map.mp hy
    exact (red_small (low2_red (Int.ne_of_gt w0)) w0 (qv_low2 w0)).1
  · exact ⟨1, by decide, by unfold Sm; decide, fun y hy => by simp at hy⟩
theorem AnyLife.w {row : List RT} {step : RT} (h : AnyLife row step) : ∃ W : Int, WOk W row := by
  rcases h with h | ⟨row0, l, h, h5, hs, hl, rfl⟩ | ⟨row0, h, h5, rfl, hs⟩
  · obtain ⟨W, w0, w1, w2⟩ := h.w
    exact ⟨W, w0, w1.mono (by decide), w2⟩
  · obtain ⟨W, w0, w1, w2⟩ := h.w
    obtain ⟨s1, s2, s3, s4⟩ := h.sm
    refine ⟨W * step.2, Int.mul_pos w0 s2.1.1, (w1.mul s2.2.2).mono (by decide), fun y hy => ?_⟩
    rcases List.mem_append.mp hy with z | z
    · exact Int.dvd_trans (w2 y z) (Int.dvd_mul_right ..)
    · rw [List.mem_singleton.mp z]
      have hm := List.mem_of_getElem? hl
      have hp := Int.mul_pos (s1 l hm).1.1.1 s2.1.1
      have d := (red_small (x := rT l step) (low2_red (Int.ne_of_gt hp)) hp (qv_low2 hp)).1
      refine Int.dvd_trans d ?_
      obtain ⟨u, hu⟩ := w2 l hm
      exact ⟨u, by rw [hu, Int.mul_assoc, Int.mul_comm u, ← Int.mul_assoc]⟩
  · obtain ⟨W, w0, w1, w2⟩ := h.w
    refine ⟨W, w0, w1.mono (by decide), fun y hy => ?_⟩
    rcases List.mem_append.mp hy with z | z
    · exact w2 y z
    · rw [List.mem_singleton.mp z]
      exact Int.one_dvd _
theorem renQ_congr {a a' b b' : Nat → Rat} : ∀ {m n : Nat}, n ≤ m → (∀ j, j < m → a j = a' j) → (∀ j, j ≤ m → b j = b' j) → renQ a b n = renQ a' b' n := by
  intro m n
  induction n using Nat.strongRecOn with
  | ind n ih =>
    intro hn h1 h2
    rw [renQ_is, renQ_is, h2 n hn]
    congr 1
    refine sumTo_congr fun j hj => ?_
    rw [h1 j (by omega), ih (n - 1 - j) (by omega) (by omega) h1 h2]
theorem qa_ch {row : List RT} {step : RT} {n m j : Nat} {chs : List RT} (h : IsCh row step n m chs) (hj : j < m) : qa chs j = chR row step j := by
  have hj2 : j < chs.length := by rw [h.len]; exact hj
  have hg : chs[j]? = some chs[j] := List.getElem?_eq_getElem hj2
  rw [qa_at hg]
  exact (h.ok j _ hg).2

end Fp

set_option Elab.async false
set_option linter.all false
set_option maxRecDepth 100000
set_option maxHeartbeats 4000000
set_option exponentiation.threshold 10000
namespace Fp
open PySem PySem.Spec PyProof.Rows L2
/-! ### puts -/
/-- one at the beginning, nothing told later -/
def oneAt (n : Nat) : Rat := if n = 0 then 1 else 0
def putQ (row : List RT) (step : RT) (n : Nat) : Rat := renQ (chR row step) oneAt n
theorem qa_one {m j : Nat} (h : j ≤ m) : qa ((1, 1) :: List.replicate m ((0 : Int), (1 : Int))) j = oneAt j := by
  cases j with
  | zero =>
    rw [qa_at (x := (1, 1)) rfl, qv_one]
    rfl
  | succ j =>
    rw [qa_at (x := (0, 1)) (by rw [List.getElem?_cons_succ, List.getElem?_replicate]; exact if_pos (by omega)), qv_nought]
    rfl
section
variable {P : Program} {w : World} {K : PySem.W.Frag} {mg : Str → Option Value} {base : Heap} {aN aO : Addr}
def spPuts (K : PySem.W.Frag) : Sp := fun vs H Q _ => ∃ (p : Addr) (row : List RT) (step : RT) (n most : Nat) (W : Int), vs = [.ref p, .int (most : Int)] ∧ LifeAt K H p row step ∧ LifeOk n row step ∧ WOk W row ∧ most ≤ 20 ∧
  ∀ z H', Same H H' → RowAt K H' z ((List.range (most + 1)).map fun i => rdq (putQ row step i)) → Q (.ref z) H'
end

end Fp

set_option Elab.async false
set_option linter.all false
set_option maxRecDepth 100000
set_option maxHeartbeats 4000000
set_option exponentiation.threshold 10000
namespace Fp
open PySem PySem.Spec PyProof.Rows L2
/-! ### put by how many parts there are -/
def pQ (a : Nat → Rat) : Nat → Nat → Rat
  | 0, m => oneAt m
  | j + 1, m => sumTo m fun k => a k * pQ a j (m - 1 - k)
theorem sumTo_succ (n : Nat) (f : Nat → Rat) : sumTo (n + 1) f = sumTo n f + f n := by
  unfold sumTo
  rw [List.range_succ, List.map_append]
  simp only [List.map_cons, List.map_nil]
  rw [sum_snoc]
theorem sumTo_zero (f : Nat → Rat) : sumTo 0 f = 0 := rfl
theorem sumTo_head (n : Nat) (f : Nat → Rat) : sumTo (n + 1) f = f 0 + sumTo n fun j => f (j + 1) := by
  induction n with
  | zero =>
    rw [sumTo_succ, sumTo_zero, sumTo_zero]
    grind
  | succ n ih =>
    rw [sumTo_succ, ih, sumTo_succ]
    grind
theorem sumTo_add (n : Nat) (f g : Nat → Rat) : sumTo n (fun j => f j + g j) = sumTo n f + sumTo n g := by
  induction n with
  | zero =>
    rw [sumTo_zero, sumTo_zero, sumTo_zero]
    grind
  | succ n ih =>
    rw [sumTo_succ, sumTo_succ, sumTo_succ, ih]
    grind
theorem sumTo_nought (n : Nat) : sumTo n (fun _ => 0) = 0 := by
  induction n with
  | zero => rfl
  | succ n ih =>
    rw [sumTo_succ, ih]
    grind
theorem sumTo_swap (n m : Nat) (f : Nat → Nat → Rat) : sumTo n (fun j => sumTo m fun k => f j k) = sumTo m fun k => sumTo n fun j => f j k := by
  induction n with
  | zero =>
    rw [sumTo_zero]
    exact (sumTo_nought m).symm
  | succ n ih =>
    rw [sumTo_succ, ih, ← sumTo_add]
    exact sumTo_congr fun k _ => (sumTo_succ n fun j => f j k).symm
/-- all of them added: what is put -/
theorem put_parts (a : Nat → Rat) : ∀ n N : Nat, n ≤ N → sumTo (N + 1) (fun j => pQ a j n) = renQ a oneAt n := by
  intro n
  induction n using Nat.strongRecOn with
  | ind n ih =>
    intro N hN
    rw [renQ_is, sumTo_head]
    show oneAt n + sumTo N (fun j => sumTo n fun k => a k * pQ a j (n - 1 - k)) = _
    congr 1
    rw [sumTo_swap]
    refine sumTo_congr fun k hk => ?_
    rw [← sumTo_mul]
    have hN2 : N = (N - 1) + 1 := by omega
    rw [hN2, ih (n - 1 - k) (by omega) (N - 1) (by omega)]
/-- with more parts than beats there is nothing -/
theorem pQ_far (a : Nat → Rat) : ∀ {j m : Nat}, m < j → pQ a j m = 0
  | 0, m, h => absurd h (Nat.not_lt_zero _)
  | j + 1, m, h => by
    show sumTo m (fun k => a k * pQ a j (m - 1 - k)) = 0
    rw [sumTo_congr (g := fun _ => 0) fun k hk => ?_]
    · exact sumTo_nought m
    · rw [pQ_far a (show m - 1 - k < j by omega)]
      grind
theorem sumTo_le {n : Nat} {f g : Nat → Rat} (h : ∀ j, j < n → f j ≤ g j) : sumTo n f ≤ sumTo n g := by
  induction n with
  | zero => exact Rat.le_refl
  | succ n ih =>
    rw [sumTo_succ, sumTo_succ]
    have h1 := ih fun j hj => h j (by omega)
    have h2 := h n (by omega)
    grind
theorem sumTo_rev (n : Nat) (f : Nat → Rat) : sumTo n (fun k => f (n - 1 - k)) = sumTo n f := by
  induction n with
  | zero => rfl
  | succ n ih =>
    rw [sumTo_head, sumTo_succ]
    have e : (sumTo n fun j => f (n + 1 - 1 - (j + 1))) = sumTo n fun k => f (n - 1 - k) := sumTo_congr fun k hk => by
      congr 1
      omega
    rw [e, ih]
    have : n + 1 - 1 - 0 = n := by omega
    rw [this]
    grind
theorem two_sum (n : Nat) : sumTo n (fun m => (2 : Rat) ^ m) = 2 ^ n - 1 := by
  induction n with
  | zero =>
    rw [sumTo_zero, Rat.pow_zero]
    grind
  | succ n ih =>
    rw [sumTo_succ, ih, Rat.pow_succ]
    grind
/-- chances from nought to one: from nought to two powers -/
theorem pQ_bound {a : Nat → Rat} {M : Nat} (h0 : ∀ k, k < M → 0 ≤ a k) (h1 : ∀ k, k < M → a k ≤ 1) : ∀ j m, m ≤ M → 0 ≤ pQ a j m ∧ pQ a j m ≤ 2 ^ m := by
  have pp : ∀ m : Nat, (0 : Rat) < 2 ^ m := fun m => Rat.pow_pos (by decide)
  intro j
  induction j with
  | zero =>
    intro m _
    show 0 ≤ oneAt m ∧ oneAt m ≤ 2 ^ m
    unfold oneAt
    split
    · rename_i e
      subst e
      rw [Rat.pow_zero]
      exact ⟨by decide, Rat.le_refl⟩
    · exact ⟨Rat.le_refl, Rat.le_of_lt (pp m)⟩
  | succ j ih =>
    intro m hm
    show 0 ≤ sumTo m (fun k => a k * pQ a j (m - 1 - k)) ∧ sumTo m (fun k => a k * pQ a j (m - 1 - k)) ≤ 2 ^ m
    refine ⟨?_, ?_⟩
    · have := sumTo_le (n := m) (f := fun _ => 0) (g := fun k => a k * pQ a j (m - 1 - k)) fun k hk => Rat.mul_nonneg (h0 k (by omega)) (ih (m - 1 - k) (by omega)).1
      rw [sumTo_nought] at this
      exact this
    · have h2 : sumTo m (fun k => a k * pQ a j (m - 1 - k)) ≤ sumTo m fun k => (2 : Rat) ^ (m - 1 - k) := sumTo_le fun k hk => by
        obtain ⟨i1, i2⟩ := ih (m - 1 - k) (by omega)
        have h3 := Rat.mul_le_mul_of_nonneg_right (h1 k (by omega)) i1
        grind
      rw [sumTo_rev m fun k => (2 : Rat) ^ k, two_sum] at h2
      grind
theorem tri_flip (n : Nat) (f : Nat → Nat → Rat) : (sumTo n fun m => sumTo (m + 1) (f m)) = sumTo n fun j => sumTo (n - j) fun k => f (j + k) j := by
  induction n with
  | zero => rfl
  | succ n ih =>
    rw [sumTo_succ, ih, sumTo_succ (n := n) (f := fun j => sumTo (n + 1 - j) fun k => f (j + k) j)]
    have e : (sumTo n fun j => sumTo (n + 1 - j) fun k => f (j + k) j) = sumTo n fun j => (sumTo (n - j) fun k => f (j + k) j) + f n j := by
      refine sumTo_congr fun j hj => ?_
      rw [show n + 1 - j = (n - j) + 1 by omega, sumTo_succ, show j + (n - j) = n by omega]
    rw [e, sumTo_add, sumTo_succ, show n + 1 - n = 0 + 1 by omega, sumTo_succ, sumTo_zero]
    rw [Nat.add_zero]
    grind

end Fp

set_option Elab.async false
set_option linter.all false
set_option maxRecDepth 100000
set_option maxHeartbeats 4000000
set_option exponentiation.threshold 10000
namespace Fp
open PySem PySem.Spec PyProof.Rows L2
/-! ### lists of ratios told by their values; values over powers of one number -/
def mkL (n : Nat) (g : Nat → Rat) : List RT := (List.range n).map fun m => rdq (g m)
theorem mkL_len {n : Nat} {g : Nat → Rat} : (mkL n g).length = n := by
  unfold mkL
  rw [List.length_map, List.length_range]
theorem mkL_at {n m : Nat} {g : Nat → Rat} (h : m < n) : (mkL n g)[m]? = some (rdq (g m)) := by
  unfold mkL
  rw [List.getElem?_map, List.getElem?_range h]
  rfl
theorem mkL_congr {n : Nat} {g g' : Nat → Rat} (h : ∀ m, m < n → g m = g' m) : mkL n g = mkL n g' := by
  unfold mkL
  refine List.map_congr_left fun m hm => ?_
  rw [h m (List.mem_range.mp hm)]
theorem mkL_set {n i : Nat} {g : Nat → Rat} {v : Rat} : (mkL n g).set i (rdq v) = mkL n fun m => if m = i then v else g m := by
  refine List.ext_getElem (by rw [List.length_set, mkL_len, mkL_len]) fun m h1 h2 => ?_
  rw [List.getElem_set]
  have hm : m < n := by
    rw [mkL_len] at h2
    exact h2
  have e : ∀ (f : Nat → Rat) (h : m < (mkL n f).length), (mkL n f)[m] = rdq (f m) := fun f h => by
    have := mkL_at (g := f) hm
    rw [List.getElem?_eq_getElem h] at this
    exact Option.some.inj this
  rw [e (fun m => if m = i then v else g m)]
  by_cases z : i = m
  · rw [if_pos z, if_pos z.symm]
  · rw [if_neg z, if_neg fun y => z y.symm, e]
theorem RsAt.set {K : PySem.W.Frag} {H : Hp} {z : Addr} {x : RT} (hz : RAt K H z x) : ∀ {rs : List Addr} {xs : List RT} (i : Nat), RsAt K H rs xs → RsAt K H (rs.set i z) (xs.set i x)
  | _, _, _, .nil => .nil
  | _, _, 0, .cons _ r => .cons hz r
  | _, _, i + 1, .cons h r => .cons h (RsAt.set hz i r)
/-- a whole number over the e-th power of D -/
def Den (D : Int) (e : Nat) (q : Rat) : Prop := ∃ T : Int, q = (T : Rat) / ((D ^ e : Int) : Rat)
section
variable {D : Int} {e f : Nat} {p q : Rat}
theorem Den.up (hD : 0 < D) (h : Den D e q) : Den D (e + 1) q := by
  obtain ⟨T, rfl⟩ := h
  refine ⟨T * D, ?_⟩
  have h1 := cast_ne (Int.ne_of_gt hD)
  have h2 := cast_ne (Int.ne_of_gt (show (0 : Int) < D ^ e from Int.pow_pos hD))
  rw [Int.pow_succ, Rat.intCast_mul, Rat.intCast_mul]
  grind
theorem Den.mono (hD : 0 < D) (h : Den D e q) : ∀ {f : Nat}, e ≤ f → Den D f q := by
  intro f hf
  induction hf with
  | refl => exact h
  | step _ ih => exact ih.up hD
theorem Den.add (hD : 0 < D) (hp : Den D e p) (hq : Den D e q) : Den D e (p + q) := by
  obtain ⟨T, rfl⟩ := hp
  obtain ⟨S, rfl⟩ := hq
  refine ⟨T + S, ?_⟩
  have h2 := cast_ne (Int.ne_of_gt (show (0 : Int) < D ^ e from Int.pow_pos hD))
  rw [Rat.intCast_add]
  grind
theorem Den.mul (hD : 0 < D) (hp : Den D e p) (hq : Den D f q) : Den D (e + f) (p * q) := by
  obtain ⟨T, rfl⟩ := hp
  obtain ⟨S, rfl⟩ := hq
  refine ⟨T * S, ?_⟩
  have h1 := cast_ne (Int.ne_of_gt (show (0 : Int) < D ^ e from Int.pow_pos hD))
  have h2 := cast_ne (Int.ne_of_gt (show (0 : Int) < D ^ f from Int.pow_pos hD))
  rw [Int.pow_add, Rat.intCast_mul, Rat.intCast_mul]
  grind
theorem Den.zero : Den D e 0 := ⟨0, by
  show (0 : Rat) = ((0 : Int) : Rat) / _
  rw [show ((0 : Int) : Rat) = 0 from rfl]
  grind⟩
theorem Den.sum (hD : 0 < D) {n : Nat} {g : Nat → Rat} (h : ∀ j, j < n → Den D e (g j)) : Den D e (sumTo n g) := by
  induction n with
  | zero => exact Den.zero
  | succ n ih =>
    rw [sumTo_succ]
    exact (ih fun j hj => h j (by omega)).add hD (h n (by omega))
theorem Den.of {x : RT} (hD : 0 < D) (hx : 0 < x.2) (h : x.2 ∣ D) : Den D 1 (qv x) := by
  refine ⟨x.1 * (D / x.2), ?_⟩
  rw [Int.pow_succ, Int.pow_zero, Int.one_mul]
  exact qv_over hx h hD
/-- what such a value's lowest form is like -/
theorem Den.red (hD : 0 < D) (h : Den D e q) {d k : Nat} (sD : Sm d D) (hd : 0 < d) (h0 : 0 ≤ q) (h1 : q ≤ 2 ^ k) : (rdq q).2 ∣ D ^ e ∧ Sm (d * e + 1 + k + 1) (rdq q).1 ∧ Sm (d * e + 1) (rdq q).2 := by
  obtain ⟨T, hT⟩ := h
  have hP : (0 : Int) < D ^ e := Int.pow_pos hD
  have hc := cast_ne (Int.ne_of_gt hP)
  obtain ⟨r1, r2⟩ := red_small (rdq_red q) hP (by rw [qv_rdq]; exact hT)
  have sP : Sm (d * e + 1) (D ^ e) := sm_pow sD hd e
  refine ⟨r1, ?_, dvd_small r1 hP sP⟩
  have hcp : (0 : Rat) < ((D ^ e : Int) : Rat) := Rat.intCast_pos.mpr hP
  have e1 : (T : Rat) = q * ((D ^ e : Int) : Rat) := by
    rw [hT]
    grind
  have t0 : 0 ≤ T := by
    have := Rat.mul_nonneg h0 (Rat.le_of_lt hcp)
    rw [← e1] at this
    exact Rat.intCast_nonneg.mp this
  have t1 : T ≤ 2 ^ k * D ^ e := by
    have := Rat.mul_le_mul_of_nonneg_right h1 (Rat.le_of_lt hcp)
    rw [← e1] at this
    have e2 : (2 : Rat) ^ k * ((D ^ e : Int) : Rat) = ((2 ^ k * D ^ e : Int) : Rat) := by
      rw [Rat.intCast_mul, cast_pow 2 k]
      rfl
    rw [e2] at this
    exact Rat.intCast_le_intCast.mp this
  unfold Sm at *
  have t2 : T.natAbs ≤ 2 ^ k * (D ^ e).natAbs := by
    have : (2 ^ k * D ^ e : Int).natAbs = 2 ^ k * (D ^ e).natAbs := by
      rw [Int.natAbs_mul, Int.natAbs_pow]
      rfl
    omega
  have t3 : 2 ^ k * (D ^ e).natAbs ≤ 2 ^ k * 2 ^ (d * e + 1) := Nat.mul_le_mul_left _ (Nat.le_of_lt sP)
  have t4 : 2 ^ (d * e + 1 + k + 1) = 2 * (2 ^ k * 2 ^ (d * e + 1)) := by
    rw [Nat.pow_succ, Nat.pow_add, Nat.mul_comm, Nat.mul_comm (2 ^ (d * e + 1))]
  have t5 : 0 < 2 ^ k * 2 ^ (d * e + 1) := Nat.mul_pos (Nat.pow_pos (by decide)) (Nat.pow_pos (by decide))
  omega
end
/-- chances from nought to one, each over D -/
structure Ch01 (D : Int) (a : Nat → Rat) (M : Nat) : Prop where
  pos : 0 < D
  sm : Sm 60 D
  ge : ∀ k, k < M → 0 ≤ a k
  le : ∀ k, k < M → a k ≤ 1
  den : ∀ k, k < M → Den D 1 (a k)
theorem Ch01.pq {D : Int} {a : Nat → Rat} {M : Nat} (h : Ch01 D a M) : ∀ j m, m ≤ M → Den D j (pQ a j m) := by
  intro j
  induction j with
  | zero =>
    intro m _
    show Den D 0 (oneAt m)
    unfold oneAt
    split
    · exact ⟨1, by
        rw [Int.pow_zero]
        grind⟩
    · exact Den.zero
  | succ j ih =>
    intro m hm
    refine Den.sum h.pos fun k hk => ?_
    rw [Nat.add_comm]
    exact (h.den k (by omega)).mul h.pos (ih (m - 1 - k) (by omega))

end Fp

set_option Elab.async false
set_option linter.all false
set_option maxRecDepth 100000
set_option maxHeartbeats 4000000
set_option exponentiation.threshold 10000
namespace Fp
open PySem PySem.Spec PyProof.Rows L2
/-! ### the law's own: by how many parts there are -/
abbrev N_bp : List Str := ["_law_life_here", "_law_most_here", "_law_chances", "_law_found", "_law_parts", "_law_here", "_law_more", "_law_n", "_law_k"]
/-- what n parts before and one more give at m -/
def fM (a : Nat → Rat) (j m n : Nat) : Rat := pQ a j n * a (m - 1 - n)
theorem fM_sum (a : Nat → Rat) (j m : Nat) : sumTo m (fM a j m) = pQ a (j + 1) m := by
  show _ = sumTo m fun k => a k * pQ a j (m - 1 - k)
  rw [← sumTo_rev m fun k => a k * pQ a j (m - 1 - k)]
  refine sumTo_congr fun k hk => ?_
  unfold fM
  rw [show m - 1 - (m - 1 - k) = k by omega]
  grind
/-- n of them taken, and of the next one those to n + kk -/
def vM (a : Nat → Rat) (j n kk m : Nat) : Rat := sumTo (min n m) (fM a j m) + if n < m ∧ m ≤ n + kk then fM a j m n else 0
theorem vM_zero (a : Nat → Rat) (j n m : Nat) : vM a j n 0 m = sumTo (min n m) (fM a j m) := by
  unfold vM
  rw [if_neg (by omega)]
  grind
theorem vM_full (a : Nat → Rat) {j n kk m : Nat} (h : m ≤ n + kk) : vM a j n kk m = sumTo (min (n + 1) m) (fM a j m) := by
  unfold vM
  rcases (by omega : n < m ∨ m ≤ n) with z | z
  · rw [if_pos ⟨z, h⟩, Nat.min_eq_left (by omega), Nat.min_eq_left (by omega), sumTo_succ]
  · rw [if_neg (by omega), Nat.min_eq_right z, Nat.min_eq_right (by omega)]
    grind
theorem vM_step (a : Nat → Rat) {j n kk m : Nat} : vM a j n (kk + 1) m = if m = n + (kk + 1) then vM a j n kk m + fM a j m n else vM a j n kk m := by
  unfold vM
  by_cases z : m = n + (kk + 1)
  · rw [if_pos z, if_pos (by omega), if_neg (by omega)]
    grind
  · rw [if_neg z]
    congr 1
    by_cases y : n < m ∧ m ≤ n + kk
    · rw [if_pos y, if_pos (by omega)]
    · rw [if_neg y, if_neg (by omega)]
section
variable {D : Int} {a : Nat → Rat} {M j m n : Nat}
theorem Ch01.f_ok (h : Ch01 D a M) (hm : m ≤ M) (hn : n < m) : 0 ≤ fM a j m n ∧ fM a j m n ≤ 2 ^ n ∧ Den D (j + 1) (fM a j m n) := by
  obtain ⟨b1, b2⟩ := pQ_bound h.ge h.le j n (by omega)
  refine ⟨Rat.mul_nonneg b1 (h.ge _ (by omega)), ?_, (h.pq j n (by omega)).mul h.pos (h.den _ (by omega))⟩
  have := Rat.mul_le_mul_of_nonneg_left (h.le (m - 1 - n) (by omega)) b1
  unfold fM
  grind
theorem pow2_le {i k : Nat} (h : i ≤ k) : (2 : Rat) ^ i ≤ 2 ^ k := by
  have pp : ∀ m : Nat, (0 : Rat) < 2 ^ m := fun m => Rat.pow_pos (by decide)
  induction h with
  | refl => exact Rat.le_refl
  | step _ ih =>
    rename_i m _
    rw [Rat.pow_succ]
    have := pp m
    grind
theorem Ch01.s_ok (h : Ch01 D a M) (hm : m ≤ M) (hn : n ≤ m) : 0 ≤ sumTo n (fM a j m) ∧ sumTo n (fM a j m) ≤ 2 ^ m ∧ Den D (j + 1) (sumTo n (fM a j m)) := by
  refine ⟨?_, ?_, Den.sum h.pos fun k hk => (h.f_ok hm (by omega)).2.2⟩
  · have := sumTo_le (n := n) (f := fun _ => 0) (g := fM a j m) fun k hk => (h.f_ok hm (by omega)).1
    rw [sumTo_nought] at this
    exact this
  · have h1 := sumTo_le (n := n) (f := fM a j m) (g := fun k => (2 : Rat) ^ k) fun k hk => (h.f_ok hm (by omega)).2.1
    rw [two_sum] at h1
    have h2 := pow2_le hn
    grind
theorem Ch01.red (h : Ch01 D a M) {q : Rat} {e k : Nat} (hd : Den D e q) (h0 : 0 ≤ q) (h1 : q ≤ 2 ^ k) (he : e ≤ 21) (hk : k ≤ 21) : (rdq q).2 ∣ D ^ e ∧ Sm 1400 (rdq q).1 ∧ Sm 1400 (rdq q).2 := by
  obtain ⟨r1, r2, r3⟩ := hd.red h.pos h.sm (by decide) h0 h1
  have : 60 * e ≤ 60 * 21 := Nat.mul_le_mul_left _ he
  exact ⟨r1, r2.mono (by omega), r3.mono (by omega)⟩
end

end Fp

set_option Elab.async false
set_option linter.all false
set_option maxRecDepth 100000
set_option maxHeartbeats 4000000
set_option exponentiation.threshold 10000
namespace Fp
open PySem PySem.Spec PyProof.Rows L2
section
variable {P : Program} {w : World} {K : PySem.W.Frag} {mg : Str → Option Value} {base : Heap}
/-- a list of ratios that may be changed -/
def LsM (K : PySem.W.Frag) (H : Hp) (p : Addr) (xs : List RT) : Prop := ∃ rs : List Addr, H p = some (.lst (rs.map V.ref)) ∧ RsAt K H rs xs
theorem LsM.same {H H' : Hp} {p : Addr} {xs : List RT} (h : LsM K H p xs) (e : Same H H') : LsM K H' p xs := by
  obtain ⟨rs, h1, h2⟩ := h
  exact ⟨rs, e _ _ h1, h2.tk (Tk.same e)⟩
theorem LsM.at {H : Hp} {p : Addr} {n m : Nat} {g : Nat → Rat} {k : Int} {Q : VK} (h : LsM K H p (mkL n g)) (hk : k = (m : Int)) (hm : m < n) (q : ∀ r, RAt K H r (rdq (g m)) → Q (.ref r) H) : rIxL K (.ref p) (.int k) H Q := by
  obtain ⟨rs, h1, h2⟩ := h
  obtain ⟨r, e1, e2⟩ := h2.get (mkL_at hm)
  have g2 : (rs.map V.ref)[m]? = some (.ref r) := by
    rw [List.getElem?_map, e1]
    rfl
  exact ⟨p, _, _, _, rfl, rfl, SqL.of h1, at_of hk g2, q r e2⟩
theorem rdq_zero {q : Rat} : rdq q = (0, 1) ↔ q = 0 := by
  constructor
  · intro h
    have := congrArg qv h
    rw [qv_rdq, qv_nought] at this
    exact this
  · intro h
    rw [h]
    exact (is_rdq ⟨by decide, by decide⟩ qv_nought).symm
def spBp (K : PySem.W.Frag) : Sp := fun vs H Q _ => ∃ (p : Addr) (row : List RT) (step : RT) (n most : Nat) (D : Int), vs = [.ref p, .int (most : Int)] ∧ LifeAt K H p row step ∧ LifeOk n row step ∧ (row = [] → step = (0, 1)) ∧ Ch01 D (chR row step) 20 ∧ most ≤ 20 ∧
  ∀ (z : Addr) (fs : List Addr) (H' : Hp), Same H H' → H' z = some (.lst (fs.map V.ref)) → fs.length = most + 1 → (∀ j f, fs[j]? = some f → LsM K H' f (mkL (most + 1) (pQ (chR row step) j))) → Q (.ref z) H'
end

end Fp

set_option Elab.async false
set_option linter.all false
set_option maxRecDepth 100000
set_option maxHeartbeats 4000000
set_option exponentiation.threshold 10000
namespace Fp
open PySem PySem.Spec PyProof.Rows L2
theorem AnyLife.ok {row : List RT} {step : RT} (h : AnyLife row step) : LifeOk 20 row step ∧ row.length ≤ 7 ∧ (row = [] → step = (0, 1)) := by
  have nought : SmR 20 (0, 1) := ⟨⟨by decide, by decide⟩, by unfold Sm; decide, by unfold Sm; decide⟩
  rcases h with h | ⟨row0, l, h, h5, hs, hl, rfl⟩ | ⟨row0, h, h5, rfl, hs⟩
  · obtain ⟨s1, s2, s3, s4⟩ := h.sm
    have := h.len
    refine ⟨⟨fun x hx => (s1 x hx).1.mono (by decide), ⟨s2.mono (by decide), s3, s4⟩, by omega, by decide, by decide⟩, by omega, fun z => ?_⟩
    rcases Classical.em (step = (0, 1)) with y | y
    · exact y
    · exact absurd z (h.ne y)
  · obtain ⟨s1, s2, s3, s4⟩ := h.sm
    have hlen : (row0 ++ [rT l step]).length ≤ 6 := by
      rw [List.length_append, List.length_singleton]
      omega
    refine ⟨⟨fun x hx => ?_, ⟨s2.mono (by decide), s3, s4⟩, by omega, by decide, by decide⟩, by omega, fun z => ?_⟩
    · rcases List.mem_append.mp hx with z | z
      · exact (s1 x z).1.mono (by decide)
      · rw [List.mem_singleton.mp z]
        exact (rT_sm (s1 l (List.mem_of_getElem? hl)).1 s2).mono (by decide)
    · have := congrArg List.length z
      simp at this
  · obtain ⟨s1, s2, s3, s4⟩ := h.sm
    have hlen : (row0 ++ [((0 : Int), (1 : Int))]).length ≤ 6 := by
      rw [List.length_append, List.length_singleton]
      omega
    refine ⟨⟨fun x hx => ?_, ?_, by omega, by decide, by decide⟩, by omega, fun z => ?_⟩
    · rcases List.mem_append.mp hx with z | z
      · exact (s1 x z).1.mono (by decide)
      · rw [List.mem_singleton.mp z]
        exact nought
    · rcases hs with rfl | rfl
      · exact ⟨⟨⟨by decide, by decide⟩, by unfold Sm; decide, by unfold Sm; decide⟩, by decide, by decide⟩
      · exact ⟨⟨⟨by decide, by decide⟩, by unfold Sm; decide, by unfold Sm; decide⟩, by decide, by decide⟩
    · have := congrArg List.length z
      simp at this

end Fp

set_option Elab.async false
set_option linter.all false
set_option maxRecDepth 100000
set_option maxHeartbeats 4000000
set_option exponentiation.threshold 10000
namespace Fp
open PySem PySem.Spec PyProof.Rows L2
/-! ### a life cut at a beat -/
theorem ch_ex {row : List RT} {step : RT} {n : Nat} (L : LifeOk n row step) : ∀ i, ∃ x, SmR (n + 5 * i) x ∧ qv x = chR row step i := by
  intro i
  induction i with
  | zero =>
    rcases Classical.em (0 < row.length) with hi | hi
    · exact ⟨row[0], (L.sm _ (List.getElem_mem hi)).mono (by omega), (chR_in (List.getElem?_eq_getElem hi)).symm⟩
    · have er : row = [] := List.length_eq_zero_iff.mp (by omega)
      subst er
      exact ⟨(0, 1), SmR.mono (n := 1) ⟨⟨by decide, by decide⟩, by unfold Sm; decide, by unfold Sm; decide⟩ (by have := L.n1; omega), by rw [chR_nil, qv_nought]⟩
  | succ j ih =>
    rcases Classical.em (j + 1 < row.length) with hi | hi
    · exact ⟨row[j + 1], (L.sm _ (List.getElem_mem hi)).mono (by omega), (chR_in (List.getElem?_eq_getElem hi)).symm⟩
    · rcases Classical.em (row = []) with er | er
      · subst er
        exact ⟨(0, 1), SmR.mono (n := 1) ⟨⟨by decide, by decide⟩, by unfold Sm; decide, by unfold Sm; decide⟩ (by have := L.n1; omega), by rw [chR_nil, qv_nought]⟩
      · obtain ⟨x, h1, h2⟩ := ih
        refine ⟨rT x step, (rT_sm h1 L.st.1).mono (by omega), ?_⟩
        rw [(qv_rT h1.1 L.st.1.1).2, h2, chR_next (by omega) er]
def chsR (row : List RT) (step : RT) (m : Nat) : List RT := (List.range m).map fun k => rdq (chR row step k)
def cutR (row : List RT) (step : RT) (m : Nat) : List RT := chsR row step m ++ [rdq (1 - sumCh row step m)]
theorem chsR_at {row : List RT} {step : RT} {m i : Nat} {x : RT} (h : (chsR row step m)[i]? = some x) : i < m ∧ x = rdq (chR row step i) := by
  unfold chsR at h
  rw [List.getElem?_map] at h
  rcases Classical.em (i < m) with z | z
  · rw [List.getElem?_range z] at h
    exact ⟨z, (Option.some.inj h).symm⟩
  · rw [List.getElem?_eq_none (by rw [List.length_range]; omega)] at h
    cases h
theorem chsR_len {row : List RT} {step : RT} {m : Nat} : (chsR row step m).length = m := by
  unfold chsR
  rw [List.length_map, List.length_range]
theorem IsCh.is {row : List RT} {step : RT} {n m : Nat} {chs : List RT} (h : IsCh row step n m chs) : chs = chsR row step m := by
  refine List.ext_getElem (by rw [h.len, chsR_len]) fun i h1 h2 => ?_
  have e1 := h.ok i _ (List.getElem?_eq_getElem h1)
  have e2 := chsR_at (List.getElem?_eq_getElem h2)
  rw [e2.2]
  exact is_rdq e1.1.1 e1.2
theorem ch_all {row : List RT} {step : RT} {n : Nat} (L : LifeOk n row step) (m : Nat) : IsCh row step n m (chsR row step m) := by
  refine ⟨chsR_len, fun i x hx => ?_⟩
  obtain ⟨_, rfl⟩ := chsR_at hx
  obtain ⟨y, h1, h2⟩ := ch_ex L i
  rw [← is_rdq h1.1 h2]
  exact ⟨h1, h2⟩
theorem chsR_sm {row : List RT} {step : RT} {n m : Nat} (L : LifeOk n row step) (hm : m ≤ 70) : ∀ x ∈ chsR row step m, SmR 500 x := by
  intro x hx
  obtain ⟨i, hi⟩ := List.mem_iff_getElem?.mp hx
  have := (chsR_at hi).1
  have := L.n64
  exact ((ch_all L m).ok i x hi).1.mono (by omega)
theorem cut_sm {row : List RT} {step : RT} {n m : Nat} (L : LifeOk n row step) (hm : m ≤ 70) : ∀ x ∈ cutR row step m, SmR 1900 x := by
  intro x hx
  rcases List.mem_append.mp hx with z | z
  · exact (chsR_sm L hm x z).mono (by decide)
  · rw [List.mem_singleton.mp z]
    have I := ch_all L m
    have O := over_ch L.sm L.st.1 L.len L.n64 hm I
    have hs := tops_sum O.pos (xs := chsR row step m) fun y hy => ⟨(O.ok y hy).1, (O.ok y hy).2.1⟩
    have hb := tops_sm O.pos O.pos (Int.dvd_refl _) O.sm (xs := chsR row step m) fun y hy => ⟨(O.ok y hy).1, (O.ok y hy).2.2⟩
    rw [I.sum] at hs
    have hD := O.pos
    have sD := O.sm
    generalize prodB row * step.2 ^ m = D at hs hb hD sD
    generalize (topsOn D (chsR row step m)).sum = T at hs hb
    have sT : Sm 1800 T := by
      unfold Sm
      refine Nat.lt_of_le_of_lt hb ?_
      rw [chsR_len]
      have h64 := L.n64
      have e1 : m * 2 ^ (n + 350 + 1300) ≤ 70 * 2 ^ (64 + 350 + 1300) := Nat.mul_le_mul hm (Nat.pow_le_pow_right (by decide) (by omega))
      exact Nat.lt_of_le_of_lt e1 (by decide)
    have sN : Sm 1801 (D - T) := (sD.mono (show 1300 ≤ 1800 by decide)).sub sT
    have sy : SmR 1801 (low2 (D - T) D) := low2_sm hD sN (sD.mono (by decide))
    have e : low2 (D - T) D = rdq (1 - sumCh row step m) := by
      refine is_rdq sy.1 ?_
      rw [qv_low2 hD, ← hs, Rat.intCast_sub]
      have := cast_ne (Int.ne_of_gt hD)
      grind
    rw [← e]
    exact sy.mono (by decide)
/-- each one with noughts before it -/
def wideR (m : Nat) (row : List RT) : List RT := row.flatMap fun x => List.replicate m ((0 : Int), (1 : Int)) ++ [x]
theorem wide_snoc {m : Nat} {xs : List RT} {x : RT} : wideR m (xs ++ [x]) = wideR m xs ++ (List.replicate m (0, 1) ++ [x]) := by
  unfold wideR
  rw [List.flatMap_append]
  simp
theorem wide_mem {m : Nat} {row : List RT} {x : RT} (h : x ∈ wideR m row) : x = (0, 1) ∨ x ∈ row := by
  unfold wideR at h
  obtain ⟨y, h1, h2⟩ := List.mem_flatMap.mp h
  rcases List.mem_append.mp h2 with z | z
  · exact .inl (List.eq_of_mem_replicate z)
  · rw [List.mem_singleton.mp z]
    exact .inr h1
theorem wide_len {m : Nat} : ∀ {row : List RT}, (wideR m row).length = row.length * (m + 1)
  | [] => by
    show 0 = 0 * (m + 1)
    omega
  | x :: r => by
    show ((List.replicate m (0, 1) ++ [x]) ++ wideR m r).length = _
    rw [List.length_append, List.length_append, List.length_replicate, List.length_singleton, wide_len, List.length_cons, Nat.add_mul]
    omega
theorem take_snoc {α : Type} {xs : List α} {i : Nat} {x : α} (h : xs[i]? = some x) : xs.take (i + 1) = xs.take i ++ [x] := by
  rw [List.take_add_one, h]
  rfl
theorem nought_sm {n : Nat} (h : 1 ≤ n) : SmR n (0, 1) := SmR.mono (n := 1) ⟨⟨by decide, by decide⟩, by unfold Sm; decide, by unfold Sm; decide⟩ h
theorem nought_step {n : Nat} (h : 1 ≤ n) : StepOk n (0, 1) := ⟨nought_sm h, by decide, by decide⟩

end Fp

set_option Elab.async false
set_option linter.all false
set_option maxRecDepth 100000
set_option maxHeartbeats 4000000
set_option exponentiation.threshold 10000
namespace Fp
open PySem PySem.Spec PyProof.Rows L2
/-! ### chances of drawn lives are from nought to one -/
theorem div_01 {t b : Int} (h0 : 0 ≤ t) (hb : 0 < b) (h : t ≤ b) : (0 : Rat) ≤ (t : Rat) / (b : Rat) ∧ (t : Rat) / (b : Rat) ≤ 1 := by
  have hc : (0 : Rat) < (b : Rat) := Rat.intCast_pos.mpr hb
  have ht : (0 : Rat) ≤ (t : Rat) := Rat.intCast_nonneg.mpr h0
  have hl : (t : Rat) ≤ (b : Rat) := Rat.intCast_le_intCast.mpr h
  have hi : (0 : Rat) ≤ (b : Rat)⁻¹ := Rat.le_of_lt (Rat.inv_pos.mpr hc)
  rw [Rat.div_def]
  refine ⟨Rat.mul_nonneg ht hi, ?_⟩
  have := Rat.mul_le_mul_of_nonneg_right hl hi
  have e : (b : Rat) * (b : Rat)⁻¹ = 1 := Rat.mul_inv_cancel _ (Rat.ne_of_gt hc)
  rw [e] at this
  exact this
theorem mem_sum : ∀ {ws : List Int}, (∀ x ∈ ws, 0 ≤ x ∧ x ≤ 5) → ∀ y ∈ ws, y ≤ ws.sum
  | [], _, y, hy => by simp at hy
  | x :: r, h, y, hy => by
    have h1 := h x (List.mem_cons_self ..)
    have h2 := (sum_bound (ws := r) fun z hz => h z (List.mem_cons_of_mem _ hz)).1
    rw [List.sum_cons]
    rcases List.mem_cons.mp hy with z | z
    · omega
    · have := mem_sum (ws := r) (fun z hz => h z (List.mem_cons_of_mem _ hz)) y z
      omega
theorem mul_01 {p q : Rat} (hp : 0 ≤ p ∧ p ≤ 1) (hq : 0 ≤ q ∧ q ≤ 1) : 0 ≤ p * q ∧ p * q ≤ 1 := by
  refine ⟨Rat.mul_nonneg hp.1 hq.1, ?_⟩
  have := Rat.mul_le_mul_of_nonneg_right hp.2 hq.1
  have h2 := hq.2
  grind
theorem pow_01 {q : Rat} (hq : 0 ≤ q ∧ q ≤ 1) : ∀ k : Nat, 0 ≤ q ^ k ∧ q ^ k ≤ 1
  | 0 => by
    rw [Rat.pow_zero]
    exact ⟨by decide, Rat.le_refl⟩
  | k + 1 => by
    rw [Rat.pow_succ]
    exact mul_01 (pow_01 hq k) hq
theorem BaseLife.q01 {row : List RT} {step : RT} (h : BaseLife row step) : (∀ x ∈ row, 0 ≤ qv x ∧ qv x ≤ 1) ∧ 0 ≤ qv step ∧ qv step ≤ 1 := by
  have hs := h.sm
  refine ⟨fun x hx => ?_, div_01 hs.2.2.1 hs.2.1.1.1 (Int.le_of_lt hs.2.2.2)⟩
  rcases h with ⟨ws, extra, m, rfl⟩ | ⟨rfl, rfl⟩
  · obtain ⟨w0, _⟩ := m.whole
    unfold rowOf at hx
    obtain ⟨y, hy, rfl⟩ := List.mem_map.mp hx
    rw [qv_low2 w0]
    have h1 := (m.nn y hy).1
    have hd : 0 ≤ step.2 - step.1 := by
      have := hs.2.2.2
      omega
    refine div_01 (Int.mul_nonneg hd h1) w0 ?_
    have h2 := mem_sum m.nn y hy
    have h3 : (step.2 - step.1) * y ≤ (step.2 - step.1) * (ws.sum + extra) := Int.mul_le_mul_of_nonneg_left (by have := m.ex.1; omega) hd
    have h4 : 0 ≤ step.1 * lastW ws := Int.mul_nonneg hs.2.2.1 (Int.le_of_lt m.last)
    unfold wholeOf
    omega
  · simp at hx
theorem AnyLife.q01 {row : List RT} {step : RT} (h : AnyLife row step) : (∀ x ∈ row, 0 ≤ qv x ∧ qv x ≤ 1) ∧ 0 ≤ qv step ∧ qv step ≤ 1 := by
  rcases h with h | ⟨row0, l, h, h5, hs, hl, rfl⟩ | ⟨row0, h, h5, rfl, hs⟩
  · exact h.q01
  · obtain ⟨q1, q2⟩ := h.q01
    obtain ⟨s1, s2, _, _⟩ := h.sm
    refine ⟨fun x hx => ?_, q2⟩
    rcases List.mem_append.mp hx with z | z
    · exact q1 x z
    · rw [List.mem_singleton.mp z]
      have hm := List.mem_of_getElem? hl
      rw [(qv_rT (s1 l hm).1.1 s2.1).2]
      exact mul_01 (q1 l hm) q2
  · obtain ⟨q1, q2⟩ := h.q01
    refine ⟨fun x hx => ?_, ?_⟩
    · rcases List.mem_append.mp hx with z | z
      · exact q1 x z
      · rw [List.mem_singleton.mp z, qv_nought]
        exact ⟨Rat.le_refl, by decide⟩
    · rcases hs with rfl | rfl
      · exact div_01 (by decide) (by decide) (by decide)
      · exact div_01 (by decide) (by decide) (by decide)
theorem chR_01 {row : List RT} {step : RT} (h1 : ∀ x ∈ row, 0 ≤ qv x ∧ qv x ≤ 1) (h2 : 0 ≤ qv step ∧ qv step ≤ 1) (i : Nat) : 0 ≤ chR row step i ∧ chR row step i ≤ 1 := by
  match e : row[i]? with
  | some x =>
    rw [chR_in e]
    exact h1 x (List.mem_of_getElem? e)
  | none =>
    have hle : row.length ≤ i := List.getElem?_eq_none_iff.mp e
    match el : row.getLast? with
    | none =>
      rw [List.getLast?_eq_none_iff.mp el, chR_nil]
      exact ⟨Rat.le_refl, by decide⟩
    | some l =>
      rw [chR_out hle el]
      exact mul_01 (h1 l (List.mem_of_getLast? el)) (pow_01 h2 _)
theorem AnyLife.step4 {row : List RT} {step : RT} (h : AnyLife row step) : 0 < step.2 ∧ step.2 ≤ 4 := by
  have b : ∀ {row : List RT} {step : RT}, BaseLife row step → 0 < step.2 ∧ step.2 ≤ 4 := fun h => by
    rcases h with ⟨ws, extra, m, _⟩ | ⟨_, rfl⟩
    · rcases m.st with rfl | rfl | rfl | rfl | rfl <;> decide
    · decide
  rcases h with h | ⟨_, _, h, _⟩ | ⟨_, _, _, _, hs⟩
  · exact b h
  · exact b h
  · rcases hs with rfl | rfl <;> decide
theorem pow_four {x : Int} (h : 0 < x ∧ x ≤ 4) : ∀ k : Nat, 0 < x ^ k ∧ x ^ k ≤ 4 ^ k
  | 0 => by
    rw [Int.pow_zero, Int.pow_zero]
    decide
  | k + 1 => by
    obtain ⟨h1, h2⟩ := pow_four h k
    rw [Int.pow_succ, Int.pow_succ]
    exact ⟨Int.mul_pos h1 h.1, Int.mul_le_mul h2 h.2 (Int.le_of_lt h.1) (Int.le_of_lt (Int.lt_of_lt_of_le h1 h2))⟩
theorem AnyLife.ch01 {row : List RT} {step : RT} (h : AnyLife row step) : ∃ D : Int, Ch01 D (chR row step) 20 := by
  obtain ⟨W, hW⟩ := h.w
  obtain ⟨L, _, _⟩ := h.ok
  obtain ⟨q1, q2⟩ := h.q01
  have sm20 : Sm 41 (step.2 ^ 20) := by
    obtain ⟨z1, z2⟩ := pow_four h.step4 20
    have e : (4 : Int) ^ 20 = 1099511627776 := by decide
    have e2 : (2 : Nat) ^ 41 = 2199023255552 := by decide
    unfold Sm
    rw [e2]
    rw [e] at z2
    omega
  have hD : 0 < W * step.2 ^ 20 := Int.mul_pos hW.pos (Int.pow_pos L.st.1.1.1)
  refine ⟨W * step.2 ^ 20, hD, (hW.sm.mul (show Sm 41 (step.2 ^ 20) from sm20)).mono (by decide), fun k _ => (chR_01 q1 q2 k).1, fun k _ => (chR_01 q1 q2 k).2, fun k hk => ?_⟩
  obtain ⟨x, sx, vx⟩ := ch_ex L k
  rw [← vx]
  exact Den.of hD sx.1.1 (ch_dvdW hW.dvd L.sm L.st.1.1 sx.1 vx hk)

end Fp

set_option Elab.async false
set_option linter.all false
set_option maxRecDepth 100000
set_option maxHeartbeats 4000000
set_option exponentiation.threshold 10000
namespace Fp
open PySem PySem.Spec PyProof.Rows L2
/-! ### the law's own puts -/
abbrev N_lp : List Str := ["_law_life_here", "_law_most_here", "_law_some", "_law_n", "_law_here"]
def retScope (b : List Stmt) (d : Scope) : Scope := match b with
  | [_, .Return (some (.ListComp _ _ sc _)) _] => sc
  | _ => d
section
variable {P : Program} {w : World} {K : PySem.W.Frag} {mg : Str → Option Value} {base : Heap}
def spLmost : Sp := fun vs H Q _ => ∃ (d c : Addr) (t : Int), vs = [.ref d] ∧ Feed H d c t ∧ t ≤ 800000 ∧ ∀ (r : Nat) H', r ≤ 20 → Keep d H H' → Feed H' d c (t + 1 + 1) → Q (.int (r : Int)) H'
def spLputs (K : PySem.W.Frag) : Sp := fun vs H Q _ => ∃ (p : Addr) (row : List RT) (step : RT) (n most : Nat) (D : Int), vs = [.ref p, .int (most : Int)] ∧ LifeAt K H p row step ∧ LifeOk n row step ∧ (row = [] → step = (0, 1)) ∧ Ch01 D (chR row step) 20 ∧ most ≤ 20 ∧
  ∀ z H', Same H H' → LsM K H' z (mkL (most + 1) (putQ row step)) → Q (.ref z) H'
theorem mkL_succ {i : Nat} {g : Nat → Rat} : mkL (i + 1) g = mkL i g ++ [rdq (g i)] := by
  unfold mkL
  rw [List.range_succ, List.map_append]
  rfl
theorem mkL_sum {n : Nat} {g : Nat → Rat} : ((mkL n g).map qv).sum = sumTo n g := by
  induction n with
  | zero => rfl
  | succ n ih =>
    rw [mkL_succ, List.map_append, sumTo_succ, ← ih]
    simp only [List.map_cons, List.map_nil]
    rw [sum_snoc, qv_rdq]
end

end Fp

set_option Elab.async false
set_option linter.all false
set_option maxRecDepth 100000
set_option maxHeartbeats 4000000
set_option exponentiation.threshold 10000
namespace Fp
open PySem PySem.Spec PyProof.Rows L2
/-! ### what is told anew is what is told times the puts -/
theorem tri_swap (f : Nat → Nat → Rat) : ∀ n, sumTo n (fun k => sumTo (n - k) (f k)) = sumTo n fun j => sumTo (n - j) fun k => f k j := by
  have key : ∀ (g : Nat → Nat → Rat) (n : Nat), sumTo (n + 1) (fun k => sumTo (n + 1 - k) (g k)) = sumTo n (fun k => sumTo (n - k) (g k)) + sumTo (n + 1) fun k => g k (n - k) := by
    intro g n
    rw [sumTo_succ, sumTo_succ (f := fun k => g k (n - k))]
    have e1 : sumTo n (fun k => sumTo (n + 1 - k) (g k)) = sumTo n (fun k => sumTo (n - k) (g k)) + sumTo n fun k => g k (n - k) := by
      rw [← sumTo_add]
      refine sumTo_congr fun k hk => ?_
      rw [show n + 1 - k = (n - k) + 1 by omega, sumTo_succ]
    have e2 : sumTo (n + 1 - n) (g n) = g n (n - n) := by
      rw [show n + 1 - n = 0 + 1 by omega, sumTo_succ, sumTo_zero, Nat.sub_self]
      grind
    rw [e1, e2]
    grind
  intro n
  induction n with
  | zero => rfl
  | succ n ih =>
    rw [key f n, key (fun j k => f k j) n, ih]
    congr 1
    have := sumTo_rev (n + 1) fun k => f k (n - k)
    rw [← this]
    refine sumTo_congr fun k hk => ?_
    rw [show n - (n + 1 - 1 - k) = k by omega, show n + 1 - 1 - k = n - k by omega]
theorem conv (a b : Nat → Rat) : ∀ n, renQ a b n = sumTo (n + 1) fun k => b k * renQ a oneAt (n - k) := by
  intro n
  induction n using Nat.strongRecOn with
  | ind n ih =>
    have p0 : renQ a oneAt 0 = 1 := by
      rw [renQ_is, sumTo_zero]
      show (1 : Rat) + 0 = 1
      grind
    rw [renQ_is a b n, sumTo_succ, Nat.sub_self, p0]
    have e : sumTo n (fun k => b k * renQ a oneAt (n - k)) = sumTo n fun k => sumTo (n - k) fun j => a j * (b k * renQ a oneAt (n - k - 1 - j)) := by
      refine sumTo_congr fun k hk => ?_
      rw [renQ_is a oneAt (n - k)]
      have : oneAt (n - k) = 0 := if_neg (by omega)
      rw [this]
      have e2 : sumTo (n - k) (fun j => a j * (b k * renQ a oneAt (n - k - 1 - j))) = b k * sumTo (n - k) fun j => a j * renQ a oneAt (n - k - 1 - j) := by
        rw [sumTo_mul]
        refine sumTo_congr fun j _ => ?_
        grind
      rw [e2]
      grind
    rw [e, tri_swap fun k j => a j * (b k * renQ a oneAt (n - k - 1 - j))]
    have e3 : (sumTo n fun j => sumTo (n - j) fun k => a j * (b k * renQ a oneAt (n - k - 1 - j))) = sumTo n fun j => a j * renQ a b (n - 1 - j) := by
      refine sumTo_congr fun j hj => ?_
      rw [← sumTo_mul, ih (n - 1 - j) (by omega), show n - 1 - j + 1 = n - j by omega]
      congr 1
      refine sumTo_congr fun k hk => ?_
      rw [show n - 1 - j - k = n - k - 1 - j by omega]
    rw [e3]
    grind
/-- told one beat later -/
def laterF (c : Nat → Rat) : Nat → Rat
  | 0 => 0
  | k + 1 => c k
theorem conv_later (a c : Nat → Rat) (n : Nat) : renQ a (laterF c) n = sumTo n fun k => c k * renQ a oneAt (n - 1 - k) := by
  rw [conv, sumTo_head]
  have e : (sumTo n fun j => laterF c (j + 1) * renQ a oneAt (n - (j + 1))) = sumTo n fun k => c k * renQ a oneAt (n - 1 - k) := by
    refine sumTo_congr fun k hk => ?_
    rw [show n - (k + 1) = n - 1 - k by omega]
    rfl
  rw [e]
  show (0 : Rat) * _ + _ = _
  grind

end Fp

set_option Elab.async false
set_option linter.all false
set_option maxRecDepth 100000
set_option maxHeartbeats 4000000
set_option exponentiation.threshold 10000
namespace Fp
open PySem PySem.Spec PyProof.Rows L2
/-! ### how great puts are -/
/-- a whole number over P -/
def Ov (P : Int) (q : Rat) : Prop := ∃ T : Int, q = (T : Rat) / (P : Rat)
theorem Ov.red {P : Int} {q : Rat} {s k : Nat} (hP : 0 < P) (h : Ov P q) (sP : Sm s P) (h0 : 0 ≤ q) (h1 : q ≤ 2 ^ k) : (rdq q).2 ∣ P ∧ Sm (s + k + 1) (rdq q).1 ∧ Sm s (rdq q).2 := by
  obtain ⟨T, hT⟩ := h
  have hc := cast_ne (Int.ne_of_gt hP)
  obtain ⟨r1, r2⟩ := red_small (rdq_red q) hP (by rw [qv_rdq]; exact hT)
  refine ⟨r1, ?_, dvd_small r1 hP sP⟩
  have hcp : (0 : Rat) < (P : Rat) := Rat.intCast_pos.mpr hP
  have e1 : (T : Rat) = q * (P : Rat) := by
    rw [hT]
    grind
  have t0 : 0 ≤ T := by
    have := Rat.mul_nonneg h0 (Rat.le_of_lt hcp)
    rw [← e1] at this
    exact Rat.intCast_nonneg.mp this
  have t1 : T ≤ 2 ^ k * P := by
    have := Rat.mul_le_mul_of_nonneg_right h1 (Rat.le_of_lt hcp)
    rw [← e1] at this
    have e2 : (2 : Rat) ^ k * (P : Rat) = ((2 ^ k * P : Int) : Rat) := by
      rw [Rat.intCast_mul, cast_pow 2 k]
      rfl
    rw [e2] at this
    exact Rat.intCast_le_intCast.mp this
  unfold Sm at *
  have t2 : T.natAbs ≤ 2 ^ k * P.natAbs := by
    have : (2 ^ k * P : Int).natAbs = 2 ^ k * P.natAbs := by
      rw [Int.natAbs_mul, Int.natAbs_pow]
      rfl
    omega
  have t3 : 2 ^ k * P.natAbs ≤ 2 ^ k * 2 ^ s := Nat.mul_le_mul_left _ (Nat.le_of_lt sP)
  have t4 : 2 ^ (s + k + 1) = 2 * (2 ^ k * 2 ^ s) := by
    rw [Nat.pow_succ, Nat.pow_add, Nat.mul_comm, Nat.mul_comm (2 ^ s)]
  have t5 : 0 < 2 ^ k * 2 ^ s := Nat.mul_pos (Nat.pow_pos (by decide)) (Nat.pow_pos (by decide))
  omega
theorem Ov.zero {P : Int} : Ov P 0 := ⟨0, by
  show (0 : Rat) = ((0 : Int) : Rat) / _
  rw [show ((0 : Int) : Rat) = 0 from rfl]
  grind⟩
theorem Ov.add {P : Int} {p q : Rat} (hP : 0 < P) (hp : Ov P p) (hq : Ov P q) : Ov P (p + q) := by
  obtain ⟨T, rfl⟩ := hp
  obtain ⟨S, rfl⟩ := hq
  refine ⟨T + S, ?_⟩
  have h2 := cast_ne (Int.ne_of_gt hP)
  rw [Rat.intCast_add]
  grind
theorem Ov.sum {P : Int} (hP : 0 < P) {n : Nat} {g : Nat → Rat} (h : ∀ j, j < n → Ov P (g j)) : Ov P (sumTo n g) := by
  induction n with
  | zero => exact Ov.zero
  | succ n ih =>
    rw [sumTo_succ]
    exact (ih fun j hj => h j (by omega)).add hP (h n (by omega))
theorem Den.ov {D : Int} {e : Nat} {q : Rat} (h : Den D e q) : Ov (D ^ e) q := h
theorem Ov.mul {P R : Int} {p q : Rat} (hP : 0 < P) (hR : 0 < R) (hp : Ov P p) (hq : Ov R q) : Ov (P * R) (p * q) := by
  obtain ⟨T, rfl⟩ := hp
  obtain ⟨S, rfl⟩ := hq
  refine ⟨T * S, ?_⟩
  have h1 := cast_ne (Int.ne_of_gt hP)
  have h2 := cast_ne (Int.ne_of_gt hR)
  rw [Rat.intCast_mul, Rat.intCast_mul]
  grind
section
variable {D : Int} {a : Nat → Rat} {M : Nat}
/-- puts: from nought to a power of two, over a power of the one number -/
theorem Ch01.put (h : Ch01 D a M) : ∀ n, n ≤ M → 0 ≤ renQ a oneAt n ∧ renQ a oneAt n ≤ 2 ^ n ∧ Den D n (renQ a oneAt n) := by
  have pp : ∀ m : Nat, (0 : Rat) < 2 ^ m := fun m => Rat.pow_pos (by decide)
  intro n
  induction n using Nat.strongRecOn with
  | ind n ih =>
    intro hn
    cases n with
    | zero =>
      have e : renQ a oneAt 0 = 1 := by
        rw [renQ_is, sumTo_zero]
        show (1 : Rat) + 0 = 1
        grind
      rw [e, Rat.pow_zero]
      refine ⟨by decide, Rat.le_refl, 1, ?_⟩
      rw [Int.pow_zero]
      grind
    | succ n =>
      have e : renQ a oneAt (n + 1) = sumTo (n + 1) fun j => a j * renQ a oneAt (n + 1 - 1 - j) := by
        rw [renQ_is]
        show (0 : Rat) + _ = _
        grind
      rw [e]
      refine ⟨?_, ?_, Den.sum h.pos fun j hj => ?_⟩
      · have := sumTo_le (n := n + 1) (f := fun _ => 0) (g := fun j => a j * renQ a oneAt (n + 1 - 1 - j)) fun j hj => Rat.mul_nonneg (h.ge j (by omega)) (ih (n + 1 - 1 - j) (by omega) (by omega)).1
        rw [sumTo_nought] at this
        exact this
      · have h2 : sumTo (n + 1) (fun j => a j * renQ a oneAt (n + 1 - 1 - j)) ≤ sumTo (n + 1) fun j => (2 : Rat) ^ (n + 1 - 1 - j) := sumTo_le fun j hj => by
          obtain ⟨i1, i2, _⟩ := ih (n + 1 - 1 - j) (by omega) (by omega)
          have h3 := Rat.mul_le_mul_of_nonneg_right (h.le j (by omega)) i1
          grind
        rw [sumTo_rev (n + 1) fun k => (2 : Rat) ^ k, two_sum] at h2
        grind
      · have := (h.den j (by omega)).mul h.pos (ih (n + 1 - 1 - j) (by omega) (by omega)).2.2
        exact this.mono h.pos (by omega)
end
/-- behind a first: over the product, from nought to a power of two -/
theorem after_ok {D D2 : Int} {a c : Nat → Rat} (h : Ch01 D a 20) (h2 : Ch01 D2 c 20) {n : Nat} (hn : n ≤ 20) : 0 ≤ renQ a (laterF c) n ∧ renQ a (laterF c) n ≤ 2 ^ n ∧ Ov (D2 * D ^ 20) (renQ a (laterF c) n) := by
  rw [conv_later]
  have hP : (0 : Int) < D ^ 20 := Int.pow_pos h.pos
  refine ⟨?_, ?_, Ov.sum (Int.mul_pos h2.pos hP) fun j hj => ?_⟩
  · have := sumTo_le (n := n) (f := fun _ => 0) (g := fun k => c k * renQ a oneAt (n - 1 - k)) fun j hj => Rat.mul_nonneg (h2.ge j (by omega)) (h.put (n - 1 - j) (by omega)).1
    rw [sumTo_nought] at this
    exact this
  · have h3 : sumTo n (fun k => c k * renQ a oneAt (n - 1 - k)) ≤ sumTo n fun j => (2 : Rat) ^ (n - 1 - j) := sumTo_le fun j hj => by
      obtain ⟨i1, i2, _⟩ := h.put (n - 1 - j) (by omega)
      have h4 := Rat.mul_le_mul_of_nonneg_right (h2.le j (by omega)) i1
      grind
    rw [sumTo_rev n fun k => (2 : Rat) ^ k, two_sum] at h3
    grind
  · have e1 := (h2.den j (by omega)).ov
    rw [Int.pow_succ, Int.pow_zero, Int.one_mul] at e1
    exact e1.mul h2.pos hP ((h.put (n - 1 - j) (by omega)).2.2.mono h.pos (show n - 1 - j ≤ 20 by omega)).ov
theorem cutV_from1 (vs : List V) : cutV vs (some 1) none = vs.drop 1 := by
  unfold cutV
  rw [HT.sIx_none, show (1 : Int) = ((1 : Nat) : Int) from rfl, HT.sIx_nat]
  rcases (by omega : 1 ≤ vs.length ∨ vs.length = 0) with z | z
  · rw [Nat.min_eq_left z, List.take_of_length_le (by rw [List.length_drop]; exact Nat.le_refl _)]
  · rw [List.length_eq_zero_iff.mp z]
    rfl

end Fp

set_option Elab.async false
set_option linter.all false
set_option maxRecDepth 100000
set_option maxHeartbeats 4000000
set_option exponentiation.threshold 10000
namespace Fp
open PySem PySem.Spec PyProof.Rows L2
/-! ### values with their size -/
/-- a whole number over P, within the k-th power of two -/
structure Sz (P : Int) (k : Nat) (q : Rat) : Prop where
  ov : Ov P q
  lo : -((2 : Rat) ^ k) ≤ q
  hi : q ≤ (2 : Rat) ^ k
theorem two_pos (k : Nat) : (0 : Rat) < (2 : Rat) ^ k := Rat.pow_pos (by decide)
theorem Sz.pos {P : Int} {k : Nat} {q : Rat} (h : Ov P q) (h0 : 0 ≤ q) (h1 : q ≤ (2 : Rat) ^ k) : Sz P k q := ⟨h, by have := two_pos k; grind, h1⟩
theorem Sz.mono {P : Int} {k j : Nat} {q : Rat} (h : Sz P k q) (l : k ≤ j) : Sz P j q := by
  have e := pow2_le l
  have h1 := h.lo
  have h2 := h.hi
  exact ⟨h.ov, by grind, by grind⟩
theorem Sz.neg {P : Int} {k : Nat} {q : Rat} (h : Sz P k q) : Sz P k (-q) := by
  obtain ⟨⟨T, hT⟩, h1, h2⟩ := h
  refine ⟨⟨-T, ?_⟩, by grind, by grind⟩
  rw [hT, Rat.intCast_neg]
  grind
theorem Sz.add {P : Int} {k : Nat} {p q : Rat} (hP : 0 < P) (h1 : Sz P k p) (h2 : Sz P k q) : Sz P (k + 1) (p + q) := by
  have a1 := h1.lo
  have a2 := h1.hi
  have b1 := h2.lo
  have b2 := h2.hi
  refine ⟨h1.ov.add hP h2.ov, ?_, ?_⟩ <;> (rw [Rat.pow_succ]; grind)
theorem Sz.mul {P R : Int} {k j : Nat} {p q : Rat} (hP : 0 < P) (hR : 0 < R) (h1 : Sz P k p) (h2 : Sz R j q) : Sz (P * R) (k + j) (p * q) := by
  have a1 : 0 ≤ (2 : Rat) ^ k + p := by have := h1.lo; grind
  have a2 : 0 ≤ (2 : Rat) ^ k - p := by have := h1.hi; grind
  have b1 : 0 ≤ (2 : Rat) ^ j + q := by have := h2.lo; grind
  have b2 : 0 ≤ (2 : Rat) ^ j - q := by have := h2.hi; grind
  have x1 := Rat.mul_nonneg a1 b1
  have x2 := Rat.mul_nonneg a1 b2
  have x3 := Rat.mul_nonneg a2 b1
  have x4 := Rat.mul_nonneg a2 b2
  refine ⟨h1.ov.mul hP hR h2.ov, ?_, ?_⟩ <;> (rw [pow_plus]; grind)
theorem Ov.dvd {P R : Int} {q : Rat} (h : Ov P q) (hP : 0 < P) (hR : 0 < R) (d : P ∣ R) : Ov R q := by
  obtain ⟨T, rfl⟩ := h
  obtain ⟨u, rfl⟩ := d
  refine ⟨T * u, ?_⟩
  have h1 := cast_ne (Int.ne_of_gt hP)
  have h2 := cast_ne (Int.ne_of_gt hR)
  rw [Rat.intCast_mul] at h2
  rw [Rat.intCast_mul, Rat.intCast_mul]
  grind
theorem Sz.dvd {P R : Int} {k : Nat} {q : Rat} (h : Sz P k q) (hP : 0 < P) (hR : 0 < R) (d : P ∣ R) : Sz R k q := ⟨h.ov.dvd hP hR d, h.lo, h.hi⟩
theorem Sz.sum {P : Int} {k n : Nat} {g : Nat → Rat} (hP : 0 < P) (h : ∀ j, j < n → Sz P k (g j)) (hn : n ≤ 128) : Sz P (k + 7) (sumTo n g) := by
  have key : ∀ m : Nat, m ≤ n → -(((m : Int) : Rat) * (2 : Rat) ^ k) ≤ sumTo m g ∧ sumTo m g ≤ ((m : Int) : Rat) * (2 : Rat) ^ k := by
    intro m
    induction m with
    | zero =>
      intro _
      rw [sumTo_zero, show (((0 : Nat) : Int) : Rat) = 0 from rfl]
      constructor <;> grind
    | succ m ih =>
      intro hm
      obtain ⟨i1, i2⟩ := ih (by omega)
      have z := h m (by omega)
      have z1 := z.lo
      have z2 := z.hi
      rw [sumTo_succ, show ((m + 1 : Nat) : Int) = (m : Int) + 1 by omega, Rat.intCast_add]
      rw [show ((1 : Int) : Rat) = 1 from rfl]
      constructor <;> grind
  obtain ⟨k1, k2⟩ := key n (Nat.le_refl _)
  have e : ((n : Int) : Rat) * (2 : Rat) ^ k ≤ (2 : Rat) ^ (k + 7) := by
    rw [pow_plus]
    have l : ((n : Int) : Rat) ≤ ((128 : Int) : Rat) := Rat.intCast_le_intCast.mpr (by omega)
    have := Rat.mul_le_mul_of_nonneg_right l (Rat.le_of_lt (two_pos k))
    have e2 : (2 : Rat) ^ 7 = ((128 : Int) : Rat) := by decide +kernel
    rw [e2]
    grind
  exact ⟨Ov.sum hP fun j hj => (h j hj).ov, by grind, by grind⟩
theorem Sz.red {P : Int} {q : Rat} {s k : Nat} (h : Sz P k q) (hP : 0 < P) (sP : Sm s P) : (rdq q).2 ∣ P ∧ Sm (s + k + 1) (rdq q).1 ∧ Sm s (rdq q).2 := by
  obtain ⟨⟨T, hT⟩, h0, h1⟩ := h
  have hc := cast_ne (Int.ne_of_gt hP)
  obtain ⟨r1, r2⟩ := red_small (rdq_red q) hP (by rw [qv_rdq]; exact hT)
  refine ⟨r1, ?_, dvd_small r1 hP sP⟩
  have hcp : (0 : Rat) < (P : Rat) := Rat.intCast_pos.mpr hP
  have e1 : (T : Rat) = q * (P : Rat) := by
    rw [hT]
    grind
  have e2 : (2 : Rat) ^ k * (P : Rat) = ((2 ^ k * P : Int) : Rat) := by
    rw [Rat.intCast_mul, cast_pow 2 k]
    rfl
  have t1 : T ≤ 2 ^ k * P := by
    have := Rat.mul_le_mul_of_nonneg_right h1 (Rat.le_of_lt hcp)
    rw [← e1, e2] at this
    exact Rat.intCast_le_intCast.mp this
  have t0 : -(2 ^ k * P) ≤ T := by
    have := Rat.mul_le_mul_of_nonneg_right h0 (Rat.le_of_lt hcp)
    rw [← e1] at this
    refine Rat.intCast_le_intCast.mp ?_
    rw [Rat.intCast_neg, ← e2]
    grind
  unfold Sm at *
  have t2 : T.natAbs ≤ 2 ^ k * P.natAbs := by
    have : (2 ^ k * P : Int).natAbs = 2 ^ k * P.natAbs := by
      rw [Int.natAbs_mul, Int.natAbs_pow]
      rfl
    omega
  have t3 : 2 ^ k * P.natAbs ≤ 2 ^ k * 2 ^ s := Nat.mul_le_mul_left _ (Nat.le_of_lt sP)
  have t4 : 2 ^ (s + k + 1) = 2 * (2 ^ k * 2 ^ s) := by
    rw [Nat.pow_succ, Nat.pow_add, Nat.mul_comm, Nat.mul_comm (2 ^ s)]
  have t5 : 0 < 2 ^ k * 2 ^ s := Nat.mul_pos (Nat.pow_pos (by decide)) (Nat.pow_pos (by decide))
  omega
theorem Sz.smr {P : Int} {q : Rat} {s k n : Nat} (h : Sz P k q) (hP : 0 < P) (sP : Sm s P) (hn : s + k + 1 ≤ n) : SmR n (rdq q) := by
  obtain ⟨_, h2, h3⟩ := h.red hP sP
  exact ⟨rdq_red _, h2.mono hn, h3.mono (by omega)⟩
/-- a put: its size -/
theorem Ch01.putSz {D : Int} {a : Nat → Rat} {M : Nat} (h : Ch01 D a M) {n e : Nat} (hn : n ≤ M) (he : n ≤ e) : Sz (D ^ e) n (renQ a oneAt n) := by
  obtain ⟨x1, x2, x3⟩ := h.put n hn
  exact Sz.pos (x3.mono h.pos he).ov x1 x2
theorem Ch01.chSz {D : Int} {a : Nat → Rat} {M : Nat} (h : Ch01 D a M) {n : Nat} (hn : n < M) : Sz D 0 (a n) := by
  refine Sz.pos ?_ (h.ge n hn) (by rw [Rat.pow_zero]; exact h.le n hn)
  have := (h.den n hn).ov
  rw [Int.pow_succ, Int.pow_zero, Int.one_mul] at this
  exact this
theorem Ch01.powSm {D : Int} {a : Nat → Rat} {M : Nat} (h : Ch01 D a M) (e : Nat) : 0 < D ^ e ∧ Sm (60 * e + 1) (D ^ e) := ⟨Int.pow_pos h.pos, sm_pow h.sm (by decide) e⟩
theorem Sz.nought {P : Int} {k : Nat} : Sz P k 0 := ⟨Ov.zero, by have := two_pos k; grind, by have := two_pos k; grind⟩
theorem Sz.one {k : Nat} {P : Int} (hP : 0 < P) : Sz P k 1 := by
  refine ⟨⟨P, ?_⟩, ?_, ?_⟩
  · have := cast_ne (Int.ne_of_gt hP)
    grind
  · have := two_pos k
    grind
  · have := pow2_le (Nat.zero_le k)
    rw [Rat.pow_zero] at this
    exact this
/-! ### lists told by value -/
theorem mem_mkL {n : Nat} {f : Nat → Rat} {x : RT} (h : x ∈ mkL n f) : ∃ j, j < n ∧ x = rdq (f j) := by
  obtain ⟨j, hj⟩ := List.mem_iff_getElem?.mp h
  have hj2 := (List.getElem?_eq_some_iff.mp hj).1
  rw [mkL_len] at hj2
  rw [mkL_at hj2] at hj
  exact ⟨j, hj2, (Option.some.inj hj).symm⟩
theorem over_mkL {P : Int} {n s k : Nat} {f : Nat → Rat} (hP : 0 < P) (sP : Sm s P) (z : ∀ j, j < n → Sz P k (f j)) (hn : n ≤ 1000) : Over1 (s + k + 1) s P (mkL n f) := by
  refine ⟨hP, sP, fun x hx => ?_, by rw [mkL_len]; exact hn⟩
  obtain ⟨j, hj, rfl⟩ := mem_mkL hx
  obtain ⟨h1, h2, h3⟩ := (z j hj).red hP sP
  exact ⟨(rdq_red _).1, h1, h2⟩
section
variable {K : PySem.W.Frag} {H : Hp} {Q : VK}
theorem tnil_go {σ : L2.St} {R : List V → Hp → Prop} (h : R [] H) : tNil σ H R := h
theorem lsum_go {p : Addr} {P : Int} {n s k : Nat} {f : Nat → Rat} (h : LsM K H p (mkL n f)) (hP : 0 < P) (sP : Sm s P) (z : ∀ j, j < n → Sz P k (f j)) (hn : n ≤ 1000) (hs : s ≤ 2500) (hk : k ≤ 900)
    (q : ∀ r H', Same H H' → RAt K H' r (rdq (sumTo n f)) → Q (.ref r) H') : spLsum K LstAt [.ref p] H Q E0 := by
  obtain ⟨rs, h1, h2⟩ := h
  refine ⟨p, _, _, _, P, rfl, ⟨rs, SqL.of h1, h2⟩, over_mkL hP sP z hn, by omega, by omega, fun y x HF sF hy rx vx _ _ => ?_⟩
  have ex : x = rdq (sumTo n f) := is_rdq rx (by rw [vx, mkL_sum])
  rw [ex] at hy
  exact q y HF sF hy
theorem lsumT_go {p : Addr} {P : Int} {n s k : Nat} {f : Nat → Rat} (h : RowAt K H p (mkL n f)) (hP : 0 < P) (sP : Sm s P) (z : ∀ j, j < n → Sz P k (f j)) (hn : n ≤ 1000) (hs : s ≤ 2500) (hk : k ≤ 900)
    (q : ∀ r H', Same H H' → RAt K H' r (rdq (sumTo n f)) → Q (.ref r) H') : spLsum K RowAt [.ref p] H Q E0 := by
  refine ⟨p, _, _, _, P, rfl, h, over_mkL hP sP z hn, by omega, by omega, fun y x HF sF hy rx vx _ _ => ?_⟩
  have ex : x = rdq (sumTo n f) := is_rdq rx (by rw [vx, mkL_sum])
  rw [ex] at hy
  exact q y HF sF hy
theorem times_go {p1 p2 : Addr} {x y : Rat} (h1 : RAt K H p1 (rdq x)) (h2 : RAt K H p2 (rdq y)) (s1 : SmR 3000 (rdq x)) (s2 : SmR 3000 (rdq y)) (q : ∀ r H', Same H H' → RAt K H' r (rdq (x * y)) → Q (.ref r) H') : spTwo K (fun a b c d => a * c) [.ref p1, .ref p2] H Q E0 := by
  refine ⟨p1, p2, _, _, _, _, rfl, ⟨h1, h2, s1.2.1, s1.2.2, s2.2.1, s2.2.2, s1.1.1, s2.1.1⟩, fun b nb => ?_⟩
  have e := same_new (o := HO.tup [.int (rT (rdq x) (rdq y)).1, .int (rT (rdq x) (rdq y)).2]) nb
  obtain ⟨y1, y2⟩ := qv_rT s1.1 s2.1
  have ep : rT (rdq x) (rdq y) = rdq (x * y) := is_rdq y1 (by rw [y2, qv_rdq, qv_rdq])
  refine q b _ e ?_
  rw [← ep]
  exact SqT.of upd_same
theorem minus_go {p1 p2 : Addr} {x y : Rat} (h1 : RAt K H p1 (rdq x)) (h2 : RAt K H p2 (rdq y)) (s1 : SmR 3000 (rdq x)) (s2 : SmR 3000 (rdq y)) (q : ∀ r H', Same H H' → RAt K H' r (rdq (x - y)) → Q (.ref r) H') : spTwo K (fun a b c d => a * d - c * b) [.ref p1, .ref p2] H Q E0 := by
  refine ⟨p1, p2, _, _, _, _, rfl, ⟨h1, h2, s1.2.1, s1.2.2, s2.2.1, s2.2.2, s1.1.1, s2.1.1⟩, fun b nb => ?_⟩
  have e := same_new (o := HO.tup [.int (rM (rdq x) (rdq y)).1, .int (rM (rdq x) (rdq y)).2]) nb
  obtain ⟨y1, y2⟩ := qv_rM s1.1 s2.1
  have ep : rM (rdq x) (rdq y) = rdq (x - y) := is_rdq y1 (by rw [y2, qv_rdq, qv_rdq])
  refine q b _ e ?_
  rw [← ep]
  exact SqT.of upd_same
/-- a tuple of a list -/
theorem RowAt.of_ls {p b : Addr} {xs : List RT} {rs : List Addr} (h1 : H p = some (.lst (rs.map V.ref))) (h2 : RsAt K H rs xs) (nb : H b = none) : RowAt K (upd H b (.tup (rs.map V.ref))) b xs := ⟨rs, SqT.of upd_same, h2.tk (Tk.same (same_new nb))⟩
/-- a wish of an object alone -/
@[reducible] def refQ (Qd : Addr → Hp → Prop) : VK := fun v H2 => match v with
  | .ref D => Qd D H2
  | _ => False
/-- a comprehension each turn of which gives a ratio told by its value -/
theorem lc_mkW {J : It} {n : Nat} {G : Hp → Prop} {Y : Nat → Hp → V → Hp → Prop} (w : Walk J n G Y) {g : TG} {te : TE} {vs : List Nat} {σ : L2.St} {H1 : Hp} (f : Nat → Rat) (hn : n ≤ 900) (hG : ∀ HE, Same H1 HE → G HE)
    (hs : ∀ (k : Nat) (x : V) (HE HE' : Hp) (R : VK), k < n → Same H1 HE → Y k HE x HE' → (∀ r HF, Same HE HF → RAt K HF r (rdq (f k)) → R (.ref r) HF) → g x (wipe σ vs) HE' fun σ2 H2 => wipe σ2 vs = wipe σ vs ∧ te σ2 H2 R)
    {Qd : Addr → Hp → Prop} (hd : ∀ D H2, Same H1 H2 → LsM K H2 D (mkL n f) → Qd D H2) : tLc (fun _ H2 R => R J H2) g tYes te vs σ H1 (refQ Qd) := by
  intro D nD
  have e1 := same_new (o := HO.lst []) nD
  refine lc_it w (fun k HE => ∃ qs : List Addr, Same H1 HE ∧ HE D = some (.lst (qs.map V.ref)) ∧ RsAt K HE qs (mkL k f)) ⟨[], e1, upd_same, .nil⟩ ?_ ?_ ?_
  · rintro i HE _ ⟨_, sE, _⟩
    exact hG HE sE
  · rintro k x HE HE' hk ⟨qs, sE, hE, hqs⟩ hY
    have hql := hqs.length
    rw [mkL_len] at hql
    refine hs k x HE HE' _ hk sE hY fun r HF sF hr => ?_
    have hE5 := sF _ _ hE
    refine ⟨_, hE5, by rw [List.length_map, hql]; exact small1000 (by omega), qs ++ [r], ?_, ?_, ?_⟩
    · intro b2 o hb2
      rw [upd_ne (ne_of_none hb2 nD)]
      exact (sE.trans sF) _ _ hb2
    · rw [upd_same, List.map_append]
      rfl
    · rw [mkL_succ]
      exact ((hqs.tk (Tk.same sF)).append (.cons hr .nil)).tk (tk_lst hE5)
  · rintro HE ⟨qs, sE, hE, hqs⟩
    exact hd D HE sE ⟨qs, hE, hqs⟩
theorem lc_mk {lo : Int} {n : Nat} {g : TG} {te : TE} {vs : List Nat} {σ : L2.St} {H1 : Hp} (f : Nat → Rat) (hn : n ≤ 900)
    (hs : ∀ (k : Nat) (HE : Hp) (R : VK), k < n → Same H1 HE → (∀ r HF, Same HE HF → RAt K HF r (rdq (f k)) → R (.ref r) HF) → g (.int (lo + k)) (wipe σ vs) HE fun σ2 H2 => wipe σ2 vs = wipe σ vs ∧ te σ2 H2 R)
    {Qd : Addr → Hp → Prop} (hd : ∀ D H2, Same H1 H2 → LsM K H2 D (mkL n f) → Qd D H2) : tLc (fun _ H2 R => R (Itr lo n) H2) g tYes te vs σ H1 (refQ Qd) := by
  refine lc_mkW walk_range f hn (fun _ _ => trivial) (fun k x HE HE' R hk sE hY q => ?_) hd
  obtain ⟨rfl, rfl⟩ := hY
  exact hs k _ R hk sE q
end

end Fp

set_option Elab.async false
set_option linter.all false
set_option maxRecDepth 100000
set_option maxHeartbeats 4000000
set_option exponentiation.threshold 10000
namespace Fp
open PySem PySem.Spec PyProof.Rows L2
/-! ### lists of ratios: parts, joined, cut -/
section
variable {K : PySem.W.Frag} {H H' : Hp}
theorem LsM.keep {d c p : Addr} {t : Int} {xs : List RT} (h : LsM K H p xs) (f : Feed H d c t) (k : Keep d H H') : LsM K H' p xs := by
  obtain ⟨rs, h1, h2⟩ := h
  exact ⟨rs, keep_at f k h1 (by intro _ z; cases z), h2.tk (Tk.keep f k)⟩
theorem LsM.ix {p : Addr} {xs : List RT} {m : Nat} {x : RT} {k : Int} {Q : VK} (h : LsM K H p xs) (hk : k = (m : Int)) (hm : xs[m]? = some x) (q : ∀ r, RAt K H r x → Q (.ref r) H) : rIxL K (.ref p) (.int k) H Q := by
  obtain ⟨rs, h1, h2⟩ := h
  obtain ⟨r, e1, e2⟩ := h2.get hm
  have g2 : (rs.map V.ref)[m]? = some (.ref r) := by
    rw [List.getElem?_map, e1]
    rfl
  exact ⟨p, _, _, _, rfl, rfl, SqL.of h1, at_of hk g2, q r e2⟩
/-- [x] * k -/
theorem rep_ls {p a : Addr} {x : RT} {k : Nat} {Q : VK} (h : H p = some (.lst [.ref a])) (ha : RAt K H a x) (hk : k ≤ 900) (q : ∀ r H', Same H H' → LsM K H' r (List.replicate k x) → Q (.ref r) H') : rRep (.ref p) (.int (k : Int)) H Q := by
  refine ⟨p, _, _, rfl, rfl, h, by omega, by omega, ?_, fun b nb => ?_⟩
  · rw [Int.toNat_natCast]
    show 1 * k ≤ sizeLine
    exact Nat.le_trans (show 1 * k ≤ 1000 by omega) (by decide)
  have ef : (List.replicate (k : Int).toNat [V.ref a]).flatten = (List.replicate k a).map V.ref := by
    rw [flat_rep, List.map_replicate, Int.toNat_natCast]
  rw [ef] at *
  have e := same_new (o := HO.lst ((List.replicate k a).map V.ref)) nb
  exact q b _ e ⟨_, upd_same, RsAt.rep (ha.tk (Tk.same e)) k⟩
theorem cat_ls {p r : Addr} {xs ys : List RT} {Q : VK} (h1 : LsM K H p xs) (h2 : LsM K H r ys) (hl : xs.length + ys.length ≤ 900) (q : ∀ b H', Same H H' → LsM K H' b (xs ++ ys) → Q (.ref b) H') : rCat (.ref p) (.ref r) H Q := by
  obtain ⟨as, a1, a2⟩ := h1
  obtain ⟨bs, b1, b2⟩ := h2
  have la := a2.length
  have lb := b2.length
  refine ⟨p, r, _, _, rfl, rfl, a1, b1, ?_, fun b nb => ?_⟩
  · rw [List.length_map, List.length_map, sizeLine_eq]
    omega
  have e := same_new (o := HO.lst (as.map V.ref ++ bs.map V.ref)) nb
  refine q b _ e ⟨as ++ bs, ?_, (a2.append b2).tk (Tk.same e)⟩
  rw [upd_same, List.map_append]
/-- xs[:n] of a list -/
theorem take_ls {p : Addr} {xs : List RT} {n : Nat} {Q : VK} (h : LsM K H p xs) (q : ∀ b H', Same H H' → LsM K H' b (xs.take n) → Q (.ref b) H') : rSlL K (.ref p) none (some (n : Int)) H Q := by
  obtain ⟨as, a1, a2⟩ := h
  refine ⟨p, _, rfl, SqL.of a1, fun b nb => ?_⟩
  rw [cutV_take]
  have e := same_new (o := HO.lst ((as.map V.ref).take n)) nb
  refine q b _ e ⟨as.take n, ?_, (a2.take n).tk (Tk.same e)⟩
  rw [upd_same, List.map_take]
/-- the same, and that it is new -/
theorem rep_ls2 {p a : Addr} {x : RT} {k : Nat} {Q : VK} (h : H p = some (.lst [.ref a])) (ha : RAt K H a x) (hk : k ≤ 900) (q : ∀ r H', Same H H' → H r = none → LsM K H' r (List.replicate k x) → Q (.ref r) H') : rRep (.ref p) (.int (k : Int)) H Q := by
  refine ⟨p, _, _, rfl, rfl, h, by omega, by omega, ?_, fun b nb => ?_⟩
  · rw [Int.toNat_natCast]
    show 1 * k ≤ sizeLine
    exact Nat.le_trans (show 1 * k ≤ 1000 by omega) (by decide)
  have ef : (List.replicate (k : Int).toNat [V.ref a]).flatten = (List.replicate k a).map V.ref := by
    rw [flat_rep, List.map_replicate, Int.toNat_natCast]
  rw [ef] at *
  have e := same_new (o := HO.lst ((List.replicate k a).map V.ref)) nb
  exact q b _ e nb ⟨_, upd_same, RsAt.rep (ha.tk (Tk.same e)) k⟩
/-- appending to a list that stands beside others -/
theorem LsM.push {p r : Addr} {xs : List RT} {x : RT} {rs : List Addr} (h1 : H p = some (.lst (rs.map V.ref))) (h2 : RsAt K H rs xs) (hr : RAt K H r x) : LsM K (upd H p (.lst (rs.map V.ref ++ [.ref r]))) p (xs ++ [x]) := by
  refine ⟨rs ++ [r], ?_, (h2.append (.cons hr .nil)).tk (tk_lst h1)⟩
  rw [upd_same, List.map_append]
  rfl
end
section
variable {K : PySem.W.Frag} {H : Hp}
theorem set_ls {p r : Addr} {xs : List RT} {x : RT} {m : Nat} {k : Int} {Q : Hp → Prop} (h : LsM K H p xs) (hr : RAt K H r x) (hk : k = (m : Int)) (hm : m < xs.length) (q : ∀ H', Tk K H H' → (∀ b, b ≠ p → H' b = H b) → LsM K H' p (xs.set m x) → Q H') : rSetL (.ref p) (.int k) (.ref r) H Q := by
  obtain ⟨rs, h1, h2⟩ := h
  have hl := h2.length
  refine ⟨p, _, _, m, rfl, rfl, h1, ?_, ?_⟩
  · subst hk
    unfold ixN
    rw [List.length_map, hl, if_pos (by omega), if_pos (by omega)]
    congr 1
  · refine q _ (tk_lst h1) (fun b hb => upd_ne hb) ⟨rs.set m r, ?_, (RsAt.set hr m h2).tk (tk_lst h1)⟩
    rw [upd_same, List.map_set]
end

end Fp

set_option Elab.async false
set_option linter.all false
set_option maxRecDepth 100000
set_option maxHeartbeats 4000000
set_option exponentiation.threshold 10000
namespace Fp
open PySem PySem.Spec PyProof.Rows L2
/-! ### lists of objects of one sort -/
def Obs {α : Type} (At : Hp → Addr → α → Prop) (H : Hp) (rs : List Addr) (ys : List α) : Prop := rs.length = ys.length ∧ ∀ (i : Nat) (r : Addr) (y : α), rs[i]? = some r → ys[i]? = some y → At H r y
/-- a sort of object that stands while tuples stand -/
def Stays {α : Type} (K : PySem.W.Frag) (At : Hp → Addr → α → Prop) : Prop := ∀ H H' r y, Tk K H H' → At H r y → At H' r y
section
variable {α : Type} {At : Hp → Addr → α → Prop} {K : PySem.W.Frag} {H H' : Hp}
theorem Obs.nil : Obs At H [] [] := ⟨rfl, fun i r y h => by simp at h⟩
theorem Obs.tk {rs : List Addr} {ys : List α} (st : Stays K At) (h : Obs At H rs ys) (e : Tk K H H') : Obs At H' rs ys := ⟨h.1, fun i r y h1 h2 => st _ _ _ _ e (h.2 i r y h1 h2)⟩
theorem Obs.append {rs qs : List Addr} {ys zs : List α} (h : Obs At H rs ys) (g : Obs At H qs zs) : Obs At H (rs ++ qs) (ys ++ zs) := by
  refine ⟨by rw [List.length_append, List.length_append, h.1, g.1], fun i r y h1 h2 => ?_⟩
  rcases Nat.lt_or_ge i rs.length with z | z
  · rw [List.getElem?_append_left z] at h1
    rw [List.getElem?_append_left (by rw [← h.1]; exact z)] at h2
    exact h.2 i r y h1 h2
  · rw [List.getElem?_append_right z] at h1
    rw [List.getElem?_append_right (by rw [← h.1]; exact z), ← h.1] at h2
    exact g.2 _ r y h1 h2
theorem Obs.one {r : Addr} {y : α} (h : At H r y) : Obs At H [r] [y] := by
  refine ⟨rfl, fun i q z h1 h2 => ?_⟩
  match i, h1, h2 with
  | 0, h1, h2 =>
    cases Option.some.inj h1
    cases Option.some.inj h2
    exact h
theorem Obs.get {rs : List Addr} {ys : List α} {i : Nat} {y : α} (h : Obs At H rs ys) (e : ys[i]? = some y) : ∃ r, rs[i]? = some r ∧ At H r y := by
  have hi := (List.getElem?_eq_some_iff.mp e).1
  rw [← h.1] at hi
  exact ⟨rs[i], List.getElem?_eq_getElem hi, h.2 i _ y (List.getElem?_eq_getElem hi) e⟩
/-- a list that may be changed, of such objects -/
def OLs (At : Hp → Addr → α → Prop) (H : Hp) (p : Addr) (ys : List α) : Prop := ∃ rs : List Addr, H p = some (.lst (rs.map V.ref)) ∧ Obs At H rs ys
theorem OLs.same {p : Addr} {ys : List α} (st : Stays K At) (h : OLs At H p ys) (e : Same H H') : OLs At H' p ys := by
  obtain ⟨rs, h1, h2⟩ := h
  exact ⟨rs, e _ _ h1, h2.tk st (Tk.same e)⟩
/-- a comprehension each turn of which gives such an object -/
theorem lc_obsW (st : Stays K At) {J : It} {n : Nat} {G : Hp → Prop} {Y : Nat → Hp → V → Hp → Prop} (w : Walk J n G Y) {g : TG} {te : TE} {vs : List Nat} {σ : L2.St} {H1 : Hp} (f : List α) (hf : f.length = n) (hn : n ≤ 900) (hG : ∀ HE, Same H1 HE → G HE)
    (hs : ∀ (k : Nat) (y : α) (x : V) (HE HE' : Hp) (R : VK), f[k]? = some y → Same H1 HE → Y k HE x HE' → (∀ r HF, Same HE HF → At HF r y → R (.ref r) HF) → g x (wipe σ vs) HE' fun σ2 H2 => wipe σ2 vs = wipe σ vs ∧ te σ2 H2 R)
    {Qd : Addr → Hp → Prop} (hd : ∀ D H2, Same H1 H2 → OLs At H2 D f → Qd D H2) : tLc (fun _ H2 R => R J H2) g tYes te vs σ H1 (refQ Qd) := by
  intro D nD
  have e1 := same_new (o := HO.lst []) nD
  refine lc_it w (fun k HE => ∃ qs : List Addr, Same H1 HE ∧ HE D = some (.lst (qs.map V.ref)) ∧ Obs At HE qs (f.take k)) ⟨[], e1, upd_same, Obs.nil⟩ ?_ ?_ ?_
  · rintro i HE _ ⟨_, sE, _⟩
    exact hG HE sE
  · rintro k x HE HE' hk ⟨qs, sE, hE, hqs⟩ hY
    have hql := hqs.1
    rw [List.length_take] at hql
    obtain ⟨y, hy⟩ : ∃ y, f[k]? = some y := ⟨f[k], List.getElem?_eq_getElem (by omega)⟩
    refine hs k y x HE HE' _ hy sE hY fun r HF sF hr => ?_
    have hE5 := sF _ _ hE
    refine ⟨_, hE5, by rw [List.length_map, hql]; exact small1000 (by omega), qs ++ [r], ?_, ?_, ?_⟩
    · intro b2 o hb2
      rw [upd_ne (ne_of_none hb2 nD)]
      exact (sE.trans sF) _ _ hb2
    · rw [upd_same, List.map_append]
      rfl
    · rw [List.take_add_one, hy]
      exact ((hqs.tk st (Tk.same sF)).append (Obs.one hr)).tk st (tk_lst hE5)
  · rintro HE ⟨qs, sE, hE, hqs⟩
    rw [List.take_of_length_le (by omega)] at hqs
    exact hd D HE sE ⟨qs, hE, hqs⟩
end
section
variable {K : PySem.W.Frag} {H : Hp} {Q : VK}
theorem cat_ints {p q : Addr} {xs ys : List Int} (a1 : SqT K H p (xs.map V.int)) (b1 : SqT K H q (ys.map V.int)) (hl : xs.length + ys.length ≤ 1000) (h : ∀ r H', Same H H' → SqT K H' r ((xs ++ ys).map V.int) → Q (.ref r) H') : rCatA K (.ref p) (.ref q) H Q := by
  refine ⟨p, q, _, _, rfl, rfl, a1, b1, ?_, fun z => ?_, fun _ z => ?_, fun _ _ r nr => ?_⟩
  · rw [List.length_map, List.length_map, sizeLine_eq]
    omega
  · have e : xs = [] := List.map_eq_nil_iff.mp z
    subst e
    exact h q H (Same.refl H) b1
  · have e : ys = [] := List.map_eq_nil_iff.mp z
    subst e
    refine h p H (Same.refl H) ?_
    rw [List.append_nil]
    exact a1
  · have s := same_new (o := HO.tup (xs.map V.int ++ ys.map V.int)) nr
    refine h r _ s ?_
    rw [List.map_append]
    exact SqT.of upd_same
end

end Fp

set_option Elab.async false
set_option linter.all false
set_option maxRecDepth 100000
set_option maxHeartbeats 4000000
set_option exponentiation.threshold 10000
namespace Fp
open PySem PySem.Spec PyProof.Rows L2
/-! ### all ways, from the ends: what they are -/
abbrev WQ := List Int × Rat
def awGo (a : Nat → Rat) (T : Nat → List WQ) (n j : Nat) : List WQ := if a j = 0 then [] else (T (n - 1 - j)).map fun y => (y.1 ++ [((j : Int) + 1)], y.2 * a j)
def awT (a : Nat → Rat) : Nat → List (List WQ)
  | 0 => [[([], 1)]]
  | n + 1 => awT a n ++ [(List.range (n + 1)).flatMap (awGo a (fun i => (awT a n)[i]?.getD []) (n + 1))]
theorem awT_len (a : Nat → Rat) : ∀ n, (awT a n).length = n + 1
  | 0 => rfl
  | n + 1 => by
    show (awT a n ++ [_]).length = _
    rw [List.length_append, awT_len a n]
    rfl
def aw (a : Nat → Rat) (n : Nat) : List WQ := (awT a n)[n]?.getD []
theorem awT_at (a : Nat → Rat) : ∀ {n j : Nat}, j ≤ n → (awT a n)[j]? = (awT a j)[j]?
  | 0, j, h => by
    have e : j = 0 := by omega
    rw [e]
  | n + 1, j, h => by
    rcases (by omega : j ≤ n ∨ j = n + 1) with z | z
    · show (awT a n ++ [_])[j]? = _
      rw [List.getElem?_append_left (by rw [awT_len]; omega)]
      exact awT_at a z
    · rw [z]
theorem aw_zero (a : Nat → Rat) : aw a 0 = [([], 1)] := rfl
theorem awGo_congr {a : Nat → Rat} {T U : Nat → List WQ} {n j : Nat} (h : T (n - 1 - j) = U (n - 1 - j)) : awGo a T n j = awGo a U n j := by
  unfold awGo
  rw [h]
theorem flatMap_congr' {α β : Type} {f g : α → List β} : ∀ {xs : List α}, (∀ x ∈ xs, f x = g x) → xs.flatMap f = xs.flatMap g
  | [], _ => rfl
  | x :: r, h => by
    rw [List.flatMap_cons, List.flatMap_cons, h x (List.mem_cons_self ..), flatMap_congr' fun y hy => h y (List.mem_cons_of_mem _ hy)]
theorem aw_is (a : Nat → Rat) {n : Nat} (h : 0 < n) : aw a n = (List.range n).flatMap (awGo a (aw a) n) := by
  obtain ⟨m, rfl⟩ : ∃ m, n = m + 1 := ⟨n - 1, by omega⟩
  unfold aw
  show ((awT a m ++ [_])[m + 1]?).getD [] = _
  rw [List.getElem?_append_right (by rw [awT_len]; exact Nat.le_refl _), awT_len, Nat.sub_self]
  show (List.range (m + 1)).flatMap _ = _
  refine flatMap_congr' fun j hj => awGo_congr ?_
  have := List.mem_range.mp hj
  show ((awT a m)[m + 1 - 1 - j]?).getD [] = _
  rw [awT_at a (show m + 1 - 1 - j ≤ m by omega)]
theorem flat_succ {α : Type} (g : Nat → List α) (k : Nat) : (List.range (k + 1)).flatMap g = (List.range k).flatMap g ++ g k := by
  rw [List.range_succ, List.flatMap_append]
  simp
def wsum (xs : List WQ) : Rat := (xs.map (·.2)).sum
theorem wsum_append (xs ys : List WQ) : wsum (xs ++ ys) = wsum xs + wsum ys := by
  unfold wsum
  rw [List.map_append]
  induction xs with
  | nil =>
    show (ys.map (·.2)).sum = 0 + _
    grind
  | cons x r ih =>
    show x.2 + ((r.map (·.2) ++ ys.map (·.2))).sum = (x.2 + (r.map (·.2)).sum) + _
    rw [ih]
    grind
theorem wsum_map (c : Rat) (k : Int) : ∀ xs : List WQ, wsum (xs.map fun y => (y.1 ++ [k], y.2 * c)) = wsum xs * c
  | [] => by
    show (0 : Rat) = 0 * c
    grind
  | x :: r => by
    have := wsum_map c k r
    unfold wsum at *
    show x.2 * c + ((r.map fun y => (y.1 ++ [k], y.2 * c)).map (·.2) : List Rat).sum = (x.2 + (r.map (·.2)).sum) * c
    rw [this]
    grind
theorem wsum_go (a : Nat → Rat) (T : Nat → List WQ) (n j : Nat) : wsum (awGo a T n j) = a j * wsum (T (n - 1 - j)) := by
  unfold awGo
  split
  · rename_i z
    rw [z]
    show (0 : Rat) = 0 * _
    grind
  · rw [wsum_map]
    grind
theorem wsum_flat (g : Nat → List WQ) (k : Nat) : wsum ((List.range k).flatMap g) = sumTo k fun j => wsum (g j) := by
  induction k with
  | zero => rfl
  | succ k ih => rw [flat_succ, wsum_append, ih, sumTo_succ]
theorem aw_sum (a : Nat → Rat) : ∀ n, wsum (aw a n) = renQ a oneAt n := by
  intro n
  induction n using Nat.strongRecOn with
  | ind n ih =>
    rcases Nat.eq_zero_or_pos n with z | z
    · subst z
      rw [aw_zero, renQ_is, sumTo_zero]
      show (1 : Rat) + 0 = 1 + 0
      rfl
    · rw [aw_is a z, wsum_flat, renQ_is, show oneAt n = 0 from if_neg (by omega)]
      rw [show (0 : Rat) + _ = _ from Rat.zero_add _]
      refine sumTo_congr fun j hj => ?_
      rw [wsum_go, ih (n - 1 - j) (by omega)]
structure AwOk (D : Int) (n : Nat) (y : WQ) : Prop where
  den : Den D n y.2
  ge : 0 ≤ y.2
  le : y.2 ≤ 1
  len : y.1.length ≤ n
theorem aw_ok {D : Int} {a : Nat → Rat} {M : Nat} (h : Ch01 D a M) : ∀ n, n ≤ M → (∀ y ∈ aw a n, AwOk D n y) ∧ (aw a n).length ≤ 2 ^ n := by
  intro n
  induction n using Nat.strongRecOn with
  | ind n ih =>
    intro hn
    rcases Nat.eq_zero_or_pos n with z | z
    · subst z
      rw [aw_zero]
      refine ⟨fun y hy => ?_, by decide⟩
      rw [List.mem_singleton.mp hy]
      refine ⟨⟨1, ?_⟩, by show (0 : Rat) ≤ 1; decide, by show (1 : Rat) ≤ 1; exact Rat.le_refl, Nat.le_refl _⟩
      rw [Int.pow_zero]
      show (1 : Rat) = ((1 : Int) : Rat) / ((1 : Int) : Rat)
      grind
    · rw [aw_is a z]
      refine ⟨fun y hy => ?_, ?_⟩
      · obtain ⟨j, hj, hy2⟩ := List.mem_flatMap.mp hy
        have hj2 := List.mem_range.mp hj
        unfold awGo at hy2
        split at hy2
        · simp at hy2
        · obtain ⟨u, hu, rfl⟩ := List.mem_map.mp hy2
          have o := (ih (n - 1 - j) (by omega) (by omega)).1 u hu
          have hd := (o.den.mul h.pos (h.den j (by omega))).mono h.pos (show n - 1 - j + 1 ≤ n by omega)
          have m := mul_01 ⟨o.ge, o.le⟩ ⟨h.ge j (by omega), h.le j (by omega)⟩
          refine ⟨hd, m.1, m.2, ?_⟩
          show (u.1 ++ [((j : Int) + 1)]).length ≤ n
          have := o.len
          rw [List.length_append]
          show u.1.length + 1 ≤ n
          omega
      · have key : ∀ k, k ≤ n → ((List.range k).flatMap (awGo a (aw a) n)).length + 2 ^ (n - k) ≤ 2 ^ n := by
          intro k
          induction k with
          | zero =>
            intro _
            show 0 + 2 ^ (n - 0) ≤ 2 ^ n
            simp
          | succ k ihk =>
            intro hk
            have i := ihk (by omega)
            have l : (awGo a (aw a) n k).length ≤ 2 ^ (n - 1 - k) := by
              unfold awGo
              split
              · simp
              · rw [List.length_map]
                exact (ih (n - 1 - k) (by omega) (by omega)).2
            rw [flat_succ, List.length_append]
            have e : 2 ^ (n - k) = 2 ^ (n - (k + 1)) + 2 ^ (n - (k + 1)) := by
              rw [show n - k = (n - (k + 1)) + 1 by omega, Nat.pow_succ]
              omega
            rw [show n - 1 - k = n - (k + 1) by omega] at l
            omega
        exact Nat.le_trans (Nat.le_add_right _ _) (key n (Nat.le_refl _))

end Fp

set_option Elab.async false
set_option linter.all false
set_option maxRecDepth 100000
set_option maxHeartbeats 4000000
set_option exponentiation.threshold 10000
namespace Fp
open PySem PySem.Spec PyProof.Rows L2
/-! ### the law's own: all ways -/
section
variable {K : PySem.W.Frag}
/-- a way and its chance -/
def PAt (K : PySem.W.Frag) (H : Hp) (p : Addr) (y : WQ) : Prop := ∃ pw pr : Addr, SqT K H p [.ref pw, .ref pr] ∧ SqT K H pw (y.1.map V.int) ∧ RAt K H pr (rdq y.2)
theorem pat_stays : Stays K (PAt K) := fun H H' r y e h => by
  obtain ⟨pw, pr, h1, h2, h3⟩ := h
  exact ⟨pw, pr, e _ _ h1, e _ _ h2, h3.tk e⟩
end
section
variable {P : Program} {w : World} {K : PySem.W.Frag} {mg : Str → Option Value} {base : Heap}
def spAw (K : PySem.W.Frag) : Sp := fun vs H Q _ => ∃ (p : Addr) (row : List RT) (step : RT) (n beat : Nat) (D : Int), vs = [.ref p, .int (beat : Int)] ∧ LifeAt K H p row step ∧ LifeOk n row step ∧ (row = [] → step = (0, 1)) ∧ Ch01 D (chR row step) 20 ∧ beat ≤ 8 ∧
  ∀ z H', Same H H' → H z = none → OLs (PAt K) H' z (aw (chR row step) beat) → Q (.ref z) H'
end

end Fp

set_option Elab.async false
set_option linter.all false
set_option maxRecDepth 100000
set_option maxHeartbeats 4000000
set_option exponentiation.threshold 10000
namespace Fp
open PySem PySem.Spec PyProof.Rows L2
/-! ### what laws share -/
theorem mkL_rowD_sh {n : Nat} {g : Nat → Rat} (hn : n ≤ 21) (h : ∀ m, m < n → SmR 1900 (rdq (g m))) : Shows (.tuple (rowD (mkL n g))) := by
  refine (Shs.row (n := 1900) (by decide) (xs := mkL n g) fun x hx => ?_).tup.shows (by rw [mkL_len]; omega) (by decide)
  obtain ⟨j, hj⟩ := List.mem_iff_getElem?.mp hx
  have hj2 := (List.getElem?_eq_some_iff.mp hj).1
  rw [mkL_len] at hj2
  rw [mkL_at hj2] at hj
  cases Option.some.inj hj
  exact h j hj2
section
variable {P : Program} {w : World} {K : PySem.W.Frag} {mg : Str → Option Value} {base : Heap}
theorem drop1_row {H : Hp} {p : Addr} {xs : List RT} {Q : VK} (h : RowAt K H p xs) (hl : 1 ≤ xs.length) (hq : ∀ r H', Same H H' → RowAt K H' r (xs.drop 1) → Q (.ref r) H') : rSlA K (.ref p) (some 1) none H Q := by
  obtain ⟨rs, h1, h2⟩ := h
  have hl2 := h2.length
  refine ⟨p, _, rfl, h1, fun z => ?_, fun _ r nr => ?_⟩
  · have z1 := z.1
    rw [show (1 : Int) = ((1 : Nat) : Int) from rfl, HT.sIx_nat, List.length_map] at z1
    omega
  · rw [cutV_from1]
    have s := same_new (o := HO.tup ((rs.map V.ref).drop 1)) nr
    refine hq r _ s ⟨rs.drop 1, ?_, (h2.drop 1).tk (Tk.same s)⟩
    rw [List.map_drop]
    exact SqT.of upd_same
theorem noPart_go {σ : L2.St} {H : Hp} {k : Option Int → Hp → Prop} (h : k none H) : tNoPart σ H k := h
def spLaw (K : PySem.W.Frag) : Sp := fun vs H Q _ => ∃ (a : Addr) (ns : List Int), vs = [.ref a] ∧ SqL K H a (ns.map V.int) ∧ ∀ H', Q (.bl true) H'
end

end Fp

set_option Elab.async false
set_option linter.all false
set_option maxRecDepth 100000
set_option maxHeartbeats 4000000
set_option exponentiation.threshold 10000
namespace Fp
open PySem PySem.Spec PyProof.Rows L2
/-! ### renewed, by values -/
theorem IsCh.told {row : List RT} {step : RT} {n most : Nat} {chs : List RT} (h : IsCh row step n most chs) : chs = mkL most (chR row step) := by
  refine List.ext_getElem (by rw [mkL_len, h.len]) fun m h1 h2 => ?_
  have hm : m < most := by
    rw [mkL_len] at h2
    exact h2
  have e := mkL_at (g := chR row step) hm
  rw [List.getElem?_eq_getElem h2] at e
  rw [Option.some.inj e]
  obtain ⟨o1, o2⟩ := h.ok m _ (List.getElem?_eq_getElem h1)
  exact is_rdq o1.1 o2
theorem qa_mkL {n j : Nat} {g : Nat → Rat} (h : j < n) : qa (mkL n g) j = g j := by rw [qa_at (mkL_at h), qv_rdq]
theorem mkL_cons {n : Nat} {c : Nat → Rat} : mkL (n + 1) (laterF c) = (0, 1) :: mkL n c := by
  unfold mkL
  rw [List.range_succ_eq_map, List.map_cons, List.map_map]
  show rdq 0 :: _ = _
  rw [rdq_zero.mpr rfl]
  rfl
theorem mkL_drop {n : Nat} {g : Nat → Rat} : (mkL (n + 1) g).drop 1 = mkL n fun i => g (i + 1) := by
  unfold mkL
  rw [List.range_succ_eq_map, List.map_cons, List.map_map]
  rfl
section
variable {K : PySem.W.Frag} {H : Hp} {Q : VK}
/-- xs[1:] of a list -/
theorem drop1_ls {p : Addr} {xs : List RT} (h : LsM K H p xs) (q : ∀ b H', Same H H' → LsM K H' b (xs.drop 1) → Q (.ref b) H') : rSlL K (.ref p) (some 1) none H Q := by
  obtain ⟨as, a1, a2⟩ := h
  refine ⟨p, _, rfl, SqL.of a1, fun b nb => ?_⟩
  rw [cutV_from1]
  have e := same_new (o := HO.lst ((as.map V.ref).drop 1)) nb
  refine q b _ e ⟨as.drop 1, ?_, (a2.drop 1).tk (Tk.same e)⟩
  rw [upd_same, List.map_drop]
end
/-! ### a share: from nought to one, by a small bottom -/
structure Part (b : Int) (s : Rat) : Prop where
  pos : 0 < b
  le5 : b ≤ 5
  ov : Ov b s
  ge : 0 ≤ s
  le : s ≤ 1
theorem Part.sm {b : Int} {s : Rat} (h : Part b s) : Sm 3 b := by
  have := h.pos
  have := h.le5
  unfold Sm
  omega
theorem Part.rest {b : Int} {s : Rat} (h : Part b s) : Part b (1 - s) := by
  obtain ⟨h1, h2, ⟨T, hT⟩, h4, h5⟩ := h
  refine ⟨h1, h2, ⟨b - T, ?_⟩, by grind, by grind⟩
  have := cast_ne (Int.ne_of_gt h1)
  rw [hT, Rat.intCast_sub]
  grind
theorem Part.sz {b : Int} {s : Rat} (h : Part b s) : Sz b 0 s := Sz.pos h.ov h.ge (by rw [Rat.pow_zero]; exact h.le)
theorem Part.pow {b : Int} {s : Rat} (h : Part b s) : ∀ j : Nat, Den b j (s ^ j) ∧ 0 ≤ s ^ j ∧ s ^ j ≤ 1
  | 0 => by
    rw [Rat.pow_zero]
    refine ⟨⟨1, ?_⟩, by decide, Rat.le_refl⟩
    rw [Int.pow_zero]
    grind
  | j + 1 => by
    obtain ⟨i1, i2, i3⟩ := h.pow j
    rw [Rat.pow_succ]
    have m := mul_01 ⟨i2, i3⟩ ⟨h.ge, h.le⟩
    have d : Den b 1 s := by
      obtain ⟨T, hT⟩ := h.ov
      refine ⟨T, ?_⟩
      rw [Int.pow_succ, Int.pow_zero, Int.one_mul]
      exact hT
    exact ⟨i1.mul h.pos d, m.1, m.2⟩
theorem Part.low {t b : Int} (h0 : 0 ≤ t) (h1 : t ≤ b) (hb : 0 < b) (h5 : b ≤ 5) : Part b (qv (low2 t b)) := by
  rw [qv_low2 hb]
  obtain ⟨x1, x2⟩ := div_01 h0 hb h1
  exact ⟨hb, h5, ⟨t, rfl⟩, x1, x2⟩
def thinQ (a : Nat → Rat) (s : Rat) (n : Nat) : Rat := renQ (fun j => (1 - s) * a j) (laterF fun j => s * a j) n
theorem pQ_scale (a : Nat → Rat) (c : Rat) : ∀ j m, pQ (fun i => c * a i) j m = c ^ j * pQ a j m
  | 0, m => by
    show oneAt m = c ^ 0 * oneAt m
    rw [Rat.pow_zero]
    grind
  | j + 1, m => by
    show (sumTo m fun k => c * a k * pQ (fun i => c * a i) j (m - 1 - k)) = c ^ (j + 1) * sumTo m fun k => a k * pQ a j (m - 1 - k)
    rw [sumTo_mul]
    refine sumTo_congr fun k _ => ?_
    rw [pQ_scale a c j, Rat.pow_succ]
    grind
/-- thinned: by how many parts there are, all but the last one lost -/
theorem thin_parts (a : Nat → Rat) (s : Rat) {n N : Nat} (h : n ≤ N) : thinQ a s n = sumTo N fun j => s * (1 - s) ^ j * pQ a (j + 1) n := by
  rcases Nat.eq_zero_or_pos N with z | z
  · have e : n = 0 := by omega
    subst z e
    unfold thinQ
    rw [conv_later, sumTo_zero, sumTo_zero]
  obtain ⟨M, rfl⟩ : ∃ M, N = M + 1 := ⟨N - 1, by omega⟩
  unfold thinQ
  rw [conv_later]
  have e : (sumTo n fun k => s * a k * renQ (fun j => (1 - s) * a j) oneAt (n - 1 - k)) = sumTo n fun k => sumTo (M + 1) fun j => s * a k * ((1 - s) ^ j * pQ a j (n - 1 - k)) := by
    refine sumTo_congr fun k hk => ?_
    rw [← put_parts (fun j => (1 - s) * a j) (n - 1 - k) M (by omega), sumTo_mul]
    refine sumTo_congr fun j _ => ?_
    rw [pQ_scale]
  rw [e, sumTo_swap]
  refine sumTo_congr fun j _ => ?_
  show _ = s * (1 - s) ^ j * sumTo n fun k => a k * pQ a j (n - 1 - k)
  rw [sumTo_mul]
  refine sumTo_congr fun k _ => ?_
  grind

end Fp

set_option Elab.async false
set_option linter.all false
set_option maxRecDepth 100000
set_option maxHeartbeats 4000000
set_option exponentiation.threshold 10000
namespace Fp
open PySem PySem.Spec PyProof.Rows L2
/-! ### lists of whole numbers told by a function -/
def mkI (n : Nat) (f : Nat → Int) : List Int := (List.range n).map f
theorem mkI_len {n : Nat} {f : Nat → Int} : (mkI n f).length = n := by
  unfold mkI
  rw [List.length_map, List.length_range]
theorem mkI_at {n m : Nat} {f : Nat → Int} (h : m < n) : (mkI n f)[m]? = some (f m) := by
  unfold mkI
  rw [List.getElem?_map, List.getElem?_range h]
  rfl
theorem mkI_succ {n : Nat} {f : Nat → Int} : mkI (n + 1) f = mkI n f ++ [f n] := by
  unfold mkI
  rw [List.range_succ, List.map_append]
  rfl
theorem mkI_congr {n : Nat} {f g : Nat → Int} (h : ∀ m, m < n → f m = g m) : mkI n f = mkI n g := by
  unfold mkI
  exact List.map_congr_left fun m hm => h m (List.mem_range.mp hm)
theorem mkI_sum {n : Nat} {f : Nat → Int} : (((mkI n f).sum : Int) : Rat) = sumTo n fun j => ((f j : Int) : Rat) := sumTo_cast f n
theorem mkI_take {n m : Nat} {f : Nat → Int} (h : m ≤ n) : (mkI n f).take m = mkI m f := by
  unfold mkI
  rw [← List.map_take, List.take_range, Nat.min_eq_left h]
theorem is_mkI {xs : List Int} : xs = mkI xs.length (getI xs) := by
  refine List.ext_getElem (by rw [mkI_len]) fun m h1 h2 => ?_
  have e := mkI_at (f := getI xs) h1
  rw [List.getElem?_eq_getElem h2] at e
  rw [Option.some.inj e]
  unfold getI
  rw [List.getElem?_eq_getElem h1]
  rfl
theorem mkI_sm {e n : Nat} {f : Nat → Int} (h : ∀ j, j < n → Sm e (f j)) (hn : n ≤ 32) : Sm (e + 6) (mkI n f).sum := by
  refine sum_sm (fun x hx => ?_) (by rw [mkI_len]; exact hn)
  obtain ⟨j, hj, rfl⟩ := List.mem_map.mp hx
  exact h j (List.mem_range.mp hj)
theorem mkI_rep {n : Nat} {c : Int} : mkI n (fun _ => c) = List.replicate n c := by
  unfold mkI
  rw [List.map_const', List.length_range]
section
variable {K : PySem.W.Frag} {H : Hp} {Q : VK}
def IntL (H : Hp) (p : Addr) (n : Nat) (f : Nat → Int) : Prop := H p = some (.lst ((mkI n f).map V.int))
theorem ixI_go {p : Addr} {n m : Nat} {f : Nat → Int} {k : Int} (h : IntL H p n f) (hk : k = (m : Int)) (hm : m < n) (q : Q (.int (f m)) H) : rIxL K (.ref p) (.int k) H Q :=
  ⟨p, _, _, _, rfl, rfl, SqL.of h, at_of hk (by rw [List.getElem?_map, mkI_at hm]; rfl), q⟩
theorem sumI_go {p : Addr} {n : Nat} {f : Nat → Int} (h : IntL H p n f) (q : Q (.int (mkI n f).sum) H) : rSum K [.ref p] H Q := ⟨p, _, rfl, SqL.of h, q⟩
theorem takeI_go {p : Addr} {n m : Nat} {f : Nat → Int} (h : IntL H p n f) (hm : m ≤ n) (q : ∀ b H', Same H H' → IntL H' b m f → Q (.ref b) H') : rSlL K (.ref p) none (some (m : Int)) H Q := by
  refine ⟨p, _, rfl, SqL.of h, fun b nb => ?_⟩
  rw [cutV_take, ← List.map_take, mkI_take hm]
  exact q b _ (same_new nb) upd_same
theorem lc_intW {J : It} {n : Nat} {G : Hp → Prop} {Y : Nat → Hp → V → Hp → Prop} (w : Walk J n G Y) {g : TG} {te : TE} {vs : List Nat} {σ : L2.St} {H1 : Hp} (f : Nat → Int) (hn : n ≤ 900) (hG : ∀ HE, Same H1 HE → G HE)
    (hs : ∀ (k : Nat) (x : V) (HE HE' : Hp) (R : VK), k < n → Same H1 HE → Y k HE x HE' → (∀ HF, Same HE HF → R (.int (f k)) HF) → g x (wipe σ vs) HE' fun σ2 H2 => wipe σ2 vs = wipe σ vs ∧ te σ2 H2 R)
    {Qd : Addr → Hp → Prop} (hd : ∀ D H2, Same H1 H2 → IntL H2 D n f → Qd D H2) : tLc (fun _ H2 R => R J H2) g tYes te vs σ H1 (refQ Qd) := by
  intro D nD
  have e1 := same_new (o := HO.lst []) nD
  refine lc_it w (fun k HE => Same H1 HE ∧ HE D = some (.lst ((mkI k f).map V.int))) ⟨e1, upd_same⟩ ?_ ?_ ?_
  · rintro i HE _ ⟨sE, _⟩
    exact hG HE sE
  · rintro k x HE HE' hk ⟨sE, hE⟩ hY
    refine hs k x HE HE' _ hk sE hY fun HF sF => ?_
    have hE5 := sF _ _ hE
    refine ⟨_, hE5, by rw [List.length_map, mkI_len]; exact small1000 (by omega), ?_, ?_⟩
    · intro b2 o hb2
      rw [upd_ne (ne_of_none hb2 nD)]
      exact (sE.trans sF) _ _ hb2
    · rw [upd_same, mkI_succ, List.map_append]
      rfl
  · rintro HE ⟨sE, hE⟩
    exact hd D HE sE hE
theorem lc_int {lo : Int} {n : Nat} {g : TG} {te : TE} {vs : List Nat} {σ : L2.St} {H1 : Hp} (f : Nat → Int) (hn : n ≤ 900)
    (hs : ∀ (k : Nat) (HE : Hp) (R : VK), k < n → Same H1 HE → (∀ HF, Same HE HF → R (.int (f k)) HF) → g (.int (lo + k)) (wipe σ vs) HE fun σ2 H2 => wipe σ2 vs = wipe σ vs ∧ te σ2 H2 R)
    {Qd : Addr → Hp → Prop} (hd : ∀ D H2, Same H1 H2 → IntL H2 D n f → Qd D H2) : tLc (fun _ H2 R => R (Itr lo n) H2) g tYes te vs σ H1 (refQ Qd) := by
  refine lc_intW walk_range f hn (fun _ _ => trivial) (fun k x HE HE' R hk sE hY q => ?_) hd
  obtain ⟨rfl, rfl⟩ := hY
  exact hs k _ R hk sE q
/-- on one bottom, by values -/
theorem oob_go {p : Addr} {m s k : Nat} {A : Nat → Rat} {P : Int} (h : LsM K H p (mkL m A)) (hP : 0 < P) (sP : Sm s P) (z : ∀ j, j < m → Sz P k (A j)) (hm : m ≤ 900) (hs : s ≤ 2500) (hk : k ≤ 900)
    (q : ∀ z zl c T H', Same H H' → H' z = some (.tup [.ref zl, .int c]) → IntL H' zl m T → 0 < c → c ∣ P → Sm s c → (∀ j, j < m → ((T j : Int) : Rat) = (c : Rat) * A j) → (∀ j, j < m → Sm (2 * s + k + 1) (T j)) → Q (.ref z) H') : spOob K [.ref p] H Q E0 := by
  obtain ⟨rs, h1, h2⟩ := h
  have O := over_mkL hP sP z (show m ≤ 1000 by omega)
  refine ⟨p, _, _, _, _, rfl, ⟨rs, SqL.of h1, h2⟩, O, by omega, by omega, fun z1 zl c H' s1 hz hzl c0 cD hc => ?_⟩
  have hl : (mkL m A).length = m := mkL_len
  refine q z1 zl c (getI (topsOn c (mkL m A))) H' s1 hz ?_ c0 cD (dvd_small cD hP sP) (fun j hj => ?_) (fun j hj => ?_)
  · have e := is_mkI (xs := topsOn c (mkL m A))
    rw [tops_len, hl] at e
    unfold IntL
    rw [← e]
    exact hzl
  · rw [tops_val c0 (by rw [hl]; exact hj) fun x hx => ⟨(O.ok x hx).1, hc x hx⟩, qa_mkL hj]
  · have := tops_each (n := s + k + 1) O.pos cD O.sm (xs := mkL m A) (j := j) (by rw [hl]; exact hj) fun x hx => (O.ok x hx).2.2
    exact this.mono (by omega)
/-- a ratio of two whole numbers, by its value -/
theorem rat_go {t b : Int} {v : Rat} (hb : 0 < b) (s8 : b.natAbs < 2 ^ 8000) (e : ((t : Int) : Rat) = v * (b : Rat)) (q : ∀ r H', Same H H' → RAt K H' r (rdq v) → Q (.ref r) H') : spRat0 [.int t, .int b] H Q E0 := by
  refine ⟨t, b, rfl, s8, Int.ne_of_gt hb, fun p np => ?_⟩
  have hc := cast_ne (Int.ne_of_gt hb)
  have ex : low2 t b = rdq v := by
    refine is_rdq (low2_red (Int.ne_of_gt hb)) ?_
    rw [qv_low2 hb, e]
    grind
  refine q p _ (same_new np) ?_
  rw [← ex]
  exact SqT.of upd_same
end

end Fp

set_option Elab.async false
set_option linter.all false
set_option maxRecDepth 100000
set_option maxHeartbeats 4000000
set_option exponentiation.threshold 10000
namespace Fp
open PySem PySem.Spec PyProof.Rows L2
/-! ### counts -/
def countQ (a : Nat → Rat) (beat j : Nat) : Rat := sumTo (beat + 1) fun n => pQ a j n * (1 - sumTo (beat - n) a)
section
variable {P : Program} {w : World} {K : PySem.W.Frag} {mg : Str → Option Value} {base : Heap}
def spCounts (K : PySem.W.Frag) : Sp := fun vs H Q _ => ∃ (p : Addr) (row : List RT) (step : RT) (n beat : Nat) (D : Int), vs = [.ref p, .int (beat : Int)] ∧ LifeAt K H p row step ∧ LifeOk n row step ∧ Ch01 D (chR row step) 20 ∧ beat ≤ 20 ∧
  ∀ z H', Same H H' → RowAt K H' z (mkL (beat + 1) (countQ (chR row step) beat)) → Q (.ref z) H'
end

end Fp

set_option Elab.async false
set_option linter.all false
set_option maxRecDepth 100000
set_option maxHeartbeats 4000000
set_option exponentiation.threshold 10000
namespace Fp
open PySem PySem.Spec PyProof.Rows L2
/-! ### all chances together -/
structure Tot (row : List RT) (step : RT) (N E : Int) : Prop where
  nn : 0 ≤ N
  ee : 0 ≤ E
  pos : 0 < N + E
  le : N + E ≤ 255
  val : rowQ row + behQ row step = (N : Rat) / ((N + E : Int) : Rat)
theorem behQ_snoc (ys : List RT) (y step : RT) : behQ (ys ++ [y]) step = qv y * qv step / (1 - qv step) := by
  unfold behQ
  rw [List.getLast?_append]
  rfl
theorem rowQ_snoc (ys : List RT) (y : RT) : rowQ (ys ++ [y]) = rowQ ys + qv y := by
  unfold rowQ
  rw [List.map_append]
  exact sum_snoc _ _
theorem rowOf_sum {D k : Int} (hD : 0 < D) : ∀ ws : List Int, ((ws.map fun x => low2 (k * x) D).map qv).sum = ((k * ws.sum : Int) : Rat) / (D : Rat)
  | [] => by
    show (0 : Rat) = ((k * 0 : Int) : Rat) / _
    rw [Int.mul_zero]
    have := cast_ne (Int.ne_of_gt hD)
    show (0 : Rat) = 0 / _
    grind
  | x :: r => by
    have ih := rowOf_sum hD (k := k) r
    show qv (low2 (k * x) D) + ((r.map fun x => low2 (k * x) D).map qv).sum = _
    rw [ih, qv_low2 hD, List.sum_cons, Int.mul_add, Rat.intCast_add]
    have := cast_ne (Int.ne_of_gt hD)
    grind
theorem BaseLife.tot {row : List RT} {step : RT} (h : BaseLife row step) : ∃ N E, Tot row step N E := by
  rcases h with ⟨ws, extra, m, rfl⟩ | ⟨rfl, rfl⟩
  · obtain ⟨w0, w1⟩ := m.whole
    obtain ⟨s0, s1, s2, s3⟩ := m.step_ok
    have hS := sum_bound m.nn
    have hL := m.last
    have hE := m.ex
    refine ⟨(step.2 - step.1) * ws.sum + step.1 * lastW ws, (step.2 - step.1) * extra, ?_⟩
    have e : (step.2 - step.1) * ws.sum + step.1 * lastW ws + (step.2 - step.1) * extra = wholeOf ws extra step := by
      unfold wholeOf
      rw [Int.mul_add]
      omega
    refine ⟨Int.add_nonneg (Int.mul_nonneg (by omega) hS.1) (Int.mul_nonneg s0 (Int.le_of_lt hL)), Int.mul_nonneg (by omega) hE.1, by rw [e]; exact w0, by rw [e]; omega, ?_⟩
    rw [e]
    rcases snoc_cases ws with z | ⟨ys, y, z⟩
    · exact absurd z m.ne
    · have ey : lastW ws = y := by
        rw [z]
        unfold lastW
        simp
      have hr : rowQ (rowOf ws extra step) = (((step.2 - step.1) * ws.sum : Int) : Rat) / (wholeOf ws extra step : Rat) := rowOf_sum w0 ws
      have hb : behQ (rowOf ws extra step) step = ((step.1 * lastW ws : Int) : Rat) / (wholeOf ws extra step : Rat) := by
        have er : rowOf ws extra step = (ys.map fun x => low2 ((step.2 - step.1) * x) (wholeOf ws extra step)) ++ [low2 ((step.2 - step.1) * y) (wholeOf ws extra step)] := by
          show ws.map _ = _
          conv => lhs; rw [z]
          rw [List.map_append]
          rw [← z]
          rfl
        rw [er, behQ_snoc, qv_low2 w0, ey]
        have h1 := cast_ne (Int.ne_of_gt w0)
        have h2 := gap_val s3 s1
        have h3 := cast_ne (Int.ne_of_gt s3.1)
        rw [Rat.intCast_mul, Rat.intCast_mul, Rat.intCast_sub]
        unfold qv at *
        have h4 : (step.2 : Rat) - (step.1 : Rat) ≠ 0 := by
          intro z4
          apply h2
          grind
        grind
      rw [hr, hb, Rat.intCast_add]
      have h1 := cast_ne (Int.ne_of_gt w0)
      grind
  · refine ⟨0, 1, by decide, by decide, by decide, by decide, ?_⟩
    show (0 : Rat) + 0 = ((0 : Int) : Rat) / _
    show (0 : Rat) + 0 = 0 / _
    grind
theorem AnyLife.tot {row : List RT} {step : RT} (h : AnyLife row step) : ∃ N E, Tot row step N E := by
  have st := h.ok.1.st
  rcases h with h | ⟨row0, l, h, h5, hs, hl, rfl⟩ | ⟨row0, h, h5, rfl, hs⟩
  · exact h.tot
  · obtain ⟨N, E, t⟩ := h.tot
    obtain ⟨s1, s2, _, _⟩ := h.sm
    refine ⟨N, E, t.nn, t.ee, t.pos, t.le, ?_⟩
    rw [← t.val, rowQ_snoc, behQ_snoc, (qv_rT (s1 l (List.mem_of_getElem? hl)).1.1 s2.1).2]
    rcases snoc_cases row0 with z | ⟨ys, y, z⟩
    · rw [z] at hl
      simp at hl
    · have ey : l = y := by
        rw [z] at hl
        simpa using hl.symm
      rw [z, behQ_snoc, ← ey]
      have := gap_val st.1.1 st.2.2
      grind
  · obtain ⟨N, E, t⟩ := h.tot
    refine ⟨N, E, t.nn, t.ee, t.pos, t.le, ?_⟩
    rw [← t.val, rowQ_snoc, behQ_snoc, qv_nought]
    have hb : behQ row0 (0, 1) = 0 := by
      unfold behQ
      split
      · rfl
      · rw [qv_nought]
        grind
    rw [hb]
    grind

end Fp

set_option Elab.async false
set_option linter.all false
set_option maxRecDepth 100000
set_option maxHeartbeats 4000000
set_option exponentiation.threshold 10000
namespace Fp
open PySem PySem.Spec PyProof.Rows L2
/-! ### added: told as a tuple -/
section
variable {P : Program} {w : World} {K : PySem.W.Frag} {mg : Str → Option Value} {base : Heap}
def spOobT (K : PySem.W.Frag) : Sp := fun vs H Q _ => ∃ (p : Addr) (xs : List RT) (n d : Nat) (D : Int), vs = [.ref p] ∧ RowAt K H p xs ∧ Over1 n d D xs ∧ n ≤ 4000 ∧ d ≤ 4000 ∧
  ∀ z zl c H', Same H H' → H' z = some (.tup [.ref zl, .int c]) → H' zl = some (.lst ((topsOn c xs).map V.int)) → 0 < c → c ∣ D → (∀ x ∈ xs, x.2 ∣ c) → Q (.ref z) H'
theorem ok_oobT {f fC : Addr} {fd fdC : FuncData} (F : Fun K "on_one_bottom" "on_one_bottom" s_oob f fd) (FC : Fun K "common_divisor" "common_divisor" s_cd fC fdC) (bC : Binds K fdC ["one", "other"] []) (gC : mg "common_divisor" = some (.ref fC)) (ma : mg "abs" = none) :
    FnOk P w K mg base CX0 2 f fd ["told"] (spOobT K) := by
  have GC : FnOk P w K mg base CX0 1 fC fdC ["one", "other"] spCd := ok_cd FC ma
  refine F.ok sc_oob (fun vs H Q E h => ?_) (fun cdv A outer s H vs Q E hr h => ?_)
  · obtain ⟨_, _, _, _, _, rfl, _⟩ := h
    rfl
  · obtain ⟨p, xs, n, d, D, rfl, hlst, O, hn, hd, q⟩ := h
    obtain ⟨rs, r1, r2⟩ := id hlst
    have hl := r2.length
    refine ⟨_, (pss_cons (ps_set (i := 1) sc_oob.nd rfl (.inr rfl) pe_int) (pss_cons (ps_for PassesOwn.never rfl (pi_tup (pv 0)) (pg_tup rfl (pgs_cons (pg_name (i := 2) sc_oob.nd rfl (.inl rfl)) (pgs_cons (pg_name (i := 3) sc_oob.nd rfl (.inl rfl)) pgs_nil)))
          (pss_one (ps_set (i := 1) sc_oob.nd rfl (.inr rfl) (pe_op op_mulA (pe_op op_fdivA (pv 1) (pe_call GC hr (by rfl) gC FC.kp bC .nil pass0 (pa_cons (pv 1) (pa_cons (pv 3) pa_nil)))) (pv 3))))) (pss_one (ps_ret (pe_tup (pa_cons (pe_lc (own := [("top", 2), ("bottom", 3)]) (g := gTup K 2 (gCons (gName 2) (gCons (gName 3) gNil))) (tt := tYes) (te := tOp (rI CMulA fun i j => .int (i * j)) (tVar 2) (tOp (rI CDivA fun i j => .int (i.fdiv j)) (tVar 1) (tVar 3))) rfl sc_oob.nd (pi_tup (pv 0)) (blkOk_by (own := [("top", 2), ("bottom", 3)]) (N := N_oob) (sc := defScope s_oob) (by decide +kernel))
          (fun _ _ _ _ _ => pg_tup rfl (pgs_cons (pg_name (i := 2) sc_oob.nd rfl (.inl rfl)) (pgs_cons (pg_name (i := 3) sc_oob.nd rfl (.inl rfl)) pgs_nil))) (fun _ _ _ _ _ => pts_nil) (fun _ _ _ _ _ => pe_op op_mulA (pv 2) (pe_op op_fdivA (pv 1) (pv 3)))) (pa_cons (pv 1) pa_nil))))))), ?_⟩
    refine ⟨_, rfl, p, rfl, ⟨_, r1⟩, for_tup (K := K) (a := p) (xs := rs.map V.ref) (fun i σ H1 => H1 = H ∧ ∃ (c : Int) (y2 y3 : Option V), σ = [some (.ref p), some (.int c), y2, y3] ∧ 0 < c ∧ c ∣ D ∧ ∀ x ∈ xs.take i, x.2 ∣ c) ?_ ?_ ?_ ?_⟩
    · exact ⟨rfl, 1, _, _, rfl, by decide, Int.one_dvd D, fun x hx => by simp at hx⟩
    · rintro i σ H1 _ ⟨rfl, _⟩
      exact r1
    · rintro i y σ H1 hi ⟨rfl, c, y2, y3, rfl, c0, cD, hc⟩
      have hi2 : i < xs.length := by
        have := (List.getElem?_eq_some_iff.mp hi).1
        rw [List.length_map, hl] at this
        exact this
      have hg : xs[i]? = some xs[i] := List.getElem?_eq_getElem hi2
      obtain ⟨r, er, hr2⟩ := r2.get hg
      have ey : y = .ref r := by
        rw [List.getElem?_map, er] at hi
        exact (Option.some.inj hi).symm
      subst ey
      obtain ⟨b0, bD, _⟩ := O.ok xs[i] (List.getElem_mem hi2)
      have sc : Sm d c := dvd_small cD O.pos O.sm
      have sb : Sm d xs[i].2 := dvd_small bD O.pos O.sm
      have hg0 : 0 < Int.gcd c xs[i].2 := Nat.gcd_pos_of_pos_right _ (by omega)
      have hgs : Sm d ((Int.gcd c xs[i].2 : Nat) : Int) := by
        unfold Sm at *
        rw [Int.natAbs_natCast]
        exact Nat.lt_of_le_of_lt (Nat.gcd_le_right _ (by omega)) sb
      have d0 : 0 < d := by
        rcases Nat.eq_zero_or_pos d with z | z
        · rw [z] at sc
          unfold Sm at sc
          omega
        · exact z
      have hq1 : Sm d (c.fdiv ((Int.gcd c xs[i].2 : Nat) : Int)) := Nat.lt_of_le_of_lt (fdiv_le (by omega) (Int.gcd_dvd_left ..)) sc
      obtain ⟨k0, k1, k2, k3⟩ := lcm_ok c0 b0 cD bD
      refine ⟨r, _, rfl, hr2, rfl, _, _, rfl, _, _, rfl, rfl, ?_⟩
      refine ⟨_, rfl, _, rfl, _, rfl, c, xs[i].2, rfl, ?_⟩
      refine ⟨c, _, rfl, rfl, ⟨by omega, Nat.lt_of_lt_of_le (hgs.log d0) (by omega)⟩, _, rfl, _, _, rfl, rfl, hq1.cmul sb d0 d0 (by omega), rfl, _, _, _, rfl, k0, k1, fun x hx => ?_⟩
      rw [List.take_add_one, hg] at hx
      rcases List.mem_append.mp hx with z | z
      · exact Int.dvd_trans (hc x z) k2
      · rw [List.mem_singleton.mp z]
        exact k3
    · rintro σ H1 ⟨rfl, c, y2, y3, rfl, c0, cD, hc⟩
      rw [List.length_map, hl, List.take_length] at hc
      have sc : Sm d c := dvd_small cD O.pos O.sm
      have d0 : 0 < d := by
        rcases Nat.eq_zero_or_pos d with z | z
        · rw [z] at sc
          unfold Sm at sc
          omega
        · exact z
      refine ⟨_, rfl, p, rfl, ⟨_, r1⟩, fun R nR => ?_⟩
      have e1 := same_new (o := HO.lst []) nR
      refine lc_tup (K := K) (a := p) (xs := rs.map V.ref) (fun i H2 => Same H1 H2 ∧ H2 R = some (.lst ((topsOn c (xs.take i)).map V.int))) ?_ ?_ ?_ ?_
      · exact ⟨e1, upd_same⟩
      · rintro i H2 _ ⟨s2, _⟩
        exact sqT_same s2 r1
      · rintro i y H2 hi ⟨s2, hR⟩
        have hi2 : i < xs.length := by
          have := (List.getElem?_eq_some_iff.mp hi).1
          rw [List.length_map, hl] at this
          exact this
        have hg : xs[i]? = some xs[i] := List.getElem?_eq_getElem hi2
        obtain ⟨r, er, hr2⟩ := r2.get hg
        have ey : y = .ref r := by
          rw [List.getElem?_map, er] at hi
          exact (Option.some.inj hi).symm
        subst ey
        obtain ⟨b0, bD, sn⟩ := O.ok xs[i] (List.getElem_mem hi2)
        have sb : Sm d xs[i].2 := dvd_small bD O.pos O.sm
        have hdv := hc xs[i] (List.getElem_mem hi2)
        have ef : c.fdiv xs[i].2 = c / xs[i].2 := Int.fdiv_eq_ediv_of_nonneg _ (by omega)
        have sq : Sm d (c.fdiv xs[i].2) := Nat.lt_of_le_of_lt (fdiv_le b0 hdv) sc
        refine ⟨r, _, rfl, hr2.tk (Tk.same s2), rfl, _, _, rfl, _, _, rfl, rfl, rfl, tYes_go ?_⟩
        refine iteT ?_
        refine ⟨_, rfl, _, rfl, _, rfl, c, xs[i].2, rfl, rfl, ⟨by omega, Nat.lt_of_lt_of_le (sb.log d0) (by omega)⟩, _, _, rfl, rfl, (sn.mono (show n ≤ n + 1 by omega)).cmul sq (by omega) d0 (by omega), _, hR, ?_, ?_, ?_⟩
        · rw [List.length_map]
          unfold topsOn
          rw [List.length_map, List.length_take]
          have := O.len
          exact small1000 (by omega)
        · intro b o hb
          rw [upd_ne (ne_of_none hb nR)]
          exact s2 _ _ hb
        · rw [upd_same, List.take_add_one, hg]
          unfold topsOn
          rw [List.map_append, List.map_append, ef]
          rfl
      · rintro H2 ⟨s2, hR⟩
        rw [List.length_map, hl, List.take_length] at hR
        refine ⟨_, rfl, by show 2 ≤ sizeLine; decide, fun z nz => ?_⟩
        have e2 := same_new (o := HO.tup [.ref R, .int c]) nz
        exact q z R c _ (s2.trans e2) upd_same (e2 _ _ hR) c0 cD hc
def spAddedT (K : PySem.W.Frag) : Sp := fun vs H Q _ => ∃ (p : Addr) (xs : List RT) (n d : Nat) (D : Int), vs = [.ref p] ∧ RowAt K H p xs ∧ Over1 n d D xs ∧ n ≤ 4000 ∧ d ≤ 4000 ∧
  ∀ z x H', Same H H' → RAt K H' z x → Red x → qv x = (xs.map qv).sum → x.2 ∣ D → Sm (n + d + 11) x.1 → Q (.ref z) H'
theorem ok_addedT {f fO fR : Addr} {fd fdO fdR : FuncData} (F : Fun K "added" "added" s_added f fd) (FO : Fun K "on_one_bottom" "on_one_bottom" s_oob fO fdO) (bO : Binds K fdO ["told"] []) (gO : mg "on_one_bottom" = some (.ref fO)) (GO : FnOk P w K mg base CX0 2 fO fdO ["told"] (spOobT K))
    (FR : Fun K "ratio" "ratio" s_ratio fR fdR) (bR : Binds K fdR ["top", "bottom"] []) (gR : mg "ratio" = some (.ref fR)) (GR : FnOk P w K mg base CX0 2 fR fdR ["top", "bottom"] spRat0) (ms : mg "sum" = none) : FnOk P w K mg base CX0 3 f fd ["told"] (spAddedT K) := by
  refine F.ok sc_added (fun vs H Q E h => ?_) (fun cdv A outer s H vs Q E hr h => ?_)
  · obtain ⟨_, _, _, _, _, rfl, _⟩ := h
    rfl
  · obtain ⟨p, xs, n, d, D, rfl, hlst, O, hn, hd, q⟩ := h
    refine ⟨_, (pss_cons (ps_asg (pe_call GO hr (by rfl) gO FO.kp bO .nil pass0 (pa_cons (pv 0) pa_nil)) (pg_tup rfl (pgs_cons (pg_name (i := 1) sc_added.nd rfl (.inl rfl)) (pgs_cons (pg_name (i := 2) sc_added.nd rfl (.inl rfl)) pgs_nil)))) (pss_one (ps_ret (pe_call GR hr (by rfl) gR FR.kp bR .nil pass0 (pa_cons (pe_callB (cr_sum rfl) (by rfl) ms (by decide +kernel) (pa_cons (pv 1) pa_nil)) (pa_cons (pv 2) pa_nil)))))), ?_⟩
    refine ⟨_, rfl, p, xs, n, d, D, rfl, hlst, O, hn, hd, fun z zl c H1 s1 hz hzl c0 cD hc => ?_⟩
    refine ⟨z, _, rfl, SqT.of hz, rfl, _, _, rfl, _, _, rfl, rfl, ?_⟩
    have sc : Sm d c := dvd_small cD O.pos O.sm
    refine ⟨_, rfl, zl, _, rfl, SqL.of hzl, _, rfl, _, c, rfl, sc.mono (show d ≤ 8000 by omega), Int.ne_of_gt c0, fun y ny => ?_⟩
    have e := same_new (o := HO.tup [.int (ratT (topsOn c xs).sum c), .int (ratB (topsOn c xs).sum c)]) ny
    have red : Red (low2 (topsOn c xs).sum c) := low2_red (Int.ne_of_gt c0)
    have val : qv (low2 (topsOn c xs).sum c) = (((topsOn c xs).sum : Int) : Rat) / (c : Rat) := qv_low2 c0
    obtain ⟨y1, y2⟩ := red_small red c0 val
    refine q y (low2 (topsOn c xs).sum c) _ (s1.trans e) (SqT.of upd_same) red (val.trans (tops_sum c0 fun x hx => ⟨(O.ok x hx).1, hc x hx⟩)) (Int.dvd_trans y1 cD) ?_
    have t := tops_sm (n := n) c0 O.pos cD O.sm (xs := xs) fun x hx => ⟨(O.ok x hx).1, (O.ok x hx).2.2⟩
    have hlen := O.len
    unfold Sm
    have t2 : xs.length * 2 ^ (n + d) ≤ 1000 * 2 ^ (n + d) := Nat.mul_le_mul_right _ hlen
    have t3 : 2 ^ (n + d + 11) = 2048 * 2 ^ (n + d) := by rw [Nat.pow_add, Nat.mul_comm]
    have t4 : 0 < 2 ^ (n + d) := Nat.pow_pos (by decide)
    omega
theorem addT_go {H : Hp} {Q : VK} {p : Addr} {P : Int} {n s k : Nat} {f : Nat → Rat} (h : RowAt K H p (mkL n f)) (hP : 0 < P) (sP : Sm s P) (z : ∀ j, j < n → Sz P k (f j)) (hn : n ≤ 1000) (hs : s ≤ 2500) (hk : k ≤ 900)
    (q : ∀ r H', Same H H' → RAt K H' r (rdq (sumTo n f)) → Q (.ref r) H') : spAddedT K [.ref p] H Q E0 := by
  refine ⟨p, _, _, _, P, rfl, h, over_mkL hP sP z hn, by omega, by omega, fun y x HF sF hy rx vx _ _ => ?_⟩
  have ex : x = rdq (sumTo n f) := is_rdq rx (by rw [vx, mkL_sum])
  rw [ex] at hy
  exact q y HF sF hy
end

end Fp

set_option Elab.async false
set_option linter.all false
set_option maxRecDepth 100000
set_option maxHeartbeats 4000000
set_option exponentiation.threshold 10000
namespace Fp
open PySem PySem.Spec PyProof.Rows L2
/-! ### many, in all -/
section
variable {P : Program} {w : World} {K : PySem.W.Frag} {mg : Str → Option Value} {base : Heap} {aN aO : Addr}
def spMb (K : PySem.W.Frag) : Sp := fun vs H Q _ => ∃ (p : Addr) (row : List RT) (step : RT) (n beat : Nat) (W D : Int), vs = [.ref p, .int (beat : Int)] ∧ LifeAt K H p row step ∧ LifeOk n row step ∧ WOk W row ∧ Ch01 D (chR row step) 20 ∧ beat ≤ 20 ∧
  ∀ z H', Same H H' → RAt K H' z (rdq (sumTo beat fun i => putQ row step (i + 1))) → Q (.ref z) H'
/-- none of a full one, else all by what lacks -/
def AD (K : PySem.W.Frag) (H : Hp) (v : V) (t : Rat) : Prop := (t = 1 ∧ v = .non) ∨ (t ≠ 1 ∧ ∃ z, v = .ref z ∧ RAt K H z (rdq (t / (1 - t))))
theorem AD.tk {H H' : Hp} {v : V} {t : Rat} (h : AD K H v t) (e : Tk K H H') : AD K H' v t := by
  rcases h with h | ⟨h1, z, h2, h3⟩
  · exact .inl h
  · exact .inr ⟨h1, z, h2, h3.tk e⟩
def adD (t : Rat) : PyData := if t = 1 then .none else ratD (rdq (t / (1 - t)))
theorem AD.dp {H : Hp} {v : V} {t : Rat} (h : AD K H v t) : Dp K H v (adD t) ∧ (v = .non ∨ (∃ i, v = .int i) ∨ ∃ a, v = .ref a) := by
  unfold adD
  rcases h with ⟨h1, rfl⟩ | ⟨h1, z, rfl, h3⟩
  · rw [if_pos h1]
    exact ⟨.non, .inl rfl⟩
  · rw [if_neg h1]
    exact ⟨h3.dp, .inr (.inr ⟨z, rfl⟩)⟩
theorem Tot.facts {row : List RT} {step : RT} {N E : Int} (h : Tot row step N E) : Sz (N + E) 0 (rowQ row + behQ row step) ∧ Sm 8 (N + E) ∧ 0 ≤ rowQ row + behQ row step ∧ rowQ row + behQ row step ≤ 1 ∧ Sz (N + E) 0 (1 - (rowQ row + behQ row step)) ∧
    (rowQ row + behQ row step ≠ 1 → 0 < E ∧ (rowQ row + behQ row step) / (1 - (rowQ row + behQ row step)) = (N : Rat) / (E : Rat)) := by
  have hn := h.nn
  have he := h.ee
  have hp := h.pos
  have hl := h.le
  have v := h.val
  generalize rowQ row + behQ row step = t at *
  obtain ⟨d1, d2⟩ := div_01 hn hp (show N ≤ N + E by omega)
  rw [← v] at d1 d2
  have hc := cast_ne (Int.ne_of_gt hp)
  have o : Ov (N + E) t := ⟨N, v⟩
  have o2 : Ov (N + E) (1 - t) := by
    refine ⟨E, ?_⟩
    rw [v]
    rw [Rat.intCast_add] at hc ⊢
    grind
  refine ⟨Sz.pos o d1 (by rw [Rat.pow_zero]; exact d2), by unfold Sm; omega, d1, d2, Sz.pos o2 (by grind) (by rw [Rat.pow_zero]; grind), fun ht => ?_⟩
  have e0 : 0 < E := by
    rcases (by omega : 0 < E ∨ E = 0) with z | z
    · exact z
    · refine absurd ?_ ht
      rw [z, Int.add_zero] at v hc
      rw [v]
      grind
  refine ⟨e0, ?_⟩
  have he2 := cast_ne (Int.ne_of_gt e0)
  rw [v]
  rw [Rat.intCast_add] at hc ⊢
  grind
theorem sh_none : Shows .none := ⟨rfl, rfl, by decide, by decide⟩
theorem Tot.sh {row : List RT} {step : RT} {N E : Int} (h : Tot row step N E) : Shows (adD (rowQ row + behQ row step)) := by
  obtain ⟨_, _, _, _, _, h6⟩ := h.facts
  unfold adD
  split
  · exact sh_none
  · rename_i z
    obtain ⟨e0, e1⟩ := h6 z
    have hn := h.nn
    have hl := h.le
    rw [e1]
    have sz : Sz E 8 ((N : Rat) / (E : Rat)) := by
      have hc : (0 : Rat) < (E : Rat) := Rat.intCast_pos.mpr e0
      have hi : (0 : Rat) ≤ (E : Rat)⁻¹ := Rat.le_of_lt (Rat.inv_pos.mpr hc)
      refine Sz.pos ⟨N, rfl⟩ (by rw [Rat.div_def]; exact Rat.mul_nonneg (Rat.intCast_nonneg.mpr hn) hi) ?_
      have u : (N : Rat) ≤ ((256 * E : Int) : Rat) := Rat.intCast_le_intCast.mpr (by omega)
      have u2 := Rat.mul_le_mul_of_nonneg_right u hi
      have e : (E : Rat) * (E : Rat)⁻¹ = 1 := Rat.mul_inv_cancel _ (Rat.ne_of_gt hc)
      rw [Rat.div_def, show (2 : Rat) ^ 8 = ((256 : Int) : Rat) by decide +kernel]
      rw [Rat.intCast_mul] at u2
      grind
    exact (Sh.rat (sz.smr (s := 8) (n := 1900) e0 (by unfold Sm; omega) (by decide)) (by decide)).shows (by decide) (by decide)
def spIa (K : PySem.W.Frag) : Sp := fun vs H Q _ => ∃ (p : Addr) (row : List RT) (step : RT) (n : Nat) (N E : Int), vs = [.ref p] ∧ LifeAt K H p row step ∧ LifeOk n row step ∧ Tot row step N E ∧
  ∀ v H', Same H H' → AD K H' v (rowQ row + behQ row step) → Q v H'
end

end Fp

set_option Elab.async false
set_option linter.all false
set_option maxRecDepth 100000
set_option maxHeartbeats 4000000
set_option exponentiation.threshold 10000
namespace Fp
open PySem PySem.Spec PyProof.Rows L2
/-! ### what laws need of a life -/
structure LF (row : List RT) (step : RT) : Prop where
  ok : LifeOk 20 row step
  len : row.length ≤ 7
  nil : row = [] → step = (0, 1)
  w : ∃ W, WOk W row
  ch : ∃ D, Ch01 D (chR row step) 20
  tot : ∃ N E, Tot row step N E
theorem AnyLife.lf {row : List RT} {step : RT} (h : AnyLife row step) : LF row step := ⟨h.ok.1, h.ok.2.1, h.ok.2.2, h.w, h.ch01, h.tot⟩
theorem ch01_of {row : List RT} {step : RT} {W : Int} (hW : WOk W row) (L : LifeOk 20 row step) (q1 : ∀ x ∈ row, 0 ≤ qv x ∧ qv x ≤ 1) (q2 : 0 ≤ qv step ∧ qv step ≤ 1) (s4 : 0 < step.2 ∧ step.2 ≤ 4) : Ch01 (W * step.2 ^ 20) (chR row step) 20 := by
  have sm20 : Sm 41 (step.2 ^ 20) := by
    obtain ⟨z1, z2⟩ := pow_four s4 20
    have e : (4 : Int) ^ 20 = 1099511627776 := by decide
    have e2 : (2 : Nat) ^ 41 = 2199023255552 := by decide
    unfold Sm
    rw [e2]
    rw [e] at z2
    omega
  have hD : 0 < W * step.2 ^ 20 := Int.mul_pos hW.pos (Int.pow_pos L.st.1.1.1)
  refine ⟨hD, (hW.sm.mul (show Sm 41 (step.2 ^ 20) from sm20)).mono (by decide), fun k _ => (chR_01 q1 q2 k).1, fun k _ => (chR_01 q1 q2 k).2, fun k hk => ?_⟩
  obtain ⟨x, sx, vx⟩ := ch_ex L k
  rw [← vx]
  exact Den.of hD sx.1.1 (ch_dvdW hW.dvd L.sm L.st.1.1 sx.1 vx hk)
theorem LF.sh {row : List RT} {step : RT} (h : LF row step) : Sh 500000 3 (lifeD row step) := Sh.life (n := 1900) (by decide) (fun x hx => (h.ok.sm x hx).mono (by decide)) (h.ok.st.1.mono (by decide)) (by have := h.len; omega)
theorem LF.small {row : List RT} {step : RT} {W N E : Int} (h1 : ∀ y ∈ row, SmR 20 y ∧ y.2 ∣ W ∧ 0 ≤ qv y ∧ qv y ≤ 1) (hW : 0 < W) (sW : Sm 14 W) (hs : StepOk 5 step) (hl : row.length ≤ 7) (hn : row ≠ []) (q2 : 0 ≤ qv step ∧ qv step ≤ 1) (s4 : 0 < step.2 ∧ step.2 ≤ 4) (t : Tot row step N E) : LF row step := by
  have L : LifeOk 20 row step := ⟨fun y hy => (h1 y hy).1, hs, by omega, by decide, by decide⟩
  have w : WOk W row := ⟨hW, sW, fun y hy => (h1 y hy).2.1⟩
  exact ⟨L, hl, fun z => absurd z hn, ⟨W, w⟩, ⟨_, ch01_of w L (fun x hx => (h1 x hx).2.2) q2 s4⟩, ⟨N, E, t⟩⟩

end Fp

set_option Elab.async false
set_option linter.all false
set_option maxRecDepth 100000
set_option maxHeartbeats 4000000
set_option exponentiation.threshold 10000
namespace Fp
open PySem PySem.Spec PyProof.Rows L2
/-! ### means: what they are, and their size -/
/-- one number under a row -/
structure WO (W : Int) (row : List RT) : Prop where
  pos : 0 < W
  sm : Sm 20 W
  dvd : ∀ y ∈ row, y.2 ∣ W
structure ML (row : List RT) (step : RT) (W : Int) : Prop where
  ok : LifeOk 20 row step
  len : row.length ≤ 13
  nil : row = [] → step = (0, 1)
  w : WO W row
  q01 : ∀ x ∈ row, 0 ≤ qv x ∧ qv x ≤ 1
  s4 : step.2 ≤ 4
def stQ (step : RT) : Rat := qv step
def firstQ (row : List RT) (step : RT) : Rat := behQ row step / (1 - qv step)
def secondQ (row : List RT) (step : RT) : Rat := firstQ row step * (1 + qv step) / (1 - qv step)
theorem Sz.frac {t b : Int} {k : Nat} (h0 : 0 ≤ t) (hb : 0 < b) (ht : t ≤ 2 ^ k * b) : Sz b k ((t : Rat) / (b : Rat)) := by
  have hc : (0 : Rat) < (b : Rat) := Rat.intCast_pos.mpr hb
  have hi : (0 : Rat) ≤ (b : Rat)⁻¹ := Rat.le_of_lt (Rat.inv_pos.mpr hc)
  have e : (b : Rat) * (b : Rat)⁻¹ = 1 := Rat.mul_inv_cancel _ (Rat.ne_of_gt hc)
  refine Sz.pos ⟨t, rfl⟩ (by rw [Rat.div_def]; exact Rat.mul_nonneg (Rat.intCast_nonneg.mpr h0) hi) ?_
  have u : (t : Rat) ≤ ((2 ^ k * b : Int) : Rat) := Rat.intCast_le_intCast.mpr ht
  have u2 := Rat.mul_le_mul_of_nonneg_right u hi
  rw [Rat.intCast_mul, cast_pow] at u2
  rw [Rat.div_def]
  have e2 : (((2 : Int) : Rat)) ^ k = (2 : Rat) ^ k := rfl
  rw [e2, Rat.mul_assoc, e, Rat.mul_one] at u2
  exact u2
section
variable {row : List RT} {step : RT} {W : Int}
/-- the number under all -/
def mP (W : Int) (step : RT) : Int := W * (step.2 - step.1) * (step.2 - step.1) * (step.2 - step.1)
theorem ML.gap (h : ML row step W) : 0 < step.2 - step.1 ∧ step.2 - step.1 ≤ 4 ∧ 0 ≤ step.1 ∧ 0 < step.2 := by
  have h1 := h.ok.st
  have h2 := h.s4
  have h3 := h1.2.2
  have h4 := h1.2.1
  omega
theorem ML.P (h : ML row step W) : 0 < mP W step ∧ Sm 29 (mP W step) := by
  obtain ⟨g1, g2, _, _⟩ := h.gap
  have sg : Sm 3 (step.2 - step.1) := by unfold Sm; omega
  exact ⟨Int.mul_pos (Int.mul_pos (Int.mul_pos h.w.pos g1) g1) g1, ((h.w.sm.mul sg).mul sg).mul sg⟩
theorem ML.rowz (h : ML row step W) {x : RT} (hx : x ∈ row) : Sz W 0 (qv x) := by
  obtain ⟨a, b⟩ := h.q01 x hx
  exact Sz.pos ⟨_, qv_over (h.ok.sm x hx).1.1 (h.w.dvd x hx) h.w.pos⟩ a (by rw [Rat.pow_zero]; exact b)
theorem ML.gapQ (h : ML row step W) : (1 : Rat) - qv step = (((step.2 - step.1 : Int)) : Rat) / (step.2 : Rat) ∧ (1 : Rat) - qv step ≠ 0 := by
  obtain ⟨g1, _, _, g4⟩ := h.gap
  have h3 := cast_ne (Int.ne_of_gt g4)
  refine ⟨?_, gap_val h.ok.st.1.1 h.ok.st.2.2⟩
  unfold qv
  rw [Rat.intCast_sub]
  grind
theorem ML.beh (h : ML row step W) : Sz (W * (step.2 - step.1)) 2 (behQ row step) := by
  obtain ⟨g1, g2, g3, g4⟩ := h.gap
  have hWd := Int.mul_pos h.w.pos g1
  rcases snoc_cases row with z | ⟨ys, y, z⟩
  · rw [z]
    show Sz _ _ 0
    exact Sz.nought
  · have hy : y ∈ row := by rw [z]; simp
    have e : behQ row step = qv y * ((step.1 : Rat) / ((step.2 - step.1 : Int) : Rat)) := by
      rw [z, behQ_snoc, h.gapQ.1]
      have h1 := cast_ne (Int.ne_of_gt g1)
      have h2 := cast_ne (Int.ne_of_gt g4)
      unfold qv
      grind
    rw [e]
    exact (h.rowz hy).mul h.w.pos g1 (Sz.frac (k := 2) g3 g1 (by have := h.ok.st.2.2; have := h.s4; omega))
theorem ML.first (h : ML row step W) : Sz (W * (step.2 - step.1) * (step.2 - step.1)) 4 (firstQ row step) := by
  obtain ⟨g1, g2, g3, g4⟩ := h.gap
  have e : firstQ row step = behQ row step * ((step.2 : Rat) / ((step.2 - step.1 : Int) : Rat)) := by
    unfold firstQ
    rw [h.gapQ.1]
    have h1 := cast_ne (Int.ne_of_gt g1)
    have h2 := cast_ne (Int.ne_of_gt g4)
    grind
  rw [e]
  exact h.beh.mul (Int.mul_pos h.w.pos g1) g1 (Sz.frac (k := 2) (Int.le_of_lt g4) g1 (by have := h.s4; omega))
theorem ML.second (h : ML row step W) : Sz (mP W step) 7 (secondQ row step) := by
  obtain ⟨g1, g2, g3, g4⟩ := h.gap
  have e : secondQ row step = firstQ row step * (((step.2 + step.1 : Int) : Rat) / ((step.2 - step.1 : Int) : Rat)) := by
    unfold secondQ
    rw [h.gapQ.1]
    have h1 := cast_ne (Int.ne_of_gt g1)
    have h2 := cast_ne (Int.ne_of_gt g4)
    rw [Rat.intCast_add]
    unfold qv
    grind
  rw [e]
  exact h.first.mul (Int.mul_pos (Int.mul_pos h.w.pos g1) g1) g1 (Sz.frac (k := 3) (by omega) g1 (by have := h.s4; have := h.ok.st.2.2; omega))
theorem ML.up1 (h : ML row step W) {k : Nat} {q : Rat} (z : Sz W k q) : Sz (mP W step) k q := by
  obtain ⟨g1, _, _, _⟩ := h.gap
  exact z.dvd h.w.pos h.P.1 (by unfold mP; exact ⟨(step.2 - step.1) * (step.2 - step.1) * (step.2 - step.1), by rw [Int.mul_assoc, Int.mul_assoc, Int.mul_assoc]⟩)
theorem ML.up2 (h : ML row step W) {k : Nat} {q : Rat} (z : Sz (W * (step.2 - step.1)) k q) : Sz (mP W step) k q := by
  obtain ⟨g1, _, _, _⟩ := h.gap
  exact z.dvd (Int.mul_pos h.w.pos g1) h.P.1 (by unfold mP; exact ⟨(step.2 - step.1) * (step.2 - step.1), by rw [Int.mul_assoc]⟩)
theorem ML.up3 (h : ML row step W) {k : Nat} {q : Rat} (z : Sz (W * (step.2 - step.1) * (step.2 - step.1)) k q) : Sz (mP W step) k q := by
  obtain ⟨g1, _, _, _⟩ := h.gap
  exact z.dvd (Int.mul_pos (Int.mul_pos h.w.pos g1) g1) h.P.1 (by unfold mP; exact ⟨step.2 - step.1, rfl⟩)
theorem Sz.nat {P : Int} {k j : Nat} {q : Rat} {n : Nat} (z : Sz P k q) (hP : 0 < P) (hn : n ≤ 2 ^ j) : Sz P (k + j) (((n : Int) : Rat) * q) := by
  have a : Sz 1 j ((n : Int) : Rat) := by
    have := Sz.frac (t := (n : Int)) (b := 1) (k := j) (by omega) (by decide) (by
      have e : ((2 ^ j : Nat) : Int) = (2 : Int) ^ j := by rw [Int.natCast_pow]; rfl
      rw [Int.mul_one, ← e]
      omega)
    rw [show ((n : Int) : Rat) / (((1 : Int)) : Rat) = ((n : Int) : Rat) by show _ / (1 : Rat) = _; grind] at this
    exact this
  have := z.mul hP (by decide : (0 : Int) < 1) a
  rw [Int.mul_one] at this
  rw [show ((n : Int) : Rat) * q = q * ((n : Int) : Rat) by grind]
  exact this
end
/-- the mean, the square's -/
def meanQ (row : List RT) (step : RT) : Rat := (sumTo row.length fun k => (((k + 1 : Nat) : Int) : Rat) * chR row step k) + ((row.length : Int) : Rat) * behQ row step + firstQ row step
def msqQ (row : List RT) (step : RT) : Rat := (sumTo row.length fun k => ((((k + 1) * (k + 1) : Nat) : Int) : Rat) * chR row step k) + (((row.length * row.length : Nat) : Int) : Rat) * behQ row step + (((2 * row.length : Nat) : Int) : Rat) * firstQ row step + secondQ row step
/-- none where not full -/
def MV (K : PySem.W.Frag) (H : Hp) (v : V) (t q : Rat) : Prop := (t ≠ 1 ∧ v = .non) ∨ (t = 1 ∧ ∃ z, v = .ref z ∧ RAt K H z (rdq q))
def mvD (t q : Rat) : PyData := if t = 1 then ratD (rdq q) else .none
section
variable {K : PySem.W.Frag} {H H' : Hp} {v : V} {t q : Rat}
theorem MV.tk (h : MV K H v t q) (e : Tk K H H') : MV K H' v t q := by
  rcases h with h | ⟨h1, z, h2, h3⟩
  · exact .inl h
  · exact .inr ⟨h1, z, h2, h3.tk e⟩
theorem MV.dp (h : MV K H v t q) : Dp K H v (mvD t q) := by
  unfold mvD
  rcases h with ⟨h1, rfl⟩ | ⟨h1, z, rfl, h3⟩
  · rw [if_neg h1]
    exact .non
  · rw [if_pos h1]
    exact h3.dp
theorem over_go {p1 p2 : Addr} {x y : Rat} {Q : VK} (h1 : RAt K H p1 (rdq x)) (h2 : RAt K H p2 (rdq y)) (s1 : SmR 3000 (rdq x)) (s2 : SmR 3000 (rdq y)) (hy : 0 < y) (q : ∀ r H', Same H H' → RAt K H' r (rdq (x / y)) → Q (.ref r) H') : spOver0 K [.ref p1, .ref p2] H Q E0 := by
  have hpos : 0 < (rdq y).1 := by
    have h3 := (rdq_red y).1
    have hc : (0 : Rat) < ((rdq y).2 : Rat) := Rat.intCast_pos.mpr h3
    have e := qv_rdq y
    refine Rat.intCast_pos.mp ?_
    have h4 : ((rdq y).1 : Rat) = y * ((rdq y).2 : Rat) := by
      have hne := Rat.ne_of_gt hc
      unfold qv at e
      grind
    rw [h4]
    exact Rat.mul_pos hy hc
  refine ⟨p1, p2, _, _, _, _, rfl, ⟨h1, h2, s1.2.1, s1.2.2, s2.2.1, s2.2.2, s1.1.1, s2.1.1⟩, Int.ne_of_gt (Int.mul_pos s1.1.1 hpos), fun b nb => ?_⟩
  obtain ⟨y1, y2⟩ := qv_rO s1.1 s2.1 hpos
  have e9 := same_new (o := HO.tup [.int (rO (rdq x) (rdq y)).1, .int (rO (rdq x) (rdq y)).2]) nb
  have ep : rO (rdq x) (rdq y) = rdq (x / y) := is_rdq y1 (by rw [y2, qv_rdq, qv_rdq])
  refine q b _ e9 ?_
  rw [← ep]
  exact SqT.of upd_same
theorem plus_go {p1 p2 : Addr} {x y : Rat} {Q : VK} (h1 : RAt K H p1 (rdq x)) (h2 : RAt K H p2 (rdq y)) (s1 : SmR 3000 (rdq x)) (s2 : SmR 3000 (rdq y)) (q : ∀ r H', Same H H' → RAt K H' r (rdq (x + y)) → Q (.ref r) H') : spTwo K (fun a b c d => a * d + c * b) [.ref p1, .ref p2] H Q E0 := by
  refine ⟨p1, p2, _, _, _, _, rfl, ⟨h1, h2, s1.2.1, s1.2.2, s2.2.1, s2.2.2, s1.1.1, s2.1.1⟩, fun b nb => ?_⟩
  have e := same_new (o := HO.tup [.int (rP (rdq x) (rdq y)).1, .int (rP (rdq x) (rdq y)).2]) nb
  obtain ⟨y1, y2⟩ := qv_rP s1.1 s2.1.1
  have ep : rP (rdq x) (rdq y) = rdq (x + y) := is_rdq y1 (by rw [y2, qv_rdq, qv_rdq])
  refine q b _ e ?_
  rw [← ep]
  exact SqT.of upd_same
/-- a whole number as a ratio -/
theorem int_rat {p : Addr} {n : Nat} (h : SqT K H p [.int (n : Int), .int 1]) : RAt K H p (rdq ((n : Int) : Rat)) := by
  have e : ((n : Int), (1 : Int)) = rdq ((n : Int) : Rat) := by
    refine is_rdq ⟨by show (0 : Int) < 1; decide, by show Int.gcd (n : Int) 1 = 1; simp⟩ ?_
    unfold qv
    show ((n : Int) : Rat) / ((1 : Int) : Rat) = _
    show ((n : Int) : Rat) / (1 : Rat) = _
    grind
  rw [← e]
  exact h
theorem int_smr {n : Nat} (h : n < 1000) : SmR 3000 (rdq ((n : Int) : Rat)) := by
  have e : ((n : Int), (1 : Int)) = rdq ((n : Int) : Rat) := by
    refine is_rdq ⟨by show (0 : Int) < 1; decide, by show Int.gcd (n : Int) 1 = 1; simp⟩ ?_
    unfold qv
    show ((n : Int) : Rat) / (1 : Rat) = _
    grind
  rw [← e]
  refine SmR.mono (n := 10) ⟨⟨by show (0 : Int) < 1; decide, by show Int.gcd (n : Int) 1 = 1; simp⟩, ?_, by unfold Sm; show (1 : Nat) < 2 ^ 10; decide⟩ (by decide)
  unfold Sm
  show (n : Int).natAbs < 2 ^ 10
  omega
end

end Fp

set_option Elab.async false
set_option linter.all false
set_option maxRecDepth 100000
set_option maxHeartbeats 4000000
set_option exponentiation.threshold 10000
namespace Fp
open PySem PySem.Spec PyProof.Rows L2
/-! ### moments, means, the square's, the round -/
theorem over_ls {P : Int} {s k : Nat} {xs : List RT} (hP : 0 < P) (sP : Sm s P) (h : ∀ x ∈ xs, ∃ q, x = rdq q ∧ Sz P k q) (hl : xs.length ≤ 1000) : Over1 (s + k + 1) s P xs := by
  refine ⟨hP, sP, fun x hx => ?_, hl⟩
  obtain ⟨q, rfl, z⟩ := h x hx
  obtain ⟨h1, h2, h3⟩ := z.red hP sP
  exact ⟨(rdq_red _).1, h1, h2⟩
theorem sum_app_rat (xs ys : List Rat) : (xs ++ ys).sum = xs.sum + ys.sum := by
  induction xs with
  | nil =>
    show ys.sum = 0 + ys.sum
    grind
  | cons x r ih =>
    show x + (r ++ ys).sum = (x + r.sum) + ys.sum
    rw [ih]
    grind
theorem red_at {K : PySem.W.Frag} {H : Hp} {p : Addr} {x : RT} (h : RAt K H p x) (r : Red x) : RAt K H p (rdq (qv x)) := by
  rw [← red_rdq r]
  exact h
section
variable {P : Program} {w : World} {K : PySem.W.Frag} {mg : Str → Option Value} {base : Heap} {aN aO : Addr}
def spMom (K : PySem.W.Frag) : Sp := fun vs H Q _ => ∃ (p : Addr) (row : List RT) (step : RT) (W : Int), vs = [.ref p] ∧ LifeAt K H p row step ∧ ML row step W ∧
  ∀ z a b c H', Same H H' → SqT K H' z [.ref a, .ref b, .ref c] → RAt K H' a (rdq (behQ row step)) → RAt K H' b (rdq (firstQ row step)) → RAt K H' c (rdq (secondQ row step)) → Q (.ref z) H'
def spMean (K : PySem.W.Frag) : Sp := fun vs H Q _ => ∃ (p : Addr) (row : List RT) (step : RT) (W : Int), vs = [.ref p] ∧ LifeAt K H p row step ∧ ML row step W ∧
  ∀ v H', Same H H' → MV K H' v (rowQ row + behQ row step) (meanQ row step) → Q v H'
def spMsq (K : PySem.W.Frag) : Sp := fun vs H Q _ => ∃ (p : Addr) (row : List RT) (step : RT) (W : Int), vs = [.ref p] ∧ LifeAt K H p row step ∧ ML row step W ∧
  ∀ v H', Same H H' → MV K H' v (rowQ row + behQ row step) (msqQ row step) → Q v H'
/-- the items of a row, by values -/
theorem row_item {H HE : Hp} {pr : Addr} {row : List RT} {step : RT} {W : Int} (M : ML row step W) {rs : List Addr} (r2 : RsAt K H rs row) (sE : Same H HE) {i : Nat} {x : V} (hi : i < row.length) (e : (rs.map V.ref)[i]? = some x) : ∃ r, x = .ref r ∧ RAt K HE r (rdq (chR row step i)) ∧ SmR 3000 (rdq (chR row step i)) ∧ Sz W 0 (chR row step i) := by
  have hg : row[i]? = some row[i] := List.getElem?_eq_getElem hi
  obtain ⟨r, e1, e2⟩ := r2.get hg
  rw [List.getElem?_map, e1] at e
  have hm := List.getElem_mem hi
  rw [chR_in hg]
  refine ⟨r, (Option.some.inj e).symm, red_at (e2.tk (Tk.same sE)) (M.ok.sm _ hm).1, ?_, M.rowz hm⟩
  rw [← red_rdq (M.ok.sm _ hm).1]
  exact (M.ok.sm _ hm).mono (by decide)
/-- the greatest that divides all -/
def gR (a : Nat → Rat) : Nat → Nat
  | 0 => 0
  | i + 1 => if a i = 0 then gR a i else Nat.gcd (gR a i) (i + 1)
def roundN (row : List RT) (step : RT) : Nat := if behQ row step = 0 then gR (chR row step) row.length else Nat.gcd (gR (chR row step) row.length) (row.length + 1)
def spRound (K : PySem.W.Frag) : Sp := fun vs H Q _ => ∃ (p : Addr) (row : List RT) (step : RT) (W : Int), vs = [.ref p] ∧ LifeAt K H p row step ∧ ML row step W ∧ ∀ H', Same H H' → Q (.int ((roundN row step : Nat) : Int)) H'
end

end Fp

set_option Elab.async false
set_option linter.all false
set_option maxRecDepth 100000
set_option maxHeartbeats 4000000
set_option exponentiation.threshold 10000
namespace Fp
open PySem PySem.Spec PyProof.Rows L2
/-! ### the law's own means -/
theorem abel1 (a : Nat → Rat) (n : Nat) : (sumTo n fun k => (((k + 1 : Nat) : Int) : Rat) * a k) + (sumTo n fun k => sumTo k a) = ((n : Int) : Rat) * sumTo n a := by
  induction n with
  | zero =>
    show (0 : Rat) + 0 = 0 * 0
    grind
  | succ n ih =>
    rw [sumTo_succ, sumTo_succ (n := n) (f := fun k => sumTo k a), sumTo_succ (n := n) (f := a)]
    rw [show (((n + 1 : Nat) : Int)) = (n : Int) + 1 by omega, Rat.intCast_add]
    show _ + ((n : Int) + (1 : Rat)) * a n + _ = ((n : Int) + (1 : Rat)) * _
    grind
theorem abel2 (a : Nat → Rat) (n : Nat) : (sumTo n fun k => ((((k + 1) * (k + 1) : Nat) : Int) : Rat) * a k) + (sumTo n fun k => (((2 * k + 1 : Nat) : Int) : Rat) * sumTo k a) = (((n * n : Nat) : Int) : Rat) * sumTo n a := by
  induction n with
  | zero =>
    show (0 : Rat) + 0 = 0 * 0
    grind
  | succ n ih =>
    rw [sumTo_succ, sumTo_succ (n := n) (f := fun k => (((2 * k + 1 : Nat) : Int) : Rat) * sumTo k a), sumTo_succ (n := n) (f := a)]
    have e1 : ((((n + 1) * (n + 1) : Nat) : Int) : Rat) = (((n * n : Nat) : Int) : Rat) + (((2 * n + 1 : Nat) : Int) : Rat) := by
      rw [← Rat.intCast_add]
      congr 1
      have : (n + 1) * (n + 1) = n * n + (2 * n + 1) := by
        rw [Nat.add_mul, Nat.mul_add]
        omega
      omega
    rw [e1]
    grind
theorem ones (n : Nat) : (sumTo n fun _ => (1 : Rat)) = ((n : Int) : Rat) := by
  induction n with
  | zero => rfl
  | succ n ih =>
    rw [sumTo_succ, ih, show (((n + 1 : Nat) : Int)) = (n : Int) + 1 by omega, Rat.intCast_add]
    rfl
theorem odds (n : Nat) : (sumTo n fun k => (((2 * k + 1 : Nat) : Int) : Rat)) = (((n * n : Nat) : Int) : Rat) := by
  induction n with
  | zero => rfl
  | succ n ih =>
    rw [sumTo_succ, ih, ← Rat.intCast_add]
    congr 1
    have : (n + 1) * (n + 1) = n * n + (2 * n + 1) := by
      rw [Nat.add_mul, Nat.mul_add]
      omega
    omega
theorem rowQ_to (row : List RT) (step : RT) : ∀ k, k ≤ row.length → rowQ (row.take k) = sumTo k (chR row step)
  | 0, _ => rfl
  | k + 1, h => by
    have hg : row[k]? = some row[k] := List.getElem?_eq_getElem (by omega)
    rw [List.take_add_one, hg, sumTo_succ, chR_in hg, ← rowQ_to row step k (by omega)]
    exact rowQ_snoc _ _
theorem restR_le {row : List RT} {step : RT} {k : Nat} (h : k ≤ row.length) : restR row step k = (rowQ row + behQ row step) - sumTo k (chR row step) := by
  rw [← rowQ_to row step k h]
  have e : rowQ row = rowQ (row.take k) + rowQ (row.drop k) := by
    unfold rowQ
    conv => lhs; rw [← List.take_append_drop k row]
    rw [List.map_append, sum_app_rat]
  have e2 : restR row step k = rowQ (row.drop k) + behQ row step := by
    unfold restR behQ
    congr 1
    generalize row.getLast? = o
    cases o with
    | none => rfl
    | some l =>
      show qv l * qv step ^ (1 + (k - row.length)) / (1 - qv step) = _
      rw [show 1 + (k - row.length) = 0 + 1 by omega, Rat.pow_succ, Rat.pow_zero]
      grind
  rw [e2, e]
  grind
section
variable {P : Program} {w : World} {K : PySem.W.Frag} {mg : Str → Option Value} {base : Heap}
theorem lsum_ls {H : Hp} {Q : VK} {p : Addr} {xs : List RT} {P : Int} {s k : Nat} (h : LsM K H p xs) (hP : 0 < P) (sP : Sm s P) (z : ∀ x ∈ xs, ∃ q, x = rdq q ∧ Sz P k q) (hl : xs.length ≤ 900) (hs : s ≤ 2500) (hk : k ≤ 900)
    (q : ∀ r H', Same H H' → RAt K H' r (rdq (xs.map qv).sum) → Q (.ref r) H') : spLsum K LstAt [.ref p] H Q E0 := by
  obtain ⟨rs, h1, h2⟩ := h
  refine ⟨p, _, _, _, P, rfl, ⟨rs, SqL.of h1, h2⟩, over_ls hP sP z (by omega), by omega, by omega, fun y x HF sF hy rx vx _ _ => ?_⟩
  rw [is_rdq rx vx] at hy
  exact q y HF sF hy
theorem low_go {H : Hp} {Q : VK} {t b : Int} {v : Rat} (hb : 0 < b) (s8 : Sm 8000 b) (e : ((t : Int) : Rat) = v * (b : Rat)) (q : ∀ r H', Same H H' → RAt K H' r (rdq v) → Q (.ref r) H') : spLow [.int t, .int b] H Q E0 := by
  refine ⟨t, b, rfl, hb, s8, fun p np => ?_⟩
  have hc := cast_ne (Int.ne_of_gt hb)
  have ex : low2 t b = rdq v := by
    refine is_rdq (low2_red (Int.ne_of_gt hb)) ?_
    rw [qv_low2 hb, e]
    grind
  refine q p _ (same_new np) ?_
  rw [← ex]
  exact SqT.of upd_same
def spLmeans (K : PySem.W.Frag) : Sp := fun vs H Q _ => ∃ (p : Addr) (row : List RT) (step : RT) (W : Int), vs = [.ref p] ∧ LifeAt K H p row step ∧ ML row step W ∧
  ∀ z m s H', Same H H' → SqT K H' z [m, s] → MV K H' m (rowQ row + behQ row step) (meanQ row step) → MV K H' s (rowQ row + behQ row step) (msqQ row step) → Q (.ref z) H'
end

end Fp

set_option Elab.async false
set_option linter.all false
set_option maxRecDepth 100000
set_option maxHeartbeats 4000000
set_option exponentiation.threshold 10000
namespace Fp
open PySem PySem.Spec PyProof.Rows L2
/-! ### a life made longer by one: the same chances, means, round -/
/-- a life that the law looks at -/
def MA (row : List RT) (step : RT) : Prop := ∃ W, ML row step W ∧ Sm 14 W ∧ row.length ≤ 12
theorem AnyLife.ma {row : List RT} {step : RT} (h : AnyLife row step) : MA row step := by
  obtain ⟨W, hW⟩ := h.w
  obtain ⟨L, h7, hn⟩ := h.ok
  exact ⟨W, ⟨L, by omega, hn, ⟨hW.pos, hW.sm.mono (by decide), hW.dvd⟩, h.q01.1, h.step4.2⟩, hW.sm, by omega⟩

end Fp

set_option Elab.async false
set_option linter.all false
set_option maxRecDepth 100000
set_option maxHeartbeats 4000000
set_option exponentiation.threshold 10000
namespace Fp
open PySem PySem.Spec PyProof.Rows L2
/-! ### what stands at a beat: sums -/
theorem sumTo_spl (a b : Nat) (f : Nat → Rat) : sumTo (a + b) f = sumTo a f + sumTo b fun j => f (a + j) := by
  induction b with
  | zero =>
    rw [Nat.add_zero, sumTo_zero]
    grind
  | succ b ih =>
    rw [← Nat.add_assoc, sumTo_succ, sumTo_succ, ih]
    grind
def leftQ (a : Nat → Rat) (beat j : Nat) : Rat := sumTo (beat + 1) fun i => renQ a oneAt (beat - i) * a (i + j)
def sinceQ (a : Nat → Rat) (beat j : Nat) : Rat := sumTo (beat + 1 - (beat - j)) fun i => renQ a oneAt (beat - j + i)
def strQ (a : Nat → Rat) (beat j : Nat) : Rat := a j * sinceQ a beat j
def putSum (a : Nat → Rat) (beat : Nat) : Rat := sumTo (beat + 1) fun i => renQ a oneAt i
theorem put0 (a : Nat → Rat) : renQ a oneAt 0 = 1 := by
  rw [renQ_is, sumTo_zero]
  show (1 : Rat) + 0 = 1
  grind
theorem putS (a : Nat → Rat) (n : Nat) : renQ a oneAt (n + 1) = sumTo (n + 1) fun i => a i * renQ a oneAt (n - i) := by
  rw [renQ_is]
  show (0 : Rat) + sumTo (n + 1) (fun i => a i * renQ a oneAt (n - i)) = _
  grind
theorem putSum_many (a : Nat → Rat) (beat : Nat) : putSum a beat = 1 + sumTo beat fun i => renQ a oneAt (i + 1) := by
  unfold putSum
  rw [sumTo_head, put0]
/-- whatever stands: all ages together are one -/
theorem stands_one (a : Nat → Rat) : ∀ n, (sumTo (n + 1) fun i => renQ a oneAt (n - i) * (1 - sumTo i a)) = 1
  | 0 => by
    rw [sumTo_succ, sumTo_zero]
    show (0 : Rat) + renQ a oneAt 0 * (1 - sumTo 0 a) = 1
    rw [put0, sumTo_zero]
    grind
  | n + 1 => by
    have ih := stands_one a n
    have e : (sumTo (n + 1) fun j => renQ a oneAt (n + 1 - (j + 1)) * (1 - sumTo (j + 1) a)) = (sumTo (n + 1) fun i => renQ a oneAt (n - i) * (1 - sumTo i a)) + (-1) * sumTo (n + 1) fun i => a i * renQ a oneAt (n - i) := by
      rw [sumTo_mul, ← sumTo_add]
      refine sumTo_congr fun i hi => ?_
      rw [sumTo_succ, show n + 1 - (i + 1) = n - i by omega]
      grind
    rw [sumTo_head, e, ih, ← putS, Nat.sub_zero, sumTo_zero]
    grind
theorem nat1 (j : Nat) : (((j + 1 : Nat) : Int) : Rat) = ((j : Int) : Rat) + 1 := by
  rw [show ((j + 1 : Nat) : Int) = (j : Int) + 1 by omega, Rat.intCast_add]
  rfl
def tailQ (a : Nat → Rat) (L i : Nat) : Rat := sumTo L fun j => (((j + 1 : Nat) : Int) : Rat) * a (i + j)
theorem shift1 (g : Nat → Rat) : ∀ L, (sumTo L fun j => (((j + 1 : Nat) : Int) : Rat) * g j) = (sumTo L fun j => (((j + 1 : Nat) : Int) : Rat) * g (j + 1)) + sumTo L g - ((L : Int) : Rat) * g L
  | 0 => by
    rw [sumTo_zero, sumTo_zero, sumTo_zero]
    show (0 : Rat) = 0 + 0 - 0 * _
    grind
  | L + 1 => by
    have ih := shift1 g L
    rw [sumTo_succ, sumTo_succ, sumTo_succ, nat1]
    grind
theorem tail_step (a : Nat → Rat) (L : Nat) (h0 : ∀ k, L ≤ k → a k = 0) (h1 : sumTo L a = 1) (i : Nat) : tailQ a L i = tailQ a L (i + 1) + (1 - sumTo i a) := by
  have e := shift1 (fun j => a (i + j)) L
  have e2 : sumTo (i + L) a = 1 := by
    rw [Nat.add_comm, sumTo_spl, h1, sumTo_congr (g := fun _ => 0) fun j _ => h0 _ (by omega), sumTo_nought]
    grind
  rw [sumTo_spl] at e2
  unfold tailQ
  rw [e, h0 (i + L) (by omega)]
  have e3 : (sumTo L fun j => (((j + 1 : Nat) : Int) : Rat) * a (i + (j + 1))) = sumTo L fun j => (((j + 1 : Nat) : Int) : Rat) * a (i + 1 + j) := sumTo_congr fun j _ => by rw [show i + (j + 1) = i + 1 + j by omega]
  rw [e3]
  grind
theorem left_tail (a : Nat → Rat) (L n : Nat) : (sumTo L fun j => (((j + 1 : Nat) : Int) : Rat) * leftQ a n j) = sumTo (n + 1) fun i => renQ a oneAt (n - i) * tailQ a L i := by
  have e : (sumTo L fun j => (((j + 1 : Nat) : Int) : Rat) * leftQ a n j) = sumTo L fun j => sumTo (n + 1) fun i => renQ a oneAt (n - i) * ((((j + 1 : Nat) : Int) : Rat) * a (i + j)) := by
    refine sumTo_congr fun j _ => ?_
    unfold leftQ
    rw [sumTo_mul]
    exact sumTo_congr fun i _ => by grind
  rw [e, sumTo_swap]
  refine sumTo_congr fun i _ => ?_
  unfold tailQ
  rw [sumTo_mul]
/-- what is left, in the mean: all stretches put, less the beats -/
theorem wald (a : Nat → Rat) (L : Nat) (h0 : ∀ k, L ≤ k → a k = 0) (h1 : sumTo L a = 1) : ∀ n, (sumTo L fun j => (((j + 1 : Nat) : Int) : Rat) * leftQ a n j) = tailQ a L 0 * putSum a n - ((n : Int) : Rat)
  | 0 => by
    rw [left_tail, sumTo_succ, sumTo_zero]
    unfold putSum
    rw [sumTo_succ, sumTo_zero]
    show (0 : Rat) + renQ a oneAt 0 * tailQ a L 0 = tailQ a L 0 * (0 + renQ a oneAt 0) - 0
    grind
  | n + 1 => by
    have ih := wald a L h0 h1 n
    rw [left_tail] at ih
    rw [left_tail, sumTo_head]
    have e : (sumTo (n + 1) fun j => renQ a oneAt (n + 1 - (j + 1)) * tailQ a L (j + 1)) = (sumTo (n + 1) fun i => renQ a oneAt (n - i) * tailQ a L i) + (-1) * sumTo (n + 1) fun i => renQ a oneAt (n - i) * (1 - sumTo i a) := by
      rw [sumTo_mul, ← sumTo_add]
      refine sumTo_congr fun i _ => ?_
      rw [show n + 1 - (i + 1) = n - i by omega, tail_step a L h0 h1 i]
      grind
    rw [e, ih, stands_one, Nat.sub_zero]
    have e2 : putSum a (n + 1) = putSum a n + renQ a oneAt (n + 1) := by
      unfold putSum
      rw [sumTo_succ]
    rw [e2, nat1]
    grind
theorem chR_far0 {row : List RT} {i : Nat} (h : row.length ≤ i) : chR row (0, 1) i = 0 := by
  rcases Classical.em (row = []) with z | z
  · rw [z, chR_nil]
  · obtain ⟨l, h1, _, _⟩ := last_is z
    rw [chR_out h h1, qv_nought, show i + 1 - row.length = (i - row.length) + 1 by omega, Rat.pow_succ]
    grind
/-! ### sizes -/
theorem Sz.whole {P : Int} {q : Rat} {s k : Nat} (h : Sz P k q) (hP : 0 < P) (sP : Sm s P) : ∃ T : Int, (T : Rat) = q * (P : Rat) ∧ Sm (s + k + 1) T := by
  obtain ⟨⟨T, hT⟩, h0, h1⟩ := h
  have hc := cast_ne (Int.ne_of_gt hP)
  have hcp : (0 : Rat) < (P : Rat) := Rat.intCast_pos.mpr hP
  have e1 : (T : Rat) = q * (P : Rat) := by
    rw [hT]
    grind
  refine ⟨T, e1, ?_⟩
  have e2 : (2 : Rat) ^ k * (P : Rat) = ((2 ^ k * P : Int) : Rat) := by
    rw [Rat.intCast_mul, cast_pow 2 k]
    rfl
  have t1 : T ≤ 2 ^ k * P := by
    have := Rat.mul_le_mul_of_nonneg_right h1 (Rat.le_of_lt hcp)
    rw [← e1, e2] at this
    exact Rat.intCast_le_intCast.mp this
  have t0 : -(2 ^ k * P) ≤ T := by
    have := Rat.mul_le_mul_of_nonneg_right h0 (Rat.le_of_lt hcp)
    rw [← e1] at this
    refine Rat.intCast_le_intCast.mp ?_
    rw [Rat.intCast_neg, ← e2]
    grind
  unfold Sm at *
  have t2 : T.natAbs ≤ 2 ^ k * P.natAbs := by
    have : (2 ^ k * P : Int).natAbs = 2 ^ k * P.natAbs := by
      rw [Int.natAbs_mul, Int.natAbs_pow]
      rfl
    omega
  have t3 : 2 ^ k * P.natAbs ≤ 2 ^ k * 2 ^ s := Nat.mul_le_mul_left _ (Nat.le_of_lt sP)
  have t4 : 2 ^ (s + k + 1) = 2 * (2 ^ k * 2 ^ s) := by
    rw [Nat.pow_succ, Nat.pow_add, Nat.mul_comm, Nat.mul_comm (2 ^ s)]
  have t5 : 0 < 2 ^ k * 2 ^ s := Nat.mul_pos (Nat.pow_pos (by decide)) (Nat.pow_pos (by decide))
  omega
theorem Sz.inv {P : Int} {q : Rat} {s k : Nat} (h : Sz P k q) (hP : 0 < P) (sP : Sm s P) (h1 : 1 ≤ q) : ∃ N : Int, 0 < N ∧ Sm (s + k + 1) N ∧ Sz N 0 (1 / q) := by
  obtain ⟨T, e, sT⟩ := h.whole hP sP
  have hcp : (0 : Rat) < (P : Rat) := Rat.intCast_pos.mpr hP
  have hq : (0 : Rat) < q := by grind
  have hT : (0 : Rat) < (T : Rat) := by
    rw [e]
    exact Rat.mul_pos hq hcp
  have hi : (0 : Rat) < q⁻¹ := Rat.inv_pos.mpr hq
  have ei : q * q⁻¹ = 1 := Rat.mul_inv_cancel _ (Rat.ne_of_gt hq)
  have l1 : q⁻¹ ≤ 1 := by
    have := Rat.mul_le_mul_of_nonneg_right h1 (Rat.le_of_lt hi)
    grind
  refine ⟨T, Rat.intCast_pos.mp hT, sT, Sz.pos ⟨P, ?_⟩ ?_ ?_⟩
  · have h2 := Rat.ne_of_gt hT
    have h3 := Rat.ne_of_gt hq
    have h4 := Rat.ne_of_gt hcp
    rw [e] at h2 ⊢
    grind
  · rw [Rat.div_def]
    grind
  · rw [Rat.pow_zero, Rat.div_def]
    grind
theorem Sz.int {n k : Nat} (h : n ≤ 2 ^ k) {P : Int} (hP : 0 < P) : Sz P k ((n : Int) : Rat) := by
  have := (Sz.one (k := 0) hP).nat (j := k) hP h
  rw [Rat.mul_one, Nat.zero_add] at this
  exact this
section
variable {row : List RT} {step : RT} {W : Int}
theorem rowQ_all (row : List RT) (step : RT) : rowQ row = sumTo row.length (chR row step) := by
  rw [← rowQ_to row step _ (Nat.le_refl _), List.take_length]
theorem ML.row_ge (M : ML row step W) {k : Nat} (hk : k < row.length) : 0 ≤ chR row step k := by
  rw [chR_in (List.getElem?_eq_getElem hk)]
  exact (M.q01 _ (List.getElem_mem hk)).1
theorem ML.qstep (M : ML row step W) : 0 ≤ qv step ∧ 0 < 1 - qv step := by
  obtain ⟨g1, g2, g3, g4⟩ := M.gap
  obtain ⟨gq, _⟩ := M.gapQ
  refine ⟨?_, ?_⟩
  · unfold qv
    rw [Rat.div_def]
    exact Rat.mul_nonneg (Rat.intCast_nonneg.mpr g3) (Rat.le_of_lt (Rat.inv_pos.mpr (Rat.intCast_pos.mpr g4)))
  · rw [gq, Rat.div_def]
    exact Rat.mul_pos (Rat.intCast_pos.mpr g1) (Rat.inv_pos.mpr (Rat.intCast_pos.mpr g4))
theorem ML.beh_ge (M : ML row step W) : 0 ≤ behQ row step := by
  obtain ⟨s0, s1⟩ := M.qstep
  rcases snoc_cases row with z | ⟨ys, y, z⟩
  · rw [z]
    exact Rat.le_refl
  · have hy : y ∈ row := by rw [z]; simp
    rw [z, behQ_snoc, Rat.div_def]
    exact Rat.mul_nonneg (Rat.mul_nonneg (M.q01 y hy).1 s0) (Rat.le_of_lt (Rat.inv_pos.mpr s1))
theorem ML.mean_ge (M : ML row step W) (t : rowQ row + behQ row step = 1) : 1 ≤ meanQ row step := by
  obtain ⟨s0, s1⟩ := M.qstep
  have b0 := M.beh_ge
  rw [rowQ_all row step] at t
  have h1 : sumTo row.length (chR row step) ≤ sumTo row.length fun k => (((k + 1 : Nat) : Int) : Rat) * chR row step k := by
    refine sumTo_le fun k hk => ?_
    have a0 := M.row_ge hk
    have n0 : (0 : Rat) ≤ ((k : Int) : Rat) := Rat.intCast_nonneg.mpr (by omega)
    have := Rat.mul_nonneg n0 a0
    rw [nat1]
    grind
  have f0 : 0 ≤ firstQ row step := by
    unfold firstQ
    rw [Rat.div_def]
    exact Rat.mul_nonneg b0 (Rat.le_of_lt (Rat.inv_pos.mpr s1))
  have f1 : behQ row step ≤ firstQ row step := by
    have e : behQ row step = firstQ row step * (1 - qv step) := by
      unfold firstQ
      have := Rat.ne_of_gt s1
      grind
    have := Rat.mul_nonneg f0 s0
    grind
  have h2 : 0 ≤ ((row.length : Int) : Rat) * behQ row step := Rat.mul_nonneg (Rat.intCast_nonneg.mpr (by omega)) b0
  unfold meanQ
  grind
theorem ML.meanSz (M : ML row step W) : Sz (mP W step) 13 (meanQ row step) := by
  have hP := M.P.1
  have h13 := M.len
  have z1 : Sz (mP W step) 11 (sumTo row.length fun k => (((k + 1 : Nat) : Int) : Rat) * chR row step k) := by
    refine Sz.sum (k := 4) hP (fun j hj => ?_) (by omega)
    rw [chR_in (List.getElem?_eq_getElem hj)]
    exact (M.up1 (M.rowz (List.getElem_mem hj))).nat (j := 4) hP (by omega)
  have z2 : Sz (mP W step) 11 (((row.length : Int) : Rat) * behQ row step) := ((M.up2 M.beh).nat (j := 4) hP (by omega)).mono (by decide)
  exact (z1.add hP z2).add hP ((M.up3 M.first).mono (by decide))
/-- of a row alone: the mean -/
theorem mean_row (row : List RT) : meanQ row (0, 1) = tailQ (chR row (0, 1)) row.length 0 := by
  have hb : behQ row (0, 1) = 0 := by
    unfold behQ
    split
    · rfl
    · rw [qv_nought]
      grind
  unfold meanQ firstQ tailQ
  rw [hb, qv_nought]
  have e : (sumTo row.length fun j => (((j + 1 : Nat) : Int) : Rat) * chR row (0, 1) (0 + j)) = sumTo row.length fun j => (((j + 1 : Nat) : Int) : Rat) * chR row (0, 1) j := sumTo_congr fun j _ => by rw [Nat.zero_add]
  rw [e]
  grind
end
/-- the share -/
def shareQ (row : List RT) (step : RT) : Rat := if rowQ row + behQ row step = 1 then 1 / meanQ row step else 0
def everQ (row : List RT) (step : RT) (k : Nat) : Rat := (((k + 1 : Nat) : Int) : Rat) * (chR row step k * shareQ row step)
theorem ML.shareSz {row : List RT} {step : RT} {W : Int} (M : ML row step W) : ∃ N : Int, 0 < N ∧ Sm 43 N ∧ Sz N 0 (shareQ row step) := by
  unfold shareQ
  split
  · rename_i t
    exact M.meanSz.inv M.P.1 M.P.2 (M.mean_ge t)
  · exact ⟨1, by decide, by unfold Sm; decide, Sz.nought⟩

end Fp

set_option Elab.async false
set_option linter.all false
set_option maxRecDepth 100000
set_option maxHeartbeats 4000000
set_option exponentiation.threshold 10000
namespace Fp
open PySem PySem.Spec PyProof.Rows L2
/-! ### lefts, stretches, the mean of what is left, the share -/
theorem cutV_fromN (vs : List V) (n : Nat) : cutV vs (some (n : Int)) none = vs.drop n := by
  unfold cutV
  rw [HT.sIx_nat]
  show (vs.drop (min n vs.length)).take (vs.length - min n vs.length) = _
  rcases (by omega : n ≤ vs.length ∨ vs.length < n) with z | z
  · rw [Nat.min_eq_left z, List.take_of_length_le (by rw [List.length_drop]; exact Nat.le_refl _)]
  · rw [Nat.min_eq_right (by omega), Nat.sub_self, List.take_zero, List.drop_eq_nil_of_le (by omega)]
theorem mkI_dropn {n m : Nat} {f : Nat → Int} (h : m ≤ n) : (mkI n f).drop m = mkI (n - m) fun i => f (m + i) := by
  refine List.ext_getElem (by rw [List.length_drop, mkI_len, mkI_len]) fun i h1 h2 => ?_
  rw [mkI_len] at h2
  have e1 := mkI_at (f := f) (show m + i < n by omega)
  have e2 := mkI_at (f := fun i => f (m + i)) h2
  rw [List.getElem_drop]
  rw [List.getElem?_eq_getElem (by rw [mkI_len]; omega)] at e1
  rw [List.getElem?_eq_getElem (by rw [mkI_len]; exact h2)] at e2
  rw [Option.some.inj e1, Option.some.inj e2]
theorem mkL_dropn {n m : Nat} {g : Nat → Rat} (h : m ≤ n) : (mkL n g).drop m = mkL (n - m) fun i => g (m + i) := by
  refine List.ext_getElem (by rw [List.length_drop, mkL_len, mkL_len]) fun i h1 h2 => ?_
  rw [mkL_len] at h2
  have e1 := mkL_at (g := g) (show m + i < n by omega)
  have e2 := mkL_at (g := fun i => g (m + i)) h2
  rw [List.getElem_drop]
  rw [List.getElem?_eq_getElem (by rw [mkL_len]; omega)] at e1
  rw [List.getElem?_eq_getElem (by rw [mkL_len]; exact h2)] at e2
  rw [Option.some.inj e1, Option.some.inj e2]
section
variable {K : PySem.W.Frag} {H : Hp} {Q : VK}
theorem dropI_go {p : Addr} {n m : Nat} {f : Nat → Int} (h : IntL H p n f) (hm : m ≤ n) (q : ∀ b H', Same H H' → IntL H' b (n - m) (fun i => f (m + i)) → Q (.ref b) H') : rSlL K (.ref p) (some (m : Int)) none H Q := by
  refine ⟨p, _, rfl, SqL.of h, fun b nb => ?_⟩
  rw [cutV_fromN, ← List.map_drop, mkI_dropn hm]
  exact q b _ (same_new nb) upd_same
theorem drop_row {p : Addr} {xs : List RT} {m : Nat} (h : RowAt K H p xs) (hq : ∀ r H', Same H H' → RowAt K H' r (xs.drop m) → Q (.ref r) H') : rSlA K (.ref p) (some (m : Int)) none H Q := by
  obtain ⟨rs, h1, h2⟩ := h
  have hl2 := h2.length
  refine ⟨p, _, rfl, h1, fun z => ?_, fun _ r nr => ?_⟩
  · have z1 := z.1
    rw [HT.sIx_nat, List.length_map] at z1
    have e : xs.drop m = xs := by
      rcases (by omega : m = 0 ∨ xs.length = 0) with y | y
      · rw [y, List.drop_zero]
      · rw [List.length_eq_zero_iff.mp y, List.drop_nil]
    refine hq p H (Same.refl _) ?_
    rw [e]
    exact ⟨rs, h1, h2⟩
  · rw [cutV_fromN]
    have s := same_new (o := HO.tup ((rs.map V.ref).drop m)) nr
    refine hq r _ s ⟨rs.drop m, ?_, (h2.drop m).tk (Tk.same s)⟩
    rw [List.map_drop]
    exact SqT.of upd_same
theorem oobT_go {p : Addr} {m s k : Nat} {A : Nat → Rat} {P : Int} (h : RowAt K H p (mkL m A)) (hP : 0 < P) (sP : Sm s P) (z : ∀ j, j < m → Sz P k (A j)) (hm : m ≤ 900) (hs : s ≤ 2500) (hk : k ≤ 900)
    (q : ∀ z zl c T H', Same H H' → H' z = some (.tup [.ref zl, .int c]) → IntL H' zl m T → 0 < c → c ∣ P → Sm s c → (∀ j, j < m → ((T j : Int) : Rat) = (c : Rat) * A j) → (∀ j, j < m → Sm (2 * s + k + 1) (T j)) → Q (.ref z) H') : spOobT K [.ref p] H Q E0 := by
  have O := over_mkL hP sP z (show m ≤ 1000 by omega)
  refine ⟨p, _, _, _, _, rfl, h, O, by omega, by omega, fun z1 zl c H' s1 hz hzl c0 cD hc => ?_⟩
  have hl : (mkL m A).length = m := mkL_len
  refine q z1 zl c (getI (topsOn c (mkL m A))) H' s1 hz ?_ c0 cD (dvd_small cD hP sP) (fun j hj => ?_) (fun j hj => ?_)
  · have e := is_mkI (xs := topsOn c (mkL m A))
    rw [tops_len, hl] at e
    unfold IntL
    rw [← e]
    exact hzl
  · rw [tops_val c0 (by rw [hl]; exact hj) fun x hx => ⟨(O.ok x hx).1, hc x hx⟩, qa_mkL hj]
  · have := tops_each (n := s + k + 1) O.pos cD O.sm (xs := mkL m A) (j := j) (by rw [hl]; exact hj) fun x hx => (O.ok x hx).2.2
    exact this.mono (by omega)
end
section
variable {P : Program} {w : World} {K : PySem.W.Frag} {mg : Str → Option Value} {base : Heap} {aN aO : Addr}
def spLefts (K : PySem.W.Frag) : Sp := fun vs H Q _ => ∃ (p : Addr) (row : List RT) (step : RT) (n beat most : Nat) (W D : Int), vs = [.ref p, .int (beat : Int), .int (most : Int)] ∧ LifeAt K H p row step ∧ LifeOk n row step ∧ WOk W row ∧ Ch01 D (chR row step) (beat + most) ∧ beat ≤ 20 ∧ most ≤ 20 ∧
  ∀ z H', Same H H' → RowAt K H' z (mkL most (leftQ (chR row step) beat)) → Q (.ref z) H'
def spStr (K : PySem.W.Frag) : Sp := fun vs H Q _ => ∃ (p : Addr) (row : List RT) (step : RT) (n beat most : Nat) (W D : Int), vs = [.ref p, .int (beat : Int), .int (most : Int)] ∧ LifeAt K H p row step ∧ LifeOk n row step ∧ WOk W row ∧ Ch01 D (chR row step) 20 ∧ beat ≤ 20 ∧ most ≤ 20 ∧
  ∀ z H', Same H H' → RowAt K H' z (mkL most (strQ (chR row step) beat)) → Q (.ref z) H'
def spMl (K : PySem.W.Frag) : Sp := fun vs H Q _ => ∃ (p : Addr) (row : List RT) (step : RT) (beat : Nat) (W W2 D : Int), vs = [.ref p, .int (beat : Int)] ∧ LifeAt K H p row step ∧ ML row step W ∧ WOk W2 row ∧ Ch01 D (chR row step) 20 ∧ beat ≤ 20 ∧
  ∀ v H', Same H H' → MV K H' v (rowQ row + behQ row step) (meanQ row step * putSum (chR row step) beat - ((beat : Int) : Rat)) → Q v H'
def spShare (K : PySem.W.Frag) : Sp := fun vs H Q _ => ∃ (p : Addr) (row : List RT) (step : RT) (W : Int), vs = [.ref p] ∧ LifeAt K H p row step ∧ ML row step W ∧
  ∀ z H', Same H H' → RAt K H' z (rdq (shareQ row step)) → Q (.ref z) H'
def spEs (K : PySem.W.Frag) : Sp := fun vs H Q _ => ∃ (p : Addr) (row : List RT) (step : RT) (most : Nat) (W D : Int), vs = [.ref p, .int (most : Int)] ∧ LifeAt K H p row step ∧ ML row step W ∧ Ch01 D (chR row step) 20 ∧ most ≤ 20 ∧
  ∀ z H', Same H H' → RowAt K H' z (mkL most (everQ row step)) → Q (.ref z) H'
end

end Fp

set_option Elab.async false
set_option linter.all false
set_option maxRecDepth 100000
set_option maxHeartbeats 4000000
set_option exponentiation.threshold 10000
namespace Fp
open PySem PySem.Spec PyProof.Rows L2
/-! ### xs[::-1] of a tuple -/
theorem rev_adj (n : Nat) : Builtin.Slice.sliceAdjust none none (-1) (n : Int) = ((n : Int) - 1, -1) := rfl
theorem rev_places (n : Nat) : Builtin.Slice.slicePlaces ((n : Int) - 1) (-1) (-1) = n := by
  unfold Builtin.Slice.slicePlaces
  rw [if_neg (by decide)]
  split
  · rw [show -(-1 : Int) = 1 by decide, Int.ediv_one]
    omega
  · show (0 : Int).toNat = n
    omega
theorem fm_congr {f g : Nat → Option Value} : ∀ {l : List Nat}, (∀ m ∈ l, f m = g m) → l.filterMap f = l.filterMap g
  | [], _ => rfl
  | m :: r, h => by
    rw [List.filterMap_cons, List.filterMap_cons, h m (List.mem_cons_self ..), fm_congr fun x hx => h x (List.mem_cons_of_mem _ hx)]
theorem rev_pick (xs : List Value) : ((List.range xs.length).filterMap fun (m : Nat) => xs.toArray[((xs.length : Int) - 1 + (m : Int) * (-1)).toNat]?) = xs.reverse := by
  have e : ((List.range xs.length).filterMap fun (m : Nat) => xs.toArray[((xs.length : Int) - 1 + (m : Int) * (-1)).toNat]?) = (List.range xs.length).filterMap fun m => xs.reverse[m]? := by
    refine fm_congr fun m hm => ?_
    have h := List.mem_range.mp hm
    rw [List.getElem?_toArray, List.getElem?_reverse h]
    congr 1
    omega
  rw [e]
  have key : ∀ ys : List Value, ((List.range ys.length).filterMap fun m => ys[m]?) = ys := by
    intro ys
    induction ys with
    | nil => rfl
    | cons y r ih =>
      rw [List.length_cons, List.range_succ_eq_map, List.filterMap_cons, List.filterMap_map]
      show y :: _ = _
      congr 1
  have k2 := key xs.reverse
  rw [List.length_reverse] at k2
  exact k2
section
variable {prog : Program} {w : World} {A : Around} {E : Value → Shared → Prop} {s : Shared}
theorem rev_applied {sl : Addr} {v3 : Value} {n : Nat} {Q : Int × Int × Nat → Shared → Prop} (is : s.heap.IsSliceOf sl .none .none v3) (p3 : IsPart v3 (some (-1)))
    (h : Q ((n : Int) - 1, -1, n) s) : wpAny (model prog w) A (Builtin.Slice.sliceApplied (.ref sl) (pure (n : Int))) Q E s := by
  obtain ⟨ob, ho, hcl, hdt⟩ := id is
  unfold Builtin.Slice.sliceApplied Builtin.Slice.sliceFields
  refine wpAny_bind (wpAny_bind (wpAny_field ho hdt (x := .none) rfl (wpAny_bind (wpAny_field ho hdt (x := .none) rfl (wpAny_bind (wpAny_field ho hdt (x := v3) rfl (wpAny_pure ?_)))))))
  refine wpAny_bind (HT.slicePart_ p3 ?_)
  show wpAny _ _ (if ((-1 : Int) == 0) = true then _ else _) _ _ s
  rw [if_neg (by decide)]
  refine wpAny_bind (HT.slicePart_ .none (wpAny_bind (HT.slicePart_ .none (wpAny_bind (wpAny_pure ?_)))))
  show wpAny _ _ (match Builtin.Slice.sliceAdjust none none (-1) (n : Int) with | (lo, hi) => pure (lo, (-1 : Int), Builtin.Slice.slicePlaces lo hi (-1))) _ _ s
  rw [rev_adj n]
  show wpAny _ _ (pure ((n : Int) - 1, (-1 : Int), Builtin.Slice.slicePlaces ((n : Int) - 1) (-1) (-1))) _ _ s
  rw [rev_places]
  exact wpAny_pure h
theorem rev_get {t sl : Addr} {xs : List Value} {v3 : Value} {Q : Value → Shared → Prop} (ht : IsTup s.heap t xs.toArray) (is : s.heap.IsSliceOf sl .none .none v3) (p3 : IsPart v3 (some (-1)))
    (h : Q (.ref s.heap.objs.size) { s with heap := s.heap.push { cls := .type "tuple", data := .seq xs.reverse.toArray } }) (hz : xs.length ≤ sizeLine) : wpAny (model prog w) A (getItem (.ref t) (.ref sl)) Q E s := by
  have fits : sizeOk (.seq xs.reverse.toArray) := by
    show xs.reverse.toArray.size ≤ sizeLine
    rw [List.size_toArray, List.length_reverse]
    exact hz
  obtain ⟨ob, ho, hcl, hdt⟩ := id is
  have tS : s.TypeIs (.ref sl) "slice" := ⟨ob, ho, hcl⟩
  unfold getItem
  try with_reducible refine wpAny_holding ?_
  first | refine wpAny_bind (wpAny_pure ?_) | skip
  refine wpAny_bind (wpAny_sequenceKey ht.typeIs (by decide) ?_)
  refine wpAny_bind (wpAny_callSpecial?_slot (name := Str.ofString "__getitem__") ht.typeIs PyProof.Rows.slot_tuple_getitem (wpAny_call_entry PyProof.Rows.slot_tuple_getitem ht.typeIs entry_tuple_getitem ?_ (args_tuple_getitem _ _)))
  show wpAny _ _ (Builtin.Tuple.tupleItemsOf (.ref t) >>= _) _ _ s
  refine wpAny_bind (PyProof.Rows.tupleItemsOf_ ht (wpAny_bind (wpAny_typeOf tS ?_)))
  rw [if_pos (by decide)]
  refine wpAny_bind (rev_applied (n := xs.toArray.size) is p3 ?_)
  have no : ¬ ((((xs.toArray.size : Int) - 1 == 0) && ((-1 : Int) == 1) && (xs.toArray.size == xs.toArray.size)) = true) := by
    intro q
    rw [Bool.and_eq_true, Bool.and_eq_true] at q
    exact absurd q.1.2 (by decide)
  show wpAny _ _ (if (((xs.toArray.size : Int) - 1 == 0) && ((-1 : Int) == 1) && (xs.toArray.size == xs.toArray.size)) = true then _ else _) _ _ s
  rw [if_neg no]
  have ep : ((List.range xs.toArray.size).filterMap fun (m : Nat) => xs.toArray[((xs.toArray.size : Int) - 1 + (m : Int) * (-1)).toNat]?).toArray = xs.reverse.toArray := by
    rw [List.size_toArray, rev_pick]
  rw [ep]
  first
    | exact wpAny_bind (m := Builtin.Tuple.tupleExact _) (wpAny_newObj_type (wpAny_pure ⟨_, rfl, wpAny_pure h⟩) fits)
    | exact wpAny_bind (m := Builtin.Tuple.tupleExact _) (wpAny_newObj_type (wpAny_bind (wpAny_pure (wpAny_pure ⟨_, rfl, wpAny_pure h⟩))) fits)
    | exact wpAny_bind (wpAny_bind (m := Builtin.Tuple.tupleExact _) (wpAny_newObj_type (wpAny_pure (wpAny_pure ⟨_, rfl, wpAny_pure h⟩)) fits))
    | exact wpAny_bind (wpAny_bind (m := Builtin.Tuple.tupleExact _) (wpAny_newObj_type (wpAny_pure ⟨_, rfl, wpAny_pure h⟩) fits))
end
def tRevT (K : PySem.W.Frag) (te : TE) : TE := fun σ H Q => te σ H fun x H1 => ∃ a xs, x = .ref a ∧ SqT K H1 a xs ∧ ∀ p, H1 p = none → Q (.ref p) (upd H1 p (.tup xs.reverse))
theorem pe_revT {X : Cx} {e : Expr} {te : TE} {k : Nat} {p1 p2 p3 pos : Pos} (he : PE X e te) : PE X (.Subscript e (.Slice none none (some (.UnaryOp .USub (.Constant (.int 1) k p1) p2)) p3) pos) (tRevT X.K te) := by
  refine ⟨fun pn s sl H Q I h => Subscript_ (thn (he.run pn s sl H _ I h) fun v s1 z1 => ?_)⟩
  obtain ⟨x, H1, I1, r1, a, xs, rfl, hx, q⟩ := z1
  cases r1
  have pm : PO X (some (.UnaryOp .USub (.Constant (.int 1) k p1) p2)) (tPart (tUn (rU fun i => .int (-i)) (tC (.int 1)))) := po_some (pe_un un_neg pe_int)
  refine wpAny_Slice (thn (po_none.run pn s1 sl H1 (fun o H2 => o = none ∧ H2 = H1) I1 ⟨rfl, rfl⟩) fun vl s2 z2 => ?_)
  obtain ⟨l, H2, I2, pl, rfl, rfl⟩ := z2
  refine thn (po_none.run pn s2 sl H2 (fun o H3 => o = none ∧ H3 = H2) I2 ⟨rfl, rfl⟩) fun vu s3 z3 => ?_
  obtain ⟨u, H3, I3, pu, rfl, rfl⟩ := z3
  refine thn (pm.run pn s3 sl H3 (fun o H4 => o = some (-1) ∧ H4 = H3) I3 ⟨1, rfl, -1, rfl, rfl, rfl⟩) fun vs s4 z4 => ?_
  obtain ⟨o, H4, I4, ps, rfl, rfl⟩ := z4
  have I5 : Inv X pn sl H4 { s4 with heap := s4.heap.push { cls := .type "slice", data := .fields #[vl, vu, vs] } } := I4.kept (t' := s4.toks) fun b ob y => Heap.get?_push_of_some _ y
  obtain ⟨its, r, ht, hz⟩ := I5.tuple hx
  have hlen := r.length
  cases pl
  cases pu
  show wpAny (model X.prog X.w) X.A (subscriptTail e (.Slice none none (some (.UnaryOp .USub (.Constant (.int 1) k p1) p2)) p3) (.ref a) (.ref s4.heap.objs.size)) (EP X pn sl Q) X.xe { s4 with heap := s4.heap.push { cls := .type "slice", data := .fields #[.none, .none, vs] } }
  refine tail_any (ops := [.ref a, .ref s4.heap.objs.size]) ht.typeIs (PyProof.Rows.slot_tuple_getitem.lookup) ?_ (by with_unfolding_all rfl)
  refine rev_get (xs := its) ht (Heap.IsSliceOf.new _ .none .none vs) ps ?_ (by omega)
  refine ⟨.ref _, _, I5.laid (t' := s4.toks) (o := .tup xs.reverse) (fun b ob y => Heap.get?_push_of_some _ y) (Nat.le_refl _) ?_, rfl, q _ (I5.hok.fresh (Nat.le_refl _))⟩
  exact ⟨by rw [List.length_reverse]; exact hz, _, r.reverse, IsTup.new _ _⟩

end Fp

set_option Elab.async false
set_option linter.all false
set_option maxRecDepth 100000
set_option maxHeartbeats 4000000
set_option exponentiation.threshold 10000
namespace Fp
open PySem PySem.Spec PyProof.Rows L2
/-! ### zip(xs, ys) of a tuple and a list -/
def Itw (K : PySem.W.Frag) (a b : Addr) : It :=
  ⟨fun i H => ∃ (xs ys : List V) (x y : V), SqT K H a xs ∧ SqL K H b ys ∧ xs[i]? = some x ∧ ys[i]? = some y,
    fun i H v H2 => ∃ T x y, v = .ref T ∧ H T = none ∧ H2 = upd H T (.tup [x, y]) ∧ (∀ xs, SqT K H a xs → xs[i]? = some x) ∧ ∀ ys, SqL K H b ys → ys[i]? = some y,
    fun i H => ∃ xs ys : List V, SqT K H a xs ∧ SqL K H b ys ∧ i ≤ xs.length ∧ i ≤ ys.length ∧ (i = xs.length ∨ i = ys.length)⟩
theorem walk_w {K : PySem.W.Frag} {a b : Addr} {xs ys : List V} {n : Nat} (hn : n = min xs.length ys.length) : Walk (Itw K a b) n (fun H => SqT K H a xs ∧ SqL K H b ys) (YPair (fun i => xs[i]?) (fun i => ys[i]?)) := by
  subst hn
  refine ⟨fun i _ hi q => ⟨xs, ys, xs[i], ys[i], q.1, q.2, List.getElem?_eq_getElem (by omega), List.getElem?_eq_getElem (by omega)⟩, fun _ q => ⟨xs, ys, q.1, q.2, by omega, by omega, by omega⟩, fun i H v H2 _ q y => ?_⟩
  obtain ⟨T, x, y2, y1, y3, y4, y5, y6⟩ := y
  exact ⟨T, x, y2, y1, y3, y4, y5 xs q.1, y6 ys q.2⟩
theorem turn_w {P : Program} {w : World} {K : PySem.W.Frag} {elts : List Expr} {kk : Nat} {tpos : Pos} {a b z TI TO i1 i2 : Addr} (S : ZipSep2 z TI TO i1 i2 [i1, a] [i2, b]) (na : a ≠ i1) (nb : b ≠ i2) :
    Turn P w K (.Tuple elts kk tpos) (Itw K a b) [z, TI, TO, i1, i2] z (fun i h => IsZip h z TI TO .none ∧ IsTupOf2 h TI (.ref i1) (.ref i2) ∧ (∃ x y, IsTupOf2 h TO x y) ∧ h.IsTupleIter i1 a i ∧ h.IsListIter i2 b i) where
  mem := by simp
  obj := fun i h st c hc => by
    obtain ⟨zz, zI, ⟨x, y, zO⟩, ⟨o1, e1, _, d1⟩, ⟨o2, e2, _, d2⟩⟩ := st
    rcases (show c = z ∨ c = TI ∨ c = TO ∨ c = i1 ∨ c = i2 by simpa using hc) with q | q | q | q | q
    · rw [q]
      exact ⟨_, zz, fun v q => nomatch q⟩
    · rw [q]
      exact ⟨_, zI, fun v q => nomatch q⟩
    · rw [q]
      exact ⟨_, zO, fun v q => nomatch q⟩
    · rw [q]
      exact ⟨o1, e1, fun v q => by rw [d1] at q; cases q⟩
    · rw [q]
      exact ⟨o2, e2, fun v q => by rw [d2] at q; cases q⟩
  keep := fun i h h2 st kp => by
    obtain ⟨zz, zI, ⟨x, y, zO⟩, j1, j2⟩ := st
    exact ⟨kp z (by simp) _ zz, kp TI (by simp) _ zI, ⟨x, y, kp TO (by simp) _ zO⟩, j1.at fun o q => kp i1 (by simp) o q, j2.at fun o q => kp i2 (by simp) o q⟩
  item := by
    intro Y yP yw yK yc i pn s sl H F I hf st hg
    subst yP yw yK
    obtain ⟨zz, zI, ⟨x0, y0, zO⟩, j1, j2⟩ := st
    obtain ⟨xs, ys, x, y, sx, sy, ex, ey⟩ := hg
    obtain ⟨us, rv, po, _⟩ := I.tuple sx
    obtain ⟨ws, rw', pw, _⟩ := I.list sy
    obtain ⟨u, eu, ru⟩ := rv.get ex
    obtain ⟨u2, eu2, ru2⟩ := rw'.get ey
    have oa : s.heap.IsTuple a us.toArray := po
    have ob : s.heap.IsList b ws.toArray := pw.isList
    have hh : Y.A.in1.handled = none := I.ok.hd yc
    have lz : z < s.heap.objs.size := Heap.lt_size zz
    have l1 : i < us.toArray.size := by
      have := (List.getElem?_eq_some_iff.mp eu).1
      simpa using this
    have l2 : i < ws.toArray.size := by
      have := (List.getElem?_eq_some_iff.mp eu2).1
      simpa using this
    refine wpAny_pyNext_zipD2_item S (Draws.tuple (A := Y.A.in1) hh i1 a na us.toArray) (Draws.list (A := Y.A.in1) hh i2 b nb ws.toArray) zz zI zO ⟨j1, oa⟩ ⟨j2, ob⟩ l1 l2 fun v1 v2 h2 tk q1 q2 zz2 zO2 st1 st2 oT _ kp => ?_
    have e1 : v1 = u := by
      have : us[i]? = some v1 := by simpa using q1
      rw [eu] at this
      exact Option.some.inj this.symm
    have e2 : v2 = u2 := by
      have : ws[i]? = some v2 := by simpa using q2
      rw [eu2] at this
      exact Option.some.inj this.symm
    subst e1 e2
    refine ⟨_, rfl, wpAny_letOwnedTupleGo_zip (s := { s with heap := h2, toks := tk }) zz2 fun h3 zz3 sb => ?_⟩
    have oT3 := (sb.2 _ (Nat.ne_of_gt lz)).trans oT
    have new : ObjOk Y.prog Y.w (upd H s.heap.objs.size (.tup [x, y])) h3 s.heap.objs.size (.tup [x, y]) :=
      ⟨by show 2 ≤ sizeLine; decide, [v1, v2], .cons ru (.cons ru2 .nil), ⟨_, oT3, rfl, _, rfl⟩⟩
    have I3 : Inv Y pn sl (upd H s.heap.objs.size (.tup [x, y])) { s with heap := h3, toks := tk } := by
      refine I.turnedNew (ch := [z, TI, TO, i1, i2]) (fun c o hb q => ?_) hf (Nat.le_refl _) new
      exact (sb.2 c fun y => hb (by simp [y])).trans (kp c o (fun y => hb (by simp [y])) (fun y => hb (by simp [y])) (fun y => hb (by simp [y])) (fun y => hb (by simp [y])) q)
    refine ⟨.ref s.heap.objs.size, _, I3, rfl, ⟨_, x, y, rfl, I.hok.fresh (Nat.le_refl _), rfl, fun l hl => by rw [I.tuple_inj hl sx]; exact ex, fun l hl => by rw [I.list_inj hl sy]; exact ey⟩, ⟨zz3, ?_, ⟨v1, v2, ?_⟩, ?_, ?_⟩, fun c hc => ?_⟩
    · exact (sb.2 _ S.TIz).trans (kp _ _ S.TIz S.TITO S.TIi1 S.TIi2 zI)
    · exact (sb.2 _ S.TOz).trans zO2
    · exact st1.1.at fun o q => (sb.2 _ S.zi1.symm).trans q
    · exact st2.1.at fun o q => (sb.2 _ S.zi2.symm).trans q
    · have lc : c < s.heap.objs.size := by
        rcases (show c = z ∨ c = TI ∨ c = TO ∨ c = i1 ∨ c = i2 by simpa using hc) with q | q | q | q | q
        · rw [q]
          exact lz
        · rw [q]
          exact Heap.lt_size zI
        · rw [q]
          exact Heap.lt_size zO
        · rw [q]
          obtain ⟨_, y1, _⟩ := j1
          exact Heap.lt_size y1
        · rw [q]
          obtain ⟨_, y1, _⟩ := j2
          exact Heap.lt_size y1
      rw [upd_ne (Nat.ne_of_lt lc)]
      exact (hf c hc).1
  done := by
    intro Y yP yw yK yc i pn s sl H F I hf st hg
    subst yP yw yK
    obtain ⟨zz, zI, ⟨x0, y0, zO⟩, j1, j2⟩ := st
    obtain ⟨xs, ys, sx, sy, hx, hy, he⟩ := hg
    obtain ⟨us, rv, po, _⟩ := I.tuple sx
    obtain ⟨ws, rw', pw, _⟩ := I.list sy
    have l1 := rv.length
    have l2 := rw'.length
    have hh : Y.A.in1.handled = none := I.ok.hd yc
    refine wpAny_pyNext_zipD2_end S (Draws.tuple (A := Y.A.in1) hh i1 a na us.toArray) (Draws.list (A := Y.A.in1) hh i2 b nb ws.toArray) zz zI zO ⟨j1, po⟩ ⟨j2, pw.isList⟩ (by rw [List.size_toArray]; omega) (by rw [List.size_toArray]; omega) (by rw [List.size_toArray, List.size_toArray]; omega) fun h2 tk kp => ⟨rfl, I.turnedL (ch := [z, TI, TO, i1, i2]) (fun c o hb q => ?_) hf⟩
    exact kp c o (fun y => hb (by simp [y])) (fun y => hb (by simp [y])) (fun y => hb (by simp [y])) (fun y => hb (by simp [y])) q
  self := fun A2 i s Q F st h => wpAny_pyIter_zip st.1 h
theorem sep5 {n a b : Nat} (la : a < n) (lb : b < n) : ZipSep2 (n + 4) (n + 2) (n + 3) n (n + 1) [n, a] [n + 1, b] := by
  have no : ∀ {x y z : Nat}, x ≠ y → x ≠ z → x ∉ [y, z] := fun h1 h2 h => by
    rcases List.mem_cons.mp h with q | q
    · exact h1 q
    · exact h2 (List.mem_singleton.mp q)
  have e1 : ∀ {x y : Nat}, x < y → x ≠ y := fun h => Nat.ne_of_lt h
  have e2 : ∀ {x y : Nat}, y < x → x ≠ y := fun h => Nat.ne_of_gt h
  exact ⟨e1 (by omega), e1 (by omega), e1 (by omega), e2 (by omega), List.mem_cons_self .., no (e2 (by omega)) (e2 (by omega)), no (e2 (by omega)) (e2 (by omega)), e2 (by omega), List.mem_cons_self .., no (e2 (by omega)) (e2 (by omega)), no (e2 (by omega)) (e2 (by omega)), no (e1 (by omega)) (e2 (by omega)), no (e2 (by omega)) (e2 (by omega))⟩
def iZipW (K : PySem.W.Frag) (ta : TA) : TI := fun σ H R => ta σ H fun vs H1 => ∃ a b xs ys, vs = [.ref a, .ref b] ∧ SqT K H1 a xs ∧ SqL K H1 b ys ∧ R (Itw K a b) H1
theorem pi_zipW {X : Cx} {e e2 : Expr} {ta : TA} {p pos tpos : Pos} {elts : List Expr} {kk : Nat} (hg : Gl X "zip") (hm : X.mg "zip" = none) (ha : PA X [e, e2] ta)
    (hs : starEach [e, e2] X.env = (false, eval e X.env) :: starEach [e2] X.env := by rfl) (hpl : (backTo pos (starEach [e2] X.env)).any (·.1) = false := by rfl) :
    PI X (.Tuple elts kk tpos) (.Call (.Name "zip" p) [e, e2] [] pos) (iZipW X.K ta) := by
  refine ⟨fun pn s sl H R I h => Call_ (ld_blt I hg hm PyProof.Rows.boot_zip (PyProof.Rows.callWith_type1 (thn (ha.run pos pn s sl H _ I h) fun us s1 z1 => ?_) hs hpl))⟩
  obtain ⟨vs, H1, I1, r1, a, b, xs, ys, rfl, sx, sy, q⟩ := z1
  cases r1 with
  | cons ra rn =>
    cases rn with
    | cons rb rn =>
      cases rn
      cases ra
      cases rb
      obtain ⟨us, rv, po, _⟩ := I1.tuple sx
      obtain ⟨ws, rw', pw, _⟩ := I1.list sy
      have oa : s1.heap.IsTuple a us.toArray := po
      obtain ⟨o1, q1, _⟩ := id oa
      have la : a < s1.heap.objs.size := Heap.lt_size q1
      have lb : b < s1.heap.objs.size := pw.lt
      refine zip_begins2 (begins_tuple a us.toArray) (begins_list b ws.toArray) oa pw.isList fun h2 zz zI zO g1 g2 _ kp => wpAny_pyIter_zip zz ?_
      have I2 : Inv X pn sl H1 { s1 with heap := h2 } := I1.kept (t' := s1.toks) kp
      have S : ZipSep2 (s1.heap.objs.size + 4) (s1.heap.objs.size + 2) (s1.heap.objs.size + 3) s1.heap.objs.size (s1.heap.objs.size + 1) [s1.heap.objs.size, a] [s1.heap.objs.size + 1, b] := sep5 la lb
      refine ⟨s1.heap.objs.size + 4, [s1.heap.objs.size + 4, s1.heap.objs.size + 2, s1.heap.objs.size + 3, s1.heap.objs.size, s1.heap.objs.size + 1], _, _, H1, rfl, I2, turn_w S (Nat.ne_of_lt la) (Nat.ne_of_lt (Nat.lt_succ_of_lt lb)), ⟨zz, zI, ⟨_, _, zO⟩, ⟨_, g1, rfl, rfl⟩, ⟨_, g2, rfl, rfl⟩⟩, fun c hc => ?_, q⟩
      have hl : s1.heap.objs.size ≤ c := by
        rcases (show c = s1.heap.objs.size + 4 ∨ c = s1.heap.objs.size + 2 ∨ c = s1.heap.objs.size + 3 ∨ c = s1.heap.objs.size ∨ c = s1.heap.objs.size + 1 by simpa using hc) with y | y | y | y | y <;> (rw [y]; omega)
      exact I1.fpOk hl (I1.hok.fresh hl)

end Fp

set_option Elab.async false
set_option linter.all false
set_option maxRecDepth 100000
set_option maxHeartbeats 4000000
set_option exponentiation.threshold 10000
namespace Fp
open PySem PySem.Spec PyProof.Rows L2
/-! ### lastings, ages, what stays, an age and what is left -/
def lastQ (a : Nat → Rat) (k : Nat) : Rat := 1 - sumTo k a
def agesQ (a : Nat → Rat) (beat i : Nat) : Rat := renQ a oneAt (beat - i) * lastQ a i
def aalQ (a : Nat → Rat) (beat age left : Nat) : Rat := if age ≤ beat then renQ a oneAt (beat - age) * a (age + left - 1) else 0
theorem Ch01.lastSz {D : Int} {a : Nat → Rat} {M : Nat} (h : Ch01 D a M) {k : Nat} (hk : k ≤ M) (h9 : k ≤ 128) : Sz D 8 (lastQ a k) := by
  unfold lastQ
  rw [show 1 - sumTo k a = 1 + -sumTo k a by grind]
  exact (Sz.one h.pos).add h.pos ((Sz.sum (k := 0) h.pos (fun j hj => h.chSz (by omega)) h9).neg)
abbrev s_ls : Stmt := topS 26
abbrev N_ls : List Str := ["life", "most", "tops", "bottom", "left", "told", "top"]
theorem sc_ls : FnScope N_ls ["life", "most"] (defScope s_ls) := ⟨rfl, rfl, rfl, by decide +kernel, rfl, by decide +kernel, by decide +kernel⟩
section
variable {P : Program} {w : World} {K : PySem.W.Frag} {mg : Str → Option Value} {base : Heap} {aN aO : Addr}
theorem RowAt.ix {H : Hp} {Q : VK} {p : Addr} {xs : List RT} {m : Nat} {x : RT} {k : Int} (h : RowAt K H p xs) (hk : k = (m : Int)) (hm : xs[m]? = some x) (q : ∀ r, RAt K H r x → Q (.ref r) H) : rIxT K (.ref p) (.int k) H Q := by
  obtain ⟨rs, h1, h2⟩ := h
  obtain ⟨r, e1, e2⟩ := h2.get hm
  have g2 : (rs.map V.ref)[m]? = some (.ref r) := by
    rw [List.getElem?_map, e1]
    rfl
  exact ⟨p, _, _, _, rfl, rfl, h1, at_of hk g2, q r e2⟩
def spLst (K : PySem.W.Frag) : Sp := fun vs H Q _ => ∃ (p : Addr) (row : List RT) (step : RT) (n most : Nat) (D : Int), vs = [.ref p, .int (most : Int)] ∧ LifeAt K H p row step ∧ LifeOk n row step ∧ Ch01 D (chR row step) 20 ∧ most ≤ 20 ∧
  ∀ z H', Same H H' → LsM K H' z (mkL (most + 1) (lastQ (chR row step))) → Q (.ref z) H'
theorem ok_ls {f fOB fCT fR : Addr} {fd fdOB fdCT fdR : FuncData} (F : Fun K "lastings_to" "lastings_to" s_ls f fd) (C : Consts K mg aN aO)
    (FOB : Fun K "on_one_bottom" "on_one_bottom" s_oob fOB fdOB) (bOB : Binds K fdOB ["told"] []) (gOB : mg "on_one_bottom" = some (.ref fOB)) (GOB : FnOk P w K mg base CX0 2 fOB fdOB ["told"] (spOob K))
    (FCT : Fun K "chances_to" "chances_to" s_chto fCT fdCT) (bCT : Binds K fdCT ["life", "most"] []) (gCT : mg "chances_to" = some (.ref fCT)) (GCT : FnOk P w K mg base CX0 4 fCT fdCT ["life", "most"] (spChto K))
    (FR : Fun K "ratio" "ratio" s_ratio fR fdR) (bR : Binds K fdR ["top", "bottom"] []) (gR : mg "ratio" = some (.ref fR)) (GR : FnOk P w K mg base CX0 2 fR fdR ["top", "bottom"] spRat0)
    : FnOk P w K mg base CX0 5 f fd ["life", "most"] (spLst K) := by
  refine F.ok sc_ls (fun vs H Q E h => ?_) (fun cdv A outer s H vs Q E hr h => ?_)
  · obtain ⟨_, _, _, _, _, _, rfl, _⟩ := h
    rfl
  · obtain ⟨p, row, step, n, most, D, rfl, hlife, L, C1, hm, q⟩ := h
    refine ⟨_, (pss_cons (ps_asg (pe_call GOB (hr.mono (by decide)) (by rfl) gOB FOB.kp bOB .nil pass0 (pa_cons (pe_call GCT hr (by rfl) gCT FCT.kp bCT .nil pass0 (pa_cons (pv 0) (pa_cons (pv 1) pa_nil))) pa_nil)) (pg_tup rfl (pgs_cons (pg_name (i := 2) sc_ls.nd rfl (.inl rfl)) (pgs_cons (pg_name (i := 3) sc_ls.nd rfl (.inl rfl)) pgs_nil))))
      (pss_cons (ps_set (i := 4) sc_ls.nd rfl (.inl rfl) (pv 3))
      (pss_cons (ps_set (i := 5) sc_ls.nd rfl (.inl rfl) (pe_lst (pa_cons (pe_glob (v := .ref aO) rfl C.gO rfl) pa_nil)))
      (pss_cons (ps_for PassesOwn.never rfl (pi_list (pv 2)) (pg_name (i := 6) sc_ls.nd rfl (.inl rfl)) (pss_cons (ps_aug (i := 4) sc_ls.nd rfl (.inl rfl) (pv 6) ip_sub)
      (pss_one (ps_expr (pe_bm PySem.F.plainAttrs_list PySem.F.slot_list_append PySem.F.type_list_append mt_append (pv 5) (pa_cons (pe_call GR (hr.mono (by decide)) (by rfl) gR FR.kp bR .nil pass0 (pa_cons (pv 4) (pa_cons (pv 3) pa_nil))) pa_nil))))))
      (pss_one (ps_ret (pv 5))))))), ?_⟩
    refine ⟨_, rfl, _, rfl, p, row, step, n, most, rfl, hlife, L, by omega, fun ch rs chs H1 s1 hch hrs his => ?_⟩
    rw [his.told] at hrs
    generalize ea : chR row step = a at *
    refine tnil_go ?_
    refine oob_go (K := K) (k := 0) ⟨rs, hch, hrs⟩ C1.pos C1.sm (fun j hj => C1.chSz (by omega)) (by omega) (by decide) (by decide) fun z2 zu c U H2 s2 hz2 hzu c0 cD sc uv us => ?_
    refine ⟨z2, _, rfl, SqT.of hz2, rfl, _, _, rfl, _, _, rfl, rfl, ?_⟩
    refine ⟨_, rfl, ?_⟩
    refine ⟨by show 1 ≤ sizeLine; decide, fun tl ntl => ?_⟩
    have e3 := same_new (o := HO.lst [.ref aO]) ntl
    have one : rdq 1 = (1, 1) := (is_rdq one_red qv_one).symm
    have htl0 : LsM K (upd H2 tl (HO.lst [.ref aO])) tl (mkL (0 + 1) (lastQ a)) := by
      refine ⟨[aO], upd_same, ?_⟩
      have e : mkL (0 + 1) (lastQ a) = [(1, 1)] := by
        show [rdq (1 - sumTo 0 a)] = _
        rw [sumTo_zero, show (1 : Rat) - 0 = 1 by decide +kernel, one]
      rw [e]
      exact .cons (C.tO _) .nil
    refine ⟨_, rfl, zu, rfl, ⟨_, SqL.of (e3 _ _ hzu)⟩, ?_⟩
    refine for_list (K := K) (a := zu) (xs := (mkI most U).map V.int) (fun i σ HB => ∃ z6 : Option V, σ = [some (.ref p), some (.int (most : Int)), some (.ref zu), some (.int c), some (.int (c - (mkI i U).sum)), some (.ref tl), z6] ∧ Same H2 HB ∧ LsM K HB tl (mkL (i + 1) (lastQ a))) ?_ ?_ ?_ ?_
    · refine ⟨none, ?_, e3, htl0⟩
      rw [show c - (mkI 0 U).sum = c by show c - 0 = c; omega]
      rfl
    · rintro i σ HB _ ⟨z6, _, sB, _⟩
      exact SqL.of (sB _ _ hzu)
    · rintro i y σ HB hy ⟨z6, rfl, sB, htl⟩
      have hi : i < most := by
        have := (List.getElem?_eq_some_iff.mp hy).1
        rw [List.length_map, mkI_len] at this
        exact this
      rw [List.getElem?_map, mkI_at hi] at hy
      cases Option.some.inj hy
      obtain ⟨ts', ht1, ht2⟩ := id htl
      refine ⟨_, rfl, _, rfl, _, _, rfl, rfl, ?_⟩
      refine ⟨_, rfl, .inl ⟨rfl, _, SqL.of ht1⟩, ?_⟩
      refine ⟨_, rfl, _, rfl, ?_⟩
      refine tnil_go ?_
      have es : c - (mkI i U).sum - U i = c - (mkI (i + 1) U).sum := by
        rw [mkI_succ, List.sum_append, List.sum_singleton]
        omega
      have ev : ((c - (mkI i U).sum - U i : Int) : Rat) = lastQ a (i + 1) * (c : Rat) := by
        rw [es, Rat.intCast_sub, mkI_sum, sumTo_congr (g := fun j => (c : Rat) * a j) fun j hj => uv j (by omega), ← sumTo_mul]
        unfold lastQ
        grind
      refine rat_go (K := K) c0 (sc.mono (m := 8000) (by decide)) ev fun r H6 s6 hr => ?_
      have ht6 := s6 _ _ ht1
      have hl2 := ht2.length
      rw [mkL_len] at hl2
      refine ⟨tl, _, _, rfl, rfl, ht6, by rw [List.length_map, hl2]; exact small1000 (by omega), ?_⟩
      refine ⟨some (.int (U i)), by rw [← es]; rfl, ?_, ?_⟩
      · intro b2 o hb2
        rw [upd_ne (ne_of_none hb2 ntl)]
        exact (sB.trans s6) _ _ hb2
      · rw [mkL_succ]
        exact LsM.push ht6 (ht2.tk (Tk.same s6)) hr
    · rintro σ HB ⟨z6, rfl, sB, htl⟩
      rw [List.length_map, mkI_len] at htl
      exact ⟨_, rfl, q tl HB (s1.trans (s2.trans sB)) htl⟩
def spAges (K : PySem.W.Frag) : Sp := fun vs H Q _ => ∃ (p : Addr) (row : List RT) (step : RT) (n beat : Nat) (W D : Int), vs = [.ref p, .int (beat : Int)] ∧ LifeAt K H p row step ∧ LifeOk n row step ∧ WOk W row ∧ Ch01 D (chR row step) 20 ∧ beat ≤ 20 ∧
  ∀ z H', Same H H' → RowAt K H' z (mkL (beat + 1) (agesQ (chR row step) beat)) → Q (.ref z) H'
def spStays (K : PySem.W.Frag) : Sp := fun vs H Q _ => ∃ (p : Addr) (row : List RT) (step : RT) (n beat : Nat) (W D : Int), vs = [.ref p, .int (beat : Int)] ∧ LifeAt K H p row step ∧ LifeOk n row step ∧ WOk W row ∧ Ch01 D (chR row step) 20 ∧ beat ≤ 20 ∧
  ∀ z H', Same H H' → RAt K H' z (rdq ((1 - (rowQ row + behQ row step)) * putSum (chR row step) beat)) → Q (.ref z) H'
def spAal (K : PySem.W.Frag) : Sp := fun vs H Q _ => ∃ (p : Addr) (row : List RT) (step : RT) (n beat age left : Nat) (W D : Int), vs = [.ref p, .int (beat : Int), .int (age : Int), .int (left : Int)] ∧ LifeAt K H p row step ∧ LifeOk n row step ∧ WOk W row ∧ Ch01 D (chR row step) 20 ∧ beat ≤ 20 ∧ 1 ≤ left ∧ age + left ≤ 70 ∧
  ∀ z H', Same H H' → RAt K H' z (rdq (aalQ (chR row step) beat age left)) → Q (.ref z) H'
end

end Fp

set_option Elab.async false
set_option linter.all false
set_option maxRecDepth 100000
set_option maxHeartbeats 4000000
set_option exponentiation.threshold 10000
namespace Fp
open PySem PySem.Spec PyProof.Rows L2
/-! ### laws whose defs have code tables -/
section
variable {K : PySem.W.Frag}
def Tabs (ts : List Addr) (H : Hp) : Prop := ∀ t ∈ ts, H t = some (tabx t)
theorem Tabs.same {ts : List Addr} {H H' : Hp} (h : Tabs ts H) (e : Same H H') : Tabs ts H' := fun t ht => e _ _ (h t ht)
theorem Tabs.keep {ts : List Addr} {H H' : Hp} {d c : Addr} {t : Int} (h : Tabs ts H) (f : Feed H d c t) (k : Keep d H H') : Tabs ts H' := fun t ht => keep_at f k (h t ht) (fun _ z => nomatch z)
theorem Tabs.wr {ts : List Addr} {H : Hp} {a : Addr} {xs : List V} {o : HO} (h : Tabs ts H) (e : H a = some (.lst xs)) : Tabs ts (upd H a o) := fun t ht => by
  rw [upd_ne]
  · exact h t ht
  · intro z
    have := h t ht
    rw [z, e] at this
    cases this
def spLawT (K : PySem.W.Frag) (ts : List Addr) : Sp := fun vs H Q _ => ∃ (a : Addr) (ns : List Int), vs = [.ref a] ∧ SqL K H a (ns.map V.int) ∧ Tabs ts H ∧ ∀ H', Tabs ts H' → Q (.bl true) H'
theorem spLawT_of {cs : List (Addr × Addr)} (H : Hp) (a : Addr) (ns : List Int) (hC : ∀ p ∈ cs, H p.2 = some (tabx p.2)) (hS : SqL K H a (ns.map V.int)) :
    spLawT K (cs.map (·.2)) [.ref a] H (fun v H2 => v = .bl true ∧ ∀ p ∈ cs, H2 p.2 = some (tabx p.2)) fun _ _ _ => False :=
  ⟨a, ns, rfl, hS, fun t ht => by
    obtain ⟨p, hp, rfl⟩ := List.mem_map.mp ht
    exact hC p hp, fun H' hT => ⟨rfl, fun p hp => hT _ (List.mem_map.mpr ⟨p, hp, rfl⟩)⟩⟩
theorem tabOf_of {c P : Addr} {oc : Value} {od : Option Addr} {vs : Array Value} {osl : Array (Option Value)} {r : List Value} (l : K.lookup c = some ⟨oc, od, .fields vs, osl⟩) (h : vs.toList.drop 11 = .ref P :: r) : tabOf K (.ref c) = some P := by
  simp only [tabOf, l, h]
end

end Fp

set_option Elab.async false
set_option linter.all false
set_option maxRecDepth 100000
set_option maxHeartbeats 4000000
set_option exponentiation.threshold 10000
namespace Fp
open PySem PySem.Spec PyProof.Rows L2
/-! ### odd things: as they stand, as they are shown -/
section
variable {K : PySem.W.Frag} {H H' : Hp}
mutual
theorem DpX.tr (t1 : ∀ a xs, SqL K H a xs → SqL K H' a xs) (t2 : ∀ a xs, SqT K H a xs → SqT K H' a xs) (t3 : ∀ a, H a = some (.dK []) → H' a = some (.dK [])) : ∀ (d : PyData) (v : V), DpX K H v d → DpX K H' v d
  | .none, _, h => by cases h; exact .non
  | .bool _, _, h => by cases h; exact .bl _
  | .int _, _, h => by cases h; exact .int _
  | .str _, _, h => by cases h; exact .str _
  | .list ds, _, h => by
    cases h with
    | lst h1 h2 => exact .lst (t1 _ _ h1) (DpX.trAll t1 t2 t3 ds _ h2)
  | .tuple ds, _, h => by
    cases h with
    | tup h1 h2 => exact .tup (t2 _ _ h1) (DpX.trAll t1 t2 t3 ds _ h2)
  | .dict _, _, h => by
    cases h with
    | emp h1 => exact .emp (t3 _ h1)
theorem DpX.trAll (t1 : ∀ a xs, SqL K H a xs → SqL K H' a xs) (t2 : ∀ a xs, SqT K H a xs → SqT K H' a xs) (t3 : ∀ a, H a = some (.dK []) → H' a = some (.dK [])) : ∀ (ds : List PyData) (vs : List V), DpXAll K H vs ds → DpXAll K H' vs ds
  | [], _, h => by cases h; exact .nil
  | d :: ds, _, h => by
    cases h with
    | cons h1 h2 => exact .cons (DpX.tr t1 t2 t3 d _ h1) (DpX.trAll t1 t2 t3 ds _ h2)
end
theorem DpXAll.tr' (t1 : ∀ a xs, SqL K H a xs → SqL K H' a xs) (t2 : ∀ a xs, SqT K H a xs → SqT K H' a xs) (t3 : ∀ a, H a = some (.dK []) → H' a = some (.dK [])) {ds : List PyData} {vs : List V} (h : DpXAll K H vs ds) : DpXAll K H' vs ds := DpX.trAll t1 t2 t3 ds vs h
theorem DpX.same {d : PyData} {v : V} (h : DpX K H v d) (e : Same H H') : DpX K H' v d := DpX.tr (fun _ _ z => e.seq z) (fun _ _ z => sqT_same e z) (fun _ z => e _ _ z) _ _ h
theorem DpXAll.same {ds : List PyData} {vs : List V} (h : DpXAll K H vs ds) (e : Same H H') : DpXAll K H' vs ds := DpX.trAll (fun _ _ z => e.seq z) (fun _ _ z => sqT_same e z) (fun _ z => e _ _ z) _ _ h
theorem sqL_keep {d c : Addr} {t : Int} (f : Feed H d c t) (k : Keep d H H') {a : Addr} {xs : List V} (h : SqL K H a xs) : SqL K H' a xs := by
  rcases h with (h | ⟨o, h⟩) | h
  · exact .inl (.inl (keep_at f k h (fun _ z => nomatch z)))
  · exact .inl (.inr ⟨o, keep_at f k h (fun _ z => nomatch z)⟩)
  · exact .inr h
theorem emp_keep {d c : Addr} {t : Int} (f : Feed H d c t) (k : Keep d H H') {a : Addr} (h : H a = some (.dK [])) : H' a = some (.dK []) := by
  refine k a _ (fun z => ?_) h
  obtain ⟨_, _, _, h1, _⟩ := f
  rw [z, h1] at h
  have := HO.dK.inj (Option.some.inj h)
  unfold feedL at this
  cases this
theorem DpX.keep {d c : Addr} {t : Int} {x : PyData} {v : V} (h : DpX K H v x) (f : Feed H d c t) (k : Keep d H H') : DpX K H' v x := DpX.tr (fun _ _ z => sqL_keep f k z) (fun _ _ z => sqT_keep f k z) (fun _ z => emp_keep f k z) _ _ h
theorem DpXAll.keep {d c : Addr} {t : Int} {ds : List PyData} {vs : List V} (h : DpXAll K H vs ds) (f : Feed H d c t) (k : Keep d H H') : DpXAll K H' vs ds := DpX.trAll (fun _ _ z => sqL_keep f k z) (fun _ _ z => sqT_keep f k z) (fun _ z => emp_keep f k z) _ _ h
theorem DpXAll.len : ∀ {vs : List V} {ds : List PyData}, DpXAll K H vs ds → vs.length = ds.length
  | [], [], _ => rfl
  | [], _ :: _, h => by cases h
  | _ :: _, [], h => by cases h
  | _ :: vs, _ :: ds, h => by
    cases h with
    | cons h1 h2 => simp [DpXAll.len h2]
theorem DpXAll.get : ∀ {vs : List V} {ds : List PyData} {i : Nat} {d : PyData}, DpXAll K H vs ds → ds[i]? = some d → ∃ v, vs[i]? = some v ∧ DpX K H v d
  | _ :: _, _ :: _, 0, _, h, e => by
    cases h with
    | cons h1 h2 =>
      cases e
      exact ⟨_, rfl, h1⟩
  | _ :: _, _ :: _, i + 1, _, h, e => by
    cases h with
    | cons h1 h2 => exact DpXAll.get (i := i) h2 e
  | [], [], _, _, _, e => by cases e
  | [], _ :: _, _, _, h, _ => by cases h
  | _ :: _, [], _, _, h, _ => by cases h
theorem DpXAll.app : ∀ {vs : List V} {ds : List PyData} {ws : List V} {es : List PyData}, DpXAll K H vs ds → DpXAll K H ws es → DpXAll K H (vs ++ ws) (ds ++ es)
  | [], [], _, _, _, g => g
  | [], _ :: _, _, _, h, _ => by cases h
  | _ :: _, [], _, _, h, _ => by cases h
  | _ :: vs, _ :: ds, _, _, h, g => by
    cases h with
    | cons h1 h2 => exact .cons h1 (DpXAll.app h2 g)
end
/-! ### things that do not stand at some addresses -/
open Classical in
noncomputable def hid (A : Addr → Prop) (H : Hp) : Hp := fun a => if A a then none else H a
def Dom (A : Addr → Prop) (H : Hp) : Prop := ∀ a, A a → H a ≠ none
section
variable {K : PySem.W.Frag} {H H' : Hp} {A : Addr → Prop}
theorem hid_no (H : Hp) : hid (fun _ => False) H = H := funext fun _ => if_neg id
theorem hid_in {a : Addr} (h : ¬ A a) : hid A H a = H a := if_neg h
theorem hid_some {a : Addr} {o : HO} (h : hid A H a = some o) : ¬ A a ∧ H a = some o := by
  by_cases z : A a
  · rw [show hid A H a = none from if_pos z] at h
    cases h
  · exact ⟨z, by rw [hid_in z] at h; exact h⟩
theorem hid_mk {a : Addr} {o : HO} (z : ¬ A a) (h : H a = some o) : hid A H a = some o := by rw [hid_in z]; exact h
theorem hid_same (s : Same H H') : Same (hid A H) (hid A H') := fun a o h => hid_mk (hid_some h).1 (s _ _ (hid_some h).2)
theorem hid_un : Same (hid A H) H := fun _ _ h => (hid_some h).2
theorem hid_upd {L : Addr} {o : HO} (h : A L) : hid A (upd H L o) = hid A H := by
  funext a
  by_cases z : A a
  · rw [show hid A H a = none from if_pos z, show hid A (upd H L o) a = none from if_pos z]
  · rw [hid_in z, hid_in z, upd_ne]
    intro e
    rw [e] at z
    exact z h
theorem Dom.new {p : Addr} (h : Dom A H) (n : H p = none) : ¬ A p := fun z => h p z n
theorem Dom.same (h : Dom A H) (s : Same H H') : Dom A H' := fun a z n => by
  cases e : H a with
  | none => exact h a z e
  | some o => rw [s _ _ e] at n; cases n
theorem Dom.keep {d c : Addr} {t' : Int} (h : Dom A H) (f' : Feed H' d c t') (k : Keep d H H') : Dom A H' := fun a z n => by
  cases e : H a with
  | none => exact h a z e
  | some o =>
    by_cases y : a = d
    · obtain ⟨_, _, _, h1, _⟩ := f'
      rw [y, h1] at n
      cases n
    · rw [k a o y e] at n; cases n
theorem Dom.no : Dom (fun _ => False) H := fun _ z => z.elim
theorem Dom.at {L : Addr} {o : HO} (h : H L = some o) : Dom (· = L) H := fun a z n => by rw [z, h] at n; cases n
/-- d is told by v, and nothing of it stands at A -/
def DA (K : PySem.W.Frag) (A : Addr → Prop) (H : Hp) (v : V) (d : PyData) : Prop := DpX K (hid A H) v d
def DAs (K : PySem.W.Frag) (A : Addr → Prop) (H : Hp) (vs : List V) (ds : List PyData) : Prop := DpXAll K (hid A H) vs ds
theorem DA.no {v : V} {d : PyData} : DA K (fun _ => False) H v d ↔ DpX K H v d := by unfold DA; rw [hid_no]
theorem DA.un {v : V} {d : PyData} (h : DA K A H v d) : DpX K H v d := DpX.same h hid_un
theorem DAs.un {vs : List V} {ds : List PyData} (h : DAs K A H vs ds) : DpXAll K H vs ds := DpXAll.same h hid_un
theorem DA.same {v : V} {d : PyData} (h : DA K A H v d) (s : Same H H') : DA K A H' v d := DpX.same h (hid_same s)
theorem DAs.same {vs : List V} {ds : List PyData} (h : DAs K A H vs ds) (s : Same H H') : DAs K A H' vs ds := DpXAll.same h (hid_same s)
theorem DA.wr {v : V} {d : PyData} {L : Addr} {o : HO} (h : DA K A H v d) (z : A L) : DA K A (upd H L o) v d := by
  unfold DA
  rw [hid_upd z]
  exact h
theorem DAs.wr {vs : List V} {ds : List PyData} {L : Addr} {o : HO} (h : DAs K A H vs ds) (z : A L) : DAs K A (upd H L o) vs ds := by
  unfold DAs
  rw [hid_upd z]
  exact h
theorem sqL_keepA {d c : Addr} {t : Int} (f : Feed H d c t) (k : Keep d H H') {a : Addr} {xs : List V} (h : SqL K (hid A H) a xs) : SqL K (hid A H') a xs := by
  rcases h with (h | ⟨o, h⟩) | h
  · exact .inl (.inl (hid_mk (hid_some h).1 (keep_at f k (hid_some h).2 (fun _ z => nomatch z))))
  · exact .inl (.inr ⟨o, hid_mk (hid_some h).1 (keep_at f k (hid_some h).2 (fun _ z => nomatch z))⟩)
  · exact .inr h
theorem sqT_keepA {d c : Addr} {t : Int} (f : Feed H d c t) (k : Keep d H H') {a : Addr} {xs : List V} (h : SqT K (hid A H) a xs) : SqT K (hid A H') a xs := by
  rcases h with (h | ⟨o, h⟩) | h
  · exact .inl (.inl (hid_mk (hid_some h).1 (keep_at f k (hid_some h).2 (fun _ z => nomatch z))))
  · exact .inl (.inr ⟨o, hid_mk (hid_some h).1 (keep_at f k (hid_some h).2 (fun _ z => nomatch z))⟩)
  · exact .inr h
theorem DA.keep {d c : Addr} {t : Int} {x : PyData} {v : V} (h : DA K A H v x) (f : Feed H d c t) (k : Keep d H H') : DA K A H' v x := DpX.tr (fun _ _ z => sqL_keepA f k z) (fun _ _ z => sqT_keepA f k z) (fun _ z => hid_mk (hid_some z).1 (emp_keep f k (hid_some z).2)) _ _ h
theorem DAs.keep {d c : Addr} {t : Int} {ds : List PyData} {vs : List V} (h : DAs K A H vs ds) (f : Feed H d c t) (k : Keep d H H') : DAs K A H' vs ds := DpXAll.tr' (fun _ _ z => sqL_keepA f k z) (fun _ _ z => sqT_keepA f k z) (fun _ z => hid_mk (hid_some z).1 (emp_keep f k (hid_some z).2)) h
theorem DA.tup {p : Addr} {xs : List V} {ds : List PyData} (h : H p = some (.tup xs)) (z : ¬ A p) (g : DAs K A H xs ds) : DA K A H (.ref p) (.tuple ds) := DpX.tup (SqT.of (hid_mk z h)) g
theorem DA.lst {p : Addr} {xs : List V} {ds : List PyData} (h : H p = some (.lst xs)) (z : ¬ A p) (g : DAs K A H xs ds) : DA K A H (.ref p) (.list ds) := DpX.lst (SqL.of (hid_mk z h)) g
theorem DAs.nil : DAs K A H [] [] := DpXAll.nil
theorem DAs.cons {v : V} {d : PyData} {vs : List V} {ds : List PyData} (h : DA K A H v d) (g : DAs K A H vs ds) : DAs K A H (v :: vs) (d :: ds) := DpXAll.cons h g
theorem DAs.len {vs : List V} {ds : List PyData} (h : DAs K A H vs ds) : vs.length = ds.length := DpXAll.len h
theorem DAs.app {vs us : List V} {ds es : List PyData} (h : DAs K A H vs ds) (g : DAs K A H us es) : DAs K A H (vs ++ us) (ds ++ es) := DpXAll.app h g
theorem DAs.get {vs : List V} {ds : List PyData} {i : Nat} {d : PyData} (h : DAs K A H vs ds) (e : ds[i]? = some d) : ∃ v, vs[i]? = some v ∧ DA K A H v d := DpXAll.get h e
theorem DA.non : DA K A H .non .none := DpX.non
theorem DA.bl {b : Bool} : DA K A H (.bl b) (.bool b) := DpX.bl b
theorem DA.int {i : Int} : DA K A H (.int i) (.int i) := DpX.int i
theorem DA.str {x : Str} : DA K A H (.str x) (.str x) := DpX.str x
/-- a new tuple, a new list -/
theorem DA.tupN {p : Addr} {xs : List V} {ds : List PyData} (hA : Dom A H) (n : H p = none) (g : DAs K A H xs ds) : DA K A (upd H p (.tup xs)) (.ref p) (.tuple ds) := .tup upd_same (hA.new n) (g.same (same_new n))
theorem DA.lstN {p : Addr} {xs : List V} {ds : List PyData} (hA : Dom A H) (n : H p = none) (g : DAs K A H xs ds) : DA K A (upd H p (.lst xs)) (.ref p) (.list ds) := .lst upd_same (hA.new n) (g.same (same_new n))
end
/-! ### literals -/
section
variable {K : PySem.W.Frag}
def Lit (K : PySem.W.Frag) (te : TE) (d : PyData) : Prop := ∀ (A : Addr → Prop) σ H (Q : VK), Dom A H → (∀ v H', Same H H' → DA K A H' v d → Q v H') → te σ H Q
def Lits (K : PySem.W.Frag) (ta : TA) (ds : List PyData) : Prop := ∀ (A : Addr → Prop) σ H (R : List V → Hp → Prop), Dom A H → (∀ vs H', Same H H' → DAs K A H' vs ds → R vs H') → ta σ H R
theorem Lit.non : Lit K (tC .non) .none := fun _ _ H _ _ q => q _ H (Same.refl H) .non
theorem Lit.bl {b : Bool} : Lit K (tC (.bl b)) (.bool b) := fun _ _ H _ _ q => q _ H (Same.refl H) .bl
theorem Lit.int {n : Int} : Lit K (tC (.int n)) (.int n) := fun _ _ H _ _ q => q _ H (Same.refl H) .int
theorem Lit.str {x : Str} : Lit K (tC (.str x)) (.str x) := fun _ _ H _ _ q => q _ H (Same.refl H) .str
theorem Lit.neg {n : Int} : Lit K (tUn (rU fun i => .int (-i)) (tC (.int n))) (.int (-n)) := fun _ _ H _ _ q => ⟨n, rfl, q _ H (Same.refl H) .int⟩
theorem Lit.pow {n m : Int} (h : CPow n m) : Lit K (tOp (rI CPow fun i j => .int (i ^ j.toNat)) (tC (.int n)) (tC (.int m))) (.int (n ^ m.toNat)) := fun _ _ H _ _ q => ⟨n, m, rfl, rfl, h, q _ H (Same.refl H) .int⟩
theorem Lit.dict : Lit K tDNewK (.dict []) := fun _ _ H _ dA q p np => q _ _ (same_new np) (DpX.emp (hid_mk (dA.new np) upd_same))
theorem Lits.nil : Lits K tNil [] := fun _ _ H _ _ q => q [] H (Same.refl H) .nil
theorem Lits.cons {te : TE} {ta : TA} {d : PyData} {ds : List PyData} (h : Lit K te d) (g : Lits K ta ds) : Lits K (tCons te ta) (d :: ds) := fun A σ H R dA q =>
  h A σ H _ dA fun v H1 s1 hv => g A σ H1 _ (dA.same s1) fun vs H2 s2 hvs => q (v :: vs) H2 (s1.trans s2) (.cons (hv.same s2) hvs)
theorem Lit.tup {ta : TA} {ds : List PyData} (h : Lits K ta ds) (hl : ds.length ≤ 100) : Lit K (tTup ta) (.tuple ds) := fun A σ H Q dA q =>
  h A σ H _ dA fun vs H1 s1 hv => ⟨by rw [hv.len, sizeLine_eq]; omega, fun p np => q _ _ (s1.trans (same_new np)) (.tupN (dA.same s1) np hv)⟩
theorem Lit.lst {ta : TA} {ds : List PyData} (h : Lits K ta ds) (hl : ds.length ≤ 100) : Lit K (tLst ta) (.list ds) := fun A σ H Q dA q =>
  h A σ H _ dA fun vs H1 s1 hv => ⟨by rw [hv.len, sizeLine_eq]; omega, fun p np => q _ _ (s1.trans (same_new np)) (.lstN (dA.same s1) np hv)⟩
theorem lst_go {ta : TA} {ds : List PyData} {A : Addr → Prop} {σ : L2.St} {H : Hp} {Q : VK} (h : Lits K ta ds) (hl : ds.length ≤ 100) (dA : Dom A H) (q : ∀ D vs H', Same H H' → DAs K A H' vs ds → H' D = some (.lst vs) → Q (.ref D) H') : tLst ta σ H Q :=
  h A σ H _ dA fun vs H1 s1 hv => ⟨by rw [hv.len, sizeLine_eq]; omega, fun p np => q p vs _ (s1.trans (same_new np)) (hv.same (same_new np)) upd_same⟩
end
/-! ### sizes -/
structure O21 (c k : Nat) (d : PyData) : Prop where
  sh : d.showable = true
  lv : d.leavesShort 2000 = true
  wt : d.weight ≤ c
  dp : d.depth ≤ k
structure O21s (c k : Nat) (ds : List PyData) : Prop where
  sh : PyData.showableAll ds = true
  lv : PyData.leavesShortAll 2000 ds = true
  wt : PyData.weightAll ds ≤ c
  dp : PyData.depthAll ds ≤ k
theorem O21s.nil {k : Nat} : O21s 0 k [] := ⟨rfl, rfl, Nat.le_refl _, Nat.zero_le _⟩
theorem O21s.cons {c1 c2 k : Nat} {d : PyData} {ds : List PyData} (h : O21 c1 k d) (hs : O21s c2 k ds) : O21s (c1 + 1 + c2) k (d :: ds) := by
  refine ⟨?_, ?_, ?_, ?_⟩
  · show (d.showable && PyData.showableAll ds) = true
    rw [h.sh, hs.sh]
    rfl
  · show (d.leavesShort 2000 && PyData.leavesShortAll 2000 ds) = true
    rw [h.lv, hs.lv]
    rfl
  · show d.weight + 1 + PyData.weightAll ds ≤ _
    have := h.wt
    have := hs.wt
    omega
  · show max d.depth (PyData.depthAll ds) ≤ k
    have := h.dp
    have := hs.dp
    omega
theorem O21s.tup {c k : Nat} {ds : List PyData} (h : O21s c k ds) : O21 c (k + 1) (.tuple ds) := ⟨h.sh, h.lv, h.wt, Nat.add_le_add_right h.dp 1⟩
theorem O21s.lst {c k : Nat} {ds : List PyData} (h : O21s c k ds) : O21 c (k + 1) (.list ds) := ⟨h.sh, h.lv, h.wt, Nat.add_le_add_right h.dp 1⟩
theorem O21.mono {c c2 k k2 : Nat} {d : PyData} (h : O21 c k d) (h1 : c ≤ c2) (h2 : k ≤ k2) : O21 c2 k2 d := ⟨h.sh, h.lv, Nat.le_trans h.wt h1, Nat.le_trans h.dp h2⟩
theorem O21.len {c k : Nat} {d : PyData} (h : O21 c k d) (hc : c ≤ 8000) : d.shown.length ≤ sizeLine := by
  have e := PyData.shown_le 2000 (by decide) d h.lv
  have w := h.wt
  have e2 : (2000 + 2) * d.weight ≤ (2000 + 2) * 8000 := Nat.mul_le_mul_left _ (Nat.le_trans w hc)
  rw [sizeLine_eq]
  omega
def oddD : List PyData := [.none, .bool true, .bool false, .str "", .str "0", .int 0, .int 1, .int (-1), .tuple [], .list [], .dict [], .tuple [.int 0, .int 1], .tuple [.int 1, .int 1], .tuple [.int 1, .int 0], .tuple [.int 2, .int 4], .list [.int 1, .int 2], .tuple [.bool true, .int 1]]
def oddD2 : List PyData := [.tuple [.int 0, .int 2], .tuple [.int 3, .int 2], .tuple [.int (-1), .int 2], .tuple [.int 1, .int 2, .int 3], .tuple [.tuple [], .tuple [.int 0, .int 1]], .tuple [.tuple [.tuple [.int 1, .int 2]], .tuple [.int 1, .int 2]], .tuple [.tuple [.int 1, .int 2]], .tuple [.int (10 ^ (40 : Int).toNat), .int 1]]
def oddD3 : List PyData := [.str "a", .tuple [.int 1, .bool true], .tuple [.int 1, .int (-2)], .list [.tuple [.int 1, .int 2]], .tuple [.tuple [.int 1, .int 3], .tuple [.int 2, .int 3]]]
def o21B (d : PyData) : Bool := d.showable && d.leavesShort 2000 && decide (d.weight ≤ 300) && decide (d.depth ≤ 4)
theorem o21B_ok {d : PyData} (h : o21B d = true) : O21 300 4 d := by
  unfold o21B at h
  simp only [Bool.and_eq_true, decide_eq_true_eq] at h
  exact ⟨h.1.1.1, h.1.1.2, h.1.2, h.2⟩
theorem odd_sh : ∀ d ∈ oddD ++ oddD2 ++ oddD3, O21 300 4 d := fun d hd => o21B_ok (List.all_eq_true.mp (show (oddD ++ oddD2 ++ oddD3).all o21B = true by decide +kernel) d hd)

end Fp

set_option Elab.async false
set_option linter.all false
set_option maxRecDepth 100000
set_option maxHeartbeats 4000000
set_option exponentiation.threshold 10000
namespace Fp
open PySem PySem.Spec PyProof.Rows L2
/-! ### how great any thing is, shown -/
/-- its numbers below 2 ^ b, its tuples and lists at most w long -/
inductive Itd (b w : Nat) : PyData → Prop
  | non : Itd b w .none
  | bl (x : Bool) : Itd b w (.bool x)
  | int {i : Int} : Sm b i → Itd b w (.int i)
  | str {x : Str} : (∀ c ∈ x.cps.toList, c < 16 ^ 8) → Itd b w (.str x)
  | lst {ds : List PyData} : ds.length ≤ w → (∀ d ∈ ds, Itd b w d) → Itd b w (.list ds)
  | tup {ds : List PyData} : ds.length ≤ w → (∀ d ∈ ds, Itd b w d) → Itd b w (.tuple ds)
  | emp : Itd b w (.dict [])
theorem shA_of {ds : List PyData} (h : ∀ d ∈ ds, d.showable = true) : PyData.showableAll ds = true := by
  induction ds with
  | nil => rfl
  | cons d r ih =>
    show (d.showable && PyData.showableAll r) = true
    rw [h d (List.mem_cons_self ..), ih fun x hx => h x (List.mem_cons_of_mem _ hx)]
    rfl
theorem lvA_of {ds : List PyData} (h : ∀ d ∈ ds, d.leavesShort 2000 = true) : PyData.leavesShortAll 2000 ds = true := by
  induction ds with
  | nil => rfl
  | cons d r ih =>
    show (d.leavesShort 2000 && PyData.leavesShortAll 2000 r) = true
    rw [h d (List.mem_cons_self ..), ih fun x hx => h x (List.mem_cons_of_mem _ hx)]
    rfl
theorem Itd.sh {b w : Nat} {d : PyData} (h : Itd b w d) (hb : b ≤ 1900) : d.showable = true ∧ d.leavesShort 2000 = true := by
  induction h with
  | non => exact ⟨rfl, rfl⟩
  | bl x => exact ⟨rfl, rfl⟩
  | int h => exact sh_int (h.mono hb)
  | str h => exact ⟨rfl, by simpa only [PyData.leavesShort, List.all_eq_true, decide_eq_true_eq] using h⟩
  | lst _ _ ih => exact ⟨shA_of fun d hd => (ih d hd).1, lvA_of fun d hd => (ih d hd).2⟩
  | tup _ _ ih => exact ⟨shA_of fun d hd => (ih d hd).1, lvA_of fun d hd => (ih d hd).2⟩
  | emp => exact ⟨rfl, rfl⟩
theorem Itd.mono {b b2 w w2 : Nat} {d : PyData} (h : Itd b w d) (l : b ≤ b2) (lw : w ≤ w2) : Itd b2 w2 d := by
  induction h with
  | non => exact .non
  | bl x => exact .bl x
  | int h => exact .int (h.mono l)
  | str h => exact .str h
  | lst n _ ih => exact .lst (Nat.le_trans n lw) ih
  | tup n _ ih => exact .tup (Nat.le_trans n lw) ih
  | emp => exact .emp
structure Bk (b w c k : Nat) (d : PyData) : Prop where
  it : Itd b w d
  bk : d.bulk ≤ c
  dp : d.depth ≤ k
structure Bks (b w c k : Nat) (ds : List PyData) : Prop where
  it : ∀ d ∈ ds, Itd b w d
  bk : PyData.bulkAll ds ≤ c
  dp : PyData.depthAll ds ≤ k
theorem Bk.mono {b b2 w w2 c c2 k k2 : Nat} {d : PyData} (h : Bk b w c k d) (h0 : b ≤ b2) (hw : w ≤ w2) (h1 : c ≤ c2) (h2 : k ≤ k2) : Bk b2 w2 c2 k2 d := ⟨h.it.mono h0 hw, Nat.le_trans h.bk h1, Nat.le_trans h.dp h2⟩
theorem Bks.mono {b b2 w w2 c c2 k k2 : Nat} {ds : List PyData} (h : Bks b w c k ds) (h0 : b ≤ b2) (hw : w ≤ w2) (h1 : c ≤ c2) (h2 : k ≤ k2) : Bks b2 w2 c2 k2 ds := ⟨fun d hd => (h.it d hd).mono h0 hw, Nat.le_trans h.bk h1, Nat.le_trans h.dp h2⟩
theorem Bks.nil {b w k : Nat} : Bks b w 0 k [] := ⟨fun _ h => (by cases h), Nat.le_refl _, Nat.zero_le _⟩
theorem Bks.cons {b w c1 c2 k : Nat} {d : PyData} {ds : List PyData} (h : Bk b w c1 k d) (hs : Bks b w c2 k ds) : Bks b w (c1 + 1 + c2) k (d :: ds) := by
  refine ⟨fun x hx => ?_, ?_, ?_⟩
  · rcases List.mem_cons.mp hx with rfl | z
    · exact h.it
    · exact hs.it x z
  · show d.bulk + 1 + PyData.bulkAll ds ≤ _
    have := h.bk
    have := hs.bk
    omega
  · show max d.depth (PyData.depthAll ds) ≤ k
    have := h.dp
    have := hs.dp
    omega
theorem bulkA_app (xs ys : List PyData) : PyData.bulkAll (xs ++ ys) = PyData.bulkAll xs + PyData.bulkAll ys := by
  induction xs with
  | nil => show PyData.bulkAll ys = 0 + _; omega
  | cons d r ih => show d.bulk + 1 + PyData.bulkAll (r ++ ys) = d.bulk + 1 + PyData.bulkAll r + _; omega
theorem depthA_app (xs ys : List PyData) : PyData.depthAll (xs ++ ys) = max (PyData.depthAll xs) (PyData.depthAll ys) := by
  induction xs with
  | nil => show PyData.depthAll ys = max 0 _; omega
  | cons d r ih => show max d.depth (PyData.depthAll (r ++ ys)) = max (max d.depth (PyData.depthAll r)) _; omega
theorem Bks.app {b w c1 c2 k : Nat} {xs ys : List PyData} (h : Bks b w c1 k xs) (g : Bks b w c2 k ys) : Bks b w (c1 + c2) k (xs ++ ys) := by
  refine ⟨fun x hx => (List.mem_append.mp hx).elim (h.it x) (g.it x), ?_, ?_⟩
  · rw [bulkA_app]; have := h.bk; have := g.bk; omega
  · rw [depthA_app]; have := h.dp; have := g.dp; omega
theorem Bks.take {b w c k : Nat} {ds : List PyData} (h : Bks b w c k ds) (i : Nat) : Bks b w c k (ds.take i) := by
  have e1 := bulkA_app (ds.take i) (ds.drop i)
  have e2 := depthA_app (ds.take i) (ds.drop i)
  rw [List.take_append_drop] at e1 e2
  exact ⟨fun x hx => h.it x (List.mem_of_mem_take hx), by have := h.bk; omega, by have := h.dp; omega⟩
theorem Bks.drop {b w c k : Nat} {ds : List PyData} (h : Bks b w c k ds) (i : Nat) : Bks b w c k (ds.drop i) := by
  have e1 := bulkA_app (ds.take i) (ds.drop i)
  have e2 := depthA_app (ds.take i) (ds.drop i)
  rw [List.take_append_drop] at e1 e2
  exact ⟨fun x hx => h.it x (List.mem_of_mem_drop hx), by have := h.bk; omega, by have := h.dp; omega⟩
theorem Bks.rev {b w c k : Nat} {ds : List PyData} (h : Bks b w c k ds) : Bks b w c k ds.reverse := by
  have e : ∀ xs : List PyData, PyData.bulkAll xs.reverse = PyData.bulkAll xs ∧ PyData.depthAll xs.reverse = PyData.depthAll xs := by
    intro xs
    induction xs with
    | nil => exact ⟨rfl, rfl⟩
    | cons d r ih =>
      rw [List.reverse_cons, bulkA_app, depthA_app, ih.1, ih.2]
      exact ⟨show _ + (d.bulk + 1 + 0) = d.bulk + 1 + _ by omega, show max _ (max d.depth 0) = max d.depth _ by omega⟩
  refine ⟨fun x hx => h.it x (List.mem_reverse.mp hx), ?_, ?_⟩
  · rw [(e ds).1]; exact h.bk
  · rw [(e ds).2]; exact h.dp
theorem depthA_mem {ds : List PyData} {d : PyData} (h : d ∈ ds) : d.depth ≤ PyData.depthAll ds := by
  induction ds with
  | nil => cases h
  | cons x r ih =>
    show _ ≤ max x.depth (PyData.depthAll r)
    rcases List.mem_cons.mp h with rfl | z
    · omega
    · have := ih z; omega
theorem Bks.get {b w c k i : Nat} {ds : List PyData} {d : PyData} (h : Bks b w c k ds) (e : ds[i]? = some d) : Bk b w c k d := by
  have hm := List.mem_of_getElem? e
  refine ⟨h.it d hm, ?_, Nat.le_trans (depthA_mem hm) h.dp⟩
  have h1 := (h.drop i).bk
  have e2 : ds.drop i = d :: ds.drop (i + 1) := by
    have hi := (List.getElem?_eq_some_iff.mp e).1
    rw [List.drop_eq_getElem_cons hi, (List.getElem?_eq_some_iff.mp e).2]
  rw [e2] at h1
  have h2 : d.bulk + 1 + PyData.bulkAll (ds.drop (i + 1)) ≤ c := h1
  omega
/-- what stands around place i -/
theorem bulk_split {i : Nat} {ds : List PyData} {d : PyData} (e : ds[i]? = some d) : PyData.bulkAll (ds.take i) + (d.bulk + 1) + PyData.bulkAll (ds.drop (i + 1)) = PyData.bulkAll ds := by
  have hi := (List.getElem?_eq_some_iff.mp e).1
  have e1 := bulkA_app (ds.take i) (ds.drop i)
  rw [List.take_append_drop] at e1
  have e2 : ds.drop i = d :: ds.drop (i + 1) := by
    rw [List.drop_eq_getElem_cons hi, (List.getElem?_eq_some_iff.mp e).2]
  have e3 : PyData.bulkAll (ds.drop i) = d.bulk + 1 + PyData.bulkAll (ds.drop (i + 1)) := by rw [e2]; rfl
  omega
theorem Bks.tup {b w c k : Nat} {ds : List PyData} (h : Bks b w c k ds) (hl : ds.length ≤ w) : Bk b w c (k + 1) (.tuple ds) := ⟨.tup hl h.it, h.bk, Nat.add_le_add_right h.dp 1⟩
theorem Bks.lst {b w c k : Nat} {ds : List PyData} (h : Bks b w c k ds) (hl : ds.length ≤ w) : Bk b w c (k + 1) (.list ds) := ⟨.lst hl h.it, h.bk, Nat.add_le_add_right h.dp 1⟩
theorem Bk.tupI {b w c k : Nat} {ds : List PyData} (h : Bk b w c k (.tuple ds)) : ∃ j, k = j + 1 ∧ ds.length ≤ w ∧ Bks b w c j ds := by
  have hd : PyData.depthAll ds + 1 ≤ k := h.dp
  cases h.it with
  | tup z y => exact ⟨k - 1, by omega, z, y, h.bk, by omega⟩
theorem Bk.int {b w k : Nat} {i : Int} (h : Sm b i) : Bk b w 0 k (.int i) := ⟨.int h, Nat.le_refl _, Nat.zero_le _⟩
theorem Bk.bool {b w k : Nat} {x : Bool} : Bk b w 0 k (.bool x) := ⟨.bl x, Nat.le_refl _, Nat.zero_le _⟩
theorem Bk.none {b w k : Nat} : Bk b w 0 k .none := ⟨.non, Nat.le_refl _, Nat.zero_le _⟩
theorem Bk.text {b w k : Nat} {i : Int} (h : Sm b i) (hb : 0 < b) : Bk b w (b + 1) k (.str (Str.ofString (toString i))) := by
  refine ⟨.str fun c hc => ?_, ?_, Nat.zero_le _⟩
  · rcases Nat.lt_or_ge c (16 ^ 8) with z | z
    · exact z
    · exact absurd hc (int_text_free' c ⟨by omega, by omega⟩ i)
  · have e := int_text_length_le (k := b) hb (h.log hb)
    show (Str.ofString (toString i)).length ≤ b + 1
    rw [PySem.ofString_length]
    exact e
theorem Bk.len {b w c k : Nat} {d : PyData} (h : Bk b w c k d) (hb : b ≤ 1900) (hc : c ≤ 8000) : d.shown.length ≤ sizeLine := by
  have e := PyData.shown_le_bulk 2000 (by decide) d (h.it.sh hb).2
  have e2 : (2000 + 2) * d.bulk ≤ (2000 + 2) * 8000 := Nat.mul_le_mul_left _ (Nat.le_trans h.bk hc)
  rw [sizeLine_eq]
  omega
def itB (b : Nat) : PyData → Bool
  | .none => true
  | .bool _ => true
  | .int i => decide (i.natAbs < 2 ^ b)
  | .str x => x.cps.toList.all fun c => decide (c < 16 ^ 8)
  | .dict [] => true
  | _ => false
/-- things of at most four in one another -/
def itBn (b : Nat) : Nat → PyData → Bool
  | 0, d => itB b d
  | n + 1, .tuple ds => decide (ds.length ≤ 4) && ds.all (itBn b n)
  | n + 1, .list ds => decide (ds.length ≤ 4) && ds.all (itBn b n)
  | _ + 1, d => itB b d
theorem itB_ok {b w : Nat} {d : PyData} (h : itB b d = true) : Itd b w d := by
  cases d with
  | none => exact .non
  | bool x => exact .bl x
  | int i => exact .int (show i.natAbs < 2 ^ b from of_decide_eq_true h)
  | str x => exact .str (by simpa only [itB, List.all_eq_true, decide_eq_true_eq] using h)
  | list ds => cases h
  | tuple ds => cases h
  | dict kv =>
    cases kv with
    | nil => exact .emp
    | cons _ _ => cases h
theorem itBn_ok {b : Nat} : ∀ {n : Nat} {d : PyData}, itBn b n d = true → Itd b 4 d
  | 0, _, h => itB_ok h
  | n + 1, .tuple ds, h => by
    have h2 : (decide (ds.length ≤ 4) && ds.all (itBn b n)) = true := h
    rw [Bool.and_eq_true, decide_eq_true_eq] at h2
    exact .tup h2.1 fun d hd => itBn_ok (List.all_eq_true.mp h2.2 d hd)
  | n + 1, .list ds, h => by
    have h2 : (decide (ds.length ≤ 4) && ds.all (itBn b n)) = true := h
    rw [Bool.and_eq_true, decide_eq_true_eq] at h2
    exact .lst h2.1 fun d hd => itBn_ok (List.all_eq_true.mp h2.2 d hd)
  | _ + 1, .none, h => itB_ok h
  | _ + 1, .bool _, h => itB_ok h
  | _ + 1, .int _, h => itB_ok h
  | _ + 1, .str _, h => itB_ok h
  | _ + 1, .dict _, h => itB_ok h
def bkB (d : PyData) : Bool := itBn 134 4 d && decide (d.bulk ≤ 20) && decide (d.depth ≤ 4)
theorem bkB_ok {d : PyData} (h : bkB d = true) : Bk 134 4 20 4 d := by
  unfold bkB at h
  simp only [Bool.and_eq_true, decide_eq_true_eq] at h
  exact ⟨itBn_ok h.1.1, h.1.2, h.2⟩
theorem odd_bk : ∀ d ∈ oddD ++ oddD2 ++ oddD3, Bk 134 4 20 4 d := fun d hd => bkB_ok (List.all_eq_true.mp (show (oddD ++ oddD2 ++ oddD3).all bkB = true by decide +kernel) d hd)
/-! ### tuples told by their data: cut, laid behind one another -/
section
variable {K : PySem.W.Frag} {H H' : Hp} {A : Addr → Prop}
theorem DpXAll.take : ∀ {xs : List V} {ds : List PyData} (i : Nat), DpXAll K H xs ds → DpXAll K H (xs.take i) (ds.take i)
  | [], [], _, _ => by simp only [List.take_nil]; exact .nil
  | _ :: _, _ :: _, 0, _ => .nil
  | _ :: _, _ :: _, i + 1, h => by
    cases h with
    | cons a b => exact .cons a (b.take i)
  | [], _ :: _, _, h => by cases h
  | _ :: _, [], _, h => by cases h
theorem DpXAll.drop : ∀ {xs : List V} {ds : List PyData} (i : Nat), DpXAll K H xs ds → DpXAll K H (xs.drop i) (ds.drop i)
  | [], [], _, _ => by simp only [List.drop_nil]; exact .nil
  | _ :: _, _ :: _, 0, h => h
  | _ :: _, _ :: _, i + 1, h => by
    cases h with
    | cons a b => exact b.drop i
  | [], _ :: _, _, h => by cases h
  | _ :: _, [], _, h => by cases h
theorem DpXAll.rev : ∀ {xs : List V} {ds : List PyData}, DpXAll K H xs ds → DpXAll K H xs.reverse ds.reverse
  | [], [], _ => .nil
  | x :: xs, d :: ds, h => by
    cases h with
    | cons a b =>
      rw [List.reverse_cons, List.reverse_cons]
      exact b.rev.app (.cons a .nil)
  | [], _ :: _, h => by cases h
  | _ :: _, [], h => by cases h
theorem cutV_to (vs : List V) (n : Nat) : cutV vs none (some (n : Int)) = vs.take n := by
  unfold cutV
  rw [HT.sIx_none, HT.sIx_nat, List.drop_zero, Nat.sub_zero]
  rcases Nat.le_total n vs.length with z | z
  · rw [Nat.min_eq_left z]
  · rw [Nat.min_eq_right z, List.take_of_length_le (Nat.le_refl _), List.take_of_length_le z]
theorem cutV_fr (vs : List V) (n : Nat) : cutV vs (some (n : Int)) none = vs.drop n := by
  unfold cutV
  rw [HT.sIx_none, HT.sIx_nat]
  rcases Nat.le_total n vs.length with z | z
  · rw [Nat.min_eq_left z, List.take_of_length_le (by rw [List.length_drop]; exact Nat.le_refl _)]
  · rw [Nat.min_eq_right z, List.drop_of_length_le (Nat.le_refl _), List.drop_of_length_le z, List.take_nil]
theorem cutV_mid (vs : List V) (a b : Nat) : cutV vs (some (a : Int)) (some (b : Int)) = (vs.take b).drop a := by
  unfold cutV
  rw [HT.sIx_nat, HT.sIx_nat, List.drop_take]
  rcases Nat.le_total b vs.length with z | z
  · rw [Nat.min_eq_left z]
    rcases Nat.le_total a vs.length with y | y
    · rw [Nat.min_eq_left y]
    · rw [Nat.min_eq_right y, List.drop_of_length_le (Nat.le_refl _), List.drop_of_length_le y, List.take_nil, List.take_nil]
  · rw [Nat.min_eq_right z]
    rcases Nat.le_total a vs.length with y | y
    · rw [Nat.min_eq_left y, List.take_of_length_le (by rw [List.length_drop]; exact Nat.le_refl _), List.take_of_length_le (by rw [List.length_drop]; omega)]
    · rw [Nat.min_eq_right y, List.drop_of_length_le (Nat.le_refl _), List.drop_of_length_le y, List.take_nil, List.take_nil]
theorem slD_to {v : V} {ds : List PyData} {i : Nat} {Q : VK} (dA : Dom A H) (h : DA K A H v (.tuple ds)) (q : ∀ w H', Same H H' → DA K A H' w (.tuple (ds.take i)) → Q w H') : rSlA K v none (some (i : Int)) H Q := by
  have hu := h.un
  unfold DA at h
  cases h with
  | @tup p xs _ h1 h2 =>
    have hl := h2.len
    refine ⟨p, xs, rfl, sqT_same hid_un h1, fun z => ?_, fun _ r nr => ?_⟩
    · have z1 := z.2
      rw [HT.sIx_nat] at z1
      refine q _ H (Same.refl H) ?_
      rw [List.take_of_length_le (by omega)]
      exact DpX.tup h1 h2
    · rw [cutV_to]
      exact q _ _ (same_new nr) (.tupN dA nr (h2.take i))
theorem slD_fr {v : V} {ds : List PyData} {i : Nat} {Q : VK} (dA : Dom A H) (h : DA K A H v (.tuple ds)) (q : ∀ w H', Same H H' → DA K A H' w (.tuple (ds.drop i)) → Q w H') : rSlA K v (some (i : Int)) none H Q := by
  unfold DA at h
  cases h with
  | @tup p xs _ h1 h2 =>
    have hl := h2.len
    refine ⟨p, xs, rfl, sqT_same hid_un h1, fun z => ?_, fun _ r nr => ?_⟩
    · have z1 := z.1
      rw [HT.sIx_nat] at z1
      refine q _ H (Same.refl H) ?_
      rcases Nat.eq_zero_or_pos i with y | y
      · rw [y]
        exact DpX.tup h1 h2
      · have : xs.length = 0 := by omega
        rw [List.drop_of_length_le (by omega)]
        have e : ds = [] := List.length_eq_zero_iff.mp (by omega)
        rw [e] at h2
        exact DpX.tup h1 h2
    · rw [cutV_fr]
      exact q _ _ (same_new nr) (.tupN dA nr (h2.drop i))
theorem slD_mid {v : V} {ds : List PyData} {i j : Nat} {Q : VK} (dA : Dom A H) (h : DA K A H v (.tuple ds)) (q : ∀ w H', Same H H' → DA K A H' w (.tuple ((ds.take j).drop i)) → Q w H') : rSlA K v (some (i : Int)) (some (j : Int)) H Q := by
  unfold DA at h
  cases h with
  | @tup p xs _ h1 h2 =>
    have hl := h2.len
    refine ⟨p, xs, rfl, sqT_same hid_un h1, fun z => ?_, fun _ r nr => ?_⟩
    · have z1 := z.1
      have z2 := z.2
      rw [HT.sIx_nat] at z1 z2
      refine q _ H (Same.refl H) ?_
      rw [List.take_of_length_le (by omega)]
      rcases Nat.eq_zero_or_pos i with y | y
      · rw [y]
        exact DpX.tup h1 h2
      · have : xs.length = 0 := by omega
        rw [List.drop_of_length_le (by omega)]
        have e : ds = [] := List.length_eq_zero_iff.mp (by omega)
        rw [e] at h2
        exact DpX.tup h1 h2
    · rw [cutV_mid]
      exact q _ _ (same_new nr) (.tupN dA nr ((h2.take j).drop i))
theorem catD {u v : V} {d1 d2 : List PyData} {Q : VK} (dA : Dom A H) (h : DA K A H u (.tuple d1)) (g : DA K A H v (.tuple d2)) (hl : d1.length + d2.length ≤ sizeLine) (q : ∀ w H', Same H H' → DA K A H' w (.tuple (d1 ++ d2)) → Q w H') : rCatA K u v H Q := by
  unfold DA at h g
  cases h with
  | @tup a xs _ h1 h2 =>
    cases g with
    | @tup b ys _ g1 g2 =>
      have l1 := h2.len
      have l2 := g2.len
      refine ⟨a, b, xs, ys, rfl, rfl, sqT_same hid_un h1, sqT_same hid_un g1, by omega, fun e => ?_, fun _ e => ?_, fun _ _ p np => ?_⟩
      · have e1 : d1 = [] := List.length_eq_zero_iff.mp (by rw [← l1, e]; rfl)
        refine q _ H (Same.refl H) ?_
        rw [e1]
        exact DpX.tup g1 g2
      · have e1 : d2 = [] := List.length_eq_zero_iff.mp (by rw [← l2, e]; rfl)
        refine q _ H (Same.refl H) ?_
        rw [e1, List.append_nil]
        exact DpX.tup h1 h2
      · exact q _ _ (same_new np) (.tupN dA np (h2.app g2))
theorem listD {u : V} {ds : List PyData} {Q : VK} (dA : Dom A H) (h : DA K A H u (.tuple ds)) (q : ∀ w H', Same H H' → DA K A H' w (.list ds) → Q w H') : rLst K [u] H Q := by
  unfold DA at h
  cases h with
  | @tup a xs _ h1 h2 => exact ⟨a, xs, rfl, .inr (sqT_same hid_un h1), fun p np => q _ _ (same_new np) (.lstN dA np h2)⟩
theorem DA.tupE {u : V} {ds : List PyData} (h : DA K A H u (.tuple ds)) : ∃ a xs, u = .ref a ∧ SqT K H a xs ∧ DAs K A H xs ds := by
  unfold DA at h
  cases h with
  | @tup a xs _ h1 h2 => exact ⟨a, xs, rfl, sqT_same hid_un h1, h2⟩
theorem DAs.rev {xs : List V} {ds : List PyData} (h : DAs K A H xs ds) : DAs K A H xs.reverse ds.reverse := DpXAll.rev h
/-- a sublist, by what it weighs itself -/
theorem Bks.own {b w c k : Nat} {ds : List PyData} (h : Bks b w c k ds) : Bks b w (PyData.bulkAll ds) k ds := ⟨h.it, Nat.le_refl _, h.dp⟩
theorem reprD {v : V} {d : PyData} {b l c k : Nat} {Q : VK} (h : DpX K H v d) (g : Bk b l c k d) (hb : b ≤ 1900) (hc : c ≤ 8000) (hk : k ≤ 60) (q : Q (.str d.shown) H) : rRepr K [v] H Q := ⟨v, d, rfl, h, (g.it.sh hb).1, Nat.le_trans g.dp hk, g.len hb hc, q⟩
mutual
theorem DpX.ofD : ∀ {v : V} {d : PyData}, Dp K H v d → DpX K H v d
  | _, _, .non => .non
  | _, _, .bl b => .bl b
  | _, _, .int i => .int i
  | _, _, .str x => .str x
  | _, _, .lst h g => .lst h (DpXAll.ofD g)
  | _, _, .tup h g => .tup h (DpXAll.ofD g)
theorem DpXAll.ofD : ∀ {vs : List V} {ds : List PyData}, DpAll K H vs ds → DpXAll K H vs ds
  | _, _, .nil => .nil
  | _, _, .cons h g => .cons (DpX.ofD h) (DpXAll.ofD g)
end
theorem lenD {u : V} {ds : List PyData} {Q : VK} (h : DpX K H u (.tuple ds)) (q : Q (.int ds.length) H) : rLen K [u] H Q := by
  cases h with
  | @tup a xs _ h1 h2 => exact ⟨a, xs, rfl, .inr h1, by rw [h2.len]; exact q⟩
theorem lenL {u : V} {ds : List PyData} {Q : VK} (h : DpX K H u (.list ds)) (q : Q (.int ds.length) H) : rLen K [u] H Q := by
  cases h with
  | @lst a xs _ h1 h2 => exact ⟨a, xs, rfl, .inl h1, by rw [h2.len]; exact q⟩
theorem idxD {u : V} {ds : List PyData} {i : Nat} {e : PyData} {Q : VK} (h : DA K A H u (.tuple ds)) (he : ds[i]? = some e) (q : ∀ w, DA K A H w e → Q w H) : rIxT K u (.int (i : Int)) H Q := by
  obtain ⟨a, xs, rfl, h1, h2⟩ := h.tupE
  obtain ⟨w, hw, hd⟩ := h2.get he
  exact ⟨a, xs, _, w, rfl, rfl, h1, atI_nat hw, q w hd⟩
theorem atI_neg {α : Type} {xs : List α} {k : Nat} {v : α} (h0 : 0 < k) (h : k ≤ xs.length) (e : xs[xs.length - k]? = some v) : atI xs (-(k : Int)) = some v := by
  have e2 : ixN xs.length (-(k : Int)) = some (xs.length - k) := by
    unfold ixN
    rw [if_neg (by omega), if_pos (by omega)]
    congr 1
    omega
  unfold atI
  rw [e2]
  exact e
/-- a list of things told by their data that may grow: nothing of them stands at it -/
def LsD (K : PySem.W.Frag) (H : Hp) (a : Addr) (ds : List PyData) : Prop := ∃ vs, H a = some (.lst vs) ∧ DAs K (· = a) H vs ds
theorem LsD.same {a : Addr} {ds : List PyData} (h : LsD K H a ds) (s : Same H H') : LsD K H' a ds := by
  obtain ⟨vs, h1, h2⟩ := h
  exact ⟨vs, s _ _ h1, h2.same s⟩
theorem LsD.keep {d c : Addr} {t : Int} {a : Addr} {ds : List PyData} (h : LsD K H a ds) (f : Feed H d c t) (k : Keep d H H') : LsD K H' a ds := by
  obtain ⟨vs, h1, h2⟩ := h
  exact ⟨vs, keep_at f k h1 (fun _ z => nomatch z), h2.keep f k⟩
theorem LsD.new {p : Addr} {vs : List V} {ds : List PyData} (n : H p = none) (h : DpXAll K H vs ds) : LsD K (upd H p (.lst vs)) p ds := by
  refine ⟨vs, upd_same, ?_⟩
  unfold DAs
  rw [hid_upd (A := fun x => x = p) rfl]
  refine DpXAll.same h fun b o e => ?_
  exact hid_mk (ne_of_none e n) e
theorem LsD.dom {a : Addr} {ds : List PyData} (h : LsD K H a ds) : Dom (· = a) H := by
  obtain ⟨vs, h1, _⟩ := h
  exact Dom.at h1
/-- one more behind -/
theorem LsD.push {a : Addr} {ds : List PyData} {v : V} {d : PyData} {Q : Hp → Prop} (h : LsD K H a ds) (hv : DA K (· = a) H v d) (hl : ds.length < 10000) (q : ∀ vs, H a = some (.lst vs) → LsD K (upd H a (.lst (vs ++ [v]))) a (ds ++ [d]) → Q (upd H a (.lst (vs ++ [v])))) :
    ∃ vs, H a = some (.lst vs) ∧ vs.length < sizeLine ∧ Q (upd H a (.lst (vs ++ [v]))) := by
  obtain ⟨vs, h1, h2⟩ := h
  exact ⟨vs, h1, by rw [h2.len, sizeLine_eq]; omega, q vs h1 ⟨_, upd_same, (h2.app (.cons hv .nil)).wr rfl⟩⟩
theorem LsD.push_go {a : Addr} {ds : List PyData} {v : V} {d : PyData} {Q : VK} (h : LsD K H a ds) (hv : DA K (· = a) H v d) (hl : ds.length < 10000) (q : ∀ H', LsD K H' a (ds ++ [d]) → (∀ b o, b ≠ a → H b = some o → H' b = some o) → Q .non H') : rAppend (.ref a) [v] H Q := by
  obtain ⟨vs, h1, h2⟩ := h
  exact ⟨a, vs, v, rfl, rfl, h1, by rw [h2.len, sizeLine_eq]; omega, q _ ⟨_, upd_same, (h2.app (.cons hv .nil)).wr rfl⟩ fun b o n z => by rw [upd_ne n]; exact z⟩
/-- the k-th from behind -/
theorem LsD.back {a : Addr} {ds : List PyData} {k : Nat} {d : PyData} {Q : VK} (h : LsD K H a ds) (h0 : 0 < k) (hk : k ≤ ds.length) (e : ds[ds.length - k]? = some d) (q : ∀ v, DA K (· = a) H v d → Q v H) : rIxL K (.ref a) (.int (-(k : Int))) H Q := by
  obtain ⟨vs, h1, h2⟩ := h
  have hl := h2.len
  obtain ⟨v, hv, hd⟩ := h2.get e
  exact ⟨a, vs, _, v, rfl, rfl, SqL.of h1, atI_neg h0 (by omega) (by rw [hl]; exact hv), q v hd⟩
/-- xs + xs[:n] -/
theorem LsD.cat_go {a : Addr} {ds : List PyData} {n : Nat} {Q : VK} (h : LsD K H a ds) (hl : ds.length ≤ 10000) (q : ∀ p vs H', Same H H' → H' p = some (.lst vs) → DpXAll K H' vs (ds ++ ds.take n) → Q (.ref p) H') : rSlL K (.ref a) none (some (n : Int)) H fun y H1 => rCat (.ref a) y H1 Q := by
  obtain ⟨vs, h1, h2⟩ := h
  have hl2 := h2.len
  refine ⟨a, vs, rfl, SqL.of h1, fun p np => ?_⟩
  have s1 := same_new (o := HO.lst (cutV vs none (some (n : Int)))) np
  refine ⟨a, p, vs, _, rfl, rfl, s1 _ _ h1, upd_same, ?_, fun r nr => ?_⟩
  · have := cutV_length vs none (some (n : Int))
    rw [sizeLine_eq]
    omega
  · have s2 := same_new (o := HO.lst (vs ++ cutV vs none (some (n : Int)))) nr
    refine q r _ _ (s1.trans s2) upd_same ?_
    rw [cutV_to]
    have h3 := h2.un.same (s1.trans s2)
    rw [cutV_to] at h3
    exact h3.app (h3.take n)
end

end Fp

set_option Elab.async false
set_option linter.all false
set_option maxRecDepth 100000
set_option maxHeartbeats 4000000
set_option exponentiation.threshold 10000
namespace Fp
open PySem PySem.Spec PyProof.Rows L2
/-! ### what laws of any things share -/
theorem if_share {c : Bool} {tA tB : TE} {σ : L2.St} {H : Hp} {Qc : VK} (R : V → Hp → Prop) (hA : c = true → ∀ Q' : VK, (∀ v H', R v H' → Q' v H') → tA σ H Q') (hB : c ≠ true → ∀ Q' : VK, (∀ v H', R v H' → Q' v H') → tB σ H Q') (h : ∀ v H', R v H' → Qc v H') : if c = true then tA σ H Qc else tB σ H Qc := by
  split
  · rename_i z
    exact hA z Qc h
  · rename_i z
    exact hB z Qc h
theorem wholeD_bk {b l c k : Nat} {y : Bool} : Bk b l c k (.bool y) := ⟨.bl y, Nat.zero_le _, Nat.zero_le _⟩
theorem bottom_sm {b l c k : Nat} {d : PyData} (h : Bk b l c k d) (hb : b ≤ 8000) : ∀ x y, d = .tuple [.int x, .int y] → Sm 8000 y := by
  rintro x y rfl
  cases h.it with
  | tup _ z =>
    cases z (.int y) (by simp) with
    | int s => exact s.mono hb
theorem feed_push {H H' : Hp} {d c L : Addr} {t : Int} {vs : List V} (f : Feed H d c t) (hL : H L = some (.lst vs)) (n : L ≠ c) (k : ∀ b o, b ≠ L → H b = some o → H' b = some o) : Feed H' d c t := by
  obtain ⟨a, l, ns, h1, h2, h3⟩ := f
  refine ⟨a, l, ns, k _ _ (fun z => ?_) h1, k _ _ (fun z => n z.symm) h2, h3⟩
  rw [z, hL] at h1
  cases h1

end Fp

set_option Elab.async false
set_option linter.all false
set_option maxRecDepth 100000
set_option maxHeartbeats 4000000
set_option exponentiation.threshold 10000
namespace Fp
open PySem PySem.Spec PyProof.Rows L2
/-! ### what is whole, what a ratio: of anything -/
abbrev s_wh : Stmt := topS 14
abbrev N_wh : List Str := ["thing"]
theorem sc_wh : FnScope N_wh ["thing"] (defScope s_wh) := ⟨rfl, rfl, rfl, by decide +kernel, rfl, by decide +kernel, by decide +kernel⟩
abbrev s_ir : Stmt := topS 16
abbrev N_ir : List Str := ["thing", "top", "bottom"]
theorem sc_ir : FnScope N_ir ["thing"] (defScope s_ir) := ⟨rfl, rfl, rfl, by decide +kernel, rfl, by decide +kernel, by decide +kernel⟩
section
variable {P : Program} {w : World} {K : PySem.W.Frag} {mg : Str → Option Value} {base : Heap}
def isInt : PyData → Bool
  | .int _ => true
  | .bool _ => true
  | _ => false
def isBool : PyData → Bool
  | .bool _ => true
  | _ => false
def isTup : PyData → Bool
  | .tuple _ => true
  | _ => false
def wholeD : PyData → Bool
  | .int _ => true
  | _ => false
def ratioD : PyData → Bool
  | .tuple [.int a, .int b] => decide (1 ≤ b) && decide (Int.gcd a b = 1)
  | _ => false
/-- the class of a datum -/
def clsD : PyData → String
  | .none => "NoneType"
  | .bool _ => "bool"
  | .int _ => "int"
  | .str _ => "str"
  | .list _ => "list"
  | .tuple _ => "tuple"
  | .dict _ => "dict"
theorem DpX.ty {H : Hp} {v : V} {d : PyData} (h : DpX K H v d) : TyX K H v (.type (clsD d)) := by
  cases h with
  | non => exact .base .non
  | bl b => exact .base (.bl b)
  | int i => exact .base (.int i)
  | str x => exact .base (.str x)
  | lst h1 h2 =>
    rcases h1 with (h | ⟨o, h⟩) | ⟨o, its, n, e, c, _⟩
    · exact .base (.lst h)
    · exact .base (.frz h)
    · exact .kList e c
  | tup h1 h2 =>
    rcases h1 with (h | ⟨o, h⟩) | ⟨o, its, n, e, c, _⟩
    · exact .base (.tup h)
    · exact .fTuple h
    · exact .kTuple e c
  | emp h => exact .base (.dK h)
theorem isx_int {H : Hp} {v : V} {d : PyData} {Q : VK} (h : DpX K H v d) (q : Q (.bl (isInt d)) H) : rIsi K [v, .ty "int"] H Q := by
  refine ⟨v, _, _, _, isInt d, rfl, .ty _, h.ty, ?_, q⟩
  cases d <;> (simp only [clsD, isInt]; exact kit_ty (by decide +kernel))
theorem isx_bool {H : Hp} {v : V} {d : PyData} {Q : VK} (h : DpX K H v d) (q : Q (.bl (isBool d)) H) : rIsi K [v, .ty "bool"] H Q := by
  refine ⟨v, _, _, _, isBool d, rfl, .ty _, h.ty, ?_, q⟩
  cases d <;> (simp only [clsD, isBool]; exact kit_ty (by decide +kernel))
theorem isx_tup {H : Hp} {v : V} {d : PyData} {Q : VK} (h : DpX K H v d) (q : Q (.bl (isTup d)) H) : rIsi K [v, .ty "tuple"] H Q := by
  refine ⟨v, _, _, _, isTup d, rfl, .ty _, h.ty, ?_, q⟩
  cases d <;> (simp only [clsD, isTup]; exact kit_ty (by decide +kernel))
theorem ratioD_len : ∀ {ds : List PyData}, ds.length ≠ 2 → ratioD (.tuple ds) = false
  | [], _ => rfl
  | [x], _ => by cases x <;> rfl
  | [x, y], h => absurd rfl h
  | x :: y :: z :: r, _ => by cases x <;> first | rfl | (cases y <;> rfl)
theorem ratioD_one {x y : PyData} (h : wholeD x = false) : ratioD (.tuple [x, y]) = false := by
  cases x <;> first | rfl | cases h
theorem ratioD_two {x y : PyData} (h : wholeD y = false) : ratioD (.tuple [x, y]) = false := by
  cases x <;> first | rfl | (cases y <;> first | rfl | cases h)
theorem two_of {H : Hp} : ∀ {xs : List V} {ds : List PyData}, DpXAll K H xs ds → xs.length = 2 → ∃ u1 u2 d1 d2, xs = [u1, u2] ∧ ds = [d1, d2] ∧ DpX K H u1 d1 ∧ DpX K H u2 d2
  | [], _, _, h => by cases h
  | [_], _, _, h => by cases h
  | _ :: _ :: _ :: _, _, _, h => by simp at h
  | [u1, u2], [], h, _ => by cases h
  | [u1, u2], [d], h, _ => by
    cases h with
    | cons _ g => cases g
  | [u1, u2], d1 :: d2 :: r, h, _ => by
    cases h with
    | cons g1 g2 =>
      cases g2 with
      | cons g2 g3 =>
        cases g3
        exact ⟨u1, u2, d1, d2, rfl, rfl, g1, g2⟩
def spWhX (K : PySem.W.Frag) : Sp := fun vs H Q _ => ∃ (v : V) (d : PyData), vs = [v] ∧ DpX K H v d ∧ Q (.bl (wholeD d)) H
def spIrX (K : PySem.W.Frag) : Sp := fun vs H Q _ => ∃ (v : V) (d : PyData), vs = [v] ∧ DpX K H v d ∧ Q (.bl (ratioD d)) H
theorem ok_wh {f  : Addr} {fd  : FuncData} (F : Fun K "is_whole" "is_whole" s_wh f fd)
    (n_bool : mg "bool" = none) (n_int : mg "int" = none) (n_isinstance : mg "isinstance" = none) : FnOk P w K mg base CX0 1 f fd ["thing"] (spWhX K) := by
  refine F.ok sc_wh (fun vs H Q E h => ?_) (fun cdv A outer s H vs Q E hr h => ?_)
  · obtain ⟨_, _, rfl, _⟩ := h
    rfl
  · obtain ⟨v, d, rfl, hd, q⟩ := h
    refine ⟨_, (pss_one (ps_ret (pe_and (pe_callB call_isi (by rfl) n_isinstance (by decide +kernel) (pa_cons (pv 0) (pa_cons (pe_bltn (v := .ty "int") (by rfl) n_int (by decide +kernel) rfl) pa_nil))) (pe_one (pe_not (pe_callB call_isi (by rfl) n_isinstance (by decide +kernel) (pa_cons (pv 0) (pa_cons (pe_bltn (v := .ty "bool") (by rfl) n_bool (by decide +kernel) rfl) pa_nil)))))))), ?_⟩
    refine ⟨_, rfl, ?_⟩
    refine tcn_go ?_
    refine isx_int hd ?_
    refine ⟨_, rfl, ?_⟩
    refine ite2 (fun c => ?_) (fun c => ?_)
    · refine ⟨_, rfl, ?_⟩
      refine tcn_go ?_
      refine isx_bool hd ?_
      refine ⟨_, rfl, ?_⟩
      cases d <;> first | exact q | (simp [isInt] at c)
    · cases d <;> first | exact q | (exact absurd rfl c)
theorem ok_ir {f fWH fC : Addr} {fd fdWH fdC : FuncData} (F : Fun K "is_ratio" "is_ratio" s_ir f fd)
    (FWH : Fun K "is_whole" "is_whole" s_wh fWH fdWH) (bWH : Binds K fdWH ["thing"] []) (gWH : mg "is_whole" = some (.ref fWH)) (GWH : FnOk P w K mg base CX0 1 fWH fdWH ["thing"] (spWhX K))
    (FC : Fun K "common_divisor" "common_divisor" s_cd fC fdC) (bC : Binds K fdC ["one", "other"] []) (gC : mg "common_divisor" = some (.ref fC)) (GC : FnOk P w K mg base CX0 1 fC fdC ["one", "other"] spCd)
    (n_isinstance : mg "isinstance" = none) (n_len : mg "len" = none) (n_tuple : mg "tuple" = none) : FnOk P w K mg base CX0 2 f fd ["thing"] (spIrX K) := by
  refine F.ok sc_ir (fun vs H Q E h => ?_) (fun cdv A outer s H vs Q E hr h => ?_)
  · obtain ⟨_, _, rfl, _⟩ := h
    rfl
  · obtain ⟨v, d, rfl, hd, q⟩ := h
    refine ⟨_, (pss_cons (ps_if (PW.pt (pw_or (pt_not (pt_val (pe_callB call_isi (by rfl) n_isinstance (by decide +kernel) (pa_cons (pv 0) (pa_cons (pe_bltn (v := .ty "tuple") (by rfl) n_tuple (by decide +kernel) rfl) pa_nil))))) (pw_or1 (pt_cmpR op_ne (pe_callB call_lenN (by rfl) n_len PySem.boot_len (pa_cons (pv 0) pa_nil)) pe_int (nomark _))))) (pss_one (ps_ret pe_bl)) pss_nil)
      (pss_cons (ps_asg (pv 0) (pg_tup rfl (pgs_cons (pg_name (i := 1) sc_ir.nd rfl (.inl rfl)) (pgs_cons (pg_name (i := 2) sc_ir.nd rfl (.inl rfl)) pgs_nil))))
      (pss_cons (ps_if (PW.pt (pw_or (pt_not (pt_val (pe_call GWH hr (by rfl) gWH FWH.kp bWH .nil pass0 (pa_cons (pv 1) pa_nil)))) (pw_or1 (pt_not (pt_val (pe_call GWH hr (by rfl) gWH FWH.kp bWH .nil pass0 (pa_cons (pv 2) pa_nil))))))) (pss_one (ps_ret pe_bl)) pss_nil)
      (pss_one (ps_ret (pe_and (pe_cmpR op_ge (pv 2) pe_int (nomark _)) (pe_one (pe_cmpR op_eq (pe_call GC hr (by rfl) gC FC.kp bC .nil pass0 (pa_cons (pv 1) (pa_cons (pv 2) pa_nil))) pe_int (nomark _))))))))), ?_⟩
    refine ⟨_, rfl, ?_⟩
    refine tcn_go ?_
    refine isx_tup hd ?_
    refine ⟨_, rfl, ?_⟩
    by_cases ht : isTup d = true
    · obtain ⟨ds, rfl⟩ : ∃ ds, d = .tuple ds := by cases d <;> first | exact ⟨_, rfl⟩ | cases ht
      cases hd with
      | @tup p xs _ h1 h2 =>
        have hl := h2.len
        refine iteF ?_
        refine ⟨_, rfl, ?_⟩
        refine tnil_go ?_
        refine ⟨p, _, rfl, .inr h1, ?_⟩
        refine tC_go ?_
        refine ⟨rfl, _, rfl, ?_⟩
        refine ite2 (fun c => ?_) (fun c => ?_)
        · have hn : ds.length ≠ 2 := fun z => by
            rw [hl, z] at c
            exact absurd c (by decide)
          show Q (.bl false) H
          rw [ratioD_len hn] at q
          exact q
        · have hn : xs.length = 2 := by
            rcases Classical.em (xs.length = 2) with z | z
            · exact z
            · exact absurd (show (!decide (V.int (xs.length : Int) = V.int 2)) = true by
                rw [decide_eq_false (fun y => z (by have := V.int.inj y; omega))]
                rfl) c
          obtain ⟨u1, u2, d1, d2, rfl, rfl, g1, g2⟩ := two_of h2 hn
          clear h2 hl hn c ht
          refine ⟨_, rfl, p, _, rfl, h1, rfl, _, _, rfl, _, _, rfl, rfl, ?_⟩
          refine ⟨_, rfl, u1, d1, rfl, g1, _, rfl, ?_⟩
          by_cases w1 : wholeD d1 = true
          · obtain ⟨x, rfl⟩ : ∃ x, d1 = .int x := by cases d1 <;> first | exact ⟨_, rfl⟩ | cases w1
            refine iteF ?_
            refine ⟨_, rfl, u2, d2, rfl, g2, _, rfl, ?_⟩
            by_cases w2 : wholeD d2 = true
            · obtain ⟨y, rfl⟩ : ∃ y, d2 = .int y := by cases d2 <;> first | exact ⟨_, rfl⟩ | cases w2
              cases g1
              cases g2
              refine iteF ?_
              refine ⟨_, rfl, _, _, rfl, rfl, _, rfl, ?_⟩
              refine ite2 (fun c1 => ?_) (fun c1 => ?_)
              · refine ⟨_, rfl, _, rfl, _, _, rfl, ?_⟩
                refine tC_go ?_
                refine ⟨rfl, ?_⟩
                show Q (.bl (decide (V.int ((Int.gcd x y : Nat) : Int) = V.int 1))) H
                have e : ratioD (.tuple [.int x, .int y]) = decide (V.int ((Int.gcd x y : Nat) : Int) = V.int 1) := by
                  show (decide (1 ≤ y) && decide (Int.gcd x y = 1)) = _
                  rw [c1, Bool.true_and, Bool.eq_iff_iff, decide_eq_true_eq, decide_eq_true_eq]
                  exact ⟨fun z => by rw [z]; rfl, fun z => by have := V.int.inj z; omega⟩
                rw [← e]
                exact q
              · have e : ratioD (.tuple [.int x, .int y]) = false := by
                  show (decide (1 ≤ y) && decide (Int.gcd x y = 1)) = _
                  rw [show decide (1 ≤ y) = false from Bool.eq_false_iff.mpr c1, Bool.false_and]
                rw [e] at q
                exact q
            · rw [Bool.not_eq_true] at w2
              rw [w2]
              refine iteT ?_
              rw [ratioD_two w2] at q
              exact q
          · rw [Bool.not_eq_true] at w1
            rw [w1]
            refine iteT ?_
            refine iteT ?_
            rw [ratioD_one w1] at q
            exact q
    · rw [Bool.not_eq_true] at ht
      rw [ht]
      refine iteT ?_
      refine iteT ?_
      have e : ratioD d = false := by cases d <;> first | rfl | cases ht
      rw [e] at q
      exact q
end

end Fp

set_option Elab.async false
set_option linter.all false
set_option maxRecDepth 100000
set_option maxHeartbeats 4000000
set_option exponentiation.threshold 10000
namespace Fp
open PySem PySem.Spec PyProof.Rows L2
/-! ### the law's own words for it -/
abbrev s_lwh : Stmt := topS 49
abbrev N_lwh : List Str := ["_law_thing"]
theorem sc_lwh : FnScope N_lwh ["_law_thing"] (defScope s_lwh) := ⟨rfl, rfl, rfl, by decide +kernel, rfl, by decide +kernel, by decide +kernel⟩
abbrev s_lir : Stmt := topS 50
abbrev N_lir : List Str := ["_law_thing"]
theorem sc_lir : FnScope N_lir ["_law_thing"] (defScope s_lir) := ⟨rfl, rfl, rfl, by decide +kernel, rfl, by decide +kernel, by decide +kernel⟩
section
variable {P : Program} {w : World} {K : PySem.W.Frag} {mg : Str → Option Value} {base : Heap}
theorem low_self {x y : Int} (hy : 0 < y) : decide (low2 x y = (x, y)) = decide (Int.gcd x y = 1) := by
  rw [Bool.eq_iff_iff, decide_eq_true_eq, decide_eq_true_eq]
  constructor
  · intro z
    have r := low2_red (t := x) (Int.ne_of_gt hy)
    rw [z] at r
    exact r.2
  · intro z
    exact qv_inj (low2_red (Int.ne_of_gt hy)) ⟨hy, z⟩ (qv_low2 hy)
def spLirX (K : PySem.W.Frag) : Sp := fun vs H Q _ => ∃ (v : V) (d : PyData), vs = [v] ∧ DpX K H v d ∧ (∀ x y, d = .tuple [.int x, .int y] → Sm 8000 y) ∧ ∀ H', Same H H' → Q (.bl (ratioD d)) H'
theorem ok_lwh {f  : Addr} {fd  : FuncData} (F : Fun K "_law_is_whole" "_law_is_whole" s_lwh f fd)
    (n_bool : mg "bool" = none) (n_int : mg "int" = none) (n_isinstance : mg "isinstance" = none) : FnOk P w K mg base CX0 1 f fd ["_law_thing"] (spWhX K) := by
  refine F.ok sc_lwh (fun vs H Q E h => ?_) (fun cdv A outer s H vs Q E hr h => ?_)
  · obtain ⟨_, _, rfl, _⟩ := h
    rfl
  · obtain ⟨v, d, rfl, hd, q⟩ := h
    refine ⟨_, (pss_one (ps_ret (pe_and (pe_callB call_isi (by rfl) n_isinstance (by decide +kernel) (pa_cons (pv 0) (pa_cons (pe_bltn (v := .ty "int") (by rfl) n_int (by decide +kernel) rfl) pa_nil))) (pe_one (pe_not (pe_callB call_isi (by rfl) n_isinstance (by decide +kernel) (pa_cons (pv 0) (pa_cons (pe_bltn (v := .ty "bool") (by rfl) n_bool (by decide +kernel) rfl) pa_nil)))))))), ?_⟩
    refine ⟨_, rfl, ?_⟩
    refine tcn_go ?_
    refine isx_int hd ?_
    refine ⟨_, rfl, ?_⟩
    refine ite2 (fun c => ?_) (fun c => ?_)
    · refine ⟨_, rfl, ?_⟩
      refine tcn_go ?_
      refine isx_bool hd ?_
      refine ⟨_, rfl, ?_⟩
      cases d <;> first | exact q | (simp [isInt] at c)
    · cases d <;> first | exact q | (exact absurd rfl c)
theorem ok_lir {f fLW fL : Addr} {fd fdLW fdL : FuncData} (F : Fun K "_law_is_ratio" "_law_is_ratio" s_lir f fd)
    (FLW : Fun K "_law_is_whole" "_law_is_whole" s_lwh fLW fdLW) (bLW : Binds K fdLW ["_law_thing"] []) (gLW : mg "_law_is_whole" = some (.ref fLW)) (GLW : FnOk P w K mg base CX0 1 fLW fdLW ["_law_thing"] (spWhX K))
    (FL : Fun K "_law_low" "_law_low" s_low fL fdL) (bL : Binds K fdL ["_law_top", "_law_bottom"] []) (gL : mg "_law_low" = some (.ref fL)) (GL : FnOk P w K mg base CX0 1 fL fdL ["_law_top", "_law_bottom"] spLow)
    (n_isinstance : mg "isinstance" = none) (n_len : mg "len" = none) (n_tuple : mg "tuple" = none) : FnOk P w K mg base CX0 2 f fd ["_law_thing"] (spLirX K) := by
  refine F.ok sc_lir (fun vs H Q E h => ?_) (fun cdv A outer s H vs Q E hr h => ?_)
  · obtain ⟨_, _, rfl, _⟩ := h
    rfl
  · obtain ⟨v, d, rfl, hd, hsm, q⟩ := h
    refine ⟨_, (pss_cons (ps_if (PW.pt (pw_or (pt_not (pt_val (pe_callB call_isi (by rfl) n_isinstance (by decide +kernel) (pa_cons (pv 0) (pa_cons (pe_bltn (v := .ty "tuple") (by rfl) n_tuple (by decide +kernel) rfl) pa_nil))))) (pw_or1 (pt_cmpR op_ne (pe_callB call_lenN (by rfl) n_len PySem.boot_len (pa_cons (pv 0) pa_nil)) pe_int (nomark _))))) (pss_one (ps_ret pe_bl)) pss_nil)
      (pss_cons (ps_if (PW.pt (pw_or (pt_not (pt_val (pe_call GLW hr (by rfl) gLW FLW.kp bLW .nil pass0 (pa_cons (pe_ix ix_tup (pv 0) pe_int (fun _ _ => rfl)) pa_nil)))) (pw_or1 (pt_not (pt_val (pe_call GLW hr (by rfl) gLW FLW.kp bLW .nil pass0 (pa_cons (pe_ix ix_tup (pv 0) pe_int (fun _ _ => rfl)) pa_nil))))))) (pss_one (ps_ret pe_bl)) pss_nil)
      (pss_one (ps_ret (pe_and (pe_cmpR op_gt (pe_ix ix_tup (pv 0) pe_int (fun _ _ => rfl)) pe_int (nomark _)) (pe_one (pe_cmpR (op_eqD hr.units) (pe_call GL hr (by rfl) gL FL.kp bL .nil pass0 (pa_cons (pe_ix ix_tup (pv 0) pe_int (fun _ _ => rfl)) (pa_cons (pe_ix ix_tup (pv 0) pe_int (fun _ _ => rfl)) pa_nil))) (pv 0) (nomark _)))))))), ?_⟩
    refine ⟨_, rfl, ?_⟩
    refine tcn_go ?_
    refine isx_tup hd ?_
    refine ⟨_, rfl, ?_⟩
    by_cases ht : isTup d = true
    · obtain ⟨ds, rfl⟩ : ∃ ds, d = .tuple ds := by cases d <;> first | exact ⟨_, rfl⟩ | cases ht
      cases hd with
      | @tup p xs _ h1 h2 =>
        have hl := h2.len
        refine iteF ?_
        refine ⟨_, rfl, ?_⟩
        refine tnil_go ?_
        refine ⟨p, _, rfl, .inr h1, ?_⟩
        refine tC_go ?_
        refine ⟨rfl, _, rfl, ?_⟩
        refine ite2 (fun c => ?_) (fun c => ?_)
        · have hn : ds.length ≠ 2 := fun z => by
            rw [hl, z] at c
            exact absurd c (by decide)
          have q0 := q H (Same.refl H)
          rw [ratioD_len hn] at q0
          exact q0
        · have hn : xs.length = 2 := by
            rcases Classical.em (xs.length = 2) with z | z
            · exact z
            · exact absurd (show (!decide (V.int (xs.length : Int) = V.int 2)) = true by
                rw [decide_eq_false (fun y => z (by have := V.int.inj y; omega))]
                rfl) c
          obtain ⟨u1, u2, d1, d2, rfl, rfl, g1, g2⟩ := two_of h2 hn
          clear h2 hl hn c ht
          refine ⟨_, rfl, p, _, _, _, rfl, rfl, h1, at_of (j := 0) rfl rfl, ?_⟩
          refine tnil_go ?_
          refine ⟨u1, d1, rfl, g1, _, rfl, ?_⟩
          by_cases w1 : wholeD d1 = true
          · obtain ⟨x, rfl⟩ : ∃ x, d1 = .int x := by cases d1 <;> first | exact ⟨_, rfl⟩ | cases w1
            refine iteF ?_
            refine ⟨_, rfl, p, _, _, _, rfl, rfl, h1, at_of (j := 1) rfl rfl, ?_⟩
            refine tnil_go ?_
            refine ⟨u2, d2, rfl, g2, _, rfl, ?_⟩
            by_cases w2 : wholeD d2 = true
            · obtain ⟨y, rfl⟩ : ∃ y, d2 = .int y := by cases d2 <;> first | exact ⟨_, rfl⟩ | cases w2
              cases g1
              cases g2
              refine iteF ?_
              refine ⟨_, rfl, p, _, _, _, rfl, rfl, h1, at_of (j := 1) rfl rfl, ?_⟩
              refine ⟨_, _, rfl, rfl, _, rfl, ?_⟩
              refine ite2 (fun c1 => ?_) (fun c1 => ?_)
              · have hy : 0 < y := of_decide_eq_true c1
                refine ⟨_, rfl, p, _, _, _, rfl, rfl, h1, at_of (j := 0) rfl rfl, ?_⟩
                refine ⟨_, rfl, p, _, _, _, rfl, rfl, h1, at_of (j := 1) rfl rfl, ?_⟩
                refine tnil_go ?_
                refine ⟨x, y, rfl, hy, hsm x y rfl, fun r nr => ?_⟩
                have gr := same_new (o := HO.tup [.int (ratT x y), .int (ratB x y)]) nr
                refine ⟨_, rfl, ?_⟩
                have e1 : RAt K (upd H r (.tup [.int (ratT x y), .int (ratB x y)])) r (low2 x y) := SqT.of upd_same
                have e2 : RAt K (upd H r (.tup [.int (ratT x y), .int (ratB x y)])) p (x, y) := sqT_same gr h1
                refine eq_rat e1 e2 ?_
                have e : ratioD (.tuple [.int x, .int y]) = decide (low2 x y = (x, y)) := by
                  show (decide (1 ≤ y) && decide (Int.gcd x y = 1)) = _
                  rw [low_self hy, show decide (1 ≤ y) = true from decide_eq_true hy, Bool.true_and]
                rw [← e]
                exact q _ gr
              · have q0 := q H (Same.refl H)
                have e : ratioD (.tuple [.int x, .int y]) = false := by
                  show (decide (1 ≤ y) && decide (Int.gcd x y = 1)) = _
                  rw [show decide (1 ≤ y) = false from Bool.eq_false_iff.mpr c1, Bool.false_and]
                rw [e] at q0
                exact q0
            · rw [Bool.not_eq_true] at w2
              rw [w2]
              refine iteT ?_
              have q0 := q H (Same.refl H)
              rw [ratioD_two w2] at q0
              exact q0
          · rw [Bool.not_eq_true] at w1
            rw [w1]
            refine iteT ?_
            refine iteT ?_
            have q0 := q H (Same.refl H)
            rw [ratioD_one w1] at q0
            exact q0
    · rw [Bool.not_eq_true] at ht
      rw [ht]
      refine iteT ?_
      refine iteT ?_
      have e : ratioD d = false := by cases d <;> first | rfl | cases ht
      have q0 := q H (Same.refl H)
      rw [e] at q0
      exact q0
end

end Fp

set_option Elab.async false
set_option linter.all false
set_option maxRecDepth 100000
set_option maxHeartbeats 4000000
set_option exponentiation.threshold 10000
namespace Fp
open PySem PySem.Spec PyProof.Rows L2
/-! ### what a chance is: of anything -/
abbrev s_ib : Stmt := topS 20
abbrev N_ib : List Str := ["one", "other"]
theorem sc_ib : FnScope N_ib ["one", "other"] (defScope s_ib) := ⟨rfl, rfl, rfl, by decide +kernel, rfl, by decide +kernel, by decide +kernel⟩
section
variable {P : Program} {w : World} {K : PySem.W.Frag} {mg : Str → Option Value} {base : Heap}
def chanceD : PyData → Bool
  | .tuple [.int a, .int b] => ratioD (.tuple [.int a, .int b]) && (decide (0 ≤ a) && decide (a ≤ b))
  | _ => false
theorem ratioD_inv : ∀ {d : PyData}, ratioD d = true → ∃ a b : Int, d = .tuple [.int a, .int b] ∧ Red (a, b)
  | .tuple [.int a, .int b], h => by
    have h2 : (decide (1 ≤ b) && decide (Int.gcd a b = 1)) = true := h
    rw [Bool.and_eq_true, decide_eq_true_eq, decide_eq_true_eq] at h2
    exact ⟨a, b, rfl, by show 0 < b; omega, h2.2⟩
  | .tuple [], h => by cases h
  | .tuple [x], h => by cases x <;> cases h
  | .tuple (x :: y :: z :: r), h => by rw [ratioD_len (by simp)] at h; cases h
  | .tuple [.none, y], h => by cases h
  | .tuple [.bool _, y], h => by cases h
  | .tuple [.str _, y], h => by cases h
  | .tuple [.list _, y], h => by cases h
  | .tuple [.tuple _, y], h => by cases h
  | .tuple [.dict _, y], h => by cases h
  | .tuple [.int _, .none], h => by cases h
  | .tuple [.int _, .bool _], h => by cases h
  | .tuple [.int _, .str _], h => by cases h
  | .tuple [.int _, .list _], h => by cases h
  | .tuple [.int _, .tuple _], h => by cases h
  | .tuple [.int _, .dict _], h => by cases h
  | .none, h => by cases h
  | .bool _, h => by cases h
  | .int _, h => by cases h
  | .str _, h => by cases h
  | .list _, h => by cases h
  | .dict _, h => by cases h
theorem ratioD_red {a b : Int} (h : Red (a, b)) : ratioD (.tuple [.int a, .int b]) = true := by
  show (decide (1 ≤ b) && decide (Int.gcd a b = 1)) = true
  rw [Bool.and_eq_true, decide_eq_true_eq, decide_eq_true_eq]
  exact ⟨h.1, h.2⟩
theorem chanceD_inv {d : PyData} (h : chanceD d = true) : ∃ x : RT, d = ratD x ∧ Red x ∧ 0 ≤ x.1 ∧ x.1 ≤ x.2 := by
  by_cases hr : ratioD d = true
  · obtain ⟨a, b, rfl, r⟩ := ratioD_inv hr
    have h2 : (ratioD (.tuple [.int a, .int b]) && (decide (0 ≤ a) && decide (a ≤ b))) = true := h
    rw [Bool.and_eq_true, Bool.and_eq_true, decide_eq_true_eq, decide_eq_true_eq] at h2
    exact ⟨(a, b), rfl, r, h2.2.1, h2.2.2⟩
  · exfalso
    unfold chanceD at h
    split at h
    · rw [Bool.and_eq_true] at h
      exact hr h.1
    · cases h
theorem chanceD_rat {x : RT} (r : Red x) (h0 : 0 ≤ x.1) (h1 : x.1 ≤ x.2) : chanceD (ratD x) = true := by
  show (ratioD (.tuple [.int x.1, .int x.2]) && (decide (0 ≤ x.1) && decide (x.1 ≤ x.2))) = true
  rw [ratioD_red r, decide_eq_true h0, decide_eq_true h1]
  rfl
theorem chanceD_no {d : PyData} (h : ratioD d = false) : chanceD d = false := by
  unfold chanceD
  split
  · rw [h]
    rfl
  · rfl
theorem two_ints {H : Hp} {v : V} {a b : Int} (h : DpX K H v (.tuple [.int a, .int b])) : ∃ p, v = .ref p ∧ RAt K H p (a, b) := by
  cases h with
  | @tup p xs _ h1 h2 =>
    cases h2 with
    | cons g1 g2 =>
      cases g2 with
      | cons g2 g3 =>
        cases g3
        cases g1
        cases g2
        exact ⟨p, rfl, h1⟩
theorem DpX.rat {H : Hp} {v : V} {x : RT} (h : DpX K H v (ratD x)) : ∃ p, v = .ref p ∧ RAt K H p x := two_ints h
def spIcX (K : PySem.W.Frag) : Sp := fun vs H Q _ => ∃ (v : V) (d : PyData), vs = [v] ∧ DpX K H v d ∧ Q (.bl (chanceD d)) H
def spLicX (K : PySem.W.Frag) : Sp := fun vs H Q _ => ∃ (v : V) (d : PyData), vs = [v] ∧ DpX K H v d ∧ (∀ x y, d = .tuple [.int x, .int y] → Sm 8000 y) ∧ ∀ H', Same H H' → Q (.bl (chanceD d)) H'
def spIb (K : PySem.W.Frag) : Sp := fun vs H Q _ => ∃ (p q : Addr) (x y : RT), vs = [.ref p, .ref q] ∧ RAt K H p x ∧ RAt K H q y ∧ Sm 4000 x.1 ∧ Sm 4000 x.2 ∧ Sm 4000 y.1 ∧ Sm 4000 y.2 ∧ Q (.bl (decide (x.1 * y.2 < y.1 * x.2))) H
theorem ok_ib {f  : Addr} {fd  : FuncData} (F : Fun K "is_below" "is_below" s_ib f fd)
    : FnOk P w K mg base CX0 1 f fd ["one", "other"] (spIb K) := by
  refine F.ok sc_ib (fun vs H Q E h => ?_) (fun cdv A outer s H vs Q E hr h => ?_)
  · obtain ⟨_, _, _, _, rfl, _⟩ := h
    rfl
  · obtain ⟨p, r, x, y, rfl, h1, h2, a1, a2, b1, b2, q⟩ := h
    refine ⟨_, (pss_one (ps_ret (pe_cmpR op_lt (pe_op op_mulA (pe_ix ix_tup (pv 0) pe_int (fun _ _ => rfl)) (pe_ix ix_tup (pv 1) pe_int (fun _ _ => rfl))) (pe_op op_mulA (pe_ix ix_tup (pv 1) pe_int (fun _ _ => rfl)) (pe_ix ix_tup (pv 0) pe_int (fun _ _ => rfl))) (nomark _)))), ?_⟩
    refine ⟨_, rfl, p, _, _, _, rfl, rfl, h1, at_of (j := 0) rfl rfl, ?_⟩
    refine ⟨_, rfl, r, _, _, _, rfl, rfl, h2, at_of (j := 1) rfl rfl, ?_⟩
    refine ⟨_, _, rfl, rfl, a1.cmul b2 (by decide) (by decide) (by decide), ?_⟩
    refine ⟨_, rfl, r, _, _, _, rfl, rfl, h2, at_of (j := 0) rfl rfl, ?_⟩
    refine ⟨_, rfl, p, _, _, _, rfl, rfl, h1, at_of (j := 1) rfl rfl, ?_⟩
    refine ⟨_, _, rfl, rfl, b1.cmul a2 (by decide) (by decide) (by decide), ?_⟩
    exact ⟨_, _, rfl, rfl, q⟩
end

end Fp

set_option Elab.async false
set_option linter.all false
set_option maxRecDepth 100000
set_option maxHeartbeats 4000000
set_option exponentiation.threshold 10000
namespace Fp
open PySem PySem.Spec PyProof.Rows L2
/-! ### comprehensions of things told by their data -/
theorem tcons_go {te : TE} {ta : TA} {σ : L2.St} {H : Hp} {k : List V → Hp → Prop} (h : te σ H fun x H1 => ta σ H1 fun vs H2 => k (x :: vs) H2) : tCons te ta σ H k := h
theorem top_go {r : R2} {te tu : TE} {σ : L2.St} {H : Hp} {k : VK} (h : te σ H fun x H1 => tu σ H1 fun y H2 => r x y H2 k) : tOp r te tu σ H k := h
theorem gn_go {i : Nat} {v : V} {σ : L2.St} {H : Hp} {k : L2.St → Hp → Prop} (h : k (σ.set i (some v)) H) : gName i v σ H k := h
section
variable {K : PySem.W.Frag} {H H' : Hp} {A B : Addr → Prop}
theorem hid_sub (h : ∀ a, A a → B a) : Same (hid B H) (hid A H) := fun _ _ e => hid_mk (fun z => (hid_some e).1 (h _ z)) (hid_some e).2
theorem DA.sub {v : V} {d : PyData} (h : DA K B H v d) (s : ∀ a, A a → B a) : DA K A H v d := DpX.same h (hid_sub s)
theorem DAs.sub {vs : List V} {ds : List PyData} (h : DAs K B H vs ds) (s : ∀ a, A a → B a) : DAs K A H vs ds := DpXAll.same h (hid_sub s)
theorem lc_DA {J : It} {n : Nat} {G : Hp → Prop} {Y : Nat → Hp → V → Hp → Prop} (w : Walk J n G Y) {g : TG} {te : TE} {vs : List Nat} {σ : L2.St} {H1 : Hp} (dA : Dom A H1) (f : Nat → PyData) (hn : n ≤ 900) (hG : ∀ HE, Same H1 HE → G HE)
    (hs : ∀ (B : Addr → Prop) (k : Nat) (x : V) (HE HE' : Hp) (R : VK), k < n → Same H1 HE → (∀ a, A a → B a) → Dom B HE → Y k HE x HE' → (∀ v HF, Same HE HF → DA K B HF v (f k) → R v HF) → g x (wipe σ vs) HE' fun σ2 H2 => wipe σ2 vs = wipe σ vs ∧ te σ2 H2 R)
    {Qd : Addr → Hp → Prop} (hd : ∀ D us H2, Same H1 H2 → ¬ A D → H2 D = some (.lst us) → DAs K A H2 us ((List.range n).map f) → Qd D H2) : tLc (fun _ H2 R => R J H2) g tYes te vs σ H1 (refQ Qd) := by
  intro D nD
  have e1 := same_new (o := HO.lst []) nD
  have hAD := dA.new nD
  refine lc_it w (fun k HE => Same H1 HE ∧ ∃ us, HE D = some (.lst us) ∧ DAs K (fun a => A a ∨ a = D) HE us ((List.range k).map f)) ⟨e1, [], upd_same, .nil⟩ ?_ ?_ ?_
  · rintro i HE _ ⟨sE, _⟩
    exact hG HE sE
  · rintro k x HE HE' hk ⟨sE, us, hE, hU⟩ hY
    have dB : Dom (fun a => A a ∨ a = D) HE := fun a z => by
      rcases z with z | z
      · exact (dA.same sE) a z
      · rw [z, hE]
        exact fun y => nomatch y
    refine hs (fun a => A a ∨ a = D) k x HE HE' _ hk sE (fun a z => .inl z) dB hY fun v HF sF hv => ?_
    have hl := hU.len
    rw [List.length_map, List.length_range] at hl
    refine ⟨_, sF _ _ hE, by rw [hl]; exact small1000 (by omega), ?_, us ++ [v], upd_same, ?_⟩
    · intro b2 o hb2
      rw [upd_ne (ne_of_none hb2 nD)]
      exact (sE.trans sF) _ _ hb2
    · rw [List.range_succ, List.map_append]
      exact ((hU.same sF).app (.cons hv .nil)).wr (.inr rfl)
  · rintro HE ⟨sE, us, hE, hU⟩
    exact hd D us HE sE hAD hE (hU.sub fun a z => .inl z)
/-- tuple(xs) of a new list told by its data -/
theorem tupD {D : Addr} {us : List V} {ds : List PyData} {Q : VK} (dA : Dom A H) (h : H D = some (.lst us)) (g : DAs K A H us ds) (q : ∀ v H', Same H H' → DA K A H' v (.tuple ds) → Q v H') :
    rTupl K [.ref D] H Q :=
  ⟨D, us, rfl, .inl ⟨SqL.of h, fun p np => q _ _ (same_new np) (.tupN dA np g)⟩⟩
theorem LifeAt.dx {p : Addr} {row : List RT} {step : RT} (h : LifeAt K H p row step) : DpX K H (.ref p) (lifeD row step) := .ofD h.dp
theorem RowAt.dx {p : Addr} {row : List RT} (h : RowAt K H p row) : DpX K H (.ref p) (.tuple (rowD row)) := .ofD h.dp
theorem RAt.dx {p : Addr} {x : RT} (h : RAt K H p x) : DpX K H (.ref p) (ratD x) := .ofD h.dp
theorem Bk.rat {b l k n : Nat} {x : RT} (h : SmR n x) (hn : n ≤ b) (hl : 2 ≤ l) (hk : 1 ≤ k) : Bk b l 2 k (ratD x) := by
  obtain ⟨j, rfl⟩ : ∃ j, k = j + 1 := ⟨k - 1, by omega⟩
  exact (Bks.cons (Bk.int (h.2.1.mono hn)) (Bks.cons (Bk.int (h.2.2.mono hn)) Bks.nil)).tup (by show 2 ≤ _; omega)
theorem Bks.row {b l k n : Nat} (hn : n ≤ b) (hl : 2 ≤ l) (hk : 1 ≤ k) : ∀ {xs : List RT}, (∀ x ∈ xs, SmR n x) → Bks b l (3 * xs.length) k (rowD xs)
  | [], _ => Bks.nil
  | x :: r, h => (Bks.cons (Bk.rat (h x (List.mem_cons_self ..)) hn hl hk) (Bks.row hn hl hk fun y hy => h y (List.mem_cons_of_mem _ hy))).mono (Nat.le_refl _) (Nat.le_refl _) (by rw [List.length_cons]; omega) (Nat.le_refl _)
theorem rowD_len2 (xs : List RT) : (rowD xs).length = xs.length := by
  induction xs with
  | nil => rfl
  | cons x r ih => show (rowD r).length + 1 = r.length + 1; rw [ih]
theorem Bk.life {b l n m : Nat} {row : List RT} {step : RT} (h : ∀ x ∈ row, SmR n x) (hs : SmR m step) (hn : n ≤ b) (hm : m ≤ b) (hl : row.length ≤ l) (hl2 : 2 ≤ l) : Bk b l (3 * row.length + 4) 3 (lifeD row step) := by
  have h1 := (Bks.row (k := 1) hn hl2 (Nat.le_refl _) h).tup (by rw [rowD_len2]; exact hl)
  exact ((Bks.cons h1 (Bks.cons (Bk.rat hs hm hl2 (by decide)) Bks.nil)).tup hl2).mono (Nat.le_refl _) (Nat.le_refl _) (by omega) (Nat.le_refl _)
theorem Bks.all {b l c k : Nat} : ∀ {ds : List PyData}, (∀ d ∈ ds, Bk b l c k d) → Bks b l ((c + 1) * ds.length) k ds
  | [], _ => Bks.nil
  | d :: r, h => (Bks.cons (h d (List.mem_cons_self ..)) (Bks.all fun y hy => h y (List.mem_cons_of_mem _ hy))).mono (Nat.le_refl _) (Nat.le_refl _) (by rw [List.length_cons, Nat.mul_add]; omega) (Nat.le_refl _)
theorem DpXAll.rep {v : V} {e : PyData} (h : DpX K H v e) : ∀ n : Nat, DpXAll K H (List.replicate n [v]).flatten (List.replicate n e)
  | 0 => .nil
  | n + 1 => by
    rw [List.replicate_succ, List.flatten_cons, List.replicate_succ]
    exact .cons h (DpXAll.rep h n)
/-- (e,) * n -/
theorem repD {v : V} {e : PyData} {n : Nat} {Q : VK} (dA : Dom A H) (h : DA K A H v (.tuple [e])) (h0 : 2 ≤ n) (h1 : n ≤ 1000) (q : ∀ w H', Same H H' → DA K A H' w (.tuple (List.replicate n e)) → Q w H') : rRepA K v (.int (n : Int)) H Q := by
  obtain ⟨a, xs, rfl, h2, h3⟩ := h.tupE
  unfold DAs at h3
  cases h3 with
  | @cons u us _ _ g1 g2 =>
    cases g2
    refine ⟨a, (n : Int), [u], rfl, rfl, h2, by simp, by omega, by omega, by show 1 ≤ 1000; decide, fun z => absurd z (by omega), fun _ p np => ?_⟩
    rw [Int.toNat_natCast]
    exact q _ _ (same_new np) (.tupN dA np (DpXAll.rep g1 n))
theorem repDz {v : V} {e : PyData} {n : Nat} {z : Int} {Q : VK} (hz : z = (n : Int)) (h : DA K (fun _ => False) H v (.tuple [e])) (h0 : 2 ≤ n) (h1 : n ≤ 1000) (q : ∀ w H', Same H H' → DA K (fun _ => False) H' w (.tuple (List.replicate n e)) → Q w H') : rRepA K v (.int z) H Q := by
  rw [hz]
  exact repD .no h h0 h1 q
end

end Fp

set_option Elab.async false
set_option linter.all false
set_option maxRecDepth 100000
set_option maxHeartbeats 4000000
set_option exponentiation.threshold 10000
namespace Fp
open PySem PySem.Spec PyProof.Rows L2
/-! ### lists of truths -/
section
variable {K : PySem.W.Frag}
/-- a comprehension each turn of which gives a value told by its turn -/
theorem lc_val {J : It} {n : Nat} {G : Hp → Prop} {Y : Nat → Hp → V → Hp → Prop} (w : Walk J n G Y) {g : TG} {te : TE} {vs : List Nat} {σ : L2.St} {H1 : Hp} (f : Nat → V) (hn : n ≤ 900) (hG : ∀ HE, Same H1 HE → G HE)
    (hs : ∀ (k : Nat) (x : V) (HE HE' : Hp) (R : VK), k < n → Same H1 HE → Y k HE x HE' → (∀ HF, Same HE HF → R (f k) HF) → g x (wipe σ vs) HE' fun σ2 H2 => wipe σ2 vs = wipe σ vs ∧ te σ2 H2 R)
    {Qd : Addr → Hp → Prop} (hd : ∀ D H2, Same H1 H2 → H2 D = some (.lst ((List.range n).map f)) → Qd D H2) : tLc (fun _ H2 R => R J H2) g tYes te vs σ H1 (refQ Qd) := by
  intro D nD
  have e1 := same_new (o := HO.lst []) nD
  refine lc_it w (fun k HE => Same H1 HE ∧ HE D = some (.lst ((List.range k).map f))) ⟨e1, upd_same⟩ ?_ ?_ ?_
  · rintro i HE _ ⟨sE, _⟩
    exact hG HE sE
  · rintro k x HE HE' hk ⟨sE, hE⟩ hY
    refine hs k x HE HE' _ hk sE hY fun HF sF => ?_
    refine ⟨_, sF _ _ hE, by rw [List.length_map, List.length_range]; exact small1000 (by omega), ?_, ?_⟩
    · intro b2 o hb2
      rw [upd_ne (ne_of_none hb2 nD)]
      exact (sE.trans sF) _ _ hb2
    · rw [upd_same, List.range_succ, List.map_append]
      rfl
  · rintro HE ⟨sE, hE⟩
    exact hd D HE sE hE
end
theorem in_bools {bs : List Bool} : inV (.bl false) (bs.map V.bl) = !(bs.all id) := by
  induction bs with
  | nil => rfl
  | cons b r ih =>
    show (eqV (.bl b) (.bl false) || inV (.bl false) (r.map V.bl)) = !(b && r.all id)
    rw [ih]
    cases b <;> rfl
theorem range_bools (bs : List Bool) : (List.range bs.length).map (fun k => V.bl (bs.getD k false)) = bs.map V.bl := by
  refine List.ext_getElem? fun i => ?_
  rw [List.getElem?_map, List.getElem?_map]
  by_cases h : i < bs.length
  · rw [List.getElem?_range h, List.getElem?_eq_getElem h]
    show some (V.bl (bs.getD i false)) = some (V.bl bs[i])
    rw [List.getD_eq_getElem?_getD, List.getElem?_eq_getElem h]
    rfl
  · rw [List.getElem?_eq_none (by rw [List.length_range]; omega), List.getElem?_eq_none (by omega)]
    rfl

end Fp

set_option Elab.async false
set_option linter.all false
set_option maxRecDepth 100000
set_option maxHeartbeats 4000000
set_option exponentiation.threshold 10000
namespace Fp
open PySem PySem.Spec PyProof.Rows L2
/-! ### all ways, rising: what they are -/
def fwGo (a : Nat → Rat) (T : Nat → List (List Int)) (n j : Nat) : List (List Int) := if a j = 0 then [] else (T (n - 1 - j)).map fun y => ((j : Int) + 1) :: y
def fwT (a : Nat → Rat) : Nat → List (List (List Int))
  | 0 => [[[]]]
  | n + 1 => fwT a n ++ [(List.range (n + 1)).flatMap (fwGo a (fun i => (fwT a n)[i]?.getD []) (n + 1))]
theorem fwT_len (a : Nat → Rat) : ∀ n, (fwT a n).length = n + 1
  | 0 => rfl
  | n + 1 => by
    show (fwT a n ++ [_]).length = _
    rw [List.length_append, fwT_len a n]
    rfl
def fw (a : Nat → Rat) (n : Nat) : List (List Int) := (fwT a n)[n]?.getD []
theorem fwT_at (a : Nat → Rat) : ∀ {n j : Nat}, j ≤ n → (fwT a n)[j]? = (fwT a j)[j]?
  | 0, j, h => by
    have e : j = 0 := by omega
    rw [e]
  | n + 1, j, h => by
    rcases (by omega : j ≤ n ∨ j = n + 1) with z | z
    · show (fwT a n ++ [_])[j]? = _
      rw [List.getElem?_append_left (by rw [fwT_len]; omega)]
      exact fwT_at a z
    · rw [z]
theorem fw_zero (a : Nat → Rat) : fw a 0 = [[]] := rfl
theorem fwGo_congr {a : Nat → Rat} {T U : Nat → List (List Int)} {n j : Nat} (h : T (n - 1 - j) = U (n - 1 - j)) : fwGo a T n j = fwGo a U n j := by
  unfold fwGo
  rw [h]
theorem fw_is (a : Nat → Rat) {n : Nat} (h : 0 < n) : fw a n = (List.range n).flatMap (fwGo a (fw a) n) := by
  obtain ⟨m, rfl⟩ : ∃ m, n = m + 1 := ⟨n - 1, by omega⟩
  unfold fw
  show ((fwT a m ++ [_])[m + 1]?).getD [] = _
  rw [List.getElem?_append_right (by rw [fwT_len]; exact Nat.le_refl _), fwT_len, Nat.sub_self]
  show (List.range (m + 1)).flatMap _ = _
  refine flatMap_congr' fun j hj => fwGo_congr ?_
  have := List.mem_range.mp hj
  show ((fwT a m)[m + 1 - 1 - j]?).getD [] = _
  rw [fwT_at a (show m + 1 - 1 - j ≤ m by omega)]
/-- a way with a chance that comes to n -/
def WayOk (a : Nat → Rat) (n : Nat) (w : List Int) : Prop := (∀ x ∈ w, 1 ≤ x ∧ a (x - 1).toNat ≠ 0) ∧ w.sum = (n : Int)
theorem way_ge {w : List Int} (h : ∀ x ∈ w, (1 : Int) ≤ x) : (w.length : Int) ≤ w.sum := by
  induction w with
  | nil => exact Int.le_refl _
  | cons x r ih =>
    have h1 := h x (List.mem_cons_self ..)
    have h2 := ih fun y hy => h y (List.mem_cons_of_mem _ hy)
    rw [List.length_cons, List.sum_cons]
    omega
theorem fw_mem (a : Nat → Rat) : ∀ {n : Nat} {w : List Int}, w ∈ fw a n ↔ WayOk a n w := by
  intro n
  induction n using Nat.strongRecOn with
  | ind n ih =>
    intro w
    rcases Nat.eq_zero_or_pos n with z | z
    · subst z
      rw [fw_zero, List.mem_singleton]
      constructor
      · rintro rfl
        exact ⟨(fun x h => (by cases h)), rfl⟩
      · rintro ⟨h1, h2⟩
        have h3 := way_ge fun x hx => (h1 x hx).1
        have h4 : w.length = 0 := by omega
        exact List.length_eq_zero_iff.mp h4
    · rw [fw_is a z, List.mem_flatMap]
      constructor
      · rintro ⟨j, hj, hw⟩
        have hj := List.mem_range.mp hj
        unfold fwGo at hw
        split at hw
        · cases hw
        · rename_i ha
          obtain ⟨y, hy, rfl⟩ := List.mem_map.mp hw
          obtain ⟨y1, y2⟩ := (ih (n - 1 - j) (by omega)).mp hy
          refine ⟨fun x hx => ?_, ?_⟩
          · rcases List.mem_cons.mp hx with rfl | hx
            · refine ⟨by omega, ?_⟩
              rw [show ((j : Int) + 1 - 1).toNat = j by omega]
              exact ha
            · exact y1 x hx
          · rw [List.sum_cons, y2]
            omega
      · rintro ⟨h1, h2⟩
        match w, h1, h2 with
        | [], _, h2 => exact absurd h2 (by show ¬ (0 : Int) = _; omega)
        | x :: y, h1, h2 =>
          obtain ⟨x1, x2⟩ := h1 x (List.mem_cons_self ..)
          have h3 := way_ge fun x hx => (h1 x (List.mem_cons_of_mem _ hx)).1
          rw [List.sum_cons] at h2
          refine ⟨(x - 1).toNat, List.mem_range.mpr (by omega), ?_⟩
          unfold fwGo
          rw [if_neg x2]
          refine List.mem_map.mpr ⟨y, (ih _ (by omega)).mpr ⟨fun x hx => h1 x (List.mem_cons_of_mem _ hx), by omega⟩, ?_⟩
          rw [show (((x - 1).toNat : Nat) : Int) + 1 = x by omega]
theorem aw_mem (a : Nat → Rat) : ∀ {n : Nat} {w : List Int}, w ∈ (aw a n).map (·.1) ↔ WayOk a n w := by
  intro n
  induction n using Nat.strongRecOn with
  | ind n ih =>
    intro w
    rcases Nat.eq_zero_or_pos n with z | z
    · subst z
      rw [aw_zero]
      show w ∈ [[]] ↔ _
      rw [List.mem_singleton]
      constructor
      · rintro rfl
        exact ⟨(fun x h => (by cases h)), rfl⟩
      · rintro ⟨h1, h2⟩
        have h3 := way_ge fun x hx => (h1 x hx).1
        have h4 : w.length = 0 := by omega
        exact List.length_eq_zero_iff.mp h4
    · rw [aw_is a z]
      constructor
      · intro hw
        obtain ⟨u, hu, rfl⟩ := List.mem_map.mp hw
        obtain ⟨j, hj, hw⟩ := List.mem_flatMap.mp hu
        have hj := List.mem_range.mp hj
        unfold awGo at hw
        split at hw
        · cases hw
        · rename_i ha
          obtain ⟨y, hy, rfl⟩ := List.mem_map.mp hw
          obtain ⟨y1, y2⟩ := (ih (n - 1 - j) (by omega)).mp (List.mem_map.mpr ⟨y, hy, rfl⟩)
          refine ⟨fun x hx => ?_, ?_⟩
          · rcases List.mem_append.mp hx with hx | hx
            · exact y1 x hx
            · rw [List.mem_singleton.mp hx]
              refine ⟨by omega, ?_⟩
              rw [show ((j : Int) + 1 - 1).toNat = j by omega]
              exact ha
          · show (y.1 ++ [(j : Int) + 1]).sum = _
            rw [List.sum_append, y2]
            show _ + ((j : Int) + 1 + 0) = _
            omega
      · rintro ⟨h1, h2⟩
        rcases snoc_cases w with rfl | ⟨y, x, rfl⟩
        · exact absurd h2 (by show ¬ (0 : Int) = _; omega)
        · obtain ⟨x1, x2⟩ := h1 x (by simp)
          have hy1 : ∀ u ∈ y, 1 ≤ u ∧ a (u - 1).toNat ≠ 0 := fun u hu => h1 u (by simp [hu])
          have h3 := way_ge fun u hu => (hy1 u hu).1
          have h2' : y.sum + x = (n : Int) := by
            rw [List.sum_append] at h2
            have h2 : y.sum + (x + 0) = (n : Int) := h2
            omega
          obtain ⟨u, hu, eu⟩ := List.mem_map.mp ((ih (n - 1 - (x - 1).toNat) (by omega)).mpr ⟨hy1, by omega⟩)
          refine List.mem_map.mpr ⟨(u.1 ++ [x], u.2 * a (x - 1).toNat), List.mem_flatMap.mpr ⟨(x - 1).toNat, List.mem_range.mpr (by omega), ?_⟩, by show u.1 ++ [x] = y ++ [x]; rw [eu]⟩
          unfold awGo
          rw [if_neg x2]
          refine List.mem_map.mpr ⟨u, hu, ?_⟩
          rw [show (((x - 1).toNat : Nat) : Int) + 1 = x by omega]
theorem fw_sorted (a : Nat → Rat) : ∀ n, (fw a n).Pairwise fun x y => ltW x y = true := by
  intro n
  induction n using Nat.strongRecOn with
  | ind n ih =>
    rcases Nat.eq_zero_or_pos n with z | z
    · subst z
      exact List.pairwise_singleton _ _
    · rw [fw_is a z, List.pairwise_flatMap]
      refine ⟨fun j hj => ?_, List.pairwise_lt_range.imp fun {i j} hij x hx y hy => ?_⟩
      · have hj := List.mem_range.mp hj
        unfold fwGo
        split
        · exact List.Pairwise.nil
        · refine List.pairwise_map.mpr ((ih (n - 1 - j) (by omega)).imp fun {x y} h => ?_)
          unfold ltW
          rw [if_pos rfl]
          exact h
      · unfold fwGo at hx hy
        split at hx
        · cases hx
        · split at hy
          · cases hy
          · obtain ⟨u, _, rfl⟩ := List.mem_map.mp hx
            obtain ⟨v, _, rfl⟩ := List.mem_map.mp hy
            unfold ltW
            rw [if_neg (by omega)]
            exact decide_eq_true (by omega)
theorem ltW_irr : ∀ x : List Int, ltW x x = false
  | [] => rfl
  | x :: xs => by
    unfold ltW
    rw [if_pos rfl]
    exact ltW_irr xs
theorem ltW_anti : ∀ x y : List Int, ltW y x = false → ltW x y = false → x = y
  | [], [], _, _ => rfl
  | [], _ :: _, _, h => by cases h
  | _ :: _, [], h, _ => by cases h
  | x :: xs, y :: ys, h1, h2 => by
    unfold ltW at h1 h2
    by_cases e : x = y
    · rw [if_pos e.symm] at h1
      rw [if_pos e] at h2
      rw [e, ltW_anti xs ys h1 h2]
    · rw [if_neg fun z => e z.symm] at h1
      rw [if_neg e] at h2
      have a := of_decide_eq_false h1
      have b := of_decide_eq_false h2
      omega
theorem fw_nodup (a : Nat → Rat) (n : Nat) : (fw a n).Nodup := (fw_sorted a n).imp fun {x y} h z => by
  rw [z, ltW_irr] at h
  cases h
theorem aw_nodup (a : Nat → Rat) : ∀ n, ((aw a n).map (·.1)).Nodup := by
  intro n
  induction n using Nat.strongRecOn with
  | ind n ih =>
    rcases Nat.eq_zero_or_pos n with z | z
    · subst z
      exact List.pairwise_singleton _ _
    · rw [aw_is a z]
      refine List.pairwise_map.mpr (List.pairwise_flatMap.mpr ⟨fun j hj => ?_, List.pairwise_lt_range.imp fun {i j} hij x hx y hy => ?_⟩)
      · have hj := List.mem_range.mp hj
        unfold awGo
        split
        · exact List.Pairwise.nil
        · refine List.pairwise_map.mpr ((List.pairwise_map.mp (ih (n - 1 - j) (by omega))).imp fun {x y} h z => h ?_)
          exact List.append_inj_left' z rfl
      · unfold awGo at hx hy
        split at hx
        · cases hx
        · split at hy
          · cases hy
          · obtain ⟨u, _, rfl⟩ := List.mem_map.mp hx
            obtain ⟨v, _, rfl⟩ := List.mem_map.mp hy
            intro z
            have z : u.1 ++ [(i : Int) + 1] = v.1 ++ [(j : Int) + 1] := z
            have e := List.append_inj_right' z rfl
            have e2 := (List.cons.inj e).1
            omega
theorem aw_perm (a : Nat → Rat) (n : Nat) : ((aw a n).map (·.1)).Perm (fw a n) := (List.perm_ext_iff_of_nodup (aw_nodup a n) (fw_nodup a n)).mpr fun w => (aw_mem a).trans (fw_mem a).symm
/-- a sorted list of just these is that one -/
theorem sorted_is {l m : List (List Int)} (h1 : l.Pairwise fun x y => ltW y x = false) (h2 : m.Pairwise fun x y => ltW x y = true) (p : l.Perm m) : l = m :=
  List.Perm.eq_of_pairwise (le := fun x y => ltW y x = false) (fun x y _ _ a b => ltW_anti x y a b) h1 (h2.imp fun {x y} h => ltW_asym x y h) p

end Fp

set_option Elab.async false
set_option linter.all false
set_option maxRecDepth 100000
set_option maxHeartbeats 4000000
set_option exponentiation.threshold 10000
namespace Fp
open PySem PySem.Spec PyProof.Rows L2
/-! ### what a way is: of anything -/
abbrev s_iw : Stmt := topS 28
abbrev N_iw : List Str := ["thing", "stretch"]
theorem sc_iw : FnScope N_iw ["thing"] (defScope s_iw) := ⟨rfl, rfl, rfl, by decide +kernel, rfl, by decide +kernel, by decide +kernel⟩
abbrev s_liw : Stmt := topS 53
abbrev N_liw : List Str := ["_law_thing", "_law_one"]
theorem sc_liw : FnScope N_liw ["_law_thing"] (defScope s_liw) := ⟨rfl, rfl, rfl, by decide +kernel, rfl, by decide +kernel, by decide +kernel⟩
def posD : PyData → Bool
  | .int i => decide (1 ≤ i)
  | _ => false
def wayD : PyData → Bool
  | .tuple ds => ds.all posD
  | _ => false
section
variable {P : Program} {w : World} {K : PySem.W.Frag} {mg : Str → Option Value} {base : Heap}
def spIw (K : PySem.W.Frag) (tIW : Addr) : Sp := fun vs H Q _ => ∃ (v : V) (d : PyData), vs = [v] ∧ DpX K H v d ∧ H tIW = some (tabx tIW) ∧ Q (.bl (wayD d)) H
def spLiw (K : PySem.W.Frag) : Sp := fun vs H Q _ => ∃ (v : V) (d : PyData) (b l c k : Nat), vs = [v] ∧ DpX K H v d ∧ Bk b l c k d ∧ l ≤ 900 ∧ ∀ H', Same H H' → Q (.bl (wayD d)) H'
theorem ok_iw {f fWH : Addr} {fd fdWH : FuncData} {cIW tIW : Addr} (F : FunC K "is_way" "is_way" s_iw f fd (.ref cIW)) (TB : GxR.TabB base mg cIW tIW)
    (FWH : Fun K "is_whole" "is_whole" s_wh fWH fdWH) (bWH : Binds K fdWH ["thing"] []) (gWH : mg "is_whole" = some (.ref fWH)) (GWH : FnOk P w K mg base CX0 1 fWH fdWH ["thing"] (spWhX K))
    (n_all : mg "all" = none) (n_isinstance : mg "isinstance" = none) (n_tuple : mg "tuple" = none) : FnOk P w K mg base CX0 4 f fd ["thing"] (spIw K tIW) := by
  refine F.ok sc_iw (fun vs H Q E h => ?_) (fun A outer s H vs Q E hr h => ?_)
  · obtain ⟨_, _, rfl, _⟩ := h
    rfl
  · obtain ⟨v, d, rfl, hd, hT, q⟩ := h
    refine ⟨_, (pss_one (ps_ret (pe_and (pe_callB call_isi (by rfl) n_isinstance (by decide +kernel) (pa_cons (pv 0) (pa_cons (pe_bltn (v := .ty "tuple") (by rfl) n_tuple (by decide +kernel) rfl) pa_nil))) (pe_one (pe_allG (k := 2) (P := tIW) (own := [("stretch", 1)]) (g := (gName 1)) (te := (tAndV (tCall (spWhX K) [] E0 (tCons (tVar 1) tNil)) (tOp (rI0 fun i j => .bl (decide (j ≤ i))) (tVar 1) (tC (.int 1))))) (by rfl) n_all rfl sc_iw.nd hr TB rfl (gxS_by (by decide +kernel)) (pi_tup (pv 0)) (blkOk_by (own := [("stretch", 1)]) (N := N_iw) (sc := (defScope s_iw)) (by decide +kernel)) (fun _ _ _ _ _ _ _ => (pg_name (i := 1) sc_iw.nd rfl (.inl rfl))) (fun _ _ _ _ _ _ _ hr => (pe_and (pe_call GWH (hr.mono (by decide)) (by rfl) gWH FWH.kp bWH .nil pass0 (pa_cons (pv 1) pa_nil)) (pe_one (pe_cmpR op_ge (pv 1) pe_int (nomark _)))))))))), ?_⟩
    refine ⟨_, rfl, ?_⟩
    refine tcn_go ?_
    refine isx_tup hd ?_
    refine ⟨_, rfl, ?_⟩
    by_cases ht : isTup d = true
    · obtain ⟨ds, rfl⟩ : ∃ ds, d = .tuple ds := by cases d <;> first | exact ⟨_, rfl⟩ | cases ht
      obtain ⟨ar, ur, rfl, k1, k2⟩ := (DA.no.mpr hd).tupE
      have k2 := (show DpXAll K H ur ds from (by unfold DAs at k2; rw [hid_no] at k2; exact k2))
      have hl := k2.len
      refine iteT ?_
      refine ⟨_, rfl, ar, rfl, ⟨_, k1⟩, hT, ?_⟩
      refine gx_walk (walk_tup (K := K) (a := ar) (xs := ur)) (fun i HE => HE = H ∧ ∀ j, j < i → ∃ e, ds[j]? = some e ∧ posD e = true) ⟨rfl, fun j hj => absurd hj (Nat.not_lt_zero _)⟩ (fun i HE _ e => by rw [e.1]; exact k1) (fun i x H2 H3 S hi e hY hS hN => ?_) (fun H2 e => ?_)
      · obtain ⟨rfl, hall⟩ := e
        obtain ⟨rfl, hx⟩ := hY
        obtain ⟨e0, he0⟩ : ∃ e0, ds[i]? = some e0 := ⟨_, List.getElem?_eq_getElem (by omega)⟩
        obtain ⟨v', hv', hde⟩ := k2.get he0
        rw [hx] at hv'
        cases hv'
        have no : posD e0 = false → Q (.bl false) H3 := fun hce => by
          have e9 : ds.all posD = false := by
            rw [List.all_eq_false]
            exact ⟨e0, List.mem_of_getElem? he0, by rw [hce]; decide⟩
          rw [show wayD (.tuple ds) = ds.all posD from rfl, e9] at q
          exact q
        refine ⟨rfl, _, rfl, x, e0, rfl, hde, _, rfl, ?_⟩
        by_cases w1 : wholeD e0 = true
        · obtain ⟨y, rfl⟩ : ∃ y, e0 = .int y := by cases e0 <;> first | exact ⟨_, rfl⟩ | cases w1
          cases hde
          refine iteT ?_
          refine ⟨_, rfl, _, _, rfl, rfl, ?_⟩
          by_cases hce : (1 : Int) ≤ y
          · show S (V.bl (decide ((1 : Int) ≤ y))) _
            rw [decide_eq_true hce]
            refine hS _ ⟨rfl, fun j hj => ?_⟩
            rcases Nat.lt_succ_iff_lt_or_eq.mp hj with z | z
            · exact hall j z
            · rw [z]
              exact ⟨_, he0, decide_eq_true hce⟩
          · show S (V.bl (decide ((1 : Int) ≤ y))) _
            rw [decide_eq_false hce]
            exact hN _ (no (decide_eq_false hce))
        · rw [Bool.not_eq_true] at w1
          rw [w1]
          refine iteF ?_
          refine hN _ (no ?_)
          cases e0 <;> first | rfl | cases w1
      · obtain ⟨rfl, hall⟩ := e
        have e9 : ds.all posD = true := by
          rw [List.all_eq_true]
          intro y hy
          obtain ⟨j, hj⟩ := List.mem_iff_getElem?.mp hy
          have hj2 := (List.getElem?_eq_some_iff.mp hj).1
          obtain ⟨e, he, hce⟩ := hall j (by omega)
          rw [hj] at he
          cases he
          exact hce
        rw [show wayD (.tuple ds) = ds.all posD from rfl, e9] at q
        exact q
    · rw [Bool.not_eq_true] at ht
      rw [ht]
      refine iteF ?_
      have e : wayD d = false := by cases d <;> first | rfl | cases ht
      rw [e] at q
      exact q
theorem ok_liw {f fLW : Addr} {fd fdLW : FuncData} (F : Fun K "_law_is_way" "_law_is_way" s_liw f fd)
    (FLW : Fun K "_law_is_whole" "_law_is_whole" s_lwh fLW fdLW) (bLW : Binds K fdLW ["_law_thing"] []) (gLW : mg "_law_is_whole" = some (.ref fLW)) (GLW : FnOk P w K mg base CX0 1 fLW fdLW ["_law_thing"] (spWhX K))
    (n_isinstance : mg "isinstance" = none) (n_tuple : mg "tuple" = none) : FnOk P w K mg base CX0 3 f fd ["_law_thing"] (spLiw K) := by
  refine F.ok sc_liw (fun vs H Q E h => ?_) (fun cdv A outer s H vs Q E hr h => ?_)
  · obtain ⟨_, _, _, _, _, _, rfl, _⟩ := h
    rfl
  · obtain ⟨v, d, b, l, c, k, rfl, hd, hb, hl2, q⟩ := h
    refine ⟨_, (pss_one (ps_ret (pe_and (pe_callB call_isi (by rfl) n_isinstance (by decide +kernel) (pa_cons (pv 0) (pa_cons (pe_bltn (v := .ty "tuple") (by rfl) n_tuple (by decide +kernel) rfl) pa_nil))) (pe_one (pe_cmpR op_notIn_seq pe_bl (pe_lc (own := [("_law_one", 1)]) (g := (gName 1)) (tt := tYes) (te := (tAndV (tCall (spWhX K) [] E0 (tCons (tVar 1) tNil)) (tOp (rI0 fun i j => .bl (decide (j < i))) (tVar 1) (tC (.int 0))))) rfl sc_liw.nd (pi_tup (pv 0)) (blkOk_by (own := [("_law_one", 1)]) (N := N_liw) (sc := (defScope s_liw)) (by decide +kernel)) (fun _ _ _ _ _ => (pg_name (i := 1) sc_liw.nd rfl (.inl rfl))) (fun _ _ _ _ _ => pts_nil) (fun _ _ _ _ _ => (pe_and (pe_call GLW (hr.mono (by decide)) (by rfl) gLW FLW.kp bLW .nil pass0 (pa_cons (pv 1) pa_nil)) (pe_one (pe_cmpR op_gt (pv 1) pe_int (nomark _)))))) rfl))))), ?_⟩
    refine ⟨_, rfl, ?_⟩
    refine tcn_go ?_
    refine isx_tup hd ?_
    refine ⟨_, rfl, ?_⟩
    by_cases ht : isTup d = true
    · obtain ⟨ds, rfl⟩ : ∃ ds, d = .tuple ds := by cases d <;> first | exact ⟨_, rfl⟩ | cases ht
      obtain ⟨ar, ur, rfl, k1, k2⟩ := (DA.no.mpr hd).tupE
      have k2 := (show DpXAll K H ur ds from (by unfold DAs at k2; rw [hid_no] at k2; exact k2))
      have hl := k2.len
      obtain ⟨j1, rfl, hlx, hBr⟩ := hb.tupI
      refine iteT ?_
      have hub : ur.length = (ds.map posD).length := by rw [List.length_map]; exact hl
      refine tC_go ?_
      refine ⟨_, rfl, ar, rfl, ⟨_, k1⟩, ?_⟩
      refine lc_val (walk_tup (K := K) (a := ar) (xs := ur)) (fun k => .bl ((ds.map posD).getD k false)) (by omega) (fun HE sE => sqT_same sE k1) (fun k x HE HE' R hk sE hY qr => ?_) (fun D H4 s4 hD => ?_)
      · obtain ⟨rfl, hx⟩ := hY
        obtain ⟨e0, he0⟩ : ∃ e0, ds[k]? = some e0 := ⟨_, List.getElem?_eq_getElem (by omega)⟩
        obtain ⟨v', hv', hde⟩ := k2.get he0
        rw [hx] at hv'
        cases hv'
        have e9 : (ds.map posD).getD k false = posD e0 := by
          rw [List.getD_eq_getElem?_getD, List.getElem?_map, he0]
          rfl
        rw [e9] at qr
        have hde := hde.same sE
        refine ⟨rfl, _, rfl, x, e0, rfl, hde, _, rfl, ?_⟩
        by_cases w1 : wholeD e0 = true
        · obtain ⟨y, rfl⟩ : ∃ y, e0 = .int y := by cases e0 <;> first | exact ⟨_, rfl⟩ | cases w1
          cases hde
          refine iteT ?_
          refine ⟨_, rfl, _, _, rfl, rfl, ?_⟩
          exact qr _ (Same.refl _)
        · rw [Bool.not_eq_true] at w1
          rw [w1]
          refine iteF ?_
          have e8 : posD e0 = false := by cases e0 <;> first | rfl | cases w1
          rw [e8] at qr
          exact qr _ (Same.refl _)
      rw [hub, range_bools] at hD
      refine ⟨D, _, rfl, .inl (SqL.of hD), rfl, by rw [List.all_map, List.all_eq_true]; intro y _; rfl, ?_⟩
      show Q (.bl (!inV (.bl false) ((ds.map posD).map V.bl))) H4
      rw [in_bools, Bool.not_not, List.all_map]
      exact q H4 s4
    · rw [Bool.not_eq_true] at ht
      rw [ht]
      refine iteF ?_
      have q0 := q H (Same.refl H)
      have e : wayD d = false := by cases d <;> first | rfl | cases ht
      rw [e] at q0
      exact q0
end

end Fp

set_option Elab.async false
set_option linter.all false
set_option maxRecDepth 100000
set_option maxHeartbeats 4000000
set_option exponentiation.threshold 10000
namespace Fp
open PySem PySem.Spec PyProof.Rows L2
/-! ### the chance of a way -/
abbrev s_wc : Stmt := topS 29
abbrev N_wc : List Str := ["life", "way", "chances", "top", "bottom", "stretch", "chance"]
theorem sc_wc : FnScope N_wc ["life", "way"] (defScope s_wc) := ⟨rfl, rfl, rfl, by decide +kernel, rfl, by decide +kernel, by decide +kernel⟩
abbrev s_lwc : Stmt := topS 55
abbrev N_lwc : List Str := ["_law_life_here", "_law_way", "_law_found", "_law_k"]
theorem sc_lwc : FnScope N_lwc ["_law_life_here", "_law_way"] (defScope s_lwc) := ⟨rfl, rfl, rfl, by decide +kernel, rfl, by decide +kernel, by decide +kernel⟩
theorem sm0 {n : Nat} : Sm n 0 := Nat.pow_pos (by decide)
theorem sm1 {n : Nat} (h : 0 < n) : Sm n 1 := Nat.one_lt_two_pow (by omega)
def wayQ (a : Nat → Rat) : List Int → Rat
  | [] => 1
  | x :: r => a (x - 1).toNat * wayQ a r
theorem wayQ_app (a : Nat → Rat) : ∀ u v : List Int, wayQ a (u ++ v) = wayQ a u * wayQ a v
  | [], v => by
    show wayQ a v = 1 * _
    grind
  | x :: u, v => by
    show a _ * wayQ a (u ++ v) = a _ * wayQ a u * wayQ a v
    rw [wayQ_app a u v]
    grind
def wsz (n : Nat) : List Int → Nat
  | [] => 0
  | x :: r => n + 5 * (x - 1).toNat + wsz n r
theorem wsz_app (n : Nat) : ∀ u v : List Int, wsz n (u ++ v) = wsz n u + wsz n v
  | [], v => by
    show wsz n v = 0 + _
    omega
  | x :: u, v => by
    show n + 5 * (x - 1).toNat + wsz n (u ++ v) = n + 5 * (x - 1).toNat + wsz n u + wsz n v
    rw [wsz_app n u v]
    omega
theorem wsz_take (n : Nat) (w : List Int) (i : Nat) : wsz n (w.take i) ≤ wsz n w := by
  have e := wsz_app n (w.take i) (w.drop i)
  rw [List.take_append_drop] at e
  omega
theorem wsz_le {n : Nat} : ∀ {w : List Int}, (∀ x ∈ w, (1 : Int) ≤ x) → (wsz n w : Int) ≤ (n : Int) * w.length + 5 * w.sum
  | [], _ => by
    show (0 : Int) ≤ (n : Int) * 0 + 5 * 0
    omega
  | x :: r, h => by
    have h1 := h x (List.mem_cons_self ..)
    have h2 := wsz_le (n := n) fun y hy => h y (List.mem_cons_of_mem _ hy)
    rw [List.length_cons, List.sum_cons]
    have e : (n : Int) * ((r.length + 1 : Nat) : Int) = (n : Int) * r.length + n := by
      rw [show ((r.length + 1 : Nat) : Int) = (r.length : Int) + 1 by omega, Int.mul_add]
      omega
    rw [e]
    show ((n + 5 * (x - 1).toNat + wsz n r : Nat) : Int) ≤ _
    omega
theorem ch_sm {n : Nat} {row : List RT} {step : RT} (hr : ∀ y ∈ row, SmR n y) (hs : StepOk 5 step) : ∀ k, SmR (n + 5 * k + 1) (rdq (chR row step k))
  | 0 => by
    match row, hr with
    | [], _ =>
      rw [chR_nil, show rdq 0 = (0, 1) from rdq_zero.mpr rfl]
      exact ⟨⟨by decide, by decide⟩, sm0, sm1 (by omega)⟩
    | x :: r, hr =>
      have hx := hr x (List.mem_cons_self ..)
      rw [chR_in (x := x) rfl, ← is_rdq hx.1 rfl]
      exact hx.mono (by omega)
  | k + 1 => by
    rcases Nat.lt_or_ge (k + 1) row.length with z | z
    · have hx := hr _ (List.getElem_mem z)
      rw [chR_in (List.getElem?_eq_getElem z), ← is_rdq hx.1 rfl]
      exact hx.mono (by omega)
    · by_cases e : row = []
      · subst e
        rw [chR_nil, show rdq 0 = (0, 1) from rdq_zero.mpr rfl]
        exact ⟨⟨by decide, by decide⟩, sm0, sm1 (by omega)⟩
      · have ih := ch_sm hr hs k
        rw [chR_next z e]
        have t := rT_sm ih hs.1
        obtain ⟨t1, t2⟩ := qv_rT ih.1 hs.1.1
        rw [qv_rdq] at t2
        rw [← is_rdq t1 t2]
        exact t.mono (by omega)
theorem way_sm {n : Nat} {row : List RT} {step : RT} (hr : ∀ y ∈ row, SmR n y) (hs : StepOk 5 step) : ∀ w : List Int, SmR (wsz (n + 1) w + 1) (rdq (wayQ (chR row step) w))
  | [] => by
    show SmR 1 (rdq 1)
    rw [← is_rdq one_red qv_one]
    exact ⟨one_red, by unfold Sm; decide, by unfold Sm; decide⟩
  | x :: r => by
    have h1 := ch_sm hr hs (x - 1).toNat
    have h2 := way_sm hr hs r
    have t := rT_sm h1 h2
    obtain ⟨t1, t2⟩ := qv_rT h1.1 h2.1
    rw [qv_rdq, qv_rdq] at t2
    show SmR _ (rdq (chR row step _ * wayQ _ r))
    rw [← is_rdq t1 t2]
    exact t.mono (by show _ ≤ n + 1 + 5 * (x - 1).toNat + wsz (n + 1) r + 1; omega)
theorem take_succ_get {α : Type} {w : List α} {i : Nat} {x : α} (h : w[i]? = some x) : w.take (i + 1) = w.take i ++ [x] := by
  rw [List.take_add_one, h]
  rfl
section
variable {P : Program} {w : World} {K : PySem.W.Frag} {mg : Str → Option Value} {base : Heap} {aN : Addr}
theorem maxDT_go {a : Addr} {ns : List Int} {H : Hp} {Q : VK} (hs : SqT K H a (ns.map V.int)) (hp : ∀ y ∈ ns, (1 : Int) ≤ y) (q : ∀ m : Nat, (∀ y ∈ ns, y ≤ (m : Int)) → (m = 0 ∨ (m : Int) ∈ ns) → Q (.int (m : Int)) H) : rMaxDT K [.ref a] [.int 0] H Q :=
  ⟨a, ns, 0, rfl, rfl, hs, fun e => q 0 (fun y hy => by rw [e] at hy; cases hy) (.inl rfl), fun m hm hmax => by
    have h1 := hp m hm
    obtain ⟨j, rfl⟩ : ∃ j : Nat, m = (j : Int) := ⟨m.toNat, by omega⟩
    exact q j hmax (.inr hm)⟩
def spWc (K : PySem.W.Frag) : Sp := fun vs H Q _ => ∃ (p pw : Addr) (row : List RT) (step : RT) (n : Nat) (w : List Int), vs = [.ref p, .ref pw] ∧ LifeAt K H p row step ∧ LifeOk n row step ∧ SqT K H pw (w.map V.int) ∧ (∀ x ∈ w, (1 : Int) ≤ x ∧ x ≤ 70) ∧ wsz (n + 1) w ≤ 2800 ∧ w.length ≤ 900 ∧
  ∀ z H', Same H H' → RAt K H' z (rdq (wayQ (chR row step) w)) → Q (.ref z) H'
def spLwc (K : PySem.W.Frag) : Sp := fun vs H Q _ => ∃ (p pw : Addr) (row : List RT) (step : RT) (n : Nat) (w : List Int), vs = [.ref p, .ref pw] ∧ LifeAt K H p row step ∧ LifeOk n row step ∧ (row = [] → step = (0, 1)) ∧ SqT K H pw (w.map V.int) ∧ (∀ x ∈ w, (1 : Int) ≤ x ∧ x ≤ 70) ∧ wsz (n + 1) w ≤ 2800 ∧ w.length ≤ 900 ∧
  ∀ z H', Same H H' → RAt K H' z (rdq (wayQ (chR row step) w)) → Q (.ref z) H'
theorem ok_wc {f fCT fR : Addr} {fd fdCT fdR : FuncData} (F : Fun K "way_chance" "way_chance" s_wc f fd)
    (FCT : Fun K "chances_to" "chances_to" s_chto fCT fdCT) (bCT : Binds K fdCT ["life", "most"] []) (gCT : mg "chances_to" = some (.ref fCT)) (GCT : FnOk P w K mg base CX0 4 fCT fdCT ["life", "most"] (spChto K))
    (FR : Fun K "ratio" "ratio" s_ratio fR fdR) (bR : Binds K fdR ["top", "bottom"] []) (gR : mg "ratio" = some (.ref fR)) (GR : FnOk P w K mg base CX0 2 fR fdR ["top", "bottom"] spRat0)
    (n_max : mg "max" = none) : FnOk P w K mg base CX0 6 f fd ["life", "way"] (spWc K) := by
  refine F.ok sc_wc (fun vs H Q E h => ?_) (fun cdv A outer s H vs Q E hr h => ?_)
  · obtain ⟨_, _, _, _, _, _, rfl, _⟩ := h
    rfl
  · obtain ⟨p, pw, row, step, n, w, rfl, hlife, L, hw, hx, hsz, hlen, q⟩ := h
    refine ⟨_, (pss_cons (ps_set (i := 2) sc_wc.nd rfl (.inl rfl) (pe_call GCT (hr.mono (by decide)) (by rfl) gCT FCT.kp bCT .nil pass0 (pa_cons (pv 0) (pa_cons (pe_callBK (cr_maxDT rfl hr.units) (by rfl) n_max (by decide +kernel) (pa_cons (pv 1) pa_nil) (pk_cons pe_int pk_nil)) pa_nil))))
      (pss_cons (ps_asg (pe_tup (pa_cons pe_int (pa_cons pe_int pa_nil))) (pg_tup rfl (pgs_cons (pg_name (i := 3) sc_wc.nd rfl (.inl rfl)) (pgs_cons (pg_name (i := 4) sc_wc.nd rfl (.inl rfl)) pgs_nil))))
      (pss_cons (ps_for PassesOwn.never rfl (pi_tup (pv 1)) (pg_name (i := 5) sc_wc.nd rfl (.inl rfl)) (pss_cons (ps_set (i := 6) sc_wc.nd rfl (.inl rfl) (pe_ix ix_list (pv 2) (pe_op op_sub (pv 5) pe_int) (fun _ _ => rfl)))
      (pss_cons (ps_aug (i := 3) sc_wc.nd rfl (.inl rfl) (pe_ix ix_tup (pv 6) pe_int (fun _ _ => rfl)) ip_mulA)
      (pss_one (ps_aug (i := 4) sc_wc.nd rfl (.inl rfl) (pe_ix ix_tup (pv 6) pe_int (fun _ _ => rfl)) ip_mulA)))))
      (pss_one (ps_ret (pe_call GR (hr.mono (by decide)) (by rfl) gR FR.kp bR .nil pass0 (pa_cons (pv 3) (pa_cons (pv 4) pa_nil)))))))), ?_⟩
    refine ⟨_, rfl, ?_⟩
    refine ⟨_, rfl, ?_⟩
    refine tnil_go ?_
    refine tcn_go ?_
    refine maxDT_go hw (fun y hy => (hx y hy).1) fun m hm hm2 => ?_
    refine tnil_go ?_
    have hm70 : m ≤ 70 := by
      rcases hm2 with z | z
      · omega
      · have := (hx _ z).2
        omega
    refine ⟨p, row, step, n, m, rfl, hlife, L, hm70, fun z rs chs H1 s1 hz hrs hch => ?_⟩
    refine ⟨by show 2 ≤ sizeLine; decide, fun o no => ?_⟩
    have eo := same_new (o := HO.tup [.int 1, .int 1]) no
    refine ⟨o, _, rfl, SqT.of upd_same, rfl, _, _, rfl, _, _, rfl, rfl, ?_⟩
    have S2 := s1.trans eo
    have hz2 := eo _ _ hz
    have hrs2 := hrs.tk (Tk.same eo) (K := K)
    have hw2 := sqT_same S2 hw
    generalize upd H1 o (HO.tup [.int 1, .int 1]) = H2 at *
    refine ⟨_, rfl, pw, rfl, ⟨_, hw2⟩, ?_⟩
    refine for_tup (K := K) (a := pw) (xs := w.map V.int) (fun i σ HB => ∃ z5 z6 T B, σ = [some (.ref p), some (.ref pw), some (.ref z), some (.int T), some (.int B), z5, z6] ∧ Same H2 HB ∧ 0 < B ∧ Sm (wsz (n + 1) (w.take i) + 1) T ∧ Sm (wsz (n + 1) (w.take i) + 1) B ∧ (T : Rat) = wayQ (chR row step) (w.take i) * (B : Rat)) ⟨none, none, 1, 1, rfl, Same.refl H2, by decide, sm1 (by omega), sm1 (by omega), by rw [List.take_zero]; show ((1 : Int) : Rat) = 1 * ((1 : Int) : Rat); decide +kernel⟩ ?_ ?_ ?_
    · rintro i σ HB _ ⟨_, _, _, _, _, sB, _⟩
      exact sqT_same sB hw2
    · rintro i v σ HB hi ⟨z5, z6, T, B, rfl, sB, hB, sT, sBb, hv⟩
      obtain ⟨k, hk, rfl⟩ : ∃ k, w[i]? = some k ∧ v = V.int k := by
        rw [List.getElem?_map] at hi
        cases e : w[i]? with
        | none => rw [e] at hi; cases hi
        | some k => rw [e] at hi; exact ⟨k, rfl, (Option.some.inj hi).symm⟩
      have hkm := List.mem_of_getElem? hk
      obtain ⟨k1, k2⟩ := hx k hkm
      have k3 := hm k hkm
      obtain ⟨x, hxc⟩ : ∃ x, chs[(k - 1).toNat]? = some x := ⟨_, List.getElem?_eq_getElem (by rw [hch.len]; omega)⟩
      obtain ⟨r, hr1, hr2⟩ := hrs2.get hxc
      obtain ⟨sx, vx⟩ := hch.ok _ x hxc
      refine ⟨_, rfl, ?_⟩
      refine ⟨_, rfl, ?_⟩
      refine ⟨_, _, rfl, rfl, ?_⟩
      refine ⟨z, _, _, _, rfl, rfl, SqL.of (sB _ _ hz2), at_of (j := (k - 1).toNat) (by omega) (by rw [List.getElem?_map, hr1]; rfl), ?_⟩
      have hr3 : RAt K HB r x := hr2.tk (Tk.same sB)
      have wle := wsz_take (n + 1) w i
      have wle2 := wsz_take (n + 1) w (i + 1)
      have n1 := L.n1
      have et := take_succ_get hk
      have ez : wsz (n + 1) (w.take (i + 1)) = wsz (n + 1) (w.take i) + (n + 1 + 5 * (k - 1).toNat) := by
        rw [et, wsz_app]
        rfl
      refine ⟨_, rfl, ?_⟩
      refine ⟨_, rfl, ?_⟩
      refine tC_go ?_
      refine ⟨r, _, _, _, rfl, rfl, hr3, at_of (j := 0) rfl rfl, ?_⟩
      refine ⟨_, _, rfl, rfl, sT.cmul sx.2.1 (by omega) (by omega) (by omega), ?_⟩
      refine ⟨_, rfl, ?_⟩
      refine ⟨_, rfl, ?_⟩
      refine tC_go ?_
      refine ⟨r, _, _, _, rfl, rfl, hr3, at_of (j := 1) rfl rfl, ?_⟩
      refine ⟨_, _, rfl, rfl, sBb.cmul sx.2.2 (by omega) (by omega) (by omega), ?_⟩
      refine ⟨_, _, _, _, rfl, sB, Int.mul_pos hB sx.1.1, (sT.mul sx.2.1).mono (by omega), (sBb.mul sx.2.2).mono (by omega), ?_⟩
      rw [et, wayQ_app, Rat.intCast_mul, Rat.intCast_mul, hv]
      show _ = _ * (chR row step (k - 1).toNat * 1) * _
      rw [← vx]
      have h2 := cast_ne (Int.ne_of_gt sx.1.1)
      have e : (x.1 : Rat) = qv x * (x.2 : Rat) := by
        unfold qv
        grind
      rw [e]
      grind
    · rintro σ HB ⟨z5, z6, T, B, rfl, sB, hB, sT, sBb, hv⟩
      rw [List.take_of_length_le (by rw [List.length_map]; exact Nat.le_refl _)] at sT sBb hv
      refine ⟨_, rfl, ?_⟩
      refine ⟨_, rfl, ?_⟩
      refine tnil_go ?_
      refine ⟨T, B, rfl, ?_, Int.ne_of_gt hB, fun zz nz => ?_⟩
      · have := (sBb.mono (show _ ≤ 8000 by omega))
        exact this
      have ez := same_new (o := HO.tup [.int (ratT T B), .int (ratB T B)]) nz
      refine q zz _ (S2.trans (sB.trans ez)) ?_
      have e : rdq (wayQ (chR row step) w) = low2 T B := by
        refine (is_rdq (low2_red (Int.ne_of_gt hB)) ?_).symm
        rw [qv_low2 hB, hv]
        have h2 := cast_ne (Int.ne_of_gt hB)
        grind
      rw [e]
      exact SqT.of upd_same
theorem ok_lwc {f fLT fCH : Addr} {fd fdLT fdCH : FuncData} (F : Fun K "_law_way_chance" "_law_way_chance" s_lwc f fd)
    (FLT : Fun K "_law_times" "_law_times" s_ltimes fLT fdLT) (bLT : Binds K fdLT ["_law_one", "_law_other"] []) (gLT : mg "_law_times" = some (.ref fLT)) (GLT : FnOk P w K mg base CX0 2 fLT fdLT ["_law_one", "_law_other"] (spTwo K (fun a b c d => a * c)))
    (FCH : Fun K "_law_chance" "_law_chance" s_lchance fCH fdCH) (bCH : Binds K fdCH ["_law_life_here", "_law_k"] []) (gCH : mg "_law_chance" = some (.ref fCH)) (GCH : FnOk P w K mg base CX0 2 fCH fdCH ["_law_life_here", "_law_k"] (spLchance K))
    : FnOk P w K mg base CX0 4 f fd ["_law_life_here", "_law_way"] (spLwc K) := by
  refine F.ok sc_lwc (fun vs H Q E h => ?_) (fun cdv A outer s H vs Q E hr h => ?_)
  · obtain ⟨_, _, _, _, _, _, rfl, _⟩ := h
    rfl
  · obtain ⟨p, pw, row, step, n, w, rfl, hlife, L, hnil, hw, hx, hsz, hlen, q⟩ := h
    refine ⟨_, (pss_cons (ps_set (i := 2) sc_lwc.nd rfl (.inl rfl) (pe_tup (pa_cons pe_int (pa_cons pe_int pa_nil))))
      (pss_cons (ps_for PassesOwn.never rfl (pi_tup (pv 1)) (pg_name (i := 3) sc_lwc.nd rfl (.inl rfl)) (pss_one (ps_set (i := 2) sc_lwc.nd rfl (.inl rfl) (pe_call GLT (hr.mono (by decide)) (by rfl) gLT FLT.kp bLT .nil pass0 (pa_cons (pv 2) (pa_cons (pe_call GCH (hr.mono (by decide)) (by rfl) gCH FCH.kp bCH .nil pass0 (pa_cons (pv 0) (pa_cons (pv 3) pa_nil))) pa_nil))))))
      (pss_one (ps_ret (pv 2))))), ?_⟩
    refine ⟨by show 2 ≤ sizeLine; decide, fun f0 n0 => ?_⟩
    have e0 := same_new (o := HO.tup [.int 1, .int 1]) n0
    have S1 := e0
    have hw1 := sqT_same e0 hw
    have hl1 := hlife.tk (K := K) (Tk.same e0)
    have hf0 : RAt K (upd H f0 (HO.tup [.int 1, .int 1])) f0 (rdq 1) := by
      rw [show rdq 1 = (1, 1) from (is_rdq one_red qv_one).symm]
      exact SqT.of upd_same
    generalize upd H f0 (HO.tup [.int 1, .int 1]) = H1 at *
    refine ⟨_, rfl, pw, rfl, ⟨_, hw1⟩, ?_⟩
    refine for_tup (K := K) (a := pw) (xs := w.map V.int) (fun i σ HB => ∃ z3 ff, σ = [some (.ref p), some (.ref pw), some (.ref ff), z3] ∧ Same H1 HB ∧ RAt K HB ff (rdq (wayQ (chR row step) (w.take i)))) ⟨none, f0, rfl, Same.refl H1, by rw [List.take_zero]; exact hf0⟩ ?_ ?_ ?_
    · rintro i σ HB _ ⟨_, _, _, sB, _⟩
      exact sqT_same sB hw1
    · rintro i v σ HB hi ⟨z3, ff, rfl, sB, hff⟩
      obtain ⟨k, hk, rfl⟩ : ∃ k, w[i]? = some k ∧ v = V.int k := by
        rw [List.getElem?_map] at hi
        cases e : w[i]? with
        | none => rw [e] at hi; cases hi
        | some k => rw [e] at hi; exact ⟨k, rfl, (Option.some.inj hi).symm⟩
      have hkm := List.mem_of_getElem? hk
      obtain ⟨k1, k2⟩ := hx k hkm
      have et := take_succ_get hk
      have wle := wsz_take (n + 1) w i
      refine ⟨_, rfl, ?_⟩
      refine ⟨_, rfl, ?_⟩
      refine ⟨_, rfl, ?_⟩
      refine tnil_go ?_
      refine ⟨p, row, step, n, k.toNat, ?_, hl1.tk (Tk.same sB), L, hnil, by omega, by omega, fun zc x H3 s3 hzc sx vx => ?_⟩
      · show [V.ref p, V.int k] = _
        rw [show ((k.toNat : Nat) : Int) = k by omega]
      have ex : x = rdq (chR row step (k - 1).toNat) := is_rdq sx.1 (by rw [vx, show k.toNat - 1 = (k - 1).toNat by omega])
      rw [ex] at hzc sx
      refine tnil_go ?_
      refine times_go (hff.tk (Tk.same s3)) hzc ((way_sm L.sm L.st (w.take i)).mono (by omega)) (sx.mono (by decide)) fun c7 H7 s7 h7 => ?_
      refine ⟨_, c7, rfl, sB.trans (s3.trans s7), ?_⟩
      rw [et, wayQ_app]
      show RAt K H7 c7 (rdq (_ * (chR row step (k - 1).toNat * 1)))
      rw [show chR row step (k - 1).toNat * 1 = chR row step (k - 1).toNat by grind]
      exact h7
    · rintro σ HB ⟨z3, ff, rfl, sB, hff⟩
      rw [List.take_of_length_le (by rw [List.length_map]; exact Nat.le_refl _)] at hff
      exact ⟨_, rfl, q ff HB (S1.trans sB) hff⟩
end

end Fp

set_option Elab.async false
set_option linter.all false
set_option maxRecDepth 100000
set_option maxHeartbeats 4000000
set_option exponentiation.threshold 10000
namespace Fp
open PySem PySem.Spec PyProof.Rows L2
/-! ### two clauses in a comprehension -/
section
variable {J J1 : It} {n n1 : Nat} {G G1 : Hp → Prop} {Y Y1 : Nat → Hp → V → Hp → Prop}
def inner2 (J1 : It) (g1 : TG) (tt1 : TT) (te : TE) (vs1 : List Nat) (σ2 : L2.St) (D : Addr) (H4 : Hp) (Nx : Hp → Prop) : Prop := ∃ W1 : Nat → Nat → Hp → Prop, (∃ m, W1 0 m H4) ∧ ∀ j k H, W1 j k H →
      (J1.stop j H ∧ Nx H) ∨ (J1.go j H ∧ ∃ Nx1 : Hp → Prop, (∀ H', Nx1 H' → ∃ k', k' < k ∧ W1 (j + 1) k' H') ∧ ∀ x H', J1.yld j H x H' → g1 x (wipe σ2 vs1) H' fun σ3 H5 => wipe σ3 vs1 = wipe σ2 vs1 ∧ tt1 σ3 H5 fun b H6 =>
        if b = true then te σ3 H6 fun y H7 => ∃ acc, H7 D = some (.lst acc) ∧ acc.length < sizeLine ∧ Nx1 (upd H7 D (.lst (acc ++ [y]))) else Nx1 H6)
theorem inner2_it (w : Walk J1 n1 G1 Y1) {g1 : TG} {tt1 : TT} {te : TE} {vs1 : List Nat} {σ2 : L2.St} {H4 : Hp} {D : Addr} {Nx : Hp → Prop} (Pv : Nat → Hp → Prop) (h0 : Pv 0 H4) (hG : ∀ i H, i ≤ n1 → Pv i H → G1 H)
    (hs : ∀ i x H H', i < n1 → Pv i H → Y1 i H x H' → g1 x (wipe σ2 vs1) H' fun σ3 H5 => wipe σ3 vs1 = wipe σ2 vs1 ∧ tt1 σ3 H5 fun b H6 =>
      if b = true then te σ3 H6 fun y H7 => ∃ acc, H7 D = some (.lst acc) ∧ acc.length < sizeLine ∧ Pv (i + 1) (upd H7 D (.lst (acc ++ [y]))) else Pv (i + 1) H6) (hd : ∀ H, Pv n1 H → Nx H) : inner2 J1 g1 tt1 te vs1 σ2 D H4 Nx := by
  refine ⟨fun i m H => m = n1 - i ∧ i ≤ n1 ∧ Pv i H, ⟨n1, by simp, Nat.zero_le _, h0⟩, ?_⟩
  rintro i m H ⟨rfl, hi, p⟩
  have q := hG i H hi p
  by_cases hlt : i < n1
  · refine .inr ⟨w.goes i H hlt q, Pv (i + 1), fun H' p' => ⟨n1 - (i + 1), by omega, rfl, hlt, p'⟩, fun x H' y => hs i x H H' hlt p (w.yields i H x H' hlt q y)⟩
  · have e : i = n1 := by omega
    subst e
    exact .inl ⟨w.stops H q, hd H p⟩
theorem lc2_it (w : Walk J n G Y) {wi1 : TI} {g g1 : TG} {tt tt1 : TT} {te : TE} {vs vs1 : List Nat} {σ : L2.St} {H1 : Hp} {Qd : Addr → Hp → Prop} (Pv : Addr → Nat → Hp → Prop) (h0 : ∀ D, H1 D = none → Pv D 0 (upd H1 D (.lst []))) (hG : ∀ D i H, i ≤ n → Pv D i H → G H)
    (hs : ∀ D i x H H', H1 D = none → i < n → Pv D i H → Y i H x H' → g x (wipe σ vs) H' fun σ2 H2 => wipe σ2 vs = wipe σ vs ∧ tt σ2 H2 fun b H3 =>
      if b = true then wi1 σ2 H3 fun J1 H4 => inner2 J1 g1 tt1 te vs1 σ2 D H4 (Pv D (i + 1)) else Pv D (i + 1) H3) (hd : ∀ D H, Pv D n H → Qd D H) : tLc2 (fun _ H2 R => R J H2) g tt wi1 g1 tt1 te vs vs1 σ H1 (refQ Qd) := by
  intro D nD
  refine ⟨fun i m H => m = n - i ∧ i ≤ n ∧ Pv D i H, ⟨n, by simp, Nat.zero_le _, h0 D nD⟩, ?_⟩
  rintro i m H ⟨rfl, hi, p⟩
  have q := hG D i H hi p
  by_cases hlt : i < n
  · refine .inr ⟨w.goes i H hlt q, Pv D (i + 1), fun H' p' => ⟨n - (i + 1), by omega, rfl, hlt, p'⟩, fun x H' y => hs D i x H H' nD hlt p (w.yields i H x H' hlt q y)⟩
  · have e : i = n := by omega
    subst e
    exact .inl ⟨w.stops H q, hd D H p⟩
end

end Fp

set_option Elab.async false
set_option linter.all false
set_option maxRecDepth 100000
set_option maxHeartbeats 4000000
set_option exponentiation.threshold 10000
namespace Fp
open PySem PySem.Spec PyProof.Rows L2
/-! ### a comprehension with a test -/
theorem lc_filtW {J : It} {n : Nat} {G : Hp → Prop} {Y : Nat → Hp → V → Hp → Prop} (w : Walk J n G Y) {g : TG} {tt : TT} {te : TE} {vs : List Nat} {σ : L2.St} {H1 : Hp} (f : Nat → Int) (b : Nat → Bool) (hn : n ≤ 900) (hG : ∀ HE, Same H1 HE → G HE)
    (hs : ∀ (k : Nat) (x : V) (HE HE' : Hp) (R : VK) (N : Hp → Prop), k < n → Same H1 HE → Y k HE x HE' → (b k = true → ∀ HF, Same HE HF → R (.int (f k)) HF) → (b k = false → ∀ HF, Same HE HF → N HF) → g x (wipe σ vs) HE' fun σ2 H2 => wipe σ2 vs = wipe σ vs ∧ tt σ2 H2 fun bb H3 => if bb = true then te σ2 H3 R else N H3)
    {Qd : Addr → Hp → Prop} (hd : ∀ D H2, Same H1 H2 → H2 D = some (.lst ((((List.range n).filter b).map f).map V.int)) → Qd D H2) : tLc (fun _ H2 R => R J H2) g tt te vs σ H1 (refQ Qd) := by
  intro D nD
  have e1 := same_new (o := HO.lst []) nD
  refine lc_it w (fun k HE => Same H1 HE ∧ HE D = some (.lst ((((List.range k).filter b).map f).map V.int))) ⟨e1, upd_same⟩ ?_ ?_ ?_
  · rintro i HE _ ⟨sE, _⟩
    exact hG HE sE
  · rintro k x HE HE' hk ⟨sE, hE⟩ hY
    have hfl : ((List.range k).filter b).length ≤ k := by
      have := List.length_filter_le b (List.range k)
      rw [List.length_range] at this
      exact this
    refine hs k x HE HE' _ _ hk sE hY (fun hb HF sF => ?_) (fun hb HF sF => ?_)
    · have hE5 := sF _ _ hE
      refine ⟨_, hE5, by rw [List.length_map, List.length_map]; exact small1000 (by omega), ?_, ?_⟩
      · intro b2 o hb2
        rw [upd_ne (ne_of_none hb2 nD)]
        exact (sE.trans sF) _ _ hb2
      · rw [upd_same, List.range_succ, List.filter_append, List.map_append, List.map_append]
        simp [hb]
    · refine ⟨sE.trans sF, ?_⟩
      rw [List.range_succ, List.filter_append]
      simp only [List.filter_cons, hb, List.filter_nil]
      rw [show ((List.range k).filter b ++ if false = true then [k] else []) = (List.range k).filter b by simp]
      exact sF _ _ hE
  · rintro HE ⟨sE, hE⟩
    exact hd D HE sE hE

end Fp

set_option Elab.async false
set_option linter.all false
set_option maxRecDepth 100000
set_option maxHeartbeats 4000000
set_option exponentiation.threshold 10000
namespace Fp
open PySem PySem.Spec PyProof.Rows L2
/-! ### all ways, rising: as the program finds them -/
def frGo (a : Nat → Rat) (n : Nat) (x : Int) : List (List Int) := (fw a (n - x.toNat)).map fun y => x :: y
theorem fw_firsts (a : Nat → Rat) {n : Nat} (b : Nat → Bool) (hb : ∀ k, b k = true ↔ a k ≠ 0) : ∀ l : List Nat, (∀ j ∈ l, j < n) → ((l.filter b).map fun k : Nat => 1 + (k : Int)).flatMap (frGo a n) = l.flatMap (fwGo a (fw a) n)
  | [], _ => rfl
  | j :: l, h => by
    have ih := fw_firsts a b hb l fun i hi => h i (List.mem_cons_of_mem _ hi)
    rw [List.flatMap_cons, ← ih]
    by_cases z : a j = 0
    · have e : b j = false := by
        cases e : b j with
        | false => rfl
        | true => exact absurd z ((hb j).mp e)
      rw [List.filter_cons_of_neg (by rw [e]; exact Bool.false_ne_true)]
      have e2 : fwGo a (fw a) n j = [] := by
        unfold fwGo
        rw [if_pos z]
      rw [e2, List.nil_append]
    · rw [List.filter_cons_of_pos ((hb j).mpr z), List.map_cons, List.flatMap_cons]
      have e2 : fwGo a (fw a) n j = frGo a n (1 + (j : Int)) := by
        unfold fwGo frGo
        rw [if_neg z, show n - (1 + (j : Int)).toNat = n - 1 - j by omega, Int.add_comm]
      rw [e2]
theorem fw_len (a : Nat → Rat) {D : Int} (C1 : Ch01 D a 20) {n : Nat} (h : n ≤ 20) : (fw a n).length ≤ 2 ^ n := by
  rw [← (aw_perm a n).length_eq, List.length_map]
  exact (aw_ok C1 n h).2
theorem flat_take {α β : Type} (g : α → List β) {xs : List α} {i : Nat} {x : α} (h : xs[i]? = some x) : (xs.take (i + 1)).flatMap g = (xs.take i).flatMap g ++ g x := by
  rw [List.take_add_one, h, List.flatMap_append]
  simp
section
variable {K : PySem.W.Frag}
/-- a way as a tuple -/
def TAt (K : PySem.W.Frag) (H : Hp) (p : Addr) (y : List Int) : Prop := SqT K H p (y.map V.int)
theorem tat_stays : Stays K (TAt K) := fun H H' r y e h => e _ _ h
end
section
variable {P : Program} {w : World} {K : PySem.W.Frag} {mg : Str → Option Value} {base : Heap} {aN aO : Addr}
def spAa (K : PySem.W.Frag) : Sp := fun vs H Q _ => ∃ (p : Addr) (row : List RT) (step : RT) (n beat : Nat) (D : Int), vs = [.ref p, .int (beat : Int)] ∧ LifeAt K H p row step ∧ LifeOk n row step ∧ Ch01 D (chR row step) 20 ∧ beat ≤ 8 ∧
  ∀ z H', Same H H' → H z = none → OLs (TAt K) H' z (fw (chR row step) beat) → Q (.ref z) H'
end

end Fp

set_option Elab.async false
set_option linter.all false
set_option maxRecDepth 100000
set_option maxHeartbeats 4000000
set_option exponentiation.threshold 10000
namespace Fp
open PySem PySem.Spec PyProof.Rows L2
/-! ### enumerate(xs) of a tuple -/
theorem enum1_meets {y : Value} {ob : Obj} {Hh : Heap → Prop} (B : Begins y ob Hh) :
    Meets (Builtin.«enumerate.__new__» ⟨[.type "enumerate", y], []⟩) (fun _ R0 st => Hh st.heap ∧
      R0 (.ok (.ret (.ref (st.heap.push ob).objs.size))) { st with heap := (st.heap.push ob).push { cls := .type "enumerate", data := .fields #[.none, .bool false, .ref st.heap.objs.size, rawInt 0, .none, .none] } }) :=
  .of_wp fun pr wo Ar Rr st hst => by
    obtain ⟨hh, gg, dd, kk, oo⟩ := st
    obtain ⟨b1, b2⟩ := hst
    have subE := sub_enumerate
    have goes : ∀ {A2 : Around} {E2 : Value → Shared → Prop} {Q2 : Value → Shared → Prop}, Q2 (.ref hh.objs.size) ⟨hh.push ob, gg, dd, kk, oo⟩ → wpAny (model pr wo) A2 (pyIter y) Q2 E2 ⟨hh, gg, dd, kk, oo⟩ :=
      fun q2 => B.iter pr wo _ _ ⟨hh, gg, dd, kk, oo⟩ _ b1 q2
    wp_walk using goes
    refine wpAny_stack_any fun sk => wpAny_pure ?_
    split
    · rename_i cc _ _ _ _ _
      cases (cc == Value.type "enumerate")
      · wp_walk using goes
        exact ⟨_, rfl, b2⟩
      · wp_walk using goes
        exact ⟨_, rfl, b2⟩
    · wp_walk using goes
      exact ⟨_, rfl, b2⟩
theorem enum1_begins {prog : Program} {w : World} {A : Around} {F0 : Value → Shared → Prop} {st : Shared} {y : Value} {ob : Obj} {Hh : Heap → Prop} {Q0 : Value → Shared → Prop} (B : Begins y ob Hh) (b1 : Hh st.heap)
    (go : ∀ h2, IsEnum h2 (st.heap.objs.size + 1) st.heap.objs.size 0 .none → h2.get? st.heap.objs.size = some ob → (∀ b o, st.heap.get? b = some o → h2.get? b = some o) → Q0 (.ref (st.heap.objs.size + 1)) { st with heap := h2 }) :
    wpAny (model prog w) A (call (.type "enumerate") [y]) Q0 F0 st := by
  refine callType_new F.called_enumerate (by decide) (F.typeCall_enumerate_1 _) (F.newCall_enumerate_1 _) (fun z => F.args_object_init_2 z _) F.entry_enumerate_new (enum1_meets B) ⟨b1, ?_⟩
  have sz : (st.heap.push ob).objs.size = st.heap.objs.size + 1 := Heap.size_push ..
  show _ ∧ _
  rw [sz]
  have is : IsEnum ((st.heap.push ob).push { cls := .type "enumerate", data := .fields #[.none, .bool false, .ref st.heap.objs.size, rawInt 0, .none, .none] }) (st.heap.objs.size + 1) st.heap.objs.size 0 .none := by
    have z := Heap.get?_push_size (st.heap.push ob) (o := { cls := .type "enumerate", data := .fields #[.none, .bool false, .ref st.heap.objs.size, rawInt 0, .none, .none] }) rfl
    rw [sz] at z
    exact z
  exact ⟨⟨_, is, rfl⟩, go _ is (Heap.get?_push_of_some _ (Heap.get?_push_size _ B.free)) fun b o x => Heap.get?_push_of_some _ (Heap.get?_push_of_some _ x)⟩
theorem pi_eT {X : Cx} {e : Expr} {ta : TA} {p pos tpos : Pos} {elts : List Expr} {kk : Nat} (hg : Gl X "enumerate") (hm : X.mg "enumerate" = none) (ha : PA X [e] ta) (hs : starEach [e] X.env = [(false, eval e X.env)] := by rfl) :
    PI X (.Tuple elts kk tpos) (.Call (.Name "enumerate" p) [e] [] pos) (iQT X.K 0 ta) := by
  refine ⟨fun pn s sl H R I h => Call_ (ld_blt I hg hm boot_enumerate (PyProof.Rows.callWith_type1 (thn (ha.run pos pn s sl H _ I h) fun us s2 z2 => ?_) hs rfl))⟩
  obtain ⟨vs, H2, I2, r1, a, xs, rfl, sq, q⟩ := z2
  cases r1 with
  | cons ra rn =>
    cases rn
    cases ra
    obtain ⟨us, rv, po, _⟩ := I2.tuple sq
    have oa : s2.heap.IsTuple a us.toArray := po
    refine enum1_begins (begins_tuple a us.toArray) oa fun h2 ee oi kp2 => wpAny_pyIter_enum ee ?_
    have I3 : Inv X pn sl H2 { s2 with heap := h2 } := I2.kept (t' := s2.toks) kp2
    refine ⟨s2.heap.objs.size + 1, [s2.heap.objs.size + 1, s2.heap.objs.size], _, _, H2, rfl, I3, turn_qT 0 a (s2.heap.objs.size + 1) s2.heap.objs.size, ⟨⟨.none, ?_⟩, ⟨_, oi, rfl, rfl⟩, Nat.succ_ne_self _⟩, fun b hb => ?_, q⟩
    · rw [show (0 : Int) + ((0 : Nat) : Int) = 0 by omega]
      exact ee
    · have lb : s2.heap.objs.size ≤ b := by
        rcases (show b = s2.heap.objs.size + 1 ∨ b = s2.heap.objs.size by simpa using hb) with z | z
        · rw [z]
          exact Nat.le_add_right _ _
        · rw [z]
          exact Nat.le_refl _
      exact I2.fpOk lb (I2.hok.fresh lb)

end Fp

set_option Elab.async false
set_option linter.all false
set_option maxRecDepth 100000
set_option maxHeartbeats 4000000
set_option exponentiation.threshold 10000
namespace Fp
open PySem PySem.Spec PyProof.Rows L2
/-! ### odd things drawn -/
abbrev s_odd : Stmt := topS 48
abbrev N_odd : List Str := ["_law_feed_here", "_law_some"]
theorem sc_odd : FnScope N_odd ["_law_feed_here"] (defScope s_odd) := ⟨rfl, rfl, rfl, by decide +kernel, rfl, by decide +kernel, by decide +kernel⟩
def odT1 : TA := (tCons (tC .non) (tCons (tC (.bl true)) (tCons (tC (.bl false)) (tCons (tC (.str "")) (tCons (tC (.str "0")) (tCons (tC (.int 0)) (tCons (tC (.int 1)) (tCons (tUn (rU fun i => .int (-i)) (tC (.int 1))) (tCons (tTup tNil) (tCons (tLst tNil) (tCons tDNewK (tCons (tTup (tCons (tC (.int 0)) (tCons (tC (.int 1)) tNil))) (tCons (tTup (tCons (tC (.int 1)) (tCons (tC (.int 1)) tNil))) (tCons (tTup (tCons (tC (.int 1)) (tCons (tC (.int 0)) tNil))) (tCons (tTup (tCons (tC (.int 2)) (tCons (tC (.int 4)) tNil))) (tCons (tLst (tCons (tC (.int 1)) (tCons (tC (.int 2)) tNil))) (tCons (tTup (tCons (tC (.bl true)) (tCons (tC (.int 1)) tNil))) tNil)))))))))))))))))
theorem odL1 {K : PySem.W.Frag} : Lits K odT1 oddD := by
  unfold odT1 oddD
  exact (.cons .non (.cons .bl (.cons .bl (.cons .str (.cons .str (.cons .int (.cons .int (.cons .neg (.cons (.tup .nil (by decide)) (.cons (.lst .nil (by decide)) (.cons .dict (.cons (.tup (.cons .int (.cons .int .nil)) (by decide)) (.cons (.tup (.cons .int (.cons .int .nil)) (by decide)) (.cons (.tup (.cons .int (.cons .int .nil)) (by decide)) (.cons (.tup (.cons .int (.cons .int .nil)) (by decide)) (.cons (.lst (.cons .int (.cons .int .nil)) (by decide)) (.cons (.tup (.cons .bl (.cons .int .nil)) (by decide)) .nil)))))))))))))))))
def odT2 : TA := (tCons (tTup (tCons (tC (.int 0)) (tCons (tC (.int 2)) tNil))) (tCons (tTup (tCons (tC (.int 3)) (tCons (tC (.int 2)) tNil))) (tCons (tTup (tCons (tUn (rU fun i => .int (-i)) (tC (.int 1))) (tCons (tC (.int 2)) tNil))) (tCons (tTup (tCons (tC (.int 1)) (tCons (tC (.int 2)) (tCons (tC (.int 3)) tNil)))) (tCons (tTup (tCons (tTup tNil) (tCons (tTup (tCons (tC (.int 0)) (tCons (tC (.int 1)) tNil))) tNil))) (tCons (tTup (tCons (tTup (tCons (tTup (tCons (tC (.int 1)) (tCons (tC (.int 2)) tNil))) tNil)) (tCons (tTup (tCons (tC (.int 1)) (tCons (tC (.int 2)) tNil))) tNil))) (tCons (tTup (tCons (tTup (tCons (tC (.int 1)) (tCons (tC (.int 2)) tNil))) tNil)) (tCons (tTup (tCons (tOp (rI CPow fun i j => .int (i ^ j.toNat)) (tC (.int 10)) (tC (.int 40))) (tCons (tC (.int 1)) tNil))) tNil))))))))
theorem odL2 {K : PySem.W.Frag} : Lits K odT2 oddD2 := by
  unfold odT2 oddD2
  exact (.cons (.tup (.cons .int (.cons .int .nil)) (by decide)) (.cons (.tup (.cons .int (.cons .int .nil)) (by decide)) (.cons (.tup (.cons .neg (.cons .int .nil)) (by decide)) (.cons (.tup (.cons .int (.cons .int (.cons .int .nil))) (by decide)) (.cons (.tup (.cons (.tup .nil (by decide)) (.cons (.tup (.cons .int (.cons .int .nil)) (by decide)) .nil)) (by decide)) (.cons (.tup (.cons (.tup (.cons (.tup (.cons .int (.cons .int .nil)) (by decide)) .nil) (by decide)) (.cons (.tup (.cons .int (.cons .int .nil)) (by decide)) .nil)) (by decide)) (.cons (.tup (.cons (.tup (.cons .int (.cons .int .nil)) (by decide)) .nil) (by decide)) (.cons (.tup (.cons (.pow ⟨by decide, by decide, by decide⟩) (.cons .int .nil)) (by decide)) .nil))))))))
def odT3 : TA := (tCons (tC (.str "a")) (tCons (tTup (tCons (tC (.int 1)) (tCons (tC (.bl true)) tNil))) (tCons (tTup (tCons (tC (.int 1)) (tCons (tUn (rU fun i => .int (-i)) (tC (.int 2))) tNil))) (tCons (tLst (tCons (tTup (tCons (tC (.int 1)) (tCons (tC (.int 2)) tNil))) tNil)) (tCons (tTup (tCons (tTup (tCons (tC (.int 1)) (tCons (tC (.int 3)) tNil))) (tCons (tTup (tCons (tC (.int 2)) (tCons (tC (.int 3)) tNil))) tNil))) tNil)))))
theorem odL3 {K : PySem.W.Frag} : Lits K odT3 oddD3 := by
  unfold odT3 oddD3
  exact (.cons .str (.cons (.tup (.cons .int (.cons .bl .nil)) (by decide)) (.cons (.tup (.cons .int (.cons .neg .nil)) (by decide)) (.cons (.lst (.cons (.tup (.cons .int (.cons .int .nil)) (by decide)) .nil) (by decide)) (.cons (.tup (.cons (.tup (.cons .int (.cons .int .nil)) (by decide)) (.cons (.tup (.cons .int (.cons .int .nil)) (by decide)) .nil)) (by decide)) .nil)))))
theorem asg_go {te : TE} {g : TG} {b : TS} {D : Ends} {σ : L2.St} {H : Hp} (h : te σ H fun v H1 => g v σ H1 fun σ2 H2 => b D σ2 H2) : tSeq (tAsg te g) b D σ H := h
section
variable {P : Program} {w : World} {K : PySem.W.Frag} {mg : Str → Option Value} {base : Heap}
def spOdd (K : PySem.W.Frag) : Sp := fun vs H Q _ => ∃ (A : Addr → Prop) (d c : Addr) (t : Int), vs = [.ref d] ∧ Feed H d c t ∧ Dom A H ∧ t ≤ 800000 ∧ ∀ v x t' H', Keep d H H' → Feed H' d c t' → t' ≤ t + 1 → DA K A H' v x → Bk 134 4 20 4 x → Q v H'
theorem ok_odd {f fD : Addr} {fd fdD : FuncData} (F : Fun K "_law_odd" "_law_odd" s_odd f fd)
    (FD : Fun K "_law_draw" "_law_draw" s_draw fD fdD) (bD : Binds K fdD ["_law_feed_here", "_law_many"] []) (gD : mg "_law_draw" = some (.ref fD)) (GD : FnOk P w K mg base CX0 1 fD fdD ["_law_feed_here", "_law_many"] spDraw)
    (n_len : mg "len" = none) : FnOk P w K mg base CX0 2 f fd ["_law_feed_here"] (spOdd K) := by
  refine F.ok sc_odd (fun vs H Q E h => ?_) (fun cdv A outer s H vs Q E hr h => ?_)
  · obtain ⟨_, _, _, _, rfl, _⟩ := h
    rfl
  · obtain ⟨A, d, c, t, rfl, f0, dA, ht, q⟩ := h
    refine ⟨_, (pss_cons (ps_set (i := 1) sc_odd.nd rfl (.inl rfl) (pe_lst (pa_cons pe_non (pa_cons pe_bl (pa_cons pe_bl (pa_cons pe_str (pa_cons pe_str (pa_cons pe_int (pa_cons pe_int (pa_cons (pe_un un_neg pe_int) (pa_cons (pe_tup pa_nil) (pa_cons (pe_lst pa_nil) (pa_cons pe_dnewK (pa_cons (pe_tup (pa_cons pe_int (pa_cons pe_int pa_nil))) (pa_cons (pe_tup (pa_cons pe_int (pa_cons pe_int pa_nil))) (pa_cons (pe_tup (pa_cons pe_int (pa_cons pe_int pa_nil))) (pa_cons (pe_tup (pa_cons pe_int (pa_cons pe_int pa_nil))) (pa_cons (pe_lst (pa_cons pe_int (pa_cons pe_int pa_nil))) (pa_cons (pe_tup (pa_cons pe_bl (pa_cons pe_int pa_nil))) pa_nil)))))))))))))))))))
      (pss_cons (ps_set (i := 1) sc_odd.nd rfl (.inl rfl) (pe_op op_cat (pv 1) (pe_lst (pa_cons (pe_tup (pa_cons pe_int (pa_cons pe_int pa_nil))) (pa_cons (pe_tup (pa_cons pe_int (pa_cons pe_int pa_nil))) (pa_cons (pe_tup (pa_cons (pe_un un_neg pe_int) (pa_cons pe_int pa_nil))) (pa_cons (pe_tup (pa_cons pe_int (pa_cons pe_int (pa_cons pe_int pa_nil)))) (pa_cons (pe_tup (pa_cons (pe_tup pa_nil) (pa_cons (pe_tup (pa_cons pe_int (pa_cons pe_int pa_nil))) pa_nil))) (pa_cons (pe_tup (pa_cons (pe_tup (pa_cons (pe_tup (pa_cons pe_int (pa_cons pe_int pa_nil))) pa_nil)) (pa_cons (pe_tup (pa_cons pe_int (pa_cons pe_int pa_nil))) pa_nil))) (pa_cons (pe_tup (pa_cons (pe_tup (pa_cons pe_int (pa_cons pe_int pa_nil))) pa_nil)) (pa_cons (pe_tup (pa_cons (pe_op op_pow pe_int pe_int) (pa_cons pe_int pa_nil))) pa_nil)))))))))))
      (pss_cons (ps_set (i := 1) sc_odd.nd rfl (.inl rfl) (pe_op op_cat (pv 1) (pe_lst (pa_cons pe_str (pa_cons (pe_tup (pa_cons pe_int (pa_cons pe_bl pa_nil))) (pa_cons (pe_tup (pa_cons pe_int (pa_cons (pe_un un_neg pe_int) pa_nil))) (pa_cons (pe_lst (pa_cons (pe_tup (pa_cons pe_int (pa_cons pe_int pa_nil))) pa_nil)) (pa_cons (pe_tup (pa_cons (pe_tup (pa_cons pe_int (pa_cons pe_int pa_nil))) (pa_cons (pe_tup (pa_cons pe_int (pa_cons pe_int pa_nil))) pa_nil))) pa_nil))))))))
      (pss_one (ps_ret (pe_ix ix_list (pv 1) (pe_call GD hr (by rfl) gD FD.kp bD .nil pass0 (pa_cons (pv 0) (pa_cons (pe_callB call_lenN (by rfl) n_len PySem.boot_len (pa_cons (pv 1) pa_nil)) pa_nil))) (fun _ _ => rfl))))))), ?_⟩
    refine asg_go ?_
    refine lst_go (K := K) (ta := odT1) odL1 (by decide) dA fun D1 vs1 H1 s1 h1 e1 => ?_
    refine ⟨_, rfl, ?_⟩
    refine lst_go (K := K) (ta := odT2) odL2 (by decide) (dA.same s1) fun D2 vs2 H2 s2 h2 e2 => ?_
    have l1 := h1.len
    have l2 := h2.len
    refine ⟨D1, D2, _, _, rfl, rfl, s2 _ _ e1, e2, by rw [l1, l2]; decide, fun D3 n3 => ?_⟩
    have g3 := same_new (o := HO.lst (vs1 ++ vs2)) n3
    have e3 : upd H2 D3 (.lst (vs1 ++ vs2)) D3 = some (.lst (vs1 ++ vs2)) := upd_same
    generalize upd H2 D3 (.lst (vs1 ++ vs2)) = H3 at *
    refine ⟨_, rfl, ?_⟩
    refine lst_go (K := K) (ta := odT3) odL3 (by decide) (dA.same (s1.trans (s2.trans g3))) fun D4 vs4 H4 s4 h4 e4 => ?_
    have l4 := h4.len
    refine ⟨D3, D4, _, _, rfl, rfl, s4 _ _ e3, e4, by rw [List.length_append, l1, l2, l4]; decide, fun D5 n5 => ?_⟩
    have g5 := same_new (o := HO.lst (vs1 ++ vs2 ++ vs4)) n5
    have e5 : upd H4 D5 (.lst (vs1 ++ vs2 ++ vs4)) D5 = some (.lst (vs1 ++ vs2 ++ vs4)) := upd_same
    generalize upd H4 D5 (.lst (vs1 ++ vs2 ++ vs4)) = H5 at *
    have S5 := s1.trans (s2.trans (g3.trans (s4.trans g5)))
    have hA : DAs K A H5 (vs1 ++ vs2 ++ vs4) (oddD ++ oddD2 ++ oddD3) := ((h1.same (s2.trans (g3.trans (s4.trans g5)))).app (h2.same (g3.trans (s4.trans g5)))).app (h4.same g5)
    have lA := hA.len
    refine ⟨_, rfl, _, rfl, _, rfl, ?_⟩
    refine tnil_go ?_
    refine ⟨D5, _, rfl, .inl (SqL.of e5), ?_⟩
    refine tnil_go ?_
    rw [lA]
    have f5 := f0.same S5
    refine ⟨d, c, 30, t, rfl, f5, by omega, by decide, by decide, fun r H6 h60 h61 k6 f6 => ?_⟩
    obtain ⟨n, rfl⟩ : ∃ n : Nat, r = (n : Int) := ⟨r.toNat, by omega⟩
    obtain ⟨x, hx⟩ : ∃ x, (oddD ++ oddD2 ++ oddD3)[n]? = some x := ⟨(oddD ++ oddD2 ++ oddD3)[n]'(by show n < 30; omega), List.getElem?_eq_getElem _⟩
    obtain ⟨v, hv, hd⟩ := hA.get hx
    refine ⟨D5, _, _, v, rfl, rfl, sqL_keep f5 k6 (SqL.of e5), atI_nat hv, ?_⟩
    exact q v x _ _ ((Keep.of_same S5).trans k6) f6 (by omega) (hd.keep f5 k6) (odd_bk x (List.mem_of_getElem? hx))
end

end Fp

set_option Elab.async false
set_option linter.all false
set_option maxRecDepth 100000
set_option maxHeartbeats 4000000
set_option exponentiation.threshold 10000
namespace Fp
open PySem PySem.Spec PyProof.Rows L2
/-! ### texts of numbers are texts; a text told twice -/
theorem strOk_of (s : String) : PyData.strOk (Str.ofString s) = true := by
  rw [Str.ofString_eq_toList]
  unfold PyData.strOk
  rw [List.all_toArray, List.all_eq_true]
  intro c hc
  obtain ⟨ch, _, rfl⟩ := List.mem_map.mp hc
  refine decide_eq_true ?_
  have := ch.valid
  show ch.val.toNat < 0x110000
  rcases this with h | h
  · have h2 : ch.val.toNat < 0xd800 := h
    omega
  · have h2 : ch.val.toNat < 0x110000 := h.2
    omega
theorem strOk_app {a b : Str} (ha : PyData.strOk a = true) (hb : PyData.strOk b = true) : PyData.strOk (a ++ b) = true := by
  unfold PyData.strOk at *
  show (a.cps ++ b.cps).all _ = true
  rw [Array.all_append, ha, hb]
  rfl
theorem strOk_join : ∀ {ts : List Str}, (∀ t ∈ ts, PyData.strOk t = true) → PyData.strOk (Str.join ", " ts) = true
  | [], _ => by
    have e : Str.join ", " [] = ⟨#[]⟩ := by simp [Str.join, Str.empty]
    rw [e]
    simp [PyData.strOk]
  | [x], h => h x (List.mem_cons_self ..)
  | x :: y :: r, h => by
    show PyData.strOk (x ++ _ ++ Str.join ", " (y :: r)) = true
    exact strOk_app (strOk_app (h x (List.mem_cons_self ..)) (strOk_of _)) (strOk_join fun t ht => h t (List.mem_cons_of_mem _ ht))
theorem strOk_tup {ts : List Str} (h : ∀ t ∈ ts, PyData.strOk t = true) : PyData.strOk (tupleText ts) = true := by
  unfold tupleText
  refine strOk_app (strOk_app (strOk_of _) (strOk_join h)) ?_
  exact strOk_of _
theorem strOk_rat (x : RT) : PyData.strOk (PyData.shown (ratD x)) = true := by
  show PyData.strOk (tupleText [Str.ofString (toString x.1), Str.ofString (toString x.2)]) = true
  refine strOk_tup fun t ht => ?_
  rcases List.mem_cons.mp ht with z | z
  · rw [z]
    exact strOk_of _
  · rw [List.mem_singleton.mp z]
    exact strOk_of _
theorem strOk_row (xs : List RT) : PyData.strOk (PyData.shown (.tuple (rowD xs))) = true := by
  show PyData.strOk (tupleText (PyData.shownAll (rowD xs))) = true
  refine strOk_tup fun t ht => ?_
  induction xs with
  | nil => cases ht
  | cons x r ih =>
    rcases List.mem_cons.mp (show t ∈ PyData.shown (ratD x) :: PyData.shownAll (rowD r) from ht) with z | z
    · rw [z]
      exact strOk_rat x
    · exact ih z
theorem strOk_rows (xss : List (List RT)) : PyData.strOk (PyData.shown (.tuple (xss.map fun xs => .tuple (rowD xs)))) = true := by
  show PyData.strOk (tupleText (PyData.shownAll (xss.map fun xs => PyData.tuple (rowD xs)))) = true
  refine strOk_tup fun t ht => ?_
  induction xss with
  | nil => cases ht
  | cons x r ih =>
    rcases List.mem_cons.mp (show t ∈ PyData.shown (.tuple (rowD x)) :: PyData.shownAll (r.map fun xs => PyData.tuple (rowD xs)) from ht) with z | z
    · rw [z]
      exact strOk_row x
    · exact ih z
/-- the same text twice -/
theorem ne_twice {K : PySem.W.Frag} {H : Hp} {p q : Addr} {s : Str} {Q : VK} (hs : PyData.strOk s = true) (h1 : H p = some (.lst [.str s, .str s])) (h2 : H q = some (.lst [.str s, .str s])) (h : Q (.bl false) H) : rNeD K (.ref p) (.ref q) H Q := by
  have sh : SeqAt.shaped (.list [.str s, .str s]) = true := by
    show (PyData.strOk s && (PyData.strOk s && true) && decide (_ ≤ 64)) = true
    rw [hs]
    rfl
  refine ⟨_, _, .lst (SqL.of h1) (.cons (.str s) (.cons (.str s) .nil)), .lst (SqL.of h2) (.cons (.str s) (.cons (.str s) .nil)), sh, sh, ?_⟩
  have e : PyData.eqv (.list [.str s, .str s]) (.list [.str s, .str s]) = true := by
    show ((s == s) && ((s == s) && true)) = true
    rw [beq_self_eq_true]
    rfl
  rw [e]
  exact h
section
variable {K : PySem.W.Frag}
/-- a comprehension each turn of which gives one text -/
theorem lc_txt {J : It} {n : Nat} {G : Hp → Prop} {Y : Nat → Hp → V → Hp → Prop} (w : Walk J n G Y) {g : TG} {te : TE} {vs : List Nat} {σ : L2.St} {H1 : Hp} (s : Str) (hn : n ≤ 900) (hG : ∀ HE, Same H1 HE → G HE)
    (hs : ∀ (k : Nat) (x : V) (HE HE' : Hp) (R : VK), k < n → Same H1 HE → Y k HE x HE' → (∀ HF, Same HE HF → R (.str s) HF) → g x (wipe σ vs) HE' fun σ2 H2 => wipe σ2 vs = wipe σ vs ∧ te σ2 H2 R)
    {Qd : Addr → Hp → Prop} (hd : ∀ D H2, Same H1 H2 → H2 D = some (.lst (List.replicate n (V.str s))) → Qd D H2) : tLc (fun _ H2 R => R J H2) g tYes te vs σ H1 (refQ Qd) := by
  intro D nD
  have e1 := same_new (o := HO.lst []) nD
  refine lc_it w (fun k HE => Same H1 HE ∧ HE D = some (.lst (List.replicate k (V.str s)))) ⟨e1, upd_same⟩ ?_ ?_ ?_
  · rintro i HE _ ⟨sE, _⟩
    exact hG HE sE
  · rintro k x HE HE' hk ⟨sE, hE⟩ hY
    refine hs k x HE HE' _ hk sE hY fun HF sF => ?_
    refine ⟨_, sF _ _ hE, by rw [List.length_replicate]; exact small1000 (by omega), ?_, ?_⟩
    · intro b2 o hb2
      rw [upd_ne (ne_of_none hb2 nD)]
      exact (sE.trans sF) _ _ hb2
    · rw [upd_same, List.replicate_succ']
  · rintro HE ⟨sE, hE⟩
    exact hd D HE sE hE
end

end Fp

set_option Elab.async false
set_option linter.all false
set_option maxRecDepth 100000
set_option maxHeartbeats 4000000
set_option exponentiation.threshold 10000
namespace Fp
open PySem PySem.Spec PyProof.Rows L2
/-! ### ways papers: who lets them by -/
abbrev s_ay : Stmt := topS 34
abbrev N_ay : List Str := ["thing", "way"]
theorem sc_ay : FnScope N_ay ["thing"] (defScope s_ay) := ⟨rfl, rfl, rfl, by decide +kernel, rfl, by decide +kernel, by decide +kernel⟩
abbrev s_shp : Stmt := topS 33
abbrev N_shp : List Str := ["thing", "low", "high", "hits", "stands"]
theorem sc_shp : FnScope N_shp ["thing"] (defScope s_shp) := ⟨rfl, rfl, rfl, by decide +kernel, rfl, by decide +kernel, by decide +kernel⟩
abbrev s_fwr : Stmt := topS 35
abbrev N_fwr : List Str := ["ways", "least", "most", "place", "way"]
theorem sc_fwr : FnScope N_fwr ["ways", "least", "most"] (defScope s_fwr) := ⟨rfl, rfl, rfl, by decide +kernel, rfl, by decide +kernel, by decide +kernel⟩
abbrev s_hc : Stmt := topS 36
abbrev N_hc : List Str := ["life", "hits", "way"]
theorem sc_hc : FnScope N_hc ["life", "hits"] (defScope s_hc) := ⟨rfl, rfl, rfl, by decide +kernel, rfl, by decide +kernel, by decide +kernel⟩
abbrev s_sc : Stmt := topS 37
abbrev N_sc : List Str := ["life", "beat", "stands", "lasts", "way"]
theorem sc_sc : FnScope N_sc ["life", "beat", "stands"] (defScope s_sc) := ⟨rfl, rfl, rfl, by decide +kernel, rfl, by decide +kernel, by decide +kernel⟩
abbrev s_lwy : Stmt := topS 32
abbrev N_lwy : List Str := ["life", "beat", "thing", "low", "high", "hits", "stands", "wrong_hit", "wrong_stand"]
theorem sc_lwy : FnScope N_lwy ["life", "beat", "thing"] (defScope s_lwy) := ⟨rfl, rfl, rfl, by decide +kernel, rfl, by decide +kernel, by decide +kernel⟩
def rNotN : R2 := fun x y H Q => y = .non ∧ Q (.bl (!decide (x = .non))) H
theorem op_notN1 {X : Cx} : OpR X (compareOp .IsNot) rNotN := op_notN
def waysB : PyData → Bool
  | .tuple ds => decide (ds.length ≤ 200) && ds.all wayD
  | _ => false
def shapeB : PyData → Bool
  | .tuple [l, h, x, y] => ratioD l && (ratioD h && (waysB x && waysB y))
  | _ => false
def intI : PyData → Int
  | .int i => i
  | _ => 0
def wayI : PyData → List Int
  | .tuple ds => ds.map intI
  | _ => []
def waysI : PyData → List (List Int)
  | .tuple ds => ds.map wayI
  | _ => []
def wD (y : List Int) : PyData := .tuple (y.map PyData.int)
theorem posD_inv {d : PyData} (h : posD d = true) : d = .int (intI d) ∧ 1 ≤ intI d := by
  cases d <;> first | exact ⟨rfl, of_decide_eq_true h⟩ | cases h
theorem ints_inv : ∀ {ds : List PyData}, ds.all posD = true → ds = (ds.map intI).map PyData.int ∧ ∀ x ∈ ds.map intI, (1 : Int) ≤ x
  | [], _ => ⟨rfl, fun _ h => by cases h⟩
  | d :: ds, h => by
    rw [List.all_cons, Bool.and_eq_true] at h
    obtain ⟨h1, h2⟩ := posD_inv h.1
    obtain ⟨g1, g2⟩ := ints_inv h.2
    refine ⟨?_, fun x hx => ?_⟩
    · rw [List.map_cons, List.map_cons, ← g1, ← h1]
    · rcases List.mem_cons.mp hx with rfl | hx
      · exact h2
      · exact g2 x hx
theorem wayD_inv {d : PyData} (h : wayD d = true) : d = wD (wayI d) ∧ ∀ x ∈ wayI d, (1 : Int) ≤ x := by
  cases d with
  | tuple ds =>
    obtain ⟨h1, h2⟩ := ints_inv (show ds.all posD = true from h)
    refine ⟨?_, h2⟩
    show PyData.tuple ds = .tuple ((ds.map intI).map PyData.int)
    rw [← h1]
  | _ => cases h
theorem ways_inv : ∀ {ds : List PyData}, ds.all wayD = true → ds = (ds.map wayI).map wD ∧ ∀ w ∈ ds.map wayI, ∀ x ∈ w, (1 : Int) ≤ x
  | [], _ => ⟨rfl, fun _ h => by cases h⟩
  | d :: ds, h => by
    rw [List.all_cons, Bool.and_eq_true] at h
    obtain ⟨h1, h2⟩ := wayD_inv h.1
    obtain ⟨g1, g2⟩ := ways_inv h.2
    refine ⟨?_, fun x hx => ?_⟩
    · rw [List.map_cons, List.map_cons, ← g1, ← h1]
    · rcases List.mem_cons.mp hx with rfl | hx
      · exact h2
      · exact g2 x hx
theorem waysB_inv {d : PyData} (h : waysB d = true) : d = .tuple ((waysI d).map wD) ∧ (∀ w ∈ waysI d, ∀ x ∈ w, (1 : Int) ≤ x) ∧ (waysI d).length ≤ 200 := by
  cases d with
  | tuple ds =>
    have h : (decide (ds.length ≤ 200) && ds.all wayD) = true := h
    rw [Bool.and_eq_true, decide_eq_true_eq] at h
    obtain ⟨h1, h2⟩ := ways_inv h.2
    refine ⟨?_, h2, by show (ds.map wayI).length ≤ 200; rw [List.length_map]; exact h.1⟩
    show PyData.tuple ds = .tuple ((ds.map wayI).map wD)
    rw [← h1]
  | _ => cases h
theorem intsI (y : List Int) : (y.map PyData.int).map intI = y := by
  induction y with
  | nil => rfl
  | cons x r ih => rw [List.map_cons, List.map_cons, ih]; rfl
theorem wayI_wD (y : List Int) : wayI (wD y) = y := intsI y
theorem waysI_wD (ws : List (List Int)) : waysI (.tuple (ws.map wD)) = ws := by
  show (ws.map wD).map wayI = ws
  induction ws with
  | nil => rfl
  | cons x r ih => rw [List.map_cons, List.map_cons, ih, wayI_wD]
theorem wayD_wD {y : List Int} (h : ∀ x ∈ y, (1 : Int) ≤ x) : wayD (wD y) = true := by
  show (y.map PyData.int).all posD = true
  rw [List.all_map, List.all_eq_true]
  exact fun x hx => decide_eq_true (h x hx)
theorem waysB_wD {ws : List (List Int)} (h : ∀ w ∈ ws, ∀ x ∈ w, (1 : Int) ≤ x) (hl : ws.length ≤ 200) : waysB (.tuple (ws.map wD)) = true := by
  show (decide ((ws.map wD).length ≤ 200) && (ws.map wD).all wayD) = true
  rw [List.length_map, decide_eq_true hl, Bool.true_and, List.all_map, List.all_eq_true]
  exact fun w hw => wayD_wD (h w hw)
/-- is place k wrong -/
def wrongAt (least most : Int) (ws : List (List Int)) (k : Nat) : Bool := !(decide (least ≤ (ws.getD k []).sum) && decide ((ws.getD k []).sum ≤ most)) || (decide (0 < k) && !ltW (ws.getD (k - 1) []) (ws.getD k []))
def fwrFrom (least most : Int) (ws : List (List Int)) : Nat → Nat → Option Nat
  | _, 0 => none
  | k, n + 1 => if wrongAt least most ws k = true then some k else fwrFrom least most ws (k + 1) n
def fwr (least most : Int) (ws : List (List Int)) : Option Nat := fwrFrom least most ws 0 ws.length
theorem fwrFrom_none {least most : Int} {ws : List (List Int)} : ∀ {k n : Nat}, fwrFrom least most ws k n = none ↔ ∀ i, k ≤ i → i < k + n → wrongAt least most ws i = false
  | k, 0 => ⟨fun _ i h1 h2 => absurd h2 (by omega), fun _ => rfl⟩
  | k, n + 1 => by
    unfold fwrFrom
    cases e : wrongAt least most ws k with
    | true =>
      rw [if_pos rfl]
      exact ⟨fun h => (by cases h), fun h => by rw [h k (Nat.le_refl _) (by omega)] at e; cases e⟩
    | false =>
      rw [if_neg (by decide), fwrFrom_none]
      refine ⟨fun h i h1 h2 => ?_, fun h i h1 h2 => h i (by omega) (by omega)⟩
      rcases (by omega : i = k ∨ k + 1 ≤ i) with rfl | z
      · exact e
      · exact h i z (by omega)
theorem fwr_none {least most : Int} {ws : List (List Int)} : fwr least most ws = none ↔ ∀ i, i < ws.length → wrongAt least most ws i = false := by
  unfold fwr
  rw [fwrFrom_none]
  exact ⟨fun h i hi => h i (Nat.zero_le _) (by omega), fun h i _ hi => h i (by omega)⟩
theorem fwrFrom_some {least most : Int} {ws : List (List Int)} : ∀ {n k i : Nat}, k ≤ i → i < k + n → (∀ j, k ≤ j → j < i → wrongAt least most ws j = false) → wrongAt least most ws i = true → fwrFrom least most ws k n = some i
  | 0, k, i, h1, h2, _, _ => absurd h2 (by omega)
  | n + 1, k, i, h1, h2, h3, h4 => by
    unfold fwrFrom
    rcases (by omega : k = i ∨ k + 1 ≤ i) with rfl | z
    · rw [if_pos h4]
    · rw [if_neg (by rw [h3 k (Nat.le_refl _) (by omega)]; decide)]
      exact fwrFrom_some z (by omega) (fun j a b => h3 j (by omega) b) h4
theorem fwr_some {least most : Int} {ws : List (List Int)} {i : Nat} (h : i < ws.length) (h3 : ∀ j, j < i → wrongAt least most ws j = false) (h4 : wrongAt least most ws i = true) : fwr least most ws = some i :=
  fwrFrom_some (Nat.zero_le _) (by omega) (fun j _ b => h3 j b) h4
def hitQ (a : Nat → Rat) (ws : List (List Int)) : Rat := sumTo ws.length fun i => wayQ a (ws.getD i [])
def stvQ (a : Nat → Rat) (beat : Nat) (w : List Int) : Rat := wayQ a w * lastQ a (beat - w.sum.toNat)
def standQ (a : Nat → Rat) (beat : Nat) (ws : List (List Int)) : Rat := sumTo ws.length fun i => stvQ a beat (ws.getD i [])
def rtD : PyData → RT
  | .tuple [.int a, .int b] => (a, b)
  | _ => (0, 1)
/-- what is amiss first -/
def letsW (a : Nat → Rat) (beat : Nat) : PyData → Option (String × Nat)
  | .tuple [l, h, x, y] =>
    if shapeB (.tuple [l, h, x, y]) = true then
      match fwr beat beat (waysI x) with
      | some k => some ("hit", k)
      | none => match fwr 0 ((beat : Int) - 1) (waysI y) with
        | some k => some ("stand", k)
        | none => if hitQ a (waysI x) < qv (rtD l) then some ("low", 0) else if qv (rtD h) < 1 - standQ a beat (waysI y) then some ("high", 0) else none
    else some ("shape", 0)
  | _ => some ("shape", 0)
theorem letsW_shape {a : Nat → Rat} {beat : Nat} {d : PyData} (h : shapeB d = false) : letsW a beat d = some ("shape", 0) := by
  unfold letsW
  split
  · rw [if_neg (by rw [h]; decide)]
  · rfl
/-! comparing two ways -/
theorem lexLe_at (ns ms : List Int) : ∀ (k i : Nat) (x y : List Int), ns.drop i = x → ms.drop i = y → k = min x.length y.length → i ≤ ns.length → i ≤ ms.length →
    Ob.lexAt (fun j => decide (ns.getD j 0 = ms.getD j 0)) (fun j => decide (ns.getD j 0 ≤ ms.getD j 0)) (decide (ns.length ≤ ms.length)) i k = !ltW y x
  | 0, i, x, y, hx, hy, hk, h1, h2 => by
    have l1 : x.length = ns.length - i := by rw [← hx, List.length_drop]
    have l2 : y.length = ms.length - i := by rw [← hy, List.length_drop]
    show decide (ns.length ≤ ms.length) = !ltW y x
    cases x with
    | nil =>
      have : ns.length ≤ ms.length := by rw [List.length_nil] at l1; omega
      rw [decide_eq_true this]
      cases y <;> rfl
    | cons u x =>
      cases y with
      | nil =>
        have : ¬ ns.length ≤ ms.length := by rw [List.length_nil] at l2; rw [List.length_cons] at l1; omega
        rw [decide_eq_false this]
        rfl
      | cons v y => rw [List.length_cons, List.length_cons] at hk; omega
  | k + 1, i, x, y, hx, hy, hk, h1, h2 => by
    cases x with
    | nil => rw [List.length_nil, Nat.zero_min] at hk; omega
    | cons u x =>
      cases y with
      | nil => rw [List.length_nil, Nat.min_zero] at hk; omega
      | cons v y =>
        have l1 : (u :: x).length = ns.length - i := by rw [← hx, List.length_drop]
        have l2 : (v :: y).length = ms.length - i := by rw [← hy, List.length_drop]
        rw [List.length_cons] at l1 l2
        rw [List.length_cons, List.length_cons] at hk
        have g1 : ns.getD i 0 = u := by
          rw [List.getD_eq_getElem?_getD, show ns[i]? = (ns.drop i)[0]? by rw [List.getElem?_drop]; rfl, hx]
          rfl
        have g2 : ms.getD i 0 = v := by
          rw [List.getD_eq_getElem?_getD, show ms[i]? = (ms.drop i)[0]? by rw [List.getElem?_drop]; rfl, hy]
          rfl
        have d1 : ns.drop (i + 1) = x := by rw [← List.drop_drop, hx]; rfl
        have d2 : ms.drop (i + 1) = y := by rw [← List.drop_drop, hy]; rfl
        rw [Ob.lexAt_succ, g1, g2]
        by_cases e : u = v
        · rw [if_pos (decide_eq_true e), lexLe_at ns ms k (i + 1) x y d1 d2 (by omega) (by omega) (by omega)]
          show _ = !(if v = u then ltW y x else decide (v < u))
          rw [if_pos e.symm]
        · rw [if_neg (by rw [decide_eq_false e]; decide)]
          show _ = !(if v = u then ltW y x else decide (v < u))
          rw [if_neg fun z => e z.symm, Bool.eq_iff_iff]
          simp only [decide_eq_true_eq, Bool.not_eq_true', decide_eq_false_iff_not]
          omega
theorem lexLe_is (ns ms : List Int) : Ob.lexAt (fun j => decide (ns.getD j 0 = ms.getD j 0)) (fun j => decide (ns.getD j 0 ≤ ms.getD j 0)) (decide (ns.length ≤ ms.length)) 0 (min ns.length ms.length) = !ltW ms ns :=
  lexLe_at ns ms _ 0 ns ms rfl rfl rfl (Nat.zero_le _) (Nat.zero_le _)
section
variable {K : PySem.W.Frag} {H H' : Hp}
theorem dpx_tat : ∀ {vs : List V} {ws : List (List Int)}, DpXAll K H vs (ws.map wD) → ∃ rs : List Addr, vs = rs.map V.ref ∧ Obs (TAt K) H rs ws
  | [], [], _ => ⟨[], rfl, Obs.nil⟩
  | [], _ :: _, h => by cases h
  | _ :: _, [], h => by cases h
  | v :: vs, w :: ws, h => by
    cases h with
    | cons h1 h2 =>
      obtain ⟨rs, rfl, ho⟩ := dpx_tat h2
      obtain ⟨a, xs, rfl, k1, k2⟩ := (DA.no.mpr h1).tupE
      have k2 := (show DpXAll K H xs (w.map PyData.int) from (by unfold DAs at k2; rw [hid_no] at k2; exact k2))
      have ex : ∀ {xs : List V} {w : List Int}, DpXAll K H xs (w.map PyData.int) → xs = w.map V.int := by
        intro xs w
        induction w generalizing xs with
        | nil => intro h; cases h; rfl
        | cons x r ih =>
          intro h
          cases h with
          | cons g1 g2 =>
            cases g1
            rw [ih g2]
            rfl
      refine ⟨a :: rs, rfl, Obs.append (rs := [a]) (ys := [w]) (Obs.one ?_) ho⟩
      show SqT K H a (w.map V.int)
      rw [← ex k2]
      exact k1
/-- a tuple of ways -/
def WsAt (K : PySem.W.Frag) (H : Hp) (p : Addr) (ws : List (List Int)) : Prop := ∃ rs : List Addr, SqT K H p (rs.map V.ref) ∧ Obs (TAt K) H rs ws
theorem WsAt.same {p : Addr} {ws : List (List Int)} (h : WsAt K H p ws) (s : Same H H') : WsAt K H' p ws := by
  obtain ⟨rs, h1, h2⟩ := h
  exact ⟨rs, sqT_same s h1, h2.tk tat_stays (Tk.same s)⟩
theorem dpx_ws {v : V} {ws : List (List Int)} (h : DpX K H v (.tuple (ws.map wD))) : ∃ p, v = .ref p ∧ WsAt K H p ws := by
  obtain ⟨a, xs, rfl, k1, k2⟩ := (DA.no.mpr h).tupE
  have k2 := (show DpXAll K H xs (ws.map wD) from (by unfold DAs at k2; rw [hid_no] at k2; exact k2))
  obtain ⟨rs, rfl, ho⟩ := dpx_tat k2
  exact ⟨a, rfl, rs, k1, ho⟩
end
theorem ad_go {K : PySem.W.Frag} {p : Addr} {P : Int} {n s k : Nat} {f : Nat → Rat} {H : Hp} {Q : VK} (h : LsM K H p (mkL n f)) (hP : 0 < P) (sP : Sm s P) (z : ∀ j, j < n → Sz P k (f j)) (hn : n ≤ 1000) (hs : s ≤ 2500) (hk : k ≤ 900)
    (q : ∀ r H', Same H H' → RAt K H' r (rdq (sumTo n f)) → Q (.ref r) H') : spAdded K [.ref p] H Q E0 := by
  obtain ⟨rs, h1, h2⟩ := h
  refine ⟨p, _, _, _, P, rfl, ⟨rs, SqL.of h1, h2⟩, over_mkL hP sP z hn, by omega, by omega, fun y x HF sF hy rx vx _ _ => ?_⟩
  have ex : x = rdq (sumTo n f) := is_rdq rx (by rw [vx, mkL_sum])
  rw [ex] at hy
  exact q y HF sF hy
/-- what is needed of the ways of a paper -/
structure WOk22 (beat : Nat) (ws : List (List Int)) : Prop where
  pos : ∀ w ∈ ws, ∀ x ∈ w, (1 : Int) ≤ x
  sum : ∀ w ∈ ws, w.sum ≤ (beat : Int)
  len : ws.length ≤ 300
theorem way_each {w : List Int} {b : Nat} (h1 : ∀ x ∈ w, (1 : Int) ≤ x) (h2 : w.sum ≤ (b : Int)) : ∀ x ∈ w, (1 : Int) ≤ x ∧ x ≤ (b : Int) := fun x hx => by
  refine ⟨h1 x hx, ?_⟩
  obtain ⟨u, v, rfl⟩ := List.append_of_mem hx
  have g1 := way_ge (w := u) fun y hy => h1 y (by simp [hy])
  have g2 := way_ge (w := v) fun y hy => h1 y (by simp [hy])
  rw [List.sum_append, List.sum_cons] at h2
  omega
theorem way_size {n b : Nat} {w : List Int} (h1 : ∀ x ∈ w, (1 : Int) ≤ x) (h2 : w.sum ≤ (b : Int)) (hn : n ≤ 20) (hb : b ≤ 20) : wsz (n + 1) w ≤ 2800 ∧ w.length ≤ 20 := by
  have g := way_ge h1
  have e := wsz_le (n := n + 1) h1
  have h3 : w.length ≤ 20 := by omega
  have : ((n + 1 : Nat) : Int) * (w.length : Int) ≤ 21 * 20 := by
    have a := Nat.mul_le_mul (show n + 1 ≤ 21 by omega) h3
    have : ((n + 1 : Nat) : Int) * (w.length : Int) = ((((n + 1) * w.length : Nat)) : Int) := by rw [Int.natCast_mul]
    omega
  exact ⟨by omega, h3⟩
theorem way_den {a : Nat → Rat} {D : Int} (C1 : Ch01 D a 20) : ∀ {w : List Int}, (∀ x ∈ w, (1 : Int) ≤ x ∧ x ≤ 20) → Den D w.length (wayQ a w) ∧ 0 ≤ wayQ a w ∧ wayQ a w ≤ 1
  | [], _ => ⟨⟨1, by
      show (1 : Rat) = ((1 : Int) : Rat) / ((D ^ 0 : Int) : Rat)
      rw [Int.pow_zero, show ((1 : Int) : Rat) = 1 from rfl]
      grind⟩, by show (0 : Rat) ≤ 1; decide, by show (1 : Rat) ≤ 1; decide⟩
  | x :: r, h => by
    obtain ⟨i1, i2, i3⟩ := way_den C1 (w := r) fun y hy => h y (List.mem_cons_of_mem _ hy)
    have hx := h x (List.mem_cons_self ..)
    have hk : (x - 1).toNat < 20 := by omega
    have d := C1.den _ hk
    have g := C1.ge _ hk
    have l := C1.le _ hk
    refine ⟨?_, Rat.mul_nonneg g i2, ?_⟩
    · have := d.mul C1.pos i1
      rw [List.length_cons, Nat.add_comm]
      exact this
    · show a _ * wayQ a r ≤ 1
      have := Rat.mul_le_mul_of_nonneg_right l i2
      grind
theorem way_sz {a : Nat → Rat} {D : Int} (C1 : Ch01 D a 20) {w : List Int} {b : Nat} (h1 : ∀ x ∈ w, (1 : Int) ≤ x) (h2 : w.sum ≤ (b : Int)) (hb : b ≤ 20) : Sz (D ^ 20) 0 (wayQ a w) := by
  have g := way_ge h1
  obtain ⟨d, g0, g1⟩ := way_den C1 (w := w) fun x hx => by
    have := way_each h1 h2 x hx
    omega
  exact Sz.pos (d.mono C1.pos (show w.length ≤ 20 by omega)).ov g0 (by rw [Rat.pow_zero]; exact g1)
section
variable {P : Program} {w : World} {K : PySem.W.Frag} {mg : Str → Option Value} {base : Heap} {aN aO : Addr}
def spAy (K : PySem.W.Frag) (tAY tIW : Addr) : Sp := fun vs H Q _ => ∃ (v : V) (d : PyData), vs = [v] ∧ DpX K H v d ∧ H tAY = some (tabx tAY) ∧ H tIW = some (tabx tIW) ∧ Q (.bl (waysB d)) H
def spShp (K : PySem.W.Frag) (tAY tIW : Addr) : Sp := fun vs H Q _ => ∃ (v : V) (d : PyData), vs = [v] ∧ DpX K H v d ∧ H tAY = some (tabx tAY) ∧ H tIW = some (tabx tIW) ∧ Q (.bl (shapeB d)) H
def spFwr (K : PySem.W.Frag) : Sp := fun vs H Q _ => ∃ (p : Addr) (ws : List (List Int)) (least most : Int), vs = [.ref p, .int least, .int most] ∧ WsAt K H p ws ∧ ws.length ≤ 300 ∧ ∀ v H', Same H H' → ((fwr least most ws = none ∧ v = .non) ∨ ∃ k : Nat, fwr least most ws = some k ∧ v = .int ((k : Nat) : Int)) → Q v H'
def spHc (K : PySem.W.Frag) : Sp := fun vs H Q _ => ∃ (p pw : Addr) (row : List RT) (step : RT) (n beat : Nat) (D : Int) (ws : List (List Int)), vs = [.ref p, .ref pw] ∧ LifeAt K H p row step ∧ LifeOk n row step ∧ n ≤ 20 ∧ Ch01 D (chR row step) 20 ∧ beat ≤ 20 ∧ WsAt K H pw ws ∧ WOk22 beat ws ∧
  ∀ z H', Same H H' → RAt K H' z (rdq (hitQ (chR row step) ws)) → SmR 1300 (rdq (hitQ (chR row step) ws)) → Q (.ref z) H'
def spSc (K : PySem.W.Frag) : Sp := fun vs H Q _ => ∃ (p pw : Addr) (row : List RT) (step : RT) (n beat : Nat) (D : Int) (ws : List (List Int)), vs = [.ref p, .int (beat : Int), .ref pw] ∧ LifeAt K H p row step ∧ LifeOk n row step ∧ n ≤ 20 ∧ Ch01 D (chR row step) 20 ∧ (∀ k, k ≤ 20 → 0 ≤ lastQ (chR row step) k) ∧ beat ≤ 20 ∧ WsAt K H pw ws ∧ WOk22 beat ws ∧
  ∀ z H', Same H H' → RAt K H' z (rdq (standQ (chR row step) beat ws)) → SmR 2600 (rdq (standQ (chR row step) beat ws)) → Q (.ref z) H'
theorem ok_ay {tIW : Addr} {f fIW : Addr} {fd fdIW : FuncData} {cAY tAY : Addr} (F : FunC K "are_ways" "are_ways" s_ay f fd (.ref cAY)) (TB : GxR.TabB base mg cAY tAY)
    (FIW : Fun K "is_way" "is_way" s_iw fIW fdIW) (bIW : Binds K fdIW ["thing"] []) (gIW : mg "is_way" = some (.ref fIW)) (GIW : FnOk P w K mg base CX0 4 fIW fdIW ["thing"] (spIw K tIW))
    {t_MOST_WAYS : Tok} (c_MOST_WAYS : mg "MOST_WAYS" = some (.int 200 t_MOST_WAYS))
    (n_all : mg "all" = none) (n_isinstance : mg "isinstance" = none) (n_len : mg "len" = none) (n_tuple : mg "tuple" = none) : FnOk P w K mg base CX0 6 f fd ["thing"] (spAy K tAY tIW) := by
  refine F.ok sc_ay (fun vs H Q E h => ?_) (fun A outer s H vs Q E hr h => ?_)
  · obtain ⟨_, _, rfl, _⟩ := h
    rfl
  · obtain ⟨v, d, rfl, hd, hT, hT2, q⟩ := h
    refine ⟨_, (pss_one (ps_ret (pe_and (pe_callB call_isi (by rfl) n_isinstance (by decide +kernel) (pa_cons (pv 0) (pa_cons (pe_bltn (v := .ty "tuple") (by rfl) n_tuple (by decide +kernel) rfl) pa_nil))) (pe_and (pe_cmpR op_le (pe_callB call_lenN (by rfl) n_len PySem.boot_len (pa_cons (pv 0) pa_nil)) (pe_glob (v := .int 200) rfl c_MOST_WAYS ⟨_, rfl⟩) (nomark _)) (pe_one (pe_allG (k := 4) (P := tAY) (own := [("way", 1)]) (g := (gName 1)) (te := (tCall (spIw K tIW) [] E0 (tCons (tVar 1) tNil))) (by rfl) n_all rfl sc_ay.nd hr TB rfl (gxS_by (by decide +kernel)) (pi_tup (pv 0)) (blkOk_by (own := [("way", 1)]) (N := N_ay) (sc := (defScope s_ay)) (by decide +kernel)) (fun _ _ _ _ _ _ _ => (pg_name (i := 1) sc_ay.nd rfl (.inl rfl))) (fun _ _ _ _ _ _ _ hr => (pe_call GIW hr (by rfl) gIW FIW.kp bIW .nil pass0 (pa_cons (pv 1) pa_nil))))))))), ?_⟩
    refine ⟨_, rfl, ?_⟩
    refine tcn_go ?_
    refine isx_tup hd ?_
    refine ⟨_, rfl, ?_⟩
    by_cases ht : isTup d = true
    · obtain ⟨ds, rfl⟩ : ∃ ds, d = .tuple ds := by cases d <;> first | exact ⟨_, rfl⟩ | cases ht
      obtain ⟨ar, ur, rfl, k1, k2⟩ := (DA.no.mpr hd).tupE
      have k2 := (show DpXAll K H ur ds from (by unfold DAs at k2; rw [hid_no] at k2; exact k2))
      have hl := k2.len
      have eW : waysB (.tuple ds) = (decide (ds.length ≤ 200) && ds.all wayD) := rfl
      rw [eW] at q
      refine iteT ?_
      refine ⟨_, rfl, ?_⟩
      refine tnil_go ?_
      refine lenD hd ?_
      refine ⟨_, _, rfl, rfl, _, rfl, ?_⟩
      by_cases h200 : ds.length ≤ 200
      · rw [show decide ((ds.length : Int) ≤ 200) = true from decide_eq_true (by omega)]
        refine iteT ?_
        rw [decide_eq_true h200, Bool.true_and] at q
        refine ⟨_, rfl, ar, rfl, ⟨_, k1⟩, hT, ?_⟩
        refine gx_walk (walk_tup (K := K) (a := ar) (xs := ur)) (fun i HE => HE = H ∧ ∀ j, j < i → ∃ e, ds[j]? = some e ∧ wayD e = true) ⟨rfl, fun j hj => absurd hj (Nat.not_lt_zero _)⟩ (fun i HE _ e => by rw [e.1]; exact k1) (fun i x H2 H3 S hi e hY hS hN => ?_) (fun H2 e => ?_)
        · obtain ⟨rfl, hall⟩ := e
          obtain ⟨rfl, hx⟩ := hY
          obtain ⟨e0, he0⟩ : ∃ e0, ds[i]? = some e0 := ⟨_, List.getElem?_eq_getElem (by omega)⟩
          obtain ⟨v', hv', hde⟩ := k2.get he0
          rw [hx] at hv'
          cases hv'
          refine ⟨rfl, _, rfl, x, e0, rfl, hde, hT2, ?_⟩
          by_cases hce : wayD e0 = true
          · rw [hce]
            refine hS _ ⟨rfl, fun j hj => ?_⟩
            rcases Nat.lt_succ_iff_lt_or_eq.mp hj with z | z
            · exact hall j z
            · rw [z]
              exact ⟨_, he0, hce⟩
          · rw [Bool.not_eq_true] at hce
            rw [hce]
            have e9 : ds.all wayD = false := by
              rw [List.all_eq_false]
              exact ⟨e0, List.mem_of_getElem? he0, by rw [hce]; decide⟩
            rw [e9] at q
            exact hN _ q
        · obtain ⟨rfl, hall⟩ := e
          have e9 : ds.all wayD = true := by
            rw [List.all_eq_true]
            intro y hy
            obtain ⟨j, hj⟩ := List.mem_iff_getElem?.mp hy
            have hj2 := (List.getElem?_eq_some_iff.mp hj).1
            obtain ⟨e, he, hce⟩ := hall j (by omega)
            rw [hj] at he
            cases he
            exact hce
          rw [e9] at q
          exact q
      · rw [show decide ((ds.length : Int) ≤ 200) = false from decide_eq_false (by omega)]
        refine iteF ?_
        rw [decide_eq_false h200, Bool.false_and] at q
        exact q
    · rw [Bool.not_eq_true] at ht
      rw [ht]
      refine iteF ?_
      have e : waysB d = false := by cases d <;> first | rfl | cases ht
      rw [e] at q
      exact q
theorem four_ds : ∀ {ds : List PyData}, ds.length = 4 → ∃ a b c d, ds = [a, b, c, d]
  | [a, b, c, d], _ => ⟨a, b, c, d, rfl⟩
  | [], h => by cases h
  | [_], h => by cases h
  | [_, _], h => by cases h
  | [_, _, _], h => by cases h
  | _ :: _ :: _ :: _ :: _ :: _, h => by simp at h
theorem shapeB_len {ds : List PyData} (h : ds.length ≠ 4) : shapeB (.tuple ds) = false := by
  unfold shapeB
  split
  · rename_i e
    cases e
    exact absurd rfl h
  · rfl
theorem shapeB_tup {d : PyData} (h : isTup d = false) : shapeB d = false := by cases d <;> first | rfl | cases h
theorem ok_shp {tAY tIW : Addr} {f fIR fAY : Addr} {fd fdIR fdAY : FuncData} (F : Fun K "is_shaped" "is_shaped" s_shp f fd)
    (FIR : Fun K "is_ratio" "is_ratio" s_ir fIR fdIR) (bIR : Binds K fdIR ["thing"] []) (gIR : mg "is_ratio" = some (.ref fIR)) (GIR : FnOk P w K mg base CX0 2 fIR fdIR ["thing"] (spIrX K))
    (FAY : Fun K "are_ways" "are_ways" s_ay fAY fdAY) (bAY : Binds K fdAY ["thing"] []) (gAY : mg "are_ways" = some (.ref fAY)) (GAY : FnOk P w K mg base CX0 6 fAY fdAY ["thing"] (spAy K tAY tIW))
    (n_isinstance : mg "isinstance" = none) (n_len : mg "len" = none) (n_tuple : mg "tuple" = none) : FnOk P w K mg base CX0 7 f fd ["thing"] (spShp K tAY tIW) := by
  refine F.ok sc_shp (fun vs H Q E h => ?_) (fun cdv A outer s H vs Q E hr h => ?_)
  · obtain ⟨_, _, rfl, _⟩ := h
    rfl
  · obtain ⟨v, d, rfl, hd, hT, hT2, q⟩ := h
    refine ⟨_, (pss_cons (ps_if (PW.pt (pw_or (pt_not (pt_val (pe_callB call_isi (by rfl) n_isinstance (by decide +kernel) (pa_cons (pv 0) (pa_cons (pe_bltn (v := .ty "tuple") (by rfl) n_tuple (by decide +kernel) rfl) pa_nil))))) (pw_or1 (pt_cmpR op_ne (pe_callB call_lenN (by rfl) n_len PySem.boot_len (pa_cons (pv 0) pa_nil)) pe_int (nomark _))))) (pss_one (ps_ret pe_bl)) pss_nil)
      (pss_cons (ps_asg (pv 0) (pg_tup rfl (pgs_cons (pg_name (i := 1) sc_shp.nd rfl (.inl rfl)) (pgs_cons (pg_name (i := 2) sc_shp.nd rfl (.inl rfl)) (pgs_cons (pg_name (i := 3) sc_shp.nd rfl (.inl rfl)) (pgs_cons (pg_name (i := 4) sc_shp.nd rfl (.inl rfl)) pgs_nil))))))
      (pss_one (ps_ret (pe_and (pe_call GIR (hr.mono (by decide)) (by rfl) gIR FIR.kp bIR .nil pass0 (pa_cons (pv 1) pa_nil)) (pe_and (pe_call GIR (hr.mono (by decide)) (by rfl) gIR FIR.kp bIR .nil pass0 (pa_cons (pv 2) pa_nil)) (pe_and (pe_call GAY hr (by rfl) gAY FAY.kp bAY .nil pass0 (pa_cons (pv 3) pa_nil)) (pe_one (pe_call GAY hr (by rfl) gAY FAY.kp bAY .nil pass0 (pa_cons (pv 4) pa_nil)))))))))), ?_⟩
    refine ⟨_, rfl, ?_⟩
    refine tcn_go ?_
    refine isx_tup hd ?_
    refine ⟨_, rfl, ?_⟩
    by_cases ht : isTup d = true
    · obtain ⟨ds, rfl⟩ : ∃ ds, d = .tuple ds := by cases d <;> first | exact ⟨_, rfl⟩ | cases ht
      refine iteF ?_
      refine ⟨_, rfl, ?_⟩
      refine tnil_go ?_
      refine lenD hd ?_
      refine tC_go ?_
      refine ⟨rfl, _, rfl, ?_⟩
      refine ite2 (fun c => ?_) (fun c => ?_)
      · have hn : ds.length ≠ 4 := fun z => by
          rw [z] at c
          exact absurd c (by decide)
        rw [shapeB_len hn] at q
        exact q
      · have hn : ds.length = 4 := by
          rcases Classical.em (ds.length = 4) with z | z
          · exact z
          · exact absurd (show (!decide (V.int (ds.length : Int) = V.int 4)) = true by
              rw [decide_eq_false (fun y => z (by have := V.int.inj y; omega))]
              rfl) c
        obtain ⟨d1, d2, d3, d4, rfl⟩ := four_ds hn
        clear hn c ht
        obtain ⟨a, xs, rfl, h1, h2⟩ := (DA.no.mpr hd).tupE
        have h2 := (show DpXAll K H xs [d1, d2, d3, d4] from (by unfold DAs at h2; rw [hid_no] at h2; exact h2))
        cases h2 with
        | @cons u1 us _ _ g1 h2 =>
        cases h2 with
        | @cons u2 us _ _ g2 h2 =>
        cases h2 with
        | @cons u3 us _ _ g3 h2 =>
        cases h2 with
        | @cons u4 us _ _ g4 h2 =>
        cases h2
        have eS : shapeB (.tuple [d1, d2, d3, d4]) = (ratioD d1 && (ratioD d2 && (waysB d3 && waysB d4))) := rfl
        rw [eS] at q
        refine ⟨_, rfl, a, _, rfl, h1, rfl, _, _, rfl, _, _, rfl, _, _, rfl, _, _, rfl, rfl, ?_⟩
        refine ⟨_, rfl, u1, d1, rfl, g1, _, rfl, ?_⟩
        cases e1 : ratioD d1 with
        | false =>
          rw [e1, Bool.false_and] at q
          exact iteF q
        | true =>
          rw [e1, Bool.true_and] at q
          refine iteT ?_
          refine ⟨_, rfl, u2, d2, rfl, g2, _, rfl, ?_⟩
          cases e2 : ratioD d2 with
          | false =>
            rw [e2, Bool.false_and] at q
            exact iteF q
          | true =>
            rw [e2, Bool.true_and] at q
            refine iteT ?_
            refine ⟨_, rfl, u3, d3, rfl, g3, hT, hT2, _, rfl, ?_⟩
            cases e3 : waysB d3 with
            | false =>
              rw [e3, Bool.false_and] at q
              exact iteF q
            | true =>
              rw [e3, Bool.true_and] at q
              refine iteT ?_
              refine ⟨_, rfl, u4, d4, rfl, g4, hT, hT2, ?_⟩
              exact q
    · rw [Bool.not_eq_true] at ht
      rw [ht]
      refine iteT ?_
      refine iteT ?_
      rw [shapeB_tup ht] at q
      exact q
theorem ok_fwr {f  : Addr} {fd  : FuncData} (F : Fun K "first_wrong" "first_wrong" s_fwr f fd)
    (n_enumerate : mg "enumerate" = none) (n_sum : mg "sum" = none) : FnOk P w K mg base CX0 2 f fd ["ways", "least", "most"] (spFwr K) := by
  refine F.ok sc_fwr (fun vs H Q E h => ?_) (fun cdv A outer s H vs Q E hr h => ?_)
  · obtain ⟨_, _, _, _, rfl, _⟩ := h
    rfl
  · obtain ⟨p, ws, least, most, rfl, hw, hlen, q⟩ := h
    refine ⟨_, (pss_cons (ps_for PassesOwn.never rfl (pi_eT (by rfl) n_enumerate (pa_cons (pv 0) pa_nil)) (pg_tup rfl (pgs_cons (pg_name (i := 3) sc_fwr.nd rfl (.inl rfl)) (pgs_cons (pg_name (i := 4) sc_fwr.nd rfl (.inl rfl)) pgs_nil))) (pss_cons (ps_if (pt_not (pt_chain op_le op_le (pv 1) (pe_callB (cr_sumT rfl) (by rfl) n_sum (by decide +kernel) (pa_cons (pv 4) pa_nil)) (pv 2))) (pss_one (ps_ret (pv 3))) pss_nil)
      (pss_one (ps_if (PW.pt (pw_and (pt_cmpR op_gt (pv 3) pe_int (nomark _)) (pw_and1 (pt_cmpR (op_leT (Nat.lt_of_succ_lt (hu_of hr))) (pv 4) (pe_ix ix_tup (pv 0) (pe_op op_sub (pv 3) pe_int) (fun _ _ => rfl)) (nomark _))))) (pss_one (ps_ret (pv 3))) pss_nil))))
      (pss_one (ps_ret pe_non))), ?_⟩
    obtain ⟨rs, r1, r2⟩ := id hw
    have hrl := r2.1
    refine ⟨_, rfl, p, _, rfl, r1, ?_⟩
    refine for_it (walk_q (Sq := fun H xs => SqT K H p xs) (k := 0) (xs := rs.map V.ref)) (fun i σ HB => ∃ z3 z4 : Option V, σ = [some (.ref p), some (.int least), some (.int most), z3, z4] ∧ Same H HB ∧ ∀ j, j < i → wrongAt least most ws j = false) ⟨none, none, rfl, Same.refl _, fun j hj => absurd hj (by omega)⟩ (fun i σ HB _ z => ?_) ?_ ?_
    · obtain ⟨_, _, _, sB, _⟩ := z
      exact sqT_same sB r1
    · rintro i v σ HB HB' hi ⟨z3, z4, rfl, sB, hall⟩ ⟨T, x1, x2, rfl, nT, rfl, ex1, ex2⟩
      rw [List.length_map, hrl] at hi
      dsimp only at ex1 ex2
      cases Option.some.inj ex1
      obtain ⟨y, hy⟩ : ∃ y, ws[i]? = some y := ⟨_, List.getElem?_eq_getElem hi⟩
      obtain ⟨r, hr1, hr2⟩ := r2.get hy
      rw [List.getElem?_map, hr1] at ex2
      cases Option.some.inj ex2
      have gT := same_new (o := HO.tup [.int (0 + ((i : Nat) : Int)), .ref r]) nT
      have S := sB.trans gT
      refine ⟨T, _, rfl, SqT.of upd_same, rfl, _, _, rfl, _, _, rfl, rfl, ?_⟩
      generalize upd HB T (HO.tup [.int (0 + ((i : Nat) : Int)), .ref r]) = HC at *
      refine ⟨_, rfl, ?_⟩
      refine ⟨_, rfl, ?_⟩
      refine tnil_go ?_
      refine ⟨r, y, rfl, sqT_same S hr2, ?_⟩
      refine ⟨_, _, rfl, rfl, _, rfl, ?_⟩
      have eg : ws.getD i [] = y := by
        rw [List.getD_eq_getElem?_getD, hy]
        rfl
      have bad : wrongAt least most ws i = true → Q (.int (0 + ((i : Nat) : Int))) HC := fun hw => q _ _ S (.inr ⟨i, fwr_some hi hall hw, by rw [Int.zero_add]⟩)
      by_cases c1 : least ≤ y.sum
      · rw [decide_eq_true c1]
        refine iteT ?_
        refine ⟨_, rfl, _, _, rfl, rfl, _, rfl, ?_⟩
        by_cases c2 : y.sum ≤ most
        · rw [decide_eq_true c2]
          refine iteF ?_
          have ok1 : (!(decide (least ≤ (ws.getD i []).sum) && decide ((ws.getD i []).sum ≤ most))) = false := by
            rw [eg, decide_eq_true c1, decide_eq_true c2]
            rfl
          refine ⟨_, rfl, _, _, rfl, rfl, _, rfl, ?_⟩
          by_cases c3 : 0 < i
          · rw [show decide ((0 : Int) < 0 + ((i : Nat) : Int)) = true from decide_eq_true (by omega)]
            refine iteT ?_
            obtain ⟨y', hy'⟩ : ∃ y', ws[i - 1]? = some y' := ⟨_, List.getElem?_eq_getElem (by omega)⟩
            obtain ⟨r', hr1', hr2'⟩ := r2.get hy'
            have eg' : ws.getD (i - 1) [] = y' := by
              rw [List.getD_eq_getElem?_getD, hy']
              rfl
            refine ⟨_, rfl, ?_⟩
            refine ⟨_, rfl, ?_⟩
            refine ⟨_, rfl, ?_⟩
            refine ⟨_, _, rfl, rfl, ?_⟩
            refine ⟨p, _, _, _, rfl, rfl, sqT_same S r1, at_of (j := i - 1) (by omega) (by rw [List.getElem?_map, hr1']; rfl), ?_⟩
            refine ⟨r, r', y, y', rfl, rfl, sqT_same S hr2, sqT_same S hr2', ?_⟩
            rw [lexLe_is]
            refine ⟨_, rfl, ?_⟩
            have e9 : wrongAt least most ws i = !ltW y' y := by
              unfold wrongAt
              rw [ok1, decide_eq_true c3, eg, eg']
              rfl
            cases c4 : ltW y' y with
            | true =>
              refine iteF ?_
              refine ⟨_, _, rfl, S, fun j hj => ?_⟩
              rcases Nat.lt_succ_iff_lt_or_eq.mp hj with z | z
              · exact hall j z
              · rw [z, e9, c4]
                rfl
            | false =>
              refine iteT ?_
              refine ⟨_, rfl, ?_⟩
              exact bad (by rw [e9, c4]; rfl)
          · rw [show decide ((0 : Int) < 0 + ((i : Nat) : Int)) = false from decide_eq_false (by omega)]
            refine iteF ?_
            refine iteF ?_
            refine ⟨_, _, rfl, S, fun j hj => ?_⟩
            rcases Nat.lt_succ_iff_lt_or_eq.mp hj with z | z
            · exact hall j z
            · rw [z]
              unfold wrongAt
              rw [ok1, decide_eq_false c3]
              rfl
        · rw [decide_eq_false c2]
          refine iteT ?_
          refine ⟨_, rfl, ?_⟩
          exact bad (by unfold wrongAt; rw [eg, decide_eq_false c2, Bool.and_false]; rfl)
      · rw [decide_eq_false c1]
        refine iteF ?_
        refine ⟨_, rfl, ?_⟩
        refine iteT ?_
        refine ⟨_, rfl, ?_⟩
        exact bad (by unfold wrongAt; rw [eg, decide_eq_false c1]; rfl)
    · rintro σ HB ⟨z3, z4, rfl, sB, hall⟩
      rw [List.length_map, hrl] at hall
      exact q _ _ sB (.inl ⟨fwr_none.mpr hall, rfl⟩)
theorem sum_01 {n : Nat} {f : Nat → Rat} (h : ∀ j, j < n → 0 ≤ f j ∧ f j ≤ 1) : 0 ≤ sumTo n f ∧ sumTo n f ≤ ((n : Int) : Rat) := by
  induction n with
  | zero =>
    rw [sumTo_zero]
    exact ⟨Rat.le_refl, Rat.le_refl⟩
  | succ n ih =>
    obtain ⟨h1, h2⟩ := ih fun j hj => h j (by omega)
    obtain ⟨g1, g2⟩ := h n (by omega)
    rw [sumTo_succ, show ((n + 1 : Nat) : Int) = (n : Int) + 1 by omega, Rat.intCast_add, show ((1 : Int) : Rat) = 1 from rfl]
    constructor <;> grind
theorem sum_sz {n e : Nat} {P : Int} {f : Nat → Rat} (hP : 0 < P) (h : ∀ j, j < n → 0 ≤ f j ∧ f j ≤ 1) (ho : ∀ j, j < n → Ov P (f j)) (hn : n ≤ 300) : Sz P 9 (sumTo n f) := by
  obtain ⟨h1, h2⟩ := sum_01 h
  refine Sz.pos (Ov.sum hP ho) h1 (Rat.le_trans h2 ?_)
  have e2 : (2 : Rat) ^ 9 = ((512 : Int) : Rat) := by decide +kernel
  rw [e2]
  exact Rat.intCast_le_intCast.mpr (by omega)
theorem WOk22.at {beat : Nat} {ws : List (List Int)} (W : WOk22 beat ws) {i : Nat} {y : List Int} (h : ws[i]? = some y) : (∀ x ∈ y, (1 : Int) ≤ x) ∧ y.sum ≤ (beat : Int) := ⟨W.pos y (List.mem_of_getElem? h), W.sum y (List.mem_of_getElem? h)⟩
theorem hit_01 {a : Nat → Rat} {D : Int} (C1 : Ch01 D a 20) {beat : Nat} (hb : beat ≤ 20) {ws : List (List Int)} (W : WOk22 beat ws) {i : Nat} (hi : i < ws.length) : Sz (D ^ 20) 0 (wayQ a (ws.getD i [])) ∧ 0 ≤ wayQ a (ws.getD i []) ∧ wayQ a (ws.getD i []) ≤ 1 := by
  have e : ws[i]? = some (ws.getD i []) := by rw [List.getD_eq_getElem?_getD, List.getElem?_eq_getElem hi]; rfl
  obtain ⟨w1, w2⟩ := W.at e
  have d := way_den C1 (w := ws.getD i []) fun x hx => by
    have := way_each w1 w2 x hx
    omega
  exact ⟨way_sz C1 w1 w2 hb, d.2⟩
theorem getD_of {ws : List (List Int)} {i : Nat} {y : List Int} (h : ws[i]? = some y) : ws.getD i [] = y := by
  rw [List.getD_eq_getElem?_getD, h]
  rfl
theorem ok_hc {f fAD fWC : Addr} {fd fdAD fdWC : FuncData} (F : Fun K "hit_chance" "hit_chance" s_hc f fd)
    (FAD : Fun K "added" "added" s_added fAD fdAD) (bAD : Binds K fdAD ["told"] []) (gAD : mg "added" = some (.ref fAD)) (GAD : FnOk P w K mg base CX0 3 fAD fdAD ["told"] (spAdded K))
    (FWC : Fun K "way_chance" "way_chance" s_wc fWC fdWC) (bWC : Binds K fdWC ["life", "way"] []) (gWC : mg "way_chance" = some (.ref fWC)) (GWC : FnOk P w K mg base CX0 6 fWC fdWC ["life", "way"] (spWc K))
    : FnOk P w K mg base CX0 7 f fd ["life", "hits"] (spHc K) := by
  refine F.ok sc_hc (fun vs H Q E h => ?_) (fun cdv A outer s H vs Q E hr h => ?_)
  · obtain ⟨_, _, _, _, _, _, _, _, rfl, _⟩ := h
    rfl
  · obtain ⟨p, pw, row, step, n, beat, D, ws, rfl, hlife, L, hn, C1, hb, hw, W, q⟩ := h
    refine ⟨_, (pss_one (ps_ret (pe_call GAD (hr.mono (by decide)) (by rfl) gAD FAD.kp bAD .nil pass0 (pa_cons (pe_lc (own := [("way", 2)]) (g := (gName 2)) (tt := tYes) (te := (tCall (spWc K) [] E0 (tCons (tVar 0) (tCons (tVar 2) tNil)))) rfl sc_hc.nd (pi_tup (pv 1)) (blkOk_by (own := [("way", 2)]) (N := N_hc) (sc := (defScope s_hc)) (by decide +kernel)) (fun _ _ _ _ _ => (pg_name (i := 2) sc_hc.nd rfl (.inl rfl))) (fun _ _ _ _ _ => pts_nil) (fun _ _ _ _ _ => (pe_call GWC hr (by rfl) gWC FWC.kp bWC .nil pass0 (pa_cons (pv 0) (pa_cons (pv 2) pa_nil))))) pa_nil)))), ?_⟩
    obtain ⟨rs, r1, r2⟩ := id hw
    have hrl := r2.1
    have hwl := W.len
    refine ⟨_, rfl, pw, rfl, ⟨_, r1⟩, ?_⟩
    refine lc_mkW (K := K) (walk_tup (K := K) (a := pw) (xs := rs.map V.ref)) (fun i => wayQ (chR row step) (ws.getD i [])) (by rw [List.length_map]; omega) (fun HE sE => sqT_same sE r1) (fun i v HE HE' R hi sE hY qr => ?_) (fun Dd H2 s2 hD => ?_)
    · obtain ⟨rfl, hv⟩ := hY
      rw [List.length_map, hrl] at hi
      obtain ⟨y, hy⟩ : ∃ y, ws[i]? = some y := ⟨_, List.getElem?_eq_getElem hi⟩
      obtain ⟨r, hr1, hr2⟩ := r2.get hy
      rw [List.getElem?_map, hr1] at hv
      cases Option.some.inj hv
      obtain ⟨w1, w2⟩ := W.at hy
      have we := way_each w1 w2
      have ⟨z1, z2⟩ := way_size w1 w2 hn hb
      rw [getD_of hy] at qr
      refine ⟨rfl, ?_⟩
      refine ⟨_, rfl, ?_⟩
      refine ⟨_, rfl, ?_⟩
      refine tnil_go ?_
      exact ⟨p, r, row, step, n, y, rfl, hlife.tk (Tk.same sE), L, tat_stays _ _ _ _ (Tk.same sE) hr2, fun x hx => ⟨w1 x hx, by have := (we x hx).2; omega⟩, z1, by omega, fun z HF sF hz => qr z HF sF hz⟩
    · rw [List.length_map, hrl] at hD
      refine tnil_go ?_
      have hP := C1.powSm 20
      refine ad_go hD hP.1 hP.2 (fun j hj => (hit_01 C1 hb W hj).1) (by omega) (by decide) (by decide) fun z H3 s3 hz => ?_
      have zz := sum_sz (e := 0) hP.1 (fun j hj => (hit_01 C1 hb W hj).2) (fun j hj => (hit_01 C1 hb W hj).1.ov) hwl
      exact q z H3 (s2.trans s3) hz (zz.smr hP.1 hP.2 (by decide))
theorem st_01 {a : Nat → Rat} {D : Int} (C1 : Ch01 D a 20) (hs : ∀ k, k ≤ 20 → 0 ≤ lastQ a k) {beat : Nat} (hb : beat ≤ 20) {ws : List (List Int)} (W : WOk22 beat ws) {i : Nat} (hi : i < ws.length) : Sz (D ^ 20 * D) 8 (stvQ a beat (ws.getD i [])) ∧ 0 ≤ stvQ a beat (ws.getD i []) ∧ stvQ a beat (ws.getD i []) ≤ 1 := by
  have e : ws[i]? = some (ws.getD i []) := by rw [List.getD_eq_getElem?_getD, List.getElem?_eq_getElem hi]; rfl
  obtain ⟨w1, w2⟩ := W.at e
  obtain ⟨h1, h2, h3⟩ := hit_01 C1 hb W hi
  have hk : beat - (ws.getD i []).sum.toNat ≤ 20 := by omega
  have l1 := C1.lastSz hk (by omega)
  have l2 := hs _ hk
  have l3 : lastQ a (beat - (ws.getD i []).sum.toNat) ≤ 1 := by
    have := (sum_01 (n := beat - (ws.getD i []).sum.toNat) (f := a) fun j hj => ⟨C1.ge j (by omega), C1.le j (by omega)⟩).1
    unfold lastQ
    grind
  refine ⟨h1.mul (C1.powSm 20).1 C1.pos l1, Rat.mul_nonneg h2 l2, ?_⟩
  show wayQ a _ * lastQ a _ ≤ 1
  have := Rat.mul_le_mul_of_nonneg_right h3 l2
  grind
theorem ok_sc {f fLS fAD fT fWC : Addr} {fd fdLS fdAD fdT fdWC : FuncData} (F : Fun K "stand_chance" "stand_chance" s_sc f fd)
    (FLS : Fun K "lastings_to" "lastings_to" s_ls fLS fdLS) (bLS : Binds K fdLS ["life", "most"] []) (gLS : mg "lastings_to" = some (.ref fLS)) (GLS : FnOk P w K mg base CX0 5 fLS fdLS ["life", "most"] (spLst K))
    (FAD : Fun K "added" "added" s_added fAD fdAD) (bAD : Binds K fdAD ["told"] []) (gAD : mg "added" = some (.ref fAD)) (GAD : FnOk P w K mg base CX0 3 fAD fdAD ["told"] (spAdded K))
    (FT : Fun K "times" "times" s_times fT fdT) (bT : Binds K fdT ["one", "other"] []) (gT : mg "times" = some (.ref fT)) (GT : FnOk P w K mg base CX0 3 fT fdT ["one", "other"] (spTwo K (fun a b c d => a * c)))
    (FWC : Fun K "way_chance" "way_chance" s_wc fWC fdWC) (bWC : Binds K fdWC ["life", "way"] []) (gWC : mg "way_chance" = some (.ref fWC)) (GWC : FnOk P w K mg base CX0 6 fWC fdWC ["life", "way"] (spWc K))
    (n_sum : mg "sum" = none) : FnOk P w K mg base CX0 7 f fd ["life", "beat", "stands"] (spSc K) := by
  refine F.ok sc_sc (fun vs H Q E h => ?_) (fun cdv A outer s H vs Q E hr h => ?_)
  · obtain ⟨_, _, _, _, _, _, _, _, rfl, _⟩ := h
    rfl
  · obtain ⟨p, pw, row, step, n, beat, D, ws, rfl, hlife, L, hn, C1, hls, hb, hw, W, q⟩ := h
    refine ⟨_, (pss_cons (ps_set (i := 3) sc_sc.nd rfl (.inr rfl) (pe_call GLS (hr.mono (by decide)) (by rfl) gLS FLS.kp bLS .nil pass0 (pa_cons (pv 0) (pa_cons (pv 1) pa_nil))))
      (pss_one (ps_ret (pe_call GAD (hr.mono (by decide)) (by rfl) gAD FAD.kp bAD .nil pass0 (pa_cons (pe_lc (own := [("way", 4)]) (g := (gName 4)) (tt := tYes) (te := (tCall (spTwo K (fun a b c d => a * c)) [] E0 (tCons (tCall (spWc K) [] E0 (tCons (tVar 0) (tCons (tVar 4) tNil))) (tCons (tOp (rIxL K) (tVar 3) (tOp (rI0 fun i j => .int (i - j)) (tVar 1) (tCB (rSumT K) (tCons (tVar 4) tNil)))) tNil)))) rfl sc_sc.nd (pi_tup (pv 2)) (blkOk_by (own := [("way", 4)]) (N := N_sc) (sc := (defScope s_sc)) (by decide +kernel)) (fun _ _ _ _ _ => (pg_name (i := 4) sc_sc.nd rfl (.inl rfl))) (fun _ _ _ _ _ => pts_nil) (fun _ _ _ _ _ => (pe_call GT (hr.mono (by decide)) (by rfl) gT FT.kp bT .nil pass0 (pa_cons (pe_call GWC hr (by rfl) gWC FWC.kp bWC .nil pass0 (pa_cons (pv 0) (pa_cons (pv 4) pa_nil))) (pa_cons (pe_ix ix_list (pv 3) (pe_op op_sub (pv 1) (pe_callB (cr_sumT rfl) (by rfl) n_sum (by decide +kernel) (pa_cons (pv 4) pa_nil))) (fun _ _ => rfl)) pa_nil))))) pa_nil))))), ?_⟩
    obtain ⟨rs, r1, r2⟩ := id hw
    have hrl := r2.1
    have hwl := W.len
    refine ⟨_, rfl, ?_⟩
    refine ⟨_, rfl, ?_⟩
    refine tnil_go ?_
    refine ⟨p, row, step, n, beat, D, rfl, hlife, L, C1, hb, fun zl H1 s1 hzl => ?_⟩
    refine ⟨_, rfl, pw, rfl, ⟨_, sqT_same s1 r1⟩, ?_⟩
    refine lc_mkW (K := K) (walk_tup (K := K) (a := pw) (xs := rs.map V.ref)) (fun i => stvQ (chR row step) beat (ws.getD i [])) (by rw [List.length_map]; omega) (fun HE sE => sqT_same (s1.trans sE) r1) (fun i v HE HE' R hi sE hY qr => ?_) (fun Dd H2 s2 hD => ?_)
    · obtain ⟨rfl, hv⟩ := hY
      rw [List.length_map, hrl] at hi
      obtain ⟨y, hy⟩ : ∃ y, ws[i]? = some y := ⟨_, List.getElem?_eq_getElem hi⟩
      obtain ⟨r, hr1, hr2⟩ := r2.get hy
      rw [List.getElem?_map, hr1] at hv
      cases Option.some.inj hv
      obtain ⟨w1, w2⟩ := W.at hy
      have we := way_each w1 w2
      have ⟨z1, z2⟩ := way_size w1 w2 hn hb
      have wg := way_ge w1
      rw [getD_of hy] at qr
      have SE := s1.trans sE
      refine ⟨rfl, ?_⟩
      refine ⟨_, rfl, ?_⟩
      refine ⟨_, rfl, ?_⟩
      refine tnil_go ?_
      refine ⟨p, r, row, step, n, y, rfl, hlife.tk (Tk.same SE), L, tat_stays _ _ _ _ (Tk.same SE) hr2, fun x hx => ⟨w1 x hx, by have := (we x hx).2; omega⟩, z1, by omega, fun z HF sF hz => ?_⟩
      refine ⟨_, rfl, ?_⟩
      refine ⟨_, rfl, ?_⟩
      refine ⟨_, rfl, ?_⟩
      refine tnil_go ?_
      refine ⟨r, y, rfl, tat_stays _ _ _ _ (Tk.same (SE.trans sF)) hr2, ?_⟩
      refine ⟨_, _, rfl, rfl, ?_⟩
      obtain ⟨ls, k1, k2⟩ := hzl
      refine LsM.ix (K := K) (m := beat - y.sum.toNat) (xs := mkL (beat + 1) (lastQ (chR row step))) ⟨ls, (sE.trans sF) _ _ k1, k2.tk (Tk.same (sE.trans sF))⟩ (by omega) (mkL_at (by omega)) fun r2' hr2' => ?_
      refine tnil_go ?_
      have hP := C1.powSm 20
      have sw := (way_sz C1 w1 w2 hb).smr hP.1 hP.2 (show _ ≤ 3000 by decide)
      have sl := (C1.lastSz (k := beat - y.sum.toNat) (by omega) (by omega)).smr (n := 3000) C1.pos C1.sm (by decide)
      refine times_go hz hr2' sw sl fun z3 H3 s3 h3 => ?_
      exact qr z3 H3 (sF.trans s3) h3
    · rw [List.length_map, hrl] at hD
      refine tnil_go ?_
      have hP := C1.powSm 20
      have hPD := Int.mul_pos hP.1 C1.pos
      have sPD := hP.2.mul C1.sm
      have hz01 := fun j hj => st_01 C1 hls hb W (i := j) hj
      refine ad_go hD hPD sPD (fun j hj => (hz01 j hj).1) (by omega) (by decide) (by decide) fun z H3 s3 hz => ?_
      have zz := sum_sz (e := 0) hPD (fun j hj => (hz01 j hj).2) (fun j hj => (hz01 j hj).1.ov) hwl
      exact q z H3 (s1.trans (s2.trans s3)) hz (zz.smr hPD sPD (by decide))
def spLets (K : PySem.W.Frag) (C tAY tIW : Addr) : Sp := fun vs H Q E => ∃ (p : Addr) (row : List RT) (step : RT) (n beat : Nat) (D : Int) (v : V) (d : PyData) (b l c k : Nat), vs = [.ref p, .int (beat : Int), v] ∧ LifeAt K H p row step ∧ LifeOk n row step ∧ n ≤ 20 ∧ Ch01 D (chR row step) 20 ∧ (∀ k, k ≤ 20 → 0 ≤ lastQ (chR row step) k) ∧ beat ≤ 20 ∧ DpX K H v d ∧ Bk b l c k d ∧ b ≤ 1900 ∧ H tAY = some (tabx tAY) ∧ H tIW = some (tabx tIW) ∧
  (∀ word place, letsW (chR row step) beat d = some (word, place) → ∀ x H', Same H H' → H' x = some (.xd [("place", .int ((place : Nat) : Int)), ("word", .str (Str.ofString word))]) → E (.ref C) (some x) H') ∧
  (letsW (chR row step) beat d = none → ∀ H', Same H H' → Q (.bl true) H')
theorem shapeB_inv {d : PyData} (h : shapeB d = true) : ∃ d1 d2 d3 d4, d = .tuple [d1, d2, d3, d4] ∧ ratioD d1 = true ∧ ratioD d2 = true ∧ waysB d3 = true ∧ waysB d4 = true := by
  unfold shapeB at h
  split at h
  · simp only [Bool.and_eq_true] at h
    exact ⟨_, _, _, _, rfl, h.1, h.2.1, h.2.2.1, h.2.2.2⟩
  · cases h
theorem qv_lt {x y : RT} (hx : Red x) (hy : Red y) : qv x < qv y ↔ x.1 * y.2 < y.1 * x.2 := by
  have a0 := cast_ne (Int.ne_of_gt hx.1)
  have b0 := cast_ne (Int.ne_of_gt hy.1)
  have a1 : (0 : Rat) < (x.2 : Rat) := Rat.intCast_pos.mpr hx.1
  have b1 : (0 : Rat) < (y.2 : Rat) := Rat.intCast_pos.mpr hy.1
  have e1 : (x.1 : Rat) = qv x * (x.2 : Rat) := by unfold qv; grind
  have e2 : (y.1 : Rat) = qv y * (y.2 : Rat) := by unfold qv; grind
  have c1 : ((x.1 * y.2 : Int) : Rat) = qv x * ((x.2 : Rat) * (y.2 : Rat)) := by rw [Rat.intCast_mul, e1]; grind
  have c2 : ((y.1 * x.2 : Int) : Rat) = qv y * ((x.2 : Rat) * (y.2 : Rat)) := by rw [Rat.intCast_mul, e2]; grind
  have hp : (0 : Rat) < (x.2 : Rat) * (y.2 : Rat) := Rat.mul_pos a1 b1
  constructor
  · intro h
    have := Rat.mul_lt_mul_of_pos_right h hp
    rw [← c1, ← c2] at this
    exact Rat.intCast_lt_intCast.mp this
  · intro h
    rcases Classical.em (qv x < qv y) with z | z
    · exact z
    · exfalso
      have := Rat.mul_le_mul_of_nonneg_right (Rat.not_lt.mp z) (Rat.le_of_lt hp)
      rw [← c1, ← c2] at this
      have := Rat.intCast_le_intCast.mp this
      omega
theorem lt_dec {x y : RT} (hx : Red x) (hy : Red y) : decide (x.1 * y.2 < y.1 * x.2) = decide (qv x < qv y) := decide_eq_decide.mpr (qv_lt hx hy).symm
theorem ok_lwy {tAY tIW : Addr} {f fSHP fFWR fIB fHC fM fSC : Addr} {fd fdSHP fdFWR fdIB fdHC fdM fdSC : FuncData} {e : EC} (F : Fun K "lets_ways" "lets_ways" s_lwy f fd) (C : Consts K mg aN aO)
    (FSHP : Fun K "is_shaped" "is_shaped" s_shp fSHP fdSHP) (bSHP : Binds K fdSHP ["thing"] []) (gSHP : mg "is_shaped" = some (.ref fSHP)) (GSHP : FnOk P w K mg base CX0 7 fSHP fdSHP ["thing"] (spShp K tAY tIW))
    (FFWR : Fun K "first_wrong" "first_wrong" s_fwr fFWR fdFWR) (bFWR : Binds K fdFWR ["ways", "least", "most"] []) (gFWR : mg "first_wrong" = some (.ref fFWR)) (GFWR : FnOk P w K mg base CX0 2 fFWR fdFWR ["ways", "least", "most"] (spFwr K))
    (FIB : Fun K "is_below" "is_below" s_ib fIB fdIB) (bIB : Binds K fdIB ["one", "other"] []) (gIB : mg "is_below" = some (.ref fIB)) (GIB : FnOk P w K mg base CX0 1 fIB fdIB ["one", "other"] (spIb K))
    (FHC : Fun K "hit_chance" "hit_chance" s_hc fHC fdHC) (bHC : Binds K fdHC ["life", "hits"] []) (gHC : mg "hit_chance" = some (.ref fHC)) (GHC : FnOk P w K mg base CX0 7 fHC fdHC ["life", "hits"] (spHc K))
    (FM : Fun K "minus" "minus" s_minus fM fdM) (bM : Binds K fdM ["one", "other"] []) (gM : mg "minus" = some (.ref fM)) (GM : FnOk P w K mg base CX0 3 fM fdM ["one", "other"] (spTwo K (fun a b c d => a * d - c * b)))
    (FSC : Fun K "stand_chance" "stand_chance" s_sc fSC fdSC) (bSC : Binds K fdSC ["life", "beat", "stands"] []) (gSC : mg "stand_chance" = some (.ref fSC)) (GSC : FnOk P w K mg base CX0 7 fSC fdSC ["life", "beat", "stands"] (spSc K))
    {iF : Addr} {fdiF : FuncData} (EF : ErrF K mg e.F iF fdiF) {iP : Addr} {fdiP : FuncData} (EP : ErrP K mg e.P iP fdiP) (ENPword : PySem.W.findIn K (.ref e.P) "word" = some none) (ENPplace : PySem.W.findIn K (.ref e.P) "place" = some none)
    : FnOk P w K mg base (L2.CX P w) 8 f fd ["life", "beat", "thing"] (spLets K e.P tAY tIW) := by
  refine F.okX sc_lwy (fun vs H Q E h => ?_) (fun cdv A outer s H vs Q E hr h => ?_)
  · obtain ⟨_, _, _, _, _, _, _, _, _, _, _, _, rfl, _⟩ := h
    rfl
  · obtain ⟨p, row, step, n, beat, D, v, d, b, l, c, k, rfl, hlife, L, hn, C1, hls, hb, hd, hB, hb2, hT, hT2, q0, q1⟩ := h
    refine ⟨_, (pss_cons (ps_if (pt_not (pt_val (pe_call GSHP hr (by rfl) gSHP FSHP.kp bSHP .nil pass0 (pa_cons (pv 2) pa_nil)))) (pss_one (ps_raise rfl (takes_of rfl rfl rfl rfl) (pmk_oex EP.o EP.i EP.t (ok_iP EF EP) (hr.mono (by decide)) EP.b .nil pass0 (by rfl) EP.g (pa_cons pe_str (pa_cons pe_int pa_nil))))) pss_nil)
      (pss_cons (ps_asg (pv 2) (pg_tup rfl (pgs_cons (pg_name (i := 3) sc_lwy.nd rfl (.inl rfl)) (pgs_cons (pg_name (i := 4) sc_lwy.nd rfl (.inl rfl)) (pgs_cons (pg_name (i := 5) sc_lwy.nd rfl (.inl rfl)) (pgs_cons (pg_name (i := 6) sc_lwy.nd rfl (.inl rfl)) pgs_nil))))))
      (pss_cons (ps_set (i := 7) sc_lwy.nd rfl (.inl rfl) (pe_call GFWR (hr.mono (by decide)) (by rfl) gFWR FFWR.kp bFWR .nil pass0 (pa_cons (pv 5) (pa_cons (pv 1) (pa_cons (pv 1) pa_nil)))))
      (pss_cons (ps_if (pt_cmpR op_notN1 (pv 7) pe_non (nomark _)) (pss_one (ps_raise rfl (takes_of rfl rfl rfl rfl) (pmk_oex EP.o EP.i EP.t (ok_iP EF EP) (hr.mono (by decide)) EP.b .nil pass0 (by rfl) EP.g (pa_cons pe_str (pa_cons (pv 7) pa_nil))))) pss_nil)
      (pss_cons (ps_set (i := 8) sc_lwy.nd rfl (.inl rfl) (pe_call GFWR (hr.mono (by decide)) (by rfl) gFWR FFWR.kp bFWR .nil pass0 (pa_cons (pv 6) (pa_cons pe_int (pa_cons (pe_op op_sub (pv 1) pe_int) pa_nil)))))
      (pss_cons (ps_if (pt_cmpR op_notN1 (pv 8) pe_non (nomark _)) (pss_one (ps_raise rfl (takes_of rfl rfl rfl rfl) (pmk_oex EP.o EP.i EP.t (ok_iP EF EP) (hr.mono (by decide)) EP.b .nil pass0 (by rfl) EP.g (pa_cons pe_str (pa_cons (pv 8) pa_nil))))) pss_nil)
      (pss_cons (ps_if (pt_val (pe_call GIB (hr.mono (by decide)) (by rfl) gIB FIB.kp bIB .nil pass0 (pa_cons (pe_call GHC hr (by rfl) gHC FHC.kp bHC .nil pass0 (pa_cons (pv 0) (pa_cons (pv 5) pa_nil))) (pa_cons (pv 3) pa_nil)))) (pss_one (ps_raise rfl (takes_of rfl rfl rfl rfl) (pmk_oex EP.o EP.i EP.t (ok_iP EF EP) (hr.mono (by decide)) EP.b .nil pass0 (by rfl) EP.g (pa_cons pe_str (pa_cons pe_int pa_nil))))) pss_nil)
      (pss_cons (ps_if (pt_val (pe_call GIB (hr.mono (by decide)) (by rfl) gIB FIB.kp bIB .nil pass0 (pa_cons (pv 4) (pa_cons (pe_call GM (hr.mono (by decide)) (by rfl) gM FM.kp bM .nil pass0 (pa_cons (pe_glob (v := .ref aO) rfl C.gO rfl) (pa_cons (pe_call GSC hr (by rfl) gSC FSC.kp bSC .nil pass0 (pa_cons (pv 0) (pa_cons (pv 1) (pa_cons (pv 6) pa_nil)))) pa_nil))) pa_nil)))) (pss_one (ps_raise rfl (takes_of rfl rfl rfl rfl) (pmk_oex EP.o EP.i EP.t (ok_iP EF EP) (hr.mono (by decide)) EP.b .nil pass0 (by rfl) EP.g (pa_cons pe_str (pa_cons pe_int pa_nil))))) pss_nil)
      (pss_one (ps_ret pe_bl)))))))))), ?_⟩
    refine ⟨_, rfl, v, d, rfl, hd, hT, hT2, _, rfl, ?_⟩
    cases hsh : shapeB d with
    | false =>
      refine iteT ?_
      refine raise2 EP.o ENPword ENPplace fun x nx => ?_
      exact q0 "shape" 0 (letsW_shape hsh) x _ (same_new nx) upd_same
    | true =>
      refine iteF ?_
      obtain ⟨d1, d2, d3, d4, rfl, r1, r2, w3, w4⟩ := shapeB_inv hsh
      obtain ⟨a, xs, rfl, h1, h2⟩ := (DA.no.mpr hd).tupE
      have h2 := (show DpXAll K H xs [d1, d2, d3, d4] from (by unfold DAs at h2; rw [hid_no] at h2; exact h2))
      cases h2 with
      | @cons u1 us _ _ g1 h2 =>
      cases h2 with
      | @cons u2 us _ _ g2 h2 =>
      cases h2 with
      | @cons u3 us _ _ g3 h2 =>
      cases h2 with
      | @cons u4 us _ _ g4 h2 =>
      cases h2
      obtain ⟨t1, b1, rfl, red1⟩ := ratioD_inv r1
      obtain ⟨t2, b2, rfl, red2⟩ := ratioD_inv r2
      obtain ⟨e3, pos3, len3⟩ := waysB_inv w3
      obtain ⟨e4, pos4, len4⟩ := waysB_inv w4
      have eL : letsW (chR row step) beat (.tuple [.tuple [.int t1, .int b1], .tuple [.int t2, .int b2], d3, d4]) = (match fwr beat beat (waysI d3) with
        | some k => some ("hit", k)
        | none => match fwr 0 ((beat : Int) - 1) (waysI d4) with
          | some k => some ("stand", k)
          | none => if hitQ (chR row step) (waysI d3) < qv (t1, b1) then some ("low", 0) else if qv (t2, b2) < 1 - standQ (chR row step) beat (waysI d4) then some ("high", 0) else none) := by
        unfold letsW
        exact if_pos hsh
      rw [eL] at q0 q1
      clear eL hsh
      rw [e3] at g3
      rw [e4] at g4
      generalize waysI d3 = ws3 at *
      generalize waysI d4 = ws4 at *
      obtain ⟨p1, rfl, hp1⟩ := DpX.rat (x := (t1, b1)) g1
      obtain ⟨p2, rfl, hp2⟩ := DpX.rat (x := (t2, b2)) g2
      obtain ⟨pw3, rfl, hw3⟩ := dpx_ws g3
      obtain ⟨pw4, rfl, hw4⟩ := dpx_ws g4
      obtain ⟨sm1, sm2⟩ : SmR 1900 (t1, b1) ∧ SmR 1900 (t2, b2) := by
        obtain ⟨j, rfl, _, hBs⟩ := hB.tupI
        have two : ∀ {t b' : Int} {i : Nat}, [PyData.tuple [.int t1, .int b1], .tuple [.int t2, .int b2], d3, d4][i]? = some (.tuple [.int t, .int b']) → Red (t, b') → SmR 1900 (t, b') := fun {t b' i} hi hr => by
          have z := (hBs.get hi).it
          cases z with
          | tup _ z =>
            have y1 := z (.int t) (by simp)
            have y2 := z (.int b') (by simp)
            cases y1 with
            | int y1 =>
              cases y2 with
              | int y2 => exact ⟨hr, y1.mono hb2, y2.mono hb2⟩
        exact ⟨two (i := 0) rfl red1, two (i := 1) rfl red2⟩
      refine ⟨_, rfl, a, _, rfl, h1, rfl, _, _, rfl, _, _, rfl, _, _, rfl, _, _, rfl, rfl, ?_⟩
      refine ⟨_, rfl, _, rfl, _, rfl, ?_⟩
      refine tnil_go ?_
      refine ⟨pw3, ws3, beat, beat, rfl, hw3, by omega, fun vf H1 s1 hf => ?_⟩
      refine ⟨_, rfl, ?_⟩
      refine tC_go ?_
      rcases hf with ⟨f3, rfl⟩ | ⟨kf, f3, rfl⟩
      · refine ⟨rfl, _, rfl, ?_⟩
        refine iteF ?_
        rw [f3] at q0 q1
        refine ⟨_, rfl, ?_⟩
        refine ⟨_, rfl, _, _, rfl, rfl, ?_⟩
        refine tnil_go ?_
        refine ⟨pw4, ws4, 0, (beat : Int) - 1, rfl, hw4.same s1, by omega, fun vg H2 s2 hg => ?_⟩
        refine ⟨_, rfl, ?_⟩
        refine tC_go ?_
        have S2 := s1.trans s2
        rcases hg with ⟨f4, rfl⟩ | ⟨kg, f4, rfl⟩
        · refine ⟨rfl, _, rfl, ?_⟩
          refine iteF ?_
          rw [f4] at q0 q1
          have at3 : ∀ w ∈ ws3, w.sum ≤ (beat : Int) := fun w hw => by
            obtain ⟨i, hi⟩ := List.mem_iff_getElem?.mp hw
            have z := (fwr_none.mp f3) i (List.getElem?_eq_some_iff.mp hi).1
            unfold wrongAt at z
            rw [getD_of hi, Bool.or_eq_false_iff, Bool.not_eq_false', Bool.and_eq_true, decide_eq_true_eq, decide_eq_true_eq] at z
            exact z.1.2
          have at4 : ∀ w ∈ ws4, w.sum ≤ (beat : Int) := fun w hw => by
            obtain ⟨i, hi⟩ := List.mem_iff_getElem?.mp hw
            have z := (fwr_none.mp f4) i (List.getElem?_eq_some_iff.mp hi).1
            unfold wrongAt at z
            rw [getD_of hi, Bool.or_eq_false_iff, Bool.not_eq_false', Bool.and_eq_true, decide_eq_true_eq, decide_eq_true_eq] at z
            have := z.1.2
            omega
          have W3 : WOk22 beat ws3 := ⟨pos3, at3, by omega⟩
          have W4 : WOk22 beat ws4 := ⟨pos4, at4, by omega⟩
          refine ⟨_, rfl, ?_⟩
          refine ⟨_, rfl, ?_⟩
          refine tnil_go ?_
          refine ⟨p, pw3, row, step, n, beat, D, ws3, rfl, hlife.tk (Tk.same S2), L, hn, C1, hb, hw3.same S2, W3, fun zh H3 s3 hzh szh => ?_⟩
          have S3 := S2.trans s3
          refine ⟨_, rfl, ?_⟩
          refine tnil_go ?_
          refine ⟨zh, p1, _, (t1, b1), rfl, hzh, hp1.tk (Tk.same S3), szh.2.1.mono (by decide), szh.2.2.mono (by decide), sm1.2.1.mono (by decide), sm1.2.2.mono (by decide), _, rfl, ?_⟩
          rw [lt_dec szh.1 sm1.1, qv_rdq]
          by_cases c5 : hitQ (chR row step) ws3 < qv (t1, b1)
          · rw [decide_eq_true c5]
            refine iteT ?_
            refine raise2 EP.o ENPword ENPplace fun x nx => ?_
            exact q0 "low" 0 (if_pos c5) x _ (S3.trans (same_new nx)) upd_same
          · rw [decide_eq_false c5]
            refine iteF ?_
            rw [if_neg c5] at q0 q1
            refine ⟨_, rfl, ?_⟩
            refine ⟨_, rfl, ?_⟩
            refine ⟨_, rfl, ?_⟩
            refine ⟨_, rfl, ?_⟩
            refine tnil_go ?_
            refine ⟨p, pw4, row, step, n, beat, D, ws4, rfl, hlife.tk (Tk.same S3), L, hn, C1, hls, hb, hw4.same S3, W4, fun zs H4 s4 hzs szs => ?_⟩
            have S4 := S3.trans s4
            refine tnil_go ?_
            have one : rdq 1 = (1, 1) := (is_rdq one_red qv_one).symm
            refine minus_go (x := 1) (by rw [one]; exact C.tO _) hzs (by rw [one]; exact ⟨one_red, by unfold Sm; decide, by unfold Sm; decide⟩) (szs.mono (by decide)) fun zm H5 s5 hzm => ?_
            have S5 := S4.trans s5
            have szm : SmR 4000 (rdq (1 - standQ (chR row step) beat ws4)) := by
              have hP := C1.powSm 20
              have hPD := Int.mul_pos hP.1 C1.pos
              have sPD := hP.2.mul C1.sm
              have hz01 := fun j hj => st_01 C1 hls hb W4 (i := j) hj
              have zz := sum_sz (e := 0) hPD (fun j hj => (hz01 j hj).2) (fun j hj => (hz01 j hj).1.ov) W4.len
              have z2 := (Sz.one (k := 9) hPD).add hPD zz.neg
              rw [show (1 : Rat) + -(sumTo ws4.length fun j => stvQ (chR row step) beat (ws4.getD j [])) = 1 - standQ (chR row step) beat ws4 by unfold standQ; grind] at z2
              exact z2.smr hPD sPD (by decide)
            refine tnil_go ?_
            refine ⟨p2, zm, (t2, b2), _, rfl, hp2.tk (Tk.same S5), hzm, sm2.2.1.mono (by decide), sm2.2.2.mono (by decide), szm.2.1, szm.2.2, _, rfl, ?_⟩
            rw [lt_dec sm2.1 szm.1, qv_rdq]
            by_cases c6 : qv (t2, b2) < 1 - standQ (chR row step) beat ws4
            · rw [decide_eq_true c6]
              refine iteT ?_
              refine raise2 EP.o ENPword ENPplace fun x nx => ?_
              exact q0 "high" 0 (if_pos c6) x _ (S5.trans (same_new nx)) upd_same
            · rw [decide_eq_false c6]
              refine iteF ?_
              exact q1 (if_neg c6) _ S5
        · refine ⟨rfl, _, rfl, ?_⟩
          refine iteT ?_
          refine ⟨_, rfl, ?_⟩
          refine raise2 EP.o ENPword ENPplace fun x nx => ?_
          exact q0 "stand" kg (by rw [f4]) x _ (S2.trans (same_new nx)) upd_same
      · refine ⟨rfl, _, rfl, ?_⟩
        refine iteT ?_
        refine ⟨_, rfl, ?_⟩
        refine raise2 EP.o ENPword ENPplace fun x nx => ?_
        exact q0 "hit" kf (by rw [f3]) x _ (s1.trans (same_new nx)) upd_same
end

end Fp

set_option Elab.async false
set_option linter.all false
set_option maxRecDepth 100000
set_option maxHeartbeats 4000000
set_option exponentiation.threshold 10000
namespace Fp
open PySem PySem.Spec PyProof.Rows L2
/-! ### papers of all ways: what they are -/
theorem restR_to {row : List RT} {step : RT} (hs : (1 : Rat) - qv step ≠ 0) : ∀ k : Nat, restR row step k = (rowQ row + behQ row step) - sumTo k (chR row step)
  | 0 => by
    rw [restR_zero, sumTo_zero]
    grind
  | k + 1 => by
    have i := restR_to (row := row) hs k
    rw [restR_next hs k] at i
    rw [sumTo_succ]
    grind
theorem qv_nn {x : RT} (hx : Red x) (h : 0 ≤ x.1) : 0 ≤ qv x := by
  rcases Classical.em (qv x < qv (0, 1)) with z | z
  · have := (qv_lt hx (y := (0, 1)) ⟨by decide, by decide⟩).mp z
    have e : x.1 * 1 < 0 * x.2 := this
    rw [Int.mul_one, Int.zero_mul] at e
    omega
  · rw [qv_nought] at z
    exact Rat.not_lt.mp z
theorem step_gap {s : RT} (h : StepOk 5 s) : 0 ≤ qv s ∧ 0 < 1 - qv s := by
  refine ⟨qv_nn h.1.1 h.2.1, ?_⟩
  have := (qv_lt h.1.1 one_red).mpr (by show s.1 * 1 < 1 * s.2; have := h.2.2; omega)
  rw [qv_one] at this
  grind
theorem div_nn {x y : Rat} (hx : 0 ≤ x) (hy : 0 < y) : 0 ≤ x / y := by
  rcases Classical.em (x / y < 0) with z | z
  · exfalso
    have := Rat.mul_lt_mul_of_pos_right z hy
    have e : x / y * y = x := by have := Rat.ne_of_gt hy; grind
    rw [e, Rat.zero_mul] at this
    exact absurd hx (Rat.not_le.mpr this)
  · exact Rat.not_lt.mp z
theorem last_nn {row : List RT} {step : RT} {n : Nat} {D N E : Int} (L : LifeOk n row step) (C1 : Ch01 D (chR row step) 20) (T : Tot row step N E) (hl : row.length ≤ 19) : ∀ k, k ≤ 20 → 0 ≤ lastQ (chR row step) k := by
  obtain ⟨g0, g1⟩ := step_gap L.st
  have gn := Rat.ne_of_gt g1
  have tot1 : rowQ row + behQ row step ≤ 1 := by
    rw [T.val]
    have hp := T.pos
    have hc : (0 : Rat) < ((N + E : Int) : Rat) := Rat.intCast_pos.mpr hp
    have e : (1 : Rat) - (N : Rat) / ((N + E : Int) : Rat) = (E : Rat) / ((N + E : Int) : Rat) := by
      have h2 := cast_ne (Int.ne_of_gt hp)
      rw [Rat.intCast_add] at h2 ⊢
      grind
    have := div_nn (x := (E : Rat)) (by have := Rat.intCast_le_intCast.mpr T.ee; exact this) hc
    grind
  have far : ∀ k, row.length ≤ k → sumTo k (chR row step) ≤ rowQ row + behQ row step := fun k hk => by
    have e := restR_to (row := row) gn k
    have nn : 0 ≤ restR row step k := by
      unfold restR
      rw [List.drop_of_length_le hk]
      rcases snoc_cases row with rfl | ⟨ys, y, rfl⟩
      · show (0 : Rat) ≤ 0 + 0
        grind
      · have el : (ys ++ [y]).getLast? = some y := by simp
        rw [el]
        have hy : 0 ≤ qv y := by
          have h1 : (ys ++ [y])[ys.length]? = some y := by simp
          rw [← chR_in (step := step) h1]
          exact C1.ge _ (by rw [List.length_append] at hl; have : ([y] : List RT).length = 1 := rfl; omega)
        have := div_nn (Rat.mul_nonneg hy (Rat.pow_nonneg g0 (n := 1 + (k - (ys ++ [y]).length)))) g1
        show (0 : Rat) ≤ 0 + _
        grind
    grind
  have mono : ∀ k m, k + m ≤ 20 → sumTo k (chR row step) ≤ sumTo (k + m) (chR row step) := fun k m => by
    induction m with
    | zero => exact fun _ => Rat.le_refl
    | succ m ih =>
      intro h
      have h1 := ih (by omega)
      have h2 := C1.ge (k + m) (by omega)
      rw [show k + (m + 1) = k + m + 1 by omega, sumTo_succ]
      grind
  intro k hk
  unfold lastQ
  rcases Nat.le_total row.length k with z | z
  · have := far k z
    grind
  · have h1 := mono k (row.length - k) (by omega)
    rw [show k + (row.length - k) = row.length by omega] at h1
    have := far row.length (Nat.le_refl _)
    grind
/-! how many there are -/
def cumW (a : Nat → Rat) (n : Nat) : Nat := ((List.range n).map fun i => (fw a i).length).sum
theorem cumW_succ (a : Nat → Rat) (n : Nat) : cumW a (n + 1) = cumW a n + (fw a n).length := by
  unfold cumW
  rw [List.range_succ, List.map_append, List.sum_append]
  show _ + ((fw a n).length + 0) = _
  omega
theorem fw_cum (a : Nat → Rat) {n : Nat} (h : 0 < n) : (fw a n).length ≤ cumW a n := by
  rw [fw_is a h]
  have key : ∀ m, m ≤ n → ((List.range m).flatMap (fwGo a (fw a) n)).length ≤ ((List.range m).map fun j => (fw a (n - 1 - j)).length).sum := by
    intro m
    induction m with
    | zero => intro _; exact Nat.le_refl _
    | succ m ih =>
      intro hm
      have h1 := ih (by omega)
      rw [flat_succ, List.length_append, List.range_succ, List.map_append, List.sum_append]
      have h2 : (fwGo a (fw a) n m).length ≤ (fw a (n - 1 - m)).length := by
        unfold fwGo
        split
        · exact Nat.zero_le _
        · rw [List.length_map]
          exact Nat.le_refl _
      show _ + _ ≤ _ + ((fw a (n - 1 - m)).length + 0)
      omega
  have h1 := key n (Nat.le_refl _)
  have h2 : ((List.range n).map fun j => (fw a (n - 1 - j)).length).sum = cumW a n := by
    unfold cumW
    have e : (List.range n).map (fun j => (fw a (n - 1 - j)).length) = ((List.range n).map fun i => (fw a i).length).reverse := by
      refine List.ext_getElem (by simp) fun i h1 h2 => ?_
      simp
    rw [e, List.sum_reverse]
  omega
theorem cumW_le (a : Nat → Rat) : ∀ n, cumW a (n + 1) ≤ 2 ^ n
  | 0 => by
    rw [cumW_succ, fw_zero]
    exact Nat.le_refl _
  | n + 1 => by
    have h1 := cumW_le a n
    have h2 := fw_cum a (n := n + 1) (by omega)
    rw [cumW_succ, Nat.pow_succ]
    omega
theorem fw_128 (a : Nat → Rat) {n : Nat} (h : n ≤ 8) : (fw a n).length ≤ 128 := by
  rcases Nat.eq_zero_or_pos n with rfl | z
  · exact (by decide : 1 ≤ 128)
  · have h1 := fw_cum a z
    have h2 := cumW_le a (n - 1)
    rw [show n - 1 + 1 = n by omega] at h2
    have h3 : 2 ^ (n - 1) ≤ 2 ^ 7 := Nat.pow_le_pow_right (by decide) (by omega)
    have h4 : 2 ^ 7 = 128 := rfl
    omega
/-! by which a part stands over the beat -/
def ovGo (a : Nat → Rat) (beat e : Nat) : List (List Int) := if lastQ a (beat - e) = 0 then [] else fw a e
def ovL (a : Nat → Rat) (beat : Nat) : List (List Int) := (List.range beat).flatMap (ovGo a beat)
theorem ovL_len (a : Nat → Rat) {beat : Nat} (h : beat ≤ 8) : (ovL a beat).length ≤ 128 := by
  have key : ∀ m, ((List.range m).flatMap (ovGo a beat)).length ≤ cumW a m := by
    intro m
    induction m with
    | zero => exact Nat.le_refl _
    | succ m ih =>
      rw [flat_succ, List.length_append, cumW_succ]
      have : (ovGo a beat m).length ≤ (fw a m).length := by
        unfold ovGo
        split
        · exact Nat.zero_le _
        · exact Nat.le_refl _
      omega
  have h1 := key beat
  rcases Nat.eq_zero_or_pos beat with rfl | z
  · exact Nat.zero_le _
  · have h2 := cumW_le a (beat - 1)
    rw [show beat - 1 + 1 = beat by omega] at h2
    have h3 : 2 ^ (beat - 1) ≤ 2 ^ 7 := Nat.pow_le_pow_right (by decide) (by omega)
    have h4 : 2 ^ 7 = 128 := rfl
    show ((List.range beat).flatMap (ovGo a beat)).length ≤ 128
    omega
theorem ovL_mem {a : Nat → Rat} {beat : Nat} {w : List Int} (h : w ∈ ovL a beat) : ∃ e, e < beat ∧ lastQ a (beat - e) ≠ 0 ∧ WayOk a e w := by
  obtain ⟨e, he, hw⟩ := List.mem_flatMap.mp h
  unfold ovGo at hw
  split at hw
  · cases hw
  · rename_i z
    exact ⟨e, List.mem_range.mp he, z, (fw_mem a).mp hw⟩
theorem ovL_nodup (a : Nat → Rat) (beat : Nat) : (ovL a beat).Nodup := by
  refine List.pairwise_flatMap.mpr ⟨fun e _ => ?_, List.pairwise_lt_range.imp fun {i j} hij x hx y hy => ?_⟩
  · unfold ovGo
    split
    · exact List.Pairwise.nil
    · exact fw_nodup a e
  · unfold ovGo at hx hy
    split at hx
    · cases hx
    · split at hy
      · cases hy
      · have h1 := ((fw_mem a).mp hx).2
        have h2 := ((fw_mem a).mp hy).2
        intro z
        rw [z, h2] at h1
        omega
theorem sorted_two {l m : List (List Int)} (h1 : l.Pairwise fun x y => ltW y x = false) (h2 : m.Pairwise fun x y => ltW y x = false) (p : l.Perm m) : l = m :=
  List.Perm.eq_of_pairwise (le := fun x y => ltW y x = false) (fun x y _ _ a b => ltW_anti x y a b) h1 h2 p
theorem strict_of {l : List (List Int)} (h1 : l.Pairwise fun x y => ltW y x = false) (h2 : l.Nodup) : l.Pairwise fun x y => ltW x y = true := by
  refine (h1.and h2).imp fun {x y} h => ?_
  cases e : ltW x y with
  | true => rfl
  | false => exact absurd (ltW_anti x y h.1 e) h.2
theorem rising_at {l : List (List Int)} (h : l.Pairwise fun x y => ltW x y = true) {i : Nat} (h0 : 0 < i) (hi : i < l.length) : ltW (l.getD (i - 1) []) (l.getD i []) = true := by
  have e1 : l.getD (i - 1) [] = l[i - 1]'(by omega) := by rw [List.getD_eq_getElem?_getD, List.getElem?_eq_getElem (by omega)]; rfl
  have e2 : l.getD i [] = l[i] := by rw [List.getD_eq_getElem?_getD, List.getElem?_eq_getElem hi]; rfl
  rw [e1, e2]
  exact List.pairwise_iff_getElem.mp h (i - 1) i (by omega) hi (by omega)
theorem fwr_ok {least most : Int} {ws : List (List Int)} (h : ∀ w ∈ ws, least ≤ w.sum ∧ w.sum ≤ most) (hs : ws.Pairwise fun x y => ltW x y = true) : fwr least most ws = none := by
  refine fwr_none.mpr fun i hi => ?_
  have e2 : ws.getD i [] = ws[i] := by rw [List.getD_eq_getElem?_getD, List.getElem?_eq_getElem hi]; rfl
  obtain ⟨h1, h2⟩ := h _ (List.getElem_mem hi)
  unfold wrongAt
  rw [Bool.or_eq_false_iff]
  refine ⟨?_, ?_⟩
  · rw [e2, decide_eq_true h1, decide_eq_true h2]
    rfl
  · rcases Nat.eq_zero_or_pos i with rfl | z
    · rfl
    · rw [rising_at hs z hi, decide_eq_true z]
      rfl
/-! what they come to -/
theorem sumTo_list {α : Type} (f : α → Rat) (d : α) : ∀ ws : List α, sumTo ws.length (fun i => f (ws.getD i d)) = (ws.map f).sum := by
  intro ws
  have key : ∀ n, n ≤ ws.length → sumTo n (fun i => f (ws.getD i d)) = ((ws.take n).map f).sum := by
    intro n
    induction n with
    | zero => intro _; rw [sumTo_zero]; rfl
    | succ n ih =>
      intro hn
      rw [sumTo_succ, ih (by omega), List.take_add_one, List.getElem?_eq_getElem (by omega), List.map_append, List.sum_append]
      have e2 : ws.getD n d = ws[n]'(by omega) := by rw [List.getD_eq_getElem?_getD, List.getElem?_eq_getElem (by omega)]; rfl
      rw [e2]
      show _ + f _ = _ + (f _ + 0)
      grind
  rw [key ws.length (Nat.le_refl _), List.take_of_length_le (Nat.le_refl _)]
theorem rsum_perm {l m : List Rat} (h : l.Perm m) : l.sum = m.sum := by
  induction h with
  | nil => rfl
  | cons x _ ih => rw [List.sum_cons, List.sum_cons, ih]
  | swap x y l =>
    show y + (x + l.sum) = x + (y + l.sum)
    grind
  | trans _ _ h1 h2 => exact h1.trans h2
theorem aw_chance (a : Nat → Rat) : ∀ n, ∀ y ∈ aw a n, y.2 = wayQ a y.1 := by
  intro n
  induction n using Nat.strongRecOn with
  | ind n ih =>
    intro y hy
    rcases Nat.eq_zero_or_pos n with z | z
    · subst z
      rw [aw_zero, List.mem_singleton] at hy
      rw [hy]
      rfl
    · rw [aw_is a z] at hy
      obtain ⟨j, hj, hw⟩ := List.mem_flatMap.mp hy
      unfold awGo at hw
      split at hw
      · cases hw
      · obtain ⟨u, hu, rfl⟩ := List.mem_map.mp hw
        have hj := List.mem_range.mp hj
        show u.2 * a j = wayQ a (u.1 ++ [(j : Int) + 1])
        rw [wayQ_app, ih _ (by omega) u hu]
        show _ = _ * (a ((j : Int) + 1 - 1).toNat * 1)
        rw [show ((j : Int) + 1 - 1).toNat = j by omega]
        grind
theorem fw_sum (a : Nat → Rat) (n : Nat) : ((fw a n).map (wayQ a)).sum = renQ a oneAt n := by
  rw [← aw_sum]
  have e : (aw a n).map (·.2) = ((aw a n).map (·.1)).map (wayQ a) := by
    rw [List.map_map]
    exact List.map_congr_left fun y hy => aw_chance a n y hy
  unfold wsum
  rw [e]
  exact (rsum_perm ((aw_perm a n).map (wayQ a))).symm
theorem hit_put (a : Nat → Rat) (n : Nat) : hitQ a (fw a n) = renQ a oneAt n := by
  unfold hitQ
  rw [sumTo_list (wayQ a) []]
  exact fw_sum a n
theorem stand_sum (a : Nat → Rat) (beat : Nat) : ((ovL a beat).map (stvQ a beat)).sum = sumTo beat fun e => renQ a oneAt e * lastQ a (beat - e) := by
  have key : ∀ m, m ≤ beat → (((List.range m).flatMap (ovGo a beat)).map (stvQ a beat)).sum = sumTo m fun e => renQ a oneAt e * lastQ a (beat - e) := by
    intro m
    induction m with
    | zero => intro _; rw [sumTo_zero]; rfl
    | succ m ih =>
      intro hm
      rw [flat_succ, List.map_append, List.sum_append, ih (by omega), sumTo_succ]
      have e : ((ovGo a beat m).map (stvQ a beat)).sum = renQ a oneAt m * lastQ a (beat - m) := by
        unfold ovGo
        split
        · rename_i z
          rw [z, Rat.mul_zero]
          rfl
        · have e2 : (fw a m).map (stvQ a beat) = ((fw a m).map (wayQ a)).map fun q => q * lastQ a (beat - m) := by
            rw [List.map_map]
            refine List.map_congr_left fun w hw => ?_
            have := ((fw_mem a).mp hw).2
            show wayQ a w * lastQ a (beat - w.sum.toNat) = wayQ a w * lastQ a (beat - m)
            rw [this, Int.toNat_natCast]
          rw [e2, ← fw_sum]
          have e3 : ∀ (l : List Rat) (c : Rat), (l.map fun q => q * c).sum = l.sum * c := by
            intro l c
            induction l with
            | nil => show (0 : Rat) = 0 * c; grind
            | cons x r ih => rw [List.map_cons, List.sum_cons, List.sum_cons, ih]; grind
          exact e3 _ _
      rw [e]
  exact key beat (Nat.le_refl _)
theorem stand_put (a : Nat → Rat) {beat : Nat} {zl : List (List Int)} (p : zl.Perm (ovL a beat)) : 1 - standQ a beat zl = renQ a oneAt beat := by
  have e1 : standQ a beat zl = ((ovL a beat).map (stvQ a beat)).sum := by
    unfold standQ
    rw [sumTo_list (stvQ a beat) []]
    exact rsum_perm (p.map _)
  rw [e1, stand_sum]
  have h := stands_one a beat
  have e2 : (sumTo (beat + 1) fun i => renQ a oneAt (beat - i) * (1 - sumTo i a)) = sumTo (beat + 1) fun e => renQ a oneAt e * lastQ a (beat - e) := by
    rw [← sumTo_rev (beat + 1) fun e => renQ a oneAt e * lastQ a (beat - e)]
    refine sumTo_congr fun j hj => ?_
    show _ = renQ a oneAt (beat + 1 - 1 - j) * (1 - sumTo (beat - (beat + 1 - 1 - j)) a)
    rw [show beat + 1 - 1 - j = beat - j by omega, show beat - (beat - j) = j by omega]
  rw [e2, sumTo_succ, Nat.sub_self] at h
  have e3 : lastQ a 0 = 1 := by
    unfold lastQ
    rw [sumTo_zero]
    grind
  rw [e3] at h
  grind
/-- what is told of a life and a beat -/
def toldW (a : Nat → Rat) (beat : Nat) (zl : List (List Int)) : PyData := .tuple [ratD (rdq (renQ a oneAt beat)), ratD (rdq (renQ a oneAt beat)), .tuple ((fw a beat).map wD), .tuple (zl.map wD)]
theorem ratioD_of {x : RT} (h : Red x) : ratioD (ratD x) = true := by
  show (decide (1 ≤ x.2) && decide (Int.gcd x.1 x.2 = 1)) = true
  rw [decide_eq_true h.2, Bool.and_true]
  exact decide_eq_true (by have := h.1; omega)
theorem told_let {a : Nat → Rat} {beat : Nat} (hb : beat ≤ 8) {zl : List (List Int)} (p : zl.Perm (ovL a beat)) (hs : zl.Pairwise fun x y => ltW y x = false) : letsW a beat (toldW a beat zl) = none := by
  have w1 : ∀ w ∈ fw a beat, ∀ x ∈ w, (1 : Int) ≤ x := fun w hw x hx => (((fw_mem a).mp hw).1 x hx).1
  have hz : ∀ w ∈ zl, ∃ e, e < beat ∧ WayOk a e w := fun w hw => by
    obtain ⟨e, h1, _, h2⟩ := ovL_mem (p.mem_iff.mp hw)
    exact ⟨e, h1, h2⟩
  have w2 : ∀ w ∈ zl, ∀ x ∈ w, (1 : Int) ≤ x := fun w hw x hx => by
    obtain ⟨e, _, h⟩ := hz w hw
    exact (h.1 x hx).1
  have hr := rdq_red (renQ a oneAt beat)
  have hsh : shapeB (toldW a beat zl) = true := by
    show (ratioD _ && (ratioD _ && (waysB _ && waysB _))) = true
    rw [ratioD_of hr, waysB_wD w1 (by have := fw_128 a hb; omega), waysB_wD w2 (by have := p.length_eq; have := ovL_len a hb; omega)]
    rfl
  unfold toldW at hsh ⊢
  unfold letsW
  show (if _ then _ else _) = _
  rw [if_pos hsh, waysI_wD, waysI_wD]
  have f1 : fwr beat beat (fw a beat) = none := fwr_ok (fun w hw => by
    have := ((fw_mem a).mp hw).2
    omega) (fw_sorted a beat)
  have f2 : fwr 0 ((beat : Int) - 1) zl = none := fwr_ok (fun w hw => by
    obtain ⟨e, h1, h2⟩ := hz w hw
    have := h2.2
    omega) (strict_of hs (p.nodup_iff.mpr (ovL_nodup a beat)))
  rw [f1]
  show (match fwr 0 ((beat : Int) - 1) zl with | some k => _ | none => _) = _
  rw [f2]
  have eq : qv (rtD (ratD (rdq (renQ a oneAt beat)))) = renQ a oneAt beat := qv_rdq _
  show (if hitQ a (fw a beat) < qv (rtD (ratD (rdq (renQ a oneAt beat)))) then _ else if qv (rtD (ratD (rdq (renQ a oneAt beat)))) < 1 - standQ a beat zl then _ else _) = _
  rw [eq, hit_put, stand_put a p, if_neg (Rat.lt_irrefl), if_neg (Rat.lt_irrefl)]

end Fp

set_option Elab.async false
set_option linter.all false
set_option maxRecDepth 100000
set_option maxHeartbeats 4000000
set_option exponentiation.threshold 10000
namespace Fp
open PySem PySem.Spec PyProof.Rows L2
/-! ### papers of all ways: how they are told -/
abbrev s_sb : Stmt := topS 56
abbrev N_sb : List Str := ["_law_life_here", "_law_beat", "_law_way", "_law_lost", "_law_lasts"]
theorem sc_sb : FnScope N_sb ["_law_life_here", "_law_beat", "_law_way"] (defScope s_sb) := ⟨rfl, rfl, rfl, by decide +kernel, rfl, by decide +kernel, by decide +kernel⟩
section
variable {P : Program} {w : World} {K : PySem.W.Frag} {mg : Str → Option Value} {base : Heap} {aN aO : Addr}
theorem lsum2_go {p a b : Addr} {x y : Rat} {P : Int} {s k : Nat} (h : H p = some (.lst [.ref a, .ref b])) (ha : RAt K H a (rdq x)) (hb : RAt K H b (rdq y)) (hP : 0 < P) (sP : Sm s P) (zx : Sz P k x) (zy : Sz P k y) (hs : s ≤ 2500) (hk : k ≤ 900)
    (q : ∀ r H', Same H H' → RAt K H' r (rdq (x + y)) → Q (.ref r) H') : spLsum K LstAt [.ref p] H Q E0 := by
  refine lsum_ls (K := K) (xs := [rdq x, rdq y]) (k := k) ⟨[a, b], h, .cons ha (.cons hb .nil)⟩ hP sP (fun u hu => ?_) (by show 2 ≤ 900; decide) hs hk fun r H' s' hr => q r H' s' ?_
  · rcases List.mem_cons.mp hu with z | z
    · exact ⟨_, z, zx⟩
    · exact ⟨_, List.mem_singleton.mp z, zy⟩
  · rw [sum_two, qv_rdq, qv_rdq] at hr
    exact hr
def spWo (K : PySem.W.Frag) : Sp := fun vs H Q _ => ∃ (p : Addr) (row : List RT) (step : RT) (n beat : Nat) (D : Int), vs = [.ref p, .int (beat : Int)] ∧ LifeAt K H p row step ∧ LifeOk n row step ∧ Ch01 D (chR row step) 20 ∧ beat ≤ 8 ∧
  ∀ z H' zl, Same H H' → WsAt K H' z zl → zl.Perm (ovL (chR row step) beat) → (zl.Pairwise fun x y => ltW y x = false) → Q (.ref z) H'
def spWp (K : PySem.W.Frag) : Sp := fun vs H Q _ => ∃ (p : Addr) (row : List RT) (step : RT) (n beat : Nat) (D W : Int), vs = [.ref p, .int (beat : Int)] ∧ LifeAt K H p row step ∧ LifeOk n row step ∧ Ch01 D (chR row step) 20 ∧ WOk W row ∧ beat ≤ 8 ∧
  ∀ v H' zl, Same H H' → DpX K H' v (toldW (chR row step) beat zl) → zl.Perm (ovL (chR row step) beat) → (zl.Pairwise fun x y => ltW y x = false) → Q v H'
def spSb (K : PySem.W.Frag) : Sp := fun vs H Q _ => ∃ (p pw : Addr) (row : List RT) (step : RT) (n beat : Nat) (D N E : Int) (w : List Int), vs = [.ref p, .int (beat : Int), .ref pw] ∧ LifeAt K H p row step ∧ LifeOk n row step ∧ n ≤ 20 ∧ (row = [] → step = (0, 1)) ∧ Ch01 D (chR row step) 20 ∧ Tot row step N E ∧ beat ≤ 20 ∧ TAt K H pw w ∧ (∀ x ∈ w, (1 : Int) ≤ x) ∧ w.sum ≤ (beat : Int) ∧
  ∀ z H', Same H H' → RAt K H' z (rdq (stvQ (chR row step) beat w)) → Q (.ref z) H'
theorem obs_ws {z : Addr} {rs : List Addr} {ws : List (List Int)} {H : Hp} (h : H z = some (.tup (rs.map V.ref))) (ho : Obs (TAt K) H rs ws) : WsAt K H z ws := ⟨rs, SqT.of h, ho⟩
theorem WsAt.dx {p : Addr} {ws : List (List Int)} {H : Hp} (h : WsAt K H p ws) : DpX K H (.ref p) (.tuple (ws.map wD)) := by
  obtain ⟨rs, h1, h2⟩ := h
  have hints : ∀ ns : List Int, DpXAll K H (ns.map V.int) (ns.map PyData.int) := fun ns => by
    induction ns with
    | nil => exact .nil
    | cons n r ih => exact .cons (.int n) ih
  have all : ∀ {rs : List Addr} {ws : List (List Int)}, Obs (TAt K) H rs ws → DpXAll K H (rs.map V.ref) (ws.map wD) := by
    intro rs
    induction rs with
    | nil =>
      intro ws h
      cases ws with
      | nil => exact .nil
      | cons _ _ => cases h.1
    | cons r rs ih =>
      intro ws h
      cases ws with
      | nil => cases h.1
      | cons w ws => exact .cons (.tup (h.2 0 r w rfl rfl) (hints w)) (ih ⟨Nat.succ.inj h.1, fun i r y h1 h2 => h.2 (i + 1) r y h1 h2⟩)
  exact .tup h1 (all h2)
theorem ok_sb {f fLL fRE fSU fLT fLWC : Addr} {fd fdLL fdRE fdSU fdLT fdLWC : FuncData} (F : Fun K "_law_stands_by" "_law_stands_by" s_sb f fd)
    (FLL : Fun K "_law_less" "_law_less" s_lless fLL fdLL) (bLL : Binds K fdLL ["_law_one", "_law_other"] []) (gLL : mg "_law_less" = some (.ref fLL)) (GLL : FnOk P w K mg base CX0 2 fLL fdLL ["_law_one", "_law_other"] (spTwo K (fun a b c d => a * d - c * b)))
    (FRE : Fun K "_law_rest" "_law_rest" s_lrest fRE fdRE) (bRE : Binds K fdRE ["_law_life_here", "_law_k"] []) (gRE : mg "_law_rest" = some (.ref fRE)) (GRE : FnOk P w K mg base CX0 4 fRE fdRE ["_law_life_here", "_law_k"] (spLrest K))
    (FSU : Fun K "_law_sum" "_law_sum" s_lsum fSU fdSU) (bSU : Binds K fdSU ["_law_some"] []) (gSU : mg "_law_sum" = some (.ref fSU)) (GSU : FnOk P w K mg base CX0 2 fSU fdSU ["_law_some"] (spLsum K LstAt))
    (FLT : Fun K "_law_times" "_law_times" s_ltimes fLT fdLT) (bLT : Binds K fdLT ["_law_one", "_law_other"] []) (gLT : mg "_law_times" = some (.ref fLT)) (GLT : FnOk P w K mg base CX0 2 fLT fdLT ["_law_one", "_law_other"] (spTwo K (fun a b c d => a * c)))
    (FLWC : Fun K "_law_way_chance" "_law_way_chance" s_lwc fLWC fdLWC) (bLWC : Binds K fdLWC ["_law_life_here", "_law_way"] []) (gLWC : mg "_law_way_chance" = some (.ref fLWC)) (GLWC : FnOk P w K mg base CX0 4 fLWC fdLWC ["_law_life_here", "_law_way"] (spLwc K))
    (n_sum : mg "sum" = none) : FnOk P w K mg base CX0 5 f fd ["_law_life_here", "_law_beat", "_law_way"] (spSb K) := by
  refine F.ok sc_sb (fun vs H Q E h => ?_) (fun cdv A outer s H vs Q E hr h => ?_)
  · obtain ⟨_, _, _, _, _, _, _, _, _, _, rfl, _⟩ := h
    rfl
  · obtain ⟨p, pw, row, step, n, beat, D, N, E', w, rfl, hlife, L, hn, hnil, C1, T, hb, hw, w1, w2, q⟩ := h
    refine ⟨_, (pss_cons (ps_set (i := 3) sc_sb.nd rfl (.inl rfl) (pe_call GLL (hr.mono (by decide)) (by rfl) gLL FLL.kp bLL .nil pass0 (pa_cons (pe_tup (pa_cons pe_int (pa_cons pe_int pa_nil))) (pa_cons (pe_call GRE hr (by rfl) gRE FRE.kp bRE .nil pass0 (pa_cons (pv 0) (pa_cons pe_int pa_nil))) pa_nil))))
      (pss_cons (ps_set (i := 4) sc_sb.nd rfl (.inl rfl) (pe_call GSU (hr.mono (by decide)) (by rfl) gSU FSU.kp bSU .nil pass0 (pa_cons (pe_lst (pa_cons (pv 3) (pa_cons (pe_call GRE hr (by rfl) gRE FRE.kp bRE .nil pass0 (pa_cons (pv 0) (pa_cons (pe_op op_sub (pv 1) (pe_callB (cr_sumT rfl) (by rfl) n_sum (by decide +kernel) (pa_cons (pv 2) pa_nil))) pa_nil))) pa_nil))) pa_nil)))
      (pss_one (ps_ret (pe_call GLT (hr.mono (by decide)) (by rfl) gLT FLT.kp bLT .nil pass0 (pa_cons (pe_call GLWC hr (by rfl) gLWC FLWC.kp bLWC .nil pass0 (pa_cons (pv 0) (pa_cons (pv 2) pa_nil))) (pa_cons (pv 4) pa_nil))))))), ?_⟩
    obtain ⟨t1, t2, t3, t4, t5, t6⟩ := T.facts
    have hp := T.pos
    have hgap := gap_val L.st.1.1 L.st.2.2
    have hPd := Int.mul_pos C1.pos hp
    have sPd : Sm 68 (D * (N + E')) := C1.sm.mul t2
    have szLost : Sz (D * (N + E')) 8 (1 - (rowQ row + behQ row step)) := (t5.dvd hp hPd ⟨D, Int.mul_comm _ _⟩).mono (by decide)
    have szLast : ∀ k, k ≤ 20 → Sz (D * (N + E')) 8 (lastQ (chR row step) k) := fun k hk => (C1.lastSz hk (by omega)).dvd C1.pos hPd ⟨N + E', rfl⟩
    have eRest : ∀ k, restR row step k = lastQ (chR row step) k + -(1 - (rowQ row + behQ row step)) := fun k => by
      rw [restR_to hgap]
      unfold lastQ
      grind
    have one : rdq 1 = (1, 1) := (is_rdq one_red qv_one).symm
    have we := way_each w1 w2
    have ⟨z1, z2⟩ := way_size w1 w2 hn hb
    have wg := way_ge w1
    refine ⟨by show 2 ≤ sizeLine; decide, fun b3 m3 => ?_⟩
    have e3 := same_new (o := HO.tup [.int 1, .int 1]) m3
    refine ⟨_, rfl, p, row, step, n, 0, rfl, hlife.tk (Tk.same e3), L, hnil, by decide, fun en x H2 s2 hen rx vx _ _ => ?_⟩
    rw [restR_zero] at vx
    rw [is_rdq rx vx] at hen
    refine tnil_go ?_
    refine minus_go (x := 1) (y := rowQ row + behQ row step) (by rw [one]; exact SqT.of (s2 _ _ upd_same)) hen (by rw [one]; exact ⟨one_red, by unfold Sm; decide, by unfold Sm; decide⟩) (t1.smr hp t2 (by decide)) fun lo H3 s3 hlo => ?_
    have S3 := e3.trans (s2.trans s3)
    refine ⟨_, rfl, ?_⟩
    refine ⟨_, rfl, ?_⟩
    refine ⟨_, rfl, ?_⟩
    refine ⟨_, rfl, ?_⟩
    refine tnil_go ?_
    refine ⟨pw, w, rfl, tat_stays _ _ _ _ (Tk.same S3) hw, ?_⟩
    refine ⟨_, _, rfl, rfl, ?_⟩
    refine tnil_go ?_
    refine ⟨p, row, step, n, beat - w.sum.toNat, ?_, hlife.tk (Tk.same S3), L, hnil, by omega, fun re x HC sC hre rx vx _ _ => ?_⟩
    · show [V.ref p, V.int ((beat : Int) - w.sum)] = [V.ref p, V.int ((beat - w.sum.toNat : Nat) : Int)]
      rw [show (beat : Int) - w.sum = ((beat - w.sum.toNat : Nat) : Int) by omega]
    rw [eRest] at vx
    rw [is_rdq rx vx] at hre
    refine tnil_go ?_
    refine ⟨by show 2 ≤ sizeLine; decide, fun l4 m4 => ?_⟩
    have e4 := same_new (o := HO.lst [.ref lo, .ref re]) m4
    refine tnil_go ?_
    refine lsum2_go (K := K) (k := 9) upd_same (hlo.tk (Tk.same (sC.trans e4))) (hre.tk (Tk.same e4)) hPd sPd (szLost.mono (by decide)) ((szLast (beat - w.sum.toNat) (by omega)).add hPd szLost.neg) (by decide) (by decide) fun la HD sD hla => ?_
    rw [show (1 - (rowQ row + behQ row step)) + (lastQ (chR row step) (beat - w.sum.toNat) + -(1 - (rowQ row + behQ row step))) = lastQ (chR row step) (beat - w.sum.toNat) by grind] at hla
    have SD := S3.trans (sC.trans (e4.trans sD))
    refine ⟨_, rfl, ?_⟩
    refine ⟨_, rfl, ?_⟩
    refine tnil_go ?_
    refine ⟨p, pw, row, step, n, w, rfl, hlife.tk (Tk.same SD), L, hnil, tat_stays _ _ _ _ (Tk.same SD) hw, fun x hx => ⟨w1 x hx, by have := (we x hx).2; omega⟩, z1, by omega, fun zc HE sE hzc => ?_⟩
    refine ⟨_, rfl, ?_⟩
    refine tnil_go ?_
    have hP := C1.powSm 20
    refine times_go hzc (hla.tk (Tk.same sE)) ((way_sz C1 w1 w2 hb).smr hP.1 hP.2 (by decide)) ((C1.lastSz (k := beat - w.sum.toNat) (by omega) (by omega)).smr C1.pos C1.sm (by decide)) fun zz HF sF hzz => ?_
    exact q zz HF (SD.trans (sE.trans sF)) hzz
end

end Fp

set_option Elab.async false
set_option linter.all false
set_option maxRecDepth 100000
set_option maxHeartbeats 4000000
set_option exponentiation.threshold 10000
namespace Fp
open PySem PySem.Spec PyProof.Rows L2
/-! ### all ways before a beat -/
theorem pass0X {P : Program} {w : World} {X : Cx} : Passes (L2.CX P w) X E0 := fun _ _ _ _ _ _ _ h => by
  obtain ⟨_, _, _, _, _, _, _, _, _, _, _, _, hE⟩ := h
  exact hE.elim
theorem wayQ_ne {a : Nat → Rat} : ∀ {w : List Int}, (∀ x ∈ w, a (x - 1).toNat ≠ 0) → wayQ a w ≠ 0
  | [], _ => by show (1 : Rat) ≠ 0; decide
  | x :: r, h => by
    have h1 := h x (List.mem_cons_self ..)
    have h2 := wayQ_ne (w := r) fun y hy => h y (List.mem_cons_of_mem _ hy)
    show a _ * wayQ a r ≠ 0
    intro z
    rcases Rat.mul_eq_zero.mp z with z | z
    · exact h1 z
    · exact h2 z
def allL (a : Nat → Rat) (n : Nat) : List (List Int) := (List.range n).flatMap fun e => (aw a e).map (·.1)
noncomputable def overB (a : Nat → Rat) (beat : Nat) (w : List Int) : Bool := !decide (stvQ a beat w = 0)
theorem over_perm (a : Nat → Rat) (beat : Nat) : ((allL a beat).filter (overB a beat)).Perm (ovL a beat) := by
  have key : ∀ m, m ≤ beat → (((List.range m).flatMap fun e => (aw a e).map (·.1)).filter (overB a beat)).Perm ((List.range m).flatMap (ovGo a beat)) := by
    intro m
    induction m with
    | zero => intro _; exact List.Perm.refl _
    | succ m ih =>
      intro hm
      rw [flat_succ, flat_succ, List.filter_append]
      refine (ih (by omega)).append ?_
      have st : ∀ w ∈ (aw a m).map (·.1), (stvQ a beat w = 0 ↔ lastQ a (beat - m) = 0) := fun w hw => by
        obtain ⟨h1, h2⟩ := (aw_mem a).mp hw
        unfold stvQ
        rw [h2, Int.toNat_natCast]
        constructor
        · intro z
          rcases Rat.mul_eq_zero.mp z with z | z
          · exact absurd z (wayQ_ne fun x hx => (h1 x hx).2)
          · exact z
        · intro z
          rw [z, Rat.mul_zero]
      by_cases z0 : lastQ a (beat - m) = 0
      · rw [show ovGo a beat m = [] from if_pos z0, List.filter_eq_nil_iff.mpr fun w hw => by unfold overB; rw [decide_eq_true ((st w hw).mpr z0)]; decide]
      · rw [show ovGo a beat m = fw a m from if_neg z0, List.filter_eq_self.mpr fun w hw => by unfold overB; rw [decide_eq_false fun y => z0 ((st w hw).mp y)]; rfl]
        exact aw_perm a m
  exact key beat (Nat.le_refl _)
theorem allL_len (a : Nat → Rat) {beat : Nat} (h : beat ≤ 8) : (allL a beat).length ≤ 128 := by
  have key : ∀ m, ((List.range m).flatMap fun e => (aw a e).map (·.1)).length = cumW a m := by
    intro m
    induction m with
    | zero => rfl
    | succ m ih =>
      rw [flat_succ, List.length_append, cumW_succ, ih, (aw_perm a m).length_eq]
  show ((List.range beat).flatMap fun e => (aw a e).map (·.1)).length ≤ 128
  rw [key]
  rcases Nat.eq_zero_or_pos beat with rfl | z
  · exact Nat.zero_le _
  · have h2 := cumW_le a (beat - 1)
    rw [show beat - 1 + 1 = beat by omega] at h2
    have h3 : 2 ^ (beat - 1) ≤ 2 ^ 7 := Nat.pow_le_pow_right (by decide) (by omega)
    have h4 : 2 ^ 7 = 128 := rfl
    omega
theorem allL_mem {a : Nat → Rat} {beat : Nat} {w : List Int} (h : w ∈ allL a beat) : (∀ x ∈ w, (1 : Int) ≤ x) ∧ w.sum ≤ (beat : Int) := by
  obtain ⟨e, he, hw⟩ := List.mem_flatMap.mp h
  obtain ⟨h1, h2⟩ := (aw_mem a).mp hw
  have := List.mem_range.mp he
  exact ⟨fun x hx => (h1 x hx).1, by omega⟩
theorem waysT_bk {ws : List (List Int)} {n : Nat} (hn : n ≤ 8) (h : ∀ w ∈ ws, (∀ x ∈ w, (1 : Int) ≤ x) ∧ w.sum ≤ (n : Int)) (hl : ws.length ≤ 128) : Bk 1900 128 1200 2 (.tuple (ws.map wD)) := by
  have z := Bks.all (b := 1900) (l := 128) (c := 8) (k := 1) (ds := ws.map wD) fun d hd => by
    obtain ⟨w, hw, rfl⟩ := List.mem_map.mp hd
    obtain ⟨h1, h2⟩ := h w hw
    have h3 := way_ge h1
    have z := Bks.all (b := 1900) (l := 128) (c := 0) (k := 0) (ds := w.map PyData.int) fun d hd => by
      obtain ⟨x, hx, rfl⟩ := List.mem_map.mp hd
      have := way_each h1 h2 x hx
      refine Bk.int (Sm.mono (n := 8) (by unfold Sm; omega) (by decide))
    exact (z.tup (by rw [List.length_map]; omega)).mono (Nat.le_refl _) (Nat.le_refl _) (by rw [List.length_map]; omega) (Nat.le_refl _)
  exact (z.tup (by rw [List.length_map]; exact hl)).mono (Nat.le_refl _) (Nat.le_refl _) (by rw [List.length_map]; omega) (Nat.le_refl _)
theorem toldW_bk {a : Nat → Rat} {D : Int} (C1 : Ch01 D a 20) {beat : Nat} (hb : beat ≤ 8) {zl : List (List Int)} (p : zl.Perm (ovL a beat)) : Bk 1900 128 3000 3 (toldW a beat zl) := by
  have sp : SmR 1300 (rdq (renQ a oneAt beat)) := (C1.putSz (n := beat) (e := 20) (by omega) (by omega)).smr (C1.powSm 20).1 (C1.powSm 20).2 (by omega)
  have b1 : Bk 1900 128 2 2 (ratD (rdq (renQ a oneAt beat))) := Bk.rat sp (by decide) (by decide) (by decide)
  have b2 := waysT_bk hb (ws := fw a beat) (fun w hw => by
    obtain ⟨h1, h2⟩ := (fw_mem a).mp hw
    exact ⟨fun x hx => (h1 x hx).1, by omega⟩) (fw_128 a hb)
  have b3 := waysT_bk hb (ws := zl) (fun w hw => by
    obtain ⟨e, h1, _, h2⟩ := ovL_mem (p.mem_iff.mp hw)
    exact ⟨fun x hx => (h2.1 x hx).1, by have := h2.2; omega⟩) (by rw [p.length_eq]; exact ovL_len a hb)
  exact ((Bks.cons b1 (Bks.cons b1 (Bks.cons b2 (Bks.cons b3 Bks.nil)))).tup (by show 4 ≤ 128; decide)).mono (Nat.le_refl _) (Nat.le_refl _) (by decide) (Nat.le_refl _)
section
variable {P : Program} {w : World} {K : PySem.W.Frag} {mg : Str → Option Value} {base : Heap}
theorem pat_get {H : Hp} {ps : List Addr} {ys : List WQ} {i : Nat} {v : V} {y : WQ} (h : Obs (PAt K) H ps ys) (hv : (ps.map V.ref)[i]? = some v) (hy : ys[i]? = some y) : ∃ pp pw pr, v = .ref pp ∧ SqT K H pp [.ref pw, .ref pr] ∧ TAt K H pw y.1 ∧ RAt K H pr (rdq y.2) := by
  obtain ⟨pp, hpp, pw, pr, h1, h2, h3⟩ := h.get hy
  rw [List.getElem?_map, hpp] at hv
  exact ⟨pp, pw, pr, (Option.some.inj hv).symm, h1, h2, h3⟩
end

end Fp

set_option Elab.async false
set_option linter.all false
set_option maxRecDepth 100000
set_option maxHeartbeats 4000000
set_option exponentiation.threshold 10000
namespace Fp
open PySem PySem.Spec PyProof.Rows L2
/-! ### a rising list of ways -/
theorem ltW_tr (x y z : List Int) (h1 : ltW x y = true) (h2 : ltW y z = true) : ltW x z = true := by
  have k := ltW_neg x y z (ltW_asym x y h1) (ltW_asym y z h2)
  cases e : ltW x z with
  | true => rfl
  | false =>
    have := ltW_anti x z k e
    subst this
    rw [ltW_asym x y h1] at h2
    cases h2
theorem fwr_none_at {least most : Int} {ws : List (List Int)} (h : fwr least most ws = none) : (∀ w ∈ ws, least ≤ w.sum ∧ w.sum ≤ most) ∧ ws.Nodup := by
  have h := fwr_none.mp h
  have key : ∀ i (hi : i < ws.length), (least ≤ ws[i].sum ∧ ws[i].sum ≤ most) ∧ (0 < i → ltW (ws.getD (i - 1) []) ws[i] = true) := fun i hi => by
    have e := h i hi
    have e2 : ws.getD i [] = ws[i] := by rw [List.getD_eq_getElem?_getD, List.getElem?_eq_getElem hi]; rfl
    unfold wrongAt at e
    rw [e2, Bool.or_eq_false_iff] at e
    obtain ⟨e3, e4⟩ := e
    rw [Bool.not_eq_false', Bool.and_eq_true, decide_eq_true_eq, decide_eq_true_eq] at e3
    refine ⟨e3, fun h0 => ?_⟩
    rw [decide_eq_true h0, Bool.true_and, Bool.not_eq_false'] at e4
    exact e4
  refine ⟨fun w hw => ?_, ?_⟩
  · obtain ⟨i, hi, rfl⟩ := List.getElem_of_mem hw
    exact (key i hi).1
  · have lt : ∀ i j (hj : j < ws.length) (hij : i < j), ltW (ws[i]'(by omega)) ws[j] = true := by
      intro i j
      induction j with
      | zero => intro _ hij; exact absurd hij (Nat.not_lt_zero _)
      | succ j ih =>
        intro hj hij
        have s := (key (j + 1) hj).2 (by omega)
        have e1 : ws.getD (j + 1 - 1) [] = ws[j]'(by omega) := by
          rw [show j + 1 - 1 = j by omega, List.getD_eq_getElem?_getD, List.getElem?_eq_getElem (by omega)]
          rfl
        rw [e1] at s
        rcases (by omega : i = j ∨ i < j) with rfl | z
        · exact s
        · exact ltW_tr _ _ _ (ih (by omega) z) s
    refine List.pairwise_iff_getElem.mpr fun i j hi hj hij e => ?_
    have s := lt i j hj hij
    rw [← e, ltW_irr] at s
    cases s

end Fp

set_option Elab.async false
set_option linter.all false
set_option maxRecDepth 100000
set_option maxHeartbeats 4000000
set_option exponentiation.threshold 10000
namespace Fp
open PySem PySem.Spec PyProof.Rows L2
/-! ### what is due of a ways paper -/
abbrev s_wd : Stmt := topS 54
abbrev N_wd : List Str := ["_law_life_here", "_law_beat", "_law_thing", "_law_some", "_law_k", "_law_way", "_law_hit", "_law_over_it"]
theorem sc_wd : FnScope N_wd ["_law_life_here", "_law_beat", "_law_thing"] (defScope s_wd) := ⟨rfl, rfl, rfl, by decide +kernel, rfl, by decide +kernel, by decide +kernel⟩
def dueW (a : Nat → Rat) (beat : Nat) (d : PyData) : PyData := match letsW a beat d with
  | none => .bool true
  | some (w, k) => .tuple [.str (Str.ofString w), .int ((k : Nat) : Int)]
theorem four_of {K : PySem.W.Frag} {H : Hp} : ∀ {xs : List V} {ds : List PyData}, DpXAll K H xs ds → ds.length = 4 → ∃ u1 u2 u3 u4 d1 d2 d3 d4, xs = [u1, u2, u3, u4] ∧ ds = [d1, d2, d3, d4] ∧ DpX K H u1 d1 ∧ DpX K H u2 d2 ∧ DpX K H u3 d3 ∧ DpX K H u4 d4 := by
  intro xs ds h hl
  match ds, hl with
  | [d1, d2, d3, d4], _ =>
    cases h with
    | @cons u1 us _ _ g1 h =>
    cases h with
    | @cons u2 us _ _ g2 h =>
    cases h with
    | @cons u3 us _ _ g3 h =>
    cases h with
    | @cons u4 us _ _ g4 h =>
    cases h
    exact ⟨_, _, _, _, _, _, _, _, rfl, rfl, g1, g2, g3, g4⟩
theorem shapeB_no {d : PyData} (h : isTup d = false) : shapeB d = false := by cases d <;> first | rfl | cases h
theorem waysB_no {d : PyData} (h : isTup d = false) : waysB d = false := by cases d <;> first | rfl | cases h
theorem num_neg {q : Rat} : (rdq q).1 < 0 ↔ q < 0 := by
  have e := qv_lt (rdq_red q) (y := (0, 1)) ⟨by decide, by decide⟩
  rw [qv_rdq, qv_nought] at e
  rw [e]
  show _ ↔ (rdq q).1 * 1 < 0 * (rdq q).2
  omega
theorem Bk.rat_sm {b l c k : Nat} {x y : Int} (h : Bk b l c k (.tuple [.int x, .int y])) : Sm b x ∧ Sm b y := by
  have z := h.it
  cases z with
  | tup _ z =>
    have y1 := z (.int x) (by simp)
    have y2 := z (.int y) (by simp)
    cases y1 with
    | int y1 =>
      cases y2 with
      | int y2 => exact ⟨y1, y2⟩
theorem high_sum {t b To P0 : Int} (hb : 0 < b) (hP : 0 < P0) (st : Sm 1500 t) (sb : Sm 1500 b) (sTo : Sm 1300 To) (sP0 : Sm 1300 P0) : SmR 3000 (rdq (qv (t, b) + (To : Rat) / (P0 : Rat))) := by
  have hbP : 0 < b * P0 := Int.mul_pos hb hP
  have e : rdq (qv (t, b) + (To : Rat) / (P0 : Rat)) = low2 (t * P0 + To * b) (b * P0) := by
    refine (is_rdq (low2_red (Int.ne_of_gt hbP)) ?_).symm
    rw [qv_low2 hbP]
    have c1 := cast_ne (Int.ne_of_gt hb)
    have c2 := cast_ne (Int.ne_of_gt hP)
    rw [Rat.intCast_add, Rat.intCast_mul, Rat.intCast_mul, Rat.intCast_mul]
    show _ = (t : Rat) / (b : Rat) + (To : Rat) / (P0 : Rat)
    grind
  rw [e]
  have s1 : Sm 2800 (t * P0) := (st.mul sP0).mono (by decide)
  have s2 : Sm 2800 (To * b) := (sTo.mul sb).mono (by decide)
  have s3 : Sm 2801 (t * P0 + To * b) := s1.add s2
  exact ⟨low2_red (Int.ne_of_gt hbP), (ratT_sm hbP s3).mono (by decide), (ratB_sm hbP ((sb.mul sP0).mono (show _ ≤ 2800 by decide))).mono (by decide)⟩
section
variable {P : Program} {w : World} {K : PySem.W.Frag} {mg : Str → Option Value} {base : Heap} {aN aO : Addr}
def spWd (K : PySem.W.Frag) : Sp := fun vs H Q _ => ∃ (p : Addr) (row : List RT) (step : RT) (n beat : Nat) (D N E : Int) (v : V) (d : PyData) (b l c k : Nat), vs = [.ref p, .int (beat : Int), v] ∧ LifeAt K H p row step ∧ LifeOk n row step ∧ n ≤ 20 ∧ (row = [] → step = (0, 1)) ∧ Ch01 D (chR row step) 20 ∧ Tot row step N E ∧ (∀ k, k ≤ 20 → 0 ≤ lastQ (chR row step) k) ∧ beat ≤ 20 ∧ DpX K H v d ∧ Bk b l c k d ∧ b ≤ 1500 ∧ l ≤ 900 ∧
  ∀ z H', Same H H' → DpX K H' z (dueW (chR row step) beat d) → Q z H'
theorem ok_wd {f fLIR fLIW fSU fLWC fSB fLL : Addr} {fd fdLIR fdLIW fdSU fdLWC fdSB fdLL : FuncData} (F : Fun K "_law_ways_due" "_law_ways_due" s_wd f fd)
    (FLIR : Fun K "_law_is_ratio" "_law_is_ratio" s_lir fLIR fdLIR) (bLIR : Binds K fdLIR ["_law_thing"] []) (gLIR : mg "_law_is_ratio" = some (.ref fLIR)) (GLIR : FnOk P w K mg base CX0 2 fLIR fdLIR ["_law_thing"] (spLirX K))
    (FLIW : Fun K "_law_is_way" "_law_is_way" s_liw fLIW fdLIW) (bLIW : Binds K fdLIW ["_law_thing"] []) (gLIW : mg "_law_is_way" = some (.ref fLIW)) (GLIW : FnOk P w K mg base CX0 3 fLIW fdLIW ["_law_thing"] (spLiw K))
    (FSU : Fun K "_law_sum" "_law_sum" s_lsum fSU fdSU) (bSU : Binds K fdSU ["_law_some"] []) (gSU : mg "_law_sum" = some (.ref fSU)) (GSU : FnOk P w K mg base CX0 2 fSU fdSU ["_law_some"] (spLsum K LstAt))
    (FLWC : Fun K "_law_way_chance" "_law_way_chance" s_lwc fLWC fdLWC) (bLWC : Binds K fdLWC ["_law_life_here", "_law_way"] []) (gLWC : mg "_law_way_chance" = some (.ref fLWC)) (GLWC : FnOk P w K mg base CX0 4 fLWC fdLWC ["_law_life_here", "_law_way"] (spLwc K))
    (FSB : Fun K "_law_stands_by" "_law_stands_by" s_sb fSB fdSB) (bSB : Binds K fdSB ["_law_life_here", "_law_beat", "_law_way"] []) (gSB : mg "_law_stands_by" = some (.ref fSB)) (GSB : FnOk P w K mg base CX0 5 fSB fdSB ["_law_life_here", "_law_beat", "_law_way"] (spSb K))
    (FLL : Fun K "_law_less" "_law_less" s_lless fLL fdLL) (bLL : Binds K fdLL ["_law_one", "_law_other"] []) (gLL : mg "_law_less" = some (.ref fLL)) (GLL : FnOk P w K mg base CX0 2 fLL fdLL ["_law_one", "_law_other"] (spTwo K (fun a b c d => a * d - c * b)))
    (n_enumerate : mg "enumerate" = none) (n_isinstance : mg "isinstance" = none) (n_len : mg "len" = none) (n_sum : mg "sum" = none) (n_tuple : mg "tuple" = none) : FnOk P w K mg base CX0 6 f fd ["_law_life_here", "_law_beat", "_law_thing"] (spWd K) := by
  refine F.ok sc_wd (fun vs H Q E h => ?_) (fun cdv A outer s H vs Q E hr h => ?_)
  · obtain ⟨_, _, _, _, _, _, _, _, _, _, _, _, _, _, rfl, _⟩ := h
    rfl
  · obtain ⟨p, row, step, n, beat, D, N, E', v, d, b, l, c, k, rfl, hlife, L, hn, hnil, C1, T, hls, hb, hd, hB, hb2, hl9, q⟩ := h
    refine ⟨_, (pss_cons (ps_if (PW.pt (pw_or (pt_not (pt_val (pe_callB call_isi (by rfl) n_isinstance (by decide +kernel) (pa_cons (pv 2) (pa_cons (pe_bltn (v := .ty "tuple") (by rfl) n_tuple (by decide +kernel) rfl) pa_nil))))) (pw_or1 (pt_cmpR op_ne (pe_callB call_lenN (by rfl) n_len PySem.boot_len (pa_cons (pv 2) pa_nil)) pe_int (nomark _))))) (pss_one (ps_ret (pe_tup (pa_cons pe_str (pa_cons pe_int pa_nil))))) pss_nil)
      (pss_cons (ps_if (PW.pt (pw_or (pt_not (pt_val (pe_call GLIR (hr.mono (by decide)) (by rfl) gLIR FLIR.kp bLIR .nil pass0 (pa_cons (pe_ix ix_tup (pv 2) pe_int (fun _ _ => rfl)) pa_nil)))) (pw_or1 (pt_not (pt_val (pe_call GLIR (hr.mono (by decide)) (by rfl) gLIR FLIR.kp bLIR .nil pass0 (pa_cons (pe_ix ix_tup (pv 2) pe_int (fun _ _ => rfl)) pa_nil))))))) (pss_one (ps_ret (pe_tup (pa_cons pe_str (pa_cons pe_int pa_nil))))) pss_nil)
      (pss_cons (ps_for PassesOwn.never rfl (pi_tup (pe_slice sl_tupA (pv 2) (po_some pe_int) po_none)) (pg_name (i := 3) sc_wd.nd rfl (.inl rfl)) (pss_one (ps_if (PW.pt (pw_or (pt_not (pt_val (pe_callB call_isi (by rfl) n_isinstance (by decide +kernel) (pa_cons (pv 3) (pa_cons (pe_bltn (v := .ty "tuple") (by rfl) n_tuple (by decide +kernel) rfl) pa_nil))))) (pw_or (pt_cmpR op_gt (pe_callB call_lenN (by rfl) n_len PySem.boot_len (pa_cons (pv 3) pa_nil)) pe_int (nomark _)) (pw_or1 (pt_cmpR op_in_seq pe_bl (pe_lc (own := [("_law_way", 5)]) (g := (gName 5)) (tt := tYes) (te := (tCall (spLiw K) [] E0 (tCons (tVar 5) tNil))) rfl sc_wd.nd (pi_tup (pv 3)) (blkOk_by (own := [("_law_way", 5)]) (N := N_wd) (sc := (defScope s_wd)) (by decide +kernel)) (fun _ _ _ _ _ => (pg_name (i := 5) sc_wd.nd rfl (.inl rfl))) (fun _ _ _ _ _ => pts_nil) (fun _ _ _ _ _ => (pe_call GLIW (hr.mono (by decide)) (by rfl) gLIW FLIW.kp bLIW .nil pass0 (pa_cons (pv 5) pa_nil)))) rfl))))) (pss_one (ps_ret (pe_tup (pa_cons pe_str (pa_cons pe_int pa_nil))))) pss_nil)))
      (pss_cons (ps_for PassesOwn.never rfl (pi_eT (by rfl) n_enumerate (pa_cons (pe_ix ix_tup (pv 2) pe_int (fun _ _ => rfl)) pa_nil)) (pg_tup rfl (pgs_cons (pg_name (i := 4) sc_wd.nd rfl (.inl rfl)) (pgs_cons (pg_name (i := 5) sc_wd.nd rfl (.inl rfl)) pgs_nil))) (pss_one (ps_if (PW.pt (pw_or (pt_cmpR op_ne (pe_callB (cr_sumT rfl) (by rfl) n_sum (by decide +kernel) (pa_cons (pv 5) pa_nil)) (pv 1) (nomark _)) (pw_or1 (PW.pt (pw_and (pt_cmpR op_gt (pv 4) pe_int (nomark _)) (pw_and1 (pt_not (pt_cmpR (op_ltT (Nat.lt_of_succ_lt (hu_of hr))) (pe_ix ix_tup (pe_ix ix_tup (pv 2) pe_int (fun _ _ => rfl)) (pe_op op_sub (pv 4) pe_int) (fun _ _ => rfl)) (pv 5) (nomark _))))))))) (pss_one (ps_ret (pe_tup (pa_cons pe_str (pa_cons (pv 4) pa_nil))))) pss_nil)))
      (pss_cons (ps_for PassesOwn.never rfl (pi_eT (by rfl) n_enumerate (pa_cons (pe_ix ix_tup (pv 2) pe_int (fun _ _ => rfl)) pa_nil)) (pg_tup rfl (pgs_cons (pg_name (i := 4) sc_wd.nd rfl (.inl rfl)) (pgs_cons (pg_name (i := 5) sc_wd.nd rfl (.inl rfl)) pgs_nil))) (pss_one (ps_if (PW.pt (pw_or (pt_not (pt_cmpR op_lt (pe_callB (cr_sumT rfl) (by rfl) n_sum (by decide +kernel) (pa_cons (pv 5) pa_nil)) (pv 1) (nomark _))) (pw_or1 (PW.pt (pw_and (pt_cmpR op_gt (pv 4) pe_int (nomark _)) (pw_and1 (pt_not (pt_cmpR (op_ltT (Nat.lt_of_succ_lt (hu_of hr))) (pe_ix ix_tup (pe_ix ix_tup (pv 2) pe_int (fun _ _ => rfl)) (pe_op op_sub (pv 4) pe_int) (fun _ _ => rfl)) (pv 5) (nomark _))))))))) (pss_one (ps_ret (pe_tup (pa_cons pe_str (pa_cons (pv 4) pa_nil))))) pss_nil)))
      (pss_cons (ps_asg (pe_tup (pa_cons (pe_tup (pa_cons pe_int (pa_cons pe_int pa_nil))) (pa_cons (pe_tup (pa_cons pe_int (pa_cons pe_int pa_nil))) pa_nil))) (pg_tup rfl (pgs_cons (pg_name (i := 6) sc_wd.nd rfl (.inl rfl)) (pgs_cons (pg_name (i := 7) sc_wd.nd rfl (.inl rfl)) pgs_nil))))
      (pss_cons (ps_for PassesOwn.never rfl (pi_tup (pe_ix ix_tup (pv 2) pe_int (fun _ _ => rfl))) (pg_name (i := 5) sc_wd.nd rfl (.inl rfl)) (pss_one (ps_set (i := 6) sc_wd.nd rfl (.inl rfl) (pe_call GSU (hr.mono (by decide)) (by rfl) gSU FSU.kp bSU .nil pass0 (pa_cons (pe_lst (pa_cons (pv 6) (pa_cons (pe_call GLWC (hr.mono (by decide)) (by rfl) gLWC FLWC.kp bLWC .nil pass0 (pa_cons (pv 0) (pa_cons (pv 5) pa_nil))) pa_nil))) pa_nil)))))
      (pss_cons (ps_for PassesOwn.never rfl (pi_tup (pe_ix ix_tup (pv 2) pe_int (fun _ _ => rfl))) (pg_name (i := 5) sc_wd.nd rfl (.inl rfl)) (pss_one (ps_set (i := 7) sc_wd.nd rfl (.inl rfl) (pe_call GSU (hr.mono (by decide)) (by rfl) gSU FSU.kp bSU .nil pass0 (pa_cons (pe_lst (pa_cons (pv 7) (pa_cons (pe_call GSB hr (by rfl) gSB FSB.kp bSB .nil pass0 (pa_cons (pv 0) (pa_cons (pv 1) (pa_cons (pv 5) pa_nil)))) pa_nil))) pa_nil)))))
      (pss_cons (ps_if (pt_cmpR op_lt (pe_ix ix_tup (pe_call GLL (hr.mono (by decide)) (by rfl) gLL FLL.kp bLL .nil pass0 (pa_cons (pv 6) (pa_cons (pe_ix ix_tup (pv 2) pe_int (fun _ _ => rfl)) pa_nil))) pe_int (fun _ _ => rfl)) pe_int (nomark _)) (pss_one (ps_ret (pe_tup (pa_cons pe_str (pa_cons pe_int pa_nil))))) pss_nil)
      (pss_one (ps_ret (pe_ifExp (pt_cmpR op_lt (pe_ix ix_tup (pe_call GLL (hr.mono (by decide)) (by rfl) gLL FLL.kp bLL .nil pass0 (pa_cons (pe_call GSU (hr.mono (by decide)) (by rfl) gSU FSU.kp bSU .nil pass0 (pa_cons (pe_lst (pa_cons (pe_ix ix_tup (pv 2) pe_int (fun _ _ => rfl)) (pa_cons (pv 7) pa_nil))) pa_nil)) (pa_cons (pe_tup (pa_cons pe_int (pa_cons pe_int pa_nil))) pa_nil))) pe_int (fun _ _ => rfl)) pe_int (nomark _)) (pe_tup (pa_cons pe_str (pa_cons pe_int pa_nil))) pe_bl)))))))))))), ?_⟩
    have bad : ∀ (wd : String) (kk : Nat) (H1 : Hp), Same H H1 → letsW (chR row step) beat d = some (wd, kk) → ∀ T, H1 T = none → Q (.ref T) (upd H1 T (.tup [.str (Str.ofString wd), .int ((kk : Nat) : Int)])) := fun wd kk H1 s1 e T nT => by
      refine q _ _ (s1.trans (same_new nT)) ?_
      unfold dueW
      rw [e]
      exact .tup (SqT.of upd_same) (.cons (.str _) (.cons (.int _) .nil))
    refine ⟨_, rfl, ?_⟩
    refine tcn_go ?_
    refine isx_tup hd ?_
    refine ⟨_, rfl, ?_⟩
    cases ht : isTup d with
    | false =>
      refine iteT ?_
      exact ⟨by show 2 ≤ sizeLine; decide, bad "shape" 0 H (Same.refl H) (letsW_shape (shapeB_no ht))⟩
    | true =>
    obtain ⟨ds, rfl⟩ : ∃ ds, d = .tuple ds := by cases d <;> first | exact ⟨_, rfl⟩ | cases ht
    obtain ⟨jb, rfl, hlen, hBs⟩ := hB.tupI
    have hd0 := hd
    cases hd with
    | @tup pd xs _ h1 h2 =>
    refine iteF ?_
    refine ⟨_, rfl, ?_⟩
    refine tnil_go ?_
    refine lenD hd0 ?_
    refine tC_go ?_
    refine ⟨rfl, _, rfl, ?_⟩
    by_cases h4 : ds.length = 4
    case neg =>
      rw [show (!decide (V.int (ds.length : Int) = V.int 4)) = true from by
        rw [decide_eq_false (fun y => h4 (by have := V.int.inj y; omega))]
        rfl]
      refine iteT ?_
      exact ⟨by show 2 ≤ sizeLine; decide, bad "shape" 0 H (Same.refl H) (letsW_shape (shapeB_len h4))⟩
    rw [show (!decide (V.int (ds.length : Int) = V.int 4)) = false from by
      rw [h4]
      rfl]
    refine iteF ?_
    obtain ⟨u1, u2, u3, u4, d1, d2, d3, d4, rfl, rfl, g1, g2, g3, g4⟩ := four_of h2 h4
    clear h4 ht h2
    have hsm : ∀ {i : Nat} {e : PyData}, [d1, d2, d3, d4][i]? = some e → ∀ x y, e = .tuple [.int x, .int y] → Sm 8000 y := fun {i e} hi x y he => by
      subst he
      exact ((hBs.get hi).rat_sm).2.mono (by omega)
    refine ⟨_, rfl, pd, _, _, _, rfl, rfl, h1, at_of (j := 0) rfl rfl, ?_⟩
    refine tnil_go ?_
    refine ⟨u1, d1, rfl, g1, hsm (i := 0) rfl, fun H1 s1 => ?_⟩
    refine ⟨_, rfl, ?_⟩
    cases r1 : ratioD d1 with
    | false =>
      refine iteT ?_
      exact ⟨by show 2 ≤ sizeLine; decide, bad "shape" 0 H1 s1 (letsW_shape (by show (ratioD d1 && _) = false; rw [r1]; rfl))⟩
    | true =>
    refine iteF ?_
    refine ⟨_, rfl, pd, _, _, _, rfl, rfl, sqT_same s1 h1, at_of (j := 1) rfl rfl, ?_⟩
    refine tnil_go ?_
    refine ⟨u2, d2, rfl, g2.same s1, hsm (i := 1) rfl, fun H2 s2 => ?_⟩
    refine ⟨_, rfl, ?_⟩
    cases r2 : ratioD d2 with
    | false =>
      refine iteT ?_
      exact ⟨by show 2 ≤ sizeLine; decide, bad "shape" 0 H2 (s1.trans s2) (letsW_shape (by show (ratioD d1 && (ratioD d2 && _)) = false; rw [r1, r2]; rfl))⟩
    | true =>
    refine iteF ?_
    have S2 := s1.trans s2
    have hd2 := hd0.same S2
    refine ⟨_, rfl, ?_⟩
    refine tC_go ?_
    refine ⟨_, rfl, ?_⟩
    refine noPart_go ?_
    refine slD_fr (A := fun _ => False) (i := 2) Dom.no (DA.no.mpr hd2) fun w3 H3 s3 p3 => ?_
    obtain ⟨ar, ur, rfl, k1, k2⟩ := p3.tupE
    have k2 := (show DpXAll K H3 ur [d3, d4] from (by unfold DAs at k2; rw [hid_no] at k2; exact k2))
    have hul : ur.length = 2 := k2.len
    have S3 := S2.trans s3
    refine ⟨ar, rfl, ⟨_, k1⟩, ?_⟩
    refine for_it (walk_tup (K := K) (a := ar) (xs := ur)) (fun i σ HB => ∃ z3 z4 z5 z6 z7 : Option V, σ = [some (.ref p), some (.int (beat : Int)), some (.ref pd), z3, z4, z5, z6, z7] ∧ Same H3 HB ∧ ∀ j e, j < i → [d3, d4][j]? = some e → waysB e = true) ⟨_, _, _, _, _, rfl, Same.refl _, fun j e hj => absurd hj (by omega)⟩ (fun i σ HB _ z => ?_) ?_ ?_
    · obtain ⟨_, _, _, _, _, _, sB, _⟩ := z
      exact sqT_same sB k1
    · rintro i u σ HB HB' hi ⟨z3, z4, z5, z6, z7, rfl, sB, hall⟩ ⟨rfl, hu⟩
      rw [hul] at hi
      obtain ⟨e, he⟩ : ∃ e, [d3, d4][i]? = some e := ⟨_, List.getElem?_eq_getElem (show i < 2 from hi)⟩
      obtain ⟨u', hu', hue⟩ := k2.get he
      rw [hu] at hu'
      cases hu'
      have he4 : [d1, d2, d3, d4][2 + i]? = some e := by
        rcases (by omega : i = 0 ∨ i = 1) with rfl | rfl
        · exact he
        · exact he
      have hBe := hBs.get he4
      have hue := hue.same sB
      have SB := S3.trans sB
      have shp : waysB e = false → shapeB (.tuple [d1, d2, d3, d4]) = false := fun z => by
        show (ratioD d1 && (ratioD d2 && (waysB d3 && waysB d4))) = false
        rcases (by omega : i = 0 ∨ i = 1) with rfl | rfl
        · cases he
          rw [z, r1, r2]
          rfl
        · cases he
          rw [z, r1, r2, Bool.and_false]
          rfl
      refine ⟨_, rfl, ?_⟩
      refine tcn_go ?_
      refine isx_tup hue ?_
      refine ⟨_, rfl, ?_⟩
      cases ht : isTup e with
      | false =>
        refine iteT ?_
        exact ⟨by show 2 ≤ sizeLine; decide, bad "shape" 0 _ SB (letsW_shape (shp (waysB_no ht)))⟩
      | true =>
      refine iteF ?_
      obtain ⟨es, rfl⟩ : ∃ es, e = .tuple es := by cases e <;> first | exact ⟨_, rfl⟩ | cases ht
      obtain ⟨je, rfl, hle, hBe2⟩ := hBe.tupI
      have hue0 := hue
      cases hue with
      | @tup pe ys _ y1 y2 =>
      have hyl := y2.len
      refine ⟨_, rfl, ?_⟩
      refine tnil_go ?_
      refine lenD hue0 ?_
      refine tC_go ?_
      refine ⟨_, _, rfl, rfl, _, rfl, ?_⟩
      have eW : waysB (.tuple es) = (decide (es.length ≤ 200) && es.all wayD) := rfl
      by_cases h200 : es.length ≤ 200
      case neg =>
        rw [show decide ((200 : Int) < (es.length : Int)) = true from decide_eq_true (by omega)]
        refine iteT ?_
        exact ⟨by show 2 ≤ sizeLine; decide, bad "shape" 0 _ SB (letsW_shape (shp (by rw [eW, decide_eq_false h200]; rfl)))⟩
      rw [show decide ((200 : Int) < (es.length : Int)) = false from decide_eq_false (by omega)]
      refine iteF ?_
      refine ⟨_, rfl, pe, rfl, ⟨_, y1⟩, ?_⟩
      have hub : ys.length = (es.map wayD).length := by rw [List.length_map]; exact hyl
      refine lc_val (walk_tup (K := K) (a := pe) (xs := ys)) (fun k => .bl ((es.map wayD).getD k false)) (by omega) (fun HE sE => sqT_same sE y1) (fun k x HE HE' R hk sE hY qr => ?_) (fun Dl H4 s4 hD => ?_)
      · obtain ⟨rfl, hx⟩ := hY
        obtain ⟨e0, he0⟩ : ∃ e0, es[k]? = some e0 := ⟨_, List.getElem?_eq_getElem (by omega)⟩
        obtain ⟨v', hv', hde⟩ := y2.get he0
        rw [hx] at hv'
        cases hv'
        have e9 : (es.map wayD).getD k false = wayD e0 := by
          rw [List.getD_eq_getElem?_getD, List.getElem?_map, he0]
          rfl
        rw [e9] at qr
        refine ⟨rfl, ?_⟩
        refine ⟨_, rfl, ?_⟩
        refine tnil_go ?_
        exact ⟨x, e0, _, _, _, _, rfl, hde.same sE, hBe2.get he0, hl9, fun HF sF => qr HF sF⟩
      rw [hub, range_bools] at hD
      refine ⟨Dl, _, rfl, .inl (SqL.of hD), rfl, by rw [List.all_map, List.all_eq_true]; intro y _; rfl, ?_⟩
      rw [in_bools, List.all_map]
      refine ⟨_, rfl, ?_⟩
      have S4 := SB.trans s4
      cases hw : es.all wayD with
      | false =>
        rw [show (es.all (id ∘ wayD)) = false from hw]
        refine iteT ?_
        exact ⟨by show 2 ≤ sizeLine; decide, bad "shape" 0 _ S4 (letsW_shape (shp (by rw [eW, hw, Bool.and_false])))⟩
      | true =>
        rw [show (es.all (id ∘ wayD)) = true from hw]
        refine iteF ?_
        refine ⟨_, _, _, _, _, rfl, sB.trans s4, fun j e hj hje => ?_⟩
        rcases Nat.lt_succ_iff_lt_or_eq.mp hj with z | z
        · exact hall j e z hje
        · rw [z, he] at hje
          cases hje
          rw [eW, hw, decide_eq_true h200]
          rfl
    rintro σ HB ⟨z3, z4, z5, z6, z7, rfl, sB, hall⟩
    rw [hul] at hall
    have w3 := hall 0 d3 (by omega) rfl
    have w4 := hall 1 d4 (by omega) rfl
    clear hall
    have hsh : shapeB (.tuple [d1, d2, d3, d4]) = true := by
      show (ratioD d1 && (ratioD d2 && (waysB d3 && waysB d4))) = true
      rw [r1, r2, w3, w4]
      rfl
    have SB := S3.trans sB
    have g1 := g1.same SB
    have g2 := g2.same SB
    have g3 := g3.same SB
    have g4 := g4.same SB
    have h1 := sqT_same SB h1
    have lfB := hlife.tk (K := K) (Tk.same SB)
    obtain ⟨t1, b1, rfl, red1⟩ := ratioD_inv r1
    obtain ⟨t2, b2, rfl, red2⟩ := ratioD_inv r2
    obtain ⟨e3, pos3, len3⟩ := waysB_inv w3
    obtain ⟨e4, pos4, len4⟩ := waysB_inv w4
    have sm1 := (hBs.get (i := 0) rfl).rat_sm
    have sm2 := (hBs.get (i := 1) rfl).rat_sm
    have eL : letsW (chR row step) beat (.tuple [.tuple [.int t1, .int b1], .tuple [.int t2, .int b2], d3, d4]) = (match fwr beat beat (waysI d3) with
      | some k => some ("hit", k)
      | none => match fwr 0 ((beat : Int) - 1) (waysI d4) with
        | some k => some ("stand", k)
        | none => if hitQ (chR row step) (waysI d3) < qv (t1, b1) then some ("low", 0) else if qv (t2, b2) < 1 - standQ (chR row step) beat (waysI d4) then some ("high", 0) else none) := by
      unfold letsW
      exact if_pos hsh
    rw [e3] at g3
    rw [e4] at g4
    have eDue : dueW (chR row step) beat (.tuple [.tuple [.int t1, .int b1], .tuple [.int t2, .int b2], d3, d4]) = (match letsW (chR row step) beat (.tuple [.tuple [.int t1, .int b1], .tuple [.int t2, .int b2], d3, d4]) with
      | none => .bool true
      | some (w, k) => .tuple [.str (Str.ofString w), .int ((k : Nat) : Int)]) := rfl
    rw [eDue, eL] at q
    rw [eL] at bad
    clear eL eDue hsh hBs hd0 hd2 hsm hB w3 w4 hlen e3 e4 r1 r2 k1 k2 hul S2 S3 s1 s2 s3 p3
    generalize waysI d3 = ws3 at *
    generalize waysI d4 = ws4 at *
    obtain ⟨p1, rfl, hp1⟩ := DpX.rat (x := (t1, b1)) g1
    obtain ⟨p2, rfl, hp2⟩ := DpX.rat (x := (t2, b2)) g2
    obtain ⟨pw3, rfl, hw3⟩ := dpx_ws g3
    obtain ⟨pw4, rfl, hw4⟩ := dpx_ws g4
    clear g1 g2 g3 g4 hlife
    have bad : ∀ (wd : String) (kk : Nat) (H1 : Hp), Same HB H1 → _ = some (wd, kk) → ∀ T, H1 T = none → Q (.ref T) (upd H1 T (.tup [.str (Str.ofString wd), .int ((kk : Nat) : Int)])) := fun wd kk H1 s1 e => bad wd kk H1 (SB.trans s1) e
    have q := fun z H1 (s1 : Same HB H1) => q z H1 (SB.trans s1)
    clear SB sB
    obtain ⟨rs3, x1, x2⟩ := hw3
    obtain ⟨rs4, y1, y2⟩ := hw4
    have hrl3 := x2.1
    have hrl4 := y2.1
    refine ⟨_, rfl, pd, _, _, _, rfl, rfl, h1, at_of (j := 2) rfl rfl, ?_⟩
    refine tnil_go ?_
    refine ⟨pw3, _, rfl, x1, ?_⟩
    refine for_it (walk_q (Sq := fun H xs => SqT K H pw3 xs) (k := 0) (xs := rs3.map V.ref)) (fun i σ HC => ∃ z3 z4 z5 z6 z7 : Option V, σ = [some (.ref p), some (.int (beat : Int)), some (.ref pd), z3, z4, z5, z6, z7] ∧ Same HB HC ∧ ∀ j, j < i → wrongAt beat beat ws3 j = false) ⟨_, _, _, _, _, rfl, Same.refl _, fun j hj => absurd hj (by omega)⟩ (fun i σ HC _ z => ?_) ?_ ?_
    · obtain ⟨_, _, _, _, _, _, sC, _⟩ := z
      exact sqT_same sC x1
    · rintro i v σ HC HC' hi ⟨z3, z4, z5, z6, z7, rfl, sC, hall⟩ ⟨T, x3, x4, rfl, nT, rfl, ex1, ex2⟩
      rw [List.length_map, hrl3] at hi
      dsimp only at ex1 ex2
      cases Option.some.inj ex1
      obtain ⟨y, hy⟩ : ∃ y, ws3[i]? = some y := ⟨_, List.getElem?_eq_getElem hi⟩
      obtain ⟨r, hr1, hr2⟩ := x2.get hy
      rw [List.getElem?_map, hr1] at ex2
      cases Option.some.inj ex2
      have gT := same_new (o := HO.tup [.int (0 + ((i : Nat) : Int)), .ref r]) nT
      have S := sC.trans gT
      refine ⟨T, _, rfl, SqT.of upd_same, rfl, _, _, rfl, _, _, rfl, rfl, ?_⟩
      generalize upd HC T (HO.tup [.int (0 + ((i : Nat) : Int)), .ref r]) = HE at *
      have eg : ws3.getD i [] = y := getD_of hy
      have bd : wrongAt beat beat ws3 i = true → ∀ T, HE T = none → Q (.ref T) (upd HE T (.tup [.str "hit", .int (0 + ((i : Nat) : Int))])) := fun hw T nT => by
        rw [Int.zero_add]
        exact bad "hit" i HE S (by rw [fwr_some hi hall hw]) T nT
      refine ⟨_, rfl, ?_⟩
      refine tnil_go ?_
      refine ⟨r, y, rfl, sqT_same S hr2, ?_⟩
      refine ⟨_, rfl, ?_⟩
      refine ⟨rfl, _, rfl, ?_⟩
      by_cases c1 : y.sum = (beat : Int)
      case neg =>
        rw [show (!decide (V.int y.sum = V.int (beat : Int))) = true from by
          rw [decide_eq_false (fun y => c1 (V.int.inj y))]
          rfl]
        refine iteT ?_
        refine ⟨_, rfl, by show 2 ≤ sizeLine; decide, bd ?_⟩
        unfold wrongAt
        rw [eg, show (decide ((beat : Int) ≤ y.sum) && decide (y.sum ≤ (beat : Int))) = false from by
          rw [Bool.and_eq_false_iff, decide_eq_false_iff_not, decide_eq_false_iff_not]
          omega]
        rfl
      rw [show (!decide (V.int y.sum = V.int (beat : Int))) = false from by rw [c1, decide_eq_true rfl]; rfl]
      refine iteF ?_
      have ok1 : (!(decide ((beat : Int) ≤ (ws3.getD i []).sum) && decide ((ws3.getD i []).sum ≤ (beat : Int)))) = false := by
        rw [eg, c1, decide_eq_true (Int.le_refl _)]
        rfl
      refine ⟨_, rfl, ?_⟩
      refine tC_go ?_
      refine ⟨_, _, rfl, rfl, _, rfl, ?_⟩
      by_cases c3 : 0 < i
      · rw [show decide ((0 : Int) < 0 + ((i : Nat) : Int)) = true from decide_eq_true (by omega)]
        refine iteT ?_
        obtain ⟨y', hy'⟩ : ∃ y', ws3[i - 1]? = some y' := ⟨_, List.getElem?_eq_getElem (by omega)⟩
        obtain ⟨r', hr1', hr2'⟩ := x2.get hy'
        have eg' : ws3.getD (i - 1) [] = y' := getD_of hy'
        refine ⟨_, rfl, pd, _, _, _, rfl, rfl, sqT_same S h1, at_of (j := 2) rfl rfl, ?_⟩
        refine ⟨_, rfl, ?_⟩
        refine tC_go ?_
        refine ⟨_, _, rfl, rfl, ?_⟩
        refine ⟨pw3, _, _, _, rfl, rfl, sqT_same S x1, at_of (j := i - 1) (by omega) (by rw [List.getElem?_map, hr1']; rfl), ?_⟩
        refine ⟨_, rfl, ?_⟩
        refine ⟨r', r, y', y, rfl, rfl, sqT_same S hr2', sqT_same S hr2, ?_⟩
        rw [ltW_lex]
        refine ⟨_, rfl, ?_⟩
        have e9 : wrongAt beat beat ws3 i = !ltW y' y := by
          unfold wrongAt
          rw [ok1, decide_eq_true c3, eg, eg']
          rfl
        cases c4 : ltW y' y with
        | true =>
          refine iteF ?_
          refine ⟨_, _, _, _, _, rfl, S, fun j hj => ?_⟩
          rcases Nat.lt_succ_iff_lt_or_eq.mp hj with z | z
          · exact hall j z
          · rw [z, e9, c4]
            rfl
        | false =>
          refine iteT ?_
          exact ⟨_, rfl, by show 2 ≤ sizeLine; decide, bd (by rw [e9, c4]; rfl)⟩
      · rw [show decide ((0 : Int) < 0 + ((i : Nat) : Int)) = false from decide_eq_false (by omega)]
        refine iteF ?_
        refine ⟨_, _, _, _, _, rfl, S, fun j hj => ?_⟩
        rcases Nat.lt_succ_iff_lt_or_eq.mp hj with z | z
        · exact hall j z
        · rw [z]
          unfold wrongAt
          rw [ok1, decide_eq_false c3]
          rfl
    rintro σ HC ⟨z3, z4, z5, z6, z7, rfl, sC, hall⟩
    rw [List.length_map, hrl3] at hall
    have f1 := fwr_none.mpr hall
    clear hall
    rw [f1] at q bad
    have bad : ∀ (wd : String) (kk : Nat) (H1 : Hp), Same HC H1 → _ = some (wd, kk) → ∀ T, H1 T = none → Q (.ref T) (upd H1 T (.tup [.str (Str.ofString wd), .int ((kk : Nat) : Int)])) := fun wd kk H1 s1 e => bad wd kk H1 (sC.trans s1) e
    have q := fun z H1 (s1 : Same HC H1) => q z H1 (sC.trans s1)
    have h1 := sqT_same sC h1
    have x1 := sqT_same sC x1
    have x2 := x2.tk tat_stays (Tk.same (K := K) sC)
    have y1 := sqT_same sC y1
    have y2 := y2.tk tat_stays (Tk.same (K := K) sC)
    have hp1 := hp1.tk (K := K) (Tk.same sC)
    have hp2 := hp2.tk (K := K) (Tk.same sC)
    have lfB := lfB.tk (K := K) (Tk.same sC)
    clear sC
    refine ⟨_, rfl, pd, _, _, _, rfl, rfl, h1, at_of (j := 3) rfl rfl, ?_⟩
    refine tnil_go ?_
    refine ⟨pw4, _, rfl, y1, ?_⟩
    refine for_it (walk_q (Sq := fun H xs => SqT K H pw4 xs) (k := 0) (xs := rs4.map V.ref)) (fun i σ HD => ∃ z3 z4 z5 z6 z7 : Option V, σ = [some (.ref p), some (.int (beat : Int)), some (.ref pd), z3, z4, z5, z6, z7] ∧ Same HC HD ∧ ∀ j, j < i → wrongAt 0 ((beat : Int) - 1) ws4 j = false) ⟨_, _, _, _, _, rfl, Same.refl _, fun j hj => absurd hj (by omega)⟩ (fun i σ HD _ z => ?_) ?_ ?_
    · obtain ⟨_, _, _, _, _, _, sC, _⟩ := z
      exact sqT_same sC y1
    · rintro i v σ HD HD' hi ⟨z3, z4, z5, z6, z7, rfl, sC, hall⟩ ⟨T, x3, x4, rfl, nT, rfl, ex1, ex2⟩
      rw [List.length_map, hrl4] at hi
      dsimp only at ex1 ex2
      cases Option.some.inj ex1
      obtain ⟨y, hy⟩ : ∃ y, ws4[i]? = some y := ⟨_, List.getElem?_eq_getElem hi⟩
      obtain ⟨r, hr1, hr2⟩ := y2.get hy
      rw [List.getElem?_map, hr1] at ex2
      cases Option.some.inj ex2
      have gT := same_new (o := HO.tup [.int (0 + ((i : Nat) : Int)), .ref r]) nT
      have S := sC.trans gT
      refine ⟨T, _, rfl, SqT.of upd_same, rfl, _, _, rfl, _, _, rfl, rfl, ?_⟩
      generalize upd HD T (HO.tup [.int (0 + ((i : Nat) : Int)), .ref r]) = HE at *
      have eg : ws4.getD i [] = y := getD_of hy
      have y0 : 0 ≤ y.sum := by
        have := way_ge (pos4 y (List.mem_of_getElem? hy))
        omega
      have bd : wrongAt 0 ((beat : Int) - 1) ws4 i = true → ∀ T, HE T = none → Q (.ref T) (upd HE T (.tup [.str "stand", .int (0 + ((i : Nat) : Int))])) := fun hw T nT => by
        rw [Int.zero_add]
        exact bad "stand" i HE S (by show (match fwr 0 ((beat : Int) - 1) ws4 with | some k => _ | none => _) = _; rw [fwr_some hi hall hw]) T nT
      refine ⟨_, rfl, ?_⟩
      refine tnil_go ?_
      refine ⟨r, y, rfl, sqT_same S hr2, ?_⟩
      refine ⟨_, rfl, ?_⟩
      refine ⟨_, _, rfl, rfl, _, rfl, ?_⟩
      by_cases c1 : y.sum < (beat : Int)
      case neg =>
        rw [decide_eq_false c1]
        refine iteT ?_
        refine ⟨_, rfl, by show 2 ≤ sizeLine; decide, bd ?_⟩
        unfold wrongAt
        rw [eg, show decide (y.sum ≤ (beat : Int) - 1) = false from decide_eq_false (by omega), Bool.and_false]
        rfl
      rw [decide_eq_true c1]
      refine iteF ?_
      have ok1 : (!(decide ((0 : Int) ≤ (ws4.getD i []).sum) && decide ((ws4.getD i []).sum ≤ (beat : Int) - 1))) = false := by
        rw [eg, decide_eq_true y0, show decide (y.sum ≤ (beat : Int) - 1) = true from decide_eq_true (by omega)]
        rfl
      refine ⟨_, rfl, ?_⟩
      refine tC_go ?_
      refine ⟨_, _, rfl, rfl, _, rfl, ?_⟩
      by_cases c3 : 0 < i
      · rw [show decide ((0 : Int) < 0 + ((i : Nat) : Int)) = true from decide_eq_true (by omega)]
        refine iteT ?_
        obtain ⟨y', hy'⟩ : ∃ y', ws4[i - 1]? = some y' := ⟨_, List.getElem?_eq_getElem (by omega)⟩
        obtain ⟨r', hr1', hr2'⟩ := y2.get hy'
        have eg' : ws4.getD (i - 1) [] = y' := getD_of hy'
        refine ⟨_, rfl, pd, _, _, _, rfl, rfl, sqT_same S h1, at_of (j := 3) rfl rfl, ?_⟩
        refine ⟨_, rfl, ?_⟩
        refine tC_go ?_
        refine ⟨_, _, rfl, rfl, ?_⟩
        refine ⟨pw4, _, _, _, rfl, rfl, sqT_same S y1, at_of (j := i - 1) (by omega) (by rw [List.getElem?_map, hr1']; rfl), ?_⟩
        refine ⟨_, rfl, ?_⟩
        refine ⟨r', r, y', y, rfl, rfl, sqT_same S hr2', sqT_same S hr2, ?_⟩
        rw [ltW_lex]
        refine ⟨_, rfl, ?_⟩
        have e9 : wrongAt 0 ((beat : Int) - 1) ws4 i = !ltW y' y := by
          unfold wrongAt
          rw [ok1, decide_eq_true c3, eg, eg']
          rfl
        cases c4 : ltW y' y with
        | true =>
          refine iteF ?_
          refine ⟨_, _, _, _, _, rfl, S, fun j hj => ?_⟩
          rcases Nat.lt_succ_iff_lt_or_eq.mp hj with z | z
          · exact hall j z
          · rw [z, e9, c4]
            rfl
        | false =>
          refine iteT ?_
          exact ⟨_, rfl, by show 2 ≤ sizeLine; decide, bd (by rw [e9, c4]; rfl)⟩
      · rw [show decide ((0 : Int) < 0 + ((i : Nat) : Int)) = false from decide_eq_false (by omega)]
        refine iteF ?_
        refine ⟨_, _, _, _, _, rfl, S, fun j hj => ?_⟩
        rcases Nat.lt_succ_iff_lt_or_eq.mp hj with z | z
        · exact hall j z
        · rw [z]
          unfold wrongAt
          rw [ok1, decide_eq_false c3]
          rfl
    rintro σ HD ⟨z3, z4, z5, z6, z7, rfl, sD, hall⟩
    rw [List.length_map, hrl4] at hall
    have f2 := fwr_none.mpr hall
    clear hall
    have q := fun z H1 (s1 : Same HD H1) => q z H1 (sD.trans s1)
    have bad : ∀ (wd : String) (kk : Nat) (H1 : Hp), Same HD H1 → _ = some (wd, kk) → ∀ T, H1 T = none → Q (.ref T) (upd H1 T (.tup [.str (Str.ofString wd), .int ((kk : Nat) : Int)])) := fun wd kk H1 s1 e => bad wd kk H1 (sD.trans s1) e
    dsimp only at q bad
    rw [f2] at q bad
    dsimp only at q bad
    have h1 := sqT_same sD h1
    have x1 := sqT_same sD x1
    have x2 := x2.tk tat_stays (Tk.same (K := K) sD)
    have y1 := sqT_same sD y1
    have y2 := y2.tk tat_stays (Tk.same (K := K) sD)
    have hp1 := hp1.tk (K := K) (Tk.same sD)
    have hp2 := hp2.tk (K := K) (Tk.same sD)
    have lfB := lfB.tk (K := K) (Tk.same sD)
    clear sD
    obtain ⟨su3, _⟩ := fwr_none_at f1
    obtain ⟨su4, _⟩ := fwr_none_at f2
    have W3 : WOk22 beat ws3 := ⟨pos3, fun w hw => (su3 w hw).2, by omega⟩
    have W4 : WOk22 beat ws4 := ⟨pos4, fun w hw => by have := (su4 w hw).2; omega, by omega⟩
    clear f1 f2 su3 su4
    refine ⟨by show 2 ≤ sizeLine; decide, fun v1 n1 => ?_⟩
    have e1 := same_new (o := HO.tup [.int 0, .int 1]) n1
    refine ⟨by show 2 ≤ sizeLine; decide, fun v2 n2 => ?_⟩
    have e2 := same_new (o := HO.tup [.int 0, .int 1]) n2
    refine ⟨by show 2 ≤ sizeLine; decide, fun v3 n3 => ?_⟩
    have e3 := same_new (o := HO.tup [.ref v1, .ref v2]) n3
    have E3 := e1.trans (e2.trans e3)
    refine ⟨v3, _, rfl, SqT.of upd_same, rfl, _, _, rfl, _, _, rfl, rfl, ?_⟩
    have zero : rdq 0 = (0, 1) := (is_rdq (x := (0, 1)) ⟨by decide, by decide⟩ qv_nought).symm
    have hv1 : RAt K (upd (upd (upd HD v1 (.tup [.int 0, .int 1])) v2 (.tup [.int 0, .int 1])) v3 (.tup [.ref v1, .ref v2])) v1 (rdq 0) := by
      rw [zero]
      exact SqT.of ((e2.trans e3) _ _ upd_same)
    have hv2 : RAt K (upd (upd (upd HD v1 (.tup [.int 0, .int 1])) v2 (.tup [.int 0, .int 1])) v3 (.tup [.ref v1, .ref v2])) v2 (rdq 0) := by
      rw [zero]
      exact SqT.of (e3 _ _ upd_same)
    generalize upd (upd (upd HD v1 (.tup [.int 0, .int 1])) v2 (.tup [.int 0, .int 1])) v3 (.tup [.ref v1, .ref v2]) = HE at *
    have h1E := sqT_same E3 h1
    have x1E := sqT_same E3 x1
    have x2E := x2.tk tat_stays (Tk.same (K := K) E3)
    have lfE := lfB.tk (K := K) (Tk.same E3)
    have hP := C1.powSm 20
    refine ⟨_, rfl, pd, _, _, _, rfl, rfl, h1E, at_of (j := 2) rfl rfl, ?_⟩
    refine ⟨pw3, rfl, ⟨_, x1E⟩, ?_⟩
    refine for_it (walk_tup (K := K) (a := pw3) (xs := rs3.map V.ref)) (fun i σ HF => ∃ (z3 z4 z5 : Option V) (rh : Addr), σ = [some (.ref p), some (.int (beat : Int)), some (.ref pd), z3, z4, z5, some (.ref rh), some (.ref v2)] ∧ Same HE HF ∧ RAt K HF rh (rdq (sumTo i fun j => wayQ (chR row step) (ws3.getD j [])))) ⟨_, _, _, v1, rfl, Same.refl _, by rw [sumTo_zero]; exact hv1⟩ (fun i σ HF _ z => ?_) ?_ ?_
    · obtain ⟨_, _, _, _, _, sF, _⟩ := z
      exact sqT_same sF x1E
    · rintro i v σ HF HF' hi ⟨z3, z4, z5, rh, rfl, sF, hrh⟩ ⟨rfl, hv⟩
      rw [List.length_map, hrl3] at hi
      obtain ⟨y, hy⟩ : ∃ y, ws3[i]? = some y := ⟨_, List.getElem?_eq_getElem hi⟩
      obtain ⟨r, hr1, hr2⟩ := x2E.get hy
      rw [List.getElem?_map, hr1] at hv
      cases Option.some.inj hv
      obtain ⟨w1, w2⟩ := W3.at hy
      have we := way_each w1 w2
      have ⟨q1, q2⟩ := way_size w1 w2 hn hb
      refine ⟨_, rfl, ?_⟩
      refine ⟨_, rfl, ?_⟩
      refine ⟨_, rfl, ?_⟩
      refine tnil_go ?_
      refine ⟨p, r, row, step, n, y, rfl, lfE.tk (Tk.same sF), L, hnil, sqT_same sF hr2, fun x hx => ⟨w1 x hx, by have := (we x hx).2; omega⟩, q1, by omega, fun zc HG sG hzc => ?_⟩
      refine tnil_go ?_
      refine ⟨by show 2 ≤ sizeLine; decide, fun l1 nl1 => ?_⟩
      have gl := same_new (o := HO.lst [.ref rh, .ref zc]) nl1
      refine tnil_go ?_
      have f01 := fun j hj => hit_01 C1 hb W3 (i := j) hj
      refine lsum2_go (K := K) (k := 9) upd_same (hrh.tk (Tk.same (sG.trans gl))) (hzc.tk (Tk.same gl)) hP.1 hP.2 (sum_sz (e := 0) hP.1 (fun j hj => (f01 j (by omega)).2) (fun j hj => (f01 j (by omega)).1.ov) (by omega)) ((way_sz C1 w1 w2 hb).mono (by decide)) (by decide) (by decide) fun r2 HI sI hr2' => ?_
      refine ⟨_, _, _, r2, rfl, sF.trans (sG.trans (gl.trans sI)), ?_⟩
      rw [sumTo_succ, getD_of hy]
      exact hr2'
    rintro σ HF ⟨z3, z4, z5, rh, rfl, sF, hrh⟩
    rw [List.length_map, hrl3] at hrh
    have hrh : RAt K HF rh (rdq (hitQ (chR row step) ws3)) := hrh
    have EF := E3.trans sF
    have h1F := sqT_same EF h1
    have y1F := sqT_same EF y1
    have y2F := y2.tk tat_stays (Tk.same (K := K) EF)
    have lfF := lfB.tk (K := K) (Tk.same EF)
    have hv2F := hv2.tk (K := K) (Tk.same sF)
    clear x1 x2 x1E x2E lfE h1E hv1 hv2
    have hP21 : 0 < D ^ 20 * D := Int.mul_pos hP.1 C1.pos
    have sP21 : Sm 1261 (D ^ 20 * D) := (hP.2.mul C1.sm).mono (by decide)
    refine ⟨_, rfl, pd, _, _, _, rfl, rfl, h1F, at_of (j := 3) rfl rfl, ?_⟩
    refine ⟨pw4, rfl, ⟨_, y1F⟩, ?_⟩
    have f01 := fun j hj => st_01 C1 hls hb W4 (i := j) hj
    refine for_it (walk_tup (K := K) (a := pw4) (xs := rs4.map V.ref)) (fun i σ HG => ∃ (z3 z4 z5 : Option V) (ro : Addr), σ = [some (.ref p), some (.int (beat : Int)), some (.ref pd), z3, z4, z5, some (.ref rh), some (.ref ro)] ∧ Same HF HG ∧ RAt K HG ro (rdq (sumTo i fun j => stvQ (chR row step) beat (ws4.getD j [])))) ⟨_, _, _, v2, rfl, Same.refl _, by rw [sumTo_zero]; exact hv2F⟩ (fun i σ HG _ z => ?_) ?_ ?_
    · obtain ⟨_, _, _, _, _, sG, _⟩ := z
      exact sqT_same sG y1F
    · rintro i v σ HG HG' hi ⟨z3, z4, z5, ro, rfl, sG, hro⟩ ⟨rfl, hv⟩
      rw [List.length_map, hrl4] at hi
      obtain ⟨y, hy⟩ : ∃ y, ws4[i]? = some y := ⟨_, List.getElem?_eq_getElem hi⟩
      obtain ⟨r, hr1, hr2⟩ := y2F.get hy
      rw [List.getElem?_map, hr1] at hv
      cases Option.some.inj hv
      obtain ⟨w1, w2⟩ := W4.at hy
      refine ⟨_, rfl, ?_⟩
      refine ⟨_, rfl, ?_⟩
      refine ⟨_, rfl, ?_⟩
      refine ⟨_, rfl, ?_⟩
      refine tnil_go ?_
      refine ⟨p, r, row, step, n, beat, D, N, E', y, rfl, lfF.tk (Tk.same sG), L, hn, hnil, C1, T, hb, sqT_same sG hr2, w1, w2, fun zc HI sI hzc => ?_⟩
      refine tnil_go ?_
      refine ⟨by show 2 ≤ sizeLine; decide, fun l1 nl1 => ?_⟩
      have gl := same_new (o := HO.lst [.ref ro, .ref zc]) nl1
      refine tnil_go ?_
      have ft := (f01 i hi).1
      rw [getD_of hy] at ft
      refine lsum2_go (K := K) (k := 9) upd_same (hro.tk (Tk.same (sI.trans gl))) (hzc.tk (Tk.same gl)) hP21 sP21 (sum_sz (e := 0) hP21 (fun j hj => (f01 j (by omega)).2) (fun j hj => (f01 j (by omega)).1.ov) (by omega)) (ft.mono (by decide)) (by decide) (by decide) fun r2 HJ sJ hr2' => ?_
      refine ⟨_, _, _, r2, rfl, sG.trans (sI.trans (gl.trans sJ)), ?_⟩
      rw [sumTo_succ, getD_of hy]
      exact hr2'
    rintro σ HG ⟨z3', z4', z5', ro, rfl, sG, hro⟩
    rw [List.length_map, hrl4] at hro
    have hro : RAt K HG ro (rdq (standQ (chR row step) beat ws4)) := hro
    have EG := EF.trans sG
    have hrhG := hrh.tk (K := K) (Tk.same sG)
    have hp1G := hp1.tk (K := K) (Tk.same EG)
    have hp2G := hp2.tk (K := K) (Tk.same EG)
    have h1G := sqT_same EG h1
    have h01 := fun j hj => hit_01 C1 hb W3 (i := j) hj
    have szh : Sz (D ^ 20) 9 (hitQ (chR row step) ws3) := sum_sz (e := 0) hP.1 (fun j hj => (h01 j hj).2) (fun j hj => (h01 j hj).1.ov) W3.len
    have szs : Sz (D ^ 20 * D) 9 (standQ (chR row step) beat ws4) := sum_sz (e := 0) hP21 (fun j hj => (f01 j hj).2) (fun j hj => (f01 j hj).1.ov) W4.len
    refine ⟨_, rfl, ?_⟩
    refine ⟨_, rfl, pd, _, _, _, rfl, rfl, h1G, at_of (j := 0) rfl rfl, ?_⟩
    refine tnil_go ?_
    refine minus_go (x := hitQ (chR row step) ws3) (y := qv (t1, b1)) hrhG (by rw [← red_rdq red1]; exact hp1G) (szh.smr hP.1 hP.2 (by decide)) (by rw [← red_rdq red1]; exact ⟨red1, sm1.1.mono (by omega), sm1.2.mono (by omega)⟩) fun r8 HI sI hr8 => ?_
    refine tC_go ?_
    refine ⟨r8, _, 0, _, rfl, rfl, hr8, atI_nat (j := 0) rfl, ?_⟩
    refine tC_go ?_
    refine ⟨_, _, rfl, rfl, _, rfl, ?_⟩
    have EI := EG.trans sI
    by_cases c1 : hitQ (chR row step) ws3 < qv (t1, b1)
    · rw [decide_eq_true (num_neg.mpr (by grind))]
      refine iteT ?_
      exact ⟨by show 2 ≤ sizeLine; decide, bad "low" 0 HI EI (if_pos c1)⟩
    rw [decide_eq_false (fun z => c1 (by have := num_neg.mp z; grind))]
    refine iteF ?_
    rw [if_neg c1] at q bad
    refine ⟨_, rfl, pd, _, _, _, rfl, rfl, sqT_same sI h1G, at_of (j := 1) rfl rfl, ?_⟩
    refine ⟨_, rfl, ?_⟩
    refine tnil_go ?_
    refine ⟨by show 2 ≤ sizeLine; decide, fun l2 nl2 => ?_⟩
    have gl2 := same_new (o := HO.lst [.ref p2, .ref ro]) nl2
    refine tnil_go ?_
    obtain ⟨To, eTo, sTo⟩ := szs.whole hP21 sP21
    have hb20 : 0 < b2 := red2.1
    have ssn : SmR 1300 (rdq (standQ (chR row step) beat ws4)) := szs.smr hP21 sP21 (by decide)
    obtain ⟨sd1, _, _⟩ := szs.red hP21 sP21
    have cc := cast_ne (Int.ne_of_gt hP21)
    have eT : (To : Rat) / ((D ^ 20 * D : Int) : Rat) = standQ (chR row step) beat ws4 := by
      rw [eTo]
      grind
    have sH : SmR 3000 (rdq (qv (t2, b2) + standQ (chR row step) beat ws4)) := by
      rw [← eT]
      exact high_sum hb20 hP21 (sm2.1.mono hb2) (sm2.2.mono hb2) (sTo.mono (by decide)) (sP21.mono (by decide))
    refine ⟨l2, [(t2, b2), rdq (standQ (chR row step) beat ws4)], 2000, 2800, b2 * (D ^ 20 * D), rfl, ⟨[p2, ro], SqL.of upd_same, .cons (hp2G.tk (Tk.same (sI.trans gl2))) (.cons (hro.tk (Tk.same (sI.trans gl2))) .nil)⟩, ⟨Int.mul_pos hb20 hP21, ((sm2.2.mono hb2).mul sP21).mono (by decide), fun x hx => ?_, by show 2 ≤ 1000; decide⟩, by decide, by decide, fun rz x HJ sJ hrz rx vx _ _ => ?_⟩
    · rcases List.mem_cons.mp hx with z | z
      · rw [z]
        exact ⟨hb20, ⟨_, rfl⟩, sm2.1.mono (by omega)⟩
      · rw [List.mem_singleton.mp z]
        exact ⟨(rdq_red _).1, Int.dvd_trans sd1 ⟨b2, Int.mul_comm _ _⟩, ssn.2.1.mono (by decide)⟩
    have ex : x = rdq (qv (t2, b2) + standQ (chR row step) beat ws4) := by
      refine is_rdq rx (vx.trans ?_)
      show qv (t2, b2) + (qv (rdq (standQ (chR row step) beat ws4)) + 0) = _
      rw [qv_rdq]
      grind
    rw [ex] at hrz
    refine ⟨by show 2 ≤ sizeLine; decide, fun o1 no1 => ?_⟩
    have go1 := same_new (o := HO.tup [.int 1, .int 1]) no1
    have one : rdq 1 = (1, 1) := (is_rdq one_red qv_one).symm
    refine tnil_go ?_
    refine minus_go (x := qv (t2, b2) + standQ (chR row step) beat ws4) (y := 1) (hrz.tk (Tk.same go1)) (by rw [one]; exact SqT.of upd_same) sH (by rw [one]; exact ⟨one_red, by unfold Sm; decide, by unfold Sm; decide⟩) fun r9 HK sK hr9 => ?_
    refine tC_go ?_
    refine ⟨r9, _, 0, _, rfl, rfl, hr9, atI_nat (j := 0) rfl, ?_⟩
    refine tC_go ?_
    refine ⟨_, _, rfl, rfl, _, rfl, ?_⟩
    have EK := EI.trans (gl2.trans (sJ.trans (go1.trans sK)))
    by_cases c2 : qv (t2, b2) < 1 - standQ (chR row step) beat ws4
    · rw [decide_eq_true (num_neg.mpr (by grind))]
      refine iteT ?_
      exact ⟨by show 2 ≤ sizeLine; decide, bad "high" 0 HK EK (if_pos c2)⟩
    · rw [decide_eq_false (fun z => c2 (by have := num_neg.mp z; grind))]
      refine iteF ?_
      rw [if_neg c2] at q
      exact q _ HK EK (.bl true)
end

end Fp

set_option Elab.async false
set_option linter.all false
set_option maxRecDepth 100000
set_option maxHeartbeats 4000000
set_option exponentiation.threshold 10000
namespace Fp
open PySem PySem.Spec PyProof.Rows L2
/-! ### x is True, x a bool or a thing -/
def rIsBA : R2 := fun x y H Q => ∃ b, y = .bl b ∧ ((∃ a, x = .bl a ∧ Q (.bl (decide (a = b))) H) ∨ (∃ a, x = .ref a ∧ Q (.bl false) H))
def rNotBA : R2 := fun x y H Q => ∃ b, y = .bl b ∧ ((∃ a, x = .bl a ∧ Q (.bl (!decide (a = b))) H) ∨ (∃ a, x = .ref a ∧ Q (.bl true) H))
theorem op_isBA {X : Cx} : OpR X (compareOp .Is) rIsBA := by
  intro pins s σ H x y v u Q I rx ry h
  obtain ⟨b, rfl, ⟨a, rfl, q⟩ | ⟨a, rfl, q⟩⟩ := h
  · cases (show v = Value.bool a from rx)
    cases (show u = Value.bool b from ry)
    refine wpAny_is_plain (by cases a <;> cases b <;> rfl) (fin_bl I q ?_)
    cases a <;> cases b <;> rfl
  · cases (show v = Value.ref a from rx)
    cases (show u = Value.bool b from ry)
    exact wpAny_is_plain rfl (fin_bl I q rfl)
theorem op_notBA {X : Cx} : OpR X (compareOp .IsNot) rNotBA := by
  intro pins s σ H x y v u Q I rx ry h
  obtain ⟨b, rfl, ⟨a, rfl, q⟩ | ⟨a, rfl, q⟩⟩ := h
  · cases (show v = Value.bool a from rx)
    cases (show u = Value.bool b from ry)
    refine wpAny_isNot_plain (by cases a <;> cases b <;> rfl) (fin_bl I q ?_)
    cases a <;> cases b <;> rfl
  · cases (show v = Value.ref a from rx)
    cases (show u = Value.bool b from ry)
    exact wpAny_isNot_plain rfl (fin_bl I q rfl)

end Fp

set_option Elab.async false
set_option linter.all false
set_option maxRecDepth 100000
set_option maxHeartbeats 4000000
set_option exponentiation.threshold 10000
namespace Fp
open PySem PySem.Spec PyProof.Rows L2
/-! ### what is told of a ways paper, and that it is as due -/
abbrev s_tw : Stmt := topS 57
abbrev N_tw : List Str := ["_law_life_here", "_law_beat", "_law_thing", "_law_caught", "e"]
theorem sc_tw : FnScope N_tw ["_law_life_here", "_law_beat", "_law_thing"] (defScope s_tw) := ⟨rfl, rfl, rfl, by decide +kernel, rfl, by decide +kernel, by decide +kernel⟩
abbrev s_ak : Stmt := topS 58
abbrev N_ak : List Str := ["_law_life_here", "_law_beat", "_law_thing", "_law_kept", "_law_due", "_law_again"]
theorem sc_ak : FnScope N_ak ["_law_life_here", "_law_beat", "_law_thing"] (defScope s_ak) := ⟨rfl, rfl, rfl, by decide +kernel, rfl, by decide +kernel, by decide +kernel⟩
def toldY (a : Nat → Rat) (beat : Nat) (d : PyData) : PyData := match letsW a beat d with
  | none => .tuple [.str "told", .bool true]
  | some (w, k) => .tuple [.str (Str.ofString w), .int ((k : Nat) : Int)]
section
variable {P : Program} {w : World} {K : PySem.W.Frag} {mg : Str → Option Value} {base : Heap} {aN aO : Addr}
def spTw (K : PySem.W.Frag) (tAY tIW : Addr) : Sp := fun vs H Q _ => ∃ (p : Addr) (row : List RT) (step : RT) (n beat : Nat) (D : Int) (v : V) (d : PyData) (b l c k : Nat), vs = [.ref p, .int (beat : Int), v] ∧ LifeAt K H p row step ∧ LifeOk n row step ∧ n ≤ 20 ∧ Ch01 D (chR row step) 20 ∧ (∀ k, k ≤ 20 → 0 ≤ lastQ (chR row step) k) ∧ beat ≤ 20 ∧ DpX K H v d ∧ Bk b l c k d ∧ b ≤ 1900 ∧ H tAY = some (tabx tAY) ∧ H tIW = some (tabx tIW) ∧
  ∀ z H', Same H H' → DpX K H' (.ref z) (toldY (chR row step) beat d) → Q (.ref z) H'
theorem ok_tw {tAY tIW : Addr} {f fLWY : Addr} {fd fdLWY : FuncData} {e : EC} (F : Fun K "_law_told_ways" "_law_told_ways" s_tw f fd)
    (FLWY : Fun K "lets_ways" "lets_ways" s_lwy fLWY fdLWY) (bLWY : Binds K fdLWY ["life", "beat", "thing"] []) (gLWY : mg "lets_ways" = some (.ref fLWY)) (GLWY : FnOk P w K mg base (L2.CX P w) 8 fLWY fdLWY ["life", "beat", "thing"] (spLets K e.P tAY tIW))
    (EG : ErrG mg e) (EXP : errB K e.P = true) (EKP : kitsB K e.P (ktsP e) = true) (EMP : PySem.W.exmOne K (.ref e.P) (.ref e.F) = some true) (ENPword : PySem.W.findIn K (.ref e.P) "word" = some none) (ENPplace : PySem.W.findIn K (.ref e.P) "place" = some none)
    (n_ValueError : mg "ValueError" = none) (n_isinstance : mg "isinstance" = none) : FnOk P w K mg base CX0 9 f fd ["_law_life_here", "_law_beat", "_law_thing"] (spTw K tAY tIW) := by
  refine F.ok sc_tw (fun vs H Q E h => ?_) (fun cdv A outer s H vs Q E hr h => ?_)
  · obtain ⟨_, _, _, _, _, _, _, _, _, _, _, _, rfl, _⟩ := h
    rfl
  · obtain ⟨p, row, step, n, beat, D, v, d, b, l, c, k, rfl, hlife, L, hn, C1, hls, hb, hd, hB, hb2, hT, hT2, q⟩ := h
    refine ⟨_, (pss_cons (ps_set (i := 3) sc_tw.nd rfl (.inl rfl) pe_non)
      (pss_cons (ps_try_keep (i := 4) (Wout := fun _ _ _ _ => False) rfl rfl sc_tw.nd rfl rfl ⟨rfl, by decide, .inl EG.F⟩ takes0 (fun W pn xe tk _ => (pss_one (ps_ret (pe_tup (pa_cons pe_str (pa_cons (pe_callS GLWY hr rfl gLWY FLWY.kp bLWY (fun σ => passAt tk σ) (pa_cons (pv 0) (pa_cons (pv 1) (pa_cons (pv 2) pa_nil)))) pa_nil)))))) (fun a cls d pn => (pss_one (ps_set (i := 3) sc_tw.nd rfl (.inl rfl) (pv 4)))))
      (pss_cons (ps_if (PW.pt (pw_or (pt_not (pt_val (pe_callB call_isK (by rfl) n_isinstance (by decide +kernel) (pa_cons (pv 3) (pa_cons (pe_glob (v := .ref e.P) rfl EG.P rfl) pa_nil))))) (pw_or1 (pt_not (pt_val (pe_callB call_isK (by rfl) n_isinstance (by decide +kernel) (pa_cons (pv 3) (pa_cons (pe_bltn (v := .ty "ValueError") (by rfl) n_ValueError (by decide +kernel) rfl) pa_nil)))))))) (pss_one (ps_ret (pe_tup (pa_cons pe_str (pa_cons pe_int pa_nil))))) pss_nil)
      (pss_cons (ps_if (pt_val (pe_callB call_isKT (by rfl) n_isinstance (by decide +kernel) (pa_cons (pv 3) (pa_cons (pe_tup (pa_cons (pe_glob (v := .ref e.A) rfl EG.A rfl) (pa_cons (pe_glob (v := .ref e.B) rfl EG.B rfl) (pa_cons (pe_glob (v := .ref e.L) rfl EG.L rfl) (pa_cons (pe_glob (v := .ref e.M) rfl EG.M rfl) (pa_cons (pe_glob (v := .ref e.N) rfl EG.N rfl) (pa_cons (pe_glob (v := .ref e.R) rfl EG.R rfl) (pa_cons (pe_glob (v := .ref e.X) rfl EG.X rfl) (pa_cons (pe_glob (v := .ref e.T) rfl EG.T rfl) pa_nil))))))))) pa_nil)))) (pss_one (ps_ret (pe_tup (pa_cons pe_str (pa_cons pe_int pa_nil))))) pss_nil)
      (pss_one (ps_ret (pe_tup (pa_cons (pe_fldK (pv 3)) (pa_cons (pe_fldK (pv 3)) pa_nil))))))))), ?_⟩
    refine ⟨_, rfl, _, rfl, _, rfl, p, row, step, n, beat, D, v, d, b, l, c, k, rfl, hlife, L, hn, C1, hls, hb, hd, hB, hb2, hT, hT2, fun word place ee x H1 s1 hx => ?_, fun ee H1 s1 => ?_⟩
    · refine ⟨true, EMP, (fun y => nomatch y), fun _ a na => ?_⟩
      have nd : x ≠ a := ne_of_none hx na
      have ga := same_new (o := exk a (.ref e.P) (some x)) na
      have hK : ExK (upd H1 a (exk a (.ref e.P) (some x))) a e.P [("place", .int ((place : Nat) : Int)), ("word", .str (Str.ofString word))] := .inr ⟨x, upd_same, by rw [upd_ne nd]; exact hx⟩
      have XC := (errB_ok EXP).1
      refine ⟨_, rfl, _, rfl, ?_⟩
      refine tC_go ?_
      refine tnil_go ?_
      refine ⟨a, e.P, _, _, _, true, rfl, hK, XC, .own _, kits_at EKP (by simp [ktsP]), _, rfl, ?_⟩
      refine iteF ?_
      refine ⟨_, rfl, ?_⟩
      refine tC_go ?_
      refine tnil_go ?_
      refine ⟨a, e.P, _, _, _, true, rfl, hK, XC, .ty _, kits_at EKP (by simp [ktsP]), _, rfl, ?_⟩
      refine iteF ?_
      refine ⟨_, rfl, by show 8 ≤ sizeLine; decide, fun tp np => ?_⟩
      refine tnil_go ?_
      have gp := same_new (o := HO.tup [.ref e.A, .ref e.B, .ref e.L, .ref e.M, .ref e.N, .ref e.R, .ref e.X, .ref e.T]) np
      have hK2 := hK.same gp
      refine ⟨a, e.P, tp, _, _, [.ref e.A, .ref e.B, .ref e.L, .ref e.M, .ref e.N, .ref e.R, .ref e.X, .ref e.T], false, rfl, hK2, XC, upd_same, .cons (.own _) (.cons (.own _) (.cons (.own _) (.cons (.own _) (.cons (.own _) (.cons (.own _) (.cons (.own _) (.cons (.own _) .nil))))))), kits_none EKP _ (by simp [ktsP]), ?_⟩
      refine ⟨_, rfl, ?_⟩
      refine iteF ?_
      refine ⟨_, rfl, a, e.P, _, _, rfl, hK2, (errB_ok EXP).2.1, ENPword, rfl, ?_⟩
      refine ⟨_, rfl, a, e.P, _, _, rfl, hK2, (errB_ok EXP).2.1, ENPplace, rfl, ?_⟩
      refine tnil_go ?_
      refine ⟨by show 2 ≤ sizeLine; decide, fun t nt => ?_⟩
      refine q t _ (s1.trans (ga.trans (gp.trans (same_new nt)))) ?_
      unfold toldY
      rw [ee]
      exact .tup (SqT.of upd_same) (.cons (.str _) (.cons (.int _) .nil))
    · refine tnil_go ?_
      refine ⟨by show 2 ≤ sizeLine; decide, fun y ny => ?_⟩
      have e1 := same_new (o := HO.tup [.str "told", .bl true]) ny
      refine q y _ (s1.trans e1) ?_
      unfold toldY
      rw [ee]
      exact .tup (SqT.of upd_same) (.cons (.str _) (.cons (.bl _) .nil))
theorem fwrFrom_lt {least most : Int} {ws : List (List Int)} : ∀ {n k i : Nat}, fwrFrom least most ws k n = some i → i < k + n
  | 0, _, _, h => by cases h
  | n + 1, k, i, h => by
    unfold fwrFrom at h
    split at h
    · cases h
      omega
    · have := fwrFrom_lt h
      omega
theorem letsW_words {a : Nat → Rat} {beat : Nat} {d : PyData} {w : String} {k : Nat} (h : letsW a beat d = some (w, k)) : (w = "shape" ∨ w = "hit" ∨ w = "stand" ∨ w = "low" ∨ w = "high") ∧ k ≤ 200 := by
  cases hsh : shapeB d with
  | false =>
    rw [letsW_shape hsh] at h
    cases h
    exact ⟨.inl rfl, by decide⟩
  | true =>
    obtain ⟨d1, d2, d3, d4, rfl, r1, r2, w3, w4⟩ := shapeB_inv hsh
    obtain ⟨_, _, len3⟩ := waysB_inv w3
    obtain ⟨_, _, len4⟩ := waysB_inv w4
    have eL : letsW a beat (.tuple [d1, d2, d3, d4]) = (match fwr beat beat (waysI d3) with
      | some k => some ("hit", k)
      | none => match fwr 0 ((beat : Int) - 1) (waysI d4) with
        | some k => some ("stand", k)
        | none => if hitQ a (waysI d3) < qv (rtD d1) then some ("low", 0) else if qv (rtD d2) < 1 - standQ a beat (waysI d4) then some ("high", 0) else none) := by
      unfold letsW
      exact if_pos hsh
    rw [eL] at h
    cases f1 : fwr beat beat (waysI d3) with
    | some j =>
      rw [f1] at h
      cases h
      have := fwrFrom_lt f1
      exact ⟨.inr (.inl rfl), by omega⟩
    | none =>
      rw [f1] at h
      cases f2 : fwr 0 ((beat : Int) - 1) (waysI d4) with
      | some j =>
        rw [f2] at h
        cases h
        have := fwrFrom_lt f2
        exact ⟨.inr (.inr (.inl rfl)), by omega⟩
      | none =>
        rw [f2] at h
        have h : (if hitQ a (waysI d3) < qv (rtD d1) then some ("low", 0) else if qv (rtD d2) < 1 - standQ a beat (waysI d4) then some ("high", 0) else none) = some (w, k) := h
        by_cases z1 : hitQ a (waysI d3) < qv (rtD d1)
        · rw [if_pos z1] at h
          cases h
          exact ⟨.inr (.inr (.inr (.inl rfl))), by decide⟩
        · rw [if_neg z1] at h
          by_cases z2 : qv (rtD d2) < 1 - standQ a beat (waysI d4)
          · rw [if_pos z2] at h
            cases h
            exact ⟨.inr (.inr (.inr (.inr rfl))), by decide⟩
          · rw [if_neg z2] at h
            cases h
theorem toldY_bk (a : Nat → Rat) (beat : Nat) (d : PyData) : Bk 200 4 60 5 (toldY a beat d) := by
  unfold toldY
  cases e : letsW a beat d with
  | none => exact (bkB_ok (d := .tuple [.str "told", .bool true]) (by decide +kernel)).mono (by decide) (Nat.le_refl _) (by decide) (by decide)
  | some wk =>
    obtain ⟨w, k⟩ := wk
    obtain ⟨hw, hk⟩ := letsW_words e
    have s1 : Bk 200 4 20 4 (.str (Str.ofString w)) := by
      rcases hw with rfl | rfl | rfl | rfl | rfl <;> exact (bkB_ok (by decide +kernel)).mono (by decide) (Nat.le_refl _) (Nat.le_refl _) (Nat.le_refl _)
    have s2 : Bk 200 4 0 4 (.int ((k : Nat) : Int)) := Bk.int (Sm.mono (n := 8) (by unfold Sm; omega) (by decide))
    exact ((Bks.cons s1 (Bks.cons s2 Bks.nil)).tup (by show 2 ≤ 4; decide)).mono (Nat.le_refl _) (Nat.le_refl _) (by decide) (Nat.le_refl _)
def spAk (K : PySem.W.Frag) (tAY tIW : Addr) : Sp := fun vs H Q _ => ∃ (p : Addr) (row : List RT) (step : RT) (n beat : Nat) (D N E : Int) (v : V) (d : PyData) (b l c k : Nat), vs = [.ref p, .int (beat : Int), v] ∧ LifeAt K H p row step ∧ LifeOk n row step ∧ n ≤ 20 ∧ (row = [] → step = (0, 1)) ∧ Ch01 D (chR row step) 20 ∧ Tot row step N E ∧ (∀ k, k ≤ 20 → 0 ≤ lastQ (chR row step) k) ∧ beat ≤ 20 ∧ DpX K H v d ∧ Bk b l c k d ∧ b ≤ 1500 ∧ l ≤ 900 ∧ c ≤ 7000 ∧ k ≤ 50 ∧ Bk 1900 900 500 10 (lifeD row step) ∧ H tAY = some (tabx tAY) ∧ H tIW = some (tabx tIW) ∧
  ∀ H', Same H H' → Q (.bl true) H'
theorem ok_ak {tAY tIW : Addr} {f fWD fTW : Addr} {fd fdWD fdTW : FuncData} (F : Fun K "_law_asked" "_law_asked" s_ak f fd)
    (FWD : Fun K "_law_ways_due" "_law_ways_due" s_wd fWD fdWD) (bWD : Binds K fdWD ["_law_life_here", "_law_beat", "_law_thing"] []) (gWD : mg "_law_ways_due" = some (.ref fWD)) (GWD : FnOk P w K mg base CX0 6 fWD fdWD ["_law_life_here", "_law_beat", "_law_thing"] (spWd K))
    (FTW : Fun K "_law_told_ways" "_law_told_ways" s_tw fTW fdTW) (bTW : Binds K fdTW ["_law_life_here", "_law_beat", "_law_thing"] []) (gTW : mg "_law_told_ways" = some (.ref fTW)) (GTW : FnOk P w K mg base CX0 9 fTW fdTW ["_law_life_here", "_law_beat", "_law_thing"] (spTw K tAY tIW))
   (SY : SysB base)
    (n_range : mg "range" = none) (n_repr : mg "repr" = none) : FnG P w K mg base CX0 10 f fd ["_law_life_here", "_law_beat", "_law_thing"] (spAk K tAY tIW) := by
  refine okG F sc_ak (fun vs H Q E h => ?_) (fun cdv A outer s H vs Q E hq hr h => ?_)
  · obtain ⟨_, _, _, _, _, _, _, _, _, _, _, _, _, _, rfl, _⟩ := h
    rfl
  · obtain ⟨p, row, step, n, beat, D, N, E', v, d, b, l, c, k, rfl, hlife, L, hn, hnil, C1, T, hls, hb, hd, hB, hb2, hl9, hc7, hk5, bl, hT, hT2, q⟩ := h
    refine ⟨_, (pss_cons (ps_set (i := 3) sc_ak.nd rfl (.inl rfl) (pe_callB (call_reprN hq hr SY) (by rfl) n_repr (by decide +kernel) (pa_cons (pe_tup (pa_cons (pv 0) (pa_cons (pv 2) pa_nil))) pa_nil)))
      (pss_cons (ps_set (i := 4) sc_ak.nd rfl (.inl rfl) (pe_call GWD (hr.mono (by decide)) (by rfl) gWD FWD.kp bWD .nil pass0 (pa_cons (pv 0) (pa_cons (pv 1) (pa_cons (pv 2) pa_nil)))))
      (pss_mid (ps_if (pt_cmpR op_isBA (pv 4) pe_bl (nomark _)) (pss_one (ps_set (i := 4) sc_ak.nd rfl (.inl rfl) (pe_tup (pa_cons pe_str (pa_cons pe_bl pa_nil))))) pss_nil)
      (pss_cons (ps_for PassesOwn.never rfl (pi_range1 (by rfl) n_range (pa_cons pe_int pa_nil)) (pg_name (i := 5) sc_ak.nd rfl (.inl rfl)) (pss_one (ps_if (PW.pt (pw_or (pt_cmpR op_ne (pe_callB (call_reprN hq hr SY) (by rfl) n_repr (by decide +kernel) (pa_cons (pe_call GTW hr (by rfl) gTW FTW.kp bTW .nil pass0 (pa_cons (pv 0) (pa_cons (pv 1) (pa_cons (pv 2) pa_nil)))) pa_nil)) (pe_callB (call_reprN hq hr SY) (by rfl) n_repr (by decide +kernel) (pa_cons (pv 4) pa_nil)) (nomark _)) (pw_or1 (pt_cmpR op_ne (pe_callB (call_reprN hq hr SY) (by rfl) n_repr (by decide +kernel) (pa_cons (pe_tup (pa_cons (pv 0) (pa_cons (pv 2) pa_nil))) pa_nil)) (pv 3) (nomark _))))) (pss_one (ps_ret pe_bl)) pss_nil)))
      (pss_one (ps_ret pe_bl)))))), ?_⟩
    have b2 : Bk 1900 900 8000 52 (.tuple [lifeD row step, d]) := ((Bks.cons (k := 51) (bl.mono (Nat.le_refl _) (Nat.le_refl _) (Nat.le_refl _) (by decide)) (Bks.cons (hB.mono (b2 := 1900) (w2 := 900) (c2 := 7000) (k2 := 51) (by omega) hl9 hc7 (by omega)) Bks.nil)).tup (by show 2 ≤ 900; decide)).mono (Nat.le_refl _) (Nat.le_refl _) (by decide) (Nat.le_refl _)
    have bT := (toldY_bk (chR row step) beat d)
    have rep : ∀ (H1 : Hp) (t1 : Addr) (Q1 : VK), Same H H1 → H1 t1 = none → Q1 (.str (PyData.tuple [lifeD row step, d]).shown) (upd H1 t1 (.tup [.ref p, v])) → rRepr K [.ref t1] (upd H1 t1 (.tup [.ref p, v])) Q1 := fun H1 t1 Q1 s1 n1 q1 => by
      have g1 := s1.trans (same_new (o := HO.tup [.ref p, v]) n1)
      exact reprD (.tup (SqT.of upd_same) (.cons (LifeAt.dx (hlife.tk (Tk.same g1))) (.cons (hd.same g1) .nil))) b2 (by decide) (by decide) (by decide) q1
    refine ⟨_, rfl, ?_⟩
    refine ⟨_, rfl, ?_⟩
    refine tnil_go ?_
    refine ⟨by show 2 ≤ sizeLine; decide, fun t1 n1 => ?_⟩
    have g1 := same_new (o := HO.tup [.ref p, v]) n1
    refine tnil_go ?_
    refine rep H t1 _ (Same.refl H) n1 ?_
    generalize hkp : (PyData.tuple [lifeD row step, d]).shown = kept at *
    refine ⟨_, rfl, ?_⟩
    refine ⟨_, rfl, ?_⟩
    refine ⟨_, rfl, ?_⟩
    refine tnil_go ?_
    refine ⟨p, row, step, n, beat, D, N, E', v, d, b, l, c, k, rfl, hlife.tk (Tk.same g1), L, hn, hnil, C1, T, hls, hb, hd.same g1, hB, hb2, hl9, fun z H2 s2 hz => ?_⟩
    refine ⟨fun σ H3 => ∃ zd : Addr, σ = [some (.ref p), some (.int (beat : Int)), some v, some (.str kept), some (.ref zd), none] ∧ Same H H3 ∧ DpX K H3 (.ref zd) (toldY (chR row step) beat d), ?_, ?_⟩
    · refine ⟨_, rfl, ?_⟩
      refine tC_go ?_
      unfold dueW at hz
      cases e : letsW (chR row step) beat d with
      | none =>
        rw [e] at hz
        cases hz
        refine ⟨true, rfl, .inl ⟨true, rfl, ?_⟩⟩
        refine ⟨_, rfl, ?_⟩
        refine iteT ?_
        refine ⟨by show 2 ≤ sizeLine; decide, fun y ny => ?_⟩
        have e1 := same_new (o := HO.tup [.str "told", .bl true]) ny
        refine ⟨y, rfl, g1.trans (s2.trans e1), ?_⟩
        unfold toldY
        rw [e]
        exact .tup (SqT.of upd_same) (.cons (.str _) (.cons (.bl _) .nil))
      | some wk =>
        obtain ⟨wd, kk⟩ := wk
        rw [e] at hz
        have hz2 := hz
        cases hz with
        | @tup pz xs _ h1 h2 =>
          refine ⟨true, rfl, .inr ⟨pz, rfl, ?_⟩⟩
          refine ⟨_, rfl, ?_⟩
          refine iteF ?_
          refine ⟨pz, rfl, g1.trans s2, ?_⟩
          unfold toldY
          rw [e]
          exact hz2
    rintro σ H3 ⟨zd, rfl, s3, hzd⟩
    refine ⟨2, rfl, by decide, by decide, ?_⟩
    refine for_range (lo := 0) (n := (2 : Int).toNat) (fun i σ HB => ∃ z5 : Option V, σ = [some (.ref p), some (.int (beat : Int)), some v, some (.str kept), some (.ref zd), z5] ∧ Same H3 HB) ⟨_, rfl, Same.refl _⟩ ?_ ?_
    · rintro i σ HB hi ⟨z5, rfl, sB⟩
      have SB := s3.trans sB
      refine ⟨_, rfl, ?_⟩
      refine ⟨_, rfl, ?_⟩
      refine ⟨_, rfl, ?_⟩
      refine tnil_go ?_
      refine ⟨p, row, step, n, beat, D, v, d, b, l, c, k, rfl, hlife.tk (Tk.same SB), L, hn, C1, hls, hb, hd.same SB, hB, by omega, SB _ _ hT, SB _ _ hT2, fun z4 H4 s4 hz4 => ?_⟩
      refine tnil_go ?_
      refine reprD hz4 bT (by decide) (by decide) (by decide) ?_
      refine ⟨_, rfl, ?_⟩
      refine tnil_go ?_
      refine reprD (hzd.same (sB.trans s4)) bT (by decide) (by decide) (by decide) ?_
      refine ⟨rfl, _, rfl, ?_⟩
      rw [decide_eq_true rfl]
      refine iteF ?_
      refine ⟨_, rfl, ?_⟩
      refine ⟨_, rfl, ?_⟩
      refine tnil_go ?_
      refine ⟨by show 2 ≤ sizeLine; decide, fun t5 n5 => ?_⟩
      have g5 := same_new (o := HO.tup [.ref p, v]) n5
      refine tnil_go ?_
      refine rep H4 t5 _ (SB.trans s4) n5 ?_
      refine ⟨_, rfl, rfl, _, rfl, ?_⟩
      rw [decide_eq_true rfl]
      refine iteF ?_
      exact ⟨_, rfl, sB.trans (s4.trans g5)⟩
    · rintro σ HB ⟨z5, rfl, sB⟩
      exact q _ (s3.trans sB)
end

end Fp

set_option Elab.async false
set_option linter.all false
set_option maxRecDepth 100000
set_option maxHeartbeats 4000000
set_option exponentiation.threshold 10000
namespace Fp
open PySem PySem.Spec PyProof.Rows L2
/-! ### what stands beside a list that is made longer -/
section
variable {K : PySem.W.Frag} {H H' : Hp} {ts : List Addr} {a0 L : Addr} {xs : List V}
theorem hid_push (k : ∀ b o, b ≠ L → H b = some o → H' b = some o) : Same (hid (· = L) H) (hid (· = L) H') := fun b o h => hid_mk (hid_some h).1 (k b o (hid_some h).1 (hid_some h).2)
theorem hid_new {HX : Hp} (n : H L = none) (s : Same H HX) : Same H (hid (· = L) HX) := fun b o h => hid_mk (fun z => by rw [z, n] at h; cases h) (s b o h)
structure St (K : PySem.W.Frag) (ts : List Addr) (a0 : Addr) (xs : List V) (A : Addr → Prop) (H : Hp) : Prop where
  sq : SqL K (hid A H) a0 xs
  tb : Tabs ts (hid A H)
theorem St.same {A : Addr → Prop} (h : St K ts a0 xs A H) (s : Same H H') : St K ts a0 xs A H' := ⟨(hid_same s).seq h.sq, h.tb.same (hid_same s)⟩
theorem St.keep {A : Addr → Prop} {d c : Addr} {t : Int} (h : St K ts a0 xs A H) (f : Feed H d c t) (k : Keep d H H') : St K ts a0 xs A H' := ⟨sqL_keepA f k h.sq, fun x hx => hid_mk (hid_some (h.tb x hx)).1 (keep_at f k (hid_some (h.tb x hx)).2 (fun _ z => nomatch z))⟩
theorem St.push (h : St K ts a0 xs (· = L) H) (k : ∀ b o, b ≠ L → H b = some o → H' b = some o) : St K ts a0 xs (· = L) H' := ⟨(hid_push k).seq h.sq, h.tb.same (hid_push k)⟩
theorem St.new {HX : Hp} (hS : SqL K H a0 xs) (hT : Tabs ts H) (n : H L = none) (s : Same H HX) : St K ts a0 xs (· = L) HX := ⟨(hid_new n s).seq hS, hT.same (hid_new n s)⟩
theorem St.un {A : Addr → Prop} (h : St K ts a0 xs A H) : SqL K H a0 xs ∧ Tabs ts H := ⟨hid_un.seq h.sq, h.tb.same hid_un⟩
theorem Tk.push {vs : List V} (hL : H L = some (.lst vs)) (k : ∀ b o, b ≠ L → H b = some o → H' b = some o) : Tk K H H' := fun p xs h => by
  have ne : ∀ {o : HO}, H p = some o → (∀ vs, o ≠ .lst vs) → H' p = some o := fun {o} e n => k p o (fun z => by
    rw [z, hL] at e
    exact n vs (Option.some.inj e).symm) e
  rcases h with (h | ⟨o, h⟩) | h
  · exact .inl (.inl (ne h (fun _ z => nomatch z)))
  · exact .inl (.inr ⟨o, ne h (fun _ z => nomatch z)⟩)
  · exact .inr h
end

end Fp

set_option Elab.async false
set_option linter.all false
set_option maxRecDepth 100000
set_option maxHeartbeats 4000000
set_option exponentiation.threshold 10000
namespace Fp
open PySem PySem.Spec PyProof.Rows L2
/-! ### all rows of steps that come to a beat -/
abbrev s_rows : Stmt := topS 59
abbrev N_rows : List Str := ["_law_beat", "_law_found", "_law_n", "_law_here", "_law_k", "_law_way"]
theorem sc_rows : FnScope N_rows ["_law_beat"] (defScope s_rows) := ⟨rfl, rfl, rfl, by decide +kernel, rfl, by decide +kernel, by decide +kernel⟩
def one1 : Nat → Rat := fun _ => 1
theorem one1_ne (k : Nat) : one1 k ≠ 0 := by show (1 : Rat) ≠ 0; decide
theorem fw_256 (a : Nat → Rat) {n : Nat} (h : n ≤ 9) : (fw a n).length ≤ 256 := by
  rcases Nat.eq_zero_or_pos n with rfl | z
  · exact (by decide : 1 ≤ 256)
  · have h1 := fw_cum a z
    have h2 := cumW_le a (n - 1)
    rw [show n - 1 + 1 = n by omega] at h2
    have h3 : 2 ^ (n - 1) ≤ 2 ^ 8 := Nat.pow_le_pow_right (by decide) (by omega)
    have h4 : 2 ^ 8 = 256 := rfl
    omega
section
variable {P : Program} {w : World} {K : PySem.W.Frag} {mg : Str → Option Value} {base : Heap}
def spRows (K : PySem.W.Frag) : Sp := fun vs H Q _ => ∃ (beat : Nat), vs = [.int (beat : Int)] ∧ beat ≤ 9 ∧ ∀ z H', Same H H' → H z = none → OLs (TAt K) H' z (fw one1 beat) → Q (.ref z) H'
theorem ok_rows {f  : Addr} {fd  : FuncData} (F : Fun K "_law_rows" "_law_rows" s_rows f fd)
    (n_range : mg "range" = none) : FnOk P w K mg base CX0 1 f fd ["_law_beat"] (spRows K) := by
  refine F.ok sc_rows (fun vs H Q E h => ?_) (fun cdv A outer s H vs Q E hr h => ?_)
  · obtain ⟨_, rfl, _⟩ := h
    rfl
  · obtain ⟨beat, rfl, hb, q⟩ := h
    refine ⟨_, (pss_cons (ps_set (i := 1) sc_rows.nd rfl (.inl rfl) (pe_lst (pa_cons (pe_lst (pa_cons (pe_tup pa_nil) pa_nil)) pa_nil)))
      (pss_cons (ps_for PassesOwn.never rfl (pi_range2 (by rfl) n_range (pa_cons pe_int (pa_cons (pe_op op_add (pv 0) pe_int) pa_nil))) (pg_name (i := 2) sc_rows.nd rfl (.inl rfl)) (pss_cons (ps_set (i := 3) sc_rows.nd rfl (.inl rfl) (pe_lst pa_nil))
      (pss_cons (ps_for PassesOwn.never rfl (pi_range2 (by rfl) n_range (pa_cons pe_int (pa_cons (pe_op op_add (pv 2) pe_int) pa_nil))) (pg_name (i := 4) sc_rows.nd rfl (.inr rfl)) (pss_one (ps_expr (pe_bm PySem.F.plainAttrs_list PySem.F.slot_list_extend PySem.F.type_list_extend mt_extend (pv 3) (pa_cons (pe_lc (own := [("_law_way", 5)]) (g := (gName 5)) (tt := tYes) (te := (tOp (rCatA K) (tTup (tCons (tVar 4) tNil)) (tVar 5))) rfl sc_rows.nd (pi_list (pe_ix ix_list (pv 1) (pe_op op_sub (pv 2) (pv 4)) (fun _ _ => rfl))) (blkOk_by (own := [("_law_way", 5)]) (N := N_rows) (sc := (defScope s_rows)) (by decide +kernel)) (fun _ _ _ _ _ => (pg_name (i := 5) sc_rows.nd rfl (.inl rfl))) (fun _ _ _ _ _ => pts_nil) (fun _ _ _ _ _ => (pe_op op_catA (pe_tup (pa_cons (pv 4) pa_nil)) (pv 5)))) pa_nil)))))
      (pss_one (ps_expr (pe_bm PySem.F.plainAttrs_list PySem.F.slot_list_append PySem.F.type_list_append mt_append (pv 1) (pa_cons (pv 3) pa_nil)))))))
      (pss_one (ps_ret (pe_ix ix_list (pv 1) (pv 0) (fun _ _ => rfl)))))), ?_⟩
    refine ⟨by show 0 ≤ sizeLine; decide, fun b1 m1 => ?_⟩
    have e1 := same_new (o := HO.tup []) m1
    refine ⟨by show 1 ≤ sizeLine; decide, fun f0 m2 => ?_⟩
    have e2 := same_new (o := HO.lst [.ref b1]) m2
    refine ⟨by show 1 ≤ sizeLine; decide, fun fo m3 => ?_⟩
    have e3 := same_new (o := HO.lst [.ref f0]) m3
    have S := e1.trans (e2.trans e3)
    have nfo : H fo = none := (e1.trans e2).free m3
    have nf0 : H f0 = none := e1.free m2
    have hf0 : f0 ≠ fo := fun z => by
      rw [← z, upd_same] at m3
      cases m3
    refine ⟨_, rfl, _, 1, rfl, rfl, 1, _, rfl, ⟨by decide, by decide, by show -(2 ^ 62) ≤ (beat : Int) + 1; omega, by show (beat : Int) + 1 < 2 ^ 62; omega⟩, ?_⟩
    have en : ((beat : Int) + 1 - 1).toNat = beat := by omega
    refine for_range (lo := 1) (n := ((beat : Int) + 1 - 1).toNat) (fun j σ HB => ∃ (z2 z3 z4 z5 : Option V) (fs : List Addr), σ = [some (.int (beat : Int)), some (.ref fo), z2, z3, z4, z5] ∧ Same H HB ∧ HB fo = some (.lst (fs.map V.ref)) ∧ fs.length = j + 1 ∧ ∀ i f, fs[i]? = some f → f ≠ fo ∧ H f = none ∧ OLs (TAt K) HB f (fw one1 i)) ?_ ?_ ?_
    · refine ⟨none, none, none, none, [f0], rfl, S, upd_same, rfl, fun i f hf => ?_⟩
      match i, hf with
      | 0, hf =>
        cases Option.some.inj hf
        exact ⟨hf0, nf0, [b1], e3 _ _ upd_same, Obs.one (SqT.of ((e2.trans e3) _ _ upd_same))⟩
    · rintro j σ HB hj ⟨z2, z3, z4, z5, fs, rfl, sB, hfB, hfl, hfs⟩
      rw [en] at hj
      refine ⟨by show 0 ≤ sizeLine; decide, fun he nhe => ?_⟩
      have g1 := same_new (o := HO.lst []) nhe
      have hne : he ≠ fo := fun z => by
        rw [z, hfB] at nhe
        cases nhe
      refine ⟨_, rfl, _, 1, rfl, rfl, 1, _, rfl, ⟨by decide, by decide, by show -(2 ^ 62) ≤ (1 : Int) + (j : Int) + 1; omega, by show (1 : Int) + (j : Int) + 1 < 2 ^ 62; omega⟩, ?_⟩
      have en2 : ((1 : Int) + (j : Int) + 1 - 1).toNat = j + 1 := by omega
      refine for_range (lo := 1) (n := ((1 : Int) + (j : Int) + 1 - 1).toNat) (fun k σ HC => ∃ (z4 z5 : Option V), σ = [some (.int (beat : Int)), some (.ref fo), some (.int (1 + (j : Int))), some (.ref he), z4, z5] ∧ Same HB HC ∧ OLs (TAt K) HC he ((List.range k).flatMap (fwGo one1 (fw one1) (j + 1)))) ⟨_, _, rfl, g1, [], upd_same, Obs.nil⟩ ?_ ?_
      · rintro k σ HC hk ⟨z4, z5, rfl, sC, hHe⟩
        rw [en2] at hk
        have hgo : fwGo one1 (fw one1) (j + 1) k = (fw one1 (j - k)).map fun y => ((k : Int) + 1) :: y := by
          unfold fwGo
          rw [if_neg (one1_ne k), show j + 1 - 1 - k = j - k by omega]
        obtain ⟨f, ef⟩ : ∃ f, fs[j - k]? = some f := ⟨_, List.getElem?_eq_getElem (show j - k < fs.length by omega)⟩
        obtain ⟨hfn, _, hF⟩ := hfs (j - k) f ef
        have hF2 := hF.same tat_stays sC
        obtain ⟨ps, hF3, hF4⟩ := id hF2
        have hlen := fw_256 one1 (n := j - k) (by omega)
        have hpl := hF4.1
        refine ⟨_, rfl, .inl ⟨rfl, _, SqL.of hHe.choose_spec.1⟩, ?_⟩
        refine ⟨_, rfl, _, rfl, _, rfl, _, _, rfl, rfl, ?_⟩
        have hfoC := sC _ _ hfB
        refine ⟨fo, _, _, _, rfl, rfl, SqL.of hfoC, at_of (j := j - k) (by show (1 : Int) + (j : Int) - ((1 : Int) + (k : Int)) = _; omega) (by rw [List.getElem?_map, ef]; rfl), ?_⟩
        refine ⟨f, rfl, ⟨_, SqL.of hF3⟩, ?_⟩
        refine lc_obsW (K := K) (At := TAt K) tat_stays (walk_list (K := K) (a := f) (xs := ps.map V.ref)) (fwGo one1 (fw one1) (j + 1) k) (by rw [hgo, List.length_map, List.length_map, hpl]) (by rw [List.length_map, hpl]; omega) (fun HE sE => SqL.of (sE _ _ hF3)) (fun i y v HE HE' R hy sE hY qr => ?_) (fun Dd HE sE hE => ?_)
        · obtain ⟨rfl, hv⟩ := hY
          rw [hgo, List.getElem?_map] at hy
          obtain ⟨u, hu⟩ : ∃ u, (fw one1 (j - k))[i]? = some u := by
            match h : (fw one1 (j - k))[i]? with
            | some u => exact ⟨u, rfl⟩
            | none =>
              rw [h] at hy
              cases hy
          rw [hu] at hy
          cases Option.some.inj hy
          obtain ⟨pp, hpp, hp1⟩ := hF4.get hu
          rw [List.getElem?_map, hpp] at hv
          cases Option.some.inj hv
          have hm := (fw_mem one1).mp (List.mem_of_getElem? hu)
          have hyl := way_ge fun x hx => (hm.1 x hx).1
          rw [hm.2] at hyl
          refine ⟨rfl, ?_⟩
          refine ⟨_, rfl, ?_⟩
          refine tnil_go ?_
          refine ⟨by show 1 ≤ sizeLine; decide, fun c5 k5 => ?_⟩
          have g5 := same_new (o := HO.tup [.int (1 + (k : Int))]) k5
          refine ⟨_, rfl, ?_⟩
          refine cat_ints (xs := [1 + (k : Int)]) (ys := u) (SqT.of upd_same) (sqT_same (sE.trans g5) hp1) (by show 1 + u.length ≤ 1000; omega) fun c6 H6 s6 h6 => ?_
          refine qr c6 _ (g5.trans s6) ?_
          show SqT K H6 c6 ((((k : Int) + 1) :: u).map V.int)
          rw [Int.add_comm]
          exact h6
        · obtain ⟨hs, hs1, hs2⟩ := hHe.same tat_stays sE
          obtain ⟨ds, hd1, hd2⟩ := hE
          have hl1 := hs2.1
          have hl2 := hd2.1
          have hlk : ((List.range k).flatMap (fwGo one1 (fw one1) (j + 1))).length + (fwGo one1 (fw one1) (j + 1) k).length ≤ 512 := by
            have h1 := fw_256 one1 (n := j + 1) (by omega)
            rw [fw_is one1 (by omega), show j + 1 = (k + 1) + (j - k) by omega, List.range_add, List.flatMap_append, List.length_append, flat_succ, List.length_append] at h1
            have h3 : k + 1 + (j - k) = j + 1 := by omega
            rw [h3] at h1
            omega
          refine tnil_go ?_
          refine ⟨he, Dd, _, _, rfl, rfl, hs1, hd1, ?_, ?_⟩
          · rw [List.length_map, List.length_map, hl1, hl2]
            exact Nat.le_trans (show _ ≤ 1000 by omega) (by decide)
          · refine ⟨_, _, rfl, ?_, hs ++ ds, ?_, ?_⟩
            · intro b2 o hb2
              rw [upd_ne (ne_of_none hb2 nhe)]
              exact (sC.trans sE) _ _ hb2
            · rw [upd_same, List.map_append]
            · rw [flat_succ]
              exact (hs2.append hd2).tk tat_stays (tk_lst hs1)
      · rintro σ HC ⟨z4, z5, rfl, sC, hHe⟩
        rw [en2, ← fw_is one1 (by omega)] at hHe
        have hfC := sC _ _ hfB
        refine ⟨_, rfl, .inl ⟨rfl, _, SqL.of hfC⟩, _, rfl, fo, _, _, rfl, rfl, hfC, by rw [List.length_map, hfl]; exact small1000 (by omega), ?_⟩
        have stay : ∀ f g, f ≠ fo → OLs (TAt K) HC f g → OLs (TAt K) (upd HC fo (.lst (fs.map V.ref ++ [.ref he]))) f g := fun f g hf h => by
          obtain ⟨rs, h1, h2⟩ := h
          refine ⟨rs, ?_, h2.tk tat_stays (tk_lst hfC)⟩
          rw [upd_ne hf]
          exact h1
        refine ⟨_, _, _, _, fs ++ [he], rfl, ?_, ?_, by rw [List.length_append, hfl]; rfl, fun i f hf => ?_⟩
        · intro b7 o hb7
          rw [upd_ne (ne_of_none hb7 nfo)]
          exact (sB.trans sC) _ _ hb7
        · rw [upd_same, List.map_append]
          rfl
        · rcases (by omega : i < fs.length ∨ i = fs.length ∨ fs.length < i) with z | z | z
          · rw [List.getElem?_append_left z] at hf
            obtain ⟨x1, x0, x2⟩ := hfs i f hf
            exact ⟨x1, x0, stay f _ x1 (x2.same tat_stays sC)⟩
          · rw [z, List.getElem?_append_right (Nat.le_refl _), Nat.sub_self] at hf
            cases Option.some.inj hf
            rw [z, hfl]
            exact ⟨hne, sB.free nhe, stay he _ hne hHe⟩
          · rw [List.getElem?_append_right (by omega), List.getElem?_eq_none (by simp; omega)] at hf
            cases hf
    · rintro σ HB ⟨z2, z3, z4, z5, fs, rfl, sB, hfB, hfl, hfs⟩
      rw [en] at hfl
      obtain ⟨f, ef⟩ : ∃ f, fs[beat]? = some f := ⟨_, List.getElem?_eq_getElem (show beat < fs.length by omega)⟩
      refine ⟨_, rfl, _, rfl, fo, _, _, _, rfl, rfl, SqL.of hfB, at_of (j := beat) rfl (by rw [List.getElem?_map, ef]; rfl), ?_⟩
      exact q f HB sB (hfs beat f ef).2.1 (hfs beat f ef).2.2
end

end Fp

set_option Elab.async false
set_option linter.all false
set_option maxRecDepth 100000
set_option maxHeartbeats 4000000
set_option exponentiation.threshold 10000
namespace Fp
open PySem PySem.Spec PyProof.Rows L2
/-! ### the law: things that are no papers -/
abbrev s_law : Stmt := topS 60
abbrev N_law : List Str := ["_law_script", "_law_feed_here", "_law_way", "_law_at", "_law_life_here", "_law_good", "_law_some", "_law_k", "_law_place", "_law_thing", "_law_rows_here", "_law_many_ways"]
theorem sc_law : FnScope N_law ["_law_script"] (defScope s_law) := ⟨rfl, rfl, rfl, by decide +kernel, rfl, by decide +kernel, by decide +kernel⟩
def good19T : TE := (tTup (tCons (tTup (tCons (tC (.int 0)) (tCons (tC (.int 1)) tNil))) (tCons (tTup (tCons (tC (.int 1)) (tCons (tC (.int 1)) tNil))) (tCons (tTup (tCons (tTup (tCons (tC (.int 1)) (tCons (tC (.int 1)) tNil))) (tCons (tTup (tCons (tC (.int 2)) tNil)) tNil))) (tCons (tTup (tCons (tTup tNil) (tCons (tTup (tCons (tC (.int 1)) tNil)) tNil))) tNil)))))
def good19D : PyData := .tuple [.tuple [.int 0, .int 1], .tuple [.int 1, .int 1], .tuple [.tuple [.int 1, .int 1], .tuple [.int 2]], .tuple [.tuple [], .tuple [.int 1]]]
theorem good19L {K : PySem.W.Frag} : Lit K good19T good19D := by
  unfold good19T good19D
  exact (.tup (.cons (.tup (.cons .int (.cons .int .nil)) (by decide)) (.cons (.tup (.cons .int (.cons .int .nil)) (by decide)) (.cons (.tup (.cons (.tup (.cons .int (.cons .int .nil)) (by decide)) (.cons (.tup (.cons .int .nil) (by decide)) .nil)) (by decide)) (.cons (.tup (.cons (.tup .nil (by decide)) (.cons (.tup (.cons .int .nil) (by decide)) .nil)) (by decide)) .nil)))) (by decide))

def lA19T : TE := (tTup (tCons (tTup tNil) tNil))
def lA19D : PyData := .tuple [.tuple []]
theorem lA19L {K : PySem.W.Frag} : Lit K lA19T lA19D := by
  unfold lA19T lA19D
  exact (.tup (.cons (.tup .nil (by decide)) .nil) (by decide))

def lB19T : TE := (tTup (tCons (tTup (tCons (tC (.int 0)) (tCons (tC (.int 2)) tNil))) tNil))
def lB19D : PyData := .tuple [.tuple [.int 0, .int 2]]
theorem lB19L {K : PySem.W.Frag} : Lit K lB19T lB19D := by
  unfold lB19T lB19D
  exact (.tup (.cons (.tup (.cons .int (.cons .int .nil)) (by decide)) .nil) (by decide))

def lC19T : TE := (tTup (tCons (tLst (tCons (tTup (tCons (tC (.int 2)) tNil)) tNil)) (tCons (tTup tNil) tNil)))
def lC19D : PyData := .tuple [.list [.tuple [.int 2]], .tuple []]
theorem lC19L {K : PySem.W.Frag} : Lit K lC19T lC19D := by
  unfold lC19T lC19D
  exact (.tup (.cons (.lst (.cons (.tup (.cons .int .nil) (by decide)) .nil) (by decide)) (.cons (.tup .nil (by decide)) .nil)) (by decide))

def lD19T : TE := (tTup (tCons (tTup (tCons (tLst (tCons (tC (.int 2)) tNil)) tNil)) (tCons (tTup tNil) tNil)))
def lD19D : PyData := .tuple [.tuple [.list [.int 2]], .tuple []]
theorem lD19L {K : PySem.W.Frag} : Lit K lD19T lD19D := by
  unfold lD19T lD19D
  exact (.tup (.cons (.tup (.cons (.lst (.cons .int .nil) (by decide)) .nil) (by decide)) (.cons (.tup .nil (by decide)) .nil)) (by decide))

def lE19T : TE := (tTup (tCons (tTup (tCons (tTup (tCons (tC (.bl true)) (tCons (tC (.int 1)) tNil))) tNil)) (tCons (tTup tNil) tNil)))
def lE19D : PyData := .tuple [.tuple [.tuple [.bool true, .int 1]], .tuple []]
theorem lE19L {K : PySem.W.Frag} : Lit K lE19T lE19D := by
  unfold lE19T lE19D
  exact (.tup (.cons (.tup (.cons (.tup (.cons .bl (.cons .int .nil)) (by decide)) .nil) (by decide)) (.cons (.tup .nil (by decide)) .nil)) (by decide))

def lF19T : TE := (tTup (tCons (tTup (tCons (tTup (tCons (tC (.int 0)) (tCons (tC (.int 2)) tNil))) tNil)) (tCons (tTup (tCons (tTup tNil) tNil)) tNil)))
def lF19D : PyData := .tuple [.tuple [.tuple [.int 0, .int 2]], .tuple [.tuple []]]
theorem lF19L {K : PySem.W.Frag} : Lit K lF19T lF19D := by
  unfold lF19T lF19D
  exact (.tup (.cons (.tup (.cons (.tup (.cons .int (.cons .int .nil)) (by decide)) .nil) (by decide)) (.cons (.tup (.cons (.tup .nil (by decide)) .nil) (by decide)) .nil)) (by decide))


def gl19 : List PyData := [.tuple [.int 0, .int 1], .tuple [.int 1, .int 1], .tuple [.tuple [.int 1, .int 1], .tuple [.int 2]], .tuple [.tuple [], .tuple [.int 1]]]
theorem gl19_bk : ∀ d ∈ gl19, Bk 134 4 20 4 d := fun d hd => bkB_ok (List.all_eq_true.mp (show gl19.all bkB = true by decide +kernel) d hd)
/-- a thing whose parts are small -/
def Okk (x : PyData) : Prop := Bk 200 10 300 8 x
theorem okT {ds : List PyData} (h : ∀ d ∈ ds, Bk 134 4 20 4 d) (hl : ds.length ≤ 10) : Okk (.tuple ds) := by
  have z := (Bks.all h).mono (b2 := 200) (w2 := 10) (c2 := 300) (k2 := 7) (by decide) (by decide) (by omega) (by decide)
  exact z.tup hl
theorem okL {ds : List PyData} (h : ∀ d ∈ ds, Bk 134 4 20 4 d) (hl : ds.length ≤ 10) : Okk (.list ds) := by
  have z := (Bks.all h).mono (b2 := 200) (w2 := 10) (c2 := 300) (k2 := 7) (by decide) (by decide) (by omega) (by decide)
  exact z.lst hl
theorem okO {d : PyData} (h : Bk 134 4 20 4 d) : Okk d := h.mono (by decide) (by decide) (by decide) (by decide)
theorem bkAll {ds : List PyData} (h : ds.all bkB = true) : ∀ d ∈ ds, Bk 134 4 20 4 d := fun d hd => bkB_ok (List.all_eq_true.mp h d hd)
theorem wayT_bk9 {ws : List (List Int)} (h1 : ∀ w ∈ ws, ∀ x ∈ w, (1 : Int) ≤ x) (h2 : ∀ w ∈ ws, w.sum ≤ 9) (hl : ws.length ≤ 256) : Bk 200 300 2560 2 (.tuple (ws.map wD)) := by
  have z := Bks.all (b := 200) (l := 300) (c := 9) (k := 1) (ds := ws.map wD) fun d hd => by
    obtain ⟨w, hw, rfl⟩ := List.mem_map.mp hd
    have h3 := way_ge (h1 w hw)
    have h4 := h2 w hw
    have z := Bks.all (b := 200) (l := 300) (c := 0) (k := 0) (ds := w.map PyData.int) fun d hd => by
      obtain ⟨x, hx, rfl⟩ := List.mem_map.mp hd
      have := way_each (b := 9) (h1 w hw) h4 x hx
      refine Bk.int (Sm.mono (n := 8) (by unfold Sm; omega) (by decide))
    exact (z.tup (by rw [List.length_map]; omega)).mono (Nat.le_refl _) (Nat.le_refl _) (by rw [List.length_map]; omega) (Nat.le_refl _)
  exact (z.tup (by rw [List.length_map]; omega)).mono (Nat.le_refl _) (Nat.le_refl _) (by rw [List.length_map]; omega) (Nat.le_refl _)
theorem pap9_bk {x y : PyData} (hx : Bk 200 300 2560 2 x) (hy : Bk 200 300 2560 2 y) : Bk 200 300 6000 3 (.tuple [.tuple [.int 0, .int 1], .tuple [.int 1, .int 1], x, y]) := by
  have s0 : Bk 200 300 2 2 (.tuple [.int 0, .int 1]) := Bk.rat (n := 2) (x := (0, 1)) ⟨⟨by decide, by decide⟩, by unfold Sm; decide, by unfold Sm; decide⟩ (by decide) (by decide) (by decide)
  have s1 : Bk 200 300 2 2 (.tuple [.int 1, .int 1]) := Bk.rat (n := 2) (x := (1, 1)) ⟨⟨by decide, by decide⟩, by unfold Sm; decide, by unfold Sm; decide⟩ (by decide) (by decide) (by decide)
  exact ((Bks.cons s0 (Bks.cons s1 (Bks.cons hx (Bks.cons hy Bks.nil)))).tup (by show 4 ≤ 300; decide)).mono (Nat.le_refl _) (Nat.le_refl _) (by decide) (Nat.le_refl _)
section
variable {P : Program} {w : World} {K : PySem.W.Frag} {mg : Str → Option Value} {base : Heap} {H H' : Hp}
theorem Obs.sub {rs : List Addr} {ws : List (List Int)} (h : Obs (TAt K) H rs ws) (i j : Nat) : Obs (TAt K) H ((rs.drop i).take j) ((ws.drop i).take j) := by
  refine ⟨by rw [List.length_take, List.length_take, List.length_drop, List.length_drop, h.1], fun k r y h1 h2 => ?_⟩
  rw [List.getElem?_take] at h1 h2
  split at h1
  · rename_i hk
    rw [if_pos hk] at h2
    rw [List.getElem?_drop] at h1 h2
    exact h.2 _ r y h1 h2
  · cases h1
/-- a part of a list of ways -/
theorem ols_cut {p : Addr} {ws : List (List Int)} {a b : Option Int} {Q : VK} (h : OLs (TAt K) H p ws) (q : ∀ r H' us, Same H H' → OLs (TAt K) H' r us → (∀ w ∈ us, w ∈ ws) → us.length ≤ ws.length → Q (.ref r) H') : rSlL K (.ref p) a b H Q := by
  obtain ⟨rs, h1, h2⟩ := h
  refine ⟨p, _, rfl, SqL.of h1, fun r nr => ?_⟩
  obtain ⟨i, j, e⟩ : ∃ i j, cutV (rs.map V.ref) a b = ((rs.drop i).take j).map V.ref := by
    refine ⟨HT.sIx (rs.map V.ref).length 0 a, HT.sIx (rs.map V.ref).length (rs.map V.ref).length b - HT.sIx (rs.map V.ref).length 0 a, ?_⟩
    unfold cutV
    rw [← List.map_drop, ← List.map_take]
  rw [e]
  have s := same_new (o := HO.lst (((rs.drop i).take j).map V.ref)) nr
  refine q r _ ((ws.drop i).take j) s ⟨_, upd_same, (h2.sub i j).tk tat_stays (Tk.same s)⟩ (fun w hw => List.mem_of_mem_drop (List.mem_of_mem_take hw)) ?_
  rw [List.length_take, List.length_drop]
  omega

theorem lit_go {te : TE} {x : PyData} (l : Lit K te x) {A : Addr → Prop} {σ : L2.St} {H : Hp} {Q : VK} (dA : Dom A H) (q : ∀ v H', Same H H' → DA K A H' v x → Q v H') : te σ H Q := l A σ H Q dA q
theorem cons_go {te : TE} {ta : TA} {σ : L2.St} {H : Hp} {R : List V → Hp → Prop} (h : te σ H fun v H1 => ta σ H1 fun vs H2 => R (v :: vs) H2) : tCons te ta σ H R := h
theorem dcat19 {p r : Addr} {us ws : List V} {Q : VK} (h1 : H p = some (.lst us)) (h2 : H r = some (.lst ws)) (hl : us.length + ws.length ≤ 1000) (q : ∀ b, H b = none → Q (.ref b) (upd H b (.lst (us ++ ws)))) : rCat (.ref p) (.ref r) H Q :=
  ⟨p, r, _, _, rfl, rfl, h1, h2, by rw [sizeLine_eq]; omega, q⟩
theorem ok_law {tAY tIW : Addr} {f fE fD fAL fOD fAK fRO : Addr} {fd fdE fdD fdAL fdOD fdAK fdRO : FuncData} (F : Fun K "law" "law" s_law f fd)
    (FE : Fun K "_law_feed" "_law_feed" s_feed fE fdE) (bE : Binds K fdE ["_law_script"] []) (gE : mg "_law_feed" = some (.ref fE)) (GE : FnOk P w K mg base CX0 1 fE fdE ["_law_script"] (spFeed K))
    (FD : Fun K "_law_draw" "_law_draw" s_draw fD fdD) (bD : Binds K fdD ["_law_feed_here", "_law_many"] []) (gD : mg "_law_draw" = some (.ref fD)) (GD : FnOk P w K mg base CX0 1 fD fdD ["_law_feed_here", "_law_many"] spDraw)
    (FAL : Fun K "_law_any_life" "_law_any_life" s_any fAL fdAL) (bAL : Binds K fdAL ["_law_feed_here"] []) (gAL : mg "_law_any_life" = some (.ref fAL)) (GAL : FnOk P w K mg base CX0 3 fAL fdAL ["_law_feed_here"] (spAny K))
    (FOD : Fun K "_law_odd" "_law_odd" s_odd fOD fdOD) (bOD : Binds K fdOD ["_law_feed_here"] []) (gOD : mg "_law_odd" = some (.ref fOD)) (GOD : FnOk P w K mg base CX0 2 fOD fdOD ["_law_feed_here"] (spOdd K))
    (FAK : Fun K "_law_asked" "_law_asked" s_ak fAK fdAK) (bAK : Binds K fdAK ["_law_life_here", "_law_beat", "_law_thing"] []) (gAK : mg "_law_asked" = some (.ref fAK)) (GAK : FnG P w K mg base CX0 10 fAK fdAK ["_law_life_here", "_law_beat", "_law_thing"] (spAk K tAY tIW))
    (FRO : Fun K "_law_rows" "_law_rows" s_rows fRO fdRO) (bRO : Binds K fdRO ["_law_beat"] []) (gRO : mg "_law_rows" = some (.ref fRO)) (GRO : FnOk P w K mg base CX0 1 fRO fdRO ["_law_beat"] (spRows K))
    (n_list : mg "list" = none) (n_range : mg "range" = none) (n_tuple : mg "tuple" = none) : FnG P w K mg base CX0 11 f fd ["_law_script"] (spLawT K [tAY, tIW]) := by
  refine okG F sc_law (fun vs H Q E h => ?_) (fun cdv A outer s H vs Q E hq hr h => ?_)
  · obtain ⟨_, _, rfl, _⟩ := h
    rfl
  · obtain ⟨a0, ns, rfl, hS, hT, q⟩ := h
    refine ⟨_, (pss_cons (ps_set (i := 1) sc_law.nd rfl (.inl rfl) (pe_call GE (hr.mono (by decide)) (by rfl) gE FE.kp bE .nil pass0 (pa_cons (pv 0) pa_nil)))
      (pss_cons (ps_par (i := 2) (j := 3) rfl sc_law.nd rfl rfl (by decide) rfl rfl (pa_cons (pe_call GD (hr.mono (by decide)) (by rfl) gD FD.kp bD .nil pass0 (pa_cons (pv 1) (pa_cons pe_int pa_nil))) (pa_cons (pe_call GD (hr.mono (by decide)) (by rfl) gD FD.kp bD .nil pass0 (pa_cons (pv 1) (pa_cons pe_int pa_nil))) pa_nil)) (by rfl))
      (pss_cons (ps_set (i := 4) sc_law.nd rfl (.inl rfl) (pe_call GAL (hr.mono (by decide)) (by rfl) gAL FAL.kp bAL .nil pass0 (pa_cons (pv 1) pa_nil)))
      (pss_cons (ps_set (i := 5) sc_law.nd rfl (.inl rfl) (pe_tup (pa_cons (pe_tup (pa_cons pe_int (pa_cons pe_int pa_nil))) (pa_cons (pe_tup (pa_cons pe_int (pa_cons pe_int pa_nil))) (pa_cons (pe_tup (pa_cons (pe_tup (pa_cons pe_int (pa_cons pe_int pa_nil))) (pa_cons (pe_tup (pa_cons pe_int pa_nil)) pa_nil))) (pa_cons (pe_tup (pa_cons (pe_tup pa_nil) (pa_cons (pe_tup (pa_cons pe_int pa_nil)) pa_nil))) pa_nil))))))
      (pss_cons (ps_set (i := 6) sc_law.nd rfl (.inl rfl) (pe_lst (pa_cons (pv 5) pa_nil)))
      (pss_cons (ps_for PassesOwn.never rfl (pi_range1 (by rfl) n_range (pa_cons pe_int pa_nil)) (pg_name (i := 7) sc_law.nd rfl (.inl rfl)) (pss_cons (ps_set (i := 8) sc_law.nd rfl (.inl rfl) (pe_call GD (hr.mono (by decide)) (by rfl) gD FD.kp bD .nil pass0 (pa_cons (pv 1) (pa_cons pe_int pa_nil))))
      (pss_one (ps_expr (pe_bm PySem.F.plainAttrs_list PySem.F.slot_list_append PySem.F.type_list_append mt_append (pv 6) (pa_cons (pe_op op_catA (pe_op op_catA (pe_slice sl_tupA (pv 5) po_none (po_some (pv 8))) (pe_tup (pa_cons (pe_call GOD (hr.mono (by decide)) (by rfl) gOD FOD.kp bOD .nil pass0 (pa_cons (pv 1) pa_nil)) pa_nil))) (pe_slice sl_tupA (pv 5) (po_some (pe_op op_add (pv 8) pe_int)) po_none)) pa_nil))))))
      (pss_cons (ps_set (i := 6) sc_law.nd rfl (.inl rfl) (pe_op op_cat (pv 6) (pe_lst (pa_cons (pe_call GOD (hr.mono (by decide)) (by rfl) gOD FOD.kp bOD .nil pass0 (pa_cons (pv 1) pa_nil)) (pa_cons (pe_callTy call_lstN (by rfl) n_list (by decide +kernel) (pa_cons (pv 5) pa_nil)) (pa_cons (pe_slice sl_tupA (pv 5) po_none (po_some pe_int)) (pa_cons (pe_op op_catA (pv 5) (pe_tup (pa_cons (pe_tup pa_nil) pa_nil))) (pa_cons (pe_op op_catA (pe_tup (pa_cons (pe_tup (pa_cons pe_int (pa_cons pe_int pa_nil))) pa_nil)) (pe_slice sl_tupA (pv 5) (po_some pe_int) po_none)) (pa_cons (pe_op op_catA (pe_slice sl_tupA (pv 5) po_none (po_some pe_int)) (pe_tup (pa_cons (pe_lst (pa_cons (pe_tup (pa_cons pe_int pa_nil)) pa_nil)) (pa_cons (pe_tup pa_nil) pa_nil)))) pa_nil)))))))))
      (pss_cons (ps_set (i := 6) sc_law.nd rfl (.inl rfl) (pe_op op_cat (pv 6) (pe_lst (pa_cons (pe_op op_catA (pe_slice sl_tupA (pv 5) po_none (po_some pe_int)) (pe_tup (pa_cons (pe_tup (pa_cons (pe_lst (pa_cons pe_int pa_nil)) pa_nil)) (pa_cons (pe_tup pa_nil) pa_nil)))) (pa_cons (pe_op op_catA (pe_slice sl_tupA (pv 5) po_none (po_some pe_int)) (pe_tup (pa_cons (pe_tup (pa_cons (pe_tup (pa_cons pe_bl (pa_cons pe_int pa_nil))) pa_nil)) (pa_cons (pe_tup pa_nil) pa_nil)))) (pa_cons (pe_op op_catA (pe_slice sl_tupA (pv 5) po_none (po_some pe_int)) (pe_tup (pa_cons (pe_tup (pa_cons (pe_tup (pa_cons pe_int (pa_cons pe_int pa_nil))) pa_nil)) (pa_cons (pe_tup (pa_cons (pe_tup pa_nil) pa_nil)) pa_nil)))) (pa_cons (pe_tup pa_nil) pa_nil)))))))
      (pss_cons (ps_for PassesOwn.never rfl (pi_list (pv 6)) (pg_name (i := 9) sc_law.nd rfl (.inl rfl)) (pss_one (ps_if (pt_not (pt_val (pe_callG GAK hq hr (by rfl) gAK FAK.kp bAK pass0 (pa_cons (pv 4) (pa_cons pe_int (pa_cons (pv 9) pa_nil)))))) (pss_one (ps_ret pe_bl)) pss_nil)))
      (pss_cons (ps_if (pt_cmpR op_gt (pv 2) pe_int (nomark _)) (pss_one (ps_ret pe_bl)) pss_nil)
      (pss_cons (ps_set (i := 10) sc_law.nd rfl (.inl rfl) (pe_slice sl_list (pe_call GRO (hr.mono (by decide)) (by rfl) gRO FRO.kp bRO .nil pass0 (pa_cons pe_int pa_nil)) (po_some (pv 3)) po_none))
      (pss_cons (ps_for PassesOwn.never rfl (pi_tup (pe_tup (pa_cons pe_int (pa_cons pe_int pa_nil)))) (pg_name (i := 11) sc_law.nd rfl (.inl rfl)) (pss_cons (ps_if (pt_not (pt_val (pe_callG GAK hq hr (by rfl) gAK FAK.kp bAK pass0 (pa_cons (pv 4) (pa_cons pe_int (pa_cons (pe_tup (pa_cons (pe_tup (pa_cons pe_int (pa_cons pe_int pa_nil))) (pa_cons (pe_tup (pa_cons pe_int (pa_cons pe_int pa_nil))) (pa_cons (pe_callTy call_tupN (by rfl) n_tuple (by decide +kernel) (pa_cons (pe_slice sl_list (pv 10) po_none (po_some (pv 11))) pa_nil)) (pa_cons (pe_tup pa_nil) pa_nil))))) pa_nil)))))) (pss_one (ps_ret pe_bl)) pss_nil)
      (pss_one (ps_if (pt_not (pt_val (pe_callG GAK hq hr (by rfl) gAK FAK.kp bAK pass0 (pa_cons (pv 4) (pa_cons pe_int (pa_cons (pe_tup (pa_cons (pe_tup (pa_cons pe_int (pa_cons pe_int pa_nil))) (pa_cons (pe_tup (pa_cons pe_int (pa_cons pe_int pa_nil))) (pa_cons (pe_tup pa_nil) (pa_cons (pe_callTy call_tupN (by rfl) n_tuple (by decide +kernel) (pa_cons (pe_slice sl_list (pv 10) po_none (po_some (pv 11))) pa_nil)) pa_nil))))) pa_nil)))))) (pss_one (ps_ret pe_bl)) pss_nil))))
      (pss_one (ps_ret pe_bl)))))))))))))), ?_⟩
    refine ⟨_, rfl, a0, ns, rfl, hS, fun d c H1 s1 f1 => ?_⟩
    refine ⟨_, rfl, d, c, 4, 0, rfl, f1, by omega, by decide, by decide, fun wy H2 h20 h21 k2 f2 => ?_⟩
    refine ⟨_, rfl, d, c, 50, 0 + 1, rfl, f2, by omega, by decide, by decide, fun at0 H3 h30 h31 k3 f3 => ?_⟩
    refine tnil_go ?_
    refine ⟨_, _, rfl, ?_⟩
    refine ⟨_, rfl, ?_⟩
    refine tnil_go ?_
    refine ⟨d, c, _, rfl, f3, by omega, fun p row step t4 H4 k4 f4 ht4 al lf => ?_⟩
    obtain ⟨ok, hl7, hnil⟩ := al.ok
    obtain ⟨D0, C1⟩ := al.ch01
    obtain ⟨N0, E0', T0⟩ := al.tot
    have hls := last_nn ok C1 T0 (by omega)
    have sms : SmR 20 step := ok.st.1.mono (by decide)
    have bl : Bk 1900 900 500 10 (lifeD row step) := (Bk.life (b := 134) (l := 8) ok.sm sms (by decide) (by decide) (by omega) (by decide)).mono (by decide) (by decide) (by omega) (by decide)
    have hT4 := (((hT.same s1).keep f1 k2).keep f2 k3).keep f3 k4
    have hS4 := sqL_keep f3 k4 (sqL_keep f2 k3 (sqL_keep f1 k2 (s1.seq hS)))
    clear k2 k3 k4 s1 f1 f2 f3 hS hT al
    try dsimp only
    refine gn_go ?_
    try dsimp only
    refine asg_go ?_
    refine lit_go (K := K) (A := fun _ => False) good19L Dom.no fun vg H5 s5 hvg => ?_
    have hvg : DpX K H5 vg (.tuple gl19) := DA.no.mp hvg
    have f5 := f4.same s5
    refine ⟨_, rfl, ?_⟩
    refine tnil_go ?_
    refine ⟨by show 1 ≤ sizeLine; decide, fun L nL => ?_⟩
    have gL := same_new (o := HO.lst [vg]) nL
    have hL0 : LsD K (upd H5 L (.lst [vg])) L [.tuple gl19] := LsD.new nL (.cons hvg .nil)
    have dg0 : DA K (· = L) (upd H5 L (.lst [vg])) vg (.tuple gl19) := DpX.same hvg (hid_new nL gL)
    have st0 : St K [tAY, tIW] a0 (ns.map V.int) (· = L) (upd H5 L (.lst [vg])) := St.new (s5.seq hS4) (hT4.same s5) nL gL
    have lf0 := lf.tk (K := K) (Tk.same (s5.trans gL))
    have f0 := f5.same gL
    have nLc : L ≠ c := f5.nc nL
    generalize upd H5 L (.lst [vg]) = H6 at *
    clear gL nL hvg hT4 hS4 lf f4 f5 s5
    refine ⟨3, rfl, by decide, by decide, ?_⟩
    refine for_range (lo := 0) (n := (3 : Int).toNat) (fun i σ HB => ∃ (z7 z8 z9 z10 z11 : Option V) (ds : List PyData) (t8 : Int), σ = [some (.ref a0), some (.ref d), some (.int wy), some (.int at0), some (.ref p), some vg, some (.ref L), z7, z8, z9, z10, z11] ∧ LsD K HB L ds ∧ ds.length = 1 + i ∧ (∀ x ∈ ds, Okk x) ∧ DA K (· = L) HB vg (.tuple gl19) ∧ St K [tAY, tIW] a0 (ns.map V.int) (· = L) HB ∧ LifeAt K HB p row step ∧ Feed HB d c t8 ∧ t8 ≤ 100 + 2 * (i : Int))
      ⟨_, _, _, _, _, _, t4, rfl, hL0, rfl, fun x hx => (by rw [List.mem_singleton.mp hx]; exact okT gl19_bk (by decide)), dg0, st0, lf0, f0, by omega⟩ ?_ ?_
    · clear hL0 dg0 st0 lf0 f0
      rintro i σ HB hi ⟨z7, z8, z9, z10, z11, ds, t8, rfl, hL, hdl, hok, dg, st, lfB, fB, ht8⟩
      have hi3 : i < 3 := hi
      refine ⟨_, rfl, ?_⟩
      refine tcn_go ?_
      refine ⟨d, c, 4, t8, rfl, fB, by omega, by decide, by decide, fun pl HC pl0 pl1 kC fC => ?_⟩
      obtain ⟨j, rfl⟩ : ∃ j : Nat, pl = (j : Int) := ⟨pl.toNat, by omega⟩
      have hLC := hL.keep fB kC
      have dgC := dg.keep fB kC
      have stC := st.keep fB kC
      have lfC := lfB.tk (Tk.keep (K := K) fB kC)
      clear hL dg st lfB fB
      obtain ⟨vs0, hv0, _⟩ := id hLC
      refine ⟨_, rfl, .inl ⟨rfl, _, SqL.of hv0⟩, ?_⟩
      refine ⟨_, rfl, ?_⟩
      refine noPart_go ?_
      refine ⟨_, rfl, _, rfl, ?_⟩
      refine slD_to (i := j) hLC.dom dgC fun w1 HD sD p1 => ?_
      refine ⟨_, rfl, ?_⟩
      refine tnil_go ?_
      refine ⟨(· = L), d, c, t8 + 1, rfl, fC.same sD, hLC.dom.same sD, by omega, fun vo xo t9 HE kE fE ht9 po bo => ?_⟩
      have hLE := (hLC.same sD).keep (fC.same sD) kE
      have dgE := (dgC.same sD).keep (fC.same sD) kE
      have stE := (stC.same sD).keep (fC.same sD) kE
      have lfE := (lfC.tk (Tk.same sD)).tk (Tk.keep (K := K) (fC.same sD) kE)
      have p1E := p1.keep (fC.same sD) kE
      clear hLC dgC stC lfC
      refine tnil_go ?_
      refine ⟨by show 1 ≤ sizeLine; decide, fun T1 n1 => ?_⟩
      have g1 := same_new (o := HO.tup [vo]) n1
      have pt : DA K (· = L) (upd HE T1 (.tup [vo])) (.ref T1) (.tuple [xo]) := .tupN hLE.dom n1 (.cons po .nil)
      have l1 : (gl19.take j).length ≤ 4 := by rw [List.length_take]; exact Nat.min_le_right _ _
      have l2 : (gl19.drop (j + 1)).length ≤ 4 := by rw [List.length_drop]; show 4 - (j + 1) ≤ 4; omega
      refine catD (hLE.dom.same g1) (p1E.same g1) pt (by rw [sizeLine_eq]; show _ + 1 ≤ _; omega) fun w3 HF s3 p3 => ?_
      refine ⟨_, rfl, ?_⟩
      refine ⟨_, rfl, ?_⟩
      refine ⟨_, _, rfl, rfl, ?_⟩
      refine ⟨_, rfl, ?_⟩
      refine noPart_go ?_
      refine slD_fr (i := j + 1) ((hLE.dom.same g1).same s3) ((dgE.same g1).same s3) fun w4 HG s4 p4 => ?_
      refine catD (((hLE.dom.same g1).same s3).same s4) (p3.same s4) p4 (by rw [sizeLine_eq, List.length_append]; show _ + 1 + _ ≤ _; omega) fun w5 HH s6 p5 => ?_
      refine tnil_go ?_
      have SH := g1.trans (s3.trans (s4.trans s6))
      have hLH := hLE.same SH
      have stH := stE.same SH
      obtain ⟨vs1, hv1, _⟩ := id hLH
      refine hLH.push_go p5 (by omega) fun HI hLI kI => ?_
      refine ⟨_, _, _, _, _, _, t9, rfl, hLI, by rw [List.length_append, hdl]; rfl, fun x hx => ?_, DpX.same (dgE.same SH) (hid_push kI), stH.push kI, (lfE.tk (Tk.same SH)).tk (Tk.push hv1 kI), feed_push (fE.same SH) hv1 nLc kI, by omega⟩
      rcases List.mem_append.mp hx with z | z
      · exact hok x z
      · rw [List.mem_singleton.mp z]
        refine okT (fun y hy => ?_) (by rw [List.length_append, List.length_append]; show _ + 1 + _ ≤ 10; omega)
        rcases List.mem_append.mp hy with y1 | y1
        · rcases List.mem_append.mp y1 with y2 | y2
          · exact gl19_bk y (List.mem_of_mem_take y2)
          · rw [List.mem_singleton.mp y2]
            exact bo
        · exact gl19_bk y (List.mem_of_mem_drop y1)
    clear hL0 dg0 st0 lf0 f0
    rintro σ HB ⟨z7, z8, z9, z10, z11, ds, t8, rfl, ⟨us, eL, xL⟩, hdl, hok, dg, st, lfB, fB, ht8⟩
    have hT := st.un.2
    have xL := xL.un
    have dg := dg.un
    have hul := xL.len
    have hdl4 : ds.length = 4 := hdl
    clear st nLc hdl
    refine ⟨_, rfl, ?_⟩
    refine ⟨_, rfl, ?_⟩
    refine tnil_go ?_
    refine ⟨fun _ => False, d, c, t8, rfl, fB, Dom.no, by omega, fun v1 x1 t9 HC kC fC ht9 po bo => ?_⟩
    have po := DA.no.mp po
    have dgC := dg.keep fB kC
    obtain ⟨ag, ug, rfl, k1, k2⟩ := (DA.no.mpr dgC).tupE
    have k2 := (show DpXAll K HC ug gl19 from (by unfold DAs at k2; rw [hid_no] at k2; exact k2))
    refine ⟨_, rfl, ?_⟩
    refine tnil_go ?_
    refine ⟨ag, ug, rfl, .inr k1, fun v2 nv2 => ?_⟩
    have g2 := same_new (o := HO.lst ug) nv2
    have e2 : DpX K (upd HC v2 (.lst ug)) (.ref v2) (.list gl19) := .lst (SqL.of upd_same) (k2.same g2)
    generalize upd HC v2 (.lst ug) = HD at *
    refine ⟨_, rfl, ?_⟩
    refine noPart_go ?_
    refine tC_go ?_
    refine ⟨_, rfl, ?_⟩
    refine slD_to (A := fun _ => False) (i := 3) Dom.no (DA.no.mpr (dgC.same g2)) fun v3 HE s3 e3 => ?_
    have e3 := DA.no.mp e3
    have G3 := g2.trans s3
    refine ⟨_, rfl, ?_⟩
    try dsimp only
    refine lit_go (K := K) (A := fun _ => False) lA19L Dom.no fun q4 HF s4 r4 => ?_
    have G4 := G3.trans s4
    refine catD (A := fun _ => False) Dom.no (DA.no.mpr (dgC.same G4)) r4 (by rw [sizeLine_eq]; decide) fun v4 HG s5 e4 => ?_
    have e4 := DA.no.mp e4
    have G5 := G4.trans s5
    try dsimp only
    refine cons_go ?_
    refine top_go ?_
    refine lit_go (K := K) (A := fun _ => False) lB19L Dom.no fun q5 HH s6 r5 => ?_
    have G6 := G5.trans s6
    refine ⟨_, rfl, ?_⟩
    refine tC_go ?_
    refine ⟨_, rfl, ?_⟩
    refine noPart_go ?_
    refine slD_fr (A := fun _ => False) (i := 1) Dom.no (DA.no.mpr (dgC.same G6)) fun q6 HI s7 r6 => ?_
    refine catD (A := fun _ => False) Dom.no (r5.same s7) r6 (by rw [sizeLine_eq]; decide) fun v5 HJ s8 e5 => ?_
    have e5 := DA.no.mp e5
    have G8 := (G6.trans s7).trans s8
    refine ⟨_, rfl, ?_⟩
    refine noPart_go ?_
    refine tC_go ?_
    refine ⟨_, rfl, ?_⟩
    refine slD_to (A := fun _ => False) (i := 2) Dom.no (DA.no.mpr (dgC.same G8)) fun q7 HK s9 r7 => ?_
    try dsimp only
    refine lit_go (K := K) (A := fun _ => False) lC19L Dom.no fun q8 HL s10 r8 => ?_
    refine catD (A := fun _ => False) Dom.no (r7.same s10) r8 (by rw [sizeLine_eq]; decide) fun v6 HM s11 e6 => ?_
    have e6 := DA.no.mp e6
    have T9 := s9.trans (s10.trans s11)
    have G11 := G8.trans T9
    refine tnil_go ?_
    refine ⟨by show 6 ≤ sizeLine; decide, fun La nLa => ?_⟩
    have gLa := same_new (o := HO.lst [v1, .ref v2, v3, v4, v5, v6]) nLa
    have eLa := upd_same (H := HM) (a := La) (o := HO.lst [v1, .ref v2, v3, v4, v5, v6])
    have xA : DpXAll K (upd HM La (.lst [v1, .ref v2, v3, v4, v5, v6])) [v1, .ref v2, v3, v4, v5, v6] [x1, .list gl19, .tuple (gl19.take 3), .tuple (gl19 ++ [.tuple []]), .tuple ([.tuple [.int 0, .int 2]] ++ gl19.drop 1), .tuple (gl19.take 2 ++ [.list [.tuple [.int 2]], .tuple []])] :=
      .cons (po.same (G11.trans gLa)) (.cons (e2.same (s3.trans (s4.trans (s5.trans (s6.trans (s7.trans (s8.trans (T9.trans gLa)))))))) (.cons (e3.same (s4.trans (s5.trans (s6.trans (s7.trans (s8.trans (T9.trans gLa))))))) (.cons (e4.same (s6.trans (s7.trans (s8.trans (T9.trans gLa))))) (.cons (e5.same (T9.trans gLa)) (.cons (e6.same gLa) .nil)))))
    have oA : ∀ x ∈ [x1, .list gl19, .tuple (gl19.take 3), .tuple (gl19 ++ [.tuple []]), .tuple ([.tuple [.int 0, .int 2]] ++ gl19.drop 1), .tuple (gl19.take 2 ++ [.list [.tuple [.int 2]], .tuple []])], Okk x := by
      intro x hx
      simp only [List.mem_cons, List.not_mem_nil, or_false] at hx
      rcases hx with rfl | rfl | rfl | rfl | rfl | rfl
      · exact okO bo
      · exact okL gl19_bk (by decide)
      · exact okT (bkAll (by decide +kernel)) (by decide)
      · exact okT (bkAll (by decide +kernel)) (by decide)
      · exact okT (bkAll (by decide +kernel)) (by decide)
      · exact okT (bkAll (by decide +kernel)) (by decide)
    have GA := G11.trans gLa
    have KA : Keep d HB (upd HM La (.lst [v1, .ref v2, v3, v4, v5, v6])) := kC.trans (Keep.of_same GA)
    have eL2 := (GA _ _ (keep_at fB kC eL (by intro _ z; cases z)))
    have xL2 := (xL.keep fB kC).same GA
    have dg2 := dgC.same GA
    have hT2 := hT.keep fB KA
    have lf2 := lfB.tk (Tk.keep (K := K) fB KA)
    generalize upd HM La (.lst [v1, .ref v2, v3, v4, v5, v6]) = HN at *
    clear KA GA G11 G8 G6 G5 G4 G3 T9 gLa nLa g2 s3 s4 s5 s6 s7 s8 s9 s10 s11 e2 e3 e4 e5 e6 po r4 r5 r6 r7 r8 k1 k2 dgC dg xL eL hT lfB fB kC fC
    have xAB := xL2.app xA
    have oAB : ∀ x ∈ ds ++ [x1, .list gl19, .tuple (gl19.take 3), .tuple (gl19 ++ [.tuple []]), .tuple ([.tuple [.int 0, .int 2]] ++ gl19.drop 1), .tuple (gl19.take 2 ++ [.list [.tuple [.int 2]], .tuple []])], Okk x := fun x hx => by
      rcases List.mem_append.mp hx with z | z
      · exact hok x z
      · exact oA x z
    clear xL2 xA oA hok
    generalize ds ++ [x1, .list gl19, .tuple (gl19.take 3), .tuple (gl19 ++ [.tuple []]), .tuple ([.tuple [.int 0, .int 2]] ++ gl19.drop 1), .tuple (gl19.take 2 ++ [.list [.tuple [.int 2]], .tuple []])] = xs2 at *
    refine dcat19 eL2 eLa (by rw [hul, hdl4]; show 4 + 6 ≤ 1000; decide) fun Lb nLb => ?_
    have gLb := same_new (o := HO.lst (us ++ [v1, .ref v2, v3, v4, v5, v6])) nLb
    have eLb := upd_same (H := HN) (a := Lb) (o := HO.lst (us ++ [v1, .ref v2, v3, v4, v5, v6]))
    generalize hus : us ++ [v1, .ref v2, v3, v4, v5, v6] = us2 at *
    have hul2 : us2.length = 10 := by rw [← hus, List.length_append, hul, hdl4]; rfl
    clear hus hul hdl4 eL2 eLa
    have xB := xAB.same gLb
    have dgB := dg2.same gLb
    have hTB := hT2.same gLb
    have lfB := lf2.tk (K := K) (Tk.same gLb)
    generalize upd HN Lb (.lst us2) = HO1 at *
    clear xAB dg2 hT2 lf2 gLb nLb
    refine ⟨_, rfl, ?_⟩
    refine ⟨_, rfl, ?_⟩
    refine noPart_go ?_
    refine tC_go ?_
    refine ⟨_, rfl, ?_⟩
    refine slD_to (A := fun _ => False) (i := 2) Dom.no (DA.no.mpr dgB) fun q1 Ha s1 r1 => ?_
    try dsimp only
    refine lit_go (K := K) (A := fun _ => False) lD19L Dom.no fun q2 Hb s2 r2 => ?_
    refine catD (A := fun _ => False) Dom.no (r1.same s2) r2 (by rw [sizeLine_eq]; decide) fun w1 Hc s3 e1 => ?_
    have e1 := DA.no.mp e1
    have G3 := s1.trans (s2.trans s3)
    refine ⟨_, rfl, ?_⟩
    refine noPart_go ?_
    refine tC_go ?_
    refine ⟨_, rfl, ?_⟩
    refine slD_to (A := fun _ => False) (i := 2) Dom.no (DA.no.mpr (dgB.same G3)) fun q3 Hd s4 r3 => ?_
    try dsimp only
    refine lit_go (K := K) (A := fun _ => False) lE19L Dom.no fun q4 He s5 r4 => ?_
    refine catD (A := fun _ => False) Dom.no (r3.same s5) r4 (by rw [sizeLine_eq]; decide) fun w2 Hf s6 e2 => ?_
    have e2 := DA.no.mp e2
    have T6 := s4.trans (s5.trans s6)
    have G6 := G3.trans T6
    refine ⟨_, rfl, ?_⟩
    refine noPart_go ?_
    refine tC_go ?_
    refine ⟨_, rfl, ?_⟩
    refine slD_to (A := fun _ => False) (i := 2) Dom.no (DA.no.mpr (dgB.same G6)) fun q5 Hg s7 r5 => ?_
    try dsimp only
    refine lit_go (K := K) (A := fun _ => False) lF19L Dom.no fun q6 Hh s8 r6 => ?_
    refine catD (A := fun _ => False) Dom.no (r5.same s8) r6 (by rw [sizeLine_eq]; decide) fun w3 Hi s9 e3 => ?_
    have e3 := DA.no.mp e3
    have T9 := s7.trans (s8.trans s9)
    have G9 := G6.trans T9
    refine ⟨by show 0 ≤ sizeLine; decide, fun w4 nw4 => ?_⟩
    have g4 := same_new (o := HO.tup []) nw4
    have e4 : DpX K (upd Hi w4 (.tup [])) (.ref w4) (.tuple []) := .tup (SqT.of upd_same) .nil
    generalize upd Hi w4 (.tup []) = Hj at *
    refine tnil_go ?_
    refine ⟨by show 4 ≤ sizeLine; decide, fun Lc nLc => ?_⟩
    have gLc := same_new (o := HO.lst [w1, w2, w3, .ref w4]) nLc
    have eLc := upd_same (H := Hj) (a := Lc) (o := HO.lst [w1, w2, w3, .ref w4])
    have GC := G9.trans (g4.trans gLc)
    have xC : DpXAll K (upd Hj Lc (.lst [w1, w2, w3, .ref w4])) [w1, w2, w3, .ref w4] [.tuple (gl19.take 2 ++ [.tuple [.list [.int 2]], .tuple []]), .tuple (gl19.take 2 ++ [.tuple [.tuple [.bool true, .int 1]], .tuple []]), .tuple (gl19.take 2 ++ [.tuple [.tuple [.int 0, .int 2]], .tuple [.tuple []]]), .tuple []] :=
      .cons (e1.same (T6.trans (T9.trans (g4.trans gLc)))) (.cons (e2.same (T9.trans (g4.trans gLc))) (.cons (e3.same (g4.trans gLc)) (.cons (e4.same gLc) .nil)))
    have oC : ∀ x ∈ xs2 ++ [.tuple (gl19.take 2 ++ [.tuple [.list [.int 2]], .tuple []]), .tuple (gl19.take 2 ++ [.tuple [.tuple [.bool true, .int 1]], .tuple []]), .tuple (gl19.take 2 ++ [.tuple [.tuple [.int 0, .int 2]], .tuple [.tuple []]]), .tuple []], Okk x := by
      intro x hx
      rcases List.mem_append.mp hx with hx | hx
      · exact oAB x hx
      simp only [List.mem_cons, List.not_mem_nil, or_false] at hx
      rcases hx with rfl | rfl | rfl | rfl
      · exact okT (bkAll (by decide +kernel)) (by decide)
      · exact okT (bkAll (by decide +kernel)) (by decide)
      · exact okT (bkAll (by decide +kernel)) (by decide)
      · exact okT (bkAll (by decide +kernel)) (by decide)
    have eLb2 := GC _ _ eLb
    have xBC := (xB.same GC).app xC
    have hTC := hTB.same GC
    have lfC := lfB.tk (K := K) (Tk.same GC)
    generalize upd Hj Lc (.lst [w1, w2, w3, .ref w4]) = Hk at *
    clear GC G9 G6 G3 T9 T6 gLc g4 nLc nw4 s1 s2 s3 s4 s5 s6 s7 s8 s9 e1 e2 e3 e4 r1 r2 r3 r4 r5 r6 xB xC oAB hTB lfB dgB eLb
    generalize xs2 ++ [.tuple (gl19.take 2 ++ [.tuple [.list [.int 2]], .tuple []]), .tuple (gl19.take 2 ++ [.tuple [.tuple [.bool true, .int 1]], .tuple []]), .tuple (gl19.take 2 ++ [.tuple [.tuple [.int 0, .int 2]], .tuple [.tuple []]]), .tuple []] = xs3 at *
    refine dcat19 eLb2 eLc (by rw [hul2]; show 10 + 4 ≤ 1000; decide) fun Ld nLd => ?_
    have gLd := same_new (o := HO.lst (us2 ++ [w1, w2, w3, .ref w4])) nLd
    have eLd := upd_same (H := Hk) (a := Ld) (o := HO.lst (us2 ++ [w1, w2, w3, .ref w4]))
    generalize us2 ++ [w1, w2, w3, .ref w4] = us3 at *
    have xD := xBC.same gLd
    have hTD := hTC.same gLd
    have lfD := lfC.tk (K := K) (Tk.same gLd)
    generalize upd Hk Ld (.lst us3) = Hl at *
    clear xBC hTC lfC gLd nLd eLb2 eLc
    have hxl := xD.len
    refine ⟨_, rfl, Ld, rfl, ⟨_, SqL.of eLd⟩, for_list (K := K) (a := Ld) (xs := us3) (fun i σ HB => ∃ (z7 z8 z9 z10 z11 : Option V), σ = [some (.ref a0), some (.ref d), some (.int wy), some (.int at0), some (.ref p), some (.ref ag), some (.ref Ld), z7, z8, z9, z10, z11] ∧ Same Hl HB) ⟨_, _, _, _, _, rfl, Same.refl _⟩ ?_ ?_ ?_⟩
    · rintro i σ HB _ ⟨_, _, _, _, _, _, sB⟩
      exact SqL.of (sB _ _ eLd)
    · rintro i u σ HB hi ⟨z7, z8, z9, z10, z11, rfl, sB⟩
      obtain ⟨x, hx⟩ : ∃ x, xs3[i]? = some x := ⟨_, List.getElem?_eq_getElem (by have := (List.getElem?_eq_some_iff.mp hi).1; omega)⟩
      obtain ⟨u', hu', hux⟩ := xD.get hx
      rw [hi] at hu'
      cases hu'
      have ox : Bk 200 10 300 8 x := oC x (List.mem_of_getElem? hx)
      have hTB := hTD.same sB
      refine ⟨_, rfl, ?_⟩
      refine tC_go ?_
      refine ⟨_, rfl, ?_⟩
      refine tnil_go ?_
      refine ⟨p, row, step, 20, 2, D0, N0, E0', u, x, 200, 10, 300, 8, rfl, lfD.tk (Tk.same sB), ok, by decide, hnil, C1, T0, hls, by decide, hux.same sB, ox, by decide, by decide, by decide, by decide, bl, hTB tAY (by simp), hTB tIW (by simp), fun HC sC => ?_⟩
      refine ⟨_, rfl, ?_⟩
      refine iteF ?_
      exact ⟨_, _, _, _, _, rfl, sB.trans sC⟩
    rintro σ HB ⟨z7, z8, z9, z10, z11, rfl, sB⟩
    have hTB := hTD.same sB
    have lfB := lfD.tk (K := K) (Tk.same sB)
    clear xD hTD lfD eLd oC hxl
    refine ⟨_, rfl, ?_⟩
    refine tC_go ?_
    refine ⟨_, _, rfl, rfl, _, rfl, ?_⟩
    refine ite2 (fun c0 => ?_) (fun c0 => ?_)
    · exact q _ hTB
    clear sB
    refine ⟨9, rfl, by decide, fun zr HC sC nzr hzr => ?_⟩
    refine ⟨_, rfl, _, rfl, ?_⟩
    refine noPart_go ?_
    refine ols_cut hzr fun r1 HD us sD hus hum hul => ?_
    have h256 := fw_256 one1 (n := 9) (by decide)
    have u1 : ∀ w ∈ us, ∀ x ∈ w, (1 : Int) ≤ x := fun w hw x hx => (((fw_mem one1).mp (hum w hw)).1 x hx).1
    have u2 : ∀ w ∈ us, w.sum ≤ 9 := fun w hw => by
      have := ((fw_mem one1).mp (hum w hw)).2
      omega
    have SD := sC.trans sD
    have hTD := hTB.same SD
    have lfD := lfB.tk (K := K) (Tk.same SD)
    clear hTB lfB sC sD SD hzr nzr
    refine ⟨by show 2 ≤ sizeLine; decide, fun tw ntw => ?_⟩
    have gtw := same_new (o := HO.tup [.int 200, .int 201]) ntw
    have etw : SqT K (upd HD tw (.tup [.int 200, .int 201])) tw [.int 200, .int 201] := SqT.of upd_same
    have husE := hus.same tat_stays gtw
    have hTE := hTD.same gtw
    have lfE := lfD.tk (K := K) (Tk.same gtw)
    generalize upd HD tw (.tup [.int 200, .int 201]) = HE at *
    clear hTD lfD hus gtw ntw
    refine ⟨tw, rfl, ⟨_, etw⟩, ?_⟩
    refine for_it (walk_tup (K := K) (a := tw) (xs := [.int 200, .int 201])) (fun i σ HF => ∃ (z11 : Option V), σ = [some (.ref a0), some (.ref d), some (.int wy), some (.int at0), some (.ref p), some (.ref ag), some (.ref Ld), z7, z8, z9, some (.ref r1), z11] ∧ Same HE HF) ⟨_, rfl, Same.refl _⟩ (fun i σ HF _ z => ?_) ?_ ?_
    · obtain ⟨_, _, sF⟩ := z
      exact sqT_same sF etw
    · rintro i v σ HF HF' hi ⟨z11, rfl, sF⟩ ⟨rfl, hv⟩
      obtain ⟨m, rfl⟩ : ∃ m : Int, v = .int m := by
        match i, hv with
        | 0, hv => exact ⟨_, (Option.some.inj hv).symm⟩
        | 1, hv => exact ⟨_, (Option.some.inj hv).symm⟩
      have askd : ∀ (beat : Nat) (HG : Hp) (v : V) (x y : PyData) (Q1 : VK), beat ≤ 20 → Same HE HG → DpX K HG v (.tuple [.tuple [.int 0, .int 1], .tuple [.int 1, .int 1], x, y]) → Bk 200 300 2560 2 x → Bk 200 300 2560 2 y → (∀ H', Same HG H' → Q1 (.bl true) H') → spAk K tAY tIW [.ref p, .int (beat : Int), v] HG Q1 E0 := fun beat HG v x y Q1 hb sG hd hx hy q1 => by
        have hTG := hTE.same sG
        exact ⟨p, row, step, 20, beat, D0, N0, E0', v, _, 200, 300, 6000, 3, rfl, lfE.tk (Tk.same sG), ok, by decide, hnil, C1, T0, hls, hb, hd, pap9_bk hx hy, by decide, by decide, by decide, by decide, bl, hTG tAY (by simp), hTG tIW (by simp), q1⟩
      have b0 : Bk 200 300 2560 2 (.tuple []) := (Bks.nil (k := 1)).tup (Nat.zero_le _) |>.mono (Nat.le_refl _) (Nat.le_refl _) (by decide) (Nat.le_refl _)
      have husF := husE.same tat_stays sF
      refine ⟨_, rfl, ?_⟩
      refine tC_go ?_
      refine ⟨by show 2 ≤ sizeLine; decide, fun v1 n1 => ?_⟩
      have g1 := same_new (o := HO.tup [.int 0, .int 1]) n1
      refine ⟨by show 2 ≤ sizeLine; decide, fun v2 n2 => ?_⟩
      have g2 := same_new (o := HO.tup [.int 1, .int 1]) n2
      have G2 := g1.trans g2
      have d1 : DpX K (upd (upd HF' v1 (.tup [.int 0, .int 1])) v2 (.tup [.int 1, .int 1])) (.ref v1) (.tuple [.int 0, .int 1]) := .tup (SqT.of (g2 _ _ upd_same)) (.cons (.int _) (.cons (.int _) .nil))
      have d2 : DpX K (upd (upd HF' v1 (.tup [.int 0, .int 1])) v2 (.tup [.int 1, .int 1])) (.ref v2) (.tuple [.int 1, .int 1]) := .tup (SqT.of upd_same) (.cons (.int _) (.cons (.int _) .nil))
      generalize upd (upd HF' v1 (.tup [.int 0, .int 1])) v2 (.tup [.int 1, .int 1]) = HG at *
      refine ⟨_, rfl, ?_⟩
      refine noPart_go ?_
      refine ⟨_, rfl, _, rfl, ?_⟩
      refine ols_cut (husF.same tat_stays G2) fun r2 HH us2 sH hus2 hum2 hul2 => ?_
      obtain ⟨rs2, y1, y2⟩ := hus2
      refine tnil_go ?_
      refine ⟨r2, _, rfl, .inl ⟨SqL.of y1, fun t3 nt3 => ?_⟩⟩
      have g3 := same_new (o := HO.tup (rs2.map V.ref)) nt3
      have d3 : DpX K (upd HH t3 (.tup (rs2.map V.ref))) (.ref t3) (.tuple (us2.map wD)) := WsAt.dx ⟨rs2, SqT.of upd_same, y2.tk tat_stays (Tk.same g3)⟩
      generalize upd HH t3 (.tup (rs2.map V.ref)) = HI at *
      refine ⟨by show 0 ≤ sizeLine; decide, fun v4 n4 => ?_⟩
      have g4 := same_new (o := HO.tup []) n4
      refine tnil_go ?_
      refine ⟨by show 4 ≤ sizeLine; decide, fun v5 n5 => ?_⟩
      have g5 := same_new (o := HO.tup [.ref v1, .ref v2, .ref t3, .ref v4]) n5
      have T5 := sH.trans (g3.trans (g4.trans g5))
      have b3 : Bk 200 300 2560 2 (.tuple (us2.map wD)) := wayT_bk9 (fun w hw => u1 w (hum2 w hw)) (fun w hw => u2 w (hum2 w hw)) (by omega)
      have dx1 : DpX K (upd (upd HI v4 (.tup [])) v5 (.tup [.ref v1, .ref v2, .ref t3, .ref v4])) (.ref v5) (.tuple [.tuple [.int 0, .int 1], .tuple [.int 1, .int 1], .tuple (us2.map wD), .tuple []]) :=
        .tup (SqT.of upd_same) (.cons (d1.same T5) (.cons (d2.same T5) (.cons (d3.same (g4.trans g5)) (.cons (.tup (SqT.of (g5 _ _ upd_same)) .nil) .nil))))
      have S5 := sF.trans (G2.trans T5)
      generalize upd (upd HI v4 (.tup [])) v5 (.tup [.ref v1, .ref v2, .ref t3, .ref v4]) = HJ at *
      refine tnil_go ?_
      refine askd 9 HJ _ _ _ _ (by decide) S5 dx1 b3 b0 fun HK sK => ?_
      have SK := S5.trans sK
      clear S5 sK dx1 T5 G2 d1 d2 d3 g1 g2 g3 g4 g5 n1 n2 nt3 n4 n5 sH y1 y2 husF
      refine ⟨_, rfl, ?_⟩
      refine iteF ?_
      have husK := husE.same tat_stays SK
      refine ⟨_, rfl, ?_⟩
      refine tC_go ?_
      refine ⟨by show 2 ≤ sizeLine; decide, fun v1 n1 => ?_⟩
      have g1 := same_new (o := HO.tup [.int 0, .int 1]) n1
      refine ⟨by show 2 ≤ sizeLine; decide, fun v2 n2 => ?_⟩
      have g2 := same_new (o := HO.tup [.int 1, .int 1]) n2
      refine ⟨by show 0 ≤ sizeLine; decide, fun v3 n3 => ?_⟩
      have g3 := same_new (o := HO.tup []) n3
      have G3 := g1.trans (g2.trans g3)
      have d1 : DpX K (upd (upd (upd HK v1 (.tup [.int 0, .int 1])) v2 (.tup [.int 1, .int 1])) v3 (.tup [])) (.ref v1) (.tuple [.int 0, .int 1]) := .tup (SqT.of ((g2.trans g3) _ _ upd_same)) (.cons (.int _) (.cons (.int _) .nil))
      have d2 : DpX K (upd (upd (upd HK v1 (.tup [.int 0, .int 1])) v2 (.tup [.int 1, .int 1])) v3 (.tup [])) (.ref v2) (.tuple [.int 1, .int 1]) := .tup (SqT.of (g3 _ _ upd_same)) (.cons (.int _) (.cons (.int _) .nil))
      have d3 : DpX K (upd (upd (upd HK v1 (.tup [.int 0, .int 1])) v2 (.tup [.int 1, .int 1])) v3 (.tup [])) (.ref v3) (.tuple []) := .tup (SqT.of upd_same) .nil
      generalize upd (upd (upd HK v1 (.tup [.int 0, .int 1])) v2 (.tup [.int 1, .int 1])) v3 (.tup []) = HL at *
      refine ⟨_, rfl, ?_⟩
      refine noPart_go ?_
      refine ⟨_, rfl, _, rfl, ?_⟩
      refine ols_cut (husK.same tat_stays G3) fun r3 HM us3 sM hus3 hum3 hul3 => ?_
      obtain ⟨rs3, y1, y2⟩ := hus3
      refine tnil_go ?_
      refine ⟨r3, _, rfl, .inl ⟨SqL.of y1, fun t4 nt4 => ?_⟩⟩
      have g4 := same_new (o := HO.tup (rs3.map V.ref)) nt4
      have d4 : DpX K (upd HM t4 (.tup (rs3.map V.ref))) (.ref t4) (.tuple (us3.map wD)) := WsAt.dx ⟨rs3, SqT.of upd_same, y2.tk tat_stays (Tk.same g4)⟩
      generalize upd HM t4 (.tup (rs3.map V.ref)) = HN at *
      refine tnil_go ?_
      refine ⟨by show 4 ≤ sizeLine; decide, fun v5 n5 => ?_⟩
      have g5 := same_new (o := HO.tup [.ref v1, .ref v2, .ref v3, .ref t4]) n5
      have T5 := sM.trans (g4.trans g5)
      have b4 : Bk 200 300 2560 2 (.tuple (us3.map wD)) := wayT_bk9 (fun w hw => u1 w (hum3 w hw)) (fun w hw => u2 w (hum3 w hw)) (by omega)
      have dx1 : DpX K (upd HN v5 (.tup [.ref v1, .ref v2, .ref v3, .ref t4])) (.ref v5) (.tuple [.tuple [.int 0, .int 1], .tuple [.int 1, .int 1], .tuple [], .tuple (us3.map wD)]) :=
        .tup (SqT.of upd_same) (.cons (d1.same T5) (.cons (d2.same T5) (.cons (d3.same T5) (.cons (d4.same g5) .nil))))
      have S5 := SK.trans (G3.trans T5)
      generalize upd HN v5 (.tup [.ref v1, .ref v2, .ref v3, .ref t4]) = HO2 at *
      refine tnil_go ?_
      refine askd 10 HO2 _ _ _ _ (by decide) S5 dx1 b0 b4 fun HP sP => ?_
      refine ⟨_, rfl, ?_⟩
      refine iteF ?_
      exact ⟨_, rfl, S5.trans sP⟩
    rintro σ HF ⟨z11, rfl, sF⟩
    exact q _ (hTE.same sF)
end

end Fp

set_option Elab.async false
set_option linter.all false
set_option maxRecDepth 100000
set_option maxHeartbeats 4000000
set_option exponentiation.threshold 10000
namespace Fp
open PySem PySem.Spec PyProof.Rows L2
theorem all_mk {l : PySem.W.OpenLaw} {w : World} {K : PySem.W.Frag} {h : Heap} {mg : Str → Option Value} {fa fWH fC fIR fR fM fT fIB fOB fAD fCT fLS fIW fWC fLWY fSHP fAY fFWR fHC fSC fE fD fL fSU fLT fLL fLF fAL fCH fOD fLW fLIR fPW fRE fLIW fWD fLWC fSB fTW fAK fRO fZ a_NOUGHT a_ONE : Addr} (X : K.In h) (G : h.Ns mainGlobals mg) (hfa : mg "law" = some (.ref fa))
    {odWH anWH : Option Addr} {slWH : Array (Option Value)} {ocWH kVWH dcWH pmWH cdWH ctWH : Value}
    {odC anC : Option Addr} {slC : Array (Option Value)} {ocC kVC dcC pmC cdC ctC : Value}
    {odIR anIR : Option Addr} {slIR : Array (Option Value)} {ocIR kVIR dcIR pmIR cdIR ctIR : Value}
    {odR anR : Option Addr} {slR : Array (Option Value)} {ocR kVR dcR pmR cdR ctR : Value}
    {odM anM : Option Addr} {slM : Array (Option Value)} {ocM kVM dcM pmM cdM ctM : Value}
    {odT anT : Option Addr} {slT : Array (Option Value)} {ocT kVT dcT pmT cdT ctT : Value}
    {odIB anIB : Option Addr} {slIB : Array (Option Value)} {ocIB kVIB dcIB pmIB cdIB ctIB : Value}
    {odOB anOB : Option Addr} {slOB : Array (Option Value)} {ocOB kVOB dcOB pmOB cdOB ctOB : Value}
    {odAD anAD : Option Addr} {slAD : Array (Option Value)} {ocAD kVAD dcAD pmAD cdAD ctAD : Value}
    {odCT anCT : Option Addr} {slCT : Array (Option Value)} {ocCT kVCT dcCT pmCT cdCT ctCT : Value}
    {odLS anLS : Option Addr} {slLS : Array (Option Value)} {ocLS kVLS dcLS pmLS cdLS ctLS : Value}
    {odIW anIW : Option Addr} {slIW : Array (Option Value)} {ocIW kVIW dcIW pmIW ctIW : Value}
    {odWC anWC : Option Addr} {slWC : Array (Option Value)} {ocWC kVWC dcWC pmWC cdWC ctWC : Value}
    {odLWY anLWY : Option Addr} {slLWY : Array (Option Value)} {ocLWY kVLWY dcLWY pmLWY cdLWY ctLWY : Value}
    {odSHP anSHP : Option Addr} {slSHP : Array (Option Value)} {ocSHP kVSHP dcSHP pmSHP cdSHP ctSHP : Value}
    {odAY anAY : Option Addr} {slAY : Array (Option Value)} {ocAY kVAY dcAY pmAY ctAY : Value}
    {odFWR anFWR : Option Addr} {slFWR : Array (Option Value)} {ocFWR kVFWR dcFWR pmFWR cdFWR ctFWR : Value}
    {odHC anHC : Option Addr} {slHC : Array (Option Value)} {ocHC kVHC dcHC pmHC cdHC ctHC : Value}
    {odSC anSC : Option Addr} {slSC : Array (Option Value)} {ocSC kVSC dcSC pmSC cdSC ctSC : Value}
    {odE anE : Option Addr} {slE : Array (Option Value)} {ocE kVE dcE pmE cdE ctE : Value}
    {odD anD : Option Addr} {slD : Array (Option Value)} {ocD kVD dcD pmD cdD ctD : Value}
    {odL anL : Option Addr} {slL : Array (Option Value)} {ocL kVL dcL pmL cdL ctL : Value}
    {odSU anSU : Option Addr} {slSU : Array (Option Value)} {ocSU kVSU dcSU pmSU cdSU ctSU : Value}
    {odLT anLT : Option Addr} {slLT : Array (Option Value)} {ocLT kVLT dcLT pmLT cdLT ctLT : Value}
    {odLL anLL : Option Addr} {slLL : Array (Option Value)} {ocLL kVLL dcLL pmLL cdLL ctLL : Value}
    {odLF anLF : Option Addr} {slLF : Array (Option Value)} {ocLF kVLF dcLF pmLF cdLF ctLF : Value}
    {odAL anAL : Option Addr} {slAL : Array (Option Value)} {ocAL kVAL dcAL pmAL cdAL ctAL : Value}
    {odCH anCH : Option Addr} {slCH : Array (Option Value)} {ocCH kVCH dcCH pmCH cdCH ctCH : Value}
    {odOD anOD : Option Addr} {slOD : Array (Option Value)} {ocOD kVOD dcOD pmOD cdOD ctOD : Value}
    {odLW anLW : Option Addr} {slLW : Array (Option Value)} {ocLW kVLW dcLW pmLW cdLW ctLW : Value}
    {odLIR anLIR : Option Addr} {slLIR : Array (Option Value)} {ocLIR kVLIR dcLIR pmLIR cdLIR ctLIR : Value}
    {odPW anPW : Option Addr} {slPW : Array (Option Value)} {ocPW kVPW dcPW pmPW cdPW ctPW : Value}
    {odRE anRE : Option Addr} {slRE : Array (Option Value)} {ocRE kVRE dcRE pmRE cdRE ctRE : Value}
    {odLIW anLIW : Option Addr} {slLIW : Array (Option Value)} {ocLIW kVLIW dcLIW pmLIW cdLIW ctLIW : Value}
    {odWD anWD : Option Addr} {slWD : Array (Option Value)} {ocWD kVWD dcWD pmWD cdWD ctWD : Value}
    {odLWC anLWC : Option Addr} {slLWC : Array (Option Value)} {ocLWC kVLWC dcLWC pmLWC cdLWC ctLWC : Value}
    {odSB anSB : Option Addr} {slSB : Array (Option Value)} {ocSB kVSB dcSB pmSB cdSB ctSB : Value}
    {odTW anTW : Option Addr} {slTW : Array (Option Value)} {ocTW kVTW dcTW pmTW cdTW ctTW : Value}
    {odAK anAK : Option Addr} {slAK : Array (Option Value)} {ocAK kVAK dcAK pmAK cdAK ctAK : Value}
    {odRO anRO : Option Addr} {slRO : Array (Option Value)} {ocRO kVRO dcRO pmRO cdRO ctRO : Value}
    {odZ anZ : Option Addr} {slZ : Array (Option Value)} {ocZ kVZ dcZ pmZ cdZ ctZ : Value}
    {od_NOUGHT : Option Addr} {n_NOUGHTx : Nat} {sl_NOUGHT : Array (Option Value)} {t0_NOUGHT t1_NOUGHT : Tok}
    {od_ONE : Option Addr} {n_ONEx : Nat} {sl_ONE : Array (Option Value)} {t0_ONE t1_ONE : Tok}
    {q : Program}
    (aWH : PySem.W.nsIn K mainGlobals "is_whole" = some (some (.ref fWH))) (lWH : K.lookup fWH = some ⟨ocWH, odWH, .func (PySem.W.fnOf "is_whole" "is_whole" (defArgs s_wh) (defBody s_wh) (defScope s_wh) .none kVWH dcWH pmWH anWH cdWH ctWH), slWH⟩) (cWH : PySem.W.codeIn K cdWH "is_whole" = true) (kWH : PySem.W.keepIn K (.ref fWH) = true)
    (aC : PySem.W.nsIn K mainGlobals "common_divisor" = some (some (.ref fC))) (lC : K.lookup fC = some ⟨ocC, odC, .func (PySem.W.fnOf "common_divisor" "common_divisor" (defArgs s_cd) (defBody s_cd) (defScope s_cd) .none kVC dcC pmC anC cdC ctC), slC⟩) (cC : PySem.W.codeIn K cdC "common_divisor" = true) (kC : PySem.W.keepIn K (.ref fC) = true)
    (aIR : PySem.W.nsIn K mainGlobals "is_ratio" = some (some (.ref fIR))) (lIR : K.lookup fIR = some ⟨ocIR, odIR, .func (PySem.W.fnOf "is_ratio" "is_ratio" (defArgs s_ir) (defBody s_ir) (defScope s_ir) .none kVIR dcIR pmIR anIR cdIR ctIR), slIR⟩) (cIR : PySem.W.codeIn K cdIR "is_ratio" = true) (kIR : PySem.W.keepIn K (.ref fIR) = true)
    (aR : PySem.W.nsIn K mainGlobals "ratio" = some (some (.ref fR))) (lR : K.lookup fR = some ⟨ocR, odR, .func (PySem.W.fnOf "ratio" "ratio" (defArgs s_ratio) (defBody s_ratio) (defScope s_ratio) .none kVR dcR pmR anR cdR ctR), slR⟩) (cR : PySem.W.codeIn K cdR "ratio" = true) (kR : PySem.W.keepIn K (.ref fR) = true)
    (aM : PySem.W.nsIn K mainGlobals "minus" = some (some (.ref fM))) (lM : K.lookup fM = some ⟨ocM, odM, .func (PySem.W.fnOf "minus" "minus" (defArgs s_minus) (defBody s_minus) (defScope s_minus) .none kVM dcM pmM anM cdM ctM), slM⟩) (cM : PySem.W.codeIn K cdM "minus" = true) (kM : PySem.W.keepIn K (.ref fM) = true)
    (aT : PySem.W.nsIn K mainGlobals "times" = some (some (.ref fT))) (lT : K.lookup fT = some ⟨ocT, odT, .func (PySem.W.fnOf "times" "times" (defArgs s_times) (defBody s_times) (defScope s_times) .none kVT dcT pmT anT cdT ctT), slT⟩) (cT : PySem.W.codeIn K cdT "times" = true) (kT : PySem.W.keepIn K (.ref fT) = true)
    (aIB : PySem.W.nsIn K mainGlobals "is_below" = some (some (.ref fIB))) (lIB : K.lookup fIB = some ⟨ocIB, odIB, .func (PySem.W.fnOf "is_below" "is_below" (defArgs s_ib) (defBody s_ib) (defScope s_ib) .none kVIB dcIB pmIB anIB cdIB ctIB), slIB⟩) (cIB : PySem.W.codeIn K cdIB "is_below" = true) (kIB : PySem.W.keepIn K (.ref fIB) = true)
    (aOB : PySem.W.nsIn K mainGlobals "on_one_bottom" = some (some (.ref fOB))) (lOB : K.lookup fOB = some ⟨ocOB, odOB, .func (PySem.W.fnOf "on_one_bottom" "on_one_bottom" (defArgs s_oob) (defBody s_oob) (defScope s_oob) .none kVOB dcOB pmOB anOB cdOB ctOB), slOB⟩) (cOB : PySem.W.codeIn K cdOB "on_one_bottom" = true) (kOB : PySem.W.keepIn K (.ref fOB) = true)
    (aAD : PySem.W.nsIn K mainGlobals "added" = some (some (.ref fAD))) (lAD : K.lookup fAD = some ⟨ocAD, odAD, .func (PySem.W.fnOf "added" "added" (defArgs s_added) (defBody s_added) (defScope s_added) .none kVAD dcAD pmAD anAD cdAD ctAD), slAD⟩) (cAD : PySem.W.codeIn K cdAD "added" = true) (kAD : PySem.W.keepIn K (.ref fAD) = true)
    (aCT : PySem.W.nsIn K mainGlobals "chances_to" = some (some (.ref fCT))) (lCT : K.lookup fCT = some ⟨ocCT, odCT, .func (PySem.W.fnOf "chances_to" "chances_to" (defArgs s_chto) (defBody s_chto) (defScope s_chto) .none kVCT dcCT pmCT anCT cdCT ctCT), slCT⟩) (cCT : PySem.W.codeIn K cdCT "chances_to" = true) (kCT : PySem.W.keepIn K (.ref fCT) = true)
    (aLS : PySem.W.nsIn K mainGlobals "lastings_to" = some (some (.ref fLS))) (lLS : K.lookup fLS = some ⟨ocLS, odLS, .func (PySem.W.fnOf "lastings_to" "lastings_to" (defArgs s_ls) (defBody s_ls) (defScope s_ls) .none kVLS dcLS pmLS anLS cdLS ctLS), slLS⟩) (cLS : PySem.W.codeIn K cdLS "lastings_to" = true) (kLS : PySem.W.keepIn K (.ref fLS) = true)
    {ccIW tIW : Addr} {vsIW : Array Value} {wsIW : List Value} {xoIW : Value} {xdIW : Option Addr} {xsIW : Array (Option Value)}
    (aIW : PySem.W.nsIn K mainGlobals "is_way" = some (some (.ref fIW))) (lIW : K.lookup fIW = some ⟨ocIW, odIW, .func (PySem.W.fnOf "is_way" "is_way" (defArgs s_iw) (defBody s_iw) (defScope s_iw) .none kVIW dcIW pmIW anIW (.ref ccIW) ctIW), slIW⟩) (cIW : PySem.W.codeIn K (.ref ccIW) "is_way" = true) (kIW : PySem.W.keepIn K (.ref fIW) = true)
    (xIW : K.lookup ccIW = some ⟨xoIW, xdIW, .fields vsIW, xsIW⟩) (vIW : vsIW.toList.drop 11 = .ref tIW :: wsIW) (oIW : K.lookup tIW = none) (rIW : ((recsOf q).any fun d => d.name == "is_way") = true)
    (aWC : PySem.W.nsIn K mainGlobals "way_chance" = some (some (.ref fWC))) (lWC : K.lookup fWC = some ⟨ocWC, odWC, .func (PySem.W.fnOf "way_chance" "way_chance" (defArgs s_wc) (defBody s_wc) (defScope s_wc) .none kVWC dcWC pmWC anWC cdWC ctWC), slWC⟩) (cWC : PySem.W.codeIn K cdWC "way_chance" = true) (kWC : PySem.W.keepIn K (.ref fWC) = true)
    (aLWY : PySem.W.nsIn K mainGlobals "lets_ways" = some (some (.ref fLWY))) (lLWY : K.lookup fLWY = some ⟨ocLWY, odLWY, .func (PySem.W.fnOf "lets_ways" "lets_ways" (defArgs s_lwy) (defBody s_lwy) (defScope s_lwy) .none kVLWY dcLWY pmLWY anLWY cdLWY ctLWY), slLWY⟩) (cLWY : PySem.W.codeIn K cdLWY "lets_ways" = true) (kLWY : PySem.W.keepIn K (.ref fLWY) = true)
    (aSHP : PySem.W.nsIn K mainGlobals "is_shaped" = some (some (.ref fSHP))) (lSHP : K.lookup fSHP = some ⟨ocSHP, odSHP, .func (PySem.W.fnOf "is_shaped" "is_shaped" (defArgs s_shp) (defBody s_shp) (defScope s_shp) .none kVSHP dcSHP pmSHP anSHP cdSHP ctSHP), slSHP⟩) (cSHP : PySem.W.codeIn K cdSHP "is_shaped" = true) (kSHP : PySem.W.keepIn K (.ref fSHP) = true)
    {ccAY tAY : Addr} {vsAY : Array Value} {wsAY : List Value} {xoAY : Value} {xdAY : Option Addr} {xsAY : Array (Option Value)}
    (aAY : PySem.W.nsIn K mainGlobals "are_ways" = some (some (.ref fAY))) (lAY : K.lookup fAY = some ⟨ocAY, odAY, .func (PySem.W.fnOf "are_ways" "are_ways" (defArgs s_ay) (defBody s_ay) (defScope s_ay) .none kVAY dcAY pmAY anAY (.ref ccAY) ctAY), slAY⟩) (cAY : PySem.W.codeIn K (.ref ccAY) "are_ways" = true) (kAY : PySem.W.keepIn K (.ref fAY) = true)
    (xAY : K.lookup ccAY = some ⟨xoAY, xdAY, .fields vsAY, xsAY⟩) (vAY : vsAY.toList.drop 11 = .ref tAY :: wsAY) (oAY : K.lookup tAY = none) (rAY : ((recsOf q).any fun d => d.name == "are_ways") = true)
    (aFWR : PySem.W.nsIn K mainGlobals "first_wrong" = some (some (.ref fFWR))) (lFWR : K.lookup fFWR = some ⟨ocFWR, odFWR, .func (PySem.W.fnOf "first_wrong" "first_wrong" (defArgs s_fwr) (defBody s_fwr) (defScope s_fwr) .none kVFWR dcFWR pmFWR anFWR cdFWR ctFWR), slFWR⟩) (cFWR : PySem.W.codeIn K cdFWR "first_wrong" = true) (kFWR : PySem.W.keepIn K (.ref fFWR) = true)
    (aHC : PySem.W.nsIn K mainGlobals "hit_chance" = some (some (.ref fHC))) (lHC : K.lookup fHC = some ⟨ocHC, odHC, .func (PySem.W.fnOf "hit_chance" "hit_chance" (defArgs s_hc) (defBody s_hc) (defScope s_hc) .none kVHC dcHC pmHC anHC cdHC ctHC), slHC⟩) (cHC : PySem.W.codeIn K cdHC "hit_chance" = true) (kHC : PySem.W.keepIn K (.ref fHC) = true)
    (aSC : PySem.W.nsIn K mainGlobals "stand_chance" = some (some (.ref fSC))) (lSC : K.lookup fSC = some ⟨ocSC, odSC, .func (PySem.W.fnOf "stand_chance" "stand_chance" (defArgs s_sc) (defBody s_sc) (defScope s_sc) .none kVSC dcSC pmSC anSC cdSC ctSC), slSC⟩) (cSC : PySem.W.codeIn K cdSC "stand_chance" = true) (kSC : PySem.W.keepIn K (.ref fSC) = true)
    (aE : PySem.W.nsIn K mainGlobals "_law_feed" = some (some (.ref fE))) (lE : K.lookup fE = some ⟨ocE, odE, .func (PySem.W.fnOf "_law_feed" "_law_feed" (defArgs s_feed) (defBody s_feed) (defScope s_feed) .none kVE dcE pmE anE cdE ctE), slE⟩) (cE : PySem.W.codeIn K cdE "_law_feed" = true) (kE : PySem.W.keepIn K (.ref fE) = true)
    (aD : PySem.W.nsIn K mainGlobals "_law_draw" = some (some (.ref fD))) (lD : K.lookup fD = some ⟨ocD, odD, .func (PySem.W.fnOf "_law_draw" "_law_draw" (defArgs s_draw) (defBody s_draw) (defScope s_draw) .none kVD dcD pmD anD cdD ctD), slD⟩) (cD : PySem.W.codeIn K cdD "_law_draw" = true) (kD : PySem.W.keepIn K (.ref fD) = true)
    (aL : PySem.W.nsIn K mainGlobals "_law_low" = some (some (.ref fL))) (lL : K.lookup fL = some ⟨ocL, odL, .func (PySem.W.fnOf "_law_low" "_law_low" (defArgs s_low) (defBody s_low) (defScope s_low) .none kVL dcL pmL anL cdL ctL), slL⟩) (cL : PySem.W.codeIn K cdL "_law_low" = true) (kL : PySem.W.keepIn K (.ref fL) = true)
    (aSU : PySem.W.nsIn K mainGlobals "_law_sum" = some (some (.ref fSU))) (lSU : K.lookup fSU = some ⟨ocSU, odSU, .func (PySem.W.fnOf "_law_sum" "_law_sum" (defArgs s_lsum) (defBody s_lsum) (defScope s_lsum) .none kVSU dcSU pmSU anSU cdSU ctSU), slSU⟩) (cSU : PySem.W.codeIn K cdSU "_law_sum" = true) (kSU : PySem.W.keepIn K (.ref fSU) = true)
    (aLT : PySem.W.nsIn K mainGlobals "_law_times" = some (some (.ref fLT))) (lLT : K.lookup fLT = some ⟨ocLT, odLT, .func (PySem.W.fnOf "_law_times" "_law_times" (defArgs s_ltimes) (defBody s_ltimes) (defScope s_ltimes) .none kVLT dcLT pmLT anLT cdLT ctLT), slLT⟩) (cLT : PySem.W.codeIn K cdLT "_law_times" = true) (kLT : PySem.W.keepIn K (.ref fLT) = true)
    (aLL : PySem.W.nsIn K mainGlobals "_law_less" = some (some (.ref fLL))) (lLL : K.lookup fLL = some ⟨ocLL, odLL, .func (PySem.W.fnOf "_law_less" "_law_less" (defArgs s_lless) (defBody s_lless) (defScope s_lless) .none kVLL dcLL pmLL anLL cdLL ctLL), slLL⟩) (cLL : PySem.W.codeIn K cdLL "_law_less" = true) (kLL : PySem.W.keepIn K (.ref fLL) = true)
    (aLF : PySem.W.nsIn K mainGlobals "_law_life" = some (some (.ref fLF))) (lLF : K.lookup fLF = some ⟨ocLF, odLF, .func (PySem.W.fnOf "_law_life" "_law_life" (defArgs s_life) (defBody s_life) (defScope s_life) .none kVLF dcLF pmLF anLF cdLF ctLF), slLF⟩) (cLF : PySem.W.codeIn K cdLF "_law_life" = true) (kLF : PySem.W.keepIn K (.ref fLF) = true)
    (aAL : PySem.W.nsIn K mainGlobals "_law_any_life" = some (some (.ref fAL))) (lAL : K.lookup fAL = some ⟨ocAL, odAL, .func (PySem.W.fnOf "_law_any_life" "_law_any_life" (defArgs s_any) (defBody s_any) (defScope s_any) .none kVAL dcAL pmAL anAL cdAL ctAL), slAL⟩) (cAL : PySem.W.codeIn K cdAL "_law_any_life" = true) (kAL : PySem.W.keepIn K (.ref fAL) = true)
    (aCH : PySem.W.nsIn K mainGlobals "_law_chance" = some (some (.ref fCH))) (lCH : K.lookup fCH = some ⟨ocCH, odCH, .func (PySem.W.fnOf "_law_chance" "_law_chance" (defArgs s_lchance) (defBody s_lchance) (defScope s_lchance) .none kVCH dcCH pmCH anCH cdCH ctCH), slCH⟩) (cCH : PySem.W.codeIn K cdCH "_law_chance" = true) (kCH : PySem.W.keepIn K (.ref fCH) = true)
    (aOD : PySem.W.nsIn K mainGlobals "_law_odd" = some (some (.ref fOD))) (lOD : K.lookup fOD = some ⟨ocOD, odOD, .func (PySem.W.fnOf "_law_odd" "_law_odd" (defArgs s_odd) (defBody s_odd) (defScope s_odd) .none kVOD dcOD pmOD anOD cdOD ctOD), slOD⟩) (cOD : PySem.W.codeIn K cdOD "_law_odd" = true) (kOD : PySem.W.keepIn K (.ref fOD) = true)
    (aLW : PySem.W.nsIn K mainGlobals "_law_is_whole" = some (some (.ref fLW))) (lLW : K.lookup fLW = some ⟨ocLW, odLW, .func (PySem.W.fnOf "_law_is_whole" "_law_is_whole" (defArgs s_lwh) (defBody s_lwh) (defScope s_lwh) .none kVLW dcLW pmLW anLW cdLW ctLW), slLW⟩) (cLW : PySem.W.codeIn K cdLW "_law_is_whole" = true) (kLW : PySem.W.keepIn K (.ref fLW) = true)
    (aLIR : PySem.W.nsIn K mainGlobals "_law_is_ratio" = some (some (.ref fLIR))) (lLIR : K.lookup fLIR = some ⟨ocLIR, odLIR, .func (PySem.W.fnOf "_law_is_ratio" "_law_is_ratio" (defArgs s_lir) (defBody s_lir) (defScope s_lir) .none kVLIR dcLIR pmLIR anLIR cdLIR ctLIR), slLIR⟩) (cLIR : PySem.W.codeIn K cdLIR "_law_is_ratio" = true) (kLIR : PySem.W.keepIn K (.ref fLIR) = true)
    (aPW : PySem.W.nsIn K mainGlobals "_law_power" = some (some (.ref fPW))) (lPW : K.lookup fPW = some ⟨ocPW, odPW, .func (PySem.W.fnOf "_law_power" "_law_power" (defArgs s_lpower) (defBody s_lpower) (defScope s_lpower) .none kVPW dcPW pmPW anPW cdPW ctPW), slPW⟩) (cPW : PySem.W.codeIn K cdPW "_law_power" = true) (kPW : PySem.W.keepIn K (.ref fPW) = true)
    (aRE : PySem.W.nsIn K mainGlobals "_law_rest" = some (some (.ref fRE))) (lRE : K.lookup fRE = some ⟨ocRE, odRE, .func (PySem.W.fnOf "_law_rest" "_law_rest" (defArgs s_lrest) (defBody s_lrest) (defScope s_lrest) .none kVRE dcRE pmRE anRE cdRE ctRE), slRE⟩) (cRE : PySem.W.codeIn K cdRE "_law_rest" = true) (kRE : PySem.W.keepIn K (.ref fRE) = true)
    (aLIW : PySem.W.nsIn K mainGlobals "_law_is_way" = some (some (.ref fLIW))) (lLIW : K.lookup fLIW = some ⟨ocLIW, odLIW, .func (PySem.W.fnOf "_law_is_way" "_law_is_way" (defArgs s_liw) (defBody s_liw) (defScope s_liw) .none kVLIW dcLIW pmLIW anLIW cdLIW ctLIW), slLIW⟩) (cLIW : PySem.W.codeIn K cdLIW "_law_is_way" = true) (kLIW : PySem.W.keepIn K (.ref fLIW) = true)
    (aWD : PySem.W.nsIn K mainGlobals "_law_ways_due" = some (some (.ref fWD))) (lWD : K.lookup fWD = some ⟨ocWD, odWD, .func (PySem.W.fnOf "_law_ways_due" "_law_ways_due" (defArgs s_wd) (defBody s_wd) (defScope s_wd) .none kVWD dcWD pmWD anWD cdWD ctWD), slWD⟩) (cWD : PySem.W.codeIn K cdWD "_law_ways_due" = true) (kWD : PySem.W.keepIn K (.ref fWD) = true)
    (aLWC : PySem.W.nsIn K mainGlobals "_law_way_chance" = some (some (.ref fLWC))) (lLWC : K.lookup fLWC = some ⟨ocLWC, odLWC, .func (PySem.W.fnOf "_law_way_chance" "_law_way_chance" (defArgs s_lwc) (defBody s_lwc) (defScope s_lwc) .none kVLWC dcLWC pmLWC anLWC cdLWC ctLWC), slLWC⟩) (cLWC : PySem.W.codeIn K cdLWC "_law_way_chance" = true) (kLWC : PySem.W.keepIn K (.ref fLWC) = true)
    (aSB : PySem.W.nsIn K mainGlobals "_law_stands_by" = some (some (.ref fSB))) (lSB : K.lookup fSB = some ⟨ocSB, odSB, .func (PySem.W.fnOf "_law_stands_by" "_law_stands_by" (defArgs s_sb) (defBody s_sb) (defScope s_sb) .none kVSB dcSB pmSB anSB cdSB ctSB), slSB⟩) (cSB : PySem.W.codeIn K cdSB "_law_stands_by" = true) (kSB : PySem.W.keepIn K (.ref fSB) = true)
    (aTW : PySem.W.nsIn K mainGlobals "_law_told_ways" = some (some (.ref fTW))) (lTW : K.lookup fTW = some ⟨ocTW, odTW, .func (PySem.W.fnOf "_law_told_ways" "_law_told_ways" (defArgs s_tw) (defBody s_tw) (defScope s_tw) .none kVTW dcTW pmTW anTW cdTW ctTW), slTW⟩) (cTW : PySem.W.codeIn K cdTW "_law_told_ways" = true) (kTW : PySem.W.keepIn K (.ref fTW) = true)
    (aAK : PySem.W.nsIn K mainGlobals "_law_asked" = some (some (.ref fAK))) (lAK : K.lookup fAK = some ⟨ocAK, odAK, .func (PySem.W.fnOf "_law_asked" "_law_asked" (defArgs s_ak) (defBody s_ak) (defScope s_ak) .none kVAK dcAK pmAK anAK cdAK ctAK), slAK⟩) (cAK : PySem.W.codeIn K cdAK "_law_asked" = true) (kAK : PySem.W.keepIn K (.ref fAK) = true)
    (aRO : PySem.W.nsIn K mainGlobals "_law_rows" = some (some (.ref fRO))) (lRO : K.lookup fRO = some ⟨ocRO, odRO, .func (PySem.W.fnOf "_law_rows" "_law_rows" (defArgs s_rows) (defBody s_rows) (defScope s_rows) .none kVRO dcRO pmRO anRO cdRO ctRO), slRO⟩) (cRO : PySem.W.codeIn K cdRO "_law_rows" = true) (kRO : PySem.W.keepIn K (.ref fRO) = true)
    (aZ : PySem.W.nsIn K mainGlobals "law" = some (some (.ref fZ))) (lZ : K.lookup fZ = some ⟨ocZ, odZ, .func (PySem.W.fnOf "law" "law" (defArgs s_law) (defBody s_law) (defScope s_law) .none kVZ dcZ pmZ anZ cdZ ctZ), slZ⟩) (cZ : PySem.W.codeIn K cdZ "law" = true) (kZ : PySem.W.keepIn K (.ref fZ) = true)
    (g_NOUGHT : PySem.W.nsIn K mainGlobals "NOUGHT" = some (some (.ref a_NOUGHT))) (l_NOUGHT : K.lookup a_NOUGHT = some ⟨.type "tuple", od_NOUGHT, .seq #[.int 0 t0_NOUGHT, .int 1 t1_NOUGHT] n_NOUGHTx, sl_NOUGHT⟩)
    (g_ONE : PySem.W.nsIn K mainGlobals "ONE" = some (some (.ref a_ONE))) (l_ONE : K.lookup a_ONE = some ⟨.type "tuple", od_ONE, .seq #[.int 1 t0_ONE, .int 1 t1_ONE] n_ONEx, sl_ONE⟩)
    (z_ValueError : PySem.W.nsIn K mainGlobals "ValueError" = some none)
    (z_abs : PySem.W.nsIn K mainGlobals "abs" = some none)
    (z_all : PySem.W.nsIn K mainGlobals "all" = some none)
    (z_bool : PySem.W.nsIn K mainGlobals "bool" = some none)
    (z_enumerate : PySem.W.nsIn K mainGlobals "enumerate" = some none)
    (z_int : PySem.W.nsIn K mainGlobals "int" = some none)
    (z_isinstance : PySem.W.nsIn K mainGlobals "isinstance" = some none)
    (z_len : PySem.W.nsIn K mainGlobals "len" = some none)
    (z_list : PySem.W.nsIn K mainGlobals "list" = some none)
    (z_max : PySem.W.nsIn K mainGlobals "max" = some none)
    (z_range : PySem.W.nsIn K mainGlobals "range" = some none)
    (z_repr : PySem.W.nsIn K mainGlobals "repr" = some none)
    (z_sum : PySem.W.nsIn K mainGlobals "sum" = some none)
    (z_tuple : PySem.W.nsIn K mainGlobals "tuple" = some none)
    {t_MOST_WAYS : Tok} (q_MOST_WAYS : PySem.W.nsIn K mainGlobals "MOST_WAYS" = some (some (.int 200 t_MOST_WAYS)))
    {C_F C_N C_A C_B C_P C_T C_X C_L C_M C_R : Addr}
    {i_F : Addr} {od_F an_F : Option Addr} {sl_F : Array (Option Value)} {oc_F kV_F dc_F pm_F cd_F ct_F : Value}
    {i_P : Addr} {od_P an_P : Option Addr} {sl_P : Array (Option Value)} {oc_P kV_P dc_P pm_P cd_P ct_P : Value}
    {nm_P q_P : Str} {NN_P : Addr} {bs_P : List Value} {sn_P : List Str} {sub_P : List Value} {ab_P : Bool} {col_P : Option Bool} {dd_P : Option Addr} {m0_P m1_P m2_P m3_P m5_P : Option Value}
    (g_F : PySem.W.nsIn K mainGlobals "FreshError" = some (some (.ref C_F)))
    (g_N : PySem.W.nsIn K mainGlobals "NoRatio" = some (some (.ref C_N)))
    (g_A : PySem.W.nsIn K mainGlobals "NoAge" = some (some (.ref C_A)))
    (g_B : PySem.W.nsIn K mainGlobals "NoBeat" = some (some (.ref C_B)))
    (g_P : PySem.W.nsIn K mainGlobals "NoPaper" = some (some (.ref C_P)))
    (g_T : PySem.W.nsIn K mainGlobals "TooMany" = some (some (.ref C_T)))
    (g_X : PySem.W.nsIn K mainGlobals "NoText" = some (some (.ref C_X)))
    (g_L : PySem.W.nsIn K mainGlobals "NoLines" = some (some (.ref C_L)))
    (g_M : PySem.W.nsIn K mainGlobals "NoName" = some (some (.ref C_M)))
    (g_R : PySem.W.nsIn K mainGlobals "NoRow" = some (some (.ref C_R)))
    (iF : PySem.W.findIn K (.ref C_F) "__init__" = some (some (.ref i_F))) (lF_ : K.lookup i_F = some ⟨oc_F, od_F, .func (PySem.W.fnOf "__init__" "FreshError.__init__" (defArgs s_iF) (defBody s_iF) (defScope s_iF) .none kV_F dc_F pm_F an_F cd_F ct_F), sl_F⟩) (cF_ : PySem.W.codeIn K cd_F "FreshError.__init__" = true) (kF_ : PySem.W.keepIn K (.ref i_F) = true)
    (rdF : PySem.W.readsIn K C_F (.type "type") = true) (fcF : PySem.W.findCls K (.ref C_F) (.type "type") "__init__" = some (.val (.ref i_F))) (spF : PySem.W.specialIn K (.ref C_F) "__getattribute__" = some (some (.builtin "type.__getattribute__")))
    (vV : PySem.W.findCls K (.type "ValueError") (.type "type") "__init__" = some (.val (.builtin "ValueError.__init__")))
    (EXP : errB K C_P = true)
    (iP : PySem.W.findIn K (.ref C_P) "__init__" = some (some (.ref i_P))) (lP_ : K.lookup i_P = some ⟨oc_P, od_P, .func (PySem.W.fnOf "__init__" "NoPaper.__init__" (defArgs s_iP) (defBody s_iP) (defScope s_iP) .none kV_P dc_P pm_P an_P cd_P ct_P), sl_P⟩) (cP_ : PySem.W.codeIn K cd_P "NoPaper.__init__" = true) (kP_ : PySem.W.keepIn K (.ref i_P) = true)
    (tP : PySem.W.typeIn K (.ref i_P) = some (.type "function")) (xP : K.lookup C_P = some (excClassObj nm_P q_P C_P NN_P bs_P [.ref C_F, .type "ValueError", .type "Exception", .type "BaseException", .type "object"] true sn_P sub_P ab_P col_P dd_P m0_P m1_P m2_P m3_P m5_P "ValueError.__new__"))
    (EKP : kitsB K C_P (ktsP ⟨C_F, C_N, C_A, C_B, C_P, C_T, C_X, C_L, C_M, C_R⟩) = true)
    (EMP : PySem.W.exmOne K (.ref C_P) (.ref C_F) = some true)
    (ENPplace : PySem.W.findIn K (.ref C_P) "place" = some none)
    (ENPword : PySem.W.findIn K (.ref C_P) "word" = some none)
    : ∃ (fd : FuncData) (cs : List (Addr × Addr)) (sp : Sp), (∀ p ∈ cs, TabAt K q mg p.1 p.2) ∧ (∀ (s : Shared) (v : Value), BindsTo s fd ⟨[v], []⟩ [("_law_script", v)]) ∧
      (∀ (H : Hp) (a : Addr) (ns : List Int), ns.length ≤ 63 → (∀ p ∈ cs, H p.2 = some (tabx p.2)) → SqL K H a (ns.map V.int) → sp [.ref a] H (fun v H2 => v = .bl true ∧ ∀ p ∈ cs, H2 p.2 = some (tabx p.2)) fun _ _ _ => False) ∧
        ∀ base : Heap, K.In base → base.Ns mainGlobals mg → SysB base → (∀ p ∈ cs, GxR.TabB base mg p.1 p.2) → FnG l.prog w K mg base CX0 11 fa fd ["_law_script"] sp := by
  have e := hfa.symm.trans (PySem.W.mg_of X G aZ)
  cases e
  have FWH := fun_mk (st := s_wh) lWH cWH kWH
  have bWH := FWH.binds (ps := ["thing"]) fun _ _ _ _ _ _ us hl => match us, hl with | [_], _ => rfl
  have gWH := PySem.W.mg_of X G aWH
  have FC := fun_mk (st := s_cd) lC cC kC
  have bC := FC.binds (ps := ["one", "other"]) fun _ _ _ _ _ _ us hl => match us, hl with | [_, _], _ => rfl
  have gC := PySem.W.mg_of X G aC
  have FIR := fun_mk (st := s_ir) lIR cIR kIR
  have bIR := FIR.binds (ps := ["thing"]) fun _ _ _ _ _ _ us hl => match us, hl with | [_], _ => rfl
  have gIR := PySem.W.mg_of X G aIR
  have FR := fun_mk (st := s_ratio) lR cR kR
  have bR := FR.binds (ps := ["top", "bottom"]) fun _ _ _ _ _ _ us hl => match us, hl with | [_, _], _ => rfl
  have gR := PySem.W.mg_of X G aR
  have FM := fun_mk (st := s_minus) lM cM kM
  have bM := FM.binds (ps := ["one", "other"]) fun _ _ _ _ _ _ us hl => match us, hl with | [_, _], _ => rfl
  have gM := PySem.W.mg_of X G aM
  have FT := fun_mk (st := s_times) lT cT kT
  have bT := FT.binds (ps := ["one", "other"]) fun _ _ _ _ _ _ us hl => match us, hl with | [_, _], _ => rfl
  have gT := PySem.W.mg_of X G aT
  have FIB := fun_mk (st := s_ib) lIB cIB kIB
  have bIB := FIB.binds (ps := ["one", "other"]) fun _ _ _ _ _ _ us hl => match us, hl with | [_, _], _ => rfl
  have gIB := PySem.W.mg_of X G aIB
  have FOB := fun_mk (st := s_oob) lOB cOB kOB
  have bOB := FOB.binds (ps := ["told"]) fun _ _ _ _ _ _ us hl => match us, hl with | [_], _ => rfl
  have gOB := PySem.W.mg_of X G aOB
  have FAD := fun_mk (st := s_added) lAD cAD kAD
  have bAD := FAD.binds (ps := ["told"]) fun _ _ _ _ _ _ us hl => match us, hl with | [_], _ => rfl
  have gAD := PySem.W.mg_of X G aAD
  have FCT := fun_mk (st := s_chto) lCT cCT kCT
  have bCT := FCT.binds (ps := ["life", "most"]) fun _ _ _ _ _ _ us hl => match us, hl with | [_, _], _ => rfl
  have gCT := PySem.W.mg_of X G aCT
  have FLS := fun_mk (st := s_ls) lLS cLS kLS
  have bLS := FLS.binds (ps := ["life", "most"]) fun _ _ _ _ _ _ us hl => match us, hl with | [_, _], _ => rfl
  have gLS := PySem.W.mg_of X G aLS
  have HIW := funC_mk (st := s_iw) lIW cIW kIW
  have FIW := HIW.fun
  have bIW := FIW.binds (ps := ["thing"]) fun _ _ _ _ _ _ us hl => match us, hl with | [_], _ => rfl
  have gIW := PySem.W.mg_of X G aIW
  have FWC := fun_mk (st := s_wc) lWC cWC kWC
  have bWC := FWC.binds (ps := ["life", "way"]) fun _ _ _ _ _ _ us hl => match us, hl with | [_, _], _ => rfl
  have gWC := PySem.W.mg_of X G aWC
  have FLWY := fun_mk (st := s_lwy) lLWY cLWY kLWY
  have bLWY := FLWY.binds (ps := ["life", "beat", "thing"]) fun _ _ _ _ _ _ us hl => match us, hl with | [_, _, _], _ => rfl
  have gLWY := PySem.W.mg_of X G aLWY
  have FSHP := fun_mk (st := s_shp) lSHP cSHP kSHP
  have bSHP := FSHP.binds (ps := ["thing"]) fun _ _ _ _ _ _ us hl => match us, hl with | [_], _ => rfl
  have gSHP := PySem.W.mg_of X G aSHP
  have HAY := funC_mk (st := s_ay) lAY cAY kAY
  have FAY := HAY.fun
  have bAY := FAY.binds (ps := ["thing"]) fun _ _ _ _ _ _ us hl => match us, hl with | [_], _ => rfl
  have gAY := PySem.W.mg_of X G aAY
  have FFWR := fun_mk (st := s_fwr) lFWR cFWR kFWR
  have bFWR := FFWR.binds (ps := ["ways", "least", "most"]) fun _ _ _ _ _ _ us hl => match us, hl with | [_, _, _], _ => rfl
  have gFWR := PySem.W.mg_of X G aFWR
  have FHC := fun_mk (st := s_hc) lHC cHC kHC
  have bHC := FHC.binds (ps := ["life", "hits"]) fun _ _ _ _ _ _ us hl => match us, hl with | [_, _], _ => rfl
  have gHC := PySem.W.mg_of X G aHC
  have FSC := fun_mk (st := s_sc) lSC cSC kSC
  have bSC := FSC.binds (ps := ["life", "beat", "stands"]) fun _ _ _ _ _ _ us hl => match us, hl with | [_, _, _], _ => rfl
  have gSC := PySem.W.mg_of X G aSC
  have FE := fun_mk (st := s_feed) lE cE kE
  have bE := FE.binds (ps := ["_law_script"]) fun _ _ _ _ _ _ us hl => match us, hl with | [_], _ => rfl
  have gE := PySem.W.mg_of X G aE
  have FD := fun_mk (st := s_draw) lD cD kD
  have bD := FD.binds (ps := ["_law_feed_here", "_law_many"]) fun _ _ _ _ _ _ us hl => match us, hl with | [_, _], _ => rfl
  have gD := PySem.W.mg_of X G aD
  have FL := fun_mk (st := s_low) lL cL kL
  have bL := FL.binds (ps := ["_law_top", "_law_bottom"]) fun _ _ _ _ _ _ us hl => match us, hl with | [_, _], _ => rfl
  have gL := PySem.W.mg_of X G aL
  have FSU := fun_mk (st := s_lsum) lSU cSU kSU
  have bSU := FSU.binds (ps := ["_law_some"]) fun _ _ _ _ _ _ us hl => match us, hl with | [_], _ => rfl
  have gSU := PySem.W.mg_of X G aSU
  have FLT := fun_mk (st := s_ltimes) lLT cLT kLT
  have bLT := FLT.binds (ps := ["_law_one", "_law_other"]) fun _ _ _ _ _ _ us hl => match us, hl with | [_, _], _ => rfl
  have gLT := PySem.W.mg_of X G aLT
  have FLL := fun_mk (st := s_lless) lLL cLL kLL
  have bLL := FLL.binds (ps := ["_law_one", "_law_other"]) fun _ _ _ _ _ _ us hl => match us, hl with | [_, _], _ => rfl
  have gLL := PySem.W.mg_of X G aLL
  have FLF := fun_mk (st := s_life) lLF cLF kLF
  have bLF := FLF.binds (ps := ["_law_feed_here", "_law_way"]) fun _ _ _ _ _ _ us hl => match us, hl with | [_, _], _ => rfl
  have gLF := PySem.W.mg_of X G aLF
  have FAL := fun_mk (st := s_any) lAL cAL kAL
  have bAL := FAL.binds (ps := ["_law_feed_here"]) fun _ _ _ _ _ _ us hl => match us, hl with | [_], _ => rfl
  have gAL := PySem.W.mg_of X G aAL
  have FCH := fun_mk (st := s_lchance) lCH cCH kCH
  have bCH := FCH.binds (ps := ["_law_life_here", "_law_k"]) fun _ _ _ _ _ _ us hl => match us, hl with | [_, _], _ => rfl
  have gCH := PySem.W.mg_of X G aCH
  have FOD := fun_mk (st := s_odd) lOD cOD kOD
  have bOD := FOD.binds (ps := ["_law_feed_here"]) fun _ _ _ _ _ _ us hl => match us, hl with | [_], _ => rfl
  have gOD := PySem.W.mg_of X G aOD
  have FLW := fun_mk (st := s_lwh) lLW cLW kLW
  have bLW := FLW.binds (ps := ["_law_thing"]) fun _ _ _ _ _ _ us hl => match us, hl with | [_], _ => rfl
  have gLW := PySem.W.mg_of X G aLW
  have FLIR := fun_mk (st := s_lir) lLIR cLIR kLIR
  have bLIR := FLIR.binds (ps := ["_law_thing"]) fun _ _ _ _ _ _ us hl => match us, hl with | [_], _ => rfl
  have gLIR := PySem.W.mg_of X G aLIR
  have FPW := fun_mk (st := s_lpower) lPW cPW kPW
  have bPW := FPW.binds (ps := ["_law_one", "_law_far"]) fun _ _ _ _ _ _ us hl => match us, hl with | [_, _], _ => rfl
  have gPW := PySem.W.mg_of X G aPW
  have FRE := fun_mk (st := s_lrest) lRE cRE kRE
  have bRE := FRE.binds (ps := ["_law_life_here", "_law_k"]) fun _ _ _ _ _ _ us hl => match us, hl with | [_, _], _ => rfl
  have gRE := PySem.W.mg_of X G aRE
  have FLIW := fun_mk (st := s_liw) lLIW cLIW kLIW
  have bLIW := FLIW.binds (ps := ["_law_thing"]) fun _ _ _ _ _ _ us hl => match us, hl with | [_], _ => rfl
  have gLIW := PySem.W.mg_of X G aLIW
  have FWD := fun_mk (st := s_wd) lWD cWD kWD
  have bWD := FWD.binds (ps := ["_law_life_here", "_law_beat", "_law_thing"]) fun _ _ _ _ _ _ us hl => match us, hl with | [_, _, _], _ => rfl
  have gWD := PySem.W.mg_of X G aWD
  have FLWC := fun_mk (st := s_lwc) lLWC cLWC kLWC
  have bLWC := FLWC.binds (ps := ["_law_life_here", "_law_way"]) fun _ _ _ _ _ _ us hl => match us, hl with | [_, _], _ => rfl
  have gLWC := PySem.W.mg_of X G aLWC
  have FSB := fun_mk (st := s_sb) lSB cSB kSB
  have bSB := FSB.binds (ps := ["_law_life_here", "_law_beat", "_law_way"]) fun _ _ _ _ _ _ us hl => match us, hl with | [_, _, _], _ => rfl
  have gSB := PySem.W.mg_of X G aSB
  have FTW := fun_mk (st := s_tw) lTW cTW kTW
  have bTW := FTW.binds (ps := ["_law_life_here", "_law_beat", "_law_thing"]) fun _ _ _ _ _ _ us hl => match us, hl with | [_, _, _], _ => rfl
  have gTW := PySem.W.mg_of X G aTW
  have FAK := fun_mk (st := s_ak) lAK cAK kAK
  have bAK := FAK.binds (ps := ["_law_life_here", "_law_beat", "_law_thing"]) fun _ _ _ _ _ _ us hl => match us, hl with | [_, _, _], _ => rfl
  have gAK := PySem.W.mg_of X G aAK
  have FRO := fun_mk (st := s_rows) lRO cRO kRO
  have bRO := FRO.binds (ps := ["_law_beat"]) fun _ _ _ _ _ _ us hl => match us, hl with | [_], _ => rfl
  have gRO := PySem.W.mg_of X G aRO
  have FZ := fun_mk (st := s_law) lZ cZ kZ
  have bZ := FZ.binds (ps := ["_law_script"]) fun _ _ _ _ _ _ us hl => match us, hl with | [_], _ => rfl
  have gZ := PySem.W.mg_of X G aZ
  have n_ValueError := PySem.W.mg_none_of X G z_ValueError
  have n_abs := PySem.W.mg_none_of X G z_abs
  have n_all := PySem.W.mg_none_of X G z_all
  have n_bool := PySem.W.mg_none_of X G z_bool
  have n_enumerate := PySem.W.mg_none_of X G z_enumerate
  have n_int := PySem.W.mg_none_of X G z_int
  have n_isinstance := PySem.W.mg_none_of X G z_isinstance
  have n_len := PySem.W.mg_none_of X G z_len
  have n_list := PySem.W.mg_none_of X G z_list
  have n_max := PySem.W.mg_none_of X G z_max
  have n_range := PySem.W.mg_none_of X G z_range
  have n_repr := PySem.W.mg_none_of X G z_repr
  have n_sum := PySem.W.mg_none_of X G z_sum
  have n_tuple := PySem.W.mg_none_of X G z_tuple
  have m_NOUGHT := PySem.W.mg_of X G g_NOUGHT
  have r_NOUGHT : ∀ H, RAt K H a_NOUGHT (0, 1) := fun H => .inr ⟨_, _, _, l_NOUGHT, rfl, rfl, by show 2 ≤ sizeLine; decide, .cons ⟨_, rfl⟩ (.cons ⟨_, rfl⟩ .nil)⟩
  have m_ONE := PySem.W.mg_of X G g_ONE
  have r_ONE : ∀ H, RAt K H a_ONE (1, 1) := fun H => .inr ⟨_, _, _, l_ONE, rfl, rfl, by show 2 ≤ sizeLine; decide, .cons ⟨_, rfl⟩ (.cons ⟨_, rfl⟩ .nil)⟩
  have c_MOST_WAYS := PySem.W.mg_of X G q_MOST_WAYS
  obtain ⟨c1AY, e1AY, TAY⟩ := tabAt_mk (c := 0) rAY gAY lAY rfl (tabOf_of xAY vAY) oAY
  cases e1AY
  obtain ⟨c1IW, e1IW, TIW⟩ := tabAt_mk (c := 0) rIW gIW lIW rfl (tabOf_of xIW vIW) oIW
  cases e1IW
  refine ⟨PySem.W.fnOf "law" "law" (defArgs s_law) (defBody s_law) (defScope s_law) .none kVZ dcZ pmZ anZ cdZ ctZ, ([(ccAY, tAY), (ccIW, tIW)] : List (Addr × Addr)), spLawT K (([(ccAY, tAY), (ccIW, tIW)] : List (Addr × Addr)).map (·.2)), fun p hp => ?_, fun s v => .of_eq rfl, fun H a ns _ hC hS => spLawT_of H a ns hC hS, fun base _ _ SY TBS => ?_⟩
  · rcases List.mem_cons.mp hp with rfl | hp0
    · exact TAY
    rcases List.mem_cons.mp hp0 with rfl | hp1
    · exact TIW
    exact absurd hp1 (by simp)
  have TBAY := TBS (ccAY, tAY) (by simp)
  have TBIW := TBS (ccIW, tIW) (by simp)
  have FIF := fun_mk (st := s_iF) lF_ cF_ kF_
  have bIF := FIF.binds (ps := ["self", "text"]) fun _ _ _ _ _ _ us hl => match us, hl with | [_, _], _ => rfl
  have EF : ErrF K mg C_F i_F _ := ⟨PySem.W.mg_of X G g_F, ⟨rdF, fcF, rfl, spF, kF_⟩, FIF, bIF, n_ValueError, vV⟩
  have FIP := fun_mk (st := s_iP) lP_ cP_ kP_
  have bIP := FIP.binds (ps := ["self", "word", "place"]) fun _ _ _ _ _ _ us hl => match us, hl with | [_, _, _], _ => rfl
  have oP : OexC K C_P := ⟨⟨nm_P, q_P, NN_P, bs_P, _, sn_P, sub_P, ab_P, col_P, dd_P, m0_P, m1_P, m2_P, m3_P, m5_P, xP, rfl⟩, (errB_ok EXP).2.2.1, (errB_ok EXP).1.hs, (errB_ok EXP).2.2.2.1, (errB_ok EXP).2.2.2.2.1⟩
  have EP : ErrP K mg C_P i_P _ := ⟨PySem.W.mg_of X G g_P, oP, iP, tP, FIP, bIP, EXP⟩
  have EG : ErrG mg ⟨C_F, C_N, C_A, C_B, C_P, C_T, C_X, C_L, C_M, C_R⟩ := ⟨PySem.W.mg_of X G g_F, PySem.W.mg_of X G g_N, PySem.W.mg_of X G g_A, PySem.W.mg_of X G g_B, PySem.W.mg_of X G g_P, PySem.W.mg_of X G g_T, PySem.W.mg_of X G g_X, PySem.W.mg_of X G g_L, PySem.W.mg_of X G g_M, PySem.W.mg_of X G g_R⟩
  have GWH := ok_wh (P := l.prog) (w := w) (base := base) FWH n_bool n_int n_isinstance
  have GIB := ok_ib (P := l.prog) (w := w) (mg := mg) (base := base) FIB
  have GE : FnOk l.prog w K mg base CX0 1 fE _ ["_law_script"] (spFeed K) := ok_feed FE n_list
  have GD : FnOk l.prog w K mg base CX0 1 fD _ ["_law_feed_here", "_law_many"] spDraw := ok_draw FD n_len
  have GC : FnOk l.prog w K mg base CX0 1 fC _ ["one", "other"] spCd := ok_cd (k := 0) FC n_abs
  have GL : FnOk l.prog w K mg base CX0 1 fL _ ["_law_top", "_law_bottom"] spLow := ok_low FL n_abs
  have GLW := ok_lwh (P := l.prog) (w := w) (base := base) FLW n_bool n_int n_isinstance
  have GRO := ok_rows (P := l.prog) (w := w) (base := base) FRO n_range
  have GIR := ok_ir FIR FWH bWH gWH GWH FC bC gC GC n_isinstance n_len n_tuple
  have GR := ok_ratio (P := l.prog) (w := w) (base := base) FR FC bC gC n_abs
  have GOB := ok_oob (P := l.prog) (w := w) (base := base) FOB FC bC gC n_abs
  have GOT := ok_oobT (P := l.prog) (w := w) (base := base) FOB FC bC gC n_abs
  have GFWR := ok_fwr (P := l.prog) (w := w) (base := base) FFWR n_enumerate n_sum
  have GSU := ok_lsumL FSU FL bL gL GL
  have GST := ok_lsumT FSU FL bL gL GL
  have GLT := ok_ltimes FLT FL bL gL GL
  have GLL := ok_lless FLL FL bL gL GL
  have GLF := ok_life FLF FD bD gD GD FL bL gL GL n_range n_int n_sum n_tuple
  have GCH := ok_lchance FCH FL bL gL GL n_len n_range
  have GOD := ok_odd FOD FD bD gD GD n_len
  have GLIR := ok_lir FLIR FLW bLW gLW GLW FL bL gL GL n_isinstance n_len n_tuple
  have GM := ok_minus FM FR bR gR GR
  have GT := ok_times FT FR bR gR GR
  have GAD := ok_added FAD FOB bOB gOB GOB FR bR gR GR n_sum
  have GAT := ok_addedT FAD FOB bOB gOB GOT FR bR gR GR n_sum
  have GAL := ok_any FAL FD bD gD GD FLF bLF gLF GLF FLT bLT gLT GLT n_len
  have GPW := ok_lpower FPW FLT bLT gLT GLT n_range
  have GLIW := ok_liw FLIW FLW bLW gLW GLW n_isinstance n_tuple
  have C : Consts K mg a_NOUGHT a_ONE := ⟨m_NOUGHT, m_ONE, r_NOUGHT, r_ONE⟩
  have GCT := ok_chto FCT C.n FT bT gT GT n_len n_list
  have GIW := ok_iw HIW TBIW FWH bWH gWH GWH n_all n_isinstance n_tuple
  have GRE := ok_lrest FRE FSU bSU gSU GST GSU FLT bLT gLT GLT FPW bPW gPW GPW FL bL gL GL n_len n_max
  have GLWC := ok_lwc FLWC FLT bLT gLT GLT FCH bCH gCH GCH
  have GLS := ok_ls FLS C FOB bOB gOB GOB FCT bCT gCT GCT FR bR gR GR
  have GSB := ok_sb FSB FLL bLL gLL GLL FRE bRE gRE GRE FSU bSU gSU GSU FLT bLT gLT GLT FLWC bLWC gLWC GLWC n_sum
  have GWC := ok_wc FWC FCT bCT gCT GCT FR bR gR GR n_max
  have GAY := ok_ay HAY TBAY FIW bIW gIW GIW c_MOST_WAYS n_all n_isinstance n_len n_tuple
  have GWD := ok_wd FWD FLIR bLIR gLIR GLIR FLIW bLIW gLIW GLIW FSU bSU gSU GSU FLWC bLWC gLWC GLWC FSB bSB gSB GSB FLL bLL gLL GLL n_enumerate n_isinstance n_len n_sum n_tuple
  have GSHP := ok_shp FSHP FIR bIR gIR GIR FAY bAY gAY GAY n_isinstance n_len n_tuple
  have GHC := ok_hc FHC FAD bAD gAD GAD FWC bWC gWC GWC
  have GSC := ok_sc FSC FLS bLS gLS GLS FAD bAD gAD GAD FT bT gT GT FWC bWC gWC GWC n_sum
  have GLWY := ok_lwy (e := ⟨C_F, C_N, C_A, C_B, C_P, C_T, C_X, C_L, C_M, C_R⟩) FLWY C FSHP bSHP gSHP GSHP FFWR bFWR gFWR GFWR FIB bIB gIB GIB FHC bHC gHC GHC FM bM gM GM FSC bSC gSC GSC EF EP ENPword ENPplace
  have GTW := ok_tw (e := ⟨C_F, C_N, C_A, C_B, C_P, C_T, C_X, C_L, C_M, C_R⟩) FTW FLWY bLWY gLWY GLWY EG EXP EKP EMP ENPword ENPplace n_ValueError n_isinstance
  have GAK := ok_ak FAK FWD bWD gWD GWD FTW bTW gTW GTW SY n_range n_repr
  exact ok_law FZ FE bE gE GE FD bD gD GD FAL bAL gAL GAL FOD bOD gOD GOD FAK bAK gAK GAK FRO bRO gRO GRO n_list n_range n_tuple
end Fp
open PySem PySem.W PyProof.Rows
set_option maxHeartbeats 0 in
theorem PySem.Challenge.cw_freshparts_k19_things_that_are_no_papers_holds : PySem.Challenge.rw_freshparts_k19_things_that_are_no_papers.Holds := by
  w_on; o_law; k_head; (case hw => w_witness2)
  k_fill
  refine Fp.walkGT (l := PySem.Challenge.rw_freshparts_k19_things_that_are_no_papers) (n := 63) (lv := 11) (x := "_law_script") rfl (by decide) rfl ⟨rfl, by decide, by decide⟩ (fun w h Y => PySem.W.kIn_of Y) (by first | kernel_rfl | rfl) ?F
  case F =>
    intro w mg fa h KX G hmg
    refine' Fp.all_mk KX G hmg ?aWH ?lWH ?cWH ?kWH ?aC ?lC ?cC ?kC ?aIR ?lIR ?cIR ?kIR ?aR ?lR ?cR ?kR ?aM ?lM ?cM ?kM ?aT ?lT ?cT ?kT ?aIB ?lIB ?cIB ?kIB ?aOB ?lOB ?cOB ?kOB ?aAD ?lAD ?cAD ?kAD ?aCT ?lCT ?cCT ?kCT ?aLS ?lLS ?cLS ?kLS ?aIW ?lIW ?cIW ?kIW ?xIW ?vIW ?oIW ?rIW ?aWC ?lWC ?cWC ?kWC ?aLWY ?lLWY ?cLWY ?kLWY ?aSHP ?lSHP ?cSHP ?kSHP ?aAY ?lAY ?cAY ?kAY ?xAY ?vAY ?oAY ?rAY ?aFWR ?lFWR ?cFWR ?kFWR ?aHC ?lHC ?cHC ?kHC ?aSC ?lSC ?cSC ?kSC ?aE ?lE ?cE ?kE ?aD ?lD ?cD ?kD ?aL ?lL ?cL ?kL ?aSU ?lSU ?cSU ?kSU ?aLT ?lLT ?cLT ?kLT ?aLL ?lLL ?cLL ?kLL ?aLF ?lLF ?cLF ?kLF ?aAL ?lAL ?cAL ?kAL ?aCH ?lCH ?cCH ?kCH ?aOD ?lOD ?cOD ?kOD ?aLW ?lLW ?cLW ?kLW ?aLIR ?lLIR ?cLIR ?kLIR ?aPW ?lPW ?cPW ?kPW ?aRE ?lRE ?cRE ?kRE ?aLIW ?lLIW ?cLIW ?kLIW ?aWD ?lWD ?cWD ?kWD ?aLWC ?lLWC ?cLWC ?kLWC ?aSB ?lSB ?cSB ?kSB ?aTW ?lTW ?cTW ?kTW ?aAK ?lAK ?cAK ?kAK ?aRO ?lRO ?cRO ?kRO ?aZ ?lZ ?cZ ?kZ ?g_NOUGHT ?l_NOUGHT ?g_ONE ?l_ONE ?z_ValueError ?z_abs ?z_all ?z_bool ?z_enumerate ?z_int ?z_isinstance ?z_len ?z_list ?z_max ?z_range ?z_repr ?z_sum ?z_tuple ?q_MOST_WAYS ?g_F ?g_N ?g_A ?g_B ?g_P ?g_T ?g_X ?g_L ?g_M ?g_R ?iF ?lF_ ?cF_ ?kF_ ?rdF ?fcF ?spF ?vV ?EXP ?iP ?lP_ ?cP_ ?kP_ ?tP ?xP ?EKP ?EMP ?ENPplace ?ENPword
    (case aWH => first | k_is | rfl); (case lWH => first | k_is | rfl); (case cWH => first | k_is | rfl); (case kWH => first | k_is | rfl); (case aC => first | k_is | rfl); (case lC => first | k_is | rfl)
    (case cC => first | k_is | rfl); (case kC => first | k_is | rfl); (case aIR => first | k_is | rfl); (case lIR => first | k_is | rfl); (case cIR => first | k_is | rfl); (case kIR => first | k_is | rfl)
    (case aR => first | k_is | rfl); (case lR => first | k_is | rfl); (case cR => first | k_is | rfl); (case kR => first | k_is | rfl); (case aM => first | k_is | rfl); (case lM => first | k_is | rfl)
    (case cM => first | k_is | rfl); (case kM => first | k_is | rfl); (case aT => first | k_is | rfl); (case lT => first | k_is | rfl); (case cT => first | k_is | rfl); (case kT => first | k_is | rfl)
    (case aIB => first | k_is | rfl); (case lIB => first | k_is | rfl); (case cIB => first | k_is | rfl); (case kIB => first | k_is | rfl); (case aOB => first | k_is | rfl); (case lOB => first | k_is | rfl)
    (case cOB => first | k_is | rfl); (case kOB => first | k_is | rfl); (case aAD => first | k_is | rfl); (case lAD => first | k_is | rfl); (case cAD => first | k_is | rfl); (case kAD => first | k_is | rfl)
    (case aCT => first | k_is | rfl); (case lCT => first | k_is | rfl); (case cCT => first | k_is | rfl); (case kCT => first | k_is | rfl); (case aLS => first | k_is | rfl); (case lLS => first | k_is | rfl)
    (case cLS => first | k_is | rfl); (case kLS => first | k_is | rfl); (case aIW => first | k_is | rfl); (case lIW => first | k_is | rfl); (case cIW => first | k_is | rfl); (case kIW => first | k_is | rfl)
    (case xIW => first | k_is | rfl); (case vIW => rfl); (case oIW => first | k_is | rfl | kernel_rfl); (case rIW => first | kernel_rfl | rfl); (case aWC => first | k_is | rfl); (case lWC => first | k_is | rfl)
    (case cWC => first | k_is | rfl); (case kWC => first | k_is | rfl); (case aLWY => first | k_is | rfl); (case lLWY => first | k_is | rfl); (case cLWY => first | k_is | rfl); (case kLWY => first | k_is | rfl)
    (case aSHP => first | k_is | rfl); (case lSHP => first | k_is | rfl); (case cSHP => first | k_is | rfl); (case kSHP => first | k_is | rfl); (case aAY => first | k_is | rfl); (case lAY => first | k_is | rfl)
    (case cAY => first | k_is | rfl); (case kAY => first | k_is | rfl); (case xAY => first | k_is | rfl); (case vAY => rfl); (case oAY => first | k_is | rfl | kernel_rfl); (case rAY => first | kernel_rfl | rfl)
    (case aFWR => first | k_is | rfl); (case lFWR => first | k_is | rfl); (case cFWR => first | k_is | rfl); (case kFWR => first | k_is | rfl); (case aHC => first | k_is | rfl); (case lHC => first | k_is | rfl)
    (case cHC => first | k_is | rfl); (case kHC => first | k_is | rfl); (case aSC => first | k_is | rfl); (case lSC => first | k_is | rfl); (case cSC => first | k_is | rfl); (case kSC => first | k_is | rfl)
    (case aE => first | k_is | rfl); (case lE => first | k_is | rfl); (case cE => first | k_is | rfl); (case kE => first | k_is | rfl); (case aD => first | k_is | rfl); (case lD => first | k_is | rfl)
    (case cD => first | k_is | rfl); (case kD => first | k_is | rfl); (case aL => first | k_is | rfl); (case lL => first | k_is | rfl); (case cL => first | k_is | rfl); (case kL => first | k_is | rfl)
    (case aSU => first | k_is | rfl); (case lSU => first | k_is | rfl); (case cSU => first | k_is | rfl); (case kSU => first | k_is | rfl); (case aLT => first | k_is | rfl); (case lLT => first | k_is | rfl)
    (case cLT => first | k_is | rfl); (case kLT => first | k_is | rfl); (case aLL => first | k_is | rfl); (case lLL => first | k_is | rfl); (case cLL => first | k_is | rfl); (case kLL => first | k_is | rfl)
    (case aLF => first | k_is | rfl); (case lLF => first | k_is | rfl); (case cLF => first | k_is | rfl); (case kLF => first | k_is | rfl); (case aAL => first | k_is | rfl); (case lAL => first | k_is | rfl)
    (case cAL => first | k_is | rfl); (case kAL => first | k_is | rfl); (case aCH => first | k_is | rfl); (case lCH => first | k_is | rfl); (case cCH => first | k_is | rfl); (case kCH => first | k_is | rfl)
    (case aOD => first | k_is | rfl); (case lOD => first | k_is | rfl); (case cOD => first | k_is | rfl); (case kOD => first | k_is | rfl); (case aLW => first | k_is | rfl); (case lLW => first | k_is | rfl)
    (case cLW => first | k_is | rfl); (case kLW => first | k_is | rfl); (case aLIR => first | k_is | rfl); (case lLIR => first | k_is | rfl); (case cLIR => first | k_is | rfl); (case kLIR => first | k_is | rfl)
    (case aPW => first | k_is | rfl); (case lPW => first | k_is | rfl); (case cPW => first | k_is | rfl); (case kPW => first | k_is | rfl); (case aRE => first | k_is | rfl); (case lRE => first | k_is | rfl)
    (case cRE => first | k_is | rfl); (case kRE => first | k_is | rfl); (case aLIW => first | k_is | rfl); (case lLIW => first | k_is | rfl); (case cLIW => first | k_is | rfl); (case kLIW => first | k_is | rfl)
    (case aWD => first | k_is | rfl); (case lWD => first | k_is | rfl); (case cWD => first | k_is | rfl); (case kWD => first | k_is | rfl); (case aLWC => first | k_is | rfl); (case lLWC => first | k_is | rfl)
    (case cLWC => first | k_is | rfl); (case kLWC => first | k_is | rfl); (case aSB => first | k_is | rfl); (case lSB => first | k_is | rfl); (case cSB => first | k_is | rfl); (case kSB => first | k_is | rfl)
    (case aTW => first | k_is | rfl); (case lTW => first | k_is | rfl); (case cTW => first | k_is | rfl); (case kTW => first | k_is | rfl); (case aAK => first | k_is | rfl); (case lAK => first | k_is | rfl)
    (case cAK => first | k_is | rfl); (case kAK => first | k_is | rfl); (case aRO => first | k_is | rfl); (case lRO => first | k_is | rfl); (case cRO => first | k_is | rfl); (case kRO => first | k_is | rfl)
    (case aZ => first | k_is | rfl); (case lZ => first | k_is | rfl); (case cZ => first | k_is | rfl); (case kZ => first | k_is | rfl); (case g_NOUGHT => first | k_is | rfl); (case l_NOUGHT => first | k_is | rfl)
    (case g_ONE => first | k_is | rfl); (case l_ONE => first | k_is | rfl); (case z_ValueError => first | k_is | rfl); (case z_abs => first | k_is | rfl); (case z_all => first | k_is | rfl); (case z_bool => first | k_is | rfl)
    (case z_enumerate => first | k_is | rfl); (case z_int => first | k_is | rfl); (case z_isinstance => first | k_is | rfl); (case z_len => first | k_is | rfl); (case z_list => first | k_is | rfl); (case z_max => first | k_is | rfl)
    (case z_range => first | k_is | rfl); (case z_repr => first | k_is | rfl); (case z_sum => first | k_is | rfl); (case z_tuple => first | k_is | rfl); (case q_MOST_WAYS => first | k_is | rfl); (case g_F => first | k_is | rfl)
    (case g_N => first | k_is | rfl); (case g_A => first | k_is | rfl); (case g_B => first | k_is | rfl); (case g_P => first | k_is | rfl); (case g_T => first | k_is | rfl); (case g_X => first | k_is | rfl)
    (case g_L => first | k_is | rfl); (case g_M => first | k_is | rfl); (case g_R => first | k_is | rfl); (case iF => first | k_is | rfl); (case lF_ => first | k_is | rfl); (case cF_ => first | k_is | rfl)
    (case kF_ => first | k_is | rfl); (case rdF => first | k_is | rfl); (case fcF => first | k_is | rfl); (case spF => first | k_is | rfl); (case vV => first | k_is | rfl); (case EXP => kernel_rfl)
    (case iP => first | k_is | rfl); (case lP_ => first | k_is | rfl); (case cP_ => first | k_is | rfl); (case kP_ => first | k_is | rfl); (case tP => first | k_is | rfl); (case xP => first | k_is | rfl)
    (case EKP => kernel_rfl); (case EMP => kernel_rfl); (case ENPplace => first | k_is | rfl); (case ENPword => first | k_is | rfl)
