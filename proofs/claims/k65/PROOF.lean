import PyProof.Rows.All
import Wide.All
import OpenK.AllK
import Wide.FinOn
import PyProof.ReprRoads
import PyProof.ReprLen
import HandS.Base
import HandS.Call
import HandS.List
import HandS.Ends
import HandS.Exc
import HandS.TryOnly
import HandS.ExcOwn
import HandS.ExcInit
import HandS.Dict
import HandS.Words
import HandS.WordsList
import HandS.WordsDict
import HandS.WordsExc
import HandS.Comp
import HandS.Iter
import HandS.Wide
import HandS.TupAny
import HandS.TupMul
import HandS.Conv
import HandS.Star
import HandS.Style
import HandS.Walk
import HandS.RaiseMore
import PyProof.CallFns
import HandS.WideBits
import KE.GoesEnumKw
import HandS.IsInst
import HandS.SortRule
import HandS.DictTup
import HandS.DictSubView
import KE.KDictSum
import HandS.SortKw
import KE.DataMinMax
import HandS.GenList
import HandS.AnyAll
import HandS.TupLe
import KE.KExcIs
import HandS.ExcIs
import HandS.ExcField
import PyProof.NeKinds
import KE.KIntText
import PyProof.StrBlock2
import HandS.Strs
import HandS.Text
import HandS.FStr
import PyProof.Rows.ReprOcc
import PyProof.Rows.StrDigitsNeg
import HandS.Deep
import PyProof.P3In
import PyProof.SliceStr2
import HandS.NoneIn
import KE.KUnpackStar
import PyProof.MakeMany
import PySem.Challenge.RW_freshparts_k65_whole_kinds_stand_as_shar
set_option Elab.async false
set_option linter.all false
set_option maxRecDepth 100000
set_option maxHeartbeats 4000000
namespace Fp
open PySem PySem.Spec PyProof.Rows L2

/-! ### promises of defs that show things: no repr runs around the call -/
structure FnG (P : Program) (w : World) (K : PySem.W.Frag) (mg : Str → Option Value) (base : Heap) (CX : CXT) (lv : Nat) (f : Addr) (fd : FuncData) (ps : List Str) (sp : Sp) : Prop where
  lens : ∀ vs H Q E, sp vs H Q E → vs.length = ps.length
  runs : ∀ (A : Around) (outer : List Env) (s : Shared) (H : Hp) (args : Args) (us : List Value) (vs : List V) (Q : VK) (E : XK), A.guards = some [] → Room lv A → Env0 P w K mg base A outer s H →
    BindsTo s fd args (ps.zip us) → Vals vs us → sp vs H Q E → codeAny (model P w) A (.call (.ref f) args) (CR CX outer P w H s Q E) s

section
variable {X : Cx} {CX : CXT} {lv : Nat} {f : Addr} {fd : FuncData} {ps : List Str} {sp : Sp} {E : XK} {x : Str} {p pos : Pos} {e : Expr} {es : List Expr} {t : TA}
theorem run_g {pins : List (Addr × Obj)} {σ : L2.St} {H : Hp} {s : Shared} {Q : VK} {us : List Value} {vs : List V} (G : FnG X.prog X.w X.K X.mg X.base CX lv f fd ps sp) (hq : X.A.guards = some []) (hr : Room lv X.A) (hb : Binds X.K fd ps [])
    (hx : Passes CX X E) (I : Inv X pins σ H s) (r : Vals vs us) (h : sp vs H Q E) : wpAny (model X.prog X.w) X.A (call (.ref f) us) (EP X pins σ Q) X.xe s := by
  have hl : us.length = ps.length := r.length.symm.trans (G.lens _ _ _ _ h)
  have b := hb s us I.kIn (by rw [List.append_nil]; exact hl)
  rw [List.append_nil] at b
  refine wpAny_call (codeAny_mono (G.runs X.A X.stack s H ⟨us, []⟩ us vs Q E hq hr I.env0 b r h) fun res s2 z => ?_)
  match res, z with
  | .error e, z => exact hx pins σ H s e s2 I z
  | .ok (.ret u), z => exact I.after z
  | .ok .next, z => exact False.elim z
  | .ok .brk, z => exact False.elim z
  | .ok .cont, z => exact False.elim z
def tCallG (sp : Sp) (E : XK) (t : TA) : TE := fun σ H Q => t σ H fun vs H1 => sp vs H1 Q E
theorem pe_callG (G : FnG X.prog X.w X.K X.mg X.base CX lv f fd ps sp) (hq : X.A.guards = some []) (hr : Room lv X.A) (hg : Gl X x) (hm : X.mg x = some (.ref f)) (hk : PySem.W.keepIn X.K (.ref f) = true) (hb : Binds X.K fd ps []) (hx : Passes CX X E)
    (ha : PA X (e :: es) t) (hdb : (x == ("__debug__" : Str)) = false := by decide) (he : starEach (e :: es) X.env = (false, eval e X.env) :: starEach es X.env := by rfl) (hpl : (backTo pos (starEach es X.env)).any (·.1) = false := by rfl) :
    PE X (.Call (.Name x p) (e :: es) [] pos) (tCallG sp E t) := by
  refine ⟨fun pins s σ H Q I h => wpAny_Call_Name_kw (ld_glob I hg hm ?_ hdb)⟩
  refine PySem.W.callWith_K (h₀ := X.base) I.ok.mod.kin hk (thn (ha.run pos pins s σ H _ I h) fun us s1 z => ?_) he hpl
  obtain ⟨vs, H1, I1, r, q⟩ := z
  exact ⟨I1.kIn, run_g G hq hr hb hx I1 r q⟩
end

section
variable {P : Program} {w : World} {K : PySem.W.Frag} {mg : Str → Option Value} {base : Heap}
theorem okG {x qual : Str} {st : Stmt} {f : Addr} {fd : FuncData} {N ps : List Str} {lv : Nat} {sp : Sp} (F : Fun K x qual st f fd) (S : FnScope N ps (defScope st)) (len : ∀ vs H Q E, sp vs H Q E → vs.length = ps.length)
    (hbody : ∀ (cdv : Value) (A : Around) (outer : List Env) (s : Shared) (H : Hp) (vs : List V) (Q : VK) (E : XK), (A.deeper (envOfC qual (defScope st) s.heap.objs.size f cdv)).guards = some [] → Room lv (A.deeper (envOfC qual (defScope st) s.heap.objs.size f cdv)) →
      sp vs H Q E → ∃ t, PSs (cxOf CX0 P w K mg base N qual (defScope st) f cdv A outer s H E).nox (defBody st) t ∧ t { nx := fun _ H' => Q .non H', rt := Q } (start N vs) H) : FnG P w K mg base CX0 (lv + 1) f fd ps sp := by
  obtain ⟨oc, od, kV, doc, pm, an, cdv, ct, osl, rfl, lk, hcd⟩ := F.ex
  refine ⟨len, fun A outer s H args us vs Q E hq hr e0 hb r hsp => ?_⟩
  have hl := len _ _ _ _ hsp
  have KX : K.In s.heap := e0.mod.kin.keeps fun b o z => (e0.bs b o z).1
  have lim : s.heap.NoLimit := e0.mod.nolimit.keeps fun b o z => (e0.bs b o z).1
  have kinds : ∀ y ∈ ps.zip us, (defScope st).names.lookup y.1 = some .local ∨ ((defScope st).names.lookup y.1 = some .cell ∧ ((cellsFrom (s.heap.objs.size + 1) (defScope st).names []).lookup y.1).isSome = true) := by
    rintro ⟨n, v⟩ hy
    exact (S.par n (List.of_mem_zip hy).1).imp id fun q => ⟨q, PySem.W.cellsFrom_some _ _ _ (.inl q)⟩
  refine codeAny_call_function hr.depth (KX _ _ lk) rfl S.co S.gen rfl (PySem.W.codeRec_of KX hcd) (hb _ _ _ _ ?_)
  refine wpAny_newFunctionEnv_cells S.kind kinds fun env he s1 z => ?_
  subst he
  refine ⟨lim.keeps z.toInCall.keep, codeAny_func ?_⟩
  obtain ⟨t, ht, hq2⟩ := hbody cdv A outer s H vs Q E hq (hr.deeper _) hsp
  have I : Inv (cxOf CX0 P w K mg base N qual (defScope st) f cdv A outer s H E) [] (start N vs) H s1 := inv_start S hr.hd e0 hl r z
  refine wpAny_mono (ht.nox.run [] s1 (start N vs) H _ I hq2) (fun fl s2 hs => ?_) fun _ _ hs => hs
  have fin : ∀ {σ' : L2.St} {H' : Hp} {v : V} {u : Value}, Inv (cxOf CX0 P w K mg base N qual (defScope st) f cdv A outer s H E) [] σ' H' s2 → RelV v u → Q v H' → CE outer P w H s Q u s2 :=
    fun {_ H' v _} J rv q => ⟨v, H', J.os, J.bare, J.base, J.hok, rv, q⟩
  match fl, hs with
  | .ret u, ⟨v, σ', H', J, rv, q⟩ => exact fin J rv q
  | .next, ⟨σ', H', J, q⟩ => exact fin (v := V.non) (u := Value.none) J rfl q
  | .brk, ⟨_, _, _, q⟩ => exact False.elim q
  | .cont, ⟨_, _, _, q⟩ => exact False.elim q
end

/-! ### the end of a law that shows things -/
theorem lawG {P : Program} {w : World} {K : PySem.W.Frag} {mg mb : Str → Option Value} {lv : Nat} {fa a : Addr} {fd : FuncData} {x : Str} {sp : Sp} {s1 : Shared} {vs : List Value} {ns : List Int}
    (KX : K.In s1.heap) (hns : s1.heap.Ns mainGlobals mg) (hb : s1.heap.Ns builtinsNs mb) (hbb : ∀ x : Str, x ≠ "__name__" → mb x = bootBuiltins x) (hlim : s1.heap.NoLimit) (hg : s1.gens = #[])
    (ha : s1.heap.get? a = some { cls := .type "list", data := .seq vs.toArray }) (hi : IntsAre vs ns) (hl : ns.length ≤ sizeLine) (hr : Room lv callerA)
    (G : ∀ base : Heap, K.In base → base.Ns mainGlobals mg → FnG P w K mg base CX0 lv fa fd [x] sp) (hbind : ∀ (s : Shared) (u : Value), BindsTo s fd ⟨[u], []⟩ [(x, u)])
    (hsp : ∀ H : Hp, Only H → SqL K H a (ns.map V.int) → sp [.ref a] H (fun v _ => v = .bl true) fun _ _ _ => False) :
    codeAny (model P w) callerA (.call (.ref fa) ⟨[.ref a], []⟩) (fun r s2 => r = .ok (.ret (.bool true)) ∧ OldK s1.heap s2.heap ∧ s2.os = s1.os ∧ AllBare s2.gens) s1 := by
  have rv := vals_ints hi
  have lenV := hi.length
  have main : ∀ H : Hp, Only H → SqL K H a (ns.map V.int) → HOk P w H s1.heap → (∀ b, H b ≠ none → b = a) → (H a ≠ none → K.lookup a = none) →
      codeAny (model P w) callerA (.call (.ref fa) ⟨[.ref a], []⟩) (fun r s2 => r = .ok (.ret (.bool true)) ∧ OldK s1.heap s2.heap ∧ s2.os = s1.os ∧ AllBare s2.gens) s1 := by
    intro H hO hS hok hA hK
    have kept : ∀ {b : Addr} {o : Obj}, s1.heap.get? b = some o → H b = none → (hidT s1.heap H).get? b = some o := fun z n => hidT_get z n
    have isA : ∀ {b : Addr} {u : HO}, H b = some u → b = a := fun {b u} z => hA b (by rw [z]; simp)
    have noD : ∀ {b : Addr} {o : Obj} {es : Array DictEntry} {ep : Nat}, s1.heap.get? b = some o → o.data = .dict es ep → H b = none := by
      intro b o es ep z d
      match q : H b with
      | none => rfl
      | some u =>
        have e2 := isA q
        subst e2
        rw [ha] at z; cases z
        have d2 : Data.seq vs.toArray _ = Data.dict es ep := d
        cases d2
    have nsK : ∀ {b : Addr} {m : Str → Option Value}, s1.heap.Ns b m → (hidT s1.heap H).Ns b m := fun {b m} z => by
      obtain ⟨o, es, ep, e1, d1, r1⟩ := z
      exact ⟨o, es, ep, kept e1 (noD e1 d1), d1, r1⟩
    have kinB : K.In (hidT s1.heap H) := fun b o z => kept (KX b o z) (by
      match q : H b with
      | none => rfl
      | some u =>
        have e2 := isA q
        subst e2
        rw [hK (by rw [q]; simp)] at z; cases z)
    have M : Mod K mg (hidT s1.heap H) := ⟨kinB, nsK hns, ⟨mb, nsK hb, hbb⟩, by obtain ⟨mc, h1, h2⟩ := hlim; exact ⟨mc, nsK h1, h2⟩⟩
    have nil_fr : ∀ {b : Addr}, ¬ b ∈ frs [] := fun {b} z => by
      have z2 : b ∈ ([] : List Addr) := z
      simp at z2
    have e0 : Env0 P w K mg (hidT s1.heap H) callerA [] s1 H := ⟨rfl, M, fun b o z => of_hidT z, Nat.le_of_eq (hidT_size _ _), trivial, fun b z => absurd z nil_fr, hok, .of_eq hg⟩
    refine codeAny_mono ((G _ kinB (nsK hns)).runs callerA [] s1 H ⟨[.ref a], []⟩ [.ref a] [.ref a] _ _ rfl hr e0 (hbind s1 (.ref a)) (.cons rfl .nil) (hsp H hO hS)) fun res s2 z => ?_
    match res, z with
    | .error e, z => exact False.elim z
    | .ok .next, z => exact False.elim z
    | .ok .brk, z => exact False.elim z
    | .ok .cont, z => exact False.elim z
    | .ok (.ret u), z =>
      obtain ⟨v, H2, os, bare, un, hok2, r2, q⟩ := z
      have qv : v = .bl true := q
      subst qv
      obtain rfl : u = Value.bool true := r2
      refine ⟨rfl, OldK.of_keep fun b o e1 => ?_, os, bare⟩
      match q : H b with
      | none => exact un.keep b o e1 q nil_fr (by simp)
      | some u =>
        rcases hO b with z | ⟨ob, xs, z⟩
        · rw [q] at z; cases z
        · obtain ⟨g1, _⟩ := hok b _ z
          obtain ⟨g2, _⟩ := hok2 b _ (un.frzs b ob _ z)
          rw [e1] at g1; cases g1
          exact g2
  match hk : K.lookup a with
  | some o =>
    have z := KX a o hk
    rw [ha] at z
    cases z
    refine main (fun _ => none) (fun _ => .inl rfl) (.inr ⟨_, vs.toArray, _, hk, rfl, rfl, rfl, by rw [List.size_toArray, lenV]; exact hl, by simpa using rv⟩) (fun b u z => ?_) (fun b z => absurd rfl z) fun z => absurd rfl z
    have z2 : (none : Option HO) = some u := z
    cases z2
  | none =>
    have yes : ∀ {b : Addr}, b = a → (if b = a then some (HO.frz { cls := .type "list", data := .seq vs.toArray } (.lst (ns.map V.int))) else none) = some (HO.frz { cls := .type "list", data := .seq vs.toArray } (.lst (ns.map V.int))) := fun z => if_pos z
    have nay : ∀ {b : Addr}, b ≠ a → (if b = a then some (HO.frz { cls := .type "list", data := .seq vs.toArray } (.lst (ns.map V.int))) else none) = none := fun z => if_neg z
    refine main (fun b => if b = a then some (HO.frz { cls := .type "list", data := .seq vs.toArray } (.lst (ns.map V.int))) else none) (fun b => ?_) (.inl (.inr ⟨_, yes rfl⟩)) (fun b u z => ?_) (fun b z => ?_) fun _ => hk
    · rcases Classical.em (b = a) with h | h
      · exact .inr ⟨_, _, yes h⟩
      · exact .inl (nay h)
    · rcases Classical.em (b = a) with h | h
      · have z2 := (yes h).symm.trans z
        cases z2
        subst h
        exact ⟨ha, by rw [List.length_map]; exact hl, vs, _, rv, ha⟩
      · have z2 := (nay h).symm.trans z
        cases z2
    · rcases Classical.em (b = a) with h | h
      · exact h
      · exact absurd (nay h) z

theorem walkG {l : PySem.W.OpenLaw} {n lv : Nat} {q : Program} {loose : List Str} {XP : (Str → Option Value) → Heap → Prop} {YP : World → Heap → Prop} {d : DefRec} {K : Params → PySem.W.Frag} {sp : World → Sp} {x : Str}
    (hn : l.most = some n) (hn2 : n ≤ sizeLine) (hdf : d.params.defaults = []) (hr : Room lv callerA) (hY : ∀ (w : World) (h : Heap), YP w h → (K w.params).In h)
    (G : ∀ (w : World) (mg : Str → Option Value) (fa : Addr) (h : Heap), (K w.params).In h → h.Ns mainGlobals mg → mg d.name = some (.ref fa) →
      ∃ fd : FuncData, (∀ (s : Shared) (u : Value), BindsTo s fd ⟨[u], []⟩ [(x, u)]) ∧ ∀ base : Heap, (K w.params).In base → base.Ns mainGlobals mg → FnG l.prog w (K w.params) mg base CX0 lv fa fd [x] (sp w))
    (hsp : ∀ (w : World) (H : Hp) (a : Addr) (ns : List Int), ns.length ≤ n → Only H → SqL (K w.params) H a (ns.map V.int) → sp w [.ref a] H (fun v _ => v = .bl true) fun _ _ _ => False) :
    PySem.W.WalkO q loose XP YP l.row.toRowW d [] (fun f vs => PySem.call f vs) := by
  refine Att.attach_call hn hdf fun w s0 s1 mg mb fa o pm cd doc a vs ns Gr Y ho hd hcd hmg hobj hints hlen hg => ?_
  have KX := hY w _ Y
  obtain ⟨fd, hb, hF⟩ := G w mg fa _ KX Gr.T.g hmg
  exact lawG KX Gr.T.g Gr.T.b Gr.T.builtins Gr.T.nolimit hg hobj hints (Nat.le_trans hlen hn2) hr hF hb fun H hO hS => hsp w H a ns hlen hO hS

/-! ### repr of tuples and lists -/
mutual
theorem dp_noDict {K : PySem.W.Frag} {H : Hp} : ∀ {v : V} {d : PyData}, Dp K H v d → d.hasDict = false
  | _, _, .non => by simp only [PyData.hasDict]
  | _, _, .bl _ => by simp only [PyData.hasDict]
  | _, _, .int _ => by simp only [PyData.hasDict]
  | _, _, .str _ => by simp only [PyData.hasDict]
  | _, _, .lst _ h => by simp only [PyData.hasDict]; exact dp_noDictAll h
  | _, _, .tup _ h => by simp only [PyData.hasDict]; exact dp_noDictAll h
theorem dp_noDictAll {K : PySem.W.Frag} {H : Hp} : ∀ {vs : List V} {ds : List PyData}, DpAll K H vs ds → PyData.hasDictAll ds = false
  | _, _, .nil => by simp only [PyData.hasDictAll]
  | _, _, .cons h r => by simp only [PyData.hasDictAll, dp_noDict h, dp_noDictAll r, Bool.or_false]
end
/-! how long a thing is, shown, at most -/
mutual
def cost : PyData → Nat
  | .none | .bool _ => 5
  | .int _ => 2000
  | .str x => 10 * x.cps.size + 2
  | .list xs | .tuple xs => costAll xs + 3
  | .dict _ => 0
def costAll : List PyData → Nat
  | [] => 0
  | x :: xs => cost x + 2 + costAll xs
end
mutual
theorem shown_cost : ∀ d : PyData, d.leavesShort 2000 = true → d.hasDict = false → d.shown.length ≤ cost d
  | .none, _, _ => by decide
  | .bool b, _, _ => by cases b <;> decide
  | .int i, h, _ => by
    simp only [PyData.leavesShort, decide_eq_true_eq] at h
    simp only [cost]
    exact h
  | .str x, h, _ => by
    have hx : ∀ c ∈ x.cps.toList, c < 16 ^ 8 := by simpa only [PyData.leavesShort, List.all_eq_true, decide_eq_true_eq] using h
    have e := StrLaws.reprText_len x hx
    have e2 : x.length = x.cps.size := rfl
    simp only [PyData.shown, cost]
    omega
  | .list xs, h, hd => by
    have h1 := shown_costs xs (by simpa only [PyData.leavesShort] using h) (by simpa only [PyData.hasDict] using hd)
    have h2 := listText_len_le (PyData.shownAll xs)
    have h3 := PyData.shownAll_length xs
    simp only [PyData.shown, cost]
    omega
  | .tuple xs, h, hd => by
    have h1 := shown_costs xs (by simpa only [PyData.leavesShort] using h) (by simpa only [PyData.hasDict] using hd)
    have h2 := tupleText_len_le (PyData.shownAll xs)
    have h3 := PyData.shownAll_length xs
    simp only [PyData.shown, cost]
    omega
  | .dict _, _, hd => by simp [PyData.hasDict] at hd
theorem shown_costs : ∀ xs : List PyData, PyData.leavesShortAll 2000 xs = true → PyData.hasDictAll xs = false → ((PyData.shownAll xs).map (·.length)).sum + 2 * xs.length ≤ costAll xs
  | [], _, _ => by simp only [PyData.shownAll, costAll, List.map_nil, List.sum_nil, List.length_nil]; omega
  | x :: xs, h, hd => by
    simp only [PyData.leavesShortAll, Bool.and_eq_true] at h
    simp only [PyData.hasDictAll, Bool.or_eq_false_iff] at hd
    have h1 := shown_cost x h.1 hd.1
    have h2 := shown_costs xs h.2 hd.2
    simp only [PyData.shownAll, costAll, List.map_cons, List.sum_cons, List.length_cons]
    omega
end
/-- what may be shown: ints of at most 1919 bits, texts of plain signs; its length and depth bounded -/
def Shows (d : PyData) : Prop := d.showable = true ∧ d.leavesShort 2000 = true ∧ cost d ≤ 16000000 ∧ d.depth ≤ 60
theorem Shows.len {d : PyData} (h : Shows d) (n : d.hasDict = false) : d.shown.length ≤ sizeLine := by
  have e := shown_cost d h.2.1 n
  have w := h.2.2.1
  rw [sizeLine_eq]
  omega
section
variable {X : Cx}
theorem call_reprD {lv : Nat} (hq : X.A.guards = some []) (hr : Room lv X.A) : CallR X (.builtin "repr") (fun xs H Q => ∃ a d, xs = [.ref a] ∧ Dp X.K H (.ref a) d ∧ Shows d ∧ Q (.str d.shown) H) := by
  intro pins s σ H xs us Q I r h
  obtain ⟨a, d, rfl, hd, hs, q⟩ := h
  obtain ⟨u, rfl, ru⟩ := vals1 r
  obtain ⟨as, rd⟩ := Dp.reads I d _ _ hd ru
  obtain rfl : u = Value.ref a := ru
  have hu := hr.un
  have hdp := hs.2.2.2
  refine repr_of_reads' (h₀ := s.heap) rd hs.1 (PyData.noDict_hsm (dp_noDict hd)) hq (by omega) (fun _ _ z => z) (fun h' t tk k => ?_) (hs.len (dp_noDict hd))
  exact ⟨.str d.shown, H, I.kept k, ⟨t, rfl⟩, q⟩
/-- // by any number but nought, below 2 ^ 9000 in size -/
def CDivA (_ j : Int) : Prop := j ≠ 0 ∧ j.natAbs.log2 < 9000
theorem op_fdivA : OpR X (binaryOp .FloorDiv) (rI CDivA fun i j => .int (i.fdiv j)) := opI fun i j _ _ _ _ _ hc q => floordiv_int hc.1 q (.inl (PyProof.noPylong_of_log2 hc.2))
/-- * of two factors of together less than a million bits -/
def CMulA (i j : Int) : Prop := i.natAbs.log2 + j.natAbs.log2 < 1000000
theorem mulA_ok {i j : Int} (h : CMulA i j) : IntMulOk i j := by
  have bits : ∀ x : Int, Builtin.Int.intBits x ≤ x.natAbs.log2 + 1 := fun x => by
    unfold Builtin.Int.intBits
    split <;> omega
  have h1 := bits i
  have h2 := bits j
  have h3 : i.natAbs.log2 + j.natAbs.log2 < 1000000 := h
  intro z
  rw [Bool.and_eq_true] at z
  have z3 := of_decide_eq_true (show decide _ = true from z.2)
  have e : bitsLine = 134217728 := by decide
  rw [e] at z3
  omega
theorem op_mulA : OpR X (binaryOp .Mult) (rI CMulA fun i j => .int (i * j)) := opI fun _ _ _ _ _ _ _ hc q => mul_int q (mulA_ok hc)
end
/-! ### a word between two statements -/
def tMid (t u : TS) : TS := fun D σ H => ∃ M : L2.St → Hp → Prop, t { D with nx := M } σ H ∧ ∀ σ2 H2, M σ2 H2 → u D σ2 H2
theorem pss_mid {X : Cx} {st : Stmt} {more : List Stmt} {t u : TS} (a : PS X st t) (b : PSs X more u) : PSs X (st :: more) (tMid t u) := by
  refine ⟨fun pins s σ H D I h => ?_⟩
  obtain ⟨M, hm, hu⟩ := h
  refine wpAny_execs_cons (thn (a.run pins s σ H { D with nx := M } I hm) fun fl s1 z => ?_)
  match fl, z with
  | .next, ⟨σ2, H2, I2, z⟩ => exact b.run pins s1 σ2 H2 D I2 (hu σ2 H2 z)
  | .ret v, z => exact z
  | .brk, z => exact z
  | .cont, z => exact z
end Fp

set_option Elab.async false
set_option linter.all false
set_option maxRecDepth 100000
set_option maxHeartbeats 4000000
namespace Fp
open PySem PySem.Spec PyProof.Rows L2
/-! ### C.f(e, ..), C a class of one's own, f a def of its body -/
structure ClsFn (K : PySem.W.Frag) (C : Addr) (m : Str) (f : Addr) : Prop where
  rd : PySem.W.readsIn K C (.type "type") = true
  fc : PySem.W.findCls K (.ref C) (.type "type") m = some (.val (.ref f))
  hd : PySem.W.handedIn (.ref f) = true
  sp : PySem.W.specialIn K (.ref C) "__getattribute__" = some (some (.builtin "type.__getattribute__"))
  kp : PySem.W.keepIn K (.ref f) = true
section
variable {X : Cx} {CX : CXT} {lv : Nat} {f C : Addr} {fd : FuncData} {ps : List Str} {sp : Sp} {E : XK} {x m : Str} {p pos apos : Pos} {e : Expr} {es : List Expr} {t : TA}
theorem pe_clsfn {pl : Sem Bool} (c : ClsFn X.K C m f) (F : FnOk X.prog X.w X.K X.mg X.base CX lv f fd ps sp) (hr : Room lv X.A) (hg : Gl X x) (hm : X.mg x = some (.ref C)) (hb : Binds X.K fd ps []) (hx : Passes CX X E) (ha : PA X (e :: es) t)
    (hdb : (x == ("__debug__" : Str)) = false := by decide) (hst : starEach (e :: es) X.env = (false, eval e X.env) :: starEach es X.env := by rfl) (hpl : (backTo pos (starEach es X.env)).any (·.1) = false := by rfl)
    (ht : eval (.Call (.Attribute (.Name x p) m apos) (e :: es) [] pos) X.env = (do
      let ov ← eval (.Name x p) X.env
      standAt apos.atName
      let (g, first) ← holding [ov] (getMethod ov m pl)
      callWith pos g first (backTo pos (starEach (e :: es) X.env)) (backToKw pos (keywordEach [] X.env))) := by rfl) :
    PE X (.Call (.Attribute (.Name x p) m apos) (e :: es) [] pos) (tCall sp [] E t) := by
  refine ⟨fun pins s σ H Q I h => PySem.W.methodCall_KW (pl := pl) (ld_glob I hg hm ?_ hdb) ht⟩
  refine PySem.W.method_cls I.kIn c.sp (PySem.W.cls_value I.kIn c.rd c.fc c.hd ?_)
  refine PySem.W.callWith_K (first := []) (h₀ := X.base) I.ok.mod.kin c.kp (thn (ha.run pos pins _ σ H _ (I.tok _) h) fun us s2 z => ?_) hst hpl
  obtain ⟨vs, H2, I2, r, q⟩ := z
  exact ⟨I2.kIn, run_fn F hr hb .nil hx I2 r q⟩
end
/-- an error of the class at S is what an except of S names -/
theorem exm_own {K : PySem.W.Frag} {S : Addr} (h1 : PySem.W.subIn K (.ref S) (.type "BaseException") = some true) (h2 : PySem.W.isClsIn K S = true) (h3 : PySem.W.typeIn K (.ref S) = some (.type "type")) (h4 : PySem.W.subIn K (.ref S) (.ref S) = some true) :
    PySem.W.exmOne K (.ref S) (.ref S) = some true := by
  have y1 : (PySem.W.subIn K (.ref S) (.type "BaseException") == some true) = true := by rw [h1] <;> rfl
  have y2 : ((PySem.W.clsIn K S).isSome && PySem.W.typeIn K (.ref S) == some (.type "type")) = true := by
    have h5 : (PySem.W.clsIn K S).isSome = true := h2
    rw [h5, h3] <;> rfl
  show (if (PySem.W.subIn K (.ref S) (.type "BaseException") == some true) = true then (if ((PySem.W.clsIn K S).isSome && PySem.W.typeIn K (.ref S) == some (.type "type")) = true then PySem.W.subIn K (.ref S) (.ref S) else none) else none) = some true
  rw [if_pos y1, if_pos y2]
  exact h4
/-! ### C(), C an own exception over ValueError whose __init__ stores nothing -/
section
variable {X : Cx}
/-- the promise of such an __init__ of one argument, self -/
def spIni (K : PySem.W.Frag) : Sp := fun vs H Q _ => ∃ a C : Addr, vs = [.ref a] ∧ OexC K C ∧ H a = some (exo a C none) ∧ Q .non H
/-- .. of self and a text -/
def spIni1 (K : PySem.W.Frag) : Sp := fun vs H Q _ => ∃ (a C : Addr) (y : V), vs = [.ref a, y] ∧ OexC K C ∧ H a = some (exo a C none) ∧ Q .non H
theorem let_go {pins : List (Addr × Obj)} {σ : L2.St} {H1 : Hp} {hp hp2 h2 : Heap} {g1 g2 : Array GenState} {d1 d2 : Drawn} {t1 t2 : Nat} {os1 os2 : OsState} {a C : Addr} (I1 : Inv X pins σ H1 ⟨hp, g1, d1, t1, os1⟩)
    (ha : hp.objs.size ≤ a) (k : ∀ b o, hp.get? b = some o → hp2.get? b = some o) (un : Un (frs X.stack) [] (upd H1 a (exo a C none)) (upd H1 a (exo a C none)) hp2 h2) (hok : HOk X.prog X.w (upd H1 a (exo a C none)) h2) (ho : os2 = os1) (hb : AllBare g2) :
    ∃ (t0 : Addr) (G : Heap), Inv X pins σ H1 ⟨G, g2, d2, t2, os2⟩ ∧ (∀ b o, G.get? b = some o → h2.get? b = some o) ∧ G.get? a = none ∧
      h2.get? a = some ({ cls := .ref C, dict := none, data := .fields #[.ref t0, .none, .none, .none, .bool false, .none] } : Obj) := by
  obtain ⟨t0, hoe⟩ := exo_at hok (upd_same (H := H1))
  have hn : H1 a = none := I1.hok.fresh ha
  obtain ⟨G, y1, y2⟩ := restrict h2 fun b => decide (b ≠ a)
  have gk : ∀ b, b ≠ a → G.get? b = h2.get? b := fun b hb => y1 b (decide_eq_true hb)
  have ge : G.get? a = none := y2 a (by simp)
  have old : ∀ {b : Addr} {o : Obj}, hp.get? b = some o → b ≠ a := fun {b o} z => Nat.ne_of_lt (Nat.lt_of_lt_of_le (Heap.lt_size z) ha)
  have up : ∀ {b : Addr}, b ≠ a → H1 b = none → upd H1 a (exo a C none) b = none := fun {b} hb n => by rw [upd_ne hb]; exact n
  have dn : ∀ {b : Addr} {u : HO}, H1 b = some u → upd H1 a (exo a C none) b = some u := fun {b u} z => by rw [upd_ne (ne_of_none z hn)]; exact z
  have ne : ∀ {b : Addr} {u : HO}, H1 b = some u → b ≠ a := fun {b u} z => ne_of_none z hn
  have U : Un (frs X.stack) [] H1 H1 hp G :=
    ⟨fun b o z n hf hx => by rw [gk b (old z)]; exact un.keep b o (k b o z) (up (old z) n) hf hx,
     fun b o z n hf hx => by rw [gk b (old z)]; exact un.slot b o (k b o z) (up (old z) n) hf hx,
     fun b o z n hx => n,
     fun b o z hx => by rw [gk b (old z)]; exact un.there b o (k b o z) hx,
     fun b xs z => z, fun b o v z => z, fun b qs z => ⟨#[], by rw [z]; simp⟩⟩
  have hok3 : HOk X.prog X.w H1 G := fun b o z => by
    refine (hok b o (dn z)).stay (fun c v hc y => ?_) (fun c hc => ?_) (fun c xs hc => ?_)
    · have hca : c ≠ a := by
        rcases hc with hc | hc
        · rw [hc]; exact ne z
        · exact at_ne (upd_same (H := H1)) hc exo_own
      rw [gk c hca]
      exact y
    · have hca : c ≠ a := at_ne (upd_same (H := H1)) hc exo_own
      rw [upd_ne hca] at hc
      exact hc
    · have hca : c ≠ a := at_ne (upd_same (H := H1)) hc exo_tup
      rw [upd_ne hca] at hc
      exact hc
  have J : Inv X pins σ H1 ⟨G, g2, d2, t2, os2⟩ := I1.call' (ch := []) ho U hok3 hb (fun b z => absurd z (by simp))
  refine ⟨t0, G, J, fun b o z => ?_, ge, hoe⟩
  rcases Classical.em (b = a) with hba | hba
  · rw [hba, ge] at z
    cases z
  · exact (gk b hba).symm.trans z
theorem pmk_bare {CX : CXT} {x : Str} {C fI : Addr} {lv : Nat} {fd : FuncData} {ps : List Str} {p pos : Pos} (T : OexC X.K C) (iC : PySem.W.findIn X.K (.ref C) "__init__" = some (some (.ref fI))) (tI : PySem.W.typeIn X.K (.ref fI) = some (.type "function"))
    (F1 : FnOk X.prog X.w X.K X.mg X.base CX lv fI fd ps (spIni X.K)) (hr : Room (lv + 1) X.A) (hb : Binds X.K fd ps []) (hx : Passes CX X (fun _ _ _ => False)) (hg : Gl X x) (hm : X.mg x = some (.ref C)) (hdb : (x == ("__debug__" : Str)) = false := by decide) :
    PMk X (.Call (.Name x p) [] [] pos) (fun _ H Q => Q (.ref C) none H) := by
  intro pins s σ H Q I h
  obtain ⟨nm, q, N, bs, bm, sn, sub, ab, col, dd, k0, k1, k2, k3, k5, hC, hbm⟩ := T.cls
  refine wpAny_Call_Name_kw (ld_glob I hg hm ?_ hdb)
  refine PySem.W.callWith_K0 I.kIn T.kC ?_
  show wpAny _ _ (call (.ref C) []) _ _ _
  obtain ⟨hp, g, dr, tk, os⟩ := s
  have hsz : hp.objs.size ≤ hp.objs.size + 1 := Nat.le_succ _
  have kk : ∀ b o, hp.get? b = some o → ((hp.push (PySem.W.kdv_tup [])).push (PySem.HandSPX.excO C hp.objs.size)).get? b = some o := fun b o z => Heap.get?_push_of_some _ (Heap.get?_push_of_some _ z)
  have hget : ((hp.push (PySem.W.kdv_tup [])).push (PySem.HandSPX.excO C hp.objs.size)).get? (hp.objs.size + 1) = some (PySem.HandSPX.excO C hp.objs.size) := by heap_get
  have I2 : Inv X pins σ (upd H (hp.objs.size + 1) (exo (hp.objs.size + 1) C none)) ⟨(hp.push (PySem.W.kdv_tup [])).push (PySem.HandSPX.excO C hp.objs.size), g, dr, tk, os⟩ :=
    I.laid (t' := tk) (a := hp.objs.size + 1) (o := exo (hp.objs.size + 1) C none) (h' := (hp.push (PySem.W.kdv_tup [])).push (PySem.HandSPX.excO C hp.objs.size)) kk hsz (exo_ok hget)
  have r2 : Vals [V.ref (hp.objs.size + 1)] [Value.ref (hp.objs.size + 1)] := .cons rfl .nil
  have hsp : spIni X.K [V.ref (hp.objs.size + 1)] (upd H (hp.objs.size + 1) (exo (hp.objs.size + 1) C none)) (fun v H2 => v = .non ∧ H2 = upd H (hp.objs.size + 1) (exo (hp.objs.size + 1) C none)) (fun _ _ _ => False) :=
    ⟨_, C, rfl, T, upd_same, rfl, rfl⟩
  have hl : ([Value.ref (hp.objs.size + 1)] ++ []).length = ps.length := by
    have z := F1.len _ _ _ _ hsp
    exact z
  refine wpAny_call (PySem.HandSPX.call_own F.excBase_ValueError (fun Y => PySem.HandSPX.refsVE_contains Y bm hbm) (I.kIn _ _ hC) (PySem.W.looks_findIn I.kIn iC) (fun self => PySem.W.bind_fn I.kIn self tI) (Nat.zero_le _)
    (codeAny_mono (F1.run _ X.stack _ _ ⟨[Value.ref (hp.objs.size + 1)], []⟩ [Value.ref (hp.objs.size + 1)] _ _ (fun _ _ _ => False) (hr.make C [] []) (I2.env0.make C [] []) (hb _ [Value.ref (hp.objs.size + 1)] I2.kIn hl) r2 hsp) fun res s2 z => ?_))
  match res, z with
  | .error er, z => exact hx pins σ _ _ er s2 I2 z
  | .ok .next, z => exact False.elim z
  | .ok .brk, z => exact False.elim z
  | .ok .cont, z => exact False.elim z
  | .ok (.ret u), z =>
    obtain ⟨v, H2, os2, bare2, un2, hok2, rv, ev, eH⟩ := z
    subst ev
    rw [eH] at un2 hok2
    obtain ⟨h2, g2, d2, t2, os3⟩ := s2
    obtain ⟨t0, G, J, kG, ge, hoe⟩ := let_go (d2 := d2) (t2 := t2) I hsz kk un2 hok2 os2 bare2
    exact ⟨rv, _, _, _, ⟨G, g2, d2, t2, os3⟩, _, .ref C, none, rfl, J, kG, ge, hoe, ⟨rfl, rfl⟩, rfl, rfl, I.hok.fresh hsz, rfl, bare2, raises_own T.exC T.tyC, h⟩
end
end Fp

set_option Elab.async false
set_option linter.all false
set_option maxRecDepth 100000
set_option maxHeartbeats 4000000
namespace Fp
open PySem PySem.Spec PyProof.Rows L2
/-! ### a tuple taken some times, none and once too -/
theorem tuple_mul_one (l : Addr) (items : Array Value) (n : Nat) (dd : Option Addr) (sl : Array (Option Value)) (u : Tok) :
    Meets (Builtin.«tuple.__mul__» ⟨[.ref l, .int 1 u], []⟩) (fun _ R s => s.heap.get? l = some { cls := .type "tuple", dict := dd, data := .seq items n, slots := sl } ∧ R (.ok (.ret (Value.ref l))) s) :=
  .of_wp fun prog w A R s h => by
    obtain ⟨hp, g, d, tk, os⟩ := s
    obtain ⟨hl, h⟩ := h
    have f1 := AutoSeq1.idx_int
    have c1 : (items.isEmpty || (1 : Int) == 1) = true := by simp
    wp_walk using wpAny_loadPart' hl
    exact ⟨_, rfl, h⟩
theorem tuple_mul_nil (l : Addr) (items : Array Value) (n : Nat) (dd : Option Addr) (sl : Array (Option Value)) (u : Tok) (c1 : items.isEmpty = false) :
    Meets (Builtin.«tuple.__mul__» ⟨[.ref l, .int 0 u], []⟩) (fun _ R s => s.heap.get? l = some { cls := .type "tuple", dict := dd, data := .seq items n, slots := sl } ∧
      R (.ok (.ret (Value.ref s.heap.objs.size))) { s with heap := s.heap.push { cls := Value.type "tuple", data := Data.seq #[] }, toks := s.toks }) :=
  .of_wp fun prog w A R s h => by
    obtain ⟨hp, g, d, tk, os⟩ := s
    obtain ⟨hl, h⟩ := h
    have f1 := AutoSeq1.idx_int
    have c2 : (items.isEmpty || (0 : Int) == 1) = false := by rw [c1]; rfl
    wp_walk using wpAny_loadPart' hl
    exact ⟨_, rfl, h⟩
def rRepA (K : PySem.W.Frag) : R2 := fun x y H Q => ∃ l k xs, x = .ref l ∧ y = .int k ∧ SqT K H l xs ∧ xs ≠ [] ∧ 0 ≤ k ∧ k ≤ 1000 ∧ xs.length ≤ 1000 ∧ (k = 1 → Q (.ref l) H) ∧ (k ≠ 1 → ∀ p, H p = none → Q (.ref p) (upd H p (.tup (List.replicate k.toNat xs).flatten)))
section
variable {X : Cx}
theorem op_repA : OpR X (binaryOp .Mult) (rRepA X.K) := by
  intro pins s σ H x y v u Q I rx ry h
  obtain ⟨l, k, xs, rfl, rfl, hT, hne, h0, h2, hz, q1, q2⟩ := h
  rcases (by omega : k = 0 ∨ k = 1 ∨ 2 ≤ k) with rfl | rfl | hk
  · cases rx
    obtain ⟨t, rfl⟩ := ry
    obtain ⟨its, r, ⟨⟨cls, dd, data, sl⟩, ho, hc, n, hd⟩, hs⟩ := I.tuple hT
    simp only at hc hd
    subst hc hd
    have hle : its.length = xs.length := r.length.symm
    have hi : its.toArray.isEmpty = false := by
      cases its with
      | nil => exact absurd (List.eq_nil_of_length_eq_zero hle.symm) hne
      | cons a b => rfl
    refine wpAny_binaryOp_repeat_ref (T := "tuple") (U := "int") (by decide) ⟨_, ho, rfl⟩ (fun s2 => typeIs_int s2 0 t) noFill_tuple_mul F.fills_int_mul F.slot_int_rmul repeat_tuple F.slot_int_index.lookup
      (call_meets F.slot_int_rmul (typeIs_int s 0 t) F.entry_int_rmul (F.args_int_rmul_2 _ _) (int_rmul_tuple 0 t l its.toArray n dd sl)
        ⟨ho, rfl, ⟨_, ho, rfl⟩, call_meets F.slot_tuple_mul ⟨_, ho, rfl⟩ F.entry_tuple_mul (F.args_tuple_mul_2 _ _) (tuple_mul_nil l its.toArray n dd sl t hi) ⟨ho, ?_⟩⟩)
    refine ⟨.ref s.heap.objs.size, _, I.laid (t' := s.toks) (o := .tup []) (fun b ob z => Heap.get?_push_of_some _ z) (Nat.le_refl _) ?_, rfl, q2 (by decide) _ (I.hok.fresh (Nat.le_refl _))⟩
    exact ⟨Nat.zero_le _, [], .nil, IsTup.new _ _⟩
  · cases rx
    obtain ⟨t, rfl⟩ := ry
    obtain ⟨its, r, ⟨⟨cls, dd, data, sl⟩, ho, hc, n, hd⟩, hs⟩ := I.tuple hT
    simp only at hc hd
    subst hc hd
    refine wpAny_binaryOp_repeat_ref (T := "tuple") (U := "int") (by decide) ⟨_, ho, rfl⟩ (fun s2 => typeIs_int s2 1 t) noFill_tuple_mul F.fills_int_mul F.slot_int_rmul repeat_tuple F.slot_int_index.lookup
      (call_meets F.slot_int_rmul (typeIs_int s 1 t) F.entry_int_rmul (F.args_int_rmul_2 _ _) (int_rmul_tuple 1 t l its.toArray n dd sl)
        ⟨ho, rfl, ⟨_, ho, rfl⟩, call_meets F.slot_tuple_mul ⟨_, ho, rfl⟩ F.entry_tuple_mul (F.args_tuple_mul_2 _ _) (tuple_mul_one l its.toArray n dd sl t) ⟨ho, ?_⟩⟩)
    exact ⟨.ref l, H, I, rfl, q1 rfl⟩
  · exact op_repT pins s σ H _ _ v u Q I rx ry ⟨l, k, xs, rfl, rfl, hT, hne, hk, h2, hz, q2 (by omega)⟩
end
end Fp


set_option Elab.async false
set_option linter.all false
set_option maxRecDepth 100000
set_option maxHeartbeats 4000000
namespace Fp
open PySem PySem.Spec PyProof.Rows L2
/-! ### x *= y of great numbers; xs[i] += y -/
section
variable {X : Cx}
theorem ip_mulA : PIp X .Mult (rI CMulA fun i j => .int (i * j)) := opI fun _ _ _ _ _ _ _ hc q => imul_int q (mulA_ok hc)
def rIxN (K : PySem.W.Frag) : V → V → Hp → VK → Prop := fun x y H Q => ∃ p xs i v, x = .ref p ∧ y = .int i ∧ SqL K H p xs ∧ 0 ≤ i ∧ atI xs i = some v ∧ Q v H
theorem get_listN : PGet X (rIxN X.K) := by
  intro pins s σ H x y v u Q I rx ry h
  obtain ⟨p, xs, i, z, rfl, rfl, hq, h0, he, q⟩ := h
  cases rx
  obtain ⟨t, rfl⟩ := ry
  obtain ⟨its, r, pl, hz⟩ := I.list hq
  obtain ⟨j, h1, h2, h3, h4, h5⟩ := atI_get he
  obtain ⟨w, ew, rw'⟩ := r.get h2
  have hl := r.length
  have hn := line63
  have hj : i.toNat = j := by
    rw [seqIndex_of h0 h5] at h1
    exact Option.some.inj h1
  exact wpAny_getItem_list pl.isList h0 (by omega) (by rw [hj]; simpa using ew) ⟨z, H, I, rw', q⟩
end
end Fp

set_option Elab.async false
set_option linter.all false
set_option maxRecDepth 100000
set_option maxHeartbeats 4000000
namespace Fp
open PySem PySem.Spec PyProof.Rows L2
/-! ### repr of what may be None, a number or an object -/
theorem shown_non : PyData.none.shown = ("None" : Str) := rfl
theorem shown_int (i : Int) : (PyData.int i).shown = Str.ofString (toString i) := rfl
section
variable {X : Cx}
theorem call_reprV {lv : Nat} (hq : X.A.guards = some []) (hr : Room lv X.A) : CallR X (.builtin "repr") (fun xs H Q => ∃ v d, xs = [v] ∧ (v = .non ∨ (∃ i, v = .int i) ∨ ∃ a, v = .ref a) ∧ Dp X.K H v d ∧ Shows d ∧ Q (.str d.shown) H) := by
  intro pins s σ H xs us Q I r h
  obtain ⟨v, d, rfl, hv, hd, hs, q⟩ := h
  rcases hv with rfl | ⟨i, rfl⟩ | ⟨a, rfl⟩
  · cases hd
    obtain ⟨u, rfl, ru⟩ := vals1 r
    obtain rfl : u = Value.none := ru
    exact PySem.P.repr_of_none ⟨.str PyData.none.shown, H, I.tok _, ⟨_, rfl⟩, q⟩
  · cases hd
    refine SkE.call_repr_int pins s σ H _ us Q I r ⟨i, rfl, ?_, q⟩
    have h1 := hs.1
    simp only [PyData.showable, decide_eq_true_eq] at h1
    omega
  · exact call_reprD hq hr pins s σ H _ us Q I r ⟨a, d, rfl, hd, hs, q⟩
end
end Fp


set_option Elab.async false
set_option linter.all false
set_option maxRecDepth 100000
set_option maxHeartbeats 4000000
namespace Fp
open PySem PySem.Spec PyProof.Rows L2
/-! ### enumerate(xs, start=k), of a list and of a tuple -/
/-- the items of a row as it stands, each in a new pair with its number from k on -/
def Itq (Sq : Hp → List V → Prop) (k : Int) : It :=
  ⟨fun i H => ∃ xs x, Sq H xs ∧ xs[i]? = some x, fun i H v H2 => ∃ T x, v = .ref T ∧ H T = none ∧ H2 = upd H T (.tup [.int (k + (i : Nat)), x]) ∧ ∀ zs, Sq H zs → zs[i]? = some x, fun i H => ∃ xs, Sq H xs ∧ xs.length ≤ i⟩
theorem walk_q {Sq : Hp → List V → Prop} {k : Int} {xs : List V} : Walk (Itq Sq k) xs.length (fun H => Sq H xs) (YPair (fun i => some (.int (k + (i : Nat)))) (fun i => xs[i]?)) := by
  refine ⟨fun i _ hi q => ⟨xs, xs[i], q, by simp [hi]⟩, fun _ q => ⟨xs, q, Nat.le_refl _⟩, fun i H v H2 _ q y => ?_⟩
  obtain ⟨T, x, y1, y2, y3, y4⟩ := y
  exact ⟨T, _, x, y1, y2, y3, rfl, y4 xs q⟩
section
variable {M : Model} {A : Around} {E : Value → Shared → Prop} {s : Shared} {env : Env}
theorem cw_typeKw {pos : Pos} {T : String} {args : List (Bool × Sem Value)} {kws : List (Option Str × Sem Value)} {Q : Value → Shared → Prop} (hp : args.any (·.1) = false) (hk : kws.any (·.1.isNone) = false)
    (h : wpAny M A (evalArgs (.type T) true args kws) (fun a t => wpAny M A (call (.type T) a.pos a.kw) Q E t) E s) : wpAny M A (callWith pos (.type T) [] args kws) Q E s := by
  unfold callWith
  refine wpAny_bind (wpAny_holding (wpAny_mono h (fun g t hg => wpAny_bind (wpAny_standAt ?_)) fun _ _ z => z))
  simp only [hp, hk, Bool.or_false]
  refine wpAny_bind (wpAny_pure ?_)
  exact wpAny_bind (wpAny_mono hg (fun r t2 hr => wpAny_bind (wpAny_holding (wpAny_point (wpAny_pure hr)))) fun _ _ z => z)
end
section
variable {prog : Program} {w : World} {A : Around} {E : Value → Shared → Prop} {s : Shared}
theorem enum_end_q {e it : Addr} {i : Int} {old : Value} {Q : Option Value → Shared → Prop} (ee : IsEnum s.heap e it i old)
    (dn : ∀ (Q2 : Value → Shared → Prop) (F : Value → Shared → Prop), (∀ h2 x, Heap.ExtBut it s.heap h2 → (∃ o, h2.get? x = some o ∧ o.cls = .type "StopIteration") → F (.ref x) { s with heap := h2 }) → wpAny (model prog w) A.in1 (Builtin.SmallTypes.nextOf (.ref it)) Q2 F s)
    (hQ : ∀ h2, Heap.ExtBut it s.heap h2 → Q none { s with heap := h2 }) : wpAny (model prog w) A (pyNext (.ref e)) Q E s := by
  have ty : s.TypeIs (.ref e) "enumerate" := ⟨_, ee, rfl⟩
  unfold pyNext
  refine wpAny_bind (wpAny_attempt (wpAny_callSpecial?_slot (name := Str.ofString "__next__") ty F.slot_enumerate_next (wpAny_call_entry F.slot_enumerate_next ty F.entry_enumerate_next ?_ (F.args_enumerate_next_1 _))))
  show wpAny (model prog w) _ (field (.ref e) 2 >>= _) _ _ _
  refine wpAny_bind (wpAny_field ee rfl (x := .ref it) rfl (wpAny_bind (dn _ _ fun h2 x eb ox => ?_)))
  obtain ⟨o, oe, oc⟩ := ox
  exact wpAny_bind (wpAny_isInstance (T := "StopIteration") (b := true) ⟨o, oe, oc⟩ isSubtype_stop (wpAny_pure (hQ _ eb)))
end
theorem turn_qL {P : Program} {w : World} {K : PySem.W.Frag} {elts : List Expr} {kk : Nat} {tpos : Pos} (k : Int) (a e it : Addr) :
    Turn P w K (.Tuple elts kk tpos) (Itq (fun H xs => SqL K H a xs) k) [e, it] e (fun i h => (∃ old, IsEnum h e it (k + (i : Nat)) old) ∧ h.IsListIter it a i ∧ e ≠ it) where
  mem := by simp
  obj := fun i h st b hb => by
    obtain ⟨⟨_, ee⟩, ⟨o, oe, _, od⟩, _⟩ := st
    rcases (show b = e ∨ b = it by simpa using hb) with z | z
    · subst z
      exact ⟨_, ee, fun v q => nomatch q⟩
    · subst z
      exact ⟨o, oe, fun v q => by rw [od] at q; cases q⟩
  keep := fun i h h2 st kp => by
    obtain ⟨⟨old, ee⟩, ie, hne⟩ := st
    exact ⟨⟨old, kp e (by simp) _ ee⟩, ie.at fun o q => kp it (by simp) o q, hne⟩
  item := by
    intro Y yP yw yK yc i pn s sl H F I hf st hg
    subst yP yw yK
    obtain ⟨⟨old, ee⟩, ie, hne⟩ := st
    obtain ⟨xs, x, sq, ex⟩ := hg
    obtain ⟨vs, rv, po, _⟩ := I.list sq
    obtain ⟨u, eu, ru⟩ := rv.get ex
    have oa : s.heap.IsList a vs.toArray := po.isList
    have ai : a ≠ it := fun z => by
      subst z
      obtain ⟨o1, q1, c1, _⟩ := ie
      obtain ⟨o2, q2, c2, _⟩ := id oa
      rw [q1] at q2
      cases q2
      rw [c1] at c2
      injection c2 with c3
      exact absurd c3 (by decide)
    have ae : e ≠ a := fun z => by
      subst z
      obtain ⟨o2, q2, c2, _⟩ := id oa
      have q1 : s.heap.get? e = _ := ee
      rw [q1] at q2
      cases q2
      have c3 := c2
      injection c3 with c4
      exact absurd c4 (by decide)
    have le : e < s.heap.objs.size := Heap.lt_size ee
    have li : it < s.heap.objs.size := by
      obtain ⟨_, q, _⟩ := ie
      exact Heap.lt_size q
    have hi : i < vs.toArray.size := by
      have := (List.getElem?_eq_some_iff.mp eu).1
      simpa using this
    refine wpAny_pyNext_enum_itemC (Draws.list (A := Y.A.in1) (show Y.A.in1.handled = none from I.ok.hd yc) it a ai vs.toArray) ee ⟨ie, oa⟩ hi hne (by simp [hne, ae]) fun u2 h2 tk pu oe st2 oT zT kp => ?_
    have e2 : u2 = u := by
      have : vs[i]? = some u2 := by simpa using pu
      rw [eu] at this
      exact Option.some.inj this.symm
    subst e2
    refine ⟨_, rfl, wpAny_letOwnedTupleGo_enum (s := { s with heap := h2, toks := tk + 1 }) oe fun h3 ee3 sb => ?_⟩
    have oT3 := (sb.2 _ (Nat.ne_of_gt le)).trans oT
    have new : ObjOk Y.prog Y.w (upd H s.heap.objs.size (.tup [.int (k + (i : Nat)), x])) h3 s.heap.objs.size (.tup [.int (k + (i : Nat)), x]) :=
      ⟨by show 2 ≤ sizeLine; decide, [.int (k + (i : Nat)) tk, u2], .cons ⟨_, rfl⟩ (.cons ru .nil), ⟨_, oT3, rfl, _, rfl⟩⟩
    have I3 : Inv Y pn sl (upd H s.heap.objs.size (.tup [.int (k + (i : Nat)), x])) { s with heap := h3, toks := tk + 1 } := by
      refine I.turnedNew (ch := [e, it]) (fun b ob hb q => ?_) hf (Nat.le_refl _) new
      exact (sb.2 b fun z => hb (by simp [z])).trans (kp b ob (fun z => hb (by simp [z])) (fun z => hb (by simp [z])) q)
    refine ⟨.ref s.heap.objs.size, _, I3, rfl, ⟨_, x, rfl, I.hok.fresh (Nat.le_refl _), rfl, fun zs hz => ?_⟩, ⟨⟨u2, ?_⟩, st2.1.at fun o q => (sb.2 it (Ne.symm hne)).trans q, hne⟩, fun b hb => ?_⟩
    · rw [I.list_inj hz sq]
      exact ex
    · rw [show k + ((i + 1 : Nat) : Int) = k + (i : Int) + 1 by omega]
      exact ee3
    · have lb : b < s.heap.objs.size := by
        rcases (show b = e ∨ b = it by simpa using hb) with z | z
        · rw [z]
          exact le
        · rw [z]
          exact li
      rw [upd_ne (Nat.ne_of_lt lb)]
      exact (hf b hb).1
  done := by
    intro Y yP yw yK yc i pn s sl H F I hf st hg
    subst yP yw yK
    obtain ⟨⟨old, ee⟩, ie, hne⟩ := st
    obtain ⟨xs, sq, hx⟩ := hg
    obtain ⟨vs, rv, po, _⟩ := I.list sq
    have oa : s.heap.IsList a vs.toArray := po.isList
    obtain ⟨g0, g1, g2, g3, g4, g5⟩ := hf it (by simp)
    have hl := rv.length
    have ai : a ≠ it := fun z => by
      subst z
      obtain ⟨o1, q1, c1, _⟩ := ie
      obtain ⟨o2, q2, c2, _⟩ := id oa
      rw [q1] at q2
      cases q2
      rw [c1] at c2
      injection c2 with c3
      exact absurd c3 (by decide)
    exact enum_end_q ee (fun Q2 F2 hQ2 => wpAny_nextOf_list_end (show Y.A.in1.handled = none from I.ok.hd yc) ie oa (by simp; omega) hQ2) fun h2 eb => ⟨rfl, I.turned (t' := s.toks) (fun b o hb q => eb b o hb q) g0 g1 g3 g4 g5⟩
  self := fun A2 i s Q F st h => by
    obtain ⟨⟨_, ee⟩, _⟩ := st
    exact wpAny_pyIter_enum ee h
theorem turn_qT {P : Program} {w : World} {K : PySem.W.Frag} {elts : List Expr} {kk : Nat} {tpos : Pos} (k : Int) (a e it : Addr) :
    Turn P w K (.Tuple elts kk tpos) (Itq (fun H xs => SqT K H a xs) k) [e, it] e (fun i h => (∃ old, IsEnum h e it (k + (i : Nat)) old) ∧ h.IsTupleIter it a i ∧ e ≠ it) where
  mem := by simp
  obj := fun i h st b hb => by
    obtain ⟨⟨_, ee⟩, ⟨o, oe, _, od⟩, _⟩ := st
    rcases (show b = e ∨ b = it by simpa using hb) with z | z
    · subst z
      exact ⟨_, ee, fun v q => nomatch q⟩
    · subst z
      exact ⟨o, oe, fun v q => by rw [od] at q; cases q⟩
  keep := fun i h h2 st kp => by
    obtain ⟨⟨old, ee⟩, ie, hne⟩ := st
    exact ⟨⟨old, kp e (by simp) _ ee⟩, ie.at fun o q => kp it (by simp) o q, hne⟩
  item := by
    intro Y yP yw yK yc i pn s sl H F I hf st hg
    subst yP yw yK
    obtain ⟨⟨old, ee⟩, ie, hne⟩ := st
    obtain ⟨xs, x, sq, ex⟩ := hg
    obtain ⟨vs, rv, po, _⟩ := I.tuple sq
    obtain ⟨u, eu, ru⟩ := rv.get ex
    have oa : s.heap.IsTuple a vs.toArray := po
    have ai : a ≠ it := fun z => by
      subst z
      obtain ⟨o1, q1, c1, _⟩ := ie
      obtain ⟨o2, q2, c2, _⟩ := id oa
      rw [q1] at q2
      cases q2
      rw [c1] at c2
      injection c2 with c3
      exact absurd c3 (by decide)
    have ae : e ≠ a := fun z => by
      subst z
      obtain ⟨o2, q2, c2, _⟩ := id oa
      have q1 : s.heap.get? e = _ := ee
      rw [q1] at q2
      cases q2
      have c3 := c2
      injection c3 with c4
      exact absurd c4 (by decide)
    have le : e < s.heap.objs.size := Heap.lt_size ee
    have li : it < s.heap.objs.size := by
      obtain ⟨_, q, _⟩ := ie
      exact Heap.lt_size q
    have hi : i < vs.toArray.size := by
      have := (List.getElem?_eq_some_iff.mp eu).1
      simpa using this
    refine wpAny_pyNext_enum_itemC (Draws.tuple (A := Y.A.in1) (show Y.A.in1.handled = none from I.ok.hd yc) it a ai vs.toArray) ee ⟨ie, oa⟩ hi hne (by simp [hne, ae]) fun u2 h2 tk pu oe st2 oT zT kp => ?_
    have e2 : u2 = u := by
      have : vs[i]? = some u2 := by simpa using pu
      rw [eu] at this
      exact Option.some.inj this.symm
    subst e2
    refine ⟨_, rfl, wpAny_letOwnedTupleGo_enum (s := { s with heap := h2, toks := tk + 1 }) oe fun h3 ee3 sb => ?_⟩
    have oT3 := (sb.2 _ (Nat.ne_of_gt le)).trans oT
    have new : ObjOk Y.prog Y.w (upd H s.heap.objs.size (.tup [.int (k + (i : Nat)), x])) h3 s.heap.objs.size (.tup [.int (k + (i : Nat)), x]) :=
      ⟨by show 2 ≤ sizeLine; decide, [.int (k + (i : Nat)) tk, u2], .cons ⟨_, rfl⟩ (.cons ru .nil), ⟨_, oT3, rfl, _, rfl⟩⟩
    have I3 : Inv Y pn sl (upd H s.heap.objs.size (.tup [.int (k + (i : Nat)), x])) { s with heap := h3, toks := tk + 1 } := by
      refine I.turnedNew (ch := [e, it]) (fun b ob hb q => ?_) hf (Nat.le_refl _) new
      exact (sb.2 b fun z => hb (by simp [z])).trans (kp b ob (fun z => hb (by simp [z])) (fun z => hb (by simp [z])) q)
    refine ⟨.ref s.heap.objs.size, _, I3, rfl, ⟨_, x, rfl, I.hok.fresh (Nat.le_refl _), rfl, fun zs hz => ?_⟩, ⟨⟨u2, ?_⟩, st2.1.at fun o q => (sb.2 it (Ne.symm hne)).trans q, hne⟩, fun b hb => ?_⟩
    · rw [I.tuple_inj hz sq]
      exact ex
    · rw [show k + ((i + 1 : Nat) : Int) = k + (i : Int) + 1 by omega]
      exact ee3
    · have lb : b < s.heap.objs.size := by
        rcases (show b = e ∨ b = it by simpa using hb) with z | z
        · rw [z]
          exact le
        · rw [z]
          exact li
      rw [upd_ne (Nat.ne_of_lt lb)]
      exact (hf b hb).1
  done := by
    intro Y yP yw yK yc i pn s sl H F I hf st hg
    subst yP yw yK
    obtain ⟨⟨old, ee⟩, ie, hne⟩ := st
    obtain ⟨xs, sq, hx⟩ := hg
    obtain ⟨vs, rv, po, _⟩ := I.tuple sq
    have oa : s.heap.IsTuple a vs.toArray := po
    obtain ⟨g0, g1, g2, g3, g4, g5⟩ := hf it (by simp)
    have hl := rv.length
    have ai : a ≠ it := fun z => by
      subst z
      obtain ⟨o1, q1, c1, _⟩ := ie
      obtain ⟨o2, q2, c2, _⟩ := id oa
      rw [q1] at q2
      cases q2
      rw [c1] at c2
      injection c2 with c3
      exact absurd c3 (by decide)
    exact enum_end_q ee (fun Q2 F2 hQ2 => wpAny_nextOf_tuple_end (show Y.A.in1.handled = none from I.ok.hd yc) ie oa (by simp; omega) hQ2) fun h2 eb => ⟨rfl, I.turned (t' := s.toks) (fun b o hb q => eb b o hb q) g0 g1 g3 g4 g5⟩
  self := fun A2 i s Q F st h => by
    obtain ⟨⟨_, ee⟩, _⟩ := st
    exact wpAny_pyIter_enum ee h
def iQL (K : PySem.W.Frag) (k : Int) (ta : TA) : TI := fun σ H R => ta σ H fun vs H1 => ∃ a xs, vs = [.ref a] ∧ SqL K H1 a xs ∧ R (Itq (fun H xs => SqL K H a xs) k) H1
theorem pi_qL {X : Cx} {e : Expr} {ta : TA} {p pos tpos kp cp : Pos} {elts : List Expr} {kk jj : Nat} {k : Int} (k0 : -(2 ^ 63) ≤ k) (k1 : k < 2 ^ 63) (hg : Gl X "enumerate") (hm : X.mg "enumerate" = none) (ha : PA X [e] ta) (hs : starEach [e] X.env = [(false, eval e X.env)] := by rfl) :
    PI X (.Tuple elts kk tpos) (.Call (.Name "enumerate" p) [e] [⟨some "start", .Constant (.int k) jj cp, kp⟩] pos) (iQL X.K k ta) := by
  refine ⟨fun pn s sl H R I h => wpAny_Call_Name_kw (ld_blt I hg hm boot_enumerate ?_)⟩
  have he : backTo pos (starEach [e] X.env) = (false, eval e X.env) :: [] := by
    rw [hs]
    rfl
  refine cw_typeKw (by rw [he]; rfl) (by rfl) ?_
  have go := ha.run pos pn s sl H _ I h
  rw [he] at go ⊢
  refine evalArgs_kwB (by rfl) (thn go fun us s1 z1 => ?_)
  obtain ⟨vs, H1, I1, r1, q1⟩ := z1
  have pkw : PK X [⟨some "start", .Constant (.int k) jj cp, kp⟩] (tCons (tC (.int k)) tNil) := pk_cons pe_int pk_nil
  refine thn (pkw.run pos pn s1 sl H1 (fun zs H2 => zs = [.int k] ∧ H2 = H1) I1 ⟨rfl, rfl⟩) fun ws s2 z2 => ?_
  obtain ⟨zs, H2, I2, r2, rfl, rfl⟩ := z2
  obtain ⟨a, xs, rfl, sq, q⟩ := q1
  cases r1 with
  | cons ra rn =>
    cases rn
    cases ra
    cases r2 with
    | cons rk rn =>
      cases rn
      obtain ⟨tk, rfl⟩ := rk
      obtain ⟨us, rv, po, _⟩ := I2.list sq
      have oa : s2.heap.IsList a us.toArray := po.isList
      refine enum_begins_start (begins_list a us.toArray) oa k0 k1 fun h2 ee oi _ kp2 => wpAny_pyIter_enum ee ?_
      have I3 : Inv X pn sl H2 { s2 with heap := h2 } := I2.kept (t' := s2.toks) kp2
      refine ⟨s2.heap.objs.size + 1, [s2.heap.objs.size + 1, s2.heap.objs.size], _, _, H2, rfl, I3, turn_qL k a (s2.heap.objs.size + 1) s2.heap.objs.size, ⟨⟨.none, ?_⟩, ⟨_, oi, rfl, rfl⟩, Nat.succ_ne_self _⟩, fun b hb => ?_, q⟩
      · rw [show k + ((0 : Nat) : Int) = k by omega]
        exact ee
      · have lb : s2.heap.objs.size ≤ b := by
          rcases (show b = s2.heap.objs.size + 1 ∨ b = s2.heap.objs.size by simpa using hb) with z | z
          · rw [z]
            exact Nat.le_add_right _ _
          · rw [z]
            exact Nat.le_refl _
        exact I2.fpOk lb (I2.hok.fresh lb)
def iQT (K : PySem.W.Frag) (k : Int) (ta : TA) : TI := fun σ H R => ta σ H fun vs H1 => ∃ a xs, vs = [.ref a] ∧ SqT K H1 a xs ∧ R (Itq (fun H xs => SqT K H a xs) k) H1
theorem pi_qT {X : Cx} {e : Expr} {ta : TA} {p pos tpos kp cp : Pos} {elts : List Expr} {kk jj : Nat} {k : Int} (k0 : -(2 ^ 63) ≤ k) (k1 : k < 2 ^ 63) (hg : Gl X "enumerate") (hm : X.mg "enumerate" = none) (ha : PA X [e] ta) (hs : starEach [e] X.env = [(false, eval e X.env)] := by rfl) :
    PI X (.Tuple elts kk tpos) (.Call (.Name "enumerate" p) [e] [⟨some "start", .Constant (.int k) jj cp, kp⟩] pos) (iQT X.K k ta) := by
  refine ⟨fun pn s sl H R I h => wpAny_Call_Name_kw (ld_blt I hg hm boot_enumerate ?_)⟩
  have he : backTo pos (starEach [e] X.env) = (false, eval e X.env) :: [] := by
    rw [hs]
    rfl
  refine cw_typeKw (by rw [he]; rfl) (by rfl) ?_
  have go := ha.run pos pn s sl H _ I h
  rw [he] at go ⊢
  refine evalArgs_kwB (by rfl) (thn go fun us s1 z1 => ?_)
  obtain ⟨vs, H1, I1, r1, q1⟩ := z1
  have pkw : PK X [⟨some "start", .Constant (.int k) jj cp, kp⟩] (tCons (tC (.int k)) tNil) := pk_cons pe_int pk_nil
  refine thn (pkw.run pos pn s1 sl H1 (fun zs H2 => zs = [.int k] ∧ H2 = H1) I1 ⟨rfl, rfl⟩) fun ws s2 z2 => ?_
  obtain ⟨zs, H2, I2, r2, rfl, rfl⟩ := z2
  obtain ⟨a, xs, rfl, sq, q⟩ := q1
  cases r1 with
  | cons ra rn =>
    cases rn
    cases ra
    cases r2 with
    | cons rk rn =>
      cases rn
      obtain ⟨tk, rfl⟩ := rk
      obtain ⟨us, rv, po, _⟩ := I2.tuple sq
      have oa : s2.heap.IsTuple a us.toArray := po
      refine enum_begins_start (begins_tuple a us.toArray) oa k0 k1 fun h2 ee oi _ kp2 => wpAny_pyIter_enum ee ?_
      have I3 : Inv X pn sl H2 { s2 with heap := h2 } := I2.kept (t' := s2.toks) kp2
      refine ⟨s2.heap.objs.size + 1, [s2.heap.objs.size + 1, s2.heap.objs.size], _, _, H2, rfl, I3, turn_qT k a (s2.heap.objs.size + 1) s2.heap.objs.size, ⟨⟨.none, ?_⟩, ⟨_, oi, rfl, rfl⟩, Nat.succ_ne_self _⟩, fun b hb => ?_, q⟩
      · rw [show k + ((0 : Nat) : Int) = k by omega]
        exact ee
      · have lb : s2.heap.objs.size ≤ b := by
          rcases (show b = s2.heap.objs.size + 1 ∨ b = s2.heap.objs.size by simpa using hb) with z | z
          · rw [z]
            exact Nat.le_add_right _ _
          · rw [z]
            exact Nat.le_refl _
        exact I2.fpOk lb (I2.hok.fresh lb)
end Fp

set_option Elab.async false
set_option linter.all false
namespace Fp
open PySem PySem.Spec PyProof.Rows L2
/-! ### isinstance of whole numbers -/
theorem int_bool (K : PySem.W.Frag) : PySem.W.kitOne K (.type "int") (.type "bool") = some false := by
  first | rfl | (unfold PySem.W.kitOne; rfl) | (unfold PySem.W.kitOne PySem.W.kitCls; simp) | skip
end Fp

set_option Elab.async false
set_option linter.all false
set_option maxRecDepth 100000
set_option maxHeartbeats 4000000
namespace Fp
open PySem PySem.Spec PyProof.Rows L2
/-! ### dicts with pairs of whole numbers as keys: values, sorted -/
section
variable {prog : Program} {w : World} {A : Around} {E : Value → Shared → Prop} {s : Shared} {o : Obj} {es : Array DictEntry} {ep : Nat}
theorem meetsVals {d : Addr} (hd : (d == sysModules) = false) :
    MeetsIn prog w (Builtin.«dict.values» ⟨[.ref d], []⟩) (fun _ R s => DT.Raw s.heap d es ep ∧
      R (.ok (.ret (.ref s.heap.objs.size))) { s with heap := s.heap.push (DSub.viewOb "dict_values" d) }) :=
  .of_wp fun A R s ⟨hm, h⟩ => by
    unfold Builtin.«dict.values»
    refine wpAny_bind ?_
    unfold Builtin.Dict.noArgs
    refine wpAny_bind (wpAny_notOrdered_dict hm.typeIs ?_)
    show wpAny _ _ (pure d) _ _ s
    refine wpAny_pure ?_
    show wpAny _ _ (Builtin.Dict.showsAll d >>= _) _ _ s
    unfold Builtin.Dict.showsAll
    rw [if_neg (by rw [hd]; exact Bool.false_ne_true)]
    refine wpAny_bind (wpAny_pure ?_)
    exact wpAny_bind (wpAny_newObj_type (wpAny_pure ⟨_, rfl, h⟩))
theorem callVals {d : Addr} {Q : Value → Shared → Prop} (hd : (d == sysModules) = false) (hm : DT.Raw s.heap d es ep) (h : Q (.ref s.heap.objs.size) { s with heap := s.heap.push (DSub.viewOb "dict_values" d) }) : wpAny (model prog w) A (call (.builtin "dict.values") [.ref d]) Q E s :=
  call_meetsIn PySem.F.slot_dict_values hm.typeIs PySem.F.entry_dict_values (PySem.F.args_dict_values_1 _) (meetsVals (es := es) (ep := ep) hd) ⟨hm, h⟩
theorem kdl_rawV {r d : Addr} (hd : o.data = .dict es ep) :
    PySem.W.KdlSrc prog w "dict_values" r d es.size (fun i v => ∃ en : DictEntry, es[i]? = some en ∧ v = en.val) (fun h => h.get? r = some (DSub.viewOb "dict_values" d) ∧ h.get? d = some o) where
  type := fun _ hm => ⟨_, hm.1, rfl⟩
  there := fun _ hm => ⟨Heap.lt_size hm.1, Heap.lt_size hm.2⟩
  keep := fun _ _ hm hk => ⟨hk r (.inl rfl) _ hm.1, hk d (.inr rfl) _ hm.2⟩
  notList := by decide
  notTuple := by decide
  hint := fun _ _ s _ hm hq => PySem.W.kdl_hint_values (s := s) ⟨_, hm.1, rfl⟩ hq
  iter := fun _ s hh hm => ⟨_, _, (fun _ _ hq => DSub.iter_vals hm.1 hm.2 hd hq), DSub.walksVal hh (Nat.ne_of_lt (Heap.lt_size hm.2)) hd (fun i e he => ⟨e, he, rfl⟩), ⟨Heap.get?_push_size _ rfl, Heap.get?_push_of_some _ hm.2⟩⟩
end
section
variable {X : Cx}
def rValuesT : V → List V → Hp → VK → Prop := fun x xs H Q => ∃ (a : Addr) (kvs : List (List L2.Key × V)), x = .ref a ∧ xs = [] ∧ H a = some (.dT kvs) ∧ ∀ p, H p = none → Q (.ref p) (upd H p (viewO "dict_values" p a))
theorem mt_valuesT : MtR X "dict.values" rValuesT := by
  intro pins s σ H x xs v us Q I rx rxs h
  obtain ⟨a, kvs, rfl, rfl, ha, q⟩ := h
  cases rx
  cases rxs
  obtain ⟨z, hd, xs', rel, o, es, ep, ho, hx, hdat, _⟩ := dt_of I.hok ha
  refine callVals (es := es) (ep := ep) hd ⟨o, ho, hx, hdat⟩ ?_
  have hf : H s.heap.objs.size = none := I.hok.fresh (Nat.le_refl _)
  exact ⟨.ref s.heap.objs.size, upd H s.heap.objs.size (viewO "dict_values" s.heap.objs.size a), I.laid (t' := s.toks) (fun b u e => Heap.get?_push_of_some _ e) (Nat.le_refl _) (viewO_ok (Heap.get?_push_size _ rfl)), rfl, q _ hf⟩
theorem vals_pairs {H : Hp} : ∀ {kvs : List (List L2.Key × V)} {ks : List (List L2.Key × Addr × Value)}, Paired (fun (p : List L2.Key × V) (q : List L2.Key × Addr × Value) => p.1 = q.1 ∧ H q.2.1 = some (.tup (p.1.map kV)) ∧ RelV p.2 q.2.2) kvs ks → Vals (kvs.map (·.2)) (ks.map (·.2.2))
  | _, _, .nil => .nil
  | _, _, .cons h t => .cons h.2.2 (vals_pairs t)
/-- what is gathered of a dict's entries -/
theorem got_is {α : Type} {f : DictEntry → Value} {g : α → DictEntry} {rows : Array DictEntry} {ks : List α} {got : Array Value} (e : rows.toList = ks.map g) (its : ItemsOf (fun i v => ∃ en : DictEntry, rows[i]? = some en ∧ v = f en) got rows.size) : got.toList = ks.map fun b => f (g b) := by
  have hl : rows.size = ks.length := by rw [← Array.length_toList, e, List.length_map]
  refine List.ext_getElem (by rw [Array.length_toList, its.1, List.length_map, hl]) fun j h1 h2 => ?_
  obtain ⟨en, h3, h4⟩ := its.2 j got.toList[j] (by rw [← Array.getElem?_toList]; exact List.getElem?_eq_getElem h1)
  rw [h4, List.getElem_map]
  rw [← Array.getElem?_toList, e, List.getElem?_map, List.getElem?_eq_getElem (by simpa using h2)] at h3
  rw [← Option.some.inj h3]
/-- list(d.values()) -/
theorem call_list_valsT (hc : X.calm = true) : CallR X (.type "list") (fun xs H Q => ∃ v d kvs, xs = [V.ref v] ∧ H v = some (viewO "dict_values" v d) ∧ H d = some (.dT kvs) ∧ ∀ p, H p = none → Q (.ref p) (upd H p (.lst (kvs.map (·.2))))) := by
  intro pins s σ H xs us Q I r h
  obtain ⟨v, d, kvs, rfl, hv, hd, q⟩ := h
  obtain ⟨u, rfl, rx⟩ := r.one
  cases rx
  have hv2 : s.heap.get? v = some (DSub.viewOb "dict_values" d) := (show ObjOk X.prog X.w H s.heap v (viewO "dict_values" v d) from I.hok v _ hv).1
  obtain ⟨z, hs, ks, pr, o, es, ep, ho, hx, hdt, he, hn⟩ := (show ObjOk X.prog X.w H s.heap d (.dT kvs) from I.hok d _ hd)
  have l1 : es.size = ks.length := size_of_entries he
  have l2 : kvs.length = ks.length := Paired.length pr
  refine PySem.W.kdl_call (kdl_rawV (r := v) hdt) (I.ok.hd hc) ⟨hv2, ho⟩ (by omega) fun h' tk acc' c' kp e it => ?_
  have ea : acc'.toList = ks.map fun x => x.2.2 := got_is (f := fun en => en.val) he it
  have rv : Vals (kvs.map (·.2)) acc'.toList := by rw [ea]; exact vals_pairs pr
  have hz : (kvs.map (·.2)).length ≤ sizeLine := by rw [List.length_map]; omega
  refine ⟨.ref s.heap.objs.size, _, I.laid (t' := tk) (o := .lst (kvs.map (·.2))) kp (Nat.le_refl _) ?_, rfl, q _ (I.hok.fresh (Nat.le_refl _))⟩
  exact ⟨hz, acc'.toList, c', rv, by rw [Array.toArray_toList]; exact e⟩
/-- what is gathered, and that the heap grew -/
theorem gathered {prog : Program} {w : World} {A : Around} {E : Value → Shared → Prop} {st : Shared} {T : String} {r d : Addr} {n : Nat} {I0 : Nat → Value → Prop} {ok : Heap → Prop} {R : List Value → Shared → Prop} (src : PySem.W.KdlSrc prog w T r d n I0 ok) (ah : A.handled = none) (o0 : ok st.heap) (small : n ≤ sizeLine)
    (go : ∀ (g : Heap) (k : Nat) (got : Array Value), (∀ b u, st.heap.get? b = some u → g.get? b = some u) → st.heap.objs.size ≤ g.objs.size → ItemsOf I0 got n → R got.toList { st with heap := g, toks := k }) : wpAny (model prog w) A (collect (.ref r)) R E st := by
  obtain ⟨lr, ld⟩ := src.there _ o0
  unfold collect
  refine wpAny_bind <| wpAny_runValue <| codeAny_builtin entry_proto_collect' ?_
  rw [(Around.under_plainId PySem.F.plain_proto_collect _)]
  show wpAny _ (A.in1) (newList [] >>= (fun l => again (.builtin "list.__iadd__" ⟨[l, .ref r], []⟩))) _ _ st
  refine wpAny_bind <| wpAny_newObj_type <| wpAny_pure ⟨plainId_quiet PySem.F.plain_list_iadd _, codeAny_builtin entry_list_iadd' ?_⟩
  rw [(Around.under_plainId PySem.F.plain_list_iadd _)]
  have hl0 : (st.heap.push { cls := .type "list", data := .seq ([] : List Value).toArray }).get? st.heap.objs.size = some { cls := .type "list", data := .seq #[] } := Heap.get?_push_size _ (rfl)
  show wpAny _ (A.in1) (Builtin.List.listExtendWith (.ref st.heap.objs.size) (.ref r) (.ref st.heap.objs.size)) _ _ _
  have all := PySem.W.kdl_extend (A := A) (s := { st with heap := st.heap.push { cls := .type "list", data := .seq ([] : List Value).toArray } }) (R := fun (res : Result) (z : Shared) => ∃ (g : Heap) (k : Nat) (got : Array Value) (c : Nat), res = .ok (.ret (.ref st.heap.objs.size)) ∧ z = { st with heap := g, toks := k } ∧ (∀ b u, st.heap.get? b = some u → g.get? b = some u) ∧ g.get? st.heap.objs.size = some { cls := .type "list", dict := none, data := .seq got c, slots := #[] } ∧ ItemsOf I0 got n)
    src ah (src.keep _ _ o0 fun b _ u x => Heap.get?_push_of_some _ x) st.heap.objs.size (Nat.ne_of_gt lr) (Nat.ne_of_gt ld) (.ref st.heap.objs.size) 0 hl0 (fun g k got c kp at0 its => ⟨g, k, got, c, rfl, rfl, fun b u x => kp b u (Nat.ne_of_lt (Heap.lt_size x)) (Heap.get?_push_of_some _ x), at0, its⟩) small
  refine wpAny_mono all (fun f z y => ?_) fun f z y => ?_
  · cases f with
    | done f0 =>
      obtain ⟨g, k, got, c, ef, rfl, kp, at0, its⟩ := y
      cases ef
      show wpAny _ A (load st.heap.objs.size >>= _) _ _ _
      exact wpAny_bind <| wpAny_load at0 <| wpAny_pure <| go g k got kp (Nat.le_of_lt (Heap.lt_size at0)) its
    | again c1 =>
      refine ⟨y.1, codeAny_mono y.2 fun res z2 y2 => ?_⟩
      obtain ⟨g, k, got, c, rfl, rfl, kp, at0, its⟩ := y2
      show wpAny _ A (load st.heap.objs.size >>= _) _ _ _
      exact wpAny_bind <| wpAny_load at0 <| wpAny_pure <| go g k got kp (Nat.le_of_lt (Heap.lt_size at0)) its
  · obtain ⟨_, _, _, _, ef, _⟩ := y
    cases ef
/-- sorted(d), d with pairs of whole numbers as keys -/
def rSortedT : List V → Hp → VK → Prop := fun vs H Q => ∃ (d : Addr) (kvs : List (List L2.Key × V)), vs = [V.ref d] ∧ H d = some (.dT kvs) ∧ (∀ e ∈ kvs, ∃ i j : Int, e.1 = [.inl i, .inl j]) ∧
  ∀ (ys : List V) (bs : List Addr) (k : V → Int × Int) (p : Addr), IsKeys H kvs bs → (∀ x ∈ bs.map V.ref, ∃ t, x = V.ref t ∧ H t = some (.tup [.int (k x).1, .int (k x).2])) → SrtO.Srtd (ltP k) ys → SrtO.Stb (ltP k) ys (bs.map V.ref) → H p = none → Q (.ref p) (upd H p (.lst ys))
noncomputable def pairAt (H : Hp) (x : V) : Int × Int := match x with
  | .ref t => match H t with
    | some (.tup [.int i, .int j]) => (i, j)
    | _ => (0, 0)
  | _ => (0, 0)
theorem keys_pairs {H : Hp} : ∀ {kvs : List (List L2.Key × V)} {bs : List Addr}, IsKeys H kvs bs → (∀ e ∈ kvs, ∃ i j : Int, e.1 = [.inl i, .inl j]) → ∀ x ∈ bs.map V.ref, ∃ t, x = V.ref t ∧ H t = some (.tup [.int (pairAt H x).1, .int (pairAt H x).2])
  | _, _, .nil, _, x, hx => by simp at hx
  | _, _, .cons (b := b) h t, hk, x, hx => by
    rcases List.mem_cons.mp hx with z | z
    · obtain ⟨i, j, e⟩ := hk _ (List.mem_cons_self ..)
      have h2 : H b = some (.tup [.int i, .int j]) := by
        rw [h, e]
        rfl
      refine ⟨b, z, ?_⟩
      rw [z]
      show H b = some (.tup [.int (pairAt H (.ref b)).1, .int (pairAt H (.ref b)).2])
      have e9 : pairAt H (.ref b) = (i, j) := by
        unfold pairAt
        simp only [h2]
      rw [e9, h2]
    · exact keys_pairs t (fun e he => hk e (List.mem_cons_of_mem _ he)) x z
theorem cr_sortedT (hc : X.calm = true) : CallR X (.builtin "sorted") rSortedT := by
  intro pins s σ H xs us Q I r h
  obtain ⟨d, kvs, rfl, hd, hkey, q⟩ := h
  obtain ⟨u, rfl, rx⟩ := vals1 r
  obtain rfl : u = Value.ref d := rx
  obtain ⟨z, hs, ks, pr, o, es, ep, ho, hx, hdt, he, hn⟩ := (show ObjOk X.prog X.w H s.heap d (.dT kvs) from I.hok d _ hd)
  have l1 : es.size = ks.length := size_of_entries he
  have l2 : kvs.length = ks.length := Paired.length pr
  have IK : IsKeys H kvs (ks.map fun x => x.2.1) := isKeys_of pr
  have hp := keys_pairs IK hkey
  refine PySem.Calls.call_function_entry kind_sorted plain_sorted entry_sorted (args_sorted1 _) ?_
  unfold Builtin.«sorted»
  refine wpAny_bind (m := checkCount "sorted" 1 1 _) (wpAny_pure ?_)
  refine wpAny_bind (gathered (A := X.A.in1) (kdl_raw hs hx hdt) (I.ok.hd hc) ho (by omega) fun h' tk acc hk hLn hacc => ?_)
  have ea : acc.toList = (ks.map fun x => x.2.1).map Value.ref := by
    rw [got_is (f := fun en => en.key) he hacc, List.map_map]
    rfl
  have hl : acc.toList.length ≤ sizeLine := by
    rw [ea, List.length_map, List.length_map]
    omega
  refine wpAny_bind (wpAny_newList ?_ hl)
  have hoL : (h'.push (seqObj "list" acc.toList.toArray 0)).get? h'.objs.size = some (seqObj "list" acc.toList.toArray 0) := Heap.get?_push_size _ rfl
  have keep : ∀ b o, s.heap.get? b = some o → b ≠ h'.objs.size ∧ (h'.push (seqObj "list" acc.toList.toArray 0)).get? b = some o := fun b o e => ⟨Nat.ne_of_lt (Heap.lt_size (hk _ _ e)), Heap.get?_push_of_some _ (hk _ _ e)⟩
  have hpair : ∀ v ∈ acc.toList, Srt.IsPair (h'.push (seqObj "list" acc.toList.toArray 0)) v (pairAt H (backV v)).1 (pairAt H (backV v)).2 := fun v hv => by
    rw [ea] at hv
    obtain ⟨b, hb, rfl⟩ := List.mem_map.mp hv
    obtain ⟨t, e, ht⟩ := hp (V.ref b) (List.mem_map.mpr ⟨b, hb, rfl⟩)
    cases e
    obtain ⟨_, its2, r2, o2, ho2, hc2, n2, hd2⟩ := I.hok _ _ ht
    obtain ⟨u1, u2, rfl, ri, rj⟩ := vals2 r2
    obtain ⟨t1, rfl⟩ := ri
    obtain ⟨t2, rfl⟩ := rj
    exact ⟨b, o2, t1, t2, n2, rfl, (keep _ _ ho2).2, hc2, hd2⟩
  show wpAny _ _ _ _ _ { s with heap := h'.push (seqObj "list" acc.toList.toArray 0), toks := tk }
  refine wpAny_bind (wpAny_holding (wpAny_call_entry slot_list_sort ⟨_, hoL, rfl⟩ entry_list_sort (SrtO.list_sort_ord (s := { s with heap := h'.push (seqObj "list" acc.toList.toArray 0), toks := tk }) (SrtO.swo_lex fun u => pairAt H (backV u)) hoL hl (fun h2 => SrtO.pairs_sortableO (by omega) hpair fun o2 e2 => ?_) fun out h1 h2 => ⟨_, rfl, ?_⟩) (args_list_sort _)))
  · have e' : some o2 = some (seqObj "list" acc.toList.toArray 0) := e2.symm.trans hoL
    cases e'
    intro c
    exact absurd (Value.type.inj c) (by decide)
  refine wpAny_pure ⟨_, rfl, ?_⟩
  have e1 : (ks.map fun x => x.2.1).map V.ref = acc.toList.map backV := by
    rw [ea]
    simp only [List.map_map]
    rfl
  have h3 : ∀ u ∈ out, ∃ a, u = Value.ref a := fun u hu => by
    have := h2.perm.mem_iff.mp hu
    rw [ea] at this
    obtain ⟨b, _, rfl⟩ := List.mem_map.mp this
    exact ⟨b, rfl⟩
  have hb : SrtO.Stb (ltP (pairAt H)) (out.map backV) ((ks.map fun x => x.2.1).map V.ref) := by
    rw [e1]
    exact SrtO.Stb.map (ltP_swo _) backV h2
  obtain ⟨n, hn2⟩ := sortedHeap_at (out := out.toArray) hoL
  have fr : H h'.objs.size = none := I.hok.fresh hLn
  refine ⟨.ref h'.objs.size, upd H h'.objs.size (.lst (out.map backV)), I.laid (t' := tk) (fun b u e => ?_) hLn ⟨?_, out, n, vals_back h3, hn2⟩, rfl, q _ _ (pairAt H) h'.objs.size IK hp (SrtO.srtd_map h1) hb fr⟩
  · obtain ⟨k1, k2⟩ := keep b u e
    rw [sortedHeap_old k1 (Heap.lt_size k2)]
    exact k2
  · rw [hb.len, List.length_map, List.length_map]
    omega
end
end Fp

set_option Elab.async false
set_option linter.all false
set_option maxRecDepth 100000
set_option maxHeartbeats 4000000
namespace Fp
open PySem PySem.Spec PyProof.Rows L2
/-! ### max(xs, default=d) of whole numbers -/
theorem ints_read {h : Heap} : ∀ {ns : List Int} {its : List Value}, Vals (ns.map V.int) its → ReadsAll h its (ns.map PyData.int) []
  | [], [], _ => .nil
  | n :: r, _ :: t, .cons x y => by
    obtain ⟨k, e⟩ := (show ∃ k, _ = Value.int n k from x)
    rw [e]
    exact ReadsAll.cons (as := []) (bs := []) (.int n k) (ints_read y)
theorem ints_flat : ∀ ns : List Int, PyData.depthAll (ns.map PyData.int) = 0
  | [] => rfl
  | n :: r => by
    show max (PyData.depth (.int n)) (PyData.depthAll (r.map PyData.int)) = 0
    rw [ints_flat r]
    rfl
theorem fold_max : ∀ (r : List Int) (n : Int), r.foldl max n ∈ n :: r ∧ ∀ y ∈ n :: r, y ≤ r.foldl max n
  | [], n => ⟨List.mem_cons_self .., fun y hy => by rw [List.mem_singleton.mp hy]; exact Int.le_refl _⟩
  | k :: r, n => by
    obtain ⟨h1, h2⟩ := fold_max r (max n k)
    show r.foldl max (max n k) ∈ n :: k :: r ∧ ∀ y ∈ n :: k :: r, y ≤ r.foldl max (max n k)
    have h3 := h2 (max n k) (List.mem_cons_self ..)
    refine ⟨?_, fun y hy => ?_⟩
    · rcases List.mem_cons.mp h1 with z | z
      · rw [z]
        rcases (by omega : max n k = n ∨ max n k = k) with u | u
        · rw [u]
          exact List.mem_cons_self ..
        · rw [u]
          exact List.mem_cons_of_mem _ (List.mem_cons_self ..)
      · exact List.mem_cons_of_mem _ (List.mem_cons_of_mem _ z)
    · rcases List.mem_cons.mp hy with z | z
      · rw [z]
        omega
      · rcases List.mem_cons.mp z with u | u
        · rw [u]
          omega
        · exact h2 y (List.mem_cons_of_mem _ u)
def rMaxD (K : PySem.W.Frag) : List V → List V → Hp → VK → Prop := fun vs zs H Q => ∃ (a : Addr) (ns : List Int) (d : Int), vs = [.ref a] ∧ zs = [.int d] ∧ SqL K H a (ns.map V.int) ∧ (ns = [] → Q (.int d) H) ∧ ∀ m ∈ ns, (∀ y ∈ ns, y ≤ m) → Q (.int m) H
section
variable {X : Cx}
theorem cr_maxD (hc : X.calm = true) (hu : X.A.units + 64 < cLine) : CallRK X (.builtin "max") ["default"] (rMaxD X.K) := by
  intro pins st σ H xs zs us ws Q I rx rz ask
  obtain ⟨a, ns, d, rfl, rfl, hs, q0, q1⟩ := ask
  obtain ⟨its, rv, hl, _⟩ := I.list hs
  obtain ⟨d', rfl, rd⟩ := vals1 rz
  obtain ⟨k, rfl⟩ := (show ∃ k, d' = Value.int d k from rd)
  rw [Vals.ref1 rx]
  show wpAny _ _ (call (.builtin "max") [.ref a] [(Str.ofString "default", Value.int d k)]) _ _ st
  refine PySem.W.max_list_default (xs := ns.map PyData.int) (as := []) (I.ok.hd hc) hl.isList (by rw [List.toList_toArray]; exact ints_read rv) ⟨fun x hx y hy => ?_, fun x hx => ?_⟩ (by rw [ints_flat]; omega) (fun z h' tk kp => ?_) (fun y ys i v h' tk bs e hv hr kp => ?_)
  · obtain ⟨i, _, rfl⟩ := List.mem_map.mp hx
    obtain ⟨j, _, rfl⟩ := List.mem_map.mp hy
    rfl
  · obtain ⟨i, _, rfl⟩ := List.mem_map.mp hx
    intro z
    cases z
  · exact ⟨.int d, H, I.kept kp, ⟨_, rfl⟩, q0 (List.map_eq_nil_iff.mp z)⟩
  · cases ns with
    | nil => cases e
    | cons n r =>
      have e2 := (List.cons.inj e)
      rw [← e2.1, ← e2.2, PySem.W.maxD_ints] at hr
      obtain ⟨t, rfl⟩ : ∃ t, v = Value.int (r.foldl max n) t := by
        cases hr with
        | int i t => exact ⟨t, rfl⟩
      obtain ⟨m1, m2⟩ := fold_max r n
      exact ⟨.int _, H, I.kept kp, ⟨_, rfl⟩, q1 _ m1 m2⟩
end
end Fp

set_option Elab.async false
set_option linter.all false
set_option maxRecDepth 100000
set_option maxHeartbeats 4000000
namespace Fp
open PySem PySem.Spec PyProof.Rows L2
/-! ### all(e for t in xs), any(e for t in xs): e of any kind, xs whatever is walked -/
/-- a code object's table at P: it may grow -/
def tabx (P : Addr) : HO := .ext fun h => ∃ ps : Array Value, h.get? P = some { cls := .none, data := .fields ps } ∧ TriplesOk ps.toList
theorem tabx_at {Pr : Program} {w : World} {H : Hp} {h : Heap} {P : Addr} (ok : HOk Pr w H h) (e : H P = some (tabx P)) : ∃ ps : Array Value, h.get? P = some { cls := .none, data := .fields ps } ∧ TriplesOk ps.toList :=
  (show ObjOk Pr w H h P (.ext fun h => ∃ ps : Array Value, h.get? P = some { cls := .none, data := .fields ps } ∧ TriplesOk ps.toList) from ok P _ e).1
theorem tabx_ok {Pr : Program} {w : World} {H : Hp} {h : Heap} {P : Addr} {ps : Array Value} (e : h.get? P = some { cls := .none, data := .fields ps }) (t : TriplesOk ps.toList) : ObjOk Pr w H h P (tabx P) :=
  ⟨⟨ps, e, t⟩, ⟨_, e⟩, fun _ _ ⟨qs, e1, e2⟩ k => ⟨qs, k _ e1, e2⟩⟩
theorem upd_self {H : Hp} {a : Addr} {o : HO} (h : H a = some o) : upd H a o = H := by
  funext b
  by_cases e : b = a
  · rw [e, upd_same, h]
  · rw [upd_ne e]
/-- the generator expression's scope -/
structure GxS (scope : Scope) : Prop where
  co : scope.isCoroutine = false
  cell : ∀ y ∈ scope.names, y.2 ≠ .cell
  dot : scope.names.lookup (".0" : Str) = some NameKind.local
def gxC (scope : Scope) : Bool := !scope.isCoroutine && (scope.names.all fun y => decide (y.2 ≠ .cell)) && decide (scope.names.lookup (".0" : Str) = some NameKind.local)
theorem gxS_by {scope : Scope} (h : gxC scope = true) : GxS scope := by
  unfold gxC at h
  simp only [Bool.and_eq_true, List.all_eq_true, decide_eq_true_eq, Bool.not_eq_true'] at h
  exact ⟨h.1.1, h.1.2, h.2⟩
/-- the context of such a generator's frame: begun at s, its iterator's objects fp, itself at p -/
abbrev gxX (X : Cx) (s : Shared) (H : Hp) (cenv : Env) (fp : List Addr) (p : Addr × Obj) : Cx :=
  { X with A := X.A.in1.in1.deeper cenv, s_0 := s, H_0 := H, env := cenv, outer := X.stack, stack := cenv :: X.stack, ex := fp, fn := fun _ => false, pn := [p], xe := fun _ _ => False }
theorem gx_room {k : Nat} {A : Around} {env : Env} (r : Room (k + 1) A) : Room k (A.in1.in1.deeper env) :=
  ⟨r.hd, by have := r.dp; show A.depth + 1 + 3 * k + 5 < _; omega, by have := r.un; show A.units + 1 + 1 + 3 + 16 * k + 200 < _; omega⟩
section
variable {X : Cx} {pins : List (Addr × Obj)} {σ : L2.St} {H : Hp} {s : Shared}
theorem clo_get {cells : List (Str × Addr)} {names : List (Str × NameKind)} {y : Str} {c : Addr} (hf : ∀ z ∈ names, z.2 = .free → ∃ c, cells.lookup z.1 = some c) (h : (cloFrom cells names []).lookup y = some c) : (y, NameKind.free) ∈ names ∧ cells.lookup y = some c := by
  rcases cloFrom_mem (PySem.mem_of_lookup h) with m | ⟨m, e⟩
  · cases m
  · obtain ⟨c2, h2⟩ := hf _ m rfl
    have h2' : cells.lookup y = some c2 := h2
    rw [h2'] at e
    rw [h2', e]
    exact ⟨m, rfl⟩
theorem clo_has {cells : List (Str × Addr)} {names : List (Str × NameKind)} {y : Str} (hf : ∀ z ∈ names, z.2 = .free → ∃ c, cells.lookup z.1 = some c) (h : (y, NameKind.free) ∈ names) : ∃ c, (cloFrom cells names []).lookup y = some c ∧ cells.lookup y = some c := by
  obtain ⟨c, hc⟩ := mem_lookup (cloFrom_has (cells := cells) (acc := []) h)
  exact ⟨c, hc, (clo_get hf hc).2⟩
/-- the generator's frame is laid -/
theorem gx_begin {scope : Scope} {own : List (Str × Nat)} {fp : List Addr} {code : Value} {cenv : Env} {p : Addr × Obj} {s5 : Shared} {m : Str → Option Value} (I : Inv X pins σ H s) (ok : BlkOk X.N X.env.scope scope own) (hN : X.N.Nodup)
    (nc : ∀ y ∈ scope.names, y.2 ≠ .cell) (hfp : ∀ b ∈ fp, FpOk X pins H b ∧ b < s.heap.objs.size) (ce : cenv = genEnv scope (cloFrom X.env.cells scope.names []) s.heap.objs.size code builtinsNs X.env) (k : ∀ b o, s.heap.get? b = some o → s5.heap.get? b = some o)
    (hn : s5.heap.Ns s.heap.objs.size m) (hb : AllBare s5.gens) (ho : s5.os = s.os) (hp : s5.heap.get? p.1 = some p.2) (hps : s.heap.objs.size < p.1) (hpd : ∀ v, p.2.data ≠ .cell v) : Inv (gxX X s H cenv fp p) [] (wipe σ (own.map (·.2))) H s5 := by
  have hf : ∀ y ∈ scope.names, y.2 = .free → ∃ c, X.env.cells.lookup y.1 = some c := fun y hy e => (ok.free y hy e).elim (fun z => I.ok.has _ (.inl z)) fun z => I.ok.has _ (.inr z)
  have eL : cenv.locals = s.heap.objs.size := by rw [ce]; rfl
  have eC : cenv.cells = cloFrom X.env.cells scope.names [] := by rw [ce]; rfl
  have eS : cenv.scope = scope := by rw [ce]; rfl
  have cl : ∀ {y c}, cenv.cells.lookup y = some c → X.env.cells.lookup y = some c ∧ c < s.heap.objs.size := fun {y c} h => by
    rw [eC] at h
    have h2 := (clo_get hf h).2
    obtain ⟨v, hv⟩ := I.cell y c h2
    exact ⟨h2, hv.lt⟩
  have ok2 : (gxX X s H cenv fp p).Ok := {
    mod := I.ok.mod, bs := I.bs, bsz := Nat.le_trans I.ok.bsz I.sz, funs := I.stack, frf := I.stkFree
    kind := by show cenv.scope.kind = _; rw [eS]; exact ok.kind
    glob := by show cenv.globals = _; rw [ce]; exact I.ok.glob
    blt := by show cenv.builtins = _; rw [ce]; rfl
    above := by show _ ≤ cenv.locals; rw [eL]; exact Nat.le_refl _
    inj := fun y z c h1 h2 => I.ok.inj y z c (cl h1).1 (cl h2).1
    has := fun y hy => by
      have look : ∀ q, cenv.kindOf y = some q → q = .cell ∨ q = .free → ∃ c, cenv.cells.lookup y = some c := fun q h1 h2 => by
        have h3 : scope.names.lookup y = some q := by
          have z : cenv.scope.names.lookup y = some q := h1
          rw [eS] at z
          exact z
        have m1 := PySem.mem_of_lookup h3
        rcases h2 with e | e
        · exact absurd e (nc _ m1)
        · subst e
          obtain ⟨c, h4, _⟩ := clo_has hf m1
          exact ⟨c, by rw [eC]; exact h4⟩
      exact hy.elim (fun z => look _ z (.inl rfl)) fun z => look _ z (.inr rfl)
    cab := fun _ _ z => absurd z Bool.false_ne_true
    hd := I.ok.hd
    frames := Around.frames_deeper I.ok.frames
    stk := .inr ⟨rfl, by show cenv.frame = some cenv.locals; rw [ce]; rfl⟩
    exf := fun b hb => ⟨by show b ≠ cenv.locals; rw [eL]; exact Nat.ne_of_lt (hfp b hb).2, fun y c h => (hfp b hb).1.2.2.2.2.1 y c (cl h).1⟩
    noex := fun b o e hb => (hfp b hb).1.2.2.2.1.elim (fun z => I.ok.noex b o e z) fun z => Nat.lt_irrefl _ (Nat.lt_of_lt_of_le (Heap.lt_size e) (Nat.le_trans I.ok.bsz z))
    exfs := fun b hb z => by
      rcases List.mem_cons.mp (I.stkSub b z) with y | y
      · exact (hfp b hb).1.2.1 y
      · exact (hfp b hb).1.2.2.1 y }
  refine { ok := ok2, os := ho, bare := hb, base := Un.kept k, loc := ⟨m, ?_, ?_⟩, cell := ?_, free := ?_, freeC := ?_, pin := ?_, hok := I.hok.kept k, len := by rw [wipe_length]; exact I.len }
  · show s5.heap.Ns cenv.locals m
    rw [eL]
    exact hn
  · intro i y v e1 e2 e3
    obtain ⟨e2, own2⟩ := wipe_some e2
    have free : scope.names.lookup y = some .free := by
      have no : ∀ {q}, scope.names.lookup y = some q → q = .local ∨ q = .cell → False := fun {q} h1 h2 => by
        have m1 := PySem.mem_of_lookup h1
        rcases h2 with e | e
        · subst e
          rcases ok.own _ m1 (.inl rfl) with o | o
          · obtain ⟨q, hq, he⟩ := List.mem_map.mp o
            have e4 := ok.ix q hq
            have he2 : q.1 = y := he
            rw [he2] at e4
            exact absurd (List.mem_map.mpr ⟨q, hq, nodup_ix hN e4 e1⟩) own2
          · exact absurd (List.mem_of_getElem? e1) o
        · exact absurd e (nc _ m1)
      have z : Vis cenv.scope y := e3
      unfold Vis at z
      rw [eS] at z
      rcases z with z | z | z
      · exact (no z (.inl rfl)).elim
      · exact (no z (.inr rfl)).elim
      · exact z
    obtain ⟨c, h4, h5⟩ := clo_has hf (PySem.mem_of_lookup free)
    obtain ⟨m0, hn0, look⟩ := I.loc
    have vis : Vis X.env.scope y := (ok.free _ (PySem.mem_of_lookup free) rfl).elim (fun z => .inr (.inl z)) fun z => .inr (.inr z)
    obtain ⟨u, ru, q⟩ := look i y v e1 e2 vis
    refine ⟨u, ru, .inr ⟨.inr ?_, c, ?_, ?_⟩⟩
    · show cenv.scope.names.lookup y = some .free
      rw [eS]
      exact free
    · show cenv.cells.lookup y = some c
      rw [eC]
      exact h4
    · rcases q with ⟨z, _⟩ | ⟨_, c2, z1, z2⟩
      · have z : X.env.scope.names.lookup y = some .local := z
        rcases ok.free _ (PySem.mem_of_lookup free) rfl with z2 | z2
        · exact absurd (z.symm.trans z2) (by decide)
        · exact absurd (z.symm.trans z2) (by decide)
      · rw [h5] at z1
        cases z1
        exact z2.keeps k
  · intro y c h
    obtain ⟨v, hv⟩ := I.cell y c (cl h).1
    exact ⟨v, hv.keeps k⟩
  · show H cenv.locals = none
    rw [eL]
    exact I.hok.fresh (Nat.le_refl _)
  · intro y c h
    exact I.freeC y c (cl h).1
  · intro q hq
    have hq2 : q = p := by simpa using hq
    subst hq2
    refine ⟨hp, I.hok.fresh (Nat.le_of_lt hps), ?_, fun z => ?_, hpd⟩
    · show q.1 ≠ cenv.locals
      rw [eL]
      exact Nat.ne_of_gt hps
    · obtain ⟨_, o, e, _⟩ := I.stack.mem z
      exact Nat.lt_irrefl _ (Nat.lt_of_lt_of_le (Heap.lt_size e) (Nat.le_of_lt hps))
/-- nothing of ours has changed -/
structure Idle (s s2 : Shared) : Prop where
  os : s2.os = s.os
  bare : AllBare s2.gens
  keep : ∀ b o, s.heap.get? b = some o → s2.heap.get? b = some o
theorem Inv.idle {s2 : Shared} (I : Inv X pins σ H s) (z : Idle s s2) : Inv X pins σ H s2 := I.call' (ch := []) z.os (Un.kept z.keep) (I.hok.kept z.keep) z.bare (fun b q => absurd q (by simp))
/-- the end of the generator; what it hands out -/
def gxR (Y : Cx) (z : Bool) (Q : VK) : GenEnd := fun _ _ r s1 => r = .ok .next ∧ ∃ σ1 H1, Inv Y [] σ1 H1 s1 ∧ Q (.bl !z) H1
def gxY (Y : Cx) (z : Bool) (Q : VK) : Protocol := fun _ _ v s1 kap => ∃ b σ1 H1, v = .bool b ∧ Inv Y [] σ1 H1 s1 ∧ (b = z → Q (.bl z) H1) ∧ (b ≠ z → ∀ s2, Idle s1 s2 → kap (.send .none) s2)
/-- what a turn asks, W by the turn and a measure -/
def gxW (z : Bool) (J : It) (g : TG) (te : TE) (vs : List Nat) (σ : L2.St) (Q : VK) (W : Nat → Nat → Hp → Prop) : Prop := ∀ i m H2, W i m H2 → (J.stop i H2 ∧ Q (.bl !z) H2) ∨ (J.go i H2 ∧ ∀ x H3, J.yld i H2 x H3 →
  g x (wipe σ vs) H3 fun σ4 H4 => wipe σ4 vs = wipe σ vs ∧ te σ4 H4 fun y H5 => ∃ b, y = .bl b ∧ (b = z → Q (.bl z) H5) ∧ (b ≠ z → ∃ m2, m2 < m ∧ W (i + 1) m2 H5))
theorem gx_over {A : Around} {elt tg iter : Expr} {scope : Scope} {pos : Pos} {it acc : Value} {env : Env} : A.over (.compLoop (.GeneratorExp elt [⟨tg, iter, [], 0⟩] scope pos) 0 it acc env) [] = A.deeper env := rfl
theorem gx_loop {Y : Cx} {Aw : Around} {z : Bool} {Q : VK} {elt tg iter : Expr} {scope : Scope} {pos : Pos} {own : List Nat} {fp : List Addr} {it : Addr} {tn : Nat → Heap → Prop} {J : It} {g : TG} {te : TE} {W : Nat → Nat → Hp → Prop} {σ : L2.St}
    (eA : Y.A = Aw.deeper Y.env) (eX : Y.ex = fp) (eF : Y.outer = Y.outer) (xe : Y.xe = fun _ _ => False) (calm : Y.calm = true) (T : Turn Y.prog Y.w Y.K tg J fp it tn) (pg : PG Y tg g) (pe : PE Y elt te) (hW : gxW z J g te own σ Q W) (apart : ∀ b ∈ fp, ∀ p ∈ Y.pn, p.1 ≠ b) (co : Y.env.scope.isCoroutine = false) :
    ∀ (n i m : Nat) (H1 : Hp) (s0 s1 : Shared), m < n → W i m H1 → Inv Y [] (wipe σ own) H1 s1 → tn i s1.heap → (∀ b ∈ fp, H1 b = none) →
      Seg (model Y.prog Y.w) Aw (gxR Y z Q) (gxY Y z Q) n s0 (.compLoop (.GeneratorExp elt [⟨tg, iter, [], 0⟩] scope pos) 0 (.ref it) .none Y.env) ((model Y.prog Y.w).den (.compLoop (.GeneratorExp elt [⟨tg, iter, [], 0⟩] scope pos) 0 (.ref it) .none Y.env)) [] s1 := by
  intro n
  induction n with
  | zero => exact fun _ m _ _ _ h => absurd h (Nat.not_lt_zero m)
  | succ n ih =>
    intro i m H1 s0 s1 hm w I st nf
    have stat : ∀ {σ2 : L2.St} {H2 : Hp} {s2 : Shared}, Inv Y [] σ2 H2 s2 → (∀ b ∈ fp, H2 b = none) → ∀ b ∈ fp, FpOk Y [] H2 b := fun I2 hn b hb =>
      ⟨hn b hb, (I2.ok.exf b (by rw [eX]; exact hb)).1, I2.ok.exfs b (by rw [eX]; exact hb), .inl (by rw [eX]; exact hb), fun x c e => (I2.ok.exf b (by rw [eX]; exact hb)).2 x c e, fun p hp => apart b hb p (by simpa using hp)⟩
    show Seg _ Aw _ _ _ s0 _ ((compTurn (.GeneratorExp elt [⟨tg, iter, [], 0⟩] scope pos) 0 (.ref it) .none Y.env).onRaise (leaving Y.env)) [] s1
    rw [compTurn_gen]
    rw [Sem.onRaise_eq_wrap]
    refine seg_bind_wrap (wpAny_standAt ?_)
    rcases hW i m H1 w with ⟨stop, q⟩ | ⟨go, step⟩
    · have td := T.done Y rfl rfl rfl calm i [] s1 _ H1 (fun _ _ => False) I (stat I nf) st stop
      refine seg_bind_wrap ?_
      rw [gx_over, ← eA]
      refine wpAny_mono td (fun r s2 y => ?_) (fun _ _ y => y.elim)
      obtain ⟨hr, I2⟩ := y
      subst hr
      exact seg_end (.ok .next) ⟨rfl, _, _, I2, q⟩
    · have ti := T.item Y rfl rfl rfl calm i [] s1 _ H1 (fun _ _ => False) I (stat I nf) st go
      refine seg_bind_wrap ?_
      rw [gx_over, ← eA]
      refine wpAny_mono ti (fun r s2 y => ?_) (fun _ _ y => y.elim)
      obtain ⟨u, hr, h2⟩ := y
      subst hr
      refine seg_bind_wrap ?_
      rw [gx_over, ← eA]
      refine wpAny_mono h2 (fun _ s3 y => ?_) (fun _ _ y => y.elim)
      obtain ⟨x, H3, I3, r3, y3, st3, n3⟩ := y
      have P3 := I3.pinned (stat I3 n3) (T.obj _ _ st3)
      refine seg_bind_wrap ?_
      rw [gx_over, ← eA]
      refine wpAny_mono (pg.run _ s3 _ H3 x u _ P3 r3 (step x H3 y3)) (fun _ s4 y => ?_) (fun _ _ y => by rw [xe] at y; exact y.elim)
      obtain ⟨σ4, H4, I4, hw4, q4⟩ := y
      refine seg_bind_wrap (wpAny_tests_nil ?_)
      simp only [if_true]
      have out : ∀ v, yieldOut Y.env v = yieldValue v := fun v => by
        simp only [yieldOut, co, Bool.false_eq_true, if_false]
      simp only [out]
      rw [Sem.bind_eq_wrap', Sem.bind_eq_wrap']
      rw [Sem.wrap_wrap, Sem.wrap_wrap]
      refine seg_wrap ?_
      rw [gx_over, ← eA]
      refine wpAny_mono (pe.run _ s4 σ4 H4 _ I4 q4) (fun v s5 y => ?_) (fun _ _ y => by rw [xe] at y; exact y.elim)
      obtain ⟨yv, H5, I5, r5, b, eb, hz, hnz⟩ := y
      subst eb
      obtain rfl : v = Value.bool b := r5
      refine seg_at (seg_yield rfl rfl rfl ?_)
      refine ⟨b, σ4, H5, rfl, I5.unpinned (pins := []), hz, fun ne s6 idle => ?_⟩
      obtain ⟨m2, lt2, w2⟩ := hnz ne
      have pin : ∀ c ∈ fp, ∀ o, s3.heap.get? c = some o → s5.heap.get? c = some o ∧ H5 c = none := fun c hc o e =>
        let y := I5.pin (c, o) (List.mem_append_right _ (List.mem_append_right _ (mem_pinsAt hc e)))
        ⟨y.1, y.2.1⟩
      have hl : (wipe σ own).length = σ4.length := by rw [← hw4, wipe_length]
      have I6 : Inv Y [] (wipe σ own) H5 s6 := Inv.idle ((I5.unpinned (pins := [])).weak hl fun j v e => by
        rw [← hw4] at e
        exact (wipe_some e).1) idle
      refine seg_again rfl (ih (i + 1) m2 H5 s6 s6 (by omega) w2 I6 (T.keep _ _ _ st3 fun c hc o e => idle.keep _ _ (pin c hc o e).1) fun c hc => ?_)
      obtain ⟨o, e, _⟩ := T.obj _ _ st3 c hc
      exact (pin c hc o e).2
theorem gx_first {Y : Cx} {Aw : Around} {R : GenEnd} {P : Protocol} {n : Nat} {elt tg iter : Expr} {scope : Scope} {pos : Pos} {it : Addr} {s0 s1 : Shared}
    (self : ∀ (A : Around) (s : Shared) (Q : Value → Shared → Prop) (E : Value → Shared → Prop), s = s1 → Q (.ref it) s → wpAny (model Y.prog Y.w) A (pyIter (.ref it)) Q E s)
    (loop : Seg (model Y.prog Y.w) Aw R P n s0 (.compLoop (.GeneratorExp elt [⟨tg, iter, [], 0⟩] scope pos) 0 (.ref it) .none Y.env) ((model Y.prog Y.w).den (.compLoop (.GeneratorExp elt [⟨tg, iter, [], 0⟩] scope pos) 0 (.ref it) .none Y.env)) [] s1) :
    Seg (model Y.prog Y.w) Aw R P n s0 (.compStart (.GeneratorExp elt [⟨tg, iter, [], 0⟩] scope pos) 0 (.ref it) .none Y.env) ((model Y.prog Y.w).den (.compStart (.GeneratorExp elt [⟨tg, iter, [], 0⟩] scope pos) 0 (.ref it) .none Y.env)) [] s1 := by
  show Seg _ Aw _ _ _ s0 _ ((compStart (.GeneratorExp elt [⟨tg, iter, [], 0⟩] scope pos) 0 (.ref it) .none Y.env).onRaise (leaving Y.env)) [] s1
  unfold compStart
  rw [Sem.onRaise_eq_wrap]
  show Seg _ Aw _ _ _ s0 _ ((ask >>= _).wrap _ _ _ _) [] s1
  refine seg_bind_wrap (wpAny_askSetting ?_)
  split
  · exact seg_again rfl loop
  · first
      | exact seg_bind_wrap (wpAny_rule (seg_bind_wrap (wpAny_standAt (seg_bind_wrap (self _ _ _ _ rfl (seg_again rfl loop))))))
      | (refine seg_bind_wrap (wpAny_rule ?_)
         show Seg _ Aw _ _ _ s0 _ ((standAt iter.pos >>= _).wrap _ _ _ _) [] s1
         exact seg_bind_wrap (wpAny_standAt (seg_bind_wrap (self _ _ _ _ rfl (seg_again rfl loop)))))
end
end Fp

set_option Elab.async false
set_option linter.all false
set_option maxRecDepth 100000
set_option maxHeartbeats 4000000
namespace Fp
open PySem PySem.Spec PyProof.Rows L2
section
variable {Y : Cx} {a : Addr} {g : Nat} {go : Obj} {z : Bool} {Q : VK}
theorem gens_of {s : Shared} {g : Nat} {x : GenState} (h : AllBare s.gens) (hx : x.bare = true) : AllBare (s.setGen g x).gens := allBare_setGen h hx
/-- what the consumer knows ahead of a turn -/
def gxAt (Y : Cx) (A : Around) (a : Addr) (g : Nat) (z : Bool) (Q : VK) (n : Nat) (s : Shared) : Prop :=
  s.heap.IsGen a g ∧ s.heap.NoLimit ∧ g < s.gens.size ∧ AllBare s.gens ∧ s.os = Y.s_0.os ∧
    ∃ gs, s.gens[g]? = some gs ∧ gs.Goes (model Y.prog Y.w) A (gxR Y z Q) (gxY Y z Q) n (.send .none) (s.setGen g .running)
/-- one turn of the consumer: it gets None and is at the end, or b -/
theorem gx_next {A : Around} {E : Value → Shared → Prop} {n : Nat} {s : Shared} {QQ : Option Value → Shared → Prop} (hh : A.handled = none) (hd : A.depth < recursionLimit) (hpn : Y.pn = [(a, go)]) (hgo : ∀ h : Heap, h.get? a = some go → h.IsGen a g)
    (h : gxAt Y A.in1 a g z Q n s)
    (hend : ∀ σ1 H1 s1 s2, Inv Y [] σ1 H1 s1 → Idle s1 s2 → Q (.bl !z) H1 → QQ none s2)
    (hstop : ∀ σ1 H1 s1 s2, Inv Y [] σ1 H1 s1 → Idle s1 s2 → Q (.bl z) H1 → QQ (some (.bool z)) s2)
    (hmore : ∀ s2, (∃ m, n = m + 1 ∧ ∀ s3, s3.gens = s2.gens → s3.os = s2.os → (∀ b o, s2.heap.get? b = some o → s3.heap.get? b = some o) → gxAt Y A.in1 a g z Q m s3) → QQ (some (.bool !z)) s2) :
    wpAny (model Y.prog Y.w) A (pyNext (.ref a)) QQ E s := by
  obtain ⟨hg, hl, hlt, hb, hos, gs, hgs, hgoes⟩ := h
  have at_ : ∀ {σ1 : L2.St} {H1 : Hp} {s1 : Shared}, Inv Y [] σ1 H1 s1 → s1.heap.get? a = some go := fun I => (I.pin (a, go) (by rw [hpn]; simp)).1
  refine GenW.wpAny_gsz (n := g + 1) hlt (wpAny_pyNext_genexpQ (P := fun _ _ s1 => ∃ σ1 H1, Inv Y [] σ1 H1 s1 ∧ Q (.bl !z) H1) hh hl hd hg hgs hgoes (fun v s1 gs2 hbare hv => ?_) (fun s1 hp h2 hk => ?_))
  · intro size
    obtain ⟨b, σ1, H1, rfl, I1, hz, hnz⟩ := hv
    have idle1 : Idle s1 (s1.setGen g gs2) := ⟨rfl, gens_of I1.bare hbare, fun _ _ e => e⟩
    have size1 : g < s1.gens.size := by
      have e := GenW.setGen_size s1 g gs2
      omega
    by_cases hbz : b = z
    · subst hbz
      exact hstop σ1 H1 s1 _ I1 idle1 (hz rfl)
    · have eb : b = !z := by cases b <;> cases z <;> simp_all
      have wake := hnz hbz
      rw [eb]
      cases n with
      | zero => exact (wake s1 ⟨rfl, I1.bare, fun _ _ e => e⟩).elim
      | succ m =>
        refine hmore _ ⟨m, rfl, fun s3 e1 e2 k => ?_⟩
        have k1 : ∀ b o, s1.heap.get? b = some o → s3.heap.get? b = some o := k
        have os3 : s3.os = s1.os := e2
        have gn : s3.gens = (s1.setGen g gs2).gens := e1
        refine ⟨hgo _ (k1 _ _ (at_ I1)), I1.nolimit.keeps k1, by rw [gn, GenW.setGen_size]; exact size1, by rw [gn]; exact idle1.bare, os3.trans I1.os, gs2, by rw [gn]; exact setGen_at size1, ?_⟩
        exact wake (s3.setGen g .running) ⟨os3, gens_of (s := s3) (by rw [gn]; exact idle1.bare) rfl, k1⟩
  · intro size
    obtain ⟨σ1, H1, I1, q⟩ := hp
    exact hend σ1 H1 s1 _ I1 ⟨rfl, gens_of I1.bare rfl, hk⟩ q
theorem gx_all {A : Around} {R : Result → Shared → Prop} (hh : A.handled = none) (hd : A.depth < recursionLimit) (hpn : Y.pn = [(a, go)]) (hgo : ∀ h : Heap, h.get? a = some go → h.IsGen a g)
    (hR : ∀ b σ1 H1 s1 s2, Inv Y [] σ1 H1 s1 → Idle s1 s2 → Q (.bl b) H1 → R (.ok (.ret (.bool b))) s2) : ∀ (n : Nat) (s : Shared), gxAt Y A.in1.in1 a g false Q n s → codeAny (model Y.prog Y.w) A (.builtin "all.loop" ⟨[.ref a], []⟩) R s := by
  intro n
  induction n with
  | zero =>
    intro s h
    refine codeAny_builtin F.entry_all_loop ?_
    rw [Around.under_plainId F.plain_all_loop _]
    show wpAny _ A.in1 (pyNext (.ref a) >>= _) _ _ s
    refine wpAny_bind (gx_next (A := A.in1) hh hd hpn hgo h (fun σ1 H1 s1 s2 I idle q => ?_) (fun σ1 H1 s1 s2 I idle q => ?_) (fun s2 y => ?_))
    · exact wpAny_bind (wpAny_rule (wpAny_pure (hR _ σ1 H1 s1 _ I idle q)))
    · refine wpAny_bind (wpAny_holding (wpAny_truthy_bool (wpAny_bind (wpAny_letGo ?_))))
      simp only [Bool.false_eq_true, if_false]
      exact wpAny_bind (wpAny_rule (wpAny_pure (hR _ σ1 H1 s1 _ I idle q)))
    · obtain ⟨m, e, _⟩ := y
      cases e
  | succ n ih =>
    intro s h
    refine codeAny_builtin F.entry_all_loop ?_
    rw [Around.under_plainId F.plain_all_loop _]
    show wpAny _ A.in1 (pyNext (.ref a) >>= _) _ _ s
    refine wpAny_bind (gx_next (A := A.in1) hh hd hpn hgo h (fun σ1 H1 s1 s2 I idle q => ?_) (fun σ1 H1 s1 s2 I idle q => ?_) (fun s2 y => ?_))
    · exact wpAny_bind (wpAny_rule (wpAny_pure (hR _ σ1 H1 s1 _ I idle q)))
    · refine wpAny_bind (wpAny_holding (wpAny_truthy_bool (wpAny_bind (wpAny_letGo ?_))))
      simp only [Bool.false_eq_true, if_false]
      exact wpAny_bind (wpAny_rule (wpAny_pure (hR _ σ1 H1 s1 _ I idle q)))
    · obtain ⟨m, e, more⟩ := y
      cases e
      refine wpAny_bind (wpAny_holding (wpAny_truthy_bool (wpAny_bind (wpAny_letGo ?_))))
      simp only [Bool.not_false, if_true]
      exact wpAny_pure ⟨plainId_quiet F.plain_all_loop _, ih _ (more _ rfl rfl fun _ _ e => e)⟩
theorem gx_any {A : Around} {R : Result → Shared → Prop} (hh : A.handled = none) (hd : A.depth < recursionLimit) (hpn : Y.pn = [(a, go)]) (hgo : ∀ h : Heap, h.get? a = some go → h.IsGen a g)
    (hR : ∀ b σ1 H1 s1 s2, Inv Y [] σ1 H1 s1 → Idle s1 s2 → Q (.bl b) H1 → R (.ok (.ret (.bool b))) s2) : ∀ (n : Nat) (s : Shared), gxAt Y A.in1.in1 a g true Q n s → codeAny (model Y.prog Y.w) A (.builtin "any.loop" ⟨[.ref a], []⟩) R s := by
  intro n
  induction n with
  | zero =>
    intro s h
    refine codeAny_builtin F.entry_any_loop ?_
    rw [Around.under_plainId F.plain_any_loop _]
    show wpAny _ A.in1 (pyNext (.ref a) >>= _) _ _ s
    refine wpAny_bind (gx_next (A := A.in1) hh hd hpn hgo h (fun σ1 H1 s1 s2 I idle q => ?_) (fun σ1 H1 s1 s2 I idle q => ?_) (fun s2 y => ?_))
    · exact wpAny_bind (wpAny_rule (wpAny_pure (hR _ σ1 H1 s1 _ I idle q)))
    · refine wpAny_bind (wpAny_holding (wpAny_truthy_bool (wpAny_bind (wpAny_letGo ?_))))
      simp only [if_true]
      exact wpAny_bind (wpAny_rule (wpAny_pure (hR _ σ1 H1 s1 _ I idle q)))
    · obtain ⟨m, e, _⟩ := y
      cases e
  | succ n ih =>
    intro s h
    refine codeAny_builtin F.entry_any_loop ?_
    rw [Around.under_plainId F.plain_any_loop _]
    show wpAny _ A.in1 (pyNext (.ref a) >>= _) _ _ s
    refine wpAny_bind (gx_next (A := A.in1) hh hd hpn hgo h (fun σ1 H1 s1 s2 I idle q => ?_) (fun σ1 H1 s1 s2 I idle q => ?_) (fun s2 y => ?_))
    · exact wpAny_bind (wpAny_rule (wpAny_pure (hR _ σ1 H1 s1 _ I idle q)))
    · refine wpAny_bind (wpAny_holding (wpAny_truthy_bool (wpAny_bind (wpAny_letGo ?_))))
      simp only [if_true]
      exact wpAny_bind (wpAny_rule (wpAny_pure (hR _ σ1 H1 s1 _ I idle q)))
    · obtain ⟨m, e, more⟩ := y
      cases e
      refine wpAny_bind (wpAny_holding (wpAny_truthy_bool (wpAny_bind (wpAny_letGo ?_))))
      simp only [Bool.not_true, Bool.false_eq_true, if_false]
      exact wpAny_pure ⟨plainId_quiet F.plain_any_loop _, ih _ (more _ rfl rfl fun _ _ e => e)⟩
end
section
variable {X : Cx}
/-- all(e for t in xs) (z = false), any(..) (z = true); P: where the running def's code table is -/
def tGx (P : Addr) (z : Bool) (wi : TI) (g : TG) (te : TE) (vs : List Nat) : TE := fun σ H Q => wi σ H fun J H1 => H1 P = some (tabx P) ∧ ∃ W : Nat → Nat → Hp → Prop, (∃ m, W 0 m H1) ∧ gxW z J g te vs σ Q W
/-- the generator stands, and whatever its consumer comes to is ours -/
def gxMade (X : Cx) (pins : List (Addr × Obj)) (σ : L2.St) (z : Bool) (Q : VK) (v : Value) (s5 : Shared) : Prop :=
  ∃ (Y : Cx) (a : Addr) (g : Nat) (go : Obj) (n : Nat), v = .ref a ∧ Y.prog = X.prog ∧ Y.w = X.w ∧ Y.pn = [(a, go)] ∧ (∀ h : Heap, h.get? a = some go → h.IsGen a g) ∧ gxAt Y X.A.in1.in1 a g z Q n s5 ∧
    ∀ σ1 H1 s1 s2, Inv Y [] σ1 H1 s1 → Idle s1 s2 → Inv X pins σ H1 s2
theorem gx_make {k : Nat} {c P : Addr} {elt tg iter : Expr} {scope : Scope} {own : List (Str × Nat)} {pos : Pos} {wi : TI} {g : TG} {te : TE} {z : Bool} {pins : List (Addr × Obj)} {σ : L2.St} {H : Hp} {s : Shared} {Q : VK}
    (hc : X.calm = true) (hN : X.N.Nodup) (hr : Room (k + 1) X.A) (TB : GxR.TabB X.base X.mg c P) (code : X.env.code = .ref c) (S : GxS scope) (hi : PI X tg iter wi) (ok : BlkOk X.N X.env.scope scope own)
    (hg : ∀ (s : Shared) (H : Hp) (cv : Value) (C : Addr) (cl : List (Str × Addr)) (fp : List Addr) (p : Addr × Obj), PG (gxX X s H (genEnv scope cl C cv builtinsNs X.env) fp p) tg g)
    (he : ∀ (s : Shared) (H : Hp) (cv : Value) (C : Addr) (cl : List (Str × Addr)) (fp : List Addr) (p : Addr × Obj), Room k (gxX X s H (genEnv scope cl C cv builtinsNs X.env) fp p).A → PE (gxX X s H (genEnv scope cl C cv builtinsNs X.env) fp p) elt te)
    (hs : ∀ x, genFold iter X.env x = pure x) (I : Inv X pins σ H s) (h : tGx P z wi g te (own.map (·.2)) σ H Q) :
    wpAny (model X.prog X.w) X.A (eval (.GeneratorExp elt [⟨tg, iter, [], 0⟩] scope pos) X.env) (gxMade X pins σ z Q) X.xe s := by
  have hf : ∀ y ∈ scope.names, y.2 = .free → ∃ c, X.env.cells.lookup y.1 = some c := fun y hy e => (ok.free y hy e).elim (fun z => I.ok.has _ (.inl z)) fun z => I.ok.has _ (.inr z)
  refine wpAny_GeneratorExp_make S.co (closure_ok hf) S.cell S.dot ok.kind (by have := hr.dp; omega) (thn (hi.run pins s σ H _ I h) fun xv s1 h1 => thn h1 fun itv s2 h2 => ?_) hs
  obtain ⟨it, fp, tn, J, H2, e, I2, T, st2, f2, hP, W, ⟨m0, w0⟩, hW⟩ := h2
  subst e
  refine ⟨I2.nolimit, ?_⟩
  obtain ⟨ps, eP, tP⟩ := tabx_at I2.hok hP
  have cd : PySem.W.CodeHd s2.heap c P := TB.code.keeps I2.bk
  have nP : ∀ b ∈ fp, b ≠ P := fun b hb y => by
    have z := (f2 b hb).1
    rw [y, hP] at z
    cases z
  -- the code is found or made: the table alone may have grown
  have go_on : ∀ (cv : Value) (h3 : Heap) (tk : Nat) (qs : Array Value), Heap.ExtBut P s2.heap h3 → h3.get? P = some { cls := .none, data := .fields qs } → TriplesOk qs.toList →
      wpAny (model X.prog X.w) X.A (builtinsFor X.env.globals X.env.builtins) (fun bi s4 => ∀ h', h'.Ns s4.heap.objs.size (fun y => if y = ".0" then some (Value.ref it) else none) → Heap.SameBut s4.heap.objs.size (s4.heap.push { cls := .type "frame", data := .dict #[] }) h' →
        gxMade X pins σ z Q (.ref h'.objs.size) { s4 with gens := s4.gens.push (.fresh (.compStart (.GeneratorExp elt [⟨tg, iter, [], 0⟩] scope pos) 0 (.ref it) .none (genEnv scope (cloFrom X.env.cells scope.names []) s4.heap.objs.size cv bi X.env))), toks := s4.toks + 1 + 1 + 1, heap := h'.push { cls := .type "generator", data := .fields #[.int s4.gens.size 0, .str "<genexpr>" (s4.toks + 1), .str (X.env.qual ++ "<genexpr>") (s4.toks + 1 + 1)] } }) X.xe { s2 with heap := h3, toks := tk } := by
    intro cv h3 tk qs ext eQ tQ
    have I4 : Inv X pins σ H2 { s2 with heap := h3, toks := tk } := by
      have y := I2.write (t' := tk) (x := P) (e := P) (o := tabx P) (h' := h3) (by rw [hP]; exact True.intro) (.inl rfl) (fun b u hb q => ext b u hb q) ⟨_, eQ⟩ (tabx_ok eQ tQ)
      rw [upd_self hP] at y
      exact y
    obtain ⟨bm, ob, e1, e2, e3, e4, e5, e6, e7, e8⟩ := TB.bm
    refine wpAny_builtinsFor (m := X.mg) (by rw [I4.ok.glob]; exact I4.mod.glob.keeps I4.bk) e1 e2 (I4.bk _ _ e5) e6 e7 e8 ?_
    intro h' hn same
    have szF : h'.objs.size = h3.objs.size + 1 := by
      rw [same.1]
      exact Heap.size_push ..
    have kF : ∀ b o, h3.get? b = some o → h'.get? b = some o := fun b o e => same.extBut b o (Nat.ne_of_lt (Heap.lt_size e)) (Heap.get?_push_of_some _ e)
    generalize hgo : ({ cls := .type "generator", data := .fields #[.int s2.gens.size 0, .str "<genexpr>" (tk + 1), .str (X.env.qual ++ "<genexpr>") (tk + 1 + 1)] } : Obj) = go
    generalize hcode : (Code.compStart (.GeneratorExp elt [⟨tg, iter, [], 0⟩] scope pos) 0 (.ref it) .none (genEnv scope (cloFrom X.env.cells scope.names []) h3.objs.size cv builtinsNs X.env)) = cod
    have fp4 : ∀ b ∈ fp, FpOk X pins H2 b ∧ b < h3.objs.size := fun b hb => by
      obtain ⟨o, e, _⟩ := T.obj _ _ st2 b hb
      exact ⟨f2 b hb, Heap.lt_size (ext b o (nP b hb) e)⟩
    have st4 : tn 0 h3 := T.keep _ _ _ st2 fun b hb o e => ext b o (nP b hb) e
    have isG : ∀ h : Heap, h.get? h'.objs.size = some go → h.IsGen h'.objs.size s2.gens.size := fun h e => ⟨go, _, _, e, by rw [← hgo], by rw [← hgo], by rw [← hgo]⟩
    have atG : (h'.push go).get? h'.objs.size = some go := by
      rw [← hgo]
      exact Heap.get?_push_size _ rfl
    have gD : ∀ v, go.data ≠ .cell v := fun v => by
      rw [← hgo]
      exact fun z => by cases z
    have k5 : ∀ b o, h3.get? b = some o → (h'.push go).get? b = some o := fun b o e => Heap.get?_push_of_some _ (kF b o e)
    have bare5 : AllBare (s2.gens.push (.fresh cod)) := I2.bare.push rfl
    let cenv := genEnv scope (cloFrom X.env.cells scope.names []) h3.objs.size cv builtinsNs X.env
    let Y := gxX X { s2 with heap := h3, toks := tk } H2 cenv fp (h'.objs.size, go)
    have J5 : Inv Y [] (wipe σ (own.map (·.2))) H2 { s2 with gens := s2.gens.push (.fresh cod), toks := tk + 1 + 1 + 1, heap := h'.push go } :=
      gx_begin I4 ok hN S.cell fp4 rfl k5 (hn.keeps fun b o e => Heap.get?_push_of_some _ e) bare5 rfl atG (by show h3.objs.size < h'.objs.size; omega) gD
    refine ⟨Y, h'.objs.size, s2.gens.size, go, m0 + 1, rfl, rfl, rfl, rfl, isG, ⟨isG _ atG, J5.nolimit, by show _ < (s2.gens.push _).size; rw [Array.size_push]; omega, bare5, rfl, .fresh cod, Array.getElem?_push_size .., rfl, ?_⟩, fun σ1 H1 s1 s6 I6 idle => ?_⟩
    · have J6 : Inv Y [] (wipe σ (own.map (·.2))) H2 (({ s2 with gens := s2.gens.push (.fresh cod), toks := tk + 1 + 1 + 1, heap := h'.push go } : Shared).setGen s2.gens.size .running) :=
        Inv.idle J5 ⟨rfl, gens_of bare5 rfl, fun _ _ e => e⟩
      have st6 : tn 0 (h'.push go) := T.keep _ _ _ st4 fun b _ o e => k5 b o e
      have apart : ∀ b ∈ fp, ∀ p ∈ Y.pn, p.1 ≠ b := fun b hb p hp y => by
        have hp2 : p = (h'.objs.size, go) := List.mem_singleton.mp hp
        rw [hp2] at y
        have y2 : h'.objs.size = b := y
        have l := (fp4 b hb).2
        rw [← y2, szF] at l
        exact Nat.lt_irrefl _ (Nat.lt_of_succ_lt l)
      subst hcode
      refine gx_first (Y := Y) (fun A s Q E hs q => T.self A 0 s Q E (by rw [hs]; exact st6) q) ?_
      exact gx_loop (Y := Y) (z := z) (Q := Q) (own := own.map (·.2)) (W := W) (σ := σ) rfl rfl rfl rfl hc T (hg _ _ _ _ _ _ _) (he _ _ _ _ _ _ _ (gx_room hr)) hW apart S.co (m0 + 1) 0 m0 H2 _ _ (Nat.lt_succ_self _) w0 J6 st6 (fun b hb => (f2 b hb).1)
    · exact I4.call' (ch := fp) (idle.os.trans I6.os) (I6.base.trans (Un.kept idle.keep)) (I6.hok.kept idle.keep) idle.bare fun b hb => ⟨(f2 b hb).2.2.2.1, (f2 b hb).2.1, (f2 b hb).2.2.2.2.1, (f2 b hb).2.2.2.2.2⟩
  cases hfound : codeAmong pos ps.toList with
  | none =>
    refine wpAny_genexprCodeX code (cd.code eP tP) (cd.tab eP) hfound fun c2 h3 tk ext _ _ isC _ tab _ => ?_
    obtain ⟨o1, vs, f1, tf, fl, tgc, inF, tx, tt, op, _, _, _, _, _, _, _, _, _, tr, _⟩ := isC
    exact go_on _ h3 tk _ ext tab.2 tr
  | some cv =>
    refine wpAny_genexprCode_hit code (cd.code eP tP) hfound ?_
    exact go_on cv s2.heap s2.toks ps (Heap.ExtBut.refl _ _) eP tP
theorem pe_allG {k : Nat} {c P : Addr} {elt tg iter : Expr} {scope : Scope} {own : List (Str × Nat)} {pos p pos2 : Pos} {wi : TI} {g : TG} {te : TE} (hg0 : Gl X "all") (hm0 : X.mg "all" = none)
    (hc : X.calm = true) (hN : X.N.Nodup) (hr : Room (k + 1) X.A) (TB : GxR.TabB X.base X.mg c P) (code : X.env.code = .ref c) (S : GxS scope) (hi : PI X tg iter wi) (ok : BlkOk X.N X.env.scope scope own)
    (hg : ∀ (s : Shared) (H : Hp) (cv : Value) (C : Addr) (cl : List (Str × Addr)) (fp : List Addr) (p : Addr × Obj), PG (gxX X s H (genEnv scope cl C cv builtinsNs X.env) fp p) tg g)
    (he : ∀ (s : Shared) (H : Hp) (cv : Value) (C : Addr) (cl : List (Str × Addr)) (fp : List Addr) (p : Addr × Obj), Room k (gxX X s H (genEnv scope cl C cv builtinsNs X.env) fp p).A → PE (gxX X s H (genEnv scope cl C cv builtinsNs X.env) fp p) elt te)
    (hs : ∀ x, genFold iter X.env x = pure x := by intro _; rfl) (hst : starEach [.GeneratorExp elt [⟨tg, iter, [], 0⟩] scope pos] X.env = (false, eval (.GeneratorExp elt [⟨tg, iter, [], 0⟩] scope pos) X.env) :: starEach [] X.env := by rfl) :
    PE X (.Call (.Name "all" p) [.GeneratorExp elt [⟨tg, iter, [], 0⟩] scope pos] [] pos2) (tGx P false wi g te (own.map (·.2))) := by
  refine ⟨fun pins s σ H Q I h => ?_⟩
  refine wpAny_Call_Name_kw (ld_blt I hg0 hm0 boot_all ?_)
  refine PyProof.Rows.callWith_builtin1 ?_ hst (by rfl)
  rw [hst]
  show wpAny _ _ (spliced ((false, eval (.GeneratorExp elt [⟨tg, iter, [], 0⟩] scope pos) X.env) :: backTo pos2 (starEach [] X.env))) _ _ s
  refine Calls.spliced_cons (thn (gx_make hc hN hr TB code S hi ok hg he hs I h) fun v s5 y => Calls.spliced_nil ?_)
  obtain ⟨Y, a, gn, go, n, rfl, e1, e2, hpn, isG, hat, back⟩ := y
  refine call_function_tree F.kind_all F.plain_all F.entry_all (F.args_all1 _) ?_
  unfold Builtin.«all»
  refine wpAny_bind (m := oneArg "all" _) (wpAny_pure ?_)
  refine wpAny_bind (wpAny_pyIter_gen hat.1 ?_)
  refine wpAny_pure ⟨plainId_quiet F.plain_all_loop _, ?_⟩
  have fin := gx_all (Y := Y) (Q := Q) (A := X.A) (R := fun r s' => match r with | .ok (.ret v) => EP X pins σ Q v s' | .ok _ => False | .error e => X.xe e s') hr.hd (by have := hr.dp; show X.A.depth < _; omega) hpn isG (fun b σ1 H1 s1 s2 I1 idle q => ⟨.bl b, H1, back σ1 H1 s1 s2 I1 idle, rfl, q⟩) n s5 hat
  rw [e1, e2] at fin
  exact fin
theorem pe_anyG {k : Nat} {c P : Addr} {elt tg iter : Expr} {scope : Scope} {own : List (Str × Nat)} {pos p pos2 : Pos} {wi : TI} {g : TG} {te : TE} (hg0 : Gl X "any") (hm0 : X.mg "any" = none)
    (hc : X.calm = true) (hN : X.N.Nodup) (hr : Room (k + 1) X.A) (TB : GxR.TabB X.base X.mg c P) (code : X.env.code = .ref c) (S : GxS scope) (hi : PI X tg iter wi) (ok : BlkOk X.N X.env.scope scope own)
    (hg : ∀ (s : Shared) (H : Hp) (cv : Value) (C : Addr) (cl : List (Str × Addr)) (fp : List Addr) (p : Addr × Obj), PG (gxX X s H (genEnv scope cl C cv builtinsNs X.env) fp p) tg g)
    (he : ∀ (s : Shared) (H : Hp) (cv : Value) (C : Addr) (cl : List (Str × Addr)) (fp : List Addr) (p : Addr × Obj), Room k (gxX X s H (genEnv scope cl C cv builtinsNs X.env) fp p).A → PE (gxX X s H (genEnv scope cl C cv builtinsNs X.env) fp p) elt te)
    (hs : ∀ x, genFold iter X.env x = pure x := by intro _; rfl) (hst : starEach [.GeneratorExp elt [⟨tg, iter, [], 0⟩] scope pos] X.env = (false, eval (.GeneratorExp elt [⟨tg, iter, [], 0⟩] scope pos) X.env) :: starEach [] X.env := by rfl) :
    PE X (.Call (.Name "any" p) [.GeneratorExp elt [⟨tg, iter, [], 0⟩] scope pos] [] pos2) (tGx P true wi g te (own.map (·.2))) := by
  refine ⟨fun pins s σ H Q I h => ?_⟩
  refine wpAny_Call_Name_kw (ld_blt I hg0 hm0 boot_any ?_)
  refine PyProof.Rows.callWith_builtin1 ?_ hst (by rfl)
  rw [hst]
  show wpAny _ _ (spliced ((false, eval (.GeneratorExp elt [⟨tg, iter, [], 0⟩] scope pos) X.env) :: backTo pos2 (starEach [] X.env))) _ _ s
  refine Calls.spliced_cons (thn (gx_make hc hN hr TB code S hi ok hg he hs I h) fun v s5 y => Calls.spliced_nil ?_)
  obtain ⟨Y, a, gn, go, n, rfl, e1, e2, hpn, isG, hat, back⟩ := y
  refine call_function_tree F.kind_any F.plain_any F.entry_any (F.args_any1 _) ?_
  unfold Builtin.«any»
  refine wpAny_bind (m := oneArg "any" _) (wpAny_pure ?_)
  refine wpAny_bind (wpAny_pyIter_gen hat.1 ?_)
  refine wpAny_pure ⟨plainId_quiet F.plain_any_loop _, ?_⟩
  have fin := gx_any (Y := Y) (Q := Q) (A := X.A) (R := fun r s' => match r with | .ok (.ret v) => EP X pins σ Q v s' | .ok _ => False | .error e => X.xe e s') hr.hd (by have := hr.dp; show X.A.depth < _; omega) hpn isG (fun b σ1 H1 s1 s2 I1 idle q => ⟨.bl b, H1, back σ1 H1 s1 s2 I1 idle, rfl, q⟩) n s5 hat
  rw [e1, e2] at fin
  exact fin
end
end Fp

set_option Elab.async false
set_option linter.all false
namespace Fp
open PySem PySem.Spec PyProof.Rows L2
/-! ### x is True, x is not True -/
def rIsB : R2 := fun x y H Q => ∃ a b, x = .bl a ∧ y = .bl b ∧ Q (.bl (decide (a = b))) H
def rNotB : R2 := fun x y H Q => ∃ a b, x = .bl a ∧ y = .bl b ∧ Q (.bl (!decide (a = b))) H
theorem op_isB {X : Cx} : OpR X (compareOp .Is) rIsB := by
  intro pins s σ H x y v u Q I rx ry h
  obtain ⟨a, b, rfl, rfl, q⟩ := h
  cases (show v = Value.bool a from rx)
  cases (show u = Value.bool b from ry)
  refine wpAny_is_plain (by cases a <;> cases b <;> rfl) (fin_bl I q ?_)
  cases a <;> cases b <;> rfl
theorem op_notB {X : Cx} : OpR X (compareOp .IsNot) rNotB := by
  intro pins s σ H x y v u Q I rx ry h
  obtain ⟨a, b, rfl, rfl, q⟩ := h
  cases (show v = Value.bool a from rx)
  cases (show u = Value.bool b from ry)
  refine wpAny_isNot_plain (by cases a <;> cases b <;> rfl) (fin_bl I q ?_)
  cases a <;> cases b <;> rfl
theorem tcn_go {v : V} {σ : L2.St} {H : Hp} {R : List V → Hp → Prop} (h : R [v] H) : tCons (tC v) tNil σ H R := h
/-- all, any over a walk: R by the turn -/
theorem gx_walk {z : Bool} {J : It} {n : Nat} {G : Hp → Prop} {Y : Nat → Hp → V → Hp → Prop} (w : Walk J n G Y) {g : TG} {te : TE} {vs : List Nat} {σ : L2.St} {H1 : Hp} {Q : VK} (R : Nat → Hp → Prop) (h0 : R 0 H1) (hG : ∀ i H, i ≤ n → R i H → G H)
    (hs : ∀ i x H2 H3 (S : VK), i < n → R i H2 → Y i H2 x H3 → (∀ H5, R (i + 1) H5 → S (.bl !z) H5) → (∀ H5, Q (.bl z) H5 → S (.bl z) H5) → g x (wipe σ vs) H3 fun σ4 H4 => wipe σ4 vs = wipe σ vs ∧ te σ4 H4 S)
    (hd : ∀ H2, R n H2 → Q (.bl !z) H2) : ∃ W : Nat → Nat → Hp → Prop, (∃ m, W 0 m H1) ∧ gxW z J g te vs σ Q W := by
  refine ⟨fun i m H => m = n - i ∧ i ≤ n ∧ R i H, ⟨n, by simp, Nat.zero_le _, h0⟩, ?_⟩
  rintro i m H ⟨rfl, hi, r⟩
  have q := hG i H hi r
  by_cases hlt : i < n
  · refine .inr ⟨w.goes i H hlt q, fun x H3 y => hs i x H H3 _ hlt r (w.yields i H x H3 hlt q y) (fun H5 r5 => ⟨!z, rfl, fun e => ?_, fun _ => ⟨n - (i + 1), by omega, rfl, hlt, r5⟩⟩) (fun H5 q5 => ⟨z, rfl, fun _ => q5, fun e => absurd rfl e⟩)⟩
    cases z <;> cases e
  · have e : i = n := by omega
    subst e
    exact .inl ⟨w.stops H q, hd H r⟩
/-- a mark not below or like the one ahead -/
theorem mark_go {K : PySem.W.Frag} {H : Hp} {p q : Addr} {a b c d : Int} {Q : VK} (hp : SqT K H p [.int a, .int b]) (hq : SqT K H q [.int c, .int d]) (h : a < c ∨ (a = c ∧ b < d)) (k : Q (.bl false) H) : rLeT K (.ref q) (.ref p) H Q := by
  refine ⟨q, p, [c, d], [a, b], rfl, rfl, hq, hp, ?_⟩
  have e : Ob.lexAt (fun j => decide ([c, d].getD j 0 = [a, b].getD j 0)) (fun j => decide ([c, d].getD j 0 ≤ [a, b].getD j 0)) (decide ([c, d].length ≤ [a, b].length)) 0 (min [c, d].length [a, b].length) = false := by
    show (if decide (c = a) = true then (if decide (d = b) = true then true else decide (d ≤ b)) else decide (c ≤ a)) = false
    rcases h with h | ⟨h1, h2⟩
    · rw [if_neg (by simp; omega)]
      simp; omega
    · rw [if_pos (by simp; omega), if_neg (by simp; omega)]
      simp; omega
  rw [e]
  exact k
end Fp

set_option Elab.async false
set_option linter.all false
set_option maxRecDepth 100000
set_option maxHeartbeats 4000000
namespace Fp
open PySem PySem.Spec PyProof.Rows L2
/-! ### a caught exception that is kept in a name, beyond the suite too -/
/-- at a: an exception of the class cls with its dict at d, whatever its own fields say by now -/
def exk (a : Addr) (cls : Value) (d : Option Addr) : HO := .ext fun h => ∃ (oe : Obj) (vs : Array Value), h.get? a = some oe ∧ oe.cls = cls ∧ oe.dict = d ∧ oe.data = .fields vs
theorem exk_at {P : Program} {w : World} {H : Hp} {h : Heap} {a : Addr} {cls : Value} {d : Option Addr} (ok : HOk P w H h) (e : H a = some (exk a cls d)) : ∃ (oe : Obj) (vs : Array Value), h.get? a = some oe ∧ oe.cls = cls ∧ oe.dict = d ∧ oe.data = .fields vs :=
  (show ObjOk P w H h a (.ext fun h => ∃ (oe : Obj) (vs : Array Value), h.get? a = some oe ∧ oe.cls = cls ∧ oe.dict = d ∧ oe.data = .fields vs) from ok a _ e).1
theorem exk_ok {P : Program} {w : World} {H : Hp} {h : Heap} {a : Addr} {cls : Value} {d : Option Addr} {oe : Obj} {vs : Array Value} (e : h.get? a = some oe) (z : Zc cls d oe) (hd : oe.data = .fields vs) : ObjOk P w H h a (exk a cls d) :=
  ⟨⟨oe, vs, e, z.1, z.2, hd⟩, ⟨oe, e⟩, fun _ _ ⟨o, v, e1, e2, e3, e4⟩ k => ⟨o, v, k _ e1, e2, e3, e4⟩⟩
section
variable {X : Cx} {pins : List (Addr × Obj)} {σ : L2.St} {H : Hp} {s : Shared}
/-- such an exception, new to the def, is held from now on -/
theorem track_exc {a : Addr} {oe : Obj} {vs : Array Value} {cls : Value} {d : Option Addr} (I : Inv X pins σ H s) (ha : s.heap.get? a = some oe) (hz : Zc cls d oe) (hd : oe.data = .fields vs) (na : H a = none) (nL : a ≠ X.env.locals)
    (fresh : ∀ o, X.s_0.heap.get? a = some o → a ∈ X.ex) (np : ∀ p ∈ X.pn ++ pins, p.1 ≠ a) : Inv X pins σ (upd H a (exk a cls d)) s := by
  have up : ∀ {b : Addr} {u : HO}, H b = some u → upd H a (exk a cls d) b = some u := fun {b u} z => by
    rw [upd_ne (ne_of_none z na)]
    exact z
  have ck : ∀ x c, X.env.cells.lookup x = some c → c ≠ a := fun x c z y => by
    subst y
    obtain ⟨v, hv⟩ := I.cell x c z
    obtain ⟨o, h1, h2⟩ := hv
    rw [ha] at h1
    cases h1
    rw [hd] at h2
    cases h2
  refine { ok := I.ok, os := I.os, bare := I.bare, loc := I.loc, cell := I.cell, len := I.len, base := ?_, free := ?_, freeC := ?_, pin := ?_, hok := ?_ }
  · exact { keep := I.base.keep, slot := I.base.slot, there := I.base.there
            free := fun b o z n hx => by
              rw [upd_ne (fun y => hx (by subst y; exact fresh o z))]
              exact I.base.free b o z n hx
            tups := fun b xs z => up (I.base.tups b xs z)
            frzs := fun b o u z => up (I.base.frzs b o u z)
            tbls := fun b ps z => by
              obtain ⟨more, y⟩ := I.base.tbls b ps z
              exact ⟨more, up y⟩ }
  · rw [upd_ne (Ne.symm nL)]
    exact I.free
  · intro x c z
    rw [upd_ne (ck x c z)]
    exact I.freeC x c z
  · intro p hp
    obtain ⟨h1, h2, h3⟩ := I.pin p hp
    exact ⟨h1, by rw [upd_ne (np p hp)]; exact h2, h3⟩
  · intro b o z
    by_cases hb : b = a
    · subst hb
      rw [upd_same] at z
      cases z
      exact exk_ok ha hz hd
    · rw [upd_ne hb] at z
      exact ObjOk.stay (I.hok b o z) (fun _ _ _ y => y) (fun _ y => up y) (fun _ _ y => up y)
/-- into the suite, nothing pinned; and out of it -/
theorem into_suite (I : Inv X pins σ H s) (a : Addr) : Inv (X.suite a (X.pn ++ pins)) [] σ H s :=
  { ok := I.ok.suite _ _, os := I.os, bare := I.bare, base := I.base, loc := I.loc, cell := I.cell, free := I.free, freeC := I.freeC, hok := I.hok, len := I.len
    pin := fun p hp => I.pin p (by simpa using hp) }
theorem from_suite {a : Addr} {pn' : List (Addr × Obj)} (I : Inv (X.suite a (X.pn ++ pins)) pn' σ H s) (ok : X.Ok) : Inv X pins σ H s :=
  { ok := ok, os := I.os, bare := I.bare, base := I.base, loc := I.loc, cell := I.cell, free := I.free, freeC := I.freeC, hok := I.hok, len := I.len
    pin := fun p hp => I.pin p (List.mem_append_left _ hp) }
/-- no frame is such an exception -/
theorem not_frame {B : Heap} {l : List Env} {h : Heap} {a : Addr} {o : Obj} {vs : Array Value} (ff : h.FunFrames B l) (e : h.get? a = some o) (d : o.data = .fields vs) : a ∉ frs l := fun m => by
  obtain ⟨_, o2, e2, nf⟩ := ff.mem m
  rw [e] at e2
  cases e2
  exact nf _ d
end
/-- what 'except x as n' wishes, the exception kept -/
def wKeep (K : PySem.W.Frag) (c : Value) (i : Nat) (ts : Addr → Value → Option Addr → TS) (Wout : WX) (D : Ends) : WX := fun cls d σ H =>
  ∃ yes, PySem.W.exmOne K cls c = some yes ∧ (yes = false → Wout cls d σ H) ∧
    (yes = true → ∀ a, H a = none → ts a cls d { nx := fun σ2 H2 => D.nx (σ2.set i none) H2, rt := D.rt, bk := fun σ2 H2 => D.bk (σ2.set i none) H2, ct := fun σ2 H2 => D.ct (σ2.set i none) H2 } (σ.set i (some (.ref a))) (upd H a (exk a cls d)))
section
variable {X : Cx} {x n : Str} {c : Value} {i : Nat} {body suite : List Stmt} {first : Stmt} {np p1 p2 : Pos} {tb : WX → TS} {ts : Addr → Value → Option Addr → TS} {Wout : WX}
theorem ps_try_keep (hs : X.stack = X.env :: X.outer) (hf : X.env.frame = some X.env.locals) (hN : X.N.Nodup) (hi : X.N[i]? = some n) (hln : X.env.kindOf n = some .local) (hc : Names X x c) (tk : Takes X Wout)
    (hb : ∀ (W : WX) (pn : List (Addr × Obj)) (xe : Value → Shared → Prop), Takes (X.tr pn xe) W → PassesOwn (model X.prog X.w) X.A X.env xe → PSs (X.tr pn xe) body (tb W))
    (hsu : ∀ (a : Addr) (cls : Value) (d : Option Addr) (pn : List (Addr × Obj)), PSs (X.suite a pn) (first :: suite) (ts a cls d)) :
    PS X (.Try body [.ExceptHandler (some (.Name x np)) (some n) (first :: suite) p2] [] [] p1) (fun D σ H => tb (wKeep X.K c i ts Wout D) D σ H) := by
  constructor
  intro pins s σ H D I h
  have ok := I.ok
  have ef : X.A.frames = some (X.env :: X.outer) := by
    rw [← hs]
    exact ok.frames
  have isl : Loc X.env.scope n := .inl hln
  apply wpAny_Try_except
  refine wpAny_mono ((hb (wKeep X.K c i ts Wout D) (X.pn ++ pins) (fun e t1 => wpAny (model X.prog X.w) X.A (noteFrame e X.env) (fun _ t2 => wpAny (model X.prog X.w) X.A (setFlight e none) (fun _ t3 =>
    wpAny (model X.prog X.w) X.A (handleBy e X.env [.ExceptHandler (some (.Name x np)) (some n) (first :: suite) p2]) (SP X pins D) X.xe t3) X.xe t2) X.xe t1) (fun u t air => ?caught) PassesOwn.looking).run [] s σ H D (I.toTry _) h) (fun f s1 z => ?ended) (fun _ _ z => z)
  case caught =>
    obtain ⟨a, B, sI, pins2, σ2, H2, cls, d, rfl, J0, nb, up, sky, na, os, ag, yes, hyes, no, go⟩ := air
    have J : Inv X pins σ2 H2 sI := J0.ofTry ok
    have sky2 : Sky B (X.env :: X.outer) a (Zc cls d) X.env.locals t.heap := by
      rw [← hs]
      exact sky
    show wpAny _ X.A (noteFrame (.ref a) X.env) _ _ _
    refine Sky.land Zc.steady ef hf sky2 fun h3 fl3 up3 => ?_
    have J3 : Inv X pins σ2 H2 { t with heap := h3 } := J.landed nb fl3.1 (up.trans up3) os ag
    obtain ⟨oe3, vs3, he3, hz3, hd3⟩ := fl3.there
    have nfr := not_frame fl3.2.2.1 he3 hd3
    have nL : a ≠ X.env.locals := fun z => nfr (List.mem_filterMap.mpr ⟨X.env, by simp, by rw [hf, z]⟩)
    have noB : B.get? a = none := fl3.2.1
    have noI : ∀ o, sI.heap.get? a ≠ some o := fun o z => by
      have y := nb a o z (by rw [hs]; exact nfr)
      rw [noB] at y
      cases y
    have fresh : ∀ o, X.s_0.heap.get? a = some o → a ∈ X.ex := fun o z => Classical.byContradiction fun m => by
      obtain ⟨o2, y⟩ := J.base.there a o z m
      exact noI o2 y
    have apart : ∀ p ∈ X.pn ++ pins, p.1 ≠ a := fun p hp z => by
      have y := (J.pin p hp).1
      rw [z] at y
      exact noI _ y
    have S3 : Inv (X.suite a (X.pn ++ pins)) [] σ2 H2 { t with heap := h3 } := into_suite J3 a
    refine wpAny_handleBy_cons (codeAny_handlers_test ?_) (fun z => nomatch z)
    have isC : PySem.W.Looks (model X.prog X.w) h3 (typeOf (.ref a)) cls := fun A2 Q2 E2 s2 k q => wpAny_typeOf_ref (k _ _ he3) (by rw [hz3.1]; exact q)
    have meets := PySem.W.exm_one (M := model X.prog X.w) J3.kIn isC hyes
    have named : ∀ {Q E : Value → Shared → Prop}, Q c { t with heap := h3 } → wpAny (model X.prog X.w) (X.A.mark (some (.ref a))) (eval (.Name x np) X.env) Q E { t with heap := h3 } := fun {Q E} q => by
      obtain ⟨hg, hdb, m | ⟨m, hv, hn⟩⟩ := hc
      · exact ld_glob (X := X.suite a (X.pn ++ pins)) S3 hg m q hdb
      · exact ld_blt (X := X.suite a (X.pn ++ pins)) S3 hg m hv q hn hdb
    refine named (meets.here ?_)
    match yes, no, go with
    | true, no, go =>
      apply codeAny_handlers_suite_as
      refine HandSPX.lands_againZ fl3 fun h4 fl4 up4 => ?_
      obtain ⟨oe4, vs4, he4, hz4, hd4⟩ := fl4.there
      have J4 : Inv X pins σ2 H2 { t with heap := h4 } := J.landed nb fl4.1 ((up.trans up3).trans up4) os ag
      have K4 := into_suite (track_exc J4 he4 hz4 hd4 na nL fresh apart) a
      refine store_ok (X := X.suite a (X.pn ++ pins)) (v := .ref a) K4 hN hi isl rfl (fun s5 S5 => ?_) (.inr hln)
      refine wpAny_mono ((hsu a cls d (X.pn ++ pins)).run [] s5 _ _ _ S5 (go rfl a na)) (fun f s6 z => ?_) (fun _ _ z => z.elim)
      have out : ∀ {σ6 : L2.St} {H6 : Hp} {Q : Shared → Prop}, Inv (X.suite a (X.pn ++ pins)) [] σ6 H6 s6 → (∀ s7, Inv X pins (σ6.set i none) H6 s7 → Q s7) → wpAny (model X.prog X.w) X.A (do bindName X.env n .none; unbindBehindTheSuite X.env n p2) (fun _ s7 => Q s7) X.xe s6 :=
        fun S6 q => gone_ok (from_suite S6 ok) hN hi hln q
      match f, z with
      | .next, ⟨_, _, S6, q⟩ => exact out S6 fun _ J7 => ⟨_, _, J7, q⟩
      | .brk, ⟨_, _, S6, q⟩ => exact out S6 fun _ J7 => ⟨_, _, J7, q⟩
      | .cont, ⟨_, _, S6, q⟩ => exact out S6 fun _ J7 => ⟨_, _, J7, q⟩
      | .ret u, ⟨_, _, _, S6, r, q⟩ => exact out S6 fun _ J7 => ⟨_, _, _, J7, r, q⟩
    | false, no, go =>
      show wpAny _ X.A (handleBy (.ref a) X.env []) _ _ _
      apply wpAny_handleBy_nil
      obtain ⟨_, _, _, oe, vs, T, oT, _, he, _, hd, h1, _⟩ := id fl3
      unfold PySem.passOn
      refine wpAny_bind (wpAny_field he hd h1 ?_)
      rw [if_neg (show ¬ ((Value.ref T == Value.none) = true) by simp)]
      have on : wpAny (model X.prog X.w) X.A (setFlight (.ref a) X.env.frame) (fun _ t4 => wpAny (model X.prog X.w) X.A (throw (.ref a) : Sem Flow) (SP X pins D) X.xe t4) X.xe { t with heap := h3 } := by
        rw [hf]
        refine HandSPX.setFlight_upZ fl3 fun h4 held up4 => wpAny_throw (tk _ _ ⟨a, B, sI, pins, σ2, H2, cls, d, rfl, J, nb, (up.trans up3).trans up4, .inr (.inr ?_), na, os, ag, no rfl⟩)
        rw [hs]
        exact held
      first
        | exact wpAny_bind on
        | exact wpAny_bind (wpAny_pure (wpAny_bind on))
  case ended =>
    match f, z with
    | .next, ⟨_, _, J, q⟩ => exact wpAny_execs_nil ⟨_, _, J.ofTry ok, q⟩
    | .brk, ⟨_, _, J, q⟩ => exact ⟨_, _, J.ofTry ok, q⟩
    | .cont, ⟨_, _, J, q⟩ => exact ⟨_, _, J.ofTry ok, q⟩
    | .ret u, ⟨_, _, _, J, r, q⟩ => exact ⟨_, _, _, J.ofTry ok, r, q⟩
end
/-! ### isinstance, fields -/
/-- a kept exception of the class at D, its fields fs -/
def ExK (H : Hp) (a D : Addr) (fs : List (Str × V)) : Prop := (fs = [] ∧ H a = some (exk a (.ref D) none)) ∨ ∃ dd, H a = some (exk a (.ref D) (some dd)) ∧ H dd = some (.xd fs)
theorem ExK.inst {X : Cx} {pins : List (Addr × Obj)} {σ : L2.St} {H : Hp} {s : Shared} {a D : Addr} {fs : List (Str × V)} (I : Inv X pins σ H s) (h : ExK H a D fs) : ∃ (oe : Obj) (od : Option Obj), PySem.W.InstAt s.heap a oe D od := by
  rcases h with ⟨_, h⟩ | ⟨dd, h, hd⟩
  · obtain ⟨oe, vs, e, e1, e2, e3⟩ := exk_at I.hok h
    exact ⟨oe, none, ⟨e, e1, by unfold PySem.W.notCls; rw [e3] <;> rfl, by rw [e2]; exact trivial⟩⟩
  · obtain ⟨oe, vs, e, e1, e2, e3⟩ := exk_at I.hok h
    have hx : ObjOk X.prog X.w H s.heap dd (.xd fs) := I.hok dd _ hd
    obtain ⟨mA, hns, _⟩ := hx
    obtain ⟨od, ho, _⟩ := lookIn_ns hns
    exact ⟨oe, some od, ⟨e, e1, by unfold PySem.W.notCls; rw [e3] <;> rfl, by rw [e2]; exact ho⟩⟩
theorem ExK.same {H H' : Hp} {a D : Addr} {fs : List (Str × V)} (h : ExK H a D fs) (e : ∀ b o, H b = some o → H' b = some o) : ExK H' a D fs := by
  rcases h with ⟨z, h⟩ | ⟨dd, h, hd⟩
  · exact .inl ⟨z, e _ _ h⟩
  · exact .inr ⟨dd, e _ _ h, e _ _ hd⟩
def rIsK (K : PySem.W.Frag) : List V → Hp → VK → Prop := fun xs H Q => ∃ (a D : Addr) (fs : List (Str × V)) (c : V) (cv : Value) (b : Bool), xs = [.ref a, c] ∧ ExK H a D fs ∧ ExcC K D ∧ ClsV c cv ∧ PySem.W.kitOne K (.ref D) cv = some b ∧ Q (.bl b) H
theorem clsIn_of {K : PySem.W.Frag} {D : Addr} (C : ExcC K D) : (PySem.W.clsIn K D).isSome = true := by
  obtain ⟨cd, hc, _⟩ := PySem.W.any_some C.hd
  rw [hc]
  rfl
theorem call_isK {X : Cx} : CallR X (.builtin "isinstance") (rIsK X.K) := by
  intro pins s σ H xs us Q I r h
  obtain ⟨a, D, fs, c, cv, b, rfl, hx, C, hcv, e, q⟩ := h
  obtain ⟨u1, u2, rfl, r1, r2⟩ := vals2 r
  obtain rfl : u1 = Value.ref a := r1
  obtain rfl := hcv.eq r2
  obtain ⟨oe, od, J⟩ := hx.inst I
  exact PySem.W.kia_one (PySem.W.kitx_exc (clsIn_of C) C.hg C.hk C.hs C.ha C.hn C.ht C.hm) I.kIn J e (fun z => nomatch z) fun tk => ⟨.bl b, H, I.kept (t' := tk) fun _ _ z => z, rfl, q⟩
def rIsKT (K : PySem.W.Frag) : List V → Hp → VK → Prop := fun xs H Q => ∃ (a D tp : Addr) (fs : List (Str × V)) (cs : List V) (us : List Value) (b : Bool), xs = [.ref a, .ref tp] ∧ ExK H a D fs ∧ ExcC K D ∧ H tp = some (.tup cs) ∧ Paired ClsV cs us ∧ PySem.W.kitAny K (.ref D) us = some b ∧ Q (.bl b) H
theorem call_isKT {X : Cx} : CallR X (.builtin "isinstance") (rIsKT X.K) := by
  intro pins s σ H xs us Q I r h
  obtain ⟨a, D, tp, fs, cs, ws, b, rfl, hx, C, hT, k, e, q⟩ := h
  obtain ⟨u1, u2, rfl, r1, r2⟩ := vals2 r
  obtain rfl : u1 = Value.ref a := r1
  obtain rfl : u2 = Value.ref tp := r2
  obtain ⟨oe, od, J⟩ := hx.inst I
  have hx2 : ObjOk X.prog X.w H s.heap tp (.tup cs) := I.hok tp _ hT
  obtain ⟨_, its, rv, o, h1, h2, n, h3⟩ := hx2
  obtain rfl := ClsV.all k rv
  obtain ⟨oc, od2, dt, sl⟩ := o
  simp only at h2 h3
  subst h2 h3
  exact PySem.W.kia_tup (PySem.W.kitx_exc (clsIn_of C) C.hg C.hk C.hs C.ha C.hn C.ht C.hm) I.kIn J h1 e (fun z => nomatch z) fun tk => ⟨.bl b, H, I.kept (t' := tk) fun _ _ z => z, rfl, q⟩
/-- e.f, e such an exception -/
def tFldK (K : PySem.W.Frag) (f : Str) (te : TE) : TE := fun σ H Q => te σ H fun x H1 => ∃ (a C : Addr) (fs : List (Str × V)) (v : V), x = .ref a ∧ ExK H1 a C fs ∧ XfC K C ∧ PySem.W.findIn K (.ref C) f = some none ∧ fs.lookup f = some v ∧ Q v H1
theorem pe_fldK {X : Cx} {e : Expr} {te : TE} {pos : Pos} {n : Str} (he : PE X e te) (hb : attributeBase e n X.env (eval e X.env) = eval e X.env := by rfl) : PE X (.Attribute e n pos) (tFldK X.K n te) := by
  refine ⟨fun pins s σ H Q I h => ?_⟩
  refine attr_of hb (thn (he.run pins s σ H _ I h) fun u s1 hh => ?_)
  obtain ⟨x, H1, I1, rx, a, C, fs, v, ex, hk, T, hno, l, q⟩ := hh
  subst ex
  obtain rfl : u = Value.ref a := rx
  rcases hk with ⟨z, _⟩ | ⟨dd, ea, ed⟩
  · rw [z] at l
    cases l
  · obtain ⟨oe, vs, e0, e1, e2, e3⟩ := exk_at I1.hok ea
    have hx : ObjOk X.prog X.w H1 s1.heap dd (.xd fs) := I1.hok dd _ ed
    obtain ⟨mA, hns, hr⟩ := hx
    obtain ⟨od, ho, hl⟩ := lookIn_ns hns
    obtain ⟨u, hu, ru⟩ := RelO.some_of (v := v) (o := mA n) (by rw [← l]; exact hr n)
    have J : PySem.W.InstAt s1.heap a oe C (some od) := ⟨e0, e1, by unfold PySem.W.notCls; rw [e3] <;> rfl, by rw [e2]; exact ho⟩
    exact HandSPX.exc_get I1.kIn J T.ga T.gg T.exC (PySem.W.findObj_own T.hdC hno rfl (by rw [hl, hu])) (handed_of ru) ⟨v, H1, I1.tok _, ru, q⟩
end Fp

set_option Elab.async false
set_option linter.all false
set_option maxRecDepth 100000
set_option maxHeartbeats 4000000
namespace Fp
open PySem PySem.Spec PyProof.Rows L2
/-! ### defs whose code is known: generator expressions in them; a law's end with code tables and sys.modules -/
/-- as Fun, the code's value told -/
structure FunC (K : PySem.W.Frag) (x qual : Str) (st : Stmt) (f : Addr) (fd : FuncData) (cv : Value) : Prop where
  ex : ∃ (oc : Value) (od : Option Addr) (kV doc pm : Value) (an : Option Addr) (ct : Value) (osl : Array (Option Value)), fd = PySem.W.fnOf x qual (defArgs st) (defBody st) (defScope st) .none kV doc pm an cv ct ∧ K.lookup f = some ⟨oc, od, .func fd, osl⟩ ∧ PySem.W.codeIn K cv qual = true
  kp : PySem.W.keepIn K (.ref f) = true
theorem FunC.fun {K : PySem.W.Frag} {x qual : Str} {st : Stmt} {f : Addr} {fd : FuncData} {cv : Value} (F : FunC K x qual st f fd cv) : Fun K x qual st f fd := by
  obtain ⟨oc, od, kV, doc, pm, an, ct, osl, e, l, c⟩ := F.ex
  exact ⟨⟨oc, od, kV, doc, pm, an, cv, ct, osl, e, l, c⟩, F.kp⟩
theorem funC_mk {K : PySem.W.Frag} {x qual : Str} {st : Stmt} {f : Addr} {oc : Value} {od an : Option Addr} {osl : Array (Option Value)} {kV doc pm cv ct : Value} (l : K.lookup f = some ⟨oc, od, .func (PySem.W.fnOf x qual (defArgs st) (defBody st) (defScope st) .none kV doc pm an cv ct), osl⟩) (c : PySem.W.codeIn K cv qual = true)
    (k : PySem.W.keepIn K (.ref f) = true) : FunC K x qual st f (PySem.W.fnOf x qual (defArgs st) (defBody st) (defScope st) .none kV doc pm an cv ct) cv := ⟨⟨oc, od, kV, doc, pm, an, ct, osl, rfl, l, c⟩, k⟩
section
variable {P : Program} {w : World} {K : PySem.W.Frag} {mg : Str → Option Value} {base : Heap} {x qual : Str} {st : Stmt} {f : Addr} {fd : FuncData} {N ps : List Str} {k : Nat} {sp : Sp} {cv : Value}
theorem FunC.ok (F : FunC K x qual st f fd cv) (S : FnScope N ps (defScope st)) (len : ∀ vs H Q E, sp vs H Q E → vs.length = ps.length)
    (body : ∀ (A : Around) (outer : List Env) (s : Shared) (H : Hp) (vs : List V) (Q : VK) (E : XK), Room k (A.deeper (envOfC qual (defScope st) s.heap.objs.size f cv)) → sp vs H Q E →
      ∃ t, PSs (cxOf CX0 P w K mg base N qual (defScope st) f cv A outer s H E).nox (defBody st) t ∧ t { nx := fun _ H' => Q .non H', rt := Q } (start N vs) H) : FnOk P w K mg base CX0 (k + 1) f fd ps sp := by
  obtain ⟨oc, od, kV, doc, pm, an, ct, osl, rfl, l, c⟩ := F.ex
  refine fn_of l c S len fun A outer s H vs Q E hr hsp => ?_
  obtain ⟨t, h, q⟩ := body A outer s H vs Q E hr hsp
  exact ⟨t, h.nox, q⟩
theorem FunC.okX (F : FunC K x qual st f fd cv) (S : FnScope N ps (defScope st)) (len : ∀ vs H Q E, sp vs H Q E → vs.length = ps.length)
    (body : ∀ (A : Around) (outer : List Env) (s : Shared) (H : Hp) (vs : List V) (Q : VK) (E : XK), Room k (A.deeper (envOfC qual (defScope st) s.heap.objs.size f cv)) → sp vs H Q E →
      ∃ t, PSs (cxOf (L2.CX P w) P w K mg base N qual (defScope st) f cv A outer s H E) (defBody st) t ∧ t { nx := fun _ H' => Q .non H', rt := Q } (start N vs) H) : FnOk P w K mg base (L2.CX P w) (k + 1) f fd ps sp := by
  obtain ⟨oc, od, kV, doc, pm, an, ct, osl, rfl, l, c⟩ := F.ex
  exact fn_of l c S len fun A outer s H vs Q E hr hsp => body A outer s H vs Q E hr hsp
end
/-- where the table of a code object of the written part is -/
def tabOf (K : PySem.W.Frag) (cv : Value) : Option Addr := match cv with
  | .ref c => (match K.lookup c with
    | some ⟨_, _, .fields vs, _⟩ => (match vs.toList.drop 11 with
      | .ref P :: _ => some P
      | _ => none)
    | _ => none)
  | _ => none
theorem tabOf_spec {K : PySem.W.Frag} {cv : Value} {P : Addr} (h : tabOf K cv = some P) : ∃ c oc od vs osl, cv = .ref c ∧ K.lookup c = some ⟨oc, od, .fields vs, osl⟩ ∧ vs[11]? = some (.ref P) := by
  unfold tabOf at h
  split at h
  · rename_i c
    split at h
    · rename_i oc od vs osl e
      split at h
      · rename_i Q r e2
        cases h
        refine ⟨c, oc, od, vs, osl, rfl, e, ?_⟩
        have z : (vs.toList.drop 11)[0]? = some (.ref P) := by rw [e2]; rfl
        rw [List.getElem?_drop] at z
        simpa using z
      · cases h
    · cases h
  · cases h
/-- a def of the top, its code's table at P, outside of the written part -/
structure TabAt (K : PySem.W.Frag) (q : Program) (mg : Str → Option Value) (c P : Addr) : Prop where
  ex : ∃ (d : DefRec) (f : Addr) (oc : Value) (od : Option Addr) (fd : FuncData) (osl : Array (Option Value)), d ∈ recsOf q ∧ mg d.name = some (.ref f) ∧ K.lookup f = some ⟨oc, od, .func fd, osl⟩ ∧ fd.code = .ref c
  tab : tabOf K (.ref c) = some P
  out : K.lookup P = none
theorem rec_of {q : Program} {n : Str} (h : ((recsOf q).any fun d => d.name == n) = true) : ∃ d ∈ recsOf q, d.name = n := by
  obtain ⟨d, hd, e⟩ := List.any_eq_true.mp h
  exact ⟨d, hd, eq_of_beq e⟩
theorem tabAt_mk {K : PySem.W.Frag} {q : Program} {mg : Str → Option Value} {n : Str} {f c P : Addr} {oc : Value} {od : Option Addr} {fd : FuncData} {osl : Array (Option Value)} {cv : Value} (h : ((recsOf q).any fun d => d.name == n) = true) (hm : mg n = some (.ref f)) (l : K.lookup f = some ⟨oc, od, .func fd, osl⟩) (hc : fd.code = cv)
    (ht : tabOf K cv = some P) (ho : K.lookup P = none) : ∃ c, cv = .ref c ∧ TabAt K q mg c P := by
  obtain ⟨d, hd, e⟩ := rec_of h
  obtain ⟨c, _, _, _, _, rfl, _, _⟩ := tabOf_spec ht
  exact ⟨c, rfl, ⟨d, f, oc, od, fd, osl, hd, by rw [e]; exact hm, l, hc⟩, ht, ho⟩
theorem tab_facts {K : PySem.W.Frag} {q : Program} {mg mb : Str → Option Value} {loose : List Str} {mean : ExcName → Option Value} {h : Heap} {c P : Addr} (KX : K.In h) (T : Top q loose mean mg mb h) (t : TabAt K q mg c P) :
    h.get? P = some { cls := .none, data := .fields #[] } ∧ PySem.W.CodeHd h c P := by
  obtain ⟨d, f, oc, od, fd, osl, hd, hm, l, hc⟩ := t.ex
  obtain ⟨a, o, fd2, c2, P2, e1, e2, e3, e4, isC, tabA⟩ := T.tab d hd
  rw [hm] at e1
  cases e1
  have e5 := KX _ _ l
  rw [e2] at e5
  cases e5
  have e3' : fd = fd2 := by
    have z : Data.func fd = Data.func fd2 := e3
    cases z
    rfl
  subst e3'
  rw [hc] at e4
  cases e4
  obtain ⟨c3, oc3, od3, vs3, osl3, e6, e7, e8⟩ := tabOf_spec t.tab
  cases e6
  obtain ⟨⟨o4, vs4, f1, f2, f3, f4⟩, f5⟩ := tabA
  have e9 := KX _ _ e7
  rw [f1] at e9
  cases e9
  have e10 : vs4 = vs3 := by
    have z : Data.fields vs3 = Data.fields vs4 := f3
    cases z
    rfl
  subst e10
  rw [e8] at f4
  cases f4
  exact ⟨f5, PySem.W.CodeHd.of isC ⟨⟨_, vs4, f1, f2, f3, e8⟩, f5⟩⟩
/-- sys.modules stands in the ground -/
def SysB (base : Heap) : Prop := ∃ mm, base.Ns sysModules mm
theorem SysB.nolist {X : Cx} {pins : List (Addr × Obj)} {σ : L2.St} {H : Hp} {s : Shared} (y : SysB X.base) (I : Inv X pins σ H s) {o : Obj} {xs : Array Value} {n : Nat} (e : s.heap.get? sysModules = some o) (d : o.data = .seq xs n) : False := by
  obtain ⟨mm, o2, es, ep, e1, e2, _⟩ := y
  have z := I.bk _ _ e1
  rw [e] at z
  cases z
  rw [d] at e2
  cases e2
theorem lawGT {P : Program} {w : World} {K : PySem.W.Frag} {mg mb : Str → Option Value} {lv : Nat} {fa a : Addr} {cs : List (Addr × Addr)} {fd : FuncData} {x : Str} {sp : Sp} {s1 : Shared} {vs : List Value} {ns : List Int}
    (KX : K.In s1.heap) (hns : s1.heap.Ns mainGlobals mg) (hb : s1.heap.Ns builtinsNs mb) (hbb : ∀ x : Str, x ≠ "__name__" → mb x = bootBuiltins x) (hlim : s1.heap.NoLimit) (hsys : SysB s1.heap) (hg : s1.gens = #[])
    (hT : ∀ p ∈ cs, s1.heap.get? p.2 = some { cls := .none, data := .fields #[] }) (nT : ∀ p ∈ cs, K.lookup p.2 = none) (C : ∀ p ∈ cs, PySem.W.CodeHd s1.heap p.1 p.2)
    (hbm : ∃ (bm : Addr) (ob : Obj), mg "__builtins__" = some (.ref bm) ∧ bm ≠ builtinsNs ∧ s1.heap.get? bm = some ob ∧ ob.cls = .type "module" ∧ ob.dict = some builtinsNs ∧ ob.data = .plain)
    (ha : s1.heap.get? a = some { cls := .type "list", data := .seq vs.toArray }) (hi : IntsAre vs ns) (hl : ns.length ≤ sizeLine) (hr : Room lv callerA)
    (G : ∀ base : Heap, K.In base → base.Ns mainGlobals mg → SysB base → (∀ p ∈ cs, GxR.TabB base mg p.1 p.2) → FnG P w K mg base CX0 lv fa fd [x] sp) (hbind : ∀ (s : Shared) (u : Value), BindsTo s fd ⟨[u], []⟩ [(x, u)])
    (hsp : ∀ H : Hp, (∀ p ∈ cs, H p.2 = some (tabx p.2)) → SqL K H a (ns.map V.int) → sp [.ref a] H (fun v H2 => v = .bl true ∧ ∀ p ∈ cs, H2 p.2 = some (tabx p.2)) fun _ _ _ => False) :
    codeAny (model P w) callerA (.call (.ref fa) ⟨[.ref a], []⟩) (fun r s2 => r = .ok (.ret (.bool true)) ∧ OldK s1.heap s2.heap ∧ s2.os = s1.os ∧ AllBare s2.gens) s1 := by
  have rv := vals_ints hi
  have lenV := hi.length
  have tabs : ∀ b ∈ cs.map (·.2), s1.heap.get? b = some { cls := .none, data := .fields #[] } := fun b hb2 => by
    obtain ⟨p, hp, e⟩ := List.mem_map.mp hb2
    rw [← e]
    exact hT p hp
  have inT : ∀ p ∈ cs, p.2 ∈ cs.map (·.2) := fun p hp => List.mem_map.mpr ⟨p, hp, rfl⟩
  have aT : a ∉ cs.map (·.2) := fun z => by
    have y := tabs a z
    rw [ha] at y
    have y2 : Data.seq vs.toArray _ = Data.fields #[] := congrArg Obj.data (Option.some.inj y)
    cases y2
  have main : ∀ H : Hp, (∀ p ∈ cs, H p.2 = some (tabx p.2)) → (∀ b, H b = none ∨ b ∈ cs.map (·.2) ∨ ∃ ob xs, H b = some (.frz ob (.lst xs))) → SqL K H a (ns.map V.int) → HOk P w H s1.heap → (∀ b, H b ≠ none → b = a ∨ b ∈ cs.map (·.2)) → (H a ≠ none → K.lookup a = none) →
      codeAny (model P w) callerA (.call (.ref fa) ⟨[.ref a], []⟩) (fun r s2 => r = .ok (.ret (.bool true)) ∧ OldK s1.heap s2.heap ∧ s2.os = s1.os ∧ AllBare s2.gens) s1 := by
    intro H hH hO hS hok hA hK
    have free : ∀ {b : Addr} {o : Obj}, s1.heap.get? b = some o → (∀ xs n, o.data ≠ .seq xs n) → o.data ≠ .fields #[] → H b = none := fun {b o} e d1 d2 => by
      match q : H b with
      | none => rfl
      | some u =>
        rcases hA b (by rw [q]; simp) with z | z
        · rw [z, ha] at e
          cases e
          exact absurd rfl (d1 _ _)
        · rw [tabs b z] at e
          cases e
          exact absurd rfl d2
    have ground : ∀ {b : Addr} {o : Obj}, s1.heap.get? b = some o → (∀ xs n, o.data ≠ .seq xs n) → o.data ≠ .fields #[] → (hidT s1.heap H).get? b = some o := fun e d1 d2 => hidT_get e (free e d1 d2)
    have dct : ∀ {b : Addr} {o : Obj} {es : Array DictEntry} {ep : Nat}, s1.heap.get? b = some o → o.data = .dict es ep → (hidT s1.heap H).get? b = some o := fun {b o es ep} e d => ground e (fun xs n z => by rw [d] at z; cases z) (fun z => by rw [d] at z; cases z)
    have nsK : ∀ {b : Addr} {m : Str → Option Value}, s1.heap.Ns b m → (hidT s1.heap H).Ns b m := fun {b m} z => by
      obtain ⟨o, es, ep, e1, d1, r1⟩ := z
      exact ⟨o, es, ep, dct e1 d1, d1, r1⟩
    have kinB : K.In (hidT s1.heap H) := fun b o e => hidT_get (KX b o e) (by
      match q : H b with
      | none => rfl
      | some u =>
        rcases hA b (by rw [q]; simp) with z | z
        · rw [z] at e q
          rw [hK (by rw [q]; simp)] at e
          cases e
        · obtain ⟨p, hp, ep⟩ := List.mem_map.mp z
          rw [← ep, nT p hp] at e
          cases e)
    have M : Mod K mg (hidT s1.heap H) := ⟨kinB, nsK hns, ⟨mb, nsK hb, hbb⟩, by obtain ⟨mc, h1, h2⟩ := hlim; exact ⟨mc, nsK h1, h2⟩⟩
    have sysB : SysB (hidT s1.heap H) := by
      obtain ⟨mm, h1⟩ := hsys
      exact ⟨mm, nsK h1⟩
    have TB : ∀ p ∈ cs, GxR.TabB (hidT s1.heap H) mg p.1 p.2 := fun p hp => by
      have eT := hT p hp
      refine ⟨?_, ?_, fun z => ?_⟩
      · obtain ⟨o, us, file, tf, flags, tg, inF, text, tt, e1, r1, r2, r3, r4⟩ := C p hp
        refine ⟨o, us, file, tf, flags, tg, inF, text, tt, ground e1 (fun xs n z => by rw [r2] at z; cases z) (fun z => ?_), r1, r2, r3, r4⟩
        rw [r2] at z
        cases z
        simp at r3
      · obtain ⟨bm, ob, b1, b2, b3, b4, b5, b6⟩ := hbm
        refine ⟨bm, ob, b1, b2, fun y => ?_, fun y => ?_, ground b3 (fun xs n z => by rw [b6] at z; cases z) (fun z => by rw [b6] at z; cases z), b4, b5, b6⟩
        · obtain ⟨o, es, ep, e, d, _⟩ := hns
          rw [y, e] at b3
          cases b3
          rw [d] at b6
          cases b6
        · rw [y, eT] at b3
          cases b3
          cases b6
      · obtain ⟨o, es, ep, e, d, _⟩ := hns
        rw [z, eT] at e
        cases e
        cases d
    have nofr : ∀ {b : Addr}, ¬ b ∈ frs [] := fun {b} z => by
      have z2 : b ∈ ([] : List Addr) := z
      simp at z2
    have e0 : Env0 P w K mg (hidT s1.heap H) callerA [] s1 H := ⟨rfl, M, fun b o z => of_hidT z, Nat.le_of_eq (hidT_size _ _), trivial, fun b z => absurd z nofr, hok, .of_eq hg⟩
    refine codeAny_mono ((G _ kinB (nsK hns) sysB TB).runs callerA [] s1 H ⟨[.ref a], []⟩ [.ref a] [.ref a] _ _ rfl hr e0 (hbind s1 (.ref a)) (.cons rfl .nil) (hsp H hH hS)) fun res s2 z => ?_
    match res, z with
    | .error e, z => exact False.elim z
    | .ok .next, z => exact False.elim z
    | .ok .brk, z => exact False.elim z
    | .ok .cont, z => exact False.elim z
    | .ok (.ret u), z =>
      obtain ⟨v, H2, os, bare, un, hok2, r2, q⟩ := z
      obtain ⟨qv, qT⟩ := q
      subst qv
      obtain rfl : u = Value.bool true := r2
      have kept : ∀ b o, b ∉ cs.map (·.2) → s1.heap.get? b = some o → s2.heap.get? b = some o := fun b o nb e => by
        match q : H b with
        | none => exact un.keep b o e q nofr (by simp)
        | some u =>
          rcases hO b with z | z | ⟨ob, xs, z⟩
          · rw [q] at z; cases z
          · exact absurd z nb
          · obtain ⟨g1, _⟩ := hok b _ z
            obtain ⟨g2, _⟩ := hok2 b _ (un.frzs b ob _ z)
            rw [e] at g1; cases g1
            exact g2
      -- a table: it may have grown
      have grown : ∀ p ∈ cs, ∃ more : Array Value, s2.heap.get? p.2 = some { cls := .none, data := .fields more } := fun p hp => by
        obtain ⟨more, e, _⟩ := tabx_at hok2 (qT p hp)
        exact ⟨more, e⟩
      refine ⟨rfl, ⟨fun b o e => ?_, fun b o e => ?_⟩, os, bare⟩
      · by_cases hbt : b ∈ cs.map (·.2)
        · obtain ⟨p, hp, ep⟩ := List.mem_map.mp hbt
          obtain ⟨more, hm⟩ := grown p hp
          rw [← ep] at e ⊢
          rw [hT p hp] at e
          cases e
          exact .inr (.inl ⟨((C p hp).tab (hT p hp)).isCodeTable, rfl, #[], more, rfl, by rw [Array.empty_append]; exact hm⟩)
        · exact .inl (kept b o hbt e)
      · by_cases hbt : b ∈ cs.map (·.2)
        · obtain ⟨p, hp, ep⟩ := List.mem_map.mp hbt
          obtain ⟨more, hm⟩ := grown p hp
          rw [← ep]
          exact ⟨_, hm⟩
        · exact ⟨o, kept b o hbt e⟩
  have nilT : TriplesOk (#[] : Array Value).toList := True.intro
  match hk : K.lookup a with
  | some o =>
    have e := KX a o hk
    rw [ha] at e
    cases e
    have yes : ∀ {b : Addr}, b ∈ cs.map (·.2) → (if b ∈ cs.map (·.2) then some (tabx b) else none) = some (tabx b) := fun z => if_pos z
    have nay : ∀ {b : Addr}, b ∉ cs.map (·.2) → (if b ∈ cs.map (·.2) then some (tabx b) else none) = none := fun z => if_neg z
    refine main (fun b => if b ∈ cs.map (·.2) then some (tabx b) else none) (fun p hp => yes (inT p hp)) (fun b => ?_) (.inr ⟨_, vs.toArray, _, hk, rfl, rfl, rfl, by rw [List.size_toArray, lenV]; exact hl, by simpa using rv⟩) (fun b u z => ?_) (fun b z => ?_) fun z => absurd (nay aT) z
    · by_cases h : b ∈ cs.map (·.2)
      · exact .inr (.inl h)
      · exact .inl (nay h)
    · by_cases h : b ∈ cs.map (·.2)
      · have z2 := (yes h).symm.trans z
        cases z2
        exact tabx_ok (tabs b h) nilT
      · have z2 := (nay h).symm.trans z
        cases z2
    · by_cases h : b ∈ cs.map (·.2)
      · exact .inr h
      · exact absurd (nay h) z
  | none =>
    let F0 : HO := HO.frz { cls := .type "list", data := .seq vs.toArray } (.lst (ns.map V.int))
    have y1 : ∀ {b : Addr}, b = a → (if b = a then some F0 else if b ∈ cs.map (·.2) then some (tabx b) else none) = some F0 := fun z => if_pos z
    have y2 : ∀ {b : Addr}, b ≠ a → b ∈ cs.map (·.2) → (if b = a then some F0 else if b ∈ cs.map (·.2) then some (tabx b) else none) = some (tabx b) := fun z h => (if_neg z).trans (if_pos h)
    have y3 : ∀ {b : Addr}, b ≠ a → b ∉ cs.map (·.2) → (if b = a then some F0 else if b ∈ cs.map (·.2) then some (tabx b) else none) = none := fun z h => (if_neg z).trans (if_neg h)
    refine main (fun b => if b = a then some F0 else if b ∈ cs.map (·.2) then some (tabx b) else none) (fun p hp => y2 (fun z => aT (by rw [← z]; exact inT p hp)) (inT p hp)) (fun b => ?_) (.inl (.inr ⟨_, y1 rfl⟩)) (fun b u z => ?_) (fun b z => ?_) fun _ => hk
    · by_cases h : b = a
      · exact .inr (.inr ⟨_, _, y1 h⟩)
      · by_cases h2 : b ∈ cs.map (·.2)
        · exact .inr (.inl h2)
        · exact .inl (y3 h h2)
    · by_cases h : b = a
      · have z2 := (y1 h).symm.trans z
        cases z2
        subst h
        exact ⟨ha, by rw [List.length_map]; exact hl, vs, _, rv, ha⟩
      · by_cases h2 : b ∈ cs.map (·.2)
        · have z2 := (y2 h h2).symm.trans z
          cases z2
          exact tabx_ok (tabs b h2) nilT
        · have z2 := (y3 h h2).symm.trans z
          cases z2
    · by_cases h : b = a
      · exact .inl h
      · by_cases h2 : b ∈ cs.map (·.2)
        · exact .inr h2
        · exact absurd (y3 h h2) z
theorem walkGT {l : PySem.W.OpenLaw} {n lv : Nat} {q : Program} {loose : List Str} {XP : (Str → Option Value) → Heap → Prop} {YP : World → Heap → Prop} {d : DefRec} {K : Params → PySem.W.Frag} {x : Str}
    (hn : l.most = some n) (hn2 : n ≤ sizeLine) (hdf : d.params.defaults = []) (hr : Room lv callerA) (hY : ∀ (w : World) (h : Heap), YP w h → (K w.params).In h) (hseer : importsNone q = true)
    (G : ∀ (w : World) (mg : Str → Option Value) (fa : Addr) (h : Heap), (K w.params).In h → h.Ns mainGlobals mg → mg d.name = some (.ref fa) →
      ∃ (fd : FuncData) (cs : List (Addr × Addr)) (sp : Sp), (∀ p ∈ cs, TabAt (K w.params) q mg p.1 p.2) ∧ (∀ (s : Shared) (u : Value), BindsTo s fd ⟨[u], []⟩ [(x, u)]) ∧
        (∀ (H : Hp) (a : Addr) (ns : List Int), ns.length ≤ n → (∀ p ∈ cs, H p.2 = some (tabx p.2)) → SqL (K w.params) H a (ns.map V.int) → sp [.ref a] H (fun v H2 => v = .bl true ∧ ∀ p ∈ cs, H2 p.2 = some (tabx p.2)) fun _ _ _ => False) ∧
        ∀ base : Heap, (K w.params).In base → base.Ns mainGlobals mg → SysB base → (∀ p ∈ cs, GxR.TabB base mg p.1 p.2) → FnG l.prog w (K w.params) mg base CX0 lv fa fd [x] sp) :
    PySem.W.WalkO q loose XP YP l.row.toRowW d [] (fun f vs => PySem.call f vs) := by
  refine Att.attach_call hn hdf fun w s0 s1 mg mb fa o pm cd doc a vs ns Gr Y ho hd hcd hmg hobj hints hlen hg => ?_
  have KX := hY w _ Y
  obtain ⟨fd, cs, sp, hC, hb, hsp, hF⟩ := G w mg fa _ KX Gr.T.g hmg
  have seer := Gr.T.seer hseer
  obtain ⟨mm, hmods, _⟩ := seer.mods
  exact lawGT KX Gr.T.g Gr.T.b Gr.T.builtins Gr.T.nolimit ⟨mm, hmods⟩ hg (fun p hp => (tab_facts KX Gr.T (hC p hp)).1) (fun p hp => (hC p hp).out) (fun p hp => (tab_facts KX Gr.T (hC p hp)).2) Gr.T.bmain hobj hints (Nat.le_trans hlen hn2) hr hF hb fun H hH hS => hsp H a ns hlen hH hS
end Fp

set_option Elab.async false
set_option linter.all false
set_option maxRecDepth 100000
set_option maxHeartbeats 4000000
namespace Fp
open PySem PySem.Spec PyProof.Rows L2
/-! ### C(e, ..) as a value: an own exception over ValueError, kept as it stands -/
/-- C(e, ..), C's own __init__ keeping sp; the exception stands in the heap as exo, its fields as exd -/
def tMkV (C : Addr) (sp : Sp) (dvs : List V) (ta : TA) : TE := fun σ H Q => ta σ H fun vs H1 => vs.length ≤ 1000 ∧ ∀ a, H1 a = none → sp (.ref a :: (vs ++ dvs)) (upd H1 a (exo a C none)) (fun v H2 => v = .non ∧ Q (.ref a) H2) (fun _ _ _ => False)
section
variable {X : Cx}
theorem pe_mkV {CX : CXT} {x : Str} {C fI : Addr} {k : Nat} {fd : FuncData} {ps : List Str} {sp : Sp} {ds : List Value} {dvs : List V} {e : Expr} {es : List Expr} {ta : TA} {p pos : Pos} (T : OexC X.K C) (iC : PySem.W.findIn X.K (.ref C) "__init__" = some (some (.ref fI))) (tI : PySem.W.typeIn X.K (.ref fI) = some (.type "function"))
    (F1 : FnOk X.prog X.w X.K X.mg X.base CX k fI fd ps sp) (hr : Room (k + 1) X.A) (hb : Binds X.K fd ps ds) (hd : Vals dvs ds) (hx : Passes CX X (fun _ _ _ => False)) (hg : Gl X x) (hm : X.mg x = some (.ref C)) (ha : PA X (e :: es) ta)
    (hdb : (x == ("__debug__" : Str)) = false := by decide) (he : starEach (e :: es) X.env = (false, eval e X.env) :: starEach es X.env := by rfl) (hpl : (backTo pos (starEach es X.env)).any (·.1) = false := by rfl) :
    PE X (.Call (.Name x p) (e :: es) [] pos) (tMkV C sp dvs ta) := by
  refine ⟨fun pins s σ H Q I h => ?_⟩
  obtain ⟨nm, q, N, bs, bm, sn, sub, ab, col, dd, k0, k1, k2, k3, k5, hC, hbm⟩ := T.cls
  refine wpAny_Call_Name_kw (ld_glob I hg hm ?_ hdb)
  refine PySem.W.callWith_K (h₀ := X.base) I.ok.mod.kin T.kC (thn (ha.run pos pins s σ H _ I h) fun us s1 ⟨vs, H1, I1, r1, hz, q1⟩ => ⟨I1.kIn, ?_⟩) he hpl
  show wpAny _ _ (call (.ref C) us) _ _ _
  obtain ⟨hp, g, dr, tk, os⟩ := s1
  have hsz : hp.objs.size ≤ hp.objs.size + 1 := Nat.le_succ _
  have hn : H1 (hp.objs.size + 1) = none := I1.hok.fresh hsz
  have hq := q1 (hp.objs.size + 1) hn
  have kk : ∀ b o, hp.get? b = some o → ((hp.push (PySem.W.kdv_tup us)).push (PySem.HandSPX.excO C hp.objs.size)).get? b = some o := fun b o e => Heap.get?_push_of_some _ (Heap.get?_push_of_some _ e)
  have hget : ((hp.push (PySem.W.kdv_tup us)).push (PySem.HandSPX.excO C hp.objs.size)).get? (hp.objs.size + 1) = some (PySem.HandSPX.excO C hp.objs.size) := by heap_get
  have I2 : Inv X pins σ (upd H1 (hp.objs.size + 1) (exo (hp.objs.size + 1) C none)) ⟨(hp.push (PySem.W.kdv_tup us)).push (PySem.HandSPX.excO C hp.objs.size), g, dr, tk, os⟩ :=
    I1.laid (t' := tk) (a := hp.objs.size + 1) (o := exo (hp.objs.size + 1) C none) (h' := (hp.push (PySem.W.kdv_tup us)).push (PySem.HandSPX.excO C hp.objs.size)) kk hsz (exo_ok hget)
  have r2 : Vals (V.ref (hp.objs.size + 1) :: (vs ++ dvs)) (Value.ref (hp.objs.size + 1) :: (us ++ ds)) := .cons rfl (r1.append hd)
  have hl : (Value.ref (hp.objs.size + 1) :: us ++ ds).length = ps.length := by
    have e := r2.length
    rw [F1.len _ _ _ _ hq] at e
    exact e.symm
  have hus : us.length ≤ sizeLine := by
    rw [← Paired.length r1, sizeLine_eq]
    omega
  refine wpAny_call (PySem.HandSPX.call_own F.excBase_ValueError (fun Y => PySem.HandSPX.refsVE_contains Y bm hbm) (I1.kIn _ _ hC) (PySem.W.looks_findIn I1.kIn iC) (fun self => PySem.W.bind_fn I1.kIn self tI) hus
    (codeAny_mono (F1.run _ X.stack _ _ ⟨Value.ref (hp.objs.size + 1) :: us, []⟩ (Value.ref (hp.objs.size + 1) :: (us ++ ds)) _ _ (fun _ _ _ => False) (hr.make C us []) (I2.env0.make C us []) (hb _ (Value.ref (hp.objs.size + 1) :: us) I2.kIn hl) r2 hq) fun r s' hq' => ?_))
  cases r with
  | error er => exact hx pins σ _ _ er s' I2 hq'
  | ok fl =>
    cases fl with
    | ret u =>
      obtain ⟨v, H2, os2, bare2, un2, hok2, rv, ev, q2⟩ := hq'
      subst ev
      obtain ⟨h2, g2, d2, t2, os'⟩ := s'
      have J : Inv X pins σ H2 ⟨h2, g2, d2, t2, os'⟩ := I2.call' (ch := []) os2 un2 hok2 bare2 (fun b z => absurd z (by simp))
      exact ⟨rv, ⟨.ref (hp.objs.size + 1), H2, J, rfl, q2⟩⟩
    | next => exact False.elim hq'
    | brk => exact False.elim hq'
    | cont => exact False.elim hq'
theorem pe_mkV0 {CX : CXT} {x : Str} {C fI : Addr} {k : Nat} {fd : FuncData} {ps : List Str} {sp : Sp} {p pos : Pos} (T : OexC X.K C) (iC : PySem.W.findIn X.K (.ref C) "__init__" = some (some (.ref fI))) (tI : PySem.W.typeIn X.K (.ref fI) = some (.type "function"))
    (F1 : FnOk X.prog X.w X.K X.mg X.base CX k fI fd ps sp) (hr : Room (k + 1) X.A) (hb : Binds X.K fd ps []) (hx : Passes CX X (fun _ _ _ => False)) (hg : Gl X x) (hm : X.mg x = some (.ref C)) (hdb : (x == ("__debug__" : Str)) = false := by decide) :
    PE X (.Call (.Name x p) [] [] pos) (tMkV C sp [] tNil) := by
  refine ⟨fun pins s σ H Q I h => ?_⟩
  obtain ⟨nm, q, N, bs, bm, sn, sub, ab, col, dd, k0, k1, k2, k3, k5, hC, hbm⟩ := T.cls
  refine wpAny_Call_Name_kw (ld_glob I hg hm ?_ hdb)
  refine PySem.W.callWith_K0 I.kIn T.kC ?_
  show wpAny _ _ (call (.ref C) []) _ _ _
  obtain ⟨hp, g, dr, tk, os⟩ := s
  have hsz : hp.objs.size ≤ hp.objs.size + 1 := Nat.le_succ _
  have hsp := (show [].length ≤ 1000 ∧ ∀ a, H a = none → sp [.ref a] (upd H a (exo a C none)) (fun v H2 => v = .non ∧ Q (.ref a) H2) (fun _ _ _ => False) from h).2 (hp.objs.size + 1) (I.hok.fresh hsz)
  have kk : ∀ b o, hp.get? b = some o → ((hp.push (PySem.W.kdv_tup [])).push (PySem.HandSPX.excO C hp.objs.size)).get? b = some o := fun b o z => Heap.get?_push_of_some _ (Heap.get?_push_of_some _ z)
  have hget : ((hp.push (PySem.W.kdv_tup [])).push (PySem.HandSPX.excO C hp.objs.size)).get? (hp.objs.size + 1) = some (PySem.HandSPX.excO C hp.objs.size) := by heap_get
  have I2 : Inv X pins σ (upd H (hp.objs.size + 1) (exo (hp.objs.size + 1) C none)) ⟨(hp.push (PySem.W.kdv_tup [])).push (PySem.HandSPX.excO C hp.objs.size), g, dr, tk, os⟩ :=
    I.laid (t' := tk) (a := hp.objs.size + 1) (o := exo (hp.objs.size + 1) C none) (h' := (hp.push (PySem.W.kdv_tup [])).push (PySem.HandSPX.excO C hp.objs.size)) kk hsz (exo_ok hget)
  have r2 : Vals [V.ref (hp.objs.size + 1)] [Value.ref (hp.objs.size + 1)] := .cons rfl .nil
  have hl : ([Value.ref (hp.objs.size + 1)] ++ []).length = ps.length := by
    have z := F1.len _ _ _ _ hsp
    exact z
  refine wpAny_call (PySem.HandSPX.call_own F.excBase_ValueError (fun Y => PySem.HandSPX.refsVE_contains Y bm hbm) (I.kIn _ _ hC) (PySem.W.looks_findIn I.kIn iC) (fun self => PySem.W.bind_fn I.kIn self tI) (Nat.zero_le _)
    (codeAny_mono (F1.run _ X.stack _ _ ⟨[Value.ref (hp.objs.size + 1)], []⟩ [Value.ref (hp.objs.size + 1)] _ _ (fun _ _ _ => False) (hr.make C [] []) (I2.env0.make C [] []) (hb _ [Value.ref (hp.objs.size + 1)] I2.kIn hl) r2 hsp) fun res s2 z => ?_))
  match res, z with
  | .error er, z => exact hx pins σ _ _ er s2 I2 z
  | .ok .next, z => exact False.elim z
  | .ok .brk, z => exact False.elim z
  | .ok .cont, z => exact False.elim z
  | .ok (.ret u), z =>
    obtain ⟨v, H2, os2, bare2, un2, hok2, rv, ev, q2⟩ := z
    subst ev
    obtain ⟨h2, g2, d2, t2, os3⟩ := s2
    have J : Inv X pins σ H2 ⟨h2, g2, d2, t2, os3⟩ := I2.call' (ch := []) os2 un2 hok2 bare2 (fun b z => absurd z (by simp))
    exact ⟨rv, ⟨.ref (hp.objs.size + 1), H2, J, rfl, q2⟩⟩
end
end Fp

set_option Elab.async false
set_option linter.all false
set_option maxRecDepth 100000
set_option maxHeartbeats 4000000
namespace Fp
open PySem PySem.Spec PyProof.Rows L2
/-! ### an own exception as a value: isinstance, fields -/
/-- an exception of the class D, with the fields fs -/
def ExV (H : Hp) (a D : Addr) (fs : List (Str × V)) : Prop := (fs = [] ∧ H a = some (exo a D none)) ∨ ∃ dd, H a = some (exo a D (some dd)) ∧ H dd = some (exd dd fs)
theorem ExV.inst {X : Cx} {pins : List (Addr × Obj)} {σ : L2.St} {H : Hp} {s : Shared} {a D : Addr} {fs : List (Str × V)} (I : Inv X pins σ H s) (h : ExV H a D fs) : ∃ (oe : Obj) (od : Option Obj), PySem.W.InstAt s.heap a oe D od := by
  rcases h with ⟨_, h⟩ | ⟨dd, h, hd⟩
  · obtain ⟨t1, e⟩ := exo_at I.hok h
    exact ⟨_, none, ⟨e, rfl, rfl, trivial⟩⟩
  · obtain ⟨t1, e⟩ := exo_at I.hok h
    obtain ⟨mA, hns, _⟩ := exd_at I.hok hd
    obtain ⟨od, ho, _⟩ := lookIn_ns hns
    exact ⟨_, some od, ⟨e, rfl, rfl, ho⟩⟩
def rIsV (K : PySem.W.Frag) : List V → Hp → VK → Prop := fun xs H Q => ∃ (a D : Addr) (fs : List (Str × V)) (c : V) (cv : Value) (b : Bool), xs = [.ref a, c] ∧ ExV H a D fs ∧ ExcC K D ∧ (∀ u, RelV c u → u = cv) ∧ PySem.W.kitOne K (.ref D) cv = some b ∧ Q (.bl b) H
theorem call_isV {X : Cx} : CallR X (.builtin "isinstance") (rIsV X.K) := by
  intro pins s σ H xs us Q I r h
  obtain ⟨a, D, fs, c, cv, b, rfl, hx, C, hcv, e, q⟩ := h
  cases r with
  | cons rx rr =>
    cases rr with
    | cons rt rr =>
      cases rr
      cases rx
      have ec := hcv _ rt
      subst ec
      obtain ⟨oe, od, J⟩ := hx.inst I
      have hcl : (PySem.W.clsIn X.K D).isSome = true := by
        obtain ⟨cd, hc, _⟩ := PySem.W.any_some C.hd
        rw [hc]
        rfl
      exact PySem.W.kia_one (PySem.W.kitx_exc hcl C.hg C.hk C.hs C.ha C.hn C.ht C.hm) I.kIn J e (fun z => nomatch z) fun tk => ⟨.bl b, H, I.kept (t' := tk) fun _ _ z => z, rfl, q⟩
/-- e.f, e such an exception -/
def tFld (K : PySem.W.Frag) (f : Str) (te : TE) : TE := fun σ H Q => te σ H fun x H1 => ∃ (a C dd : Addr) (fs : List (Str × V)) (v : V), x = .ref a ∧ H1 a = some (exo a C (some dd)) ∧ H1 dd = some (exd dd fs) ∧ XfC K C ∧ PySem.W.findIn K (.ref C) f = some none ∧ fs.lookup f = some v ∧ Q v H1
theorem pe_fld {X : Cx} {e : Expr} {te : TE} {pos : Pos} {n : Str} (he : PE X e te) (hb : attributeBase e n X.env (eval e X.env) = eval e X.env := by rfl) : PE X (.Attribute e n pos) (tFld X.K n te) := by
  refine ⟨fun pins s σ H Q I h => ?_⟩
  refine attr_of hb (thn (he.run pins s σ H _ I h) fun u s1 hh => ?_)
  obtain ⟨x, H1, I1, rx, a, C, dd, fs, v, ex, ea, ed, T, hno, l, q⟩ := hh
  subst ex
  obtain rfl : u = Value.ref a := rx
  obtain ⟨t1, e1⟩ := exo_at I1.hok ea
  obtain ⟨mA, hns, hr⟩ := exd_at I1.hok ed
  obtain ⟨od, ho, hl⟩ := lookIn_ns hns
  obtain ⟨u, hu, ru⟩ := RelO.some_of (v := v) (o := mA n) (by rw [← l]; exact hr n)
  have J : PySem.W.InstAt s1.heap a ({ cls := .ref C, dict := some dd, data := .fields #[.ref t1, .none, .none, .none, .bool false, .none] } : Obj) C (some od) := ⟨e1, rfl, rfl, ho⟩
  exact HandSPX.exc_get I1.kIn J T.ga T.gg T.exC (PySem.W.findObj_own T.hdC hno rfl (by rw [hl, hu])) (handed_of ru) ⟨v, H1, I1.tok _, ru, q⟩
end Fp

set_option Elab.async false
set_option linter.all false
set_option maxRecDepth 100000
set_option maxHeartbeats 4000000
namespace Fp
open PySem PySem.Spec PyProof.Rows L2
/-! ### things with dicts of at most one pair in them, shown -/
def keyD : Key → PyData
  | .inl i => .int i
  | .inr x => .str x
/-- what may stand in a dict of one pair -/
def Lf (K : PySem.W.Frag) (H : Hp) (v : V) (d : PyData) : Prop := (∃ i, v = .int i ∧ d = .int i) ∨ ∃ (t : Addr) (x y : Int), v = .ref t ∧ SqT K H t [.int x, .int y] ∧ d = .tuple [.int x, .int y]
mutual
inductive DpX (K : PySem.W.Frag) (H : Hp) : V → PyData → Prop
  | non : DpX K H .non .none
  | bl (b : Bool) : DpX K H (.bl b) (.bool b)
  | int (i : Int) : DpX K H (.int i) (.int i)
  | str (x : Str) : DpX K H (.str x) (.str x)
  | lst {a : Addr} {xs : List V} {ds : List PyData} : SqL K H a xs → DpXAll K H xs ds → DpX K H (.ref a) (.list ds)
  | tup {a : Addr} {xs : List V} {ds : List PyData} : SqT K H a xs → DpXAll K H xs ds → DpX K H (.ref a) (.tuple ds)
  | emp {a : Addr} : H a = some (.dK []) → DpX K H (.ref a) (.dict [])
  | one {a : Addr} {k : Key} {v : V} {d : PyData} : H a = some (.dK [(k, v)]) → Lf K H v d → DpX K H (.ref a) (.dict [(keyD k, d)])
inductive DpXAll (K : PySem.W.Frag) (H : Hp) : List V → List PyData → Prop
  | nil : DpXAll K H [] []
  | cons {v : V} {vs : List V} {d : PyData} {ds : List PyData} : DpX K H v d → DpXAll K H vs ds → DpXAll K H (v :: vs) (d :: ds)
end
section
variable {X : Cx} {pins : List (Addr × Obj)} {σ : L2.St} {H : Hp} {s : Shared}
theorem Lf.reads (I : Inv X pins σ H s) {d : PyData} {v : V} {u : Value} (h : Lf X.K H v d) (r : RelV v u) : ∃ as, Reads s.heap u d as ∧ sysModules ∉ as := by
  rcases h with ⟨i, rfl, rfl⟩ | ⟨t, x, y, rfl, hs, rfl⟩
  · obtain ⟨t, rfl⟩ := r
    exact ⟨_, Reads.int i t, List.not_mem_nil⟩
  · cases r
    obtain ⟨its, rv, ⟨o, ho, hc, n, hd⟩, _⟩ := I.tuple hs
    cases rv with
    | cons r1 rv =>
    cases rv with
    | cons r2 rv =>
    cases rv
    obtain ⟨t1, rfl⟩ := r1
    obtain ⟨t2, rfl⟩ := r2
    exact ⟨_, Reads.tuple ho hc hd (ReadsAll.cons (Reads.int x t1) (ReadsAll.cons (Reads.int y t2) ReadsAll.nil)), List.not_mem_nil⟩
mutual
theorem DpX.reads (I : Inv X pins σ H s) (y : SysB X.base) : ∀ (d : PyData) (v : V) (u : Value), DpX X.K H v d → RelV v u → ∃ as, Reads s.heap u d as ∧ sysModules ∉ as
  | .none, _, _, h, r => by
    cases h
    cases r
    exact ⟨_, Reads.none, List.not_mem_nil⟩
  | .bool b, _, _, h, r => by
    cases h
    cases r
    exact ⟨_, Reads.bool b, List.not_mem_nil⟩
  | .int i, _, _, h, r => by
    cases h
    obtain ⟨t, rfl⟩ := r
    exact ⟨_, Reads.int i t, List.not_mem_nil⟩
  | .str x, _, _, h, r => by
    cases h
    obtain ⟨t, rfl⟩ := r
    exact ⟨_, Reads.str x t, List.not_mem_nil⟩
  | .list ds, _, _, h, r => by
    cases h with
    | @lst a xs _ hs ha =>
      cases r
      obtain ⟨its, rv, ⟨o, n, ho, hc, _, hd⟩, _⟩ := I.list hs
      obtain ⟨as, hr, hn⟩ := DpX.readsAll I y ds _ its ha rv
      refine ⟨_, Reads.list ho hc hd hr, fun m => ?_⟩
      rcases List.mem_cons.mp m with e | e
      · rw [← e] at ho
        exact (y.nolist I ho hd).elim
      · exact hn e
  | .tuple ds, _, _, h, r => by
    cases h with
    | tup hs ha =>
      cases r
      obtain ⟨its, rv, ⟨o, ho, hc, n, hd⟩, _⟩ := I.tuple hs
      obtain ⟨as, hr, hn⟩ := DpX.readsAll I y ds _ its ha rv
      exact ⟨_, Reads.tuple ho hc hd hr, hn⟩
  | .dict _, _, _, h, r => by
    cases h with
    | @emp a ha =>
      cases r
      obtain ⟨_, lo, vs, rk, hd⟩ := (show ObjOk X.prog X.w H s.heap a (.dK []) from I.hok a _ ha)
      have hl : vs = [] := List.length_eq_zero_iff.mp (Paired.length rk).symm
      subst hl
      obtain ⟨o, es, ep, ho, hx, hd2, _, hp, _⟩ := hd
      have he : es.toList = [] := by
        cases h9 : es.toList with
        | nil => rfl
        | cons e r =>
          rw [h9] at hp
          cases hp
      refine ⟨_, Reads.dict ho hx.1 hd2 (as := []) (bs := []) ?_ ?_, fun m => ?_⟩
      · rw [he]
        exact ReadsAll.nil
      · rw [he]
        exact ReadsAll.nil
      · rcases List.mem_cons.mp m with e | e
        · rw [← e] at lo
          exact absurd lo (by decide)
        · cases e
    | @one a k v d ha hl =>
      cases r
      obtain ⟨_, lo, vs, rk, hd⟩ := (show ObjOk X.prog X.w H s.heap a (.dK [(k, v)]) from I.hok a _ ha)
      unfold KV at rk
      cases rk with
      | @cons _ q _ _ h1 h2 =>
      cases h2
      obtain ⟨q1, q2⟩ := q
      obtain ⟨h1, h3⟩ := h1
      have h1 : k = q1 := h1
      subst h1
      obtain ⟨as, ra, na⟩ := Lf.reads I hl h3
      obtain ⟨o, es, ep, ho, hx, hd2, _, hp, _⟩ := hd
      cases he : es.toList with
      | nil => rw [he] at hp; cases hp
      | cons e r =>
        rw [he] at hp
        cases hp with
        | cons g1 g2 g3 =>
          cases g3
          have g2 : e.val = q2 := g2
          have kr : Reads s.heap e.key (keyD k) [] := by
            rcases keyIs_shape (show keyIs k e.key = true from g1) with ⟨i, t, rfl, e1⟩ | ⟨x, t, rfl, e1⟩
            · rw [e1]
              exact Reads.int i t
            · rw [e1]
              exact Reads.str x t
          refine ⟨_, Reads.dict ho hx.1 hd2 (as := [] ++ []) (bs := as ++ []) ?_ ?_, fun m => ?_⟩
          · rw [he]
            exact ReadsAll.cons kr ReadsAll.nil
          · rw [he]
            show ReadsAll s.heap [e.val] [d] (as ++ [])
            rw [g2]
            exact ReadsAll.cons ra ReadsAll.nil
          · rcases List.mem_cons.mp m with z | z
            · rw [← z] at lo
              exact absurd lo (by decide)
            · rw [List.append_nil, List.append_nil] at z
              exact na z
theorem DpX.readsAll (I : Inv X pins σ H s) (y : SysB X.base) : ∀ (ds : List PyData) (vs : List V) (us : List Value), DpXAll X.K H vs ds → Vals vs us → ∃ as, ReadsAll s.heap us ds as ∧ sysModules ∉ as
  | [], _, _, h, r => by
    cases h
    cases r
    exact ⟨_, ReadsAll.nil, List.not_mem_nil⟩
  | d :: ds, _, _, h, r => by
    cases h with
    | cons h1 h2 =>
      cases r with
      | cons r1 r2 =>
        obtain ⟨as, a1, a2⟩ := DpX.reads I y d _ _ h1 r1
        obtain ⟨bs, b1, b2⟩ := DpX.readsAll I y ds _ _ h2 r2
        exact ⟨_, ReadsAll.cons a1 b1, fun m => (List.mem_append.mp m).elim a2 b2⟩
end
/-- repr of such a thing -/
theorem call_reprX {lv : Nat} (hq : X.A.guards = some []) (hr : Room lv X.A) (hy : SysB X.base) : CallR X (.builtin "repr") (fun xs H Q => ∃ a d, xs = [.ref a] ∧ DpX X.K H (.ref a) d ∧ d.showable = true ∧ d.depth ≤ 60 ∧ d.shown.length ≤ sizeLine ∧ Q (.str d.shown) H) := by
  intro pins s σ H xs us Q I r h
  obtain ⟨a, d, rfl, hd, h1, h2, h3, q⟩ := h
  obtain ⟨u, rfl, ru⟩ := vals1 r
  obtain ⟨as, rd, hn⟩ := DpX.reads I hy d _ _ hd ru
  obtain rfl : u = Value.ref a := ru
  have hu := hr.un
  refine repr_of_reads' (h₀ := s.heap) rd h1 (fun _ => hn) hq (by omega) (fun _ _ z => z) (fun h' t tk k => ?_) h3
  exact ⟨.str d.shown, H, I.kept k, ⟨t, rfl⟩, q⟩
end
end Fp

set_option Elab.async false
set_option linter.all false
set_option maxRecDepth 100000
set_option maxHeartbeats 4000000
namespace Fp
open PySem PySem.Spec PyProof.Rows L2
/-! ### repr of anything told by DpX -/
section
variable {X : Cx}
theorem call_reprA {lv : Nat} (hq : X.A.guards = some []) (hr : Room lv X.A) (hy : SysB X.base) : CallR X (.builtin "repr") (fun xs H Q => ∃ v d, xs = [v] ∧ DpX X.K H v d ∧ d.showable = true ∧ d.depth ≤ 60 ∧ d.shown.length ≤ sizeLine ∧ Q (.str d.shown) H) := by
  intro pins s σ H xs us Q I r h
  obtain ⟨v, d, rfl, hd, h1, h2, h3, q⟩ := h
  cases hd with
  | non =>
    obtain ⟨u, rfl, ru⟩ := vals1 r
    obtain rfl : u = Value.none := ru
    exact PySem.P.repr_of_none ⟨.str PyData.none.shown, H, I.tok _, ⟨_, rfl⟩, q⟩
  | bl b =>
    obtain ⟨u, rfl, ru⟩ := vals1 r
    obtain rfl : u = Value.bool b := ru
    refine PySem.P.repr_of_bool ⟨.str (PyData.bool b).shown, H, I.tok _, ⟨s.toks, ?_⟩, q⟩
    cases b <;> rfl
  | int i =>
    refine SkE.call_repr_int pins s σ H _ us Q I r ⟨i, rfl, ?_, q⟩
    simp only [PyData.showable, decide_eq_true_eq] at h1
    omega
  | str x =>
    obtain ⟨u, rfl, t, rfl⟩ := vals1 r
    exact PySem.P.repr_of_str ⟨.str (PyData.str x).shown, H, I.tok _, ⟨_, rfl⟩, q⟩ h3
  | lst g1 g2 => exact call_reprX hq hr hy pins s σ H _ us Q I r ⟨_, _, rfl, .lst g1 g2, h1, h2, h3, q⟩
  | tup g1 g2 => exact call_reprX hq hr hy pins s σ H _ us Q I r ⟨_, _, rfl, .tup g1 g2, h1, h2, h3, q⟩
  | emp g => exact call_reprX hq hr hy pins s σ H _ us Q I r ⟨_, _, rfl, .emp g, h1, h2, h3, q⟩
  | one g1 g2 => exact call_reprX hq hr hy pins s σ H _ us Q I r ⟨_, _, rfl, .one g1 g2, h1, h2, h3, q⟩
/-- repr, len, list and str by name -/
def rRepr (K : PySem.W.Frag) : List V → Hp → VK → Prop := fun xs H Q => ∃ v d, xs = [v] ∧ DpX K H v d ∧ d.showable = true ∧ d.depth ≤ 60 ∧ d.shown.length ≤ sizeLine ∧ Q (.str d.shown) H
def rLen (K : PySem.W.Frag) : List V → Hp → VK → Prop := fun xs H Q => ∃ p ys, xs = [.ref p] ∧ (SqL K H p ys ∨ SqT K H p ys) ∧ Q (.int ys.length) H
def rLst (K : PySem.W.Frag) : List V → Hp → VK → Prop := fun xs H Q => ∃ p ys, xs = [.ref p] ∧ (SqL K H p ys ∨ SqT K H p ys) ∧ ∀ l, H l = none → Q (.ref l) (upd H l (.lst ys))
def rStrI : List V → Hp → VK → Prop := fun xs H Q => ∃ i, xs = [.int i] ∧ i.natAbs.log2 < 1920 ∧ Q (.str (toString i)) H
def rTupl (K : PySem.W.Frag) : List V → Hp → VK → Prop := fun xs H Q => ∃ p ys, xs = [.ref p] ∧ ((SqL K H p ys ∧ ∀ l, H l = none → Q (.ref l) (upd H l (.tup ys))) ∨ (SqT K H p ys ∧ Q (.ref p) H))
theorem call_tupN : CallR X (.type "tuple") (rTupl X.K) := call_tuple_of
theorem call_reprN {lv : Nat} (hq : X.A.guards = some []) (hr : Room lv X.A) (hy : SysB X.base) : CallR X (.builtin "repr") (rRepr X.K) := call_reprA hq hr hy
theorem call_lenN : CallR X (.builtin "len") (rLen X.K) := call_len_seq
theorem call_lstN : CallR X (.type "list") (rLst X.K) := call_list_of
theorem call_strN : CallR X (.type "str") rStrI := call_str_int
end
end Fp

set_option Elab.async false
set_option linter.all false
set_option maxRecDepth 100000
set_option maxHeartbeats 4000000
namespace Fp
open PySem PySem.Spec PyProof.Rows L2
/-! ### compared with the empty one -/
def rEmp (K : PySem.W.Frag) (z : Bool) : R2 := fun x y H Q => ∃ p xs q, x = .ref p ∧ y = .ref q ∧ ((SqT K H p xs ∧ SqT K H q []) ∨ (SqL K H p xs ∧ SqL K H q [])) ∧ Q (.bl (xs.isEmpty == z)) H
section
variable {X : Cx}
theorem op_eqE (hu : X.A.units + 64 < cLine) : OpR X (compareOp .Eq) (rEmp X.K true) := by
  intro pins s σ H x y v u Q I rx ry h
  obtain ⟨p, xs, q', rfl, rfl, hs, q⟩ := h
  obtain rfl : v = Value.ref p := rx
  obtain rfl : u = Value.ref q' := ry
  rcases hs with ⟨h1, h2⟩ | ⟨h1, h2⟩
  · obtain ⟨its, r1, g1, _⟩ := I.tuple h1
    obtain ⟨its2, r2, g2, _⟩ := I.tuple h2
    cases r2
    refine PySem.EqBoolInt.of_rc (PySem.SeqAt.RcAt.tuples (e := fun _ => true) g1 g2 (by omega) (fun j _ z => absurd z (by simp))) (fin_bl I q ?_)
    have := r1.length
    cases xs with
    | nil => cases r1; rfl
    | cons x r =>
      cases r1
      simp
  · obtain ⟨its, r1, g1, _⟩ := I.list h1
    obtain ⟨its2, r2, g2, _⟩ := I.list h2
    cases r2
    cases xs with
    | nil =>
      cases r1
      exact PySem.EqBoolInt.of_rc (PySem.SeqAt.RcAt.lists (e := fun _ => true) g1.isList g2.isList rfl (by omega) (fun j _ z => absurd z (by simp))) (fin_bl I q rfl)
    | cons x r =>
      cases r1
      exact PySem.EqBoolInt.of_rc (PySem.SeqAt.RcAt.lists_lengths g1.isList g2.isList (by simp) (by omega)) (fin_bl I q rfl)
theorem op_neE (hu : X.A.units + 64 < cLine) : OpR X (compareOp .NotEq) (rEmp X.K false) := by
  intro pins s σ H x y v u Q I rx ry h
  obtain ⟨p, xs, q', rfl, rfl, hs, q⟩ := h
  obtain rfl : v = Value.ref p := rx
  obtain rfl : u = Value.ref q' := ry
  rcases hs with ⟨h1, h2⟩ | ⟨h1, h2⟩
  · obtain ⟨its, r1, g1, _⟩ := I.tuple h1
    obtain ⟨its2, r2, g2, _⟩ := I.tuple h2
    cases r2
    refine PySem.EqBoolInt.of_rcne (PySem.SeqAt.RcNeAt.tuples (e := fun _ => true) g1 g2 (by omega) (fun j _ z => absurd z (by simp))) (fin_bl I q ?_)
    cases xs with
    | nil => cases r1; rfl
    | cons x r =>
      cases r1
      simp
  · obtain ⟨its, r1, g1, _⟩ := I.list h1
    obtain ⟨its2, r2, g2, _⟩ := I.list h2
    cases r2
    cases xs with
    | nil =>
      cases r1
      exact PySem.EqBoolInt.of_rcne (PySem.SeqAt.RcNeAt.lists (e := fun _ => true) g1.isList g2.isList rfl (by omega) (fun j _ z => absurd z (by simp))) (fin_bl I q rfl)
    | cons x r =>
      cases r1
      exact PySem.EqBoolInt.of_rcne (PySem.SeqAt.RcNeAt.lists_lengths g1.isList g2.isList (by simp) (by omega)) (fin_bl I q rfl)
end
end Fp

set_option Elab.async false
set_option linter.all false
set_option maxRecDepth 100000
set_option maxHeartbeats 4000000
namespace Fp
open PySem PySem.Spec PyProof.Rows L2
/-! ### int(text), texts added, a text times a number -/
def rIntT : List V → Hp → VK → Prop := fun xs H Q => ∃ x n, xs = [.str x] ∧ x.length ≤ 640 ∧ PySem.intText? x = some n ∧ Q (.int n) H
def rAddS : R2 := fun x y H Q => ∃ i j, x = .str i ∧ y = .str j ∧ i.length + j.length ≤ sizeLine ∧ Q (.str (i ++ j)) H
def rMulS : R2 := fun x y H Q => ∃ (z : Str) (n : Int), x = .str z ∧ y = .int n ∧ 0 ≤ n ∧ n ≤ 1000 ∧ z.length ≤ 1000 ∧ Q (.str (Txt.mul z n)) H
theorem mulOk_of {z : Str} {n : Int} (h0 : 0 ≤ n) (h1 : n ≤ 1000) (hz : z.length ≤ 1000) : MulOk z n := by
  refine ⟨?_, fun h2 _ => ?_, fun _ _ => ?_⟩
  · rw [decide_eq_false (by omega), decide_eq_false (by omega)]
    rfl
  · have h3 : (1001 : Int) ≤ (2 ^ 63 - 1) / n := by
      rw [Int.le_ediv_iff_mul_le (by omega)]
      omega
    omega
  · have e : z.length * n.toNat ≤ 1000 * 1000 := Nat.mul_le_mul hz (by omega)
    have hs : sizeLine = 16777216 := sizeLine_eq
    exact decide_eq_false (by omega)
section
variable {X : Cx}
theorem call_intT : CallR X (.type "int") rIntT := by
  intro pins s σ H xs us Q I r h
  obtain ⟨x, n, rfl, hl, hn, q⟩ := h
  obtain ⟨u, rfl, t, rfl⟩ := vals1 r
  exact PySem.W.KIN.call_text hn hl ⟨.int n, H, I.tok _, ⟨_, rfl⟩, q⟩
theorem op_addS : OpR X (binaryOp .Add) rAddS := op_add_str
theorem op_mulS : OpR X (binaryOp .Mult) rMulS := by
  intro pins s σ H x y v u Q I rx ry h
  obtain ⟨z, n, rfl, rfl, h0, h1, hz, q⟩ := h
  obtain ⟨t, rfl⟩ := rx
  obtain ⟨t2, rfl⟩ := ry
  exact SB.mul (mulOk_of h0 h1 hz) fun t' k => ⟨.str _, H, I.tok _, ⟨_, rfl⟩, q⟩
end
end Fp

set_option Elab.async false
set_option linter.all false
set_option maxRecDepth 100000
set_option maxHeartbeats 8000000
namespace Fp
open PySem PySem.Spec PyProof.Rows L2
/-! ### len(set(xs)) of texts, any number of them -/
def stS (acc : List Str) (x : Str) : List Str := if acc.any (fun y => y == x) = true then acc else acc ++ [x]
def ddup (ys : List Str) : List Str := ys.foldl stS []
theorem stS_any (acc : List Str) (x k : Str) : ((stS acc x).any fun y => y == k) = ((acc.any fun y => y == k) || decide (k = x)) := by
  unfold stS
  by_cases h : acc.any (fun y => y == x) = true
  · rw [if_pos h]
    by_cases e : k = x
    · rw [e, h]
      rfl
    · rw [decide_eq_false e, Bool.or_false]
  · rw [if_neg h, List.any_append]
    congr 1
    show ((x == k) || false) = decide (k = x)
    rw [Bool.or_false]
    by_cases e : k = x
    · rw [decide_eq_true e, e]
      exact beq_self_eq_true x
    · rw [decide_eq_false e]
      exact beq_eq_false_iff_ne.mpr fun z => e z.symm
theorem stS_len (acc : List Str) (x : Str) : (stS acc x).length = if (acc.any fun y => y == x) = true then acc.length else acc.length + 1 := by
  unfold stS
  by_cases h : acc.any (fun y => y == x) = true
  · rw [if_pos h, if_pos h]
  · rw [if_neg h, if_neg h, List.length_append]
    rfl
theorem ddup_take {ys : List Str} {i : Nat} (h : i < ys.length) : ddup (ys.take (i + 1)) = stS (ddup (ys.take i)) (ys.getD i Str.empty) := by
  unfold ddup
  rw [List.take_add_one, List.getElem?_eq_getElem h, List.foldl_append, List.getD_eq_getElem?_getD, List.getElem?_eq_getElem h]
  rfl
theorem ddup_le (ys : List Str) : ∀ i, i ≤ ys.length → (ddup (ys.take i)).length ≤ i
  | 0, _ => Nat.le_refl _
  | i + 1, h => by
    have ih := ddup_le ys i (by omega)
    rw [ddup_take (by omega), stS_len]
    split <;> omega
section
variable {prog : Program} {w : World} {A : Around} {R : Result → Shared → Prop} {I : Addr} {fp wr : List Addr} {G : Array GenState → Array GenState → Prop} {n : Nat} {P : Nat → Value → Prop} {St : Nat → Shared → Prop}
def setAtS (prog : Program) (w : World) (h : Heap) (Z : Addr) (ys : List Str) (i : Nat) : Prop := h.SetOf (PySem.strKind prog w) Z (fun k => (ddup (ys.take i)).any fun y => y == k) (ddup (ys.take i)).length
theorem setAtS.to {h h' : Heap} {Z : Addr} {ys : List Str} {i : Nat} (x : setAtS prog w h Z ys i) (k : ∀ o, h.get? Z = some o → h'.get? Z = some o) : setAtS prog w h' Z ys i := by
  obtain ⟨o, es, ep, t, ho, rest⟩ := x
  exact ⟨o, es, ep, t, k o ho, rest⟩
theorem loopT (W : WalksS prog w A.in1 I fp wr G n P St) (Z : Addr) (hZ : Z ∉ fp) (ys : List Str) (hl : ys.length = n) (hb : n + 1 < scanBound) (hval : ∀ i v, P i v → ∃ t, v = .str (ys.getD i Str.empty) t) :
    ∀ (k i : Nat) (s : Shared), n - i = k → i ≤ n → St i s → setAtS prog w s.heap Z ys i →
      (∀ s', Moved (Z :: wr) G s s' → setAtS prog w s'.heap Z ys n → R (.ok (.ret .none)) s') → codeAny (model prog w) A (.builtin "set.update.loop" ⟨[.ref Z, .ref I], []⟩) R s := by
  have hZw : Z ∉ wr := fun h => hZ (W.sub _ h)
  have sub : ∀ b ∈ wr, b ∈ Z :: wr := fun b h => List.mem_cons_of_mem _ h
  intro k
  induction k with
  | zero =>
    intro i s hk hi hst hS hR
    obtain rfl : i = n := by omega
    refine codeAny_builtin PyProof.Rows.F.entry_set_update_loop ?_; rw [Around.under_plainId PyProof.Rows.F.plain_set_update_loop _]
    show wpAny (model prog w) A.in1 (pyNext (.ref I) >>= _) _ _ s; refine wpAny_bind (W.done s _ _ hst fun s2 hm => ?_)
    show wpAny (model prog w) A.in1 (ret Value.none) _ _ s2; exact wpAny_pure (hR s2 (hm.mono sub) (hS.to fun o ho => hm.heap Z _ hZw ho))
  | succ k ih =>
    intro i s hk hi hst hS hR
    have lt : i < n := by omega
    refine codeAny_builtin PyProof.Rows.F.entry_set_update_loop ?_; rw [Around.under_plainId PyProof.Rows.F.plain_set_update_loop _]
    show wpAny (model prog w) A.in1 (pyNext (.ref I) >>= _) _ _ s; refine wpAny_bind (W.item i s _ _ lt hst fun v s2 hP hst2 hm => ?_)
    obtain ⟨t, rfl⟩ := hval i v hP
    have hS2 := hS.to (h' := s2.heap) fun o ho => hm.heap Z _ hZw ho
    show wpAny (model prog w) A.in1 (holding [Value.str (ys.getD i Str.empty) t] (setAdd Z (.str (ys.getD i Str.empty) t)) >>= _) _ _ s2; refine wpAny_bind (wpAny_holding ?_)
    unfold setAdd; refine wpAny_holding (wpAny_bind ((PySem.strKind prog w).pyHash (k := ys.getD i Str.empty) (strKind_is _ _ _ _) ?_))
    have room := ddup_le ys i (by omega)
    refine wpAny_setAddHashed_of (knd := PySem.strKind prog w) (s := { s2 with toks := s2.toks + 1 }) (strKind_is _ _ _ _) rfl hS2 (Nat.lt_of_le_of_lt (Nat.succ_le_succ (Nat.le_trans room hi)) hb) fun h3 but hS3 => ?_
    have hS4 : setAtS prog w h3 Z ys (i + 1) := by
      refine SetOf_congr hS3 (fun j => ?_) ?_
      · rw [ddup_take (by omega), stS_any]
      · rw [ddup_take (by omega), stS_len]
    refine wpAny_pure ⟨plainId_quiet PyProof.Rows.F.plain_set_update_loop _, ih (i + 1) _ (by omega) lt (W.frame _ s2 _ _ hst2 (Nat.le_succ _) fun b hb2 o e => by rw [but.2 b (fun z : b = Z => hZ (z ▸ hb2))]; exact e) hS4 fun s4 hm4 hS5 => hR s4 (Moved.trans W.gtrans ((hm.mono sub).then_heap (Nat.le_succ _) fun b o hb2 e => by rw [but.2 b (fun z : b = Z => hb2 (z ▸ List.mem_cons_self))]; exact e) hm4) hS5⟩
end
theorem strs_in : ∀ {us : List Value} {ys : List Str}, StrsAre us ys → ∀ (i : Nat) (v : Value), us[i]? = some v → ∃ t, v = .str (ys.getD i Str.empty) t
  | _, _, .nil, i, v, h => by cases i <;> cases h
  | _, _, .cons n t r, 0, v, h => ⟨t, (Option.some.inj h).symm⟩
  | _, _, .cons n t r, i + 1, v, h => strs_in r i v h
section
variable {prog : Program} {w : World} {A : Around} {E : Value → Shared → Prop} {s : Shared}
set_option maxHeartbeats 8000000 in
theorem set_of_texts {l : Addr} {its : Array Value} {ys : List Str} {Q : Value → Shared → Prop} (hh : A.handled = none) (hl : s.heap.IsList l its) (hi : StrsAre its.toList ys) (hb : its.size + 1 < scanBound)
    (h : ∀ (h2 : Heap) (tk : Nat), setAtS prog w h2 s.heap.objs.size ys its.size → (∀ b o, b < s.heap.objs.size → s.heap.get? b = some o → h2.get? b = some o) → Q (.ref s.heap.objs.size) { s with heap := h2, toks := tk }) :
    wpAny (model prog w) A (call (.type "set") [.ref l]) Q E s := by
  obtain ⟨c0, tl0, mro0⟩ := PySem.F.called_set.mro
  have made0 := PySem.F.called_set.made; have sub0 := PySem.F.called_set.sub
  refine wpAny_call (codeAny_of_tree ?_); show wpAny _ _ (callAny (.type "set") _) _ _ _
  refine wpAny_pure ⟨Code.quiet_builtin _ (by decide +kernel), codeAny_builtin PySem.F.entry_type_call ?_⟩; rw [Around.under_plain (weight_type_call_type "set" [.ref l] []) rfl]
  have nt := PySem.F.called_set.notType; have cc := PySem.F.called_set.canCreate; have ct := PySem.F.typeCall_set_1 (.ref l)
  repeat (any_goals (first | assumption | wp_step))

  refine codeAny_mono (code_set_new_1 (.ref l) (E := E) (Q₁ := fun u s1 => ∃ led : Bool, u = .ref s.heap.objs.size ∧ s1 = { s with heap := s.heap.push { cls := .type "set", dict := none, data := .set #[] 0 (.fresh 0 0 led) } }) fun led => ⟨led, rfl, rfl⟩) fun r s1 hr => ?_
  cases r with
  | error e => exact hr
  | ok fl =>
    cases fl with
    | ret u =>
      obtain ⟨led, rfl, rfl⟩ := hr
      generalize hnew : (s.heap.push { cls := .type "set", dict := none, data := .set #[] 0 (.fresh 0 0 led) }) = hp1 at *
      have hZ0 : hp1.get? s.heap.objs.size = some { cls := .type "set", dict := none, data := .set #[] 0 (.fresh 0 0 led) } := by rw [← hnew]; exact Heap.get?_push_size _ rfl
      have kp1 : ∀ b o, s.heap.get? b = some o → hp1.get? b = some o := fun b o e => by rw [← hnew]; exact Heap.get?_push_of_some _ e
      have sz1 : hp1.objs.size = s.heap.objs.size + 1 := by rw [← hnew, Heap.size_push]
      have hT : Shared.TypeIs { s with heap := hp1 } (.ref s.heap.objs.size) "set" := ⟨_, hZ0, rfl⟩
      have il := PySem.F.called_set.init.lookup; have ib := PySem.F.called_set.init.bind (.ref s.heap.objs.size)
      repeat (any_goals (first | assumption | wp_step))

      refine codeAny_mono (codeAny_call_builtin (R := wants (fun r s2 => r = .none ∧ ∃ h2 tk, s2 = { s with heap := h2, toks := tk } ∧ setAtS prog w h2 s.heap.objs.size ys its.size ∧
          (∀ b o, b < s.heap.objs.size → s.heap.get? b = some o → h2.get? b = some o)) E) PySem.F.called_set.init.plain PySem.F.entry_set_init (check_set_init_1 hT ?_)) fun r2 s2 hr2 => ?_
      · have hl1 : hp1.IsList l its := by obtain ⟨o, e, r⟩ := hl; exact ⟨o, kp1 _ _ e, r⟩
        have lS : l < s.heap.objs.size := by obtain ⟨o, e, _⟩ := hl; exact Heap.lt_size e
        obtain ⟨ol, hol, hcl, nl, hdl⟩ := id hl1
        obtain ⟨ocls, odict, odata, oslots⟩ := ol
        simp only at hcl hdl; subst hcl; subst hdl
        have sls := PySem.F.sub_list_set; have slf := PySem.F.sub_list_frozenset
        have nd : (Value.type "list" == Value.type "dict") = false := by decide
        unfold Builtin.«set.__init__» noKeywords Builtin.Frozenset.updateFrom
        generalize hPI : pyIter = PI
        wp_walk
        subst hPI

        refine wpAny_pyIter_list hl1 ?_; refine wpAny_bind (wpAny_runValue ?_)
        have hh3 : A.in1.in1.in1.handled = none := by simp [hh]
        have ne1 : l ≠ hp1.objs.size := by rw [sz1]; exact Nat.ne_of_lt (Nat.lt_succ_of_lt lS)
        have nf1 : s.heap.objs.size ∉ [hp1.objs.size, l] := by
          rw [sz1]; intro z
          rcases List.mem_cons.mp z with z | z
          · exact Nat.ne_of_lt (Nat.lt_succ_self _) z
          · exact Nat.ne_of_gt lS (List.mem_singleton.mp z)
        have len1 : ys.length = its.size := by rw [← StrsAre.len_eq hi, Array.length_toList]
        have val1 : ∀ (i : Nat) (v : Value), its[i]? = some v → ∃ t, v = .str (ys.getD i Str.empty) t := fun i v hv => strs_in hi i v (by rw [Array.getElem?_toList]; exact hv)
        refine loopT ((Walks.list hh3 _ l ne1 its).toS) s.heap.objs.size nf1 ys len1 hb val1 (its.size - 0) 0 _ (by omega) (Nat.zero_le _) ⟨⟨_, Heap.get?_push_size _ rfl, rfl, rfl⟩, (hl1.push _)⟩ ?_ ?_
        · have e3 := (PyProof.Rows.setObjOf_fresh (knd := PySem.strKind prog w) led).setOf (h := hp1.push { cls := .type "list_iterator", data := .fields #[.ref l, .int 0 0] }) (Heap.get?_push_of_some _ hZ0) (by unfold scanBound; omega)
          exact SetOf_congr e3 (fun _ => rfl) rfl
        · intro s3 hm hS3
          obtain ⟨h3, g3, d3, tk3, os3⟩ := s3
          obtain rfl : g3 = s.gens := hm.gens
          obtain rfl : d3 = s.drawn := hm.drawn
          obtain rfl : os3 = s.os := hm.os
          show wpAny _ _ _ _ _ _; refine wpAny_pure ?_; show wpAny _ _ (ret Value.none) _ _ _
          refine wpAny_pure ⟨rfl, h3, tk3, rfl, hS3, fun b o hb2 e => hm.heap b o (fun z => ?_) (Heap.get?_push_of_some _ (kp1 b o e))⟩
          rcases List.mem_cons.mp z with z | z
          · exact Nat.ne_of_lt hb2 z
          · rw [List.mem_singleton.mp z, sz1] at hb2; omega

      · cases r2 with
        | error e => exact hr2
        | ok fl2 =>
          cases fl2 with
          | ret r =>
            obtain ⟨rfl, h2, tk, rfl, hS2, hk2⟩ := hr2
            repeat (any_goals (first | assumption | wp_step))
            exact h _ _ hS2 hk2
          | _ => exact hr2.elim
    | _ => exact hr.elim
end
def tLenS (K : PySem.W.Frag) (ta : TE) : TE := fun σ H Q => ta σ H fun x H1 => ∃ (l : Addr) (ys : List Str), x = .ref l ∧ SqL K H1 l (ys.map V.str) ∧ ys.length + 1 < scanBound ∧ Q (.int (ddup ys).length) H1
theorem texts_are : ∀ {ys : List Str} {us : List Value}, Vals (ys.map V.str) us → StrsAre us ys
  | [], _, .nil => .nil
  | y :: ys, _, .cons r t => by
    obtain ⟨k, rfl⟩ := r
    exact .cons y k (texts_are t)
theorem pe_lenS {X : Cx} {a : Expr} {ta : TE} {p p2 q pos : Pos} (hc : X.calm = true) (hg : Gl X "len") (hm : X.mg "len" = none) (hg2 : Gl X "set") (hm2 : X.mg "set" = none) (ha : PE X a ta) (na : starEach [a] X.env = (false, eval a X.env) :: starEach [] X.env := by rfl) :
    PE X (.Call (.Name "len" p) [.Call (.Name "set" p2) [a] [] q] [] pos) (tLenS X.K ta) := by
  refine ⟨fun pins s σ H Q I h => Call_ (ld_blt I hg hm boot_len (PyProof.Rows.callWith_builtin1 (PyProof.Rows.args_cons (Call_ (ld_blt I hg2 hm2 boot_set ?_)) rfl) rfl rfl))⟩
  refine PyProof.Rows.callWith_type1 (PyProof.Rows.args_cons (thn (ha.run pins s σ H _ I h) fun v s1 ⟨x, H1, I1, r1, l, ys, ex, hq, hb, q1⟩ => PyProof.Rows.args_nil ?_) na) na rfl
  subst ex
  cases r1
  obtain ⟨its, r, pl, hz⟩ := I1.list hq
  have el : its.toArray.size = ys.length := by rw [List.size_toArray, ← r.length, List.length_map]
  refine set_of_texts (I1.ok.hd hc) pl.isList (by simpa using texts_are r) (by rw [el]; exact hb) fun h2 tk hS hk => PyProof.Rows.args_nil ?_
  rw [el] at hS
  have ht : ys.take ys.length = ys := List.take_of_length_le (Nat.le_refl _)
  unfold setAtS at hS
  rw [ht] at hS
  obtain ⟨o, es, ep, t, ho, hex, hd, _, _, _, hf, hn⟩ := hS
  have I2 : L2.Inv X pins σ H1 { s1 with heap := h2, toks := tk } := I1.kept fun b o e => hk b o (Heap.lt_size e) e
  have le := ddup_le ys ys.length (Nat.le_refl _)
  rw [ht] at le
  refine call_len_set ho hex hd hf (by rw [hn]; unfold scanBound at hb; omega) ⟨.int (ddup ys).length, H1, I2.tok _, ⟨_, by rw [hn]⟩, q1⟩
/-- distinct ones by an injective picture are as many -/
theorem ddup_map {α : Type} {f g : α → Str} (xs : List α) (hf : ∀ a ∈ xs, ∀ b ∈ xs, f a = f b ↔ g a = g b) : (ddup (xs.map f)).length = (ddup (xs.map g)).length := by
  have key : ∀ (rest acc : List α), (∀ a ∈ acc, a ∈ xs) → (∀ a ∈ rest, a ∈ xs) → ((rest.map f).foldl stS (acc.map f)).length = ((rest.map g).foldl stS (acc.map g)).length := fun rest => by
    induction rest with
    | nil =>
      intro acc _ _
      show (acc.map f).length = (acc.map g).length
      rw [List.length_map, List.length_map]
    | cons x r ih =>
      intro acc ha hr
      have hx := hr x (List.mem_cons_self ..)
      have ea : ((acc.map f).any fun y => y == f x) = ((acc.map g).any fun y => y == g x) := by
        rw [List.any_map, List.any_map, Bool.eq_iff_iff, List.any_eq_true, List.any_eq_true]
        constructor
        · rintro ⟨y, hy, e⟩
          exact ⟨y, hy, beq_iff_eq.mpr ((hf y (ha y hy) x hx).mp (beq_iff_eq.mp e))⟩
        · rintro ⟨y, hy, e⟩
          exact ⟨y, hy, beq_iff_eq.mpr ((hf y (ha y hy) x hx).mpr (beq_iff_eq.mp e))⟩
      show ((r.map f).foldl stS (stS (acc.map f) (f x))).length = ((r.map g).foldl stS (stS (acc.map g) (g x))).length
      unfold stS
      rw [ea]
      by_cases h : ((acc.map g).any fun y => y == g x) = true
      · rw [if_pos h, if_pos h]
        exact ih acc ha fun a h => hr a (List.mem_cons_of_mem _ h)
      · rw [if_neg h, if_neg h]
        have := ih (acc ++ [x]) (fun a h2 => by
          rcases List.mem_append.mp h2 with z | z
          · exact ha a z
          · rw [List.mem_singleton.mp z]
            exact hx) fun a h => hr a (List.mem_cons_of_mem _ h)
        rw [List.map_append, List.map_append] at this
        exact this
  exact key xs [] (fun a h => by cases h) fun a h => h
/-! ### parts of texts, joined texts, texts with values -/
def rJoin (K : PySem.W.Frag) : V → List V → Hp → VK → Prop := fun x xs H Q => ∃ (a : Str) (p : Addr) (ys : List Str), x = .str a ∧ xs = [.ref p] ∧ (SqL K H p (ys.map V.str) ∨ SqT K H p (ys.map V.str)) ∧ (ys.map (·.length)).sum + ys.length * a.length ≤ 16777216 ∧ Q (.str (Txt.join a ys)) H
def rSplit : V → List V → Hp → VK → Prop := fun x xs H Q => ∃ (a b : Str), x = .str a ∧ xs = [.str b] ∧ (b.length == 0) = false ∧ a.length + 2 ≤ sizeLine ∧ rNewStrs (Txt.split a b) H Q
def rParts : V → List V → Hp → VK → Prop := fun x xs H Q => ∃ (a b : Str), x = .str a ∧ xs = [.str b] ∧ (b.length == 0) = false ∧ a.length ≤ sizeLine ∧ ∀ p, H p = none → Q (.ref p) (upd H p (.tup [.str (Txt.partition a b).1, .str (Txt.partition a b).2.1, .str (Txt.partition a b).2.2]))
def tJn (ts : List TE) : TE := fun σ H Q => tJs ts Str.empty σ H fun out H1 => Q (.str out) H1
section
variable {X : Cx} {o e : Expr} {to te : TE} {apos pos : Pos}
theorem pe_joinT (ho : PE X o to) (he : PE X e te) (hs : starEach [e] X.env = [(false, eval e X.env)] := by rfl) (hbase : attributeBase o "join" X.env (eval o X.env) = eval o X.env := by rfl) (hline : (apos.endLine == pos.line) = true := by rfl) : PE X (.Call (.Attribute o "join" apos) [e] [] pos) (tM1 (rJoin X.K) to te) := pe_join ho he hs hbase hline
theorem pe_splitT (ho : PE X o to) (he : PE X e te) (hs : starEach [e] X.env = [(false, eval e X.env)] := by rfl) (hbase : attributeBase o "split" X.env (eval o X.env) = eval o X.env := by rfl) (hline : (apos.endLine == pos.line) = true := by rfl) : PE X (.Call (.Attribute o "split" apos) [e] [] pos) (tM1 rSplit to te) := pe_split ho he hs hbase hline
theorem pe_partT (ho : PE X o to) (he : PE X e te) (hs : starEach [e] X.env = [(false, eval e X.env)] := by rfl) (hbase : attributeBase o "partition" X.env (eval o X.env) = eval o X.env := by rfl) (hline : (apos.endLine == pos.line) = true := by rfl) : PE X (.Call (.Attribute o "partition" apos) [e] [] pos) (tM1 rParts to te) := pe_partition ho he hs hbase hline
theorem pe_jn {v1 v2 : Expr} {rest : List Expr} {ts : List TE} (h : PJ X (v1 :: v2 :: rest) ts) : PE X (.JoinedStr (v1 :: v2 :: rest) pos) (tJn ts) := pe_joined h
def rNinS : R2 := fun x y H Q => ∃ i j, x = .str i ∧ y = .str j ∧ Q (.bl (!(!(Builtin.Str.occurrences j i 0 j.length 1).isEmpty))) H
theorem op_ninS : OpR X (compareOp .NotIn) rNinS := op_notIn_str
def rLenT : List V → Hp → VK → Prop := fun xs H Q => ∃ z : Str, xs = [.str z] ∧ z.length ≤ sizeLine ∧ Q (.int z.length) H
theorem call_lenT : CallR X (.builtin "len") rLenT := call_len_str
end
end Fp

set_option Elab.async false
set_option linter.all false
set_option maxRecDepth 100000
set_option maxHeartbeats 4000000
namespace Fp
open PySem PyProof.Rows TL
/-! ### what is shown alike is alike: whole numbers and tuples of such -/
mutual
def plainD : PyData → Bool
  | .int _ => true
  | .tuple xs => plainAll xs
  | _ => false
def plainAll : List PyData → Bool
  | [] => true
  | x :: xs => plainD x && plainAll xs
end
/-- where a part ends -/
def Stop (r : List Nat) : Prop := ∀ c r', r = c :: r' → c = 44 ∨ c = 41
def numSign (c : Nat) : Prop := c = 45 ∨ (48 ≤ c ∧ c ≤ 57)
theorem stop_span : ∀ {a b r s : List Nat}, (∀ c ∈ a, numSign c) → (∀ c ∈ b, numSign c) → Stop r → Stop s → a ++ r = b ++ s → a = b ∧ r = s
  | [], [], _, _, _, _, _, _, h => ⟨rfl, h⟩
  | [], y :: b, r, s, _, hb, hr, _, h => by
    have h : r = y :: (b ++ s) := h
    have h1 := hr _ _ h
    have h2 := hb y (List.mem_cons_self ..)
    unfold numSign at h2
    omega
  | x :: a, [], r, s, ha, _, _, hs, h => by
    have h : s = x :: (a ++ r) := h.symm
    have h1 := hs _ _ h
    have h2 := ha x (List.mem_cons_self ..)
    unfold numSign at h2
    omega
  | x :: a, y :: b, r, s, ha, hb, hr, hs, h => by
    rw [List.cons_append, List.cons_append] at h
    injection h with h1 h2
    obtain ⟨e1, e2⟩ := stop_span (fun c hc => ha c (List.mem_cons_of_mem _ hc)) (fun c hc => hb c (List.mem_cons_of_mem _ hc)) hr hs h2
    exact ⟨by rw [h1, e1], e2⟩
theorem int_signs (i : Int) : ∀ c ∈ tl (Str.ofString (toString i)), numSign c := fun c hc => by
  rcases Classical.em (numSign c) with z | z
  · exact z
  · exact absurd hc (int_text_free' c (by unfold numSign at z; omega) i)
theorem tl_neg {i : Int} (h : i < 0) : tl (Str.ofString (toString i)) = 45 :: numL (0 - i).toNat := by
  obtain ⟨m, hm⟩ : ∃ m : Nat, 0 - i = (m : Int) := ⟨(0 - i).toNat, by omega⟩
  rw [toString_neg h, hm, tl_ofString, String.toList_append, List.map_append, ← tl_ofString, ← tl_ofString, tl_num, Int.toNat_natCast]
  rfl
theorem int_show_inj {i j : Int} (h : tl (Str.ofString (toString i)) = tl (Str.ofString (toString j))) : i = j := by
  have pos : ∀ {k : Int}, ¬ k < 0 → tl (Str.ofString (toString k)) = numL k.toNat := fun {k} hk => by
    obtain ⟨m, rfl⟩ : ∃ m : Nat, k = (m : Int) := ⟨k.toNat, by omega⟩
    rw [tl_num, Int.toNat_natCast]
  by_cases hi : i < 0 <;> by_cases hj : j < 0
  · rw [tl_neg hi, tl_neg hj] at h
    injection h with _ h
    have := numL_inj h
    omega
  · rw [tl_neg hi, pos hj] at h
    exact absurd (show (45 : Nat) ∈ numL j.toNat by rw [← h]; exact List.mem_cons_self ..) (numL_free (by omega))
  · rw [pos hi, tl_neg hj] at h
    exact absurd (show (45 : Nat) ∈ numL i.toNat by rw [h]; exact List.mem_cons_self ..) (numL_free (by omega))
  · rw [pos hi, pos hj] at h
    have := numL_inj h
    omega
theorem int_text_ne (i : Int) : ∃ c r, tl (Str.ofString (toString i)) = c :: r ∧ numSign c := by
  have hne : tl (Str.ofString (toString i)) ≠ [] := by
    by_cases h : i < 0
    · rw [tl_neg h]
      simp
    · obtain ⟨m, rfl⟩ : ∃ m : Nat, i = (m : Int) := ⟨i.toNat, by omega⟩
      rw [tl_num]
      exact numL_ne m
  match e : tl (Str.ofString (toString i)) with
  | [] => exact absurd e hne
  | c :: r => exact ⟨c, r, rfl, int_signs i c (by rw [e]; exact List.mem_cons_self ..)⟩
theorem foldl_push_head (q : Nat) (f : Nat → Array Nat) : ∀ (l : List Nat) (a : Array Nat), (∃ r, a.toList = q :: r) → ∃ r, (l.foldl (fun out c => out ++ f c) a).toList = q :: r
  | [], a, h => h
  | c :: l, a, ⟨r, h⟩ => foldl_push_head q f l _ ⟨r ++ (f c).toList, by rw [Array.toList_append, h]; rfl⟩
theorem reprText_head (x : Str) : ∃ c r, tl (reprText x) = c :: r ∧ (c = 34 ∨ c = 39) := by
  unfold reprText tl
  obtain ⟨r, hr⟩ := foldl_push_head (reprQuote x) (fun c => (Builtin.Str.reprChar (reprQuote x) c).toArray) x.cps.toList #[reprQuote x] ⟨[], rfl⟩
  refine ⟨reprQuote x, r ++ [reprQuote x], ?_, ?_⟩
  · rw [Array.toList_push, ← Array.foldl_toList, hr]
    rfl
  · unfold reprQuote
    split
    · exact .inl rfl
    · exact .inr rfl
theorem tl_tuple (xs : List PyData) : tl (PyData.tuple xs).shown = 40 :: (tl (Str.join ", " (PyData.shownAll xs)) ++ (if xs.length = 1 then [44, 41] else [41])) := by
  rw [PyData.shown_tuple, tl_append, tl_append]
  by_cases h : xs.length = 1
  · rw [if_pos h, if_pos (beq_iff_eq.mpr h)]
    rfl
  · rw [if_neg h, if_neg fun z => h (beq_iff_eq.mp z)]
    rfl
/-- the first sign of what is shown -/
theorem shown_head (d : PyData) : ∃ c r, tl d.shown = c :: r ∧ ((c = 40 ∧ ∃ xs, d = .tuple xs) ∨ (numSign c ∧ ∃ i, d = .int i) ∨ ((∀ xs, d ≠ .tuple xs) ∧ (∀ i, d ≠ .int i) ∧ c ≠ 40 ∧ ¬ numSign c ∧ c ≠ 41 ∧ c ≠ 44)) := by
  have other : ∀ {d : PyData} {c : Nat} {r : List Nat}, tl d.shown = c :: r → (∀ xs, d ≠ .tuple xs) → (∀ i, d ≠ .int i) → (c ≠ 40 ∧ ¬ numSign c ∧ c ≠ 41 ∧ c ≠ 44) → ∃ c r, tl d.shown = c :: r ∧ ((c = 40 ∧ ∃ xs, d = .tuple xs) ∨ (numSign c ∧ ∃ i, d = .int i) ∨ ((∀ xs, d ≠ .tuple xs) ∧ (∀ i, d ≠ .int i) ∧ c ≠ 40 ∧ ¬ numSign c ∧ c ≠ 41 ∧ c ≠ 44)) := fun h1 h2 h3 h4 => ⟨_, _, h1, .inr (.inr ⟨h2, h3, h4⟩)⟩
  cases d with
  | none => exact other (c := 78) (r := [111, 110, 101]) (by rw [PyData.shown_none]; decide) (by simp) (by simp) (by unfold numSign; omega)
  | bool b =>
    cases b
    · exact other (c := 70) (r := [97, 108, 115, 101]) (by rw [PyData.shown_bool]; decide) (by simp) (by simp) (by unfold numSign; omega)
    · exact other (c := 84) (r := [114, 117, 101]) (by rw [PyData.shown_bool]; decide) (by simp) (by simp) (by unfold numSign; omega)
  | int i =>
    obtain ⟨c, r, h1, h2⟩ := int_text_ne i
    exact ⟨c, r, by rw [PyData.shown_int]; exact h1, .inr (.inl ⟨h2, _, rfl⟩)⟩
  | str x =>
    obtain ⟨c, r, h1, h2⟩ := reprText_head x
    exact other (c := c) (r := r) (by rw [PyData.shown_str]; exact h1) (by simp) (by simp) (by unfold numSign; omega)
  | list xs => exact other (c := 91) (r := _) (by rw [PyData.shown_list, tl_append, tl_append]; rfl) (by simp) (by simp) (by unfold numSign; omega)
  | tuple xs => exact ⟨40, _, tl_tuple xs, .inl ⟨rfl, _, rfl⟩⟩
  | dict kv => exact other (c := 123) (r := _) (by rw [PyData.shown_dict, tl_append, tl_append]; rfl) (by simp) (by simp) (by unfold numSign; omega)
theorem shown_no41 {d : PyData} {r s : List Nat} (h : tl d.shown ++ r = 41 :: s) : False := by
  obtain ⟨c, r', e, h2⟩ := shown_head d
  rw [e] at h
  injection h with h _
  subst h
  rcases h2 with ⟨z, _⟩ | ⟨z, _⟩ | ⟨_, _, _, _, z, _⟩
  · omega
  · unfold numSign at z
    omega
  · exact z rfl
def InjD (e : PyData) : Prop := ∀ d r s, Stop r → Stop s → tl d.shown ++ r = tl e.shown ++ s → d = e ∧ r = s
theorem stop44 {r : List Nat} : Stop (44 :: r) := fun c r' h => by
  injection h with h _
  exact .inl h.symm
theorem stop41 {r : List Nat} : Stop (41 :: r) := fun c r' h => by
  injection h with h _
  exact .inr h.symm
def joinD (xs : List PyData) : List Nat := tl (Str.join ", " (PyData.shownAll xs))
theorem joinD_nil : joinD [] = [] := by
  unfold joinD
  rw [PyData.shownAll_nil]
  rfl
theorem joinD_one (x : PyData) : joinD [x] = tl x.shown := by
  unfold joinD
  rw [PyData.shownAll_cons, PyData.shownAll_nil, join_one]
theorem joinD_two (x y : PyData) (r : List PyData) : joinD (x :: y :: r) = tl x.shown ++ (44 :: 32 :: joinD (y :: r)) := by
  unfold joinD
  rw [PyData.shownAll_cons x, PyData.shownAll_cons y, join_cons_cons, tl_append, tl_append, List.append_assoc]
  rfl
theorem joinD_inj : ∀ {es ds : List PyData} {r s : List Nat}, (∀ e ∈ es, InjD e) → joinD ds ++ 41 :: r = joinD es ++ 41 :: s → ds = es ∧ r = s
  | [], [], r, s, _, h => by
    rw [joinD_nil] at h
    injection h with _ h
    exact ⟨rfl, h⟩
  | [], [d], r, s, _, h => by
    rw [joinD_nil, joinD_one] at h
    exact (shown_no41 h).elim
  | [], d :: d2 :: ds, r, s, _, h => by
    rw [joinD_nil, joinD_two, List.append_assoc] at h
    exact (shown_no41 h).elim
  | [e], [], r, s, _, h => by
    rw [joinD_nil, joinD_one] at h
    exact (shown_no41 h.symm).elim
  | [e], [d], r, s, hI, h => by
    rw [joinD_one, joinD_one] at h
    obtain ⟨h1, h2⟩ := hI e (List.mem_cons_self ..) d _ _ stop41 stop41 h
    injection h2 with _ h2
    exact ⟨by rw [h1], h2⟩
  | [e], d :: d2 :: ds, r, s, hI, h => by
    rw [joinD_one, joinD_two, List.append_assoc] at h
    obtain ⟨h1, h2⟩ := hI e (List.mem_cons_self ..) d _ _ stop44 stop41 h
    injection h2 with h2 _
    exact absurd h2 (by decide)
  | e :: e2 :: es, [], r, s, _, h => by
    rw [joinD_nil, joinD_two, List.append_assoc] at h
    exact (shown_no41 h.symm).elim
  | e :: e2 :: es, [d], r, s, hI, h => by
    rw [joinD_one, joinD_two, List.append_assoc] at h
    obtain ⟨h1, h2⟩ := hI e (List.mem_cons_self ..) d _ _ stop41 stop44 h
    injection h2 with h2 _
    exact absurd h2 (by decide)
  | e :: e2 :: es, d :: d2 :: ds, r, s, hI, h => by
    rw [joinD_two, joinD_two, List.append_assoc, List.append_assoc] at h
    obtain ⟨h1, h2⟩ := hI e (List.mem_cons_self ..) d _ _ stop44 stop44 h
    injection h2 with _ h2
    injection h2 with _ h2
    obtain ⟨h3, h4⟩ := joinD_inj (es := e2 :: es) (ds := d2 :: ds) (fun x hx => hI x (List.mem_cons_of_mem _ hx)) h2
    exact ⟨by rw [h1, h3], h4⟩
theorem tuple_inj {es : List PyData} (hI : ∀ e ∈ es, InjD e) : InjD (.tuple es) := by
  intro d r s hr hs h
  obtain ⟨c, r', e, h2⟩ := shown_head d
  have ht := tl_tuple es
  rw [ht, e] at h
  injection h with hc h
  subst hc
  rcases h2 with ⟨_, ds, rfl⟩ | ⟨z, _⟩ | ⟨_, _, z, _⟩
  · rw [tl_tuple ds] at e
    injection e with _ e
    rw [← e] at h
    have h : (joinD ds ++ (if ds.length = 1 then [44, 41] else [41])) ++ r = (joinD es ++ (if es.length = 1 then [44, 41] else [41])) ++ s := h
    rw [List.append_assoc, List.append_assoc] at h
    by_cases h1 : ds.length = 1 <;> by_cases h3 : es.length = 1
    · obtain ⟨d, rfl⟩ := List.length_eq_one_iff.mp h1
      obtain ⟨e, rfl⟩ := List.length_eq_one_iff.mp h3
      rw [if_pos h1, if_pos h3, joinD_one, joinD_one] at h
      obtain ⟨g1, g2⟩ := hI e (List.mem_cons_self ..) d _ _ stop44 stop44 h
      injection g2 with _ g2
      injection g2 with _ g2
      exact ⟨by rw [g1], g2⟩
    · obtain ⟨d, rfl⟩ := List.length_eq_one_iff.mp h1
      rw [if_pos h1, if_neg h3, joinD_one] at h
      match es, hI, h3, h with
      | [], _, _, h =>
        rw [joinD_nil] at h
        exact (shown_no41 h).elim
      | [e], _, h3, _ => exact absurd rfl h3
      | e :: e2 :: es, hI, _, h =>
        rw [joinD_two, List.append_assoc] at h
        obtain ⟨g1, g2⟩ := hI e (List.mem_cons_self ..) d _ _ stop44 stop44 h
        injection g2 with _ g2
        injection g2 with g2 _
        exact absurd g2 (by decide)
    · obtain ⟨e0, rfl⟩ := List.length_eq_one_iff.mp h3
      clear e ht
      rw [if_neg h1, if_pos h3, joinD_one] at h
      match ds, h1, h with
      | [], _, h =>
        rw [joinD_nil] at h
        exact (shown_no41 h.symm).elim
      | [d], h1, _ => exact absurd rfl h1
      | d :: d2 :: ds, _, h =>
        rw [joinD_two, List.append_assoc] at h
        obtain ⟨g1, g2⟩ := hI e0 (List.mem_cons_self ..) d _ _ stop44 stop44 h
        injection g2 with _ g2
        injection g2 with g2 _
        exact absurd g2 (by decide)
    · rw [if_neg h1, if_neg h3] at h
      obtain ⟨g1, g2⟩ := joinD_inj hI h
      exact ⟨by rw [g1], g2⟩
  · unfold numSign at z
    omega
  · exact absurd rfl z
theorem int_inj (i : Int) : InjD (.int i) := by
  intro d r s hr hs h
  obtain ⟨c, r', e, h2⟩ := shown_head d
  obtain ⟨c2, r2, e2, n2⟩ := int_text_ne i
  rw [PyData.shown_int] at h
  have hc : c = c2 := by
    have h := h
    rw [e, e2] at h
    injection h with h _
  subst hc
  rcases h2 with ⟨z, _⟩ | ⟨_, j, rfl⟩ | ⟨_, _, _, z, _⟩
  · unfold numSign at n2
    omega
  · rw [PyData.shown_int] at h
    obtain ⟨g1, g2⟩ := stop_span (int_signs j) (int_signs i) hr hs h
    exact ⟨by rw [int_show_inj g1], g2⟩
  · exact absurd n2 z
mutual
theorem inj_plain : ∀ (e : PyData), plainD e = true → InjD e
  | .int i, _ => int_inj i
  | .tuple xs, h => tuple_inj (inj_plainAll xs (by unfold plainD at h; exact h))
  | .none, h => by unfold plainD at h; cases h
  | .bool _, h => by unfold plainD at h; cases h
  | .str _, h => by unfold plainD at h; cases h
  | .list _, h => by unfold plainD at h; cases h
  | .dict _, h => by unfold plainD at h; cases h
theorem inj_plainAll : ∀ (es : List PyData), plainAll es = true → ∀ e ∈ es, InjD e
  | [], _, e, he => by cases he
  | x :: xs, h, e, he => by
    unfold plainAll at h
    rw [Bool.and_eq_true] at h
    rcases List.mem_cons.mp he with z | z
    · rw [z]
      exact inj_plain x h.1
    · exact inj_plainAll xs h.2 e z
end
/-- what is shown as a plain one is it -/
theorem shown_inj {d e : PyData} (he : plainD e = true) (h : d.shown = e.shown) : d = e := by
  have stop0 : Stop [] := fun _ _ h => by cases h
  exact (inj_plain e he d [] [] stop0 stop0 (by rw [h])).1
end Fp

set_option Elab.async false
set_option linter.all false
set_option maxRecDepth 100000
set_option maxHeartbeats 4000000
namespace Fp
open L2 PySem PySem.Spec PyProof.Rows
/-! ### a text turned round, by its bounds; a thing among a tuple's -/
theorem turned_le (n : Nat) : (Builtin.Str.strSliceIndices none none (-1) n).length ≤ n := by
  show (sliceRange (if (-1 : Int) > 0 then 0 else (n : Int) - 1) (if (-1 : Int) > 0 then (n : Int) else -1) (-1)).length ≤ n
  rw [if_neg (by decide), if_neg (by decide)]
  unfold sliceRange
  dsimp only
  rw [List.length_map, List.length_range, if_neg (by decide)]
  split
  · rw [show -(-1 : Int) = 1 by decide, Int.ediv_one]
    omega
  · exact Nat.zero_le _
theorem picked_mem {α : Type} (xs : Array α) : ∀ (is : List Nat), (∀ c ∈ is.filterMap (xs[·]?), c ∈ xs.toList) ∧ (is.filterMap (xs[·]?)).length ≤ is.length := fun is => by
  refine ⟨fun c hc => ?_, List.length_filterMap_le _ _⟩
  obtain ⟨i, _, h⟩ := List.mem_filterMap.mp hc
  obtain ⟨hi, rfl⟩ := Array.getElem?_eq_some_iff.mp h
  exact Array.getElem_mem_toList hi
def tRevS (te : TE) : TE := fun σ H Q => te σ H fun x H1 => ∃ z : Str, x = .str z ∧ z.length ≤ sizeLine ∧ ∀ y : Str, y.length ≤ z.length → (∀ c ∈ y.cps.toList, c ∈ z.cps.toList) → Q (.str y) H1
theorem pe_revS {X : Cx} {e : Expr} {te : TE} {k : Nat} {p1 p2 p3 pos : Pos} (he : PE X e te) : PE X (.Subscript e (.Slice none none (some (.UnaryOp .USub (.Constant (.int 1) k p1) p2)) p3) pos) (tRevS te) := by
  refine ⟨fun pn s sl H Q I h => Subscript_ (thn (he.run pn s sl H _ I h) fun v s1 z1 => ?_)⟩
  obtain ⟨x, H1, I1, r1, z, rfl, hz, q⟩ := z1
  obtain ⟨t, rfl⟩ := r1
  have pm : PO X (some (.UnaryOp .USub (.Constant (.int 1) k p1) p2)) (tPart (tUn (rU fun i => .int (-i)) (tC (.int 1)))) := po_some (pe_un un_neg pe_int)
  refine wpAny_Slice (thn (po_none.run pn s1 sl H1 (fun o H2 => o = none ∧ H2 = H1) I1 ⟨rfl, rfl⟩) fun vl s2 z2 => ?_)
  obtain ⟨l, H2, I2, pl, rfl, rfl⟩ := z2
  refine thn (po_none.run pn s2 sl H2 (fun o H3 => o = none ∧ H3 = H2) I2 ⟨rfl, rfl⟩) fun vu s3 z3 => ?_
  obtain ⟨u, H3, I3, pu, rfl, rfl⟩ := z3
  refine thn (pm.run pn s3 sl H3 (fun o H4 => o = some (-1) ∧ H4 = H3) I3 ⟨1, rfl, -1, rfl, rfl, rfl⟩) fun vs s4 z4 => ?_
  obtain ⟨o, H4, I4, ps, rfl, rfl⟩ := z4
  obtain ⟨st, rfl, hst⟩ := IsPart.raw ps
  have I5 : Inv X pn sl H4 { s4 with heap := s4.heap.push { cls := .type "slice", data := .fields #[vl, vu, partValue st] } } := I4.kept (t' := s4.toks) fun b ob y => Heap.get?_push_of_some _ y
  cases pl
  cases pu
  show wpAny (model X.prog X.w) X.A (subscriptTail e (.Slice none none (some (.UnaryOp .USub (.Constant (.int 1) k p1) p2)) p3) (.str z t) (.ref s4.heap.objs.size)) (EP X pn sl Q) X.xe { s4 with heap := s4.heap.push { cls := .type "slice", data := .fields #[.none, .none, partValue st] } }
  refine tail_any (ops := [.str z t, .ref s4.heap.objs.size]) (typeIs_str _ _ _) F.slot_str_getitem.lookup ?_ (by with_unfolding_all rfl)
  refine wpAny_getItem_str_slice (l := none) (u := none) (st := st) ⟨_, Heap.get?_push_size _ rfl, rfl, rfl⟩ (by rw [hst]; rfl) ?_
  have h1 := turned_le z.length
  have hp := picked_mem z.cps (Builtin.Str.strSliceIndices none none (-1) z.length)
  have epk : slicePicked z none none st = Builtin.Str.strSliceIndices none none (-1) z.length := by
    unfold slicePicked
    rw [hst]
    rfl
  unfold sliceMade
  rw [epk, hst]
  have no : ¬ (((some (-1 : Int)).getD 1 == 1 && (Builtin.Str.strSliceIndices none none (-1) z.length).length == z.length) = true) := by
    intro y
    rw [Bool.and_eq_true] at y
    exact absurd y.1 (by decide)
  rw [if_neg no]
  have hl : (⟨((Builtin.Str.strSliceIndices none none (-1) z.length).filterMap (z.cps[·]?)).toArray⟩ : Str).length ≤ z.length := by
    show ((Builtin.Str.strSliceIndices none none (-1) z.length).filterMap (z.cps[·]?)).toArray.size ≤ z.length
    rw [List.size_toArray]
    exact Nat.le_trans hp.2 h1
  exact ⟨Nat.le_trans hl hz, .str _, H4, I5.tok _, ⟨_, rfl⟩, q _ hl fun c hc => hp.1 c hc⟩
theorem room65 {k : Nat} {A : Around} (r : Room k A) : A.units + 65 < cLine := by have := r.un; omega
def rInT (K : PySem.W.Frag) : R2 := fun x y H Q => ∃ d ds, Dp K H x d ∧ Dp K H y (.tuple ds) ∧ SeqAt.shaped d = true ∧ SeqAt.shaped (.tuple ds) = true ∧ Q (.bl (ds.any fun z => PyData.eqv z d)) H
theorem op_inT {X : Cx} (hu : X.A.units + 65 < cLine) : OpR X (compareOp .In) (rInT X.K) := by
  intro pins s σ H x y v u Q I rx ry h
  obtain ⟨d, ds, hd, he, sd, se, q⟩ := h
  obtain ⟨as, r1⟩ := Dp.reads I d x v hd rx
  obtain ⟨bs, r2⟩ := Dp.reads I (.tuple ds) y u he ry
  exact SeqAt.in_tuple_reads r2 r1 (SeqAt.canLay_of_shaped se) (SeqAt.canLay_of_shaped sd) (room_in_shaped sd hu) ⟨.bl _, H, I, rfl, q⟩
end Fp

set_option Elab.async false
set_option linter.all false
set_option maxRecDepth 100000
set_option maxHeartbeats 4000000
namespace Fp
open L2 PySem PySem.Spec PyProof.Rows
/-! ### a call of one of two defs that a written-out list holds -/
/-- what is called is told first; it is one def or the other -/
def tPick (a1 a2 : Addr) (sp1 sp2 : Sp) (tc : TE) (t : TA) : TE := fun σ H Q => tc σ H fun x H1 => (x = .ref a1 ∧ t σ H1 fun vs H2 => sp1 vs H2 Q E0) ∨ (x = .ref a2 ∧ t σ H1 fun vs H2 => sp2 vs H2 Q E0)
section
variable {X : Cx} {CX : CXT} {k1 k2 : Nat} {a1 a2 : Addr} {d1 d2 : FuncData} {p1 p2 : List Str} {sp1 sp2 : Sp} {pos : Pos} {e ce : Expr} {es : List Expr} {tc : TE} {t : TA}
theorem pe_pick (hc : PE X ce tc) (F1 : FnOk X.prog X.w X.K X.mg X.base CX k1 a1 d1 p1 sp1) (r1 : Room k1 X.A) (e1 : PySem.W.keepIn X.K (.ref a1) = true) (b1 : Binds X.K d1 p1 []) (F2 : FnOk X.prog X.w X.K X.mg X.base CX k2 a2 d2 p2 sp2) (r2 : Room k2 X.A) (e2 : PySem.W.keepIn X.K (.ref a2) = true) (b2 : Binds X.K d2 p2 []) (hx : Passes CX X E0)
    (ha : PA X (e :: es) t) (hev : eval (.Call ce (e :: es) [] pos) X.env = (do callWith pos (← eval ce X.env) [] (backTo pos (starEach (e :: es) X.env)) (backToKw pos (keywordEach [] X.env))) := by rfl)
    (he : starEach (e :: es) X.env = (false, eval e X.env) :: starEach es X.env := by rfl) (hpl : (backTo pos (starEach es X.env)).any (·.1) = false := by rfl) :
    PE X (.Call ce (e :: es) [] pos) (tPick a1 a2 sp1 sp2 tc t) := by
  refine ⟨fun pins s σ H Q I h => ?_⟩
  rw [hev]
  refine wpAny_bind (thn (hc.run pins s σ H _ I h) fun u s0 ⟨x, H0, I0, rx, q0⟩ => ?_)
  rcases q0 with ⟨rfl, q⟩ | ⟨rfl, q⟩
  · cases (show u = Value.ref a1 from rx)
    refine PySem.W.callWith_K (h₀ := X.base) I.ok.mod.kin e1 (thn (ha.run pos pins s0 σ H0 _ I0 q) fun us s1 ⟨vs, H1, I1, r, q⟩ => ⟨I1.kIn, ?_⟩) he hpl
    exact run_fn (dvs := []) (ds := []) F1 r1 b1 .nil hx I1 r (by rw [List.append_nil]; exact q)
  · cases (show u = Value.ref a2 from rx)
    refine PySem.W.callWith_K (h₀ := X.base) I.ok.mod.kin e2 (thn (ha.run pos pins s0 σ H0 _ I0 q) fun us s1 ⟨vs, H1, I1, r, q⟩ => ⟨I1.kIn, ?_⟩) he hpl
    exact run_fn (dvs := []) (ds := []) F2 r2 b2 .nil hx I1 r (by rw [List.append_nil]; exact q)
end
end Fp

set_option Elab.async false
set_option linter.all false
set_option maxRecDepth 100000
set_option maxHeartbeats 4000000
namespace Fp
open L2 PySem PySem.Spec PySem.Calls PyProof.Rows PySem.W
/-! ### all but the last of a list, and the last -/
section
variable {X : Cx} {pos p : Pos}
theorem pgs_star {e : Expr} {es : List Expr} {t : TG} {u : TGs} (h1 : PG X e t) (h2 : PGs X es u) : PGs X (.Starred e p :: es) (gCons t u) := by
  refine ⟨fun pins s σ H vs us Q I r h => ?_⟩
  obtain ⟨v, vr, e1, h⟩ := h
  subst e1
  cases r with
  | cons r rr =>
    show wpAny _ _ (assignInOrder (assign e X.env :: (assignEach es X.env).map (·.2)) _) _ _ _
    refine assignInOrder_cons (thn (h1.run pins s σ H _ _ _ I r h) fun _ s1 ⟨σ1, H1, I1, q1⟩ => ?_)
    exact h2.run pins s1 σ1 H1 _ _ Q I1 rr q1
def gUns (K : PySem.W.Frag) (t : TGs) : TG := fun v σ H Q => ∃ a xs y, v = .ref a ∧ SqL K H a (xs ++ [y]) ∧ xs.length ≤ 16000 ∧ ∀ b, H b = none → t [.ref b, y] σ (upd H b (.lst xs)) Q
theorem unpack_last {M : PySem.Program} {w : PySem.World} {A : Around} {E : Value → Shared → Prop} {s : Shared} {l : Addr} {us : List Value} {y : Value} {Q : List Value → Shared → Prop} (hh : A.handled = none) (hl : s.heap.IsList l (us ++ [y]).toArray) (hz : us.length ≤ 16000)
    (h : ∀ h1 tk, Heap.ExtBut s.heap.objs.size s.heap h1 → Q [.ref h1.objs.size, y] { s with heap := h1.push { cls := .type "list", data := .seq us.toArray }, toks := tk }) : wpAny (model M w) A (unpackItems (.ref l) 2 (some 0)) Q E s := by
  have hne : l ≠ s.heap.objs.size := by
    obtain ⟨o, ho, _⟩ := hl
    exact Nat.ne_of_lt (Heap.lt_size ho)
  have big : (us ++ [y]).toArray.size = us.length + 1 := by simp
  unfold unpackItems notIterableAtAll
  refine wpAny_bind (wpAny_bind (wpAny_specialOf hl.typeIs slot_list_iter.lookup (wpAny_pure ?_)))
  simp only [Bool.false_eq_true, if_false]
  refine wpAny_bind (wpAny_holding (wpAny_pyIter_list hl ?_))
  have hl1 := hl.push { cls := .type "list_iterator", data := .fields #[.ref l, .int 0 0] }
  have hit : (s.heap.push { cls := .type "list_iterator", data := .fields #[.ref l, .int 0 0] }).get? s.heap.objs.size = some { cls := .type "list_iterator", data := .fields #[.ref l, .int 0 0] } := Heap.get?_push_size _ rfl
  have hbig : l < (s.heap.push { cls := .type "list_iterator", data := .fields #[.ref l, .int 0 0] }).objs.size := by
    obtain ⟨o, ho, _⟩ := hl1
    exact Heap.lt_size ho
  refine wpAny_bind (wpAny_holding (show wpAny _ _ (pure []) _ _ _ from wpAny_pure ?_))
  rw [if_neg (show ¬ ([] : List Value).length < 0 by decide)]
  refine wpAny_bind (wpAny_holding (kun_collect (s := { s with heap := s.heap.push { cls := .type "list_iterator", data := .fields #[.ref l, .int 0 0] } }) (T := "list_iterator") (.inr (.inr (.inl rfl))) (Walks.list (A := A.in1) hh s.heap.objs.size l hne (us ++ [y]).toArray) (fun j u st => st.1.typeIs) (k := 0) (by omega) ⟨⟨_, hit, rfl, rfl⟩, hl1⟩ (Heap.lt_size hit) hbig (fun h2 tk hk => ?_) (by rw [big, sizeLine_eq]; omega)))
  have er : List.drop 0 (us ++ [y]).toArray.toList = us ++ [y] := rfl
  rw [er]
  have el : (us ++ [y]).length = us.length + 1 := by simp
  rw [if_neg (show ¬ (us ++ [y]).length < 2 - 1 - 0 by omega)]
  have e1 : (us ++ [y]).length - (2 - 1 - 0) = us.length := by omega
  rw [e1, List.take_left, List.drop_left]
  refine wpAny_bind (wpAny_newList (wpAny_pure ?_) ?_)
  · exact h h2 tk fun b o hb e => hk b o hb (Heap.get?_push_of_some _ e)
  · rw [sizeLine_eq]
    omega
theorem vals_app : ∀ {xs ys : List V} {us : List Value}, Vals (xs ++ ys) us → ∃ u1 u2, us = u1 ++ u2 ∧ Vals xs u1 ∧ Vals ys u2
  | [], _, us, r => ⟨[], us, rfl, .nil, r⟩
  | _ :: xs, ys, _, .cons a r => by
    obtain ⟨u1, u2, e, r1, r2⟩ := vals_app (xs := xs) (ys := ys) r
    exact ⟨_ :: u1, u2, by rw [e]; rfl, .cons a r1, r2⟩
theorem pg_uns {es : List Expr} {k : Nat} {t : TGs} (hc : X.calm = true) (h : PGs X es t) (hn : (assignEach es X.env).length = 2 := by rfl) (hst : (assignEach es X.env).findIdx? (·.1) = some 0 := by rfl) : PG X (.Tuple es k pos) (gUns X.K t) := by
  refine ⟨fun pins s σ H v u Q I r hw => ?_⟩
  obtain ⟨a, xs, y, e1, hq, hl, hw⟩ := hw
  subst e1
  cases r
  obtain ⟨its, rv, pl, hz⟩ := I.list hq
  obtain ⟨us, u2, rfl, r1, r2⟩ := vals_app rv
  cases r2 with
  | @cons _ z _ _ ry b =>
    cases b
    have hul : us.length ≤ 16000 := by rw [← r1.length]; exact hl
    have hlst : s.heap.IsList a (us ++ [z]).toArray := by
      obtain ⟨o, m, e, c, d, d2⟩ := pl
      exact ⟨o, e, c, m, by assumption⟩
    rw [PyProof.Rows.assign_Tuple]
    refine wpAny_bind (wpAny_standAt ?_)
    unfold unpack
    rw [hn, hst]
    refine wpAny_bind (wpAny_holding (unpack_last (I.ok.hd hc) hlst hul fun h1 tk hx => ?_))
    have I1 : Inv X pins σ H { s with heap := h1, toks := tk } := I.kept (t' := tk) fun b o e => hx b o (Nat.ne_of_lt (Heap.lt_size e)) e
    have I2 := I1.laid (h' := h1.push { cls := .type "list", data := .seq us.toArray }) (a := h1.objs.size) (o := .lst xs) (t' := tk) (fun b o e => Heap.get?_push_of_some _ e) (Nat.le_refl _) ⟨by rw [sizeLine_eq]; omega, us, 0, r1, Heap.get?_push_size _ rfl⟩
    exact h.run pins _ σ _ [.ref h1.objs.size, y] _ Q I2 (.cons rfl (.cons ry .nil)) (hw _ (I1.hok.fresh (Nat.le_refl _)))
end
end Fp

set_option Elab.async false
set_option linter.all false
set_option maxRecDepth 100000
set_option maxHeartbeats 4000000
namespace Fp
open PySem PySem.Spec PyProof.Rows L2
/-! ### sorted(xs), tuples of whole numbers -/
/-- one before the other: by the first number that differs, a shorter one first -/
def ltW : List Int → List Int → Bool
  | [], [] => false
  | [], _ :: _ => true
  | _ :: _, [] => false
  | x :: xs, y :: ys => if x = y then ltW xs ys else decide (x < y)
theorem ltW_asym : ∀ x y : List Int, ltW x y = true → ltW y x = false
  | [], [], h => by cases h
  | [], _ :: _, _ => rfl
  | _ :: _, [], h => by cases h
  | x :: xs, y :: ys, h => by
    unfold ltW at h ⊢
    by_cases e : x = y
    · rw [if_pos e] at h
      rw [if_pos e.symm]
      exact ltW_asym xs ys h
    · rw [if_neg e, decide_eq_true_eq] at h
      rw [if_neg fun z => e z.symm]
      exact decide_eq_false (by omega)
theorem ltW_neg : ∀ x y z : List Int, ltW y x = false → ltW z y = false → ltW z x = false
  | [], _, [], _, _ => rfl
  | [], [], _ :: _, _, _ => rfl
  | [], _ :: _, _ :: _, _, _ => rfl
  | _ :: _, [], _, h, _ => by cases h
  | _ :: _, _ :: _, [], _, h => by cases h
  | x :: xs, y :: ys, z :: zs, h1, h2 => by
    unfold ltW at h1 h2 ⊢
    by_cases e1 : y = x
    · rw [if_pos e1] at h1
      by_cases e2 : z = y
      · rw [if_pos e2] at h2
        rw [if_pos (e2.trans e1)]
        exact ltW_neg xs ys zs h1 h2
      · rw [if_neg e2] at h2
        have b := of_decide_eq_false h2
        rw [if_neg (by omega)]
        exact decide_eq_false (by omega)
    · rw [if_neg e1] at h1
      have a := of_decide_eq_false h1
      by_cases e2 : z = y
      · rw [if_neg (by omega)]
        exact decide_eq_false (by omega)
      · rw [if_neg e2] at h2
        have b := of_decide_eq_false h2
        rw [if_neg (by omega)]
        exact decide_eq_false (by omega)
theorem swo_W {α : Type} (k : α → List Int) : SrtO.Swo fun x y => ltW (k x) (k y) := ⟨fun x y h => ltW_asym _ _ h, fun x y z h1 h2 => ltW_neg _ _ _ h1 h2⟩
/-- v is a tuple of whole numbers in the heap -/
def IsW (h : Heap) (v : Value) (ns : List Int) : Prop := ∃ a o its n, v = .ref a ∧ h.get? a = some o ∧ o.cls = .type "tuple" ∧ o.data = .seq its n ∧ IntsAre its.toList ns
theorem IsW.keeps {h h' : Heap} {v : Value} {ns : List Int} (p : IsW h v ns) (k : ∀ b o, h.get? b = some o → o.cls = .type "tuple" → h'.get? b = some o) : IsW h' v ns := by
  obtain ⟨a, o, its, n, e, ho, hc, hd, hi⟩ := p
  exact ⟨a, o, its, n, e, k _ _ ho hc, hc, hd, hi⟩
section
variable {prog : Program} {w : World} {A : Around} {s : Shared}
theorem kat_W {fin : Bool} {Q : Bool → Shared → Prop} : ∀ {is js : List Value} {ns ms : List Int} {i : Nat}, IntsAre is ns → IntsAre js ms → fin = decide (ns.length < ms.length) → Q (ltW ns ms) s → PySem.W.KatLex prog w A true fin Q (is.zip js) i s
  | _, _, _, _, i, .nil, .nil, hf, q => PySem.W.kat_nil (by rw [hf]; exact q)
  | _, _, _, _, i, .nil, .cons _ _ _, hf, q => PySem.W.kat_nil (by rw [hf]; exact q)
  | _, _, _, _, i, .cons _ _ _, .nil, hf, q => PySem.W.kat_nil (by rw [hf]; exact q)
  | _, _, _, _, i, .cons x t r1, .cons y u r2, hf, q => by
    refine PySem.W.kat_cons (SeqAt.EqAt.int_int x t y u prog w _ _ ?_)
    refine PySem.W.kat_go (fun e1 => ?_) (fun e1 => ?_)
    · have ex : x = y := by simpa using e1
      unfold ltW at q
      rw [if_pos ex] at q
      refine PySem.W.kat_yes (kat_W r1 r2 ?_ q)
      rw [hf, List.length_cons, List.length_cons]
      exact decide_eq_decide.mpr (by omega)
    · have ex : ¬ x = y := by simpa using e1
      unfold ltW at q
      rw [if_neg ex] at q
      refine PySem.W.kat_no ?_
      cases e9 : (true && i == 0) with
      | true => exact oneLt_int q
      | false => exact PySem.W.kat_one _ _ (PyProof.Rows.lt_int q)
theorem w_cmp {vs : List Value} {k : Value → List Int} (hp : ∀ v ∈ vs, IsW s.heap v (k v)) : SrtO.Cmp prog w A s (tuples' true) (fun p => p.1 ∈ vs) (SrtO.lt2 fun v u => ltW (k v) (k u)) := by
  intro p q hm hm'
  obtain ⟨a, o, its, n, e, ho, hc, hd, hi⟩ := hp _ hm
  obtain ⟨a', o', its', n', e', ho', hc', hd', hi'⟩ := hp _ hm'
  show wpAny (model prog w) A (keyLt' (tuples' true) p.1 q.1) (fun r s' => s' = s ∧ r = ltW (k p.1) (k q.1)) (fun _ _ => False) s
  generalize k p.1 = ns at hi ⊢
  generalize k q.1 = ms at hi' ⊢
  rw [e, e']
  refine PySem.W.kat_lt ho hd ho' hd' ?_
  refine kat_W hi hi' ?_ ⟨rfl, rfl⟩
  have l1 := hi.length
  have l2 := hi'.length
  rw [Array.length_toList] at l1 l2
  rw [l1, l2]
theorem firsts_W {h : Heap} : ∀ {vs : List Value} {k : Value → List Int}, (∀ v ∈ vs, IsW h v (k v) ∧ k v ≠ []) → ∃ fs : List Value, PySem.W.KatTups h vs fs ∧ fs.length = vs.length ∧ ∀ f ∈ fs, ∃ x t, f = Value.int x t
  | [], _, _ => ⟨[], PySem.W.KatTups.nil, rfl, fun _ hm => by simp at hm⟩
  | v :: vs, k, hp => by
    obtain ⟨fs, h1, h2, h3⟩ := firsts_W (vs := vs) fun v' hm => hp v' (List.mem_cons_of_mem _ hm)
    obtain ⟨⟨a, o, its, n, e, ho, hc, hd, hi⟩, hne⟩ := hp v (List.mem_cons_self ..)
    generalize k v = ns at hi hne
    subst e
    obtain ⟨f, f1, x, t, rfl⟩ : ∃ f, its[0]? = some f ∧ ∃ x t, f = Value.int x t := by
      rw [← Array.getElem?_toList]
      generalize its.toList = l at hi
      cases hi with
      | nil => exact absurd rfl hne
      | cons x t r => exact ⟨_, rfl, x, t, rfl⟩
    refine ⟨.int x t :: fs, PySem.W.KatTups.cons ho hc hd f1 h1, by rw [List.length_cons, List.length_cons, h2], fun f hm => ?_⟩
    rcases List.mem_cons.mp hm with rfl | hm
    · exact ⟨x, t, rfl⟩
    · exact h3 f hm
theorem w_sortable {a : Addr} {vs : List Value} {k : Value → List Int} (h0 : 0 < vs.length) (hp : ∀ v ∈ vs, IsW s.heap v (k v) ∧ k v ≠ []) (ha : ∀ o, s.heap.get? a = some o → o.cls ≠ .type "tuple") : SrtO.SortableO prog w A s a vs fun v u => ltW (k v) (k u) := by
  intro h' keep
  have hp' : ∀ v ∈ vs, IsW h' v (k v) := fun v hm => (hp v hm).1.keeps fun b o e c => keep b o (fun z => by subst z; exact ha o e c) e
  obtain ⟨fs, h1, h2, h3⟩ := firsts_W (h := h') (k := k) fun v hm => ⟨hp' v hm, (hp v hm).2⟩
  refine ⟨tuples' true, fun Q E hq => ?_, w_cmp hp'⟩
  refine PySem.W.kat_kind (T := .type "int") h1 (by omega) (fun f hm => ?_) (by rfl) ?_
  · obtain ⟨x, t, rfl⟩ := h3 f hm
    exact PySem.W.Looks.now
  · have e : (Value.type "int" != Value.type "tuple") = true := by first | decide +kernel | rfl | decide
    rw [e]
    exact hq
theorem sorted_W {E : Value → Shared → Prop} {l : Addr} {vs : List Value} {k : Value → List Int} {Q : Value → Shared → Prop} (hl : s.heap.IsList l vs.toArray) (hz : vs.length ≤ sizeLine) (hp : 2 ≤ vs.length → ∀ v ∈ vs, IsW s.heap v (k v) ∧ k v ≠ [])
    (h : ∀ (h' : Heap) (d : Addr) (out : List Value), SrtO.Srtd (fun v u => ltW (k v) (k u)) out → SrtO.Stb (fun v u => ltW (k v) (k u)) out vs → (∀ b o, s.heap.get? b = some o → h'.get? b = some o) → s.heap.objs.size ≤ d → (∃ n, h'.get? d = some (seqObj "list" out.toArray n)) → Q (.ref d) { s with heap := h' }) :
    wpAny (model prog w) A (call (.builtin "sorted") [.ref l]) Q E s := by
  refine SrtO.sorted_ord (swo_W k) hl hz (fun h2 h₁ a ha kk => ?_) fun out hs hb => ?_
  · refine w_sortable (s := { s with heap := h₁ }) (by omega) (fun v hm => ⟨(hp h2 v hm).1.keeps fun b o e _ => (kk b o e).2, (hp h2 v hm).2⟩) fun o e => ?_
    have e' : some o = some (seqObj "list" vs.toArray 0) := e.symm.trans ha
    cases e'
    intro c
    exact absurd (Value.type.inj c) (by decide)
  · exact h _ _ out hs hb (fun b o e => sortedAll_old e) (Nat.le_succ _) (sortedAll_at s.heap vs out.toArray)
end
theorem ints_fun : ∀ {l : List Value} {ns ms : List Int}, IntsAre l ns → IntsAre l ms → ns = ms
  | _, _, _, .nil, .nil => rfl
  | _, _, _, .cons n t r, .cons _ _ r2 => by rw [ints_fun r r2]
theorem IsW.fun {h : Heap} {v : Value} {ns ms : List Int} (p : IsW h v ns) (q : IsW h v ms) : ns = ms := by
  obtain ⟨a, o, its, n, e, ho, hc, hd, hi⟩ := p
  obtain ⟨a', o', its', n', e', ho', hc', hd', hi'⟩ := q
  rw [e] at e'
  cases e'
  rw [ho] at ho'
  cases ho'
  rw [hd] at hd'
  cases hd'
  exact ints_fun hi hi'
open Classical in
noncomputable def kWv (h : Heap) (u : Value) : List Int := if p : ∃ ns, IsW h u ns then p.choose else []
theorem kWv_is {h : Heap} {u : Value} {ns : List Int} (p : IsW h u ns) : kWv h u = ns := by
  have z : ∃ ns, IsW h u ns := ⟨ns, p⟩
  have e : kWv h u = z.choose := by
    unfold kWv
    rw [dif_pos z]
  rw [e]
  exact IsW.fun z.choose_spec p
/-- sorted(xs), xs a list of tuples of whole numbers (none empty, if there are two or more): a new list of the same ones -/
def rSortedW (K : PySem.W.Frag) : List V → Hp → VK → Prop := fun vs H Q => ∃ (a : Addr) (rs : List Addr) (wl : List (List Int)), vs = [V.ref a] ∧ SqL K H a (rs.map V.ref) ∧ rs.length = wl.length ∧ (∀ (i : Nat) (r : Addr) (y : List Int), rs[i]? = some r → wl[i]? = some y → SqT K H r (y.map V.int)) ∧ (2 ≤ wl.length → ∀ y ∈ wl, y ≠ []) ∧
  ∀ (qs : List Addr) (zl : List (List Int)) (p : Addr), List.Perm zl wl → zl.Pairwise (fun x y => ltW y x = false) → qs.length = zl.length → (∀ (i : Nat) (r : Addr) (y : List Int), qs[i]? = some r → zl[i]? = some y → SqT K H r (y.map V.int)) → H p = none → Q (.ref p) (upd H p (.lst (qs.map V.ref)))
def adr : Value → Addr
  | .ref a => a
  | _ => 0
section
variable {X : Cx}
theorem cr_sortedW : CallR X (.builtin "sorted") (rSortedW X.K) := by
  intro pins s σ H vs us Q I r h
  obtain ⟨a, rs, wl, rfl, hs, hlen, hx, hne, q⟩ := h
  obtain ⟨its, rv, hl, hz⟩ := I.list hs
  obtain ⟨u, rfl, ru⟩ := vals1 r
  obtain rfl : u = Value.ref a := ru
  have eits : its = rs.map Value.ref := by
    have key : ∀ (rs : List Addr) (its : List Value), Vals (rs.map V.ref) its → its = rs.map Value.ref := by
      intro rs
      induction rs with
      | nil => intro its h; cases h; rfl
      | cons r rs ih =>
        intro its h
        cases h with
        | cons h1 h2 =>
          rw [ih _ h2]
          have : _ = Value.ref r := h1
          rw [this]
          rfl
    exact key rs its rv
  have hw : ∀ i r y, rs[i]? = some r → wl[i]? = some y → IsW s.heap (.ref r) y := fun i r y h1 h2 => by
    obtain ⟨its2, r2, p2, _⟩ := I.tuple (hx i r y h1 h2)
    obtain ⟨o, ho, hc, n, hd⟩ := p2
    exact ⟨r, o, its2.toArray, n, rfl, ho, hc, hd, (Vals.ints r2 : IntsAre its2 y)⟩
  have hk : ∀ i r y, rs[i]? = some r → wl[i]? = some y → kWv s.heap (.ref r) = y := fun i r y h1 h2 => kWv_is (hw i r y h1 h2)
  have emap : its.map (kWv s.heap) = wl := by
    rw [eits, List.map_map]
    refine List.ext_getElem? fun i => ?_
    rw [List.getElem?_map]
    cases e : rs[i]? with
    | none =>
      rw [List.getElem?_eq_none (by have := List.getElem?_eq_none_iff.mp e; omega)]
      rfl
    | some r =>
      have hi := (List.getElem?_eq_some_iff.mp e).1
      obtain ⟨y, hy⟩ : ∃ y, wl[i]? = some y := ⟨_, List.getElem?_eq_getElem (by omega)⟩
      rw [hy]
      show some (kWv s.heap (.ref r)) = some y
      rw [hk i r y e hy]
  have hmem : ∀ v ∈ its, ∃ i r y, v = Value.ref r ∧ rs[i]? = some r ∧ wl[i]? = some y := fun v hv => by
    rw [eits] at hv
    obtain ⟨r, hr, rfl⟩ := List.mem_map.mp hv
    obtain ⟨i, hi⟩ := List.mem_iff_getElem?.mp hr
    have hi2 := (List.getElem?_eq_some_iff.mp hi).1
    exact ⟨i, r, wl[i], rfl, hi, List.getElem?_eq_getElem (by omega)⟩
  refine sorted_W (k := kWv s.heap) hl.isList (by rw [← rv.length]; exact hz) (fun h2 v hv => ?_) fun h' d out h1 h2 kp hd hn => ?_
  · obtain ⟨i, r, y, rfl, e1, e2⟩ := hmem v hv
    rw [hk i r y e1 e2]
    refine ⟨hw i r y e1 e2, hne ?_ y (List.mem_of_getElem? e2)⟩
    rw [eits, List.length_map] at h2
    omega
  · obtain ⟨n, hn⟩ := hn
    have hom : ∀ v ∈ out, ∃ i r y, v = Value.ref r ∧ rs[i]? = some r ∧ wl[i]? = some y := fun v hv => hmem v (h2.perm.mem_iff.mp hv)
    have eout : out = (out.map adr).map Value.ref := by
      rw [List.map_map]
      refine (List.map_id out).symm.trans (List.map_congr_left fun v hv => ?_)
      obtain ⟨i, r, y, rfl, _, _⟩ := hom v hv
      rfl
    have hV : Vals ((out.map adr).map V.ref) out := by
      have key : ∀ l : List Addr, Vals (l.map V.ref) (l.map Value.ref) := by
        intro l
        induction l with
        | nil => exact .nil
        | cons r l ih => exact .cons rfl ih
      have := key (out.map adr)
      rw [← eout] at this
      exact this
    refine ⟨.ref d, upd H d (.lst ((out.map adr).map V.ref)), I.laid (t' := s.toks) kp hd ⟨?_, out, n, hV, hn⟩, rfl, q (out.map adr) (out.map (kWv s.heap)) d ?_ ?_ (by rw [List.length_map, List.length_map]) ?_ (I.hok.fresh hd)⟩
    · rw [List.length_map, List.length_map, h2.perm.length_eq, ← rv.length]
      exact hz
    · have := h2.perm.map (kWv s.heap)
      rw [emap] at this
      exact this
    · exact List.pairwise_map.mpr h1
    · intro i r y e1 e2
      rw [List.getElem?_map] at e1 e2
      cases e : out[i]? with
      | none => rw [e] at e1; cases e1
      | some v =>
        rw [e] at e1 e2
        obtain ⟨j, r', y', rfl, f1, f2⟩ := hom v (List.mem_of_getElem? e)
        cases e1
        cases e2
        rw [hk j _ y' f1 f2]
        exact hx j _ y' f1 f2
end
end Fp

set_option Elab.async false
set_option linter.all false
set_option maxRecDepth 100000
set_option maxHeartbeats 4000000
namespace Fp
open PySem PySem.Spec PyProof.Rows L2
/-! ### sorted(xs), tuples of whole numbers, empty ones too -/
theorem ltW_lex : ∀ x y : List Int, HT.lexLt x y = ltW x y
  | [], [] => rfl
  | [], _ :: _ => rfl
  | _ :: _, [] => rfl
  | x :: xs, y :: ys => by
    show (if x = y then HT.lexLt xs ys else decide (x < y)) = if x = y then ltW xs ys else decide (x < y)
    rw [ltW_lex xs ys]
section
variable {prog : Program} {w : World} {A : Around} {s : Shared}
theorem IsW.tup {h : Heap} {v : Value} {ns : List Int} (p : IsW h v ns) : ∃ a its, v = .ref a ∧ h.IsTuple a its ∧ IntsAre its.toList ns := by
  obtain ⟨a, o, its, n, e, ho, hc, hd, hi⟩ := p
  exact ⟨a, its, e, ⟨o, ho, hc, n, hd⟩, hi⟩
theorem w_cmp_gen {vs : List Value} {k : Value → List Int} (hu : A.units < cLine) (hp : ∀ v ∈ vs, IsW s.heap v (k v)) : SrtO.Cmp prog w A s general' (fun p => p.1 ∈ vs) (SrtO.lt2 fun v u => ltW (k v) (k u)) := by
  intro p q hm hm'
  obtain ⟨a, its, e, ha, hi⟩ := (hp _ hm).tup
  obtain ⟨a', its', e', ha', hi'⟩ := (hp _ hm').tup
  show wpAny (model prog w) A (oneLt' false p.1 q.1) (fun r s' => s' = s ∧ r = ltW (k p.1) (k q.1)) (fun _ _ => False) s
  generalize k p.1 = ns at hi ⊢
  generalize k q.1 = ms at hi' ⊢
  rw [e, e']
  refine PySem.W.kat_one _ _ (HT.lt_tupInts ha ha' hi hi' hu ?_)
  exact (show s = s ∧ HT.lexLt ns ms = ltW ns ms from ⟨rfl, ltW_lex ns ms⟩)
theorem call_ltW {l b : Addr} {items items2 : Array Value} {ns ms : List Int} {E : Value → Shared → Prop} {Q : Value → Shared → Prop} (hl : s.heap.IsTuple l items) (hb : s.heap.IsTuple b items2) (hi : IntsAre items.toList ns) (hj : IntsAre items2.toList ms) (h : Q (.bool (HT.lexLt ns ms)) s) :
    wpAny (model prog w) A (call (.builtin "tuple.__lt__") [.ref l, .ref b]) Q E s := by
  obtain ⟨⟨cls, dd, data, sl⟩, ho, hc, n, hd⟩ := id hl
  obtain ⟨⟨cls2, dd2, data2, sl2⟩, ho2, hc2, n2, hd2⟩ := id hb
  simp only at hc hd hc2 hd2
  subst hc hd hc2 hd2
  exact call_meets PySem.F.slot_tuple_lt ⟨_, ho, rfl⟩ PySem.F.entry_tuple_lt (PySem.F.args_tuple_lt_2 _ _) (HT.tuple_lt_ints l b items items2 n n2 dd dd2 sl sl2 ns ms hi hj) ⟨ho, ho2, h⟩
theorem w_cmp_one {vs : List Value} {k : Value → List Int} (hu : A.units < cLine) (hp : ∀ v ∈ vs, IsW s.heap v (k v)) : SrtO.Cmp prog w A s oneType' (fun p => p.1 ∈ vs) (SrtO.lt2 fun v u => ltW (k v) (k u)) := by
  intro p q hm hm'
  obtain ⟨a, its, e, ha, hi⟩ := (hp _ hm).tup
  obtain ⟨a', its', e', ha', hi'⟩ := (hp _ hm').tup
  show wpAny (model prog w) A (keyLt' oneType' p.1 q.1) (fun r s' => s' = s ∧ r = ltW (k p.1) (k q.1)) (fun _ _ => False) s
  generalize k p.1 = ns at hi ⊢
  generalize k q.1 = ms at hi' ⊢
  rw [e, e', keyLt'_oneType, oneLt'_eq]
  simp only [if_true]
  refine wpAny_bind (wpAny_cRoomFor hu ?_)
  have hT : s.TypeIs (.ref a) "tuple" := by
    obtain ⟨o, ho, hc, _⟩ := ha
    exact ⟨o, ho, hc⟩
  refine wpAny_bind (wpAny_callSpecialIfBound?_slot hT PySem.F.slot_tuple_lt (call_ltW ha ha' hi hi' ?_))
  refine wpAny_truthy_bool ?_
  exact ⟨rfl, ltW_lex ns ms⟩
/-- the first items, of tuples that may be empty -/
def HeadsO (h : Heap) : List Value → List (Option Value) → Prop
  | [], [] => True
  | v :: vs, f :: fs => (∃ a o xs n, v = .ref a ∧ h.get? a = some o ∧ o.cls = .type "tuple" ∧ o.data = .seq xs n ∧ xs[0]? = f) ∧ HeadsO h vs fs
  | _, _ => False
theorem heads_run {M : Model} {E : Value → Shared → Prop} : ∀ (vs : List Value) (fs : List (Option Value)) {Q : List (Option Value) → Shared → Prop}, HeadsO s.heap vs fs → Q fs s → wpAny M A (vs.mapM firstOfTuple') Q E s
  | [], [], _, _, h => by rw [List.mapM_nil]; exact wpAny_pure h
  | [], _ :: _, _, t, _ => t.elim
  | _ :: _, [], _, t, _ => t.elim
  | v :: vs, f :: fs, Q, t, h => by
    obtain ⟨⟨a, o, xs, n, rfl, ho, hc, hd, hf⟩, t⟩ := t
    rw [List.mapM_cons]
    refine wpAny_bind ?_
    rw [PySem.W.kas_first_eq]
    refine wpAny_bind (PySem.W.Looks.here (show PySem.W.Looks M s.heap (typeOf (.ref a)) o.cls from (PySem.W.Looks.ld ho).andThen .now) ?_)
    rw [hc, if_neg (by first | decide | simp)]
    refine wpAny_bind (listItems_at ho hd (wpAny_pure ?_))
    rw [hf]
    exact wpAny_bind (heads_run vs fs (Q := fun bs s' => wpAny M A (pure (f :: bs)) Q E s') t (wpAny_pure h))
theorem heads_of {h : Heap} : ∀ {vs : List Value} {k : Value → List Int}, (∀ v ∈ vs, IsW h v (k v)) → ∃ fs : List (Option Value), HeadsO h vs fs ∧ fs.length = vs.length ∧ ∀ (i : Nat) (v : Value), vs[i]? = some v → ∃ f, fs[i]? = some f ∧ (f = none ↔ k v = [])
  | [], _, _ => ⟨[], trivial, rfl, fun i v h => by simp at h⟩
  | v :: vs, k, hp => by
    obtain ⟨fs, h1, h2, h3⟩ := heads_of (vs := vs) fun v' hm => hp v' (List.mem_cons_of_mem _ hm)
    obtain ⟨a, o, its, n, e, ho, hc, hd, hi⟩ := hp v (List.mem_cons_self ..)
    refine ⟨its[0]? :: fs, ⟨⟨a, o, its, n, e, ho, hc, hd, rfl⟩, h1⟩, by rw [List.length_cons, List.length_cons, h2], fun i u hu => ?_⟩
    match i, hu with
    | 0, hu =>
      cases Option.some.inj hu
      refine ⟨_, rfl, ?_⟩
      rw [← Array.getElem?_toList]
      generalize k v = ns at hi
      generalize its.toList = l at hi
      cases hi with
      | nil => exact ⟨fun _ => rfl, fun _ => rfl⟩
      | cons x t r => exact ⟨fun z => by simp at z, fun z => by simp at z⟩
    | i + 1, hu => exact h3 i u hu
theorem kind_other {M : Model} {E : Value → Shared → Prop} {vs : List Value} {fs : List (Option Value)} {Q : SortKind → Shared → Prop} (t : HeadsO s.heap vs fs) (h0 : 0 < vs.length) (hn : fs.all (·.isSome) = false) (hT : ∀ v ∈ vs, PySem.W.Looks M s.heap (typeOf v) (Value.type "tuple")) (q1 : (∃ f, fs[0]? = some (some f)) → Q general' s) (q2 : fs[0]? = some none → Q oneType' s) :
    wpAny M A (keyKind' vs.toArray) Q E s := by
  rw [kat_kind_eq, List.mapM_toArray, map_eq_pure_bind]
  refine wpAny_bind (wpAny_bind (heads_run vs fs t (wpAny_pure ?_)))
  have hall : (fs.toArray.all fun x => x.isSome) = false := by simpa using hn
  rw [if_neg (by rw [hall]; exact Bool.false_ne_true)]
  have hfl : 0 < fs.length := by
    cases fs with
    | nil =>
      cases vs with
      | nil => exact absurd h0 (by decide)
      | cons _ _ => exact t.elim
    | cons _ _ => exact Nat.succ_pos _
  obtain ⟨f0, hf0⟩ : ∃ f0, fs[0]? = some f0 := ⟨_, List.getElem?_eq_getElem hfl⟩
  have ha0 : fs.toArray[0]? = some f0 := by simpa using hf0
  rw [ha0]
  cases f0 with
  | some f =>
    rw [if_pos (by rfl)]
    exact wpAny_pure (q1 ⟨f, hf0⟩)
  | none =>
    rw [if_neg (by simp)]
    rw [oneTypeOnly'_eq, List.mapM_toArray, map_eq_pure_bind]
    refine wpAny_bind (wpAny_bind (wpAny_bind (PySem.W.kas_mapM (r := Value.type "tuple") _ (fun v hv Q' hq => (hT v hv).here hq) (wpAny_pure ?_))))
    have hall2 : ((List.map (fun _ => Value.type "tuple") vs).toArray.all fun x => x == Value.type "tuple") = true := by
      simp only [List.all_toArray, List.all_map, List.all_eq_true]
      intro _ _
      rfl
    have h00 : (List.map (fun _ => Value.type "tuple") vs).toArray[0]? = some (Value.type "tuple") := by
      cases vs with
      | nil => exact absurd h0 (by decide)
      | cons _ _ => simp
    rw [h00]
    simp only [hall2, if_true]
    exact wpAny_pure (wpAny_pure (q2 hf0))
theorem x_sortable {a : Addr} {vs : List Value} {k : Value → List Int} (hu : A.units < cLine) (h0 : 0 < vs.length) (hp : ∀ v ∈ vs, IsW s.heap v (k v)) (ha : ∀ o, s.heap.get? a = some o → o.cls ≠ .type "tuple") : SrtO.SortableO prog w A s a vs fun v u => ltW (k v) (k u) := by
  by_cases hne : ∀ v ∈ vs, k v ≠ []
  · exact w_sortable h0 (fun v hv => ⟨hp v hv, hne v hv⟩) ha
  · intro h' keep
    have hp' : ∀ v ∈ vs, IsW h' v (k v) := fun v hm => (hp v hm).keeps fun b o e c => keep b o (fun z => by subst z; exact ha o e c) e
    obtain ⟨fs, h1, h2, h3⟩ := heads_of (h := h') (k := k) hp'
    have hn : fs.all (·.isSome) = false := by
      rw [List.all_eq_false]
      have : ∃ v ∈ vs, k v = [] := by
        rcases Classical.em (∃ v ∈ vs, k v = []) with z | z
        · exact z
        · exact absurd (fun v hv e => z ⟨v, hv, e⟩) hne
      obtain ⟨v, hv, e⟩ := this
      obtain ⟨i, hi⟩ := List.mem_iff_getElem?.mp hv
      obtain ⟨f, hf, hff⟩ := h3 i v hi
      refine ⟨f, List.mem_of_getElem? hf, ?_⟩
      rw [hff.mpr e]
      decide
    have hT : ∀ v ∈ vs, PySem.W.Looks (model prog w) h' (typeOf v) (Value.type "tuple") := fun v hv => by
      obtain ⟨a, o, its, n, rfl, ho, hc, hd, hi⟩ := hp' v hv
      exact hc ▸ (PySem.W.Looks.ld ho).andThen .now
    cases e0 : fs[0]? with
    | none => exact absurd (List.getElem?_eq_none_iff.mp e0) (by omega)
    | some f0 =>
      cases f0 with
      | some f => exact ⟨general', fun Q E hq => kind_other (s := { s with heap := h' }) h1 h0 hn hT (fun _ => hq) (fun z => by rw [e0] at z; cases z), w_cmp_gen hu hp'⟩
      | none => exact ⟨oneType', fun Q E hq => kind_other (s := { s with heap := h' }) h1 h0 hn hT (fun z => by obtain ⟨f, z⟩ := z; rw [e0] at z; cases z) (fun _ => hq), w_cmp_one hu hp'⟩
theorem sorted_X {E : Value → Shared → Prop} {l : Addr} {vs : List Value} {k : Value → List Int} {Q : Value → Shared → Prop} (hu : A.units + 64 < cLine) (hl : s.heap.IsList l vs.toArray) (hz : vs.length ≤ sizeLine) (hp : ∀ v ∈ vs, IsW s.heap v (k v))
    (h : ∀ (h' : Heap) (d : Addr) (out : List Value), SrtO.Srtd (fun v u => ltW (k v) (k u)) out → SrtO.Stb (fun v u => ltW (k v) (k u)) out vs → (∀ b o, s.heap.get? b = some o → h'.get? b = some o) → s.heap.objs.size ≤ d → (∃ n, h'.get? d = some (seqObj "list" out.toArray n)) → Q (.ref d) { s with heap := h' }) :
    wpAny (model prog w) A (call (.builtin "sorted") [.ref l]) Q E s := by
  refine SrtO.sorted_ord (swo_W k) hl hz (fun h2 h₁ a ha kk => ?_) fun out hs hb => ?_
  · refine x_sortable (s := { s with heap := h₁ }) (by simp only [Around.in1_units]; omega) (by omega) (fun v hm => (hp v hm).keeps fun b o e _ => (kk b o e).2) fun o e => ?_
    have e' : some o = some (seqObj "list" vs.toArray 0) := e.symm.trans ha
    cases e'
    intro c
    exact absurd (Value.type.inj c) (by decide)
  · exact h _ _ out hs hb (fun b o e => sortedAll_old e) (Nat.le_succ _) (sortedAll_at s.heap vs out.toArray)
end
/-- sorted(xs), xs a list of tuples of whole numbers : a new list of the same ones -/
def rSortedX (K : PySem.W.Frag) : List V → Hp → VK → Prop := fun vs H Q => ∃ (a : Addr) (rs : List Addr) (wl : List (List Int)), vs = [V.ref a] ∧ SqL K H a (rs.map V.ref) ∧ rs.length = wl.length ∧ (∀ (i : Nat) (r : Addr) (y : List Int), rs[i]? = some r → wl[i]? = some y → SqT K H r (y.map V.int)) ∧
  ∀ (qs : List Addr) (zl : List (List Int)) (p : Addr), List.Perm zl wl → zl.Pairwise (fun x y => ltW y x = false) → qs.length = zl.length → (∀ (i : Nat) (r : Addr) (y : List Int), qs[i]? = some r → zl[i]? = some y → SqT K H r (y.map V.int)) → H p = none → Q (.ref p) (upd H p (.lst (qs.map V.ref)))
section
variable {X : Cx}
theorem cr_sortedX (hu : X.A.units + 64 < cLine) : CallR X (.builtin "sorted") (rSortedX X.K) := by
  intro pins s σ H vs us Q I r h
  obtain ⟨a, rs, wl, rfl, hs, hlen, hx, q⟩ := h
  obtain ⟨its, rv, hl, hz⟩ := I.list hs
  obtain ⟨u, rfl, ru⟩ := vals1 r
  obtain rfl : u = Value.ref a := ru
  have eits : its = rs.map Value.ref := by
    have key : ∀ (rs : List Addr) (its : List Value), Vals (rs.map V.ref) its → its = rs.map Value.ref := by
      intro rs
      induction rs with
      | nil => intro its h; cases h; rfl
      | cons r rs ih =>
        intro its h
        cases h with
        | cons h1 h2 =>
          rw [ih _ h2]
          have : _ = Value.ref r := h1
          rw [this]
          rfl
    exact key rs its rv
  have hw : ∀ i r y, rs[i]? = some r → wl[i]? = some y → IsW s.heap (.ref r) y := fun i r y h1 h2 => by
    obtain ⟨its2, r2, p2, _⟩ := I.tuple (hx i r y h1 h2)
    obtain ⟨o, ho, hc, n, hd⟩ := p2
    exact ⟨r, o, its2.toArray, n, rfl, ho, hc, hd, (Vals.ints r2 : IntsAre its2 y)⟩
  have hk : ∀ i r y, rs[i]? = some r → wl[i]? = some y → kWv s.heap (.ref r) = y := fun i r y h1 h2 => kWv_is (hw i r y h1 h2)
  have emap : its.map (kWv s.heap) = wl := by
    rw [eits, List.map_map]
    refine List.ext_getElem? fun i => ?_
    rw [List.getElem?_map]
    cases e : rs[i]? with
    | none =>
      rw [List.getElem?_eq_none (by have := List.getElem?_eq_none_iff.mp e; omega)]
      rfl
    | some r =>
      have hi := (List.getElem?_eq_some_iff.mp e).1
      obtain ⟨y, hy⟩ : ∃ y, wl[i]? = some y := ⟨_, List.getElem?_eq_getElem (by omega)⟩
      rw [hy]
      show some (kWv s.heap (.ref r)) = some y
      rw [hk i r y e hy]
  have hmem : ∀ v ∈ its, ∃ i r y, v = Value.ref r ∧ rs[i]? = some r ∧ wl[i]? = some y := fun v hv => by
    rw [eits] at hv
    obtain ⟨r, hr, rfl⟩ := List.mem_map.mp hv
    obtain ⟨i, hi⟩ := List.mem_iff_getElem?.mp hr
    have hi2 := (List.getElem?_eq_some_iff.mp hi).1
    exact ⟨i, r, wl[i], rfl, hi, List.getElem?_eq_getElem (by omega)⟩
  refine sorted_X (k := kWv s.heap) hu hl.isList (by rw [← rv.length]; exact hz) (fun v hv => ?_) fun h' d out h1 h2 kp hd hn => ?_
  · obtain ⟨i, r, y, rfl, e1, e2⟩ := hmem v hv
    rw [hk i r y e1 e2]
    exact hw i r y e1 e2
  · obtain ⟨n, hn⟩ := hn
    have hom : ∀ v ∈ out, ∃ i r y, v = Value.ref r ∧ rs[i]? = some r ∧ wl[i]? = some y := fun v hv => hmem v (h2.perm.mem_iff.mp hv)
    have eout : out = (out.map adr).map Value.ref := by
      rw [List.map_map]
      refine (List.map_id out).symm.trans (List.map_congr_left fun v hv => ?_)
      obtain ⟨i, r, y, rfl, _, _⟩ := hom v hv
      rfl
    have hV : Vals ((out.map adr).map V.ref) out := by
      have key : ∀ l : List Addr, Vals (l.map V.ref) (l.map Value.ref) := by
        intro l
        induction l with
        | nil => exact .nil
        | cons r l ih => exact .cons rfl ih
      have := key (out.map adr)
      rw [← eout] at this
      exact this
    refine ⟨.ref d, upd H d (.lst ((out.map adr).map V.ref)), I.laid (t' := s.toks) kp hd ⟨?_, out, n, hV, hn⟩, rfl, q (out.map adr) (out.map (kWv s.heap)) d ?_ ?_ (by rw [List.length_map, List.length_map]) ?_ (I.hok.fresh hd)⟩
    · rw [List.length_map, List.length_map, h2.perm.length_eq, ← rv.length]
      exact hz
    · have := h2.perm.map (kWv s.heap)
      rw [emap] at this
      exact this
    · exact List.pairwise_map.mpr h1
    · intro i r y e1 e2
      rw [List.getElem?_map] at e1 e2
      cases e : out[i]? with
      | none => rw [e] at e1; cases e1
      | some v =>
        rw [e] at e1 e2
        obtain ⟨j, r', y', rfl, f1, f2⟩ := hom v (List.mem_of_getElem? e)
        cases e1
        cases e2
        rw [hk j _ y' f1 f2]
        exact hx j _ y' f1 f2
end
end Fp

set_option Elab.async false
set_option linter.all false
set_option maxRecDepth 100000
set_option maxHeartbeats 4000000
set_option exponentiation.threshold 10000
namespace Fp
open PySem PySem.Spec PyProof.Rows L2
def topS (i : Nat) : Stmt := PySem.Challenge.pw_freshparts_k65_whole_kinds_stand_as_shar.main.body.getD i (.Pass ⟨0, 0, 0, 0⟩)
abbrev s_cd : Stmt := topS 6
theorem sc_cd : FnScope ["one", "other", "great", "small"] ["one", "other"] (defScope s_cd) := ⟨rfl, rfl, rfl, by decide +kernel, rfl, by decide +kernel, by decide +kernel⟩

/-! ### the greatest common divisor -/
theorem abs_if (i : Int) : (if i < 0 then -i else i) = (i.natAbs : Int) := by split <;> omega
theorem gcd_turn {g s : Int} (hs : 0 < s) (hg : 0 ≤ g) : Int.gcd s (g.fmod s) = Int.gcd g s := by
  obtain ⟨n, rfl⟩ := Int.eq_ofNat_of_zero_le hg
  obtain ⟨m, rfl⟩ := Int.eq_ofNat_of_zero_le (Int.le_of_lt hs)
  rw [Int.fmod_eq_emod_of_nonneg _ (Int.le_of_lt hs)]
  show Nat.gcd m ((n : Int) % (m : Int)).natAbs = Nat.gcd n m
  rw [show ((n : Int) % (m : Int)) = ((n % m : Nat) : Int) from (Int.natCast_emod n m).symm, Int.natAbs_natCast, Nat.gcd_comm n m, Nat.gcd_comm m (n % m)]
  exact (Nat.gcd_rec m n).symm

section
variable {P : Program} {w : World} {K : PySem.W.Frag} {mg : Str → Option Value} {base : Heap}
def spCd : Sp := fun vs H Q _ => ∃ a b : Int, vs = [.int a, .int b] ∧ Q (.int (Int.gcd a b : Nat)) H
theorem ok_cd {f : Addr} {fd : FuncData} {k : Nat} (F : Fun K "common_divisor" "common_divisor" s_cd f fd) (ma : mg "abs" = none) : FnOk P w K mg base CX0 (k + 1) f fd ["one", "other"] spCd := by
  refine F.ok sc_cd (fun vs H Q E h => ?_) (fun cdv A outer s H vs Q E hr h => ?_)
  · obtain ⟨a, b, rfl, _⟩ := h
    rfl
  · obtain ⟨a, b, rfl, q⟩ := h
    refine ⟨_, pss_cons (ps_par (i := 2) (j := 3) rfl sc_cd.nd rfl rfl (by decide) rfl rfl (pa_cons (pe_callB call_abs (by rfl) ma (by decide +kernel) (pa_cons (pv 0) pa_nil)) (pa_cons (pe_callB call_abs (by rfl) ma (by decide +kernel) (pa_cons (pv 1) pa_nil)) pa_nil)) (by rfl))
      (pss_cons (ps_while PassesOwn.never (pt_cmpR op_ne (pv 3) pe_int (nomark _)) (pss_one (ps_par (i := 2) (j := 3) rfl sc_cd.nd rfl rfl (by decide) rfl rfl (pa_cons (pv 3) (pa_cons (pe_op op_modN (pv 2) (pv 3)) pa_nil)) (by rfl))))
      (pss_one (ps_ret (pv 2)))), ?_⟩
    refine ⟨_, rfl, a, rfl, _, rfl, b, rfl, _, _, rfl, ?_⟩
    refine while_by (fun σ H1 => H1 = H ∧ ∃ g s : Int, σ = [some (.int a), some (.int b), some (.int g), some (.int s)] ∧ 0 ≤ g ∧ 0 ≤ s ∧ Int.gcd g s = Int.gcd a b)
      (fun σ _ => match σ with | [_, _, _, some (.int s)] => s.toNat | _ => 0) ?_ ?_ ?_
    · refine ⟨rfl, _, _, rfl, ?_, ?_, ?_⟩
      · rw [abs_if]; omega
      · rw [abs_if]; omega
      · rw [abs_if, abs_if]
        show Nat.gcd _ _ = Nat.gcd _ _
        rw [Int.natAbs_natCast, Int.natAbs_natCast]
    · rintro σ H1 ⟨rfl, g, s, rfl, hg, hs, e⟩
      refine ⟨_, rfl, rfl, _, rfl, ite2 (fun c => ?_) (fun c => ?_)⟩
      · have hs0 : s ≠ 0 := fun z => by
          rw [z] at c
          exact absurd c (by decide)
        have hp : 0 < s := by omega
        have lt : s > g.fmod s := Int.fmod_lt_of_pos g hp
        have nn : 0 ≤ g.fmod s := Int.fmod_nonneg_of_pos g hp
        refine ⟨_, rfl, _, rfl, _, rfl, g, s, rfl, rfl, hs0, _, _, rfl, ⟨rfl, s, g.fmod s, rfl, hs, nn, ?_⟩, ?_⟩
        · rw [gcd_turn hp hg]; exact e
        · show (g.fmod s).toNat < s.toNat
          omega
      · have hs0 : s = 0 := by
          rcases Classical.em (s = 0) with z | z
          · exact z
          · exact absurd (show (!decide (V.int s = V.int 0)) = true by simp [z]) c
        subst hs0
        refine ⟨_, rfl, ?_⟩
        have eg : g = ((Int.gcd a b : Nat) : Int) := by
          rw [← e, Int.gcd_zero_right]
          omega
        rw [eg]
        exact q
    · intro σ H1 Q1 Q2 hq h
      obtain ⟨v, e1, e2, k, e3, h⟩ := h
      exact ⟨v, e1, e2, k, e3, hq _ _ h⟩
end

end Fp

set_option Elab.async false
set_option linter.all false
set_option maxRecDepth 100000
set_option maxHeartbeats 4000000
set_option exponentiation.threshold 10000
namespace Fp
open PySem PySem.Spec PyProof.Rows L2
/-! ### ratio -/
def ratG (t b : Int) : Int := if b < 0 then -((Int.gcd t b : Nat) : Int) else ((Int.gcd t b : Nat) : Int)
def ratT (t b : Int) : Int := t.fdiv (ratG t b)
def ratB (t b : Int) : Int := b.fdiv (ratG t b)
theorem gcd_le {t b : Int} (h : b ≠ 0) : 0 < Int.gcd t b ∧ Int.gcd t b ≤ b.natAbs := by
  have hb : 0 < b.natAbs := by omega
  exact ⟨Nat.gcd_pos_of_pos_right _ hb, Nat.gcd_le_right _ hb⟩
theorem ratG_ok {t b : Int} {n : Nat} (h : b ≠ 0) (hb : b.natAbs < 2 ^ n) (hn : n ≤ 9000) (h0 : 0 < n) : CDivA t (ratG t b) ∧ CDivA b (ratG t b) := by
  obtain ⟨h1, h2⟩ := gcd_le (t := t) h
  have e : (ratG t b).natAbs = Int.gcd t b := by
    unfold ratG
    split <;> omega
  have ne : ratG t b ≠ 0 := by omega
  have l : (ratG t b).natAbs.log2 < 9000 := by
    rw [e]
    exact Nat.lt_of_lt_of_le ((Nat.log2_lt (by omega)).mpr (Nat.lt_of_le_of_lt h2 hb)) hn
  exact ⟨⟨ne, l⟩, ⟨ne, l⟩⟩

end Fp

set_option Elab.async false
set_option linter.all false
set_option maxRecDepth 100000
set_option maxHeartbeats 4000000
set_option exponentiation.threshold 10000
namespace Fp
open PySem PySem.Spec PyProof.Rows L2
abbrev s_ratio : Stmt := topS 7
theorem sc_ratio : FnScope ["top", "bottom", "divisor"] ["top", "bottom"] (defScope s_ratio) := ⟨rfl, rfl, rfl, by decide +kernel, rfl, by decide +kernel, by decide +kernel⟩
section
variable {P : Program} {w : World} {K : PySem.W.Frag} {mg : Str → Option Value} {base : Heap}
def spRat0 : Sp := fun vs H Q _ => ∃ (t b : Int), vs = [.int t, .int b] ∧ b.natAbs < 2 ^ 8000 ∧ b ≠ 0 ∧ ∀ p, H p = none → Q (.ref p) (upd H p (.tup [.int (ratT t b), .int (ratB t b)]))
theorem ok_ratio {f fC : Addr} {fd fdC : FuncData} (F : Fun K "ratio" "ratio" s_ratio f fd) (FC : Fun K "common_divisor" "common_divisor" s_cd fC fdC) (bC : Binds K fdC ["one", "other"] [])
    (gC : mg "common_divisor" = some (.ref fC)) (ma : mg "abs" = none) : FnOk P w K mg base CX0 2 f fd ["top", "bottom"] spRat0 := by
  have GC : FnOk P w K mg base CX0 1 fC fdC ["one", "other"] spCd := ok_cd FC ma
  refine F.ok sc_ratio (fun vs H Q E h => ?_) (fun cdv A outer s H vs Q E hr h => ?_)
  · obtain ⟨t, b, rfl, _⟩ := h
    rfl
  · obtain ⟨t, b, rfl, hb, h0, q1⟩ := h
    refine ⟨_, (pss_cons (ps_if (pt_cmpR op_eq (pv 1) pe_int (nomark _)) (pss_one ps_never) pss_nil) (pss_cons (ps_set (i := 2) sc_ratio.nd rfl (.inl rfl) (pe_call GC hr (by rfl) gC FC.kp bC .nil pass0 (pa_cons (pv 0) (pa_cons (pv 1) pa_nil)))) (pss_cons (ps_if (pt_cmpR op_lt (pv 1) pe_int (nomark _)) (pss_one (ps_set (i := 2) sc_ratio.nd rfl (.inl rfl) (pe_un un_neg (pv 2)))) pss_nil) (pss_one (ps_ret (pe_tup (pa_cons (pe_op op_fdivA (pv 0) (pv 2)) (pa_cons (pe_op op_fdivA (pv 1) (pv 2)) pa_nil)))))))), ?_⟩
    refine ⟨_, rfl, rfl, _, rfl, ite2 (fun c => ?_) (fun c => ?_)⟩
    · exact absurd (V.int.inj (of_decide_eq_true c)) h0
    · obtain ⟨c1, c2⟩ := ratG_ok (t := t) h0 hb (by decide) (by decide)
      refine ⟨_, rfl, _, rfl, t, b, rfl, ?_⟩
      have fin : ∀ g : Int, g = ratG t b → ∀ p, H p = none → Q (.ref p) (upd H p (.tup [.int (t.fdiv g), .int (b.fdiv g)])) := fun g eg p hp => by
        rw [eg]
        exact q1 p hp
      refine ⟨_, rfl, b, 0, rfl, rfl, _, rfl, ite2 (fun c3 => ?_) (fun c3 => ?_)⟩
      · have hneg : b < 0 := of_decide_eq_true c3
        have eg : -((Int.gcd t b : Nat) : Int) = ratG t b := by unfold ratG; rw [if_pos hneg]
        refine ⟨_, rfl, _, rfl, ?_⟩
        refine ⟨_, rfl, _, rfl, t, _, rfl, rfl, by rw [eg]; exact c1, _, rfl, _, rfl, b, _, rfl, rfl, by rw [eg]; exact c2, by show 2 ≤ sizeLine; decide, fin _ eg⟩
      · have hneg : ¬ b < 0 := fun z => c3 (decide_eq_true z)
        have eg : ((Int.gcd t b : Nat) : Int) = ratG t b := by unfold ratG; rw [if_neg hneg]
        refine ⟨_, rfl, _, rfl, t, _, rfl, rfl, by rw [eg]; exact c1, _, rfl, _, rfl, b, _, rfl, rfl, by rw [eg]; exact c2, by show 2 ≤ sizeLine; decide, fin _ eg⟩
end

end Fp

set_option Elab.async false
set_option linter.all false
set_option maxRecDepth 100000
set_option maxHeartbeats 4000000
set_option exponentiation.threshold 10000
namespace Fp
open PySem PySem.Spec PyProof.Rows L2
/-! ### two ratios reckoned -/
theorem sqT_same {K : PySem.W.Frag} {H H' : Hp} {a : Addr} {xs : List V} (e : Same H H') (h : SqT K H a xs) : SqT K H' a xs := by
  rcases h with (h | ⟨o, h⟩) | h
  · exact .inl (.inl (e _ _ h))
  · exact .inl (.inr ⟨o, e _ _ h⟩)
  · exact .inr h
theorem same_new {H : Hp} {p : Addr} {o : HO} (h : H p = none) : Same H (upd H p o) := fun b x z => by
  rw [upd_ne (ne_of_none z h)]
  exact z
/-- bounds of what is multiplied -/
def Sm (n : Nat) (a : Int) : Prop := a.natAbs < 2 ^ n
theorem Sm.log {n : Nat} {a : Int} (h : Sm n a) (h0 : 0 < n) : a.natAbs.log2 < n := by
  rcases Nat.eq_zero_or_pos a.natAbs with z | z
  · rw [z]; simpa using h0
  · exact (Nat.log2_lt (by omega)).mpr h
theorem Sm.mul {n m : Nat} {a b : Int} (ha : Sm n a) (hb : Sm m b) : Sm (n + m) (a * b) := by
  unfold Sm at *
  rw [Int.natAbs_mul, Nat.pow_add]
  exact Nat.mul_lt_mul'' ha hb
theorem Sm.add {n : Nat} {a b : Int} (ha : Sm n a) (hb : Sm n b) : Sm (n + 1) (a + b) := by
  unfold Sm at *
  rw [Nat.pow_succ]
  omega
theorem Sm.sub {n : Nat} {a b : Int} (ha : Sm n a) (hb : Sm n b) : Sm (n + 1) (a - b) := by
  unfold Sm at *
  rw [Nat.pow_succ]
  omega
theorem Sm.mono {n m : Nat} {a : Int} (h : Sm n a) (l : n ≤ m) : Sm m a := Nat.lt_of_lt_of_le h (Nat.pow_le_pow_right (by decide) l)
theorem Sm.cmul {n m : Nat} {a b : Int} (ha : Sm n a) (hb : Sm m b) (h0 : 0 < n) (h1 : 0 < m) (h : n + m ≤ 1000000) : CMulA a b := by
  have x := ha.log h0
  have y := hb.log h1
  unfold CMulA
  omega
/-- at p1 and p2 the ratios a by b, c by d -/
structure Two (K : PySem.W.Frag) (H : Hp) (p1 p2 : Addr) (a b c d : Int) : Prop where
  t1 : SqT K H p1 [.int a, .int b]
  t2 : SqT K H p2 [.int c, .int d]
  sa : Sm 3000 a
  sb : Sm 3000 b
  sc : Sm 3000 c
  sd : Sm 3000 d
  pb : 0 < b
  pd : 0 < d
theorem Two.den {K : PySem.W.Frag} {H : Hp} {p1 p2 : Addr} {a b c d : Int} (h : Two K H p1 p2 a b c d) : 0 < b * d := Int.mul_pos h.pb h.pd
theorem Two.same {K : PySem.W.Frag} {H H' : Hp} {p1 p2 : Addr} {a b c d : Int} (h : Two K H p1 p2 a b c d) (e : Same H H') : Two K H' p1 p2 a b c d := ⟨sqT_same e h.t1, sqT_same e h.t2, h.sa, h.sb, h.sc, h.sd, h.pb, h.pd⟩
def spTwo (K : PySem.W.Frag) (num : Int → Int → Int → Int → Int) : Sp := fun vs H Q _ => ∃ (p1 p2 : Addr) (a b c d : Int), vs = [.ref p1, .ref p2] ∧ Two K H p1 p2 a b c d ∧
  ∀ p, H p = none → Q (.ref p) (upd H p (.tup [.int (ratT (num a b c d) (b * d)), .int (ratB (num a b c d) (b * d))]))

end Fp

set_option Elab.async false
set_option linter.all false
set_option maxRecDepth 100000
set_option maxHeartbeats 4000000
set_option exponentiation.threshold 10000
namespace Fp
open PySem PySem.Spec PyProof.Rows L2
abbrev s_plus : Stmt := topS 8
theorem sc_plus : FnScope ["one", "other"] ["one", "other"] (defScope s_plus) := ⟨rfl, rfl, rfl, by decide +kernel, rfl, by decide +kernel, by decide +kernel⟩
section
variable {P : Program} {w : World} {K : PySem.W.Frag} {mg : Str → Option Value} {base : Heap}
theorem ok_plus {f fR : Addr} {fd fdR : FuncData} (F : Fun K "plus" "plus" s_plus f fd) (FR : Fun K "ratio" "ratio" s_ratio fR fdR) (bR : Binds K fdR ["top", "bottom"] []) (gR : mg "ratio" = some (.ref fR)) (GR : FnOk P w K mg base CX0 2 fR fdR ["top", "bottom"] spRat0) : FnOk P w K mg base CX0 3 f fd ["one", "other"] (spTwo K (fun a b c d => a * d + c * b)) := by
  refine F.ok sc_plus (fun vs H Q E h => ?_) (fun cdv A outer s H vs Q E hr h => ?_)
  · obtain ⟨_, _, _, _, _, _, rfl, _⟩ := h
    rfl
  · obtain ⟨p1, p2, a, b, c, d, rfl, T, q⟩ := h
    refine ⟨_, pss_one (ps_ret (pe_call GR hr (by rfl) gR FR.kp bR .nil pass0 (pa_cons (pe_op op_add (pe_op op_mulA (pe_ix ix_tup (pv 0) pe_int (fun _ _ => rfl)) (pe_ix ix_tup (pv 1) pe_int (fun _ _ => rfl))) (pe_op op_mulA (pe_ix ix_tup (pv 1) pe_int (fun _ _ => rfl)) (pe_ix ix_tup (pv 0) pe_int (fun _ _ => rfl)))) (pa_cons (pe_op op_mulA (pe_ix ix_tup (pv 0) pe_int (fun _ _ => rfl)) (pe_ix ix_tup (pv 1) pe_int (fun _ _ => rfl))) pa_nil)))), ?_⟩
    refine ⟨_, rfl, p1, _, 0, _, rfl, rfl, T.t1, atI_nat (j := 0) rfl, _, rfl, p2, _, 1, _, rfl, rfl, T.t2, atI_nat (j := 1) rfl, a, d, rfl, rfl, T.sa.cmul T.sd (by decide) (by decide) (by decide), _, rfl, p2, _, 0, _, rfl, rfl, T.t2, atI_nat (j := 0) rfl, _, rfl, p1, _, 1, _, rfl, rfl, T.t1, atI_nat (j := 1) rfl, c, b, rfl, rfl, T.sc.cmul T.sb (by decide) (by decide) (by decide), _, _, rfl, rfl, _, rfl, p1, _, 1, _, rfl, rfl, T.t1, atI_nat (j := 1) rfl, _, rfl, p2, _, 1, _, rfl, rfl, T.t2, atI_nat (j := 1) rfl, b, d, rfl, rfl, T.sb.cmul T.sd (by decide) (by decide) (by decide), ?_⟩
    exact ⟨_, _, rfl, (T.sb.mul T.sd).mono (by decide), Int.ne_of_gt T.den, q⟩
end

end Fp

set_option Elab.async false
set_option linter.all false
set_option maxRecDepth 100000
set_option maxHeartbeats 4000000
set_option exponentiation.threshold 10000
namespace Fp
open PySem PySem.Spec PyProof.Rows L2
abbrev s_minus : Stmt := topS 9
theorem sc_minus : FnScope ["one", "other"] ["one", "other"] (defScope s_minus) := ⟨rfl, rfl, rfl, by decide +kernel, rfl, by decide +kernel, by decide +kernel⟩
section
variable {P : Program} {w : World} {K : PySem.W.Frag} {mg : Str → Option Value} {base : Heap}
theorem ok_minus {f fR : Addr} {fd fdR : FuncData} (F : Fun K "minus" "minus" s_minus f fd) (FR : Fun K "ratio" "ratio" s_ratio fR fdR) (bR : Binds K fdR ["top", "bottom"] []) (gR : mg "ratio" = some (.ref fR)) (GR : FnOk P w K mg base CX0 2 fR fdR ["top", "bottom"] spRat0) : FnOk P w K mg base CX0 3 f fd ["one", "other"] (spTwo K (fun a b c d => a * d - c * b)) := by
  refine F.ok sc_minus (fun vs H Q E h => ?_) (fun cdv A outer s H vs Q E hr h => ?_)
  · obtain ⟨_, _, _, _, _, _, rfl, _⟩ := h
    rfl
  · obtain ⟨p1, p2, a, b, c, d, rfl, T, q⟩ := h
    refine ⟨_, pss_one (ps_ret (pe_call GR hr (by rfl) gR FR.kp bR .nil pass0 (pa_cons (pe_op op_sub (pe_op op_mulA (pe_ix ix_tup (pv 0) pe_int (fun _ _ => rfl)) (pe_ix ix_tup (pv 1) pe_int (fun _ _ => rfl))) (pe_op op_mulA (pe_ix ix_tup (pv 1) pe_int (fun _ _ => rfl)) (pe_ix ix_tup (pv 0) pe_int (fun _ _ => rfl)))) (pa_cons (pe_op op_mulA (pe_ix ix_tup (pv 0) pe_int (fun _ _ => rfl)) (pe_ix ix_tup (pv 1) pe_int (fun _ _ => rfl))) pa_nil)))), ?_⟩
    refine ⟨_, rfl, p1, _, 0, _, rfl, rfl, T.t1, atI_nat (j := 0) rfl, _, rfl, p2, _, 1, _, rfl, rfl, T.t2, atI_nat (j := 1) rfl, a, d, rfl, rfl, T.sa.cmul T.sd (by decide) (by decide) (by decide), _, rfl, p2, _, 0, _, rfl, rfl, T.t2, atI_nat (j := 0) rfl, _, rfl, p1, _, 1, _, rfl, rfl, T.t1, atI_nat (j := 1) rfl, c, b, rfl, rfl, T.sc.cmul T.sb (by decide) (by decide) (by decide), _, _, rfl, rfl, _, rfl, p1, _, 1, _, rfl, rfl, T.t1, atI_nat (j := 1) rfl, _, rfl, p2, _, 1, _, rfl, rfl, T.t2, atI_nat (j := 1) rfl, b, d, rfl, rfl, T.sb.cmul T.sd (by decide) (by decide) (by decide), ?_⟩
    exact ⟨_, _, rfl, (T.sb.mul T.sd).mono (by decide), Int.ne_of_gt T.den, q⟩
end

end Fp

set_option Elab.async false
set_option linter.all false
set_option maxRecDepth 100000
set_option maxHeartbeats 4000000
set_option exponentiation.threshold 10000
namespace Fp
open PySem PySem.Spec PyProof.Rows L2
abbrev s_times : Stmt := topS 10
theorem sc_times : FnScope ["one", "other"] ["one", "other"] (defScope s_times) := ⟨rfl, rfl, rfl, by decide +kernel, rfl, by decide +kernel, by decide +kernel⟩
section
variable {P : Program} {w : World} {K : PySem.W.Frag} {mg : Str → Option Value} {base : Heap}
theorem ok_times {f fR : Addr} {fd fdR : FuncData} (F : Fun K "times" "times" s_times f fd) (FR : Fun K "ratio" "ratio" s_ratio fR fdR) (bR : Binds K fdR ["top", "bottom"] []) (gR : mg "ratio" = some (.ref fR)) (GR : FnOk P w K mg base CX0 2 fR fdR ["top", "bottom"] spRat0) : FnOk P w K mg base CX0 3 f fd ["one", "other"] (spTwo K (fun a b c d => a * c)) := by
  refine F.ok sc_times (fun vs H Q E h => ?_) (fun cdv A outer s H vs Q E hr h => ?_)
  · obtain ⟨_, _, _, _, _, _, rfl, _⟩ := h
    rfl
  · obtain ⟨p1, p2, a, b, c, d, rfl, T, q⟩ := h
    refine ⟨_, pss_one (ps_ret (pe_call GR hr (by rfl) gR FR.kp bR .nil pass0 (pa_cons (pe_op op_mulA (pe_ix ix_tup (pv 0) pe_int (fun _ _ => rfl)) (pe_ix ix_tup (pv 1) pe_int (fun _ _ => rfl))) (pa_cons (pe_op op_mulA (pe_ix ix_tup (pv 0) pe_int (fun _ _ => rfl)) (pe_ix ix_tup (pv 1) pe_int (fun _ _ => rfl))) pa_nil)))), ?_⟩
    refine ⟨_, rfl, p1, _, 0, _, rfl, rfl, T.t1, atI_nat (j := 0) rfl, _, rfl, p2, _, 0, _, rfl, rfl, T.t2, atI_nat (j := 0) rfl, a, c, rfl, rfl, T.sa.cmul T.sc (by decide) (by decide) (by decide), _, rfl, p1, _, 1, _, rfl, rfl, T.t1, atI_nat (j := 1) rfl, _, rfl, p2, _, 1, _, rfl, rfl, T.t2, atI_nat (j := 1) rfl, b, d, rfl, rfl, T.sb.cmul T.sd (by decide) (by decide) (by decide), ?_⟩
    exact ⟨_, _, rfl, (T.sb.mul T.sd).mono (by decide), Int.ne_of_gt T.den, q⟩
end

end Fp

set_option Elab.async false
set_option linter.all false
set_option maxRecDepth 100000
set_option maxHeartbeats 4000000
set_option exponentiation.threshold 10000
namespace Fp
open PySem PySem.Spec PyProof.Rows L2
abbrev s_over : Stmt := topS 11
theorem sc_over : FnScope ["one", "other"] ["one", "other"] (defScope s_over) := ⟨rfl, rfl, rfl, by decide +kernel, rfl, by decide +kernel, by decide +kernel⟩
section
variable {P : Program} {w : World} {K : PySem.W.Frag} {mg : Str → Option Value} {base : Heap}
def spOver0 (K : PySem.W.Frag) : Sp := fun vs H Q _ => ∃ (p1 p2 : Addr) (a b c d : Int), vs = [.ref p1, .ref p2] ∧ Two K H p1 p2 a b c d ∧ b * c ≠ 0 ∧
  ∀ p, H p = none → Q (.ref p) (upd H p (.tup [.int (ratT (a * d) (b * c)), .int (ratB (a * d) (b * c))]))
theorem ok_over {f fR : Addr} {fd fdR : FuncData} (F : Fun K "over" "over" s_over f fd) (FR : Fun K "ratio" "ratio" s_ratio fR fdR) (bR : Binds K fdR ["top", "bottom"] []) (gR : mg "ratio" = some (.ref fR)) (GR : FnOk P w K mg base CX0 2 fR fdR ["top", "bottom"] spRat0) : FnOk P w K mg base CX0 3 f fd ["one", "other"] (spOver0 K) := by
  refine F.ok sc_over (fun vs H Q E h => ?_) (fun cdv A outer s H vs Q E hr h => ?_)
  · obtain ⟨_, _, _, _, _, _, rfl, _⟩ := h
    rfl
  · obtain ⟨p1, p2, a, b, c, d, rfl, T, ne, q⟩ := h
    refine ⟨_, pss_one (ps_ret (pe_call GR hr (by rfl) gR FR.kp bR .nil pass0 (pa_cons (pe_op op_mulA (pe_ix ix_tup (pv 0) pe_int (fun _ _ => rfl)) (pe_ix ix_tup (pv 1) pe_int (fun _ _ => rfl))) (pa_cons (pe_op op_mulA (pe_ix ix_tup (pv 0) pe_int (fun _ _ => rfl)) (pe_ix ix_tup (pv 1) pe_int (fun _ _ => rfl))) pa_nil)))), ?_⟩
    refine ⟨_, rfl, p1, _, 0, _, rfl, rfl, T.t1, atI_nat (j := 0) rfl, _, rfl, p2, _, 1, _, rfl, rfl, T.t2, atI_nat (j := 1) rfl, a, d, rfl, rfl, T.sa.cmul T.sd (by decide) (by decide) (by decide), _, rfl, p1, _, 1, _, rfl, rfl, T.t1, atI_nat (j := 1) rfl, _, rfl, p2, _, 0, _, rfl, rfl, T.t2, atI_nat (j := 0) rfl, b, c, rfl, rfl, T.sb.cmul T.sc (by decide) (by decide) (by decide), ?_⟩
    exact ⟨_, _, rfl, (T.sb.mul T.sc).mono (by decide), ne, q⟩
end

end Fp

set_option Elab.async false
set_option linter.all false
set_option maxRecDepth 100000
set_option maxHeartbeats 4000000
set_option exponentiation.threshold 10000
namespace Fp
open PySem PySem.Spec PyProof.Rows L2
/-! ### the feed of draws -/
abbrev s_feed : Stmt := topS 41
abbrev s_draw : Stmt := topS 42
theorem sc_feed : FnScope ["_law_script"] ["_law_script"] (defScope s_feed) := ⟨rfl, rfl, rfl, by decide +kernel, rfl, by decide +kernel, by decide +kernel⟩
theorem sc_draw : FnScope ["_law_feed_here", "_law_size", "_law_turn", "_law_digit", "_law_at", "_law_cell", "_law_mixed"] ["_law_feed_here", "_law_size"] (defScope s_draw) := ⟨rfl, rfl, rfl, by decide +kernel, rfl, by decide +kernel, by decide +kernel⟩
def feedL (c : Addr) (a l t : Int) : List (Key × V) := [(.inr "cells", .ref c), (.inr "at", .int a), (.inr "left", .int l), (.inr "turn", .int t)]
theorem feed_at (c : Addr) (a l t : Int) : valV (feedL c a l t) (.inr "at") = some (.int a) := rfl
theorem feed_cells (c : Addr) (a l t : Int) : valV (feedL c a l t) (.inr "cells") = some (.ref c) := rfl
theorem feed_left (c : Addr) (a l t : Int) : valV (feedL c a l t) (.inr "left") = some (.int l) := rfl
theorem feed_turn (c : Addr) (a l t : Int) : valV (feedL c a l t) (.inr "turn") = some (.int t) := rfl
theorem put_at (c : Addr) (a l t x : Int) : putK (feedL c a l t) (.inr "at") (.int x) = feedL c x l t := rfl
theorem put_left (c : Addr) (a l t x : Int) : putK (feedL c a l t) (.inr "left") (.int x) = feedL c a x t := rfl
theorem put_turn (c : Addr) (a l t x : Int) : putK (feedL c a l t) (.inr "turn") (.int x) = feedL c a l x := rfl
theorem feed_len (c : Addr) (a l t : Int) : (feedL c a l t).length < sizeLine := by show 4 < sizeLine; decide
theorem feed_merge (c : Addr) : mergeK [] (feedL c 0 0 0) = feedL c 0 0 0 := rfl
/-- at d a feed that has told t draws -/
def Feed (H : Hp) (d c : Addr) (t : Int) : Prop := ∃ (a l : Int) (ns : List Int), H d = some (.dK (feedL c a l t)) ∧ H c = some (.lst (ns.map V.int)) ∧ 0 ≤ t
/-- all but d as it was -/
def Keep (d : Addr) (H H' : Hp) : Prop := ∀ b o, b ≠ d → H b = some o → H' b = some o
theorem Keep.trans {d : Addr} {H H1 H2 : Hp} (a : Keep d H H1) (b : Keep d H1 H2) : Keep d H H2 := fun c o n z => b c o n (a c o n z)
theorem Keep.of_same {d : Addr} {H H' : Hp} (a : Same H H') : Keep d H H' := fun b o _ z => a b o z
theorem Keep.upd {d : Addr} {H : Hp} {o : HO} : Keep d H (upd H d o) := fun b x n z => by rw [upd_ne n]; exact z
theorem Feed.same {H H' : Hp} {d c : Addr} {t : Int} (f : Feed H d c t) (e : Same H H') : Feed H' d c t := by
  obtain ⟨a, l, ns, h1, h2, h3⟩ := f
  exact ⟨a, l, ns, e _ _ h1, e _ _ h2, h3⟩
theorem Feed.wr {H : Hp} {d c p : Addr} {t : Int} {o : HO} (f : Feed H d c t) (h1 : p ≠ d) (h2 : p ≠ c) : Feed (upd H p o) d c t := by
  obtain ⟨a, l, ns, e1, e2, e3⟩ := f
  exact ⟨a, l, ns, by rw [upd_ne h1.symm]; exact e1, by rw [upd_ne h2.symm]; exact e2, e3⟩
theorem Feed.ne {H : Hp} {d c p : Addr} {t : Int} {o : HO} (f : Feed H d c t) (h : H p = some o) (n : ∀ kvs, o ≠ .dK kvs) : p ≠ d := by
  obtain ⟨a, l, ns, h1, _⟩ := f
  exact ne_of h h1 (n _)
theorem Feed.nd {H : Hp} {d c p : Addr} {t : Int} (f : Feed H d c t) (h : H p = none) : p ≠ d := by
  obtain ⟨a, l, ns, h1, _⟩ := f
  exact (ne_of_none h1 h).symm
theorem Feed.nc {H : Hp} {d c p : Addr} {t : Int} (f : Feed H d c t) (h : H p = none) : p ≠ c := by
  obtain ⟨a, l, ns, _, h1, _⟩ := f
  exact (ne_of_none h1 h).symm
theorem Feed.new {H : Hp} {d c p : Addr} {t : Int} {o : HO} (f : Feed H d c t) (n : H p = none) : Feed (upd H p o) d c t := f.same (same_new n)
theorem keep_at {d c p : Addr} {H H' : Hp} {t : Int} {o : HO} (f : Feed H d c t) (k : Keep d H H') (h : H p = some o) (n : ∀ kvs, o ≠ .dK kvs) : H' p = some o := k p o (f.ne h n) h
theorem keep_new {d p : Addr} {H H' : Hp} {o : HO} (n : H p = none) (k : Keep d (upd H p o) H') : Keep d H H' := (Keep.of_same (same_new n)).trans k
theorem Keep.none {d c p : Addr} {t : Int} {H H' : Hp} (k : Keep d H H') (f : Feed H' d c t) (n : H' p = none) : H p = none := by
  match z : H p with
  | Option.none => rfl
  | some o =>
    have := k p o (f.nd n) z
    rw [n] at this
    cases this
/-- what was not there when k began may be written -/
theorem Keep.wr {d p : Addr} {H H' : Hp} {o : HO} (k : Keep d H H') (n : H p = Option.none) : Keep d H (L2.upd H' p o) := fun b x hb z => by
  rw [upd_ne (ne_of_none z n)]
  exact k b x hb z
theorem Keep.refl {d : Addr} {H : Hp} : Keep d H H := fun _ _ _ z => z
theorem sqT_keep {K : PySem.W.Frag} {H H' : Hp} {a d c : Addr} {t : Int} {xs : List V} (f : Feed H d c t) (e : Keep d H H') (h : SqT K H a xs) : SqT K H' a xs := by
  obtain ⟨x, l, ns, h1, _⟩ := f
  rcases h with (h | ⟨o, h⟩) | h
  · exact .inl (.inl (e _ _ (ne_of h h1 (by intro z; cases z)) h))
  · exact .inl (.inr ⟨o, e _ _ (ne_of h h1 (by intro z; cases z)) h⟩)
  · exact .inr h
theorem cut_ints (ns : List Int) (lo hi : Option Int) : ∃ ms : List Int, cutV (ns.map V.int) lo hi = ms.map V.int := by
  unfold cutV
  exact ⟨_, by rw [← List.map_drop, ← List.map_take]⟩
theorem dpAll_ints {K : PySem.W.Frag} {H : Hp} : ∀ ns : List Int, DpAll K H (ns.map V.int) (ns.map PyData.int)
  | [] => .nil
  | n :: r => .cons (.int n) (dpAll_ints r)
theorem canLay_ints : ∀ ns : List Int, PyData.canLayAll0 (ns.map PyData.int) = true
  | [] => rfl
  | n :: r => by
    show (PyData.canLay0 (.int n) && PyData.canLayAll0 (r.map PyData.int)) = true
    rw [canLay_ints r]
    rfl
theorem depth_ints : ∀ ns : List Int, PyData.depthAll (ns.map PyData.int) = 0
  | [] => rfl
  | n :: r => by
    show max (PyData.depth (.int n)) (PyData.depthAll (r.map PyData.int)) = 0
    rw [depth_ints r]
    rfl
theorem shaped_ints (ns : List Int) : SeqAt.shaped (.list (ns.map PyData.int)) = true := by
  unfold SeqAt.shaped
  have h1 : PyData.canLay0 (.list (ns.map PyData.int)) = true := by
    show PyData.canLayAll0 (ns.map PyData.int) = true
    exact canLay_ints ns
  have h2 : (PyData.list (ns.map PyData.int)).depth = 1 := by
    show PyData.depthAll (ns.map PyData.int) + 1 = 1
    rw [depth_ints]
  rw [h1, h2]
  rfl
theorem eqv_nil (ns : List Int) : PyData.eqv (.list (ns.map PyData.int)) (.list []) = ns.isEmpty := by
  cases ns with
  | nil => rfl
  | cons n r => rfl

section
variable {P : Program} {w : World} {K : PySem.W.Frag} {mg : Str → Option Value} {base : Heap}
def spFeed (K : PySem.W.Frag) : Sp := fun vs H Q _ => ∃ (a : Addr) (ns : List Int), vs = [.ref a] ∧ SqL K H a (ns.map V.int) ∧ ∀ d c H', Same H H' → Feed H' d c 0 → Q (.ref d) H'
theorem ok_feed {f : Addr} {fd : FuncData} {k : Nat} (F : Fun K "_law_feed" "_law_feed" s_feed f fd) (ml : mg "list" = none) : FnOk P w K mg base CX0 (k + 1) f fd ["_law_script"] (spFeed K) := by
  refine F.ok sc_feed (fun vs H Q E h => ?_) (fun cdv A outer s H vs Q E hr h => ?_)
  · obtain ⟨a, ns, rfl, _⟩ := h
    rfl
  · obtain ⟨a, ns, rfl, hS, q⟩ := h
    refine ⟨_, pss_one (ps_ret (pe_disp (pps_cons pe_str (pe_callTy call_list_of (by rfl) ml (by decide +kernel) (pa_cons (pe_slice sl_list (pv 0) po_none (po_some pe_int)) pa_nil))
      (pps_cons pe_str pe_int (pps_cons pe_str pe_int (pps_cons pe_str pe_int pps_nil)))) (by rfl) (by rfl) (fun z => by cases z) (by decide))), ?_⟩
    refine fun d nd => ?_
    have s1 : Same H (upd H d (.dK [])) := same_new nd
    obtain ⟨ms, em⟩ := cut_ints ns none (some 63)
    refine ⟨_, rfl, 63, rfl, a, ns.map V.int, rfl, s1.seq hS, fun x nx => ?_⟩
    have s2 := same_new (o := HO.lst (cutV (ns.map V.int) none (some 63))) nx
    refine ⟨x, _, rfl, .inl (SqL.of upd_same), fun c nc => ?_⟩
    have s3 := same_new (o := HO.lst (cutV (ns.map V.int) none (some 63))) nc
    refine ⟨?_, feedL c 0 0 0, rfl, by show 4 ≤ 15; decide, ?_⟩
    · exact s3 _ _ (s2 _ _ upd_same)
    · rw [feed_merge]
      have ncd : c ≠ d := fun z => by
        rw [z] at nc
        exact absurd nc (by rw [s2 _ _ upd_same]; exact fun z => nomatch z)
      refine q d c _ (fun b o z => ?_) ⟨0, 0, ms, upd_same, ?_, by decide⟩
      · have nb : b ≠ d := ne_of_none z nd
        rw [upd_ne nb]
        exact s3 _ _ (s2 _ _ (s1 _ _ z))
      · rw [upd_ne ncd, upd_same, em]
def spDraw : Sp := fun vs H Q _ => ∃ (d c : Addr) (many t : Int), vs = [.ref d, .int many] ∧ Feed H d c t ∧ t ≤ 1000000 ∧ 0 < many ∧ many < 1073741824 ∧
  ∀ r H', 0 ≤ r → r < many → Keep d H H' → Feed H' d c (t + 1) → Q (.int r) H'
theorem ok_draw {f : Addr} {fd : FuncData} {k : Nat} (F : Fun K "_law_draw" "_law_draw" s_draw f fd) (ml : mg "len" = none) : FnOk P w K mg base CX0 (k + 1) f fd ["_law_feed_here", "_law_size"] spDraw := by
  refine F.ok sc_draw (fun vs H Q E h => ?_) (fun cdv A outer s H vs Q E hr h => ?_)
  · obtain ⟨_, _, _, _, rfl, _⟩ := h
    rfl
  · obtain ⟨d, c, many, t, rfl, ⟨a, l, ns, hd, hc, ht0⟩, ht, hm0, hm1, q⟩ := h
    have hu := hu_of hr
    refine ⟨_, pss_cons (ps_set (i := 2) sc_draw.nd rfl (.inl rfl) (pe_op op_add (pe_dget hu (pv 0) pe_str (fun _ _ => rfl)) pe_int))
      (pss_cons (ps_dput hu (pv 0) pe_str (pv 2) rfl)
      (pss_cons (ps_if (pt_cmpR op_gt (pe_dget hu (pv 0) pe_str (fun _ _ => rfl)) pe_int (nomark _))
        (pss_cons (ps_set (i := 3) sc_draw.nd rfl (.inl rfl) (pe_op op_modN (pe_dget hu (pv 0) pe_str (fun _ _ => rfl)) (pv 1)))
        (pss_cons (ps_dput hu (pv 0) pe_str (pe_op op_fdiv (pe_dget hu (pv 0) pe_str (fun _ _ => rfl)) (pv 1)) rfl)
        (pss_one (ps_ret (pv 3))))) pss_nil)
      (pss_cons (ps_set (i := 4) sc_draw.nd rfl (.inl rfl) (pe_dget hu (pv 0) pe_str (fun _ _ => rfl)))
      (pss_cons (ps_dput hu (pv 0) pe_str (pe_op op_add (pv 4) pe_int) rfl)
      (pss_cons (ps_set (i := 5) sc_draw.nd rfl (.inl rfl) (pe_ifExp (pt_cmpR (op_neD hr.units) (pe_dget hu (pv 0) pe_str (fun _ _ => rfl)) (pe_lst pa_nil) (nomark _))
          (pe_ix ix_list (pe_dget hu (pv 0) pe_str (fun _ _ => rfl)) (pe_op op_modN (pv 4) (pe_callB call_len_seq (by rfl) ml PySem.boot_len (pa_cons (pe_dget hu (pv 0) pe_str (fun _ _ => rfl)) pa_nil))) (fun _ _ => rfl)) pe_int))
      (pss_cons (ps_if (PW.pt (pw_and (pt_cmpR op_ge (pv 5) (pe_op op_pow pe_int pe_int) (nomark _)) (pw_and1 (pt_cmpR op_lt (pv 4) (pe_callB call_len_seq (by rfl) ml PySem.boot_len (pa_cons (pe_dget hu (pv 0) pe_str (fun _ _ => rfl)) pa_nil)) (nomark _)))))
        (pss_cons (ps_dput hu (pv 0) pe_str (pe_op op_fdiv (pv 5) (pv 1)) rfl) (pss_one (ps_ret (pe_op op_modN (pv 5) (pv 1))))) pss_nil)
      (pss_cons (ps_set (i := 6) sc_draw.nd rfl (.inl rfl) (pe_op op_modN (pe_op op_pow (pe_op op_add (pe_op op_add (pe_op op_modN (pv 5) pe_int) (pe_op op_mul pe_int (pv 2))) pe_int) pe_int) pe_int))
      (pss_cons (ps_set (i := 6) sc_draw.nd rfl (.inl rfl) (pe_op op_modN (pe_op op_pow (pe_op op_add (pv 6) (pe_op op_mul pe_int (pv 2))) pe_int) pe_int))
      (pss_one (ps_ret (pe_op op_modN (pe_op op_fdiv (pv 6) pe_int) (pv 1)))))))))))), ?_⟩
    have ndc : c ≠ d := ne_of hc hd (by intro z; cases z)
    have mod_ok : ∀ x : Int, 0 ≤ x.fmod many ∧ x.fmod many < many := fun x => ⟨Int.fmod_nonneg_of_pos x hm0, Int.fmod_lt_of_pos x hm0⟩
    -- turn
    refine ⟨_, rfl, d, _, rfl, .inl ⟨_, .inr "turn", .inl hd, rfl, feed_turn c a l t⟩, t, 1, rfl, rfl, ?_⟩
    refine ⟨_, rfl, _, rfl, d, _, rfl, DPut.k (k := .inr "turn") hd (feed_len c a l t), ?_⟩
    rw [put_turn]
    -- left
    refine ⟨_, rfl, d, _, rfl, .inl ⟨_, .inr "left", .inl upd_same, rfl, feed_left c a l (t + 1)⟩, l, 0, rfl, rfl, _, rfl, ite2 (fun cl => ?_) (fun cl => ?_)⟩
    · refine ⟨_, rfl, d, _, rfl, .inl ⟨_, .inr "left", .inl upd_same, rfl, feed_left c a l (t + 1)⟩, _, rfl, l, many, rfl, rfl, Int.ne_of_gt hm0, ?_⟩
      refine ⟨_, rfl, d, _, rfl, .inl ⟨_, .inr "left", .inl upd_same, rfl, feed_left c a l (t + 1)⟩, _, rfl, l, many, rfl, rfl, ⟨hm0, hm1⟩, _, rfl, d, _, rfl, DPut.k (k := .inr "left") upd_same (feed_len c a l (t + 1)), ?_⟩
      rw [put_left, upd_upd]
      refine ⟨_, rfl, q _ _ (mod_ok l).1 (mod_ok l).2 Keep.upd ⟨a, _, ns, upd_same, ?_, by omega⟩⟩
      rw [upd_ne ndc]
      exact hc
    · refine ⟨_, rfl, d, _, rfl, .inl ⟨_, .inr "at", .inl upd_same, rfl, feed_at c a l (t + 1)⟩, ?_⟩
      refine ⟨_, rfl, a, 1, rfl, rfl, _, rfl, d, _, rfl, DPut.k (k := .inr "at") upd_same (feed_len c a l (t + 1)), ?_⟩
      rw [put_at, upd_upd]
      have hd2 : upd H d (.dK (feedL c (a + 1) l (t + 1))) d = some (.dK (feedL c (a + 1) l (t + 1))) := upd_same
      have hc2 : upd H d (.dK (feedL c (a + 1) l (t + 1))) c = some (.lst (ns.map V.int)) := by
        rw [upd_ne ndc]
        exact hc
      -- cells != []
      refine ⟨_, rfl, d, _, rfl, .inl ⟨_, .inr "cells", .inl upd_same, rfl, feed_cells c (a + 1) l (t + 1)⟩, Nat.zero_le _, fun e ne => ?_⟩
      have s1 := same_new (o := HO.lst []) ne
      have hc3 := s1 _ _ hc2
      have hd3 := s1 _ _ hd2
      have k3 : Keep d H (upd (upd H d (.dK (feedL c (a + 1) l (t + 1)))) e (.lst [])) := Keep.upd.trans (Keep.of_same s1)
      refine ⟨.list (ns.map PyData.int), .list [], .lst (SqL.of hc3) (dpAll_ints ns), .lst (SqL.of upd_same) .nil, shaped_ints ns, rfl, _, rfl, ?_⟩
      rw [eqv_nil]
      -- behind the cell
      have rest : ∀ cell : Int, tSeq (tIfS (tAnd (tTest (tOp (rI0 fun i j => .bl (decide (j ≤ i))) (tVar 5) (tOp (rI CPow fun i j => .int (i ^ j.toNat)) (tC (.int 10)) (tC (.int 18))))) (tTest (tOp (rI0 fun i j => .bl (decide (i < j))) (tVar 4) (tCB (fun xs H Q => ∃ p ys, xs = [.ref p] ∧ (SqL K H p ys ∨ SqT K H p ys) ∧ Q (.int ys.length) H) (tCons (tDGet (tVar 0) (tC (.str "cells"))) tNil)))))
          (tSeq (sDPut (tVar 0) (tC (.str "left")) (tOp (rI CDiv fun i j => .int (i / j)) (tVar 5) (tVar 1))) (tRet (tOp (rI (fun _ j => j ≠ 0) fun i j => .int (i.fmod j)) (tVar 5) (tVar 1)))) tNext)
          (tSeq (tAsg (tOp (rI (fun _ j => j ≠ 0) fun i j => .int (i.fmod j)) (tOp (rI CPow fun i j => .int (i ^ j.toNat)) (tOp (rI0 fun i j => .int (i + j)) (tOp (rI0 fun i j => .int (i + j)) (tOp (rI (fun _ j => j ≠ 0) fun i j => .int (i.fmod j)) (tVar 5) (tC (.int 999983))) (tOp (rI CMul fun i j => .int (i * j)) (tC (.int 40009)) (tVar 2))) (tC (.int 11))) (tC (.int 5))) (tC (.int 2147483647))) (gName 6))
          (tSeq (tAsg (tOp (rI (fun _ j => j ≠ 0) fun i j => .int (i.fmod j)) (tOp (rI CPow fun i j => .int (i ^ j.toNat)) (tOp (rI0 fun i j => .int (i + j)) (tVar 6) (tOp (rI CMul fun i j => .int (i * j)) (tC (.int 99991)) (tVar 2))) (tC (.int 5))) (tC (.int 2147483587))) (gName 6))
          (tRet (tOp (rI (fun _ j => j ≠ 0) fun i j => .int (i.fmod j)) (tOp (rI CDiv fun i j => .int (i / j)) (tVar 6) (tC (.int 16))) (tVar 1)))))
          { nx := fun _ H' => Q .non H', rt := Q } [some (.ref d), some (.int many), some (.int (t + 1)), none, some (.int a), some (.int cell), none] (upd (upd H d (.dK (feedL c (a + 1) l (t + 1)))) e (.lst [])) := by
        intro cell
        have fin : tSeq (tAsg (tOp (rI (fun _ j => j ≠ 0) fun i j => .int (i.fmod j)) (tOp (rI CPow fun i j => .int (i ^ j.toNat)) (tOp (rI0 fun i j => .int (i + j)) (tOp (rI0 fun i j => .int (i + j)) (tOp (rI (fun _ j => j ≠ 0) fun i j => .int (i.fmod j)) (tVar 5) (tC (.int 999983))) (tOp (rI CMul fun i j => .int (i * j)) (tC (.int 40009)) (tVar 2))) (tC (.int 11))) (tC (.int 5))) (tC (.int 2147483647))) (gName 6))
          (tSeq (tAsg (tOp (rI (fun _ j => j ≠ 0) fun i j => .int (i.fmod j)) (tOp (rI CPow fun i j => .int (i ^ j.toNat)) (tOp (rI0 fun i j => .int (i + j)) (tVar 6) (tOp (rI CMul fun i j => .int (i * j)) (tC (.int 99991)) (tVar 2))) (tC (.int 5))) (tC (.int 2147483587))) (gName 6))
          (tRet (tOp (rI (fun _ j => j ≠ 0) fun i j => .int (i.fmod j)) (tOp (rI CDiv fun i j => .int (i / j)) (tVar 6) (tC (.int 16))) (tVar 1))))
          { nx := fun _ H' => Q .non H', rt := Q } [some (.ref d), some (.int many), some (.int (t + 1)), none, some (.int a), some (.int cell), none] (upd (upd H d (.dK (feedL c (a + 1) l (t + 1)))) e (.lst [])) := by
          have hm : 0 ≤ cell.fmod 999983 ∧ cell.fmod 999983 < 999983 := ⟨Int.fmod_nonneg_of_pos _ (by decide), Int.fmod_lt_of_pos _ (by decide)⟩
          have e64 : (2 : Nat) ^ 64 = 18446744073709551616 := by decide
          refine ⟨_, rfl, cell, 999983, rfl, rfl, by show (999983 : Int) ≠ 0; decide, _, rfl, 40009, t + 1, rfl, rfl, .inl ⟨by decide, by decide⟩, _, _, rfl, rfl, _, 11, rfl, rfl, _, 5, rfl, rfl, ⟨by decide, by decide, ?_⟩, _, 2147483647, rfl, rfl, by show (2147483647 : Int) ≠ 0; decide, ?_⟩
          · rw [e64]
            omega
          · generalize hx : (cell.fmod 999983 + 40009 * (t + 1) + 11) ^ (5 : Int).toNat = x
            have hm2 : 0 ≤ x.fmod 2147483647 ∧ x.fmod 2147483647 < 2147483647 := ⟨Int.fmod_nonneg_of_pos _ (by decide), Int.fmod_lt_of_pos _ (by decide)⟩
            refine ⟨_, rfl, _, rfl, 99991, t + 1, rfl, rfl, .inl ⟨by decide, by decide⟩, _, _, rfl, rfl, _, 5, rfl, rfl, ⟨by decide, by decide, ?_⟩, _, 2147483587, rfl, rfl, by show (2147483587 : Int) ≠ 0; decide, ?_⟩
            · rw [e64]
              omega
            · refine ⟨_, rfl, _, 16, rfl, rfl, ⟨by decide, by decide⟩, _, rfl, _, many, rfl, rfl, Int.ne_of_gt hm0, ?_⟩
              exact q _ _ (mod_ok _).1 (mod_ok _).2 k3 ⟨a + 1, l, ns, hd3, hc3, by omega⟩
        refine ⟨_, rfl, 10, 18, rfl, rfl, ⟨by decide, by decide, by decide⟩, cell, _, rfl, rfl, _, rfl, ite2 (fun c1 => ?_) (fun c1 => iteF fin)⟩
        refine ⟨_, rfl, _, rfl, d, _, rfl, .inl ⟨_, .inr "cells", .inl hd3, rfl, feed_cells c (a + 1) l (t + 1)⟩, c, _, rfl, .inl (SqL.of hc3), a, _, rfl, rfl, _, rfl, ite2 (fun c2 => ?_) (fun c2 => fin)⟩
        refine ⟨_, rfl, _, rfl, cell, many, rfl, rfl, ⟨hm0, hm1⟩, _, rfl, d, _, rfl, DPut.k (k := .inr "left") hd3 (feed_len c (a + 1) l (t + 1)), ?_⟩
        rw [put_left]
        refine ⟨_, rfl, _, rfl, cell, many, rfl, rfl, Int.ne_of_gt hm0, q _ _ (mod_ok cell).1 (mod_ok cell).2 (k3.trans Keep.upd) ⟨a + 1, _, ns, upd_same, ?_, by omega⟩⟩
        rw [upd_ne ndc]
        exact hc3
      cases ns with
      | nil => exact iteF (rest 5)
      | cons n r =>
        refine iteT ?_
        have hlen : (0 : Int) < (((n :: r).map V.int).length : Nat) := by simp
        have h1 : 0 ≤ a.fmod ((((n :: r).map V.int).length : Nat) : Int) := Int.fmod_nonneg_of_pos _ hlen
        have h2 : a.fmod ((((n :: r).map V.int).length : Nat) : Int) < ((((n :: r).map V.int).length : Nat) : Int) := Int.fmod_lt_of_pos _ hlen
        have h3 : (a.fmod ((((n :: r).map V.int).length : Nat) : Int)).toNat < ((n :: r).map V.int).length := by omega
        have h4 : ∃ x, ((n :: r).map V.int)[(a.fmod ((((n :: r).map V.int).length : Nat) : Int)).toNat]? = some (.int x) := by
          rw [List.getElem?_map]
          rw [List.length_map] at h3
          rw [List.length_map, List.getElem?_eq_getElem h3]
          exact ⟨_, rfl⟩
        obtain ⟨x, hx⟩ := h4
        refine ⟨_, rfl, d, _, rfl, .inl ⟨_, .inr "cells", .inl hd3, rfl, feed_cells c (a + 1) l (t + 1)⟩, _, rfl, _, rfl, d, _, rfl, .inl ⟨_, .inr "cells", .inl hd3, rfl, feed_cells c (a + 1) l (t + 1)⟩, c, _, rfl, .inl (SqL.of hc3), a, _, rfl, rfl, Int.ne_of_gt hlen, c, _, _, _, rfl, rfl, SqL.of hc3, at_of (Int.toNat_of_nonneg h1).symm hx, rest x⟩
end

end Fp

set_option Elab.async false
set_option linter.all false
set_option maxRecDepth 100000
set_option maxHeartbeats 4000000
set_option exponentiation.threshold 10000
namespace Fp
open PySem PySem.Spec PyProof.Rows L2
section
variable {P : Program} {w : World} {K : PySem.W.Frag} {mg : Str → Option Value} {base : Heap}
/-! ### lowest terms by the law's own division -/
def spLow : Sp := fun vs H Q _ => ∃ t b : Int, vs = [.int t, .int b] ∧ 0 < b ∧ Sm 8000 b ∧ ∀ p, H p = none → Q (.ref p) (upd H p (.tup [.int (ratT t b), .int (ratB t b)]))
/-- what comes of lowest terms is no greater -/
theorem fdiv_le {x g : Int} (hg : 0 < g) (hd : g ∣ x) : (x.fdiv g).natAbs ≤ x.natAbs := by
  obtain ⟨y, rfl⟩ := hd
  rw [Int.mul_fdiv_cancel_left y (Int.ne_of_gt hg), Int.natAbs_mul]
  have : 1 ≤ g.natAbs := by omega
  exact Nat.le_mul_of_pos_left _ this
theorem ratG_pos {t b : Int} (hb : 0 < b) : 0 < ratG t b ∧ ratG t b ∣ t ∧ ratG t b ∣ b := by
  have e : ratG t b = ((Int.gcd t b : Nat) : Int) := by
    unfold ratG
    rw [if_neg (by omega)]
  rw [e]
  have := (gcd_le (t := t) (Int.ne_of_gt hb)).1
  exact ⟨by omega, Int.gcd_dvd_left .., Int.gcd_dvd_right ..⟩
theorem ratT_sm {t b : Int} {n : Nat} (hb : 0 < b) (h : Sm n t) : Sm n (ratT t b) := by
  obtain ⟨h1, h2, _⟩ := ratG_pos (t := t) hb
  exact Nat.lt_of_le_of_lt (fdiv_le h1 h2) h
theorem ratB_sm {t b : Int} {n : Nat} (hb : 0 < b) (h : Sm n b) : Sm n (ratB t b) := by
  obtain ⟨h1, _, h2⟩ := ratG_pos (t := t) hb
  exact Nat.lt_of_le_of_lt (fdiv_le h1 h2) h
theorem ratB_pos {t b : Int} (hb : 0 < b) : 0 < ratB t b := by
  obtain ⟨h1, _, y, hy⟩ := ratG_pos (t := t) hb
  unfold ratB
  have e : b.fdiv (ratG t b) = y := by
    have := Int.mul_fdiv_cancel_left y (Int.ne_of_gt h1)
    rw [← hy] at this
    exact this
  rw [e]
  rcases Int.lt_trichotomy y 0 with z | z | z
  · have := Int.mul_neg_of_pos_of_neg h1 z
    omega
  · rw [z, Int.mul_zero] at hy
    omega
  · exact z
end

end Fp

set_option Elab.async false
set_option linter.all false
set_option maxRecDepth 100000
set_option maxHeartbeats 4000000
set_option exponentiation.threshold 10000
namespace Fp
open PySem PySem.Spec PyProof.Rows L2
abbrev s_lowest : Stmt := topS 43
theorem sc_lowest : FnScope ["_law_top", "_law_bottom", "_law_one", "_law_other"] ["_law_top", "_law_bottom"] (defScope s_lowest) := ⟨rfl, rfl, rfl, by decide +kernel, rfl, by decide +kernel, by decide +kernel⟩
section
variable {P : Program} {w : World} {K : PySem.W.Frag} {mg : Str → Option Value} {base : Heap}
/-! ### lowest terms by the law's own division -/
theorem ok_lowest {f : Addr} {fd : FuncData} {k : Nat} (F : Fun K "_law_lowest" "_law_lowest" s_lowest f fd) (ma : mg "abs" = none) : FnOk P w K mg base CX0 (k + 1) f fd ["_law_top", "_law_bottom"] spLow := by
  refine F.ok sc_lowest (fun vs H Q E h => ?_) (fun cdv A outer s H vs Q E hr h => ?_)
  · obtain ⟨a, b, rfl, _⟩ := h
    rfl
  · obtain ⟨a, b, rfl, hb, sb, q⟩ := h
    refine ⟨_, pss_cons (ps_par (i := 2) (j := 3) rfl sc_lowest.nd rfl rfl (by decide) rfl rfl (pa_cons (pe_callB call_abs (by rfl) ma (by decide +kernel) (pa_cons (pv 0) pa_nil)) (pa_cons (pv 1) pa_nil)) (by rfl))
      (pss_cons (ps_while PassesOwn.never (pt_cmpR op_gt (pv 3) pe_int (nomark _)) (pss_one (ps_par (i := 2) (j := 3) rfl sc_lowest.nd rfl rfl (by decide) rfl rfl (pa_cons (pv 3) (pa_cons (pe_op op_modN (pv 2) (pv 3)) pa_nil)) (by rfl))))
      (pss_one (ps_ret (pe_tup (pa_cons (pe_op op_fdivA (pv 0) (pv 2)) (pa_cons (pe_op op_fdivA (pv 1) (pv 2)) pa_nil)))))), ?_⟩
    refine ⟨_, rfl, a, rfl, _, rfl, _, _, rfl, ?_⟩
    refine while_by (fun σ H1 => H1 = H ∧ ∃ g s : Int, σ = [some (.int a), some (.int b), some (.int g), some (.int s)] ∧ 0 ≤ g ∧ 0 ≤ s ∧ Int.gcd g s = Int.gcd a b)
      (fun σ _ => match σ with | [_, _, _, some (.int s)] => s.toNat | _ => 0) ?_ ?_ ?_
    · refine ⟨rfl, _, _, rfl, ?_, Int.le_of_lt hb, ?_⟩
      · rw [abs_if]; omega
      · rw [abs_if]
        show Nat.gcd _ _ = Nat.gcd _ _
        rw [Int.natAbs_natCast]
    · rintro σ H1 ⟨rfl, g, s, rfl, hg, hs, e⟩
      refine ⟨_, rfl, s, 0, rfl, rfl, _, rfl, ite2 (fun c => ?_) (fun c => ?_)⟩
      · have hp : 0 < s := of_decide_eq_true c
        have lt : s > g.fmod s := Int.fmod_lt_of_pos g hp
        have nn : 0 ≤ g.fmod s := Int.fmod_nonneg_of_pos g hp
        refine ⟨_, rfl, _, rfl, _, rfl, g, s, rfl, rfl, Int.ne_of_gt hp, _, _, rfl, ⟨rfl, s, g.fmod s, rfl, hs, nn, ?_⟩, ?_⟩
        · rw [gcd_turn hp hg]; exact e
        · show (g.fmod s).toNat < s.toNat
          omega
      · have hs0 : s = 0 := by
          have : ¬ 0 < s := fun z => c (decide_eq_true z)
          omega
        subst hs0
        have eg : g = ratG a b := by
          unfold ratG
          rw [if_neg (by omega), ← e, Int.gcd_zero_right]
          omega
        obtain ⟨c1, c2⟩ := ratG_ok (t := a) (Int.ne_of_gt hb) sb (by decide) (by decide)
        rw [eg]
        exact ⟨_, rfl, _, rfl, a, _, rfl, rfl, c1, _, rfl, _, rfl, b, _, rfl, rfl, c2, by show 2 ≤ sizeLine; decide, q⟩
    · intro σ H1 Q1 Q2 hq h
      obtain ⟨v, e1, i, j, e2, e3, k, e4, h⟩ := h
      exact ⟨v, e1, i, j, e2, e3, k, e4, hq _ _ h⟩
end

end Fp

set_option Elab.async false
set_option linter.all false
set_option maxRecDepth 100000
set_option maxHeartbeats 4000000
set_option exponentiation.threshold 10000
namespace Fp
open PySem PySem.Spec PyProof.Rows L2
section
variable {P : Program} {w : World} {K : PySem.W.Frag} {mg : Str → Option Value} {base : Heap}
end

end Fp

set_option Elab.async false
set_option linter.all false
set_option maxRecDepth 100000
set_option maxHeartbeats 4000000
set_option exponentiation.threshold 10000
namespace Fp
open PySem PySem.Spec PyProof.Rows L2
section
variable {P : Program} {w : World} {K : PySem.W.Frag} {mg : Str → Option Value} {base : Heap}
end

end Fp

set_option Elab.async false
set_option linter.all false
set_option maxRecDepth 100000
set_option maxHeartbeats 4000000
set_option exponentiation.threshold 10000
namespace Fp
open PySem PySem.Spec PyProof.Rows L2
theorem tC_go {v : V} {σ : L2.St} {H : Hp} {Q : VK} (h : Q v H) : tC v σ H Q := h
theorem tYes_go {σ : L2.St} {H : Hp} {Q : Bool → Hp → Prop} (h : Q true H) : tYes σ H Q := h
/-! ### lives as they stand in the heap -/
abbrev RT := Int × Int
def RAt (K : PySem.W.Frag) (H : Hp) (p : Addr) (x : RT) : Prop := SqT K H p [.int x.1, .int x.2]
inductive RsAt (K : PySem.W.Frag) (H : Hp) : List Addr → List RT → Prop
  | nil : RsAt K H [] []
  | cons {p : Addr} {x : RT} {ps : List Addr} {xs : List RT} : RAt K H p x → RsAt K H ps xs → RsAt K H (p :: ps) (x :: xs)
def RowAt (K : PySem.W.Frag) (H : Hp) (p : Addr) (xs : List RT) : Prop := ∃ rs : List Addr, SqT K H p (rs.map V.ref) ∧ RsAt K H rs xs
def LifeAt (K : PySem.W.Frag) (H : Hp) (p : Addr) (row : List RT) (step : RT) : Prop := ∃ pr ps : Addr, SqT K H p [.ref pr, .ref ps] ∧ RowAt K H pr row ∧ RAt K H ps step
/-- tuples stay -/
def Tk (K : PySem.W.Frag) (H H' : Hp) : Prop := ∀ a xs, SqT K H a xs → SqT K H' a xs
section
variable {K : PySem.W.Frag} {H H' H2 : Hp}
theorem Tk.refl : Tk K H H := fun _ _ h => h
theorem Tk.trans (a : Tk K H H') (b : Tk K H' H2) : Tk K H H2 := fun p xs h => b p xs (a p xs h)
theorem Tk.same (e : Same H H') : Tk K H H' := fun _ _ h => sqT_same e h
theorem Tk.new {p : Addr} {o : HO} (n : H p = none) : Tk K H (upd H p o) := Tk.same (same_new n)
theorem Tk.keep {d c : Addr} {t : Int} (f : Feed H d c t) (e : Keep d H H') : Tk K H H' := fun _ _ h => sqT_keep f e h
theorem RAt.tk {p : Addr} {x : RT} (h : RAt K H p x) (e : Tk K H H') : RAt K H' p x := e _ _ h
theorem RsAt.tk : ∀ {ps : List Addr} {xs : List RT}, RsAt K H ps xs → Tk K H H' → RsAt K H' ps xs
  | _, _, .nil, _ => .nil
  | _, _, .cons h r, e => .cons (h.tk e) (r.tk e)
theorem RowAt.tk {p : Addr} {xs : List RT} (h : RowAt K H p xs) (e : Tk K H H') : RowAt K H' p xs := by
  obtain ⟨rs, h1, h2⟩ := h
  exact ⟨rs, e _ _ h1, h2.tk e⟩
theorem LifeAt.tk {p : Addr} {row : List RT} {step : RT} (h : LifeAt K H p row step) (e : Tk K H H') : LifeAt K H' p row step := by
  obtain ⟨pr, ps, h1, h2, h3⟩ := h
  exact ⟨pr, ps, e _ _ h1, h2.tk e, h3.tk e⟩
theorem RsAt.length : ∀ {ps : List Addr} {xs : List RT}, RsAt K H ps xs → ps.length = xs.length
  | _, _, .nil => rfl
  | _, _, .cons _ r => congrArg (· + 1) r.length
theorem RsAt.get : ∀ {ps : List Addr} {xs : List RT} {i : Nat} {x : RT}, RsAt K H ps xs → xs[i]? = some x → ∃ p, ps[i]? = some p ∧ RAt K H p x
  | _, _, _, _, .nil, e => by simp at e
  | _, _, 0, _, .cons h _, e => by
    cases Option.some.inj e
    exact ⟨_, rfl, h⟩
  | _, _, i + 1, x, .cons _ r, e => RsAt.get (i := i) (x := x) r e
theorem RsAt.append : ∀ {ps qs : List Addr} {xs ys : List RT}, RsAt K H ps xs → RsAt K H qs ys → RsAt K H (ps ++ qs) (xs ++ ys)
  | _, _, _, _, .nil, s => s
  | _, _, _, _, .cons h r, s => .cons h (r.append s)
theorem RsAt.take : ∀ {ps : List Addr} {xs : List RT} (n : Nat), RsAt K H ps xs → RsAt K H (ps.take n) (xs.take n)
  | _, _, 0, _ => .nil
  | _, _, _ + 1, .nil => .nil
  | _, _, n + 1, .cons h r => .cons h (r.take n)
theorem RsAt.drop : ∀ {ps : List Addr} {xs : List RT} (n : Nat), RsAt K H ps xs → RsAt K H (ps.drop n) (xs.drop n)
  | _, _, 0, r => r
  | _, _, _ + 1, .nil => .nil
  | _, _, n + 1, .cons _ r => RsAt.drop n r
end
/-! ### lowest terms -/
def low2 (t b : Int) : RT := (ratT t b, ratB t b)
/-- a ratio in lowest terms -/
def Red (x : RT) : Prop := 0 < x.2 ∧ Int.gcd x.1 x.2 = 1
theorem low2_red {t b : Int} (hb : b ≠ 0) : Red (low2 t b) := by
  have main : ∀ (t b : Int), 0 < b → Red (low2 t b) := fun t b hb => by
    refine ⟨ratB_pos hb, ?_⟩
    have e : ratG t b = ((Int.gcd t b : Nat) : Int) := by
      unfold ratG
      rw [if_neg (by omega)]
    have hg := (gcd_le (t := t) (Int.ne_of_gt hb)).1
    obtain ⟨h1, ⟨x, hx⟩, ⟨y, hy⟩⟩ := ratG_pos (t := t) hb
    have ex : t.fdiv (ratG t b) = x := by
      have := Int.mul_fdiv_cancel_left x (Int.ne_of_gt h1)
      rw [← hx] at this
      exact this
    have ey : b.fdiv (ratG t b) = y := by
      have := Int.mul_fdiv_cancel_left y (Int.ne_of_gt h1)
      rw [← hy] at this
      exact this
    show Int.gcd (t.fdiv (ratG t b)) (b.fdiv (ratG t b)) = 1
    rw [ex, ey]
    have z : Int.gcd t b = (ratG t b).natAbs * Int.gcd x y := by
      have := Int.gcd_mul_left (ratG t b) x y
      rw [← hx, ← hy] at this
      exact this
    have z2 : (ratG t b).natAbs = Int.gcd t b := by rw [e]; exact Int.natAbs_natCast _
    rw [z2] at z
    exact (Nat.eq_of_mul_eq_mul_left hg (by rw [Nat.mul_one]; exact z)).symm
  rcases (by omega : 0 < b ∨ b < 0) with z | z
  · exact main t b z
  · have e1 : ratG t b = -((Int.gcd t b : Nat) : Int) := by unfold ratG; rw [if_pos z]
    have e2 : ratG (-t) (-b) = ((Int.gcd t b : Nat) : Int) := by
      unfold ratG
      rw [if_neg (by omega)]
      show ((Nat.gcd _ _ : Nat) : Int) = ((Nat.gcd _ _ : Nat) : Int)
      rw [Int.natAbs_neg, Int.natAbs_neg]
    have fl : ∀ x g : Int, x.fdiv (-g) = (-x).fdiv g := fun x g => by
      have y := Int.neg_fdiv_neg (-x) g
      rw [Int.neg_neg] at y
      exact y
    have e : low2 t b = low2 (-t) (-b) := by
      unfold low2 ratT ratB
      rw [e1, e2, fl, fl]
    rw [e]
    exact main _ _ (by omega)
/-- the value of it: a by b, told crosswise -/
theorem low2_cross {t b : Int} (hb : 0 < b) : (low2 t b).1 * b = t * (low2 t b).2 := by
  obtain ⟨h1, ⟨x, hx⟩, ⟨y, hy⟩⟩ := ratG_pos (t := t) hb
  have ex : (low2 t b).1 = x := by
    show t.fdiv (ratG t b) = x
    have := Int.mul_fdiv_cancel_left x (Int.ne_of_gt h1)
    rw [← hx] at this
    exact this
  have ey : (low2 t b).2 = y := by
    show b.fdiv (ratG t b) = y
    have := Int.mul_fdiv_cancel_left y (Int.ne_of_gt h1)
    rw [← hy] at this
    exact this
  rw [ex, ey]
  generalize ratG t b = g at hx hy
  subst hx hy
  rw [Int.mul_comm g y, Int.mul_comm g x, Int.mul_assoc x g y, Int.mul_comm g y, ← Int.mul_assoc]
theorem dvd_cop {b a d : Int} (h : b ∣ a * d) (g : Int.gcd b a = 1) : b ∣ d := by
  rw [← Int.natAbs_dvd_natAbs] at h ⊢
  rw [Int.natAbs_mul] at h
  exact Nat.Coprime.dvd_of_dvd_mul_left g h
/-- two ratios in lowest terms of one value are one -/
theorem red_eq {x y : RT} (hx : Red x) (hy : Red y) (h : x.1 * y.2 = y.1 * x.2) : x = y := by
  obtain ⟨a, b⟩ := x
  obtain ⟨c, d⟩ := y
  obtain ⟨hb, g1⟩ := hx
  obtain ⟨hd, g2⟩ := hy
  dsimp only at *
  have b_d : b ∣ d := by
    have h1 : b ∣ a * d := ⟨c, by rw [h, Int.mul_comm]⟩
    exact dvd_cop h1 (by rw [Int.gcd_comm]; exact g1)
  have d_b : d ∣ b := by
    have h1 : d ∣ c * b := ⟨a, by rw [← h, Int.mul_comm]⟩
    exact dvd_cop h1 (by rw [Int.gcd_comm]; exact g2)
  have e : b = d := Int.dvd_antisymm (Int.le_of_lt hb) (Int.le_of_lt hd) b_d d_b
  subst e
  have e2 : a = c := Int.eq_of_mul_eq_mul_right (Int.ne_of_gt hb) h
  rw [e2]
def rT (x y : RT) : RT := low2 (x.1 * y.1) (x.2 * y.2)
/-! ### drawn lives -/
def lastW (ws : List Int) : Int := ws.getLastD 0
def wholeOf (ws : List Int) (extra : Int) (step : RT) : Int := (step.2 - step.1) * (ws.sum + extra) + step.1 * lastW ws
def rowOf (ws : List Int) (extra : Int) (step : RT) : List RT := ws.map fun x => low2 ((step.2 - step.1) * x) (wholeOf ws extra step)
structure Made (ws : List Int) (extra : Int) (step : RT) : Prop where
  ne : ws ≠ []
  len : ws.length ≤ 6
  nn : ∀ x ∈ ws, 0 ≤ x ∧ x ≤ 5
  last : 0 < lastW ws
  ex : 0 ≤ extra ∧ extra ≤ 8
  st : step = (0, 1) ∨ step = (1, 2) ∨ step = (1, 3) ∨ step = (2, 3) ∨ step = (3, 4)
theorem sum_bound : ∀ {ws : List Int}, (∀ x ∈ ws, 0 ≤ x ∧ x ≤ 5) → 0 ≤ ws.sum ∧ ws.sum ≤ 5 * (ws.length : Int)
  | [], _ => ⟨by decide, by decide⟩
  | x :: r, h => by
    have h1 := h x (List.mem_cons_self ..)
    have h2 := sum_bound fun y hy => h y (List.mem_cons_of_mem _ hy)
    rw [List.sum_cons, List.length_cons]
    omega
theorem last_le_sum : ∀ {ws : List Int}, (∀ x ∈ ws, 0 ≤ x ∧ x ≤ 5) → lastW ws ≤ ws.sum
  | [], _ => by decide
  | [x], h => by
    show x ≤ _
    rw [List.sum_cons, List.sum_nil]
    omega
  | x :: y :: r, h => by
    have h1 := h x (List.mem_cons_self ..)
    have h2 := last_le_sum (ws := y :: r) fun z hz => h z (List.mem_cons_of_mem _ hz)
    have e : lastW (x :: y :: r) = lastW (y :: r) := by
      unfold lastW
      rw [List.getLastD_cons, List.getLastD_cons]
      show _ = (y :: r).getLastD 0
      rw [List.getLastD_cons]
    rw [e, List.sum_cons]
    omega
theorem Made.step_ok {ws : List Int} {extra : Int} {step : RT} (m : Made ws extra step) : 0 ≤ step.1 ∧ step.1 < step.2 ∧ step.2 ≤ 4 ∧ Red step := by
  rcases m.st with rfl | rfl | rfl | rfl | rfl <;> exact ⟨by decide, by decide, by decide, by decide, by decide⟩
theorem Made.whole {ws : List Int} {extra : Int} {step : RT} (m : Made ws extra step) : 0 < wholeOf ws extra step ∧ wholeOf ws extra step ≤ 200 := by
  have h1 := sum_bound m.nn
  have h2 := last_le_sum m.nn
  have h3 := m.last
  have h4 := m.ex
  have h5 := m.len
  unfold wholeOf
  generalize ws.sum = S at *
  generalize lastW ws = L at *
  rcases m.st with rfl | rfl | rfl | rfl | rfl <;> dsimp only <;> omega

end Fp

set_option Elab.async false
set_option linter.all false
set_option maxRecDepth 100000
set_option maxHeartbeats 4000000
set_option exponentiation.threshold 10000
namespace Fp
open PySem PySem.Spec PyProof.Rows L2
abbrev N_life : List Str := ["_law_feed_here", "_law_way", "_law_many", "_law_part", "_law_weights", "_law_top", "_law_bottom", "_law_extra", "_law_whole", "_law_k", "_law_weight"]
theorem pick4 {a b c d : V} {r : Int} (h0 : 0 ≤ r) (h1 : r < 4) : ∃ v, atI [a, b, c, d] r = some v ∧ (v = a ∨ v = b ∨ v = c ∨ v = d) := by
  rcases (by omega : r = 0 ∨ r = 1 ∨ r = 2 ∨ r = 3) with rfl | rfl | rfl | rfl
  · exact ⟨a, atI_nat (j := 0) rfl, .inl rfl⟩
  · exact ⟨b, atI_nat (j := 1) rfl, .inr (.inl rfl)⟩
  · exact ⟨c, atI_nat (j := 2) rfl, .inr (.inr (.inl rfl))⟩
  · exact ⟨d, atI_nat (j := 3) rfl, .inr (.inr (.inr rfl))⟩
theorem pick2' {a b : V} {r : Int} (h0 : 0 ≤ r) (h1 : r < 2) : ∃ v, atI [a, b] r = some v ∧ (v = a ∨ v = b) := by
  rcases (by omega : r = 0 ∨ r = 1) with rfl | rfl
  · exact ⟨a, atI_nat (j := 0) rfl, .inl rfl⟩
  · exact ⟨b, atI_nat (j := 1) rfl, .inr rfl⟩
theorem tk_lst {K : PySem.W.Frag} {H : Hp} {p : Addr} {xs ys : List V} (h : H p = some (.lst xs)) : Tk K H (upd H p (.lst ys)) := fun a zs z => by
  rcases z with (z | ⟨o, z⟩) | z
  · exact .inl (.inl (by rw [upd_ne (ne_of z h (by intro y; cases y))]; exact z))
  · exact .inl (.inr ⟨o, by rw [upd_ne (ne_of z h (by intro y; cases y))]; exact z⟩)
  · exact .inr z
theorem last_set {ws : List Int} (h : ws ≠ []) (x : Int) : lastW (ws.set (ws.length - 1) x) = x := by
  unfold lastW
  rw [List.getLastD_eq_getLast?, List.getLast?_eq_getElem?, List.length_set, List.getElem?_set_self (by
    have := List.length_pos_iff.mpr h
    omega)]
  rfl
theorem last_get {ws : List Int} (h : ws ≠ []) : ws[ws.length - 1]? = some (lastW ws) := by
  unfold lastW
  rw [List.getLastD_eq_getLast?, List.getLast?_eq_getElem?]
  have := List.length_pos_iff.mpr h
  rw [List.getElem?_eq_getElem (by omega)]
  rfl
theorem atI_lastW {ws : List Int} (h : ws ≠ []) : atI (ws.map V.int) (-1) = some (.int (lastW ws)) := by
  have e : ws.map V.int = ws.dropLast.map V.int ++ [V.int (ws.getLast h)] := by
    rw [← List.map_singleton, ← List.map_append, List.dropLast_concat_getLast]
  rw [e, atI_last]
  unfold lastW
  rw [List.getLastD_eq_getLast?, List.getLast?_eq_some_getLast h]
  rfl
section
variable {P : Program} {w : World} {K : PySem.W.Frag} {mg : Str → Option Value} {base : Heap}
def spLife (K : PySem.W.Frag) : Sp := fun vs H Q _ => ∃ (d c : Addr) (way t : Int), vs = [.ref d, .int way] ∧ Feed H d c t ∧ t ≤ 900000 ∧
  ∀ p ws extra step t' H', Keep d H H' → Feed H' d c t' → t' ≤ t + 12 → Made ws extra step → (way ≠ 2 → way ≠ 4 → extra = 0) → (way = 2 ∨ way = 4 → 0 < extra) → (way ≠ 3 → way ≠ 4 → step = (0, 1)) → LifeAt K H' p (rowOf ws extra step) step → Q (.ref p) H'
theorem draws_row {K : PySem.W.Frag} {H : Hp} {rs : List Addr} {xs : List RT} {p : Addr} {x : RT} (h : RsAt K H rs xs) (e : RAt K H p x) : RsAt K H (rs ++ [p]) (xs ++ [x]) := h.append (.cons e .nil)
theorem in_two {a b x : Int} : inV (.int x) [.int a, .int b] = (decide (x = a) || decide (x = b)) := by
  have e : ∀ y : Int, eqV (.int y) (.int x) = decide (x = y) := fun y => by
    show (y == x) = _
    rw [Bool.eq_iff_iff]
    simp
    exact ⟨fun z => z.symm, fun z => z.symm⟩
  unfold inV
  rw [List.any_cons, List.any_cons, List.any_nil, e, e, Bool.or_false]
theorem map_last {ws : List Int} (h : ws ≠ []) (x : Int) : ws.set (ws.length - 1) x ≠ [] := by
  intro z
  have := congrArg List.length z
  rw [List.length_set, List.length_nil] at this
  exact h (List.length_eq_zero_iff.mp this)
theorem ixN_last {n : Nat} (h : 0 < n) : ixN n (-1) = some (n - 1) := by
  unfold ixN
  rw [if_neg (by omega)]
  first
    | (rw [if_pos (by omega)]; congr 1; omega)
    | (simp; omega)
end

end Fp

set_option Elab.async false
set_option linter.all false
set_option maxRecDepth 100000
set_option maxHeartbeats 4000000
set_option exponentiation.threshold 10000
namespace Fp
open PySem PySem.Spec PyProof.Rows L2
theorem snoc_cases {α : Type} (xs : List α) : xs = [] ∨ ∃ ys y, xs = ys ++ [y] := by
  rcases List.eq_nil_or_concat xs with h | ⟨ys, y, h⟩
  · exact .inl h
  · exact .inr ⟨ys, y, by rw [h, List.concat_eq_append]⟩
/-! ### rows joined, cut, compared -/
theorem eqv_D2 (x y : RT) : PyData.eqv (.tuple [.int x.1, .int x.2]) (.tuple [.int y.1, .int y.2]) = decide (x = y) := by
  show ((x.1 == y.1) && ((x.2 == y.2) && true)) = _
  rw [Bool.eq_iff_iff]
  simp only [Bool.and_true, Bool.and_eq_true, beq_iff_eq, decide_eq_true_eq]
  exact ⟨fun z => Prod.ext z.1 z.2, fun z => ⟨congrArg Prod.fst z, congrArg Prod.snd z⟩⟩
section
variable {K : PySem.W.Frag} {H : Hp}
theorem RAt.dp {p : Addr} {x : RT} (h : RAt K H p x) : Dp K H (.ref p) (.tuple [.int x.1, .int x.2]) := .tup h (.cons (.int _) (.cons (.int _) .nil))
theorem ne_rat {p q : Addr} {x y : RT} {Q : VK} (h1 : RAt K H p x) (h2 : RAt K H q y) (h : Q (.bl (!decide (x = y))) H) : rNeD K (.ref p) (.ref q) H Q := by
  refine ⟨_, _, h1.dp, h2.dp, rfl, rfl, ?_⟩
  rw [eqv_D2]
  exact h
theorem eq_rat {p q : Addr} {x y : RT} {Q : VK} (h1 : RAt K H p x) (h2 : RAt K H q y) (h : Q (.bl (decide (x = y))) H) : rEqD K (.ref p) (.ref q) H Q := by
  refine ⟨_, _, h1.dp, h2.dp, rfl, rfl, ?_⟩
  rw [eqv_D2]
  exact h
theorem cat_row {p q : Addr} {xs ys : List RT} {Q : VK} (h1 : RowAt K H p xs) (h2 : RowAt K H q ys) (hl : xs.length + ys.length ≤ 1000) (h : ∀ r H', Same H H' → RowAt K H' r (xs ++ ys) → Q (.ref r) H') : rCatA K (.ref p) (.ref q) H Q := by
  obtain ⟨as, a1, a2⟩ := h1
  obtain ⟨bs, b1, b2⟩ := h2
  have la := a2.length
  have lb := b2.length
  refine ⟨p, q, _, _, rfl, rfl, a1, b1, ?_, fun z => ?_, fun _ z => ?_, fun _ _ r nr => ?_⟩
  · rw [List.length_map, List.length_map, sizeLine_eq]
    omega
  · have e : as = [] := List.map_eq_nil_iff.mp z
    subst e
    have e2 : xs = [] := List.length_eq_zero_iff.mp la.symm
    subst e2
    exact h q H (Same.refl H) ⟨bs, b1, b2⟩
  · have e : bs = [] := List.map_eq_nil_iff.mp z
    subst e
    have e2 : ys = [] := List.length_eq_zero_iff.mp lb.symm
    subst e2
    refine h p H (Same.refl H) ?_
    rw [List.append_nil]
    exact ⟨as, a1, a2⟩
  · have s := same_new (o := HO.tup (as.map V.ref ++ bs.map V.ref)) nr
    refine h r _ s ⟨as ++ bs, ?_, (a2.append b2).tk (Tk.same s)⟩
    rw [List.map_append]
    exact SqT.of upd_same
theorem row_at {p : Addr} {xs : List RT} {i : Nat} {x : RT} (h : RowAt K H p xs) (e : xs[i]? = some x) : ∃ (rs : List Addr) (r : Addr), SqT K H p (rs.map V.ref) ∧ rs.length = xs.length ∧ (rs.map V.ref)[i]? = some (.ref r) ∧ RAt K H r x := by
  obtain ⟨rs, h1, h2⟩ := h
  obtain ⟨r, e1, e2⟩ := h2.get e
  refine ⟨rs, r, h1, h2.length, ?_, e2⟩
  rw [List.getElem?_map, e1]
  rfl
/-- row[i] from the front -/
theorem ix_row {p : Addr} {xs : List RT} {i : Int} {j : Nat} {x : RT} {Q : VK} (h : RowAt K H p xs) (ei : i = (j : Int)) (e : xs[j]? = some x) (hq : ∀ r, RAt K H r x → Q (.ref r) H) : rIxT K (.ref p) (.int i) H Q := by
  obtain ⟨rs, r, h1, _, h3, h4⟩ := row_at h e
  exact ⟨p, _, i, _, rfl, rfl, h1, at_of ei h3, hq r h4⟩
/-- row[-k] from the end -/
theorem ix_back {p : Addr} {xs : List RT} {k j : Nat} {x : RT} {Q : VK} (h : RowAt K H p xs) (hk : 0 < k) (ej : j + k = xs.length) (e : xs[j]? = some x) (hq : ∀ r, RAt K H r x → Q (.ref r) H) : rIxT K (.ref p) (.int (-(k : Int))) H Q := by
  obtain ⟨rs, r, h1, h2, h3, h4⟩ := row_at h e
  refine ⟨p, _, _, _, rfl, rfl, h1, ?_, hq r h4⟩
  unfold atI
  have : ixN (rs.map V.ref).length (-(k : Int)) = some j := by
    unfold ixN
    rw [List.length_map, if_neg (by omega), if_pos (by omega)]
    congr 1
    omega
  rw [this]
  exact h3
theorem cutV_take (vs : List V) (n : Nat) : cutV vs none (some (n : Int)) = vs.take n := by
  unfold cutV
  rw [HT.sIx_none, HT.sIx_nat]
  show (vs.drop 0).take (min n vs.length - 0) = _
  rw [List.drop_zero, Nat.sub_zero]
  rcases Nat.le_total n vs.length with z | z
  · rw [Nat.min_eq_left z]
  · rw [Nat.min_eq_right z, List.take_length, List.take_of_length_le z]
/-- row[:n] -/
theorem take_row {p : Addr} {xs : List RT} {n : Nat} {Q : VK} (h : RowAt K H p xs) (hq : ∀ r H', Same H H' → RowAt K H' r (xs.take n) → Q (.ref r) H') : rSlA K (.ref p) none (some (n : Int)) H Q := by
  obtain ⟨rs, h1, h2⟩ := h
  have hl := h2.length
  refine ⟨p, _, rfl, h1, fun z => ?_, fun _ r nr => ?_⟩
  · have z2 := z.2
    rw [HT.sIx_nat, List.length_map] at z2
    refine hq p H (Same.refl H) ?_
    rw [List.take_of_length_le (by omega)]
    exact ⟨rs, h1, h2⟩
  · rw [cutV_take]
    have s := same_new (o := HO.tup ((rs.map V.ref).take n)) nr
    refine hq r _ s ⟨rs.take n, ?_, (h2.take n).tk (Tk.same s)⟩
    rw [List.map_take]
    exact SqT.of upd_same
end

end Fp

set_option Elab.async false
set_option linter.all false
set_option maxRecDepth 100000
set_option maxHeartbeats 4000000
set_option exponentiation.threshold 10000
namespace Fp
open PySem PySem.Spec PyProof.Rows L2
/-- a life as it is first drawn -/
def BaseLife (row : List RT) (step : RT) : Prop := (∃ ws extra, Made ws extra step ∧ row = rowOf ws extra step) ∨ (row = [] ∧ step = (0, 1))
/-- .. and made longer by one -/
def AnyLife (row : List RT) (step : RT) : Prop := BaseLife row step ∨
  (∃ row0 l, BaseLife row0 step ∧ row0.length ≤ 5 ∧ step ≠ (0, 1) ∧ row0[row0.length - 1]? = some l ∧ row = row0 ++ [rT l step]) ∨
  (∃ row0, BaseLife row0 (0, 1) ∧ row0.length ≤ 5 ∧ row = row0 ++ [(0, 1)] ∧ (step = (0, 1) ∨ step = (1, 3)))
theorem rowOf_len {ws : List Int} {extra : Int} {step : RT} : (rowOf ws extra step).length = ws.length := by
  unfold rowOf
  rw [List.length_map]
theorem BaseLife.len {row : List RT} {step : RT} (h : BaseLife row step) : row.length ≤ 6 := by
  rcases h with ⟨ws, extra, m, rfl⟩ | ⟨rfl, _⟩
  · rw [rowOf_len]
    exact m.len
  · decide
theorem BaseLife.ne {row : List RT} {step : RT} (h : BaseLife row step) (hs : step ≠ (0, 1)) : row ≠ [] := by
  rcases h with ⟨ws, extra, m, rfl⟩ | ⟨rfl, z⟩
  · intro z
    have := congrArg List.length z
    rw [rowOf_len, List.length_nil] at this
    exact m.ne (List.length_eq_zero_iff.mp this)
  · exact absurd z hs
/-- small ratios -/
def SmR (n : Nat) (x : RT) : Prop := Red x ∧ Sm n x.1 ∧ Sm n x.2
theorem low2_sm {t b : Int} {n : Nat} (hb : 0 < b) (h1 : Sm n t) (h2 : Sm n b) : SmR n (low2 t b) := ⟨low2_red (Int.ne_of_gt hb), ratT_sm hb h1, ratB_sm hb h2⟩
theorem SmR.mono {n m : Nat} {x : RT} (h : SmR n x) (l : n ≤ m) : SmR m x := ⟨h.1, h.2.1.mono l, h.2.2.mono l⟩
theorem rT_sm {x y : RT} {n m : Nat} (hx : SmR n x) (hy : SmR m y) : SmR (n + m) (rT x y) :=
  low2_sm (Int.mul_pos hx.1.1 hy.1.1) (hx.2.1.mul hy.2.1) (hx.2.2.mul hy.2.2)
theorem Made.sm {ws : List Int} {extra : Int} {step : RT} (m : Made ws extra step) : ∀ x ∈ rowOf ws extra step, SmR 10 x ∧ 0 ≤ x.1 := by
  intro x hx
  unfold rowOf at hx
  obtain ⟨y, hy, rfl⟩ := List.mem_map.mp hx
  obtain ⟨h1, h2⟩ := m.nn y hy
  obtain ⟨s1, s2, s3, _⟩ := m.step_ok
  obtain ⟨w0, w1⟩ := m.whole
  have hp : 0 ≤ (step.2 - step.1) * y := Int.mul_nonneg (by omega) h1
  have hq : (step.2 - step.1) * y ≤ 20 := by
    have : (step.2 - step.1) * y ≤ 4 * 5 := Int.mul_le_mul (by omega) h2 h1 (by decide)
    omega
  refine ⟨low2_sm w0 ?_ ?_, ?_⟩
  · unfold Sm
    omega
  · unfold Sm
    omega
  · obtain ⟨g1, ⟨z, hz⟩, _⟩ := ratG_pos (t := (step.2 - step.1) * y) w0
    have e : (low2 ((step.2 - step.1) * y) (wholeOf ws extra step)).1 = z := by
      show Int.fdiv _ _ = z
      have := Int.mul_fdiv_cancel_left z (Int.ne_of_gt g1)
      rw [← hz] at this
      exact this
    rw [e]
    rcases (by omega : 0 ≤ z ∨ z < 0) with q | q
    · exact q
    · have := Int.mul_neg_of_pos_of_neg g1 q
      omega
theorem BaseLife.sm {row : List RT} {step : RT} (h : BaseLife row step) : (∀ x ∈ row, SmR 10 x ∧ 0 ≤ x.1) ∧ SmR 4 step ∧ 0 ≤ step.1 ∧ step.1 < step.2 := by
  rcases h with ⟨ws, extra, m, rfl⟩ | ⟨rfl, rfl⟩
  · refine ⟨m.sm, ?_⟩
    rcases m.st with rfl | rfl | rfl | rfl | rfl <;> exact ⟨⟨⟨by decide, by decide⟩, by unfold Sm; decide, by unfold Sm; decide⟩, by decide, by decide⟩
  · exact ⟨fun x hx => by simp at hx, ⟨⟨⟨by decide, by decide⟩, by unfold Sm; decide, by unfold Sm; decide⟩, by decide, by decide⟩⟩
section
variable {P : Program} {w : World} {K : PySem.W.Frag} {mg : Str → Option Value} {base : Heap}
def spAny (K : PySem.W.Frag) : Sp := fun vs H Q _ => ∃ (d c : Addr) (t : Int), vs = [.ref d] ∧ Feed H d c t ∧ t ≤ 800000 ∧
  ∀ p row step t' H', Keep d H H' → Feed H' d c t' → t' ≤ t + 14 → AnyLife row step → LifeAt K H' p row step → Q (.ref p) H'
end

end Fp

set_option Elab.async false
set_option linter.all false
set_option maxRecDepth 100000
set_option maxHeartbeats 4000000
set_option exponentiation.threshold 10000
namespace Fp
open PySem PySem.Spec PyProof.Rows L2
/-! ### ratios by their value -/
def qv (x : RT) : Rat := (x.1 : Rat) / (x.2 : Rat)
theorem cast_ne {b : Int} (h : b ≠ 0) : (b : Rat) ≠ 0 := fun z => h (Rat.intCast_inj.mp (by simpa using z))
theorem qv_low2 {t b : Int} (hb : 0 < b) : qv (low2 t b) = (t : Rat) / (b : Rat) := by
  have e := low2_cross (t := t) hb
  have hp : (low2 t b).2 ≠ 0 := Int.ne_of_gt (low2_red (t := t) (Int.ne_of_gt hb)).1
  have h1 := cast_ne hp
  have h2 := cast_ne (Int.ne_of_gt hb)
  have e2 : ((low2 t b).1 : Rat) * (b : Rat) = (t : Rat) * ((low2 t b).2 : Rat) := by
    rw [← Rat.intCast_mul, ← Rat.intCast_mul, e]
  unfold qv
  grind
theorem qv_inj {x y : RT} (hx : Red x) (hy : Red y) (h : qv x = qv y) : x = y := by
  refine red_eq hx hy ?_
  have h1 := cast_ne (Int.ne_of_gt hx.1)
  have h2 := cast_ne (Int.ne_of_gt hy.1)
  unfold qv at h
  refine Rat.intCast_inj.mp ?_
  rw [Rat.intCast_mul, Rat.intCast_mul]
  grind
theorem qv_rT {x y : RT} (hx : Red x) (hy : Red y) : Red (rT x y) ∧ qv (rT x y) = qv x * qv y := by
  have hb := Int.mul_pos hx.1 hy.1
  refine ⟨low2_red (Int.ne_of_gt hb), ?_⟩
  unfold rT
  rw [qv_low2 hb, Rat.intCast_mul, Rat.intCast_mul]
  have h1 := cast_ne (Int.ne_of_gt hx.1)
  have h2 := cast_ne (Int.ne_of_gt hy.1)
  unfold qv
  grind
/-- a by b, whatever the terms -/
theorem qv_of {x : RT} {n D : Int} (hx : Red x) (hD : 0 < D) (h : qv x = (n : Rat) / (D : Rat)) : x = low2 n D := qv_inj hx (low2_red (Int.ne_of_gt hD)) (by rw [qv_low2 hD]; exact h)
/-- in lowest terms no part is greater than by other terms -/
theorem red_small {x : RT} {n D : Int} (hx : Red x) (hD : 0 < D) (h : qv x = (n : Rat) / (D : Rat)) : x.2 ∣ D ∧ x.1.natAbs ≤ n.natAbs := by
  have e := qv_of hx hD h
  obtain ⟨g1, g2, g3⟩ := ratG_pos (t := n) hD
  have e1 : x.1 = n.fdiv (ratG n D) := congrArg Prod.fst e
  have e2 : x.2 = D.fdiv (ratG n D) := congrArg Prod.snd e
  refine ⟨?_, ?_⟩
  · rw [e2]
    obtain ⟨y, hy⟩ := g3
    have z := Int.mul_fdiv_cancel_left y (Int.ne_of_gt g1)
    rw [← hy] at z
    rw [z]
    exact ⟨ratG n D, by rw [Int.mul_comm]; exact hy⟩
  · rw [e1]
    exact fdiv_le g1 g2
theorem dvd_small {a b : Int} {n : Nat} (h : a ∣ b) (hb : 0 < b) (s : Sm n b) : Sm n a := by
  unfold Sm at *
  exact Nat.lt_of_le_of_lt (Nat.le_of_dvd (by omega) (Int.natAbs_dvd_natAbs.mpr h)) s
/-- the value told over any number that its bottom divides -/
theorem qv_over {x : RT} {D : Int} (hx : 0 < x.2) (h : x.2 ∣ D) (hD : 0 < D) : qv x = ((x.1 * (D / x.2) : Int) : Rat) / (D : Rat) := by
  obtain ⟨y, hy⟩ := h
  have h1 := cast_ne (Int.ne_of_gt hx)
  have e : D / x.2 = y := by
    rw [hy]
    exact Int.mul_ediv_cancel_left y (Int.ne_of_gt hx)
  have h2 := cast_ne (Int.ne_of_gt hD)
  have h3 : (D : Rat) = (x.2 : Rat) * (y : Rat) := by rw [← Rat.intCast_mul, hy]
  unfold qv
  rw [e, Rat.intCast_mul]
  grind
/-- the bottoms of some, multiplied -/
def prodB (xs : List RT) : Int := (xs.map (·.2)).foldr (· * ·) 1
theorem prodB_pos : ∀ {xs : List RT}, (∀ x ∈ xs, 0 < x.2) → 0 < prodB xs
  | [], _ => by decide
  | x :: r, h => Int.mul_pos (h x (List.mem_cons_self ..)) (prodB_pos fun y hy => h y (List.mem_cons_of_mem _ hy))
theorem prodB_dvd : ∀ {xs : List RT} {x : RT}, x ∈ xs → x.2 ∣ prodB xs
  | y :: r, x, h => by
    rcases List.mem_cons.mp h with rfl | h
    · exact Int.dvd_mul_right ..
    · exact Int.dvd_trans (prodB_dvd h) (Int.dvd_mul_left ..)
theorem prodB_sm {n : Nat} : ∀ {xs : List RT}, (∀ x ∈ xs, Sm n x.2) → Sm (n * xs.length + 1) (prodB xs)
  | [], _ => by
    unfold Sm
    show 1 < 2 ^ (n * 0 + 1)
    simp
  | x :: r, h => by
    have h1 := (h x (List.mem_cons_self ..)).mul (prodB_sm fun y hy => h y (List.mem_cons_of_mem _ hy))
    refine h1.mono ?_
    rw [List.length_cons, Nat.mul_add]
    omega

end Fp

set_option Elab.async false
set_option linter.all false
set_option maxRecDepth 100000
set_option maxHeartbeats 4000000
set_option exponentiation.threshold 10000
namespace Fp
open PySem PySem.Spec PyProof.Rows L2
/-! ### rows on one bottom, added -/
abbrev s_oob : Stmt := topS 13
abbrev s_added : Stmt := topS 14
abbrev N_oob : List Str := ["told", "common", "top", "bottom"]
theorem sc_oob : FnScope N_oob ["told"] (defScope s_oob) := ⟨rfl, rfl, rfl, by decide +kernel, rfl, by decide +kernel, by decide +kernel⟩
theorem sc_added : FnScope ["told", "tops", "bottom"] ["told"] (defScope s_added) := ⟨rfl, rfl, rfl, by decide +kernel, rfl, by decide +kernel, by decide +kernel⟩
/-- a list of ratios -/
def LstAt (K : PySem.W.Frag) (H : Hp) (p : Addr) (xs : List RT) : Prop := ∃ rs : List Addr, SqL K H p (rs.map V.ref) ∧ RsAt K H rs xs
theorem LstAt.same {K : PySem.W.Frag} {H H' : Hp} {p : Addr} {xs : List RT} (h : LstAt K H p xs) (e : Same H H') : LstAt K H' p xs := by
  obtain ⟨rs, h1, h2⟩ := h
  exact ⟨rs, e.seq h1, h2.tk (Tk.same e)⟩
/-- all over one number -/
structure Over1 (n d : Nat) (D : Int) (xs : List RT) : Prop where
  pos : 0 < D
  sm : Sm d D
  ok : ∀ x ∈ xs, 0 < x.2 ∧ x.2 ∣ D ∧ Sm n x.1
  len : xs.length ≤ 1000
def topsOn (c : Int) (xs : List RT) : List Int := xs.map fun x => x.1 * (c / x.2)
theorem lcm_ok {c b D : Int} (hc : 0 < c) (hb : 0 < b) (h1 : c ∣ D) (h2 : b ∣ D) : 0 < c.fdiv (Int.gcd c b : Nat) * b ∧ c.fdiv (Int.gcd c b : Nat) * b ∣ D ∧ c ∣ c.fdiv (Int.gcd c b : Nat) * b ∧ b ∣ c.fdiv (Int.gcd c b : Nat) * b := by
  have hg : 0 < Int.gcd c b := Nat.gcd_pos_of_pos_right _ (by omega)
  obtain ⟨x, hx⟩ : ((Int.gcd c b : Nat) : Int) ∣ c := Int.gcd_dvd_left ..
  obtain ⟨y, hy⟩ : ((Int.gcd c b : Nat) : Int) ∣ b := Int.gcd_dvd_right ..
  generalize hgg : ((Int.gcd c b : Nat) : Int) = g at *
  have g0 : 0 < g := by omega
  have e : c.fdiv g = x := by
    have := Int.mul_fdiv_cancel_left x (Int.ne_of_gt g0)
    rw [← hx] at this
    exact this
  have x0 : 0 < x := by
    rcases (by omega : 0 < x ∨ x ≤ 0) with z | z
    · exact z
    · have := Int.mul_nonpos_of_nonneg_of_nonpos (Int.le_of_lt g0) z
      omega
  have cop : Int.gcd x y = 1 := by
    have z : Int.gcd c b = g.natAbs * Int.gcd x y := by
      have := Int.gcd_mul_left g x y
      rw [← hx, ← hy] at this
      exact this
    have z2 : g.natAbs = Int.gcd c b := by rw [← hgg]; exact Int.natAbs_natCast _
    rw [z2] at z
    exact (Nat.eq_of_mul_eq_mul_left hg (by rw [Nat.mul_one]; exact z)).symm
  rw [e]
  refine ⟨Int.mul_pos x0 hb, ?_, ⟨y, ?_⟩, Int.dvd_mul_left ..⟩
  · obtain ⟨u, hu⟩ := h1
    have h3 : y ∣ x * u := by
      have : g * y ∣ g * (x * u) := by
        rw [← Int.mul_assoc, ← hx, ← hu, ← hy]
        exact h2
      exact Int.dvd_of_mul_dvd_mul_left (Int.ne_of_gt g0) this
    obtain ⟨v, hv⟩ := dvd_cop h3 (by rw [Int.gcd_comm]; exact cop)
    refine ⟨v, ?_⟩
    rw [hu, hv, hx, hy]
    rw [Int.mul_assoc g x, ← Int.mul_assoc x y v, Int.mul_comm x (g * y), Int.mul_assoc g y x, Int.mul_assoc g (y * x) v, Int.mul_comm y x]
  · rw [hy, hx, Int.mul_comm g x, Int.mul_assoc]
theorem tops_sum {c : Int} (hc : 0 < c) : ∀ {xs : List RT}, (∀ x ∈ xs, 0 < x.2 ∧ x.2 ∣ c) → (((topsOn c xs).sum : Int) : Rat) / (c : Rat) = (xs.map qv).sum
  | [], _ => by
    show ((0 : Int) : Rat) / (c : Rat) = 0
    have := cast_ne (Int.ne_of_gt hc)
    grind
  | x :: r, h => by
    have h1 := h x (List.mem_cons_self ..)
    have h2 := tops_sum hc (xs := r) fun y hy => h y (List.mem_cons_of_mem _ hy)
    have e := qv_over h1.1 h1.2 hc
    show (((x.1 * (c / x.2) :: topsOn c r).sum : Int) : Rat) / (c : Rat) = (qv x :: r.map qv).sum
    rw [List.sum_cons, List.sum_cons, ← h2, e, Rat.intCast_add]
    have := cast_ne (Int.ne_of_gt hc)
    grind
theorem tops_sm {n d : Nat} {c D : Int} (hc : 0 < c) (hD : 0 < D) (hcD : c ∣ D) (sD : Sm d D) : ∀ {xs : List RT}, (∀ x ∈ xs, 0 < x.2 ∧ Sm n x.1) → (topsOn c xs).sum.natAbs ≤ xs.length * 2 ^ (n + d)
  | [], _ => by
    show (0 : Int).natAbs ≤ 0 * _
    simp
  | x :: r, h => by
    have h1 := h x (List.mem_cons_self ..)
    have h2 := tops_sm hc hD hcD sD (xs := r) fun y hy => h y (List.mem_cons_of_mem _ hy)
    have sc : Sm d c := dvd_small hcD hD sD
    have sq : Sm d (c / x.2) := by
      unfold Sm at *
      have a : (c / x.2).natAbs ≤ c.natAbs := Int.natAbs_ediv_le_natAbs ..
      omega
    have sp : Sm (n + d) (x.1 * (c / x.2)) := h1.2.mul sq
    show (x.1 * (c / x.2) :: topsOn c r).sum.natAbs ≤ (r.length + 1) * _
    rw [List.sum_cons, Nat.add_mul]
    unfold Sm at sp
    have := Int.natAbs_add_le (x.1 * (c / x.2)) (topsOn c r).sum
    omega
section
variable {P : Program} {w : World} {K : PySem.W.Frag} {mg : Str → Option Value} {base : Heap}
def spOob (K : PySem.W.Frag) : Sp := fun vs H Q _ => ∃ (p : Addr) (xs : List RT) (n d : Nat) (D : Int), vs = [.ref p] ∧ LstAt K H p xs ∧ Over1 n d D xs ∧ n ≤ 4000 ∧ d ≤ 4000 ∧
  ∀ z zl c H', Same H H' → H' z = some (.tup [.ref zl, .int c]) → H' zl = some (.lst ((topsOn c xs).map V.int)) → 0 < c → c ∣ D → (∀ x ∈ xs, x.2 ∣ c) → Q (.ref z) H'
theorem ok_oob {f fC : Addr} {fd fdC : FuncData} (F : Fun K "on_one_bottom" "on_one_bottom" s_oob f fd) (FC : Fun K "common_divisor" "common_divisor" s_cd fC fdC) (bC : Binds K fdC ["one", "other"] []) (gC : mg "common_divisor" = some (.ref fC)) (ma : mg "abs" = none) :
    FnOk P w K mg base CX0 2 f fd ["told"] (spOob K) := by
  have GC : FnOk P w K mg base CX0 1 fC fdC ["one", "other"] spCd := ok_cd FC ma
  refine F.ok sc_oob (fun vs H Q E h => ?_) (fun cdv A outer s H vs Q E hr h => ?_)
  · obtain ⟨_, _, _, _, _, rfl, _⟩ := h
    rfl
  · obtain ⟨p, xs, n, d, D, rfl, hlst, O, hn, hd, q⟩ := h
    obtain ⟨rs, r1, r2⟩ := id hlst
    have hl := r2.length
    refine ⟨_, (pss_cons (ps_set (i := 1) sc_oob.nd rfl (.inr rfl) pe_int) (pss_cons (ps_for PassesOwn.never rfl (pi_list (pv 0)) (pg_tup rfl (pgs_cons (pg_name (i := 2) sc_oob.nd rfl (.inl rfl)) (pgs_cons (pg_name (i := 3) sc_oob.nd rfl (.inl rfl)) pgs_nil)))
          (pss_one (ps_set (i := 1) sc_oob.nd rfl (.inr rfl) (pe_op op_mulA (pe_op op_fdivA (pv 1) (pe_call GC hr (by rfl) gC FC.kp bC .nil pass0 (pa_cons (pv 1) (pa_cons (pv 3) pa_nil)))) (pv 3))))) (pss_one (ps_ret (pe_tup (pa_cons (pe_lc (own := [("top", 2), ("bottom", 3)]) (g := gTup K 2 (gCons (gName 2) (gCons (gName 3) gNil))) (tt := tYes) (te := tOp (rI CMulA fun i j => .int (i * j)) (tVar 2) (tOp (rI CDivA fun i j => .int (i.fdiv j)) (tVar 1) (tVar 3))) rfl sc_oob.nd (pi_list (pv 0)) (blkOk_by (own := [("top", 2), ("bottom", 3)]) (N := N_oob) (sc := defScope s_oob) (by decide +kernel))
          (fun _ _ _ _ _ => pg_tup rfl (pgs_cons (pg_name (i := 2) sc_oob.nd rfl (.inl rfl)) (pgs_cons (pg_name (i := 3) sc_oob.nd rfl (.inl rfl)) pgs_nil))) (fun _ _ _ _ _ => pts_nil) (fun _ _ _ _ _ => pe_op op_mulA (pv 2) (pe_op op_fdivA (pv 1) (pv 3)))) (pa_cons (pv 1) pa_nil))))))), ?_⟩
    refine ⟨_, rfl, p, rfl, ⟨_, r1⟩, for_list (K := K) (a := p) (xs := rs.map V.ref) (fun i σ H1 => H1 = H ∧ ∃ (c : Int) (y2 y3 : Option V), σ = [some (.ref p), some (.int c), y2, y3] ∧ 0 < c ∧ c ∣ D ∧ ∀ x ∈ xs.take i, x.2 ∣ c) ?_ ?_ ?_ ?_⟩
    · exact ⟨rfl, 1, _, _, rfl, by decide, Int.one_dvd D, fun x hx => by simp at hx⟩
    · rintro i σ H1 _ ⟨rfl, _⟩
      exact r1
    · rintro i y σ H1 hi ⟨rfl, c, y2, y3, rfl, c0, cD, hc⟩
      have hi2 : i < xs.length := by
        have := (List.getElem?_eq_some_iff.mp hi).1
        rw [List.length_map, hl] at this
        exact this
      have hg : xs[i]? = some xs[i] := List.getElem?_eq_getElem hi2
      obtain ⟨r, er, hr2⟩ := r2.get hg
      have ey : y = .ref r := by
        rw [List.getElem?_map, er] at hi
        exact (Option.some.inj hi).symm
      subst ey
      obtain ⟨b0, bD, _⟩ := O.ok xs[i] (List.getElem_mem hi2)
      have sc : Sm d c := dvd_small cD O.pos O.sm
      have sb : Sm d xs[i].2 := dvd_small bD O.pos O.sm
      have hg0 : 0 < Int.gcd c xs[i].2 := Nat.gcd_pos_of_pos_right _ (by omega)
      have hgs : Sm d ((Int.gcd c xs[i].2 : Nat) : Int) := by
        unfold Sm at *
        rw [Int.natAbs_natCast]
        exact Nat.lt_of_le_of_lt (Nat.gcd_le_right _ (by omega)) sb
      have d0 : 0 < d := by
        rcases Nat.eq_zero_or_pos d with z | z
        · rw [z] at sc
          unfold Sm at sc
          omega
        · exact z
      have hq1 : Sm d (c.fdiv ((Int.gcd c xs[i].2 : Nat) : Int)) := Nat.lt_of_le_of_lt (fdiv_le (by omega) (Int.gcd_dvd_left ..)) sc
      obtain ⟨k0, k1, k2, k3⟩ := lcm_ok c0 b0 cD bD
      refine ⟨r, _, rfl, hr2, rfl, _, _, rfl, _, _, rfl, rfl, ?_⟩
      refine ⟨_, rfl, _, rfl, _, rfl, c, xs[i].2, rfl, ?_⟩
      refine ⟨c, _, rfl, rfl, ⟨by omega, Nat.lt_of_lt_of_le (hgs.log d0) (by omega)⟩, _, rfl, _, _, rfl, rfl, hq1.cmul sb d0 d0 (by omega), rfl, _, _, _, rfl, k0, k1, fun x hx => ?_⟩
      rw [List.take_add_one, hg] at hx
      rcases List.mem_append.mp hx with z | z
      · exact Int.dvd_trans (hc x z) k2
      · rw [List.mem_singleton.mp z]
        exact k3
    · rintro σ H1 ⟨rfl, c, y2, y3, rfl, c0, cD, hc⟩
      rw [List.length_map, hl, List.take_length] at hc
      have sc : Sm d c := dvd_small cD O.pos O.sm
      have d0 : 0 < d := by
        rcases Nat.eq_zero_or_pos d with z | z
        · rw [z] at sc
          unfold Sm at sc
          omega
        · exact z
      refine ⟨_, rfl, p, rfl, ⟨_, r1⟩, fun R nR => ?_⟩
      have e1 := same_new (o := HO.lst []) nR
      refine lc_list (K := K) (a := p) (xs := rs.map V.ref) (fun i H2 => Same H1 H2 ∧ H2 R = some (.lst ((topsOn c (xs.take i)).map V.int))) ?_ ?_ ?_ ?_
      · exact ⟨e1, upd_same⟩
      · rintro i H2 _ ⟨s2, _⟩
        exact s2.seq r1
      · rintro i y H2 hi ⟨s2, hR⟩
        have hi2 : i < xs.length := by
          have := (List.getElem?_eq_some_iff.mp hi).1
          rw [List.length_map, hl] at this
          exact this
        have hg : xs[i]? = some xs[i] := List.getElem?_eq_getElem hi2
        obtain ⟨r, er, hr2⟩ := r2.get hg
        have ey : y = .ref r := by
          rw [List.getElem?_map, er] at hi
          exact (Option.some.inj hi).symm
        subst ey
        obtain ⟨b0, bD, sn⟩ := O.ok xs[i] (List.getElem_mem hi2)
        have sb : Sm d xs[i].2 := dvd_small bD O.pos O.sm
        have hdv := hc xs[i] (List.getElem_mem hi2)
        have ef : c.fdiv xs[i].2 = c / xs[i].2 := Int.fdiv_eq_ediv_of_nonneg _ (by omega)
        have sq : Sm d (c.fdiv xs[i].2) := Nat.lt_of_le_of_lt (fdiv_le b0 hdv) sc
        refine ⟨r, _, rfl, hr2.tk (Tk.same s2), rfl, _, _, rfl, _, _, rfl, rfl, rfl, tYes_go ?_⟩
        refine iteT ?_
        refine ⟨_, rfl, _, rfl, _, rfl, c, xs[i].2, rfl, rfl, ⟨by omega, Nat.lt_of_lt_of_le (sb.log d0) (by omega)⟩, _, _, rfl, rfl, (sn.mono (show n ≤ n + 1 by omega)).cmul sq (by omega) d0 (by omega), _, hR, ?_, ?_, ?_⟩
        · rw [List.length_map]
          unfold topsOn
          rw [List.length_map, List.length_take]
          have := O.len
          exact small1000 (by omega)
        · intro b o hb
          rw [upd_ne (ne_of_none hb nR)]
          exact s2 _ _ hb
        · rw [upd_same, List.take_add_one, hg]
          unfold topsOn
          rw [List.map_append, List.map_append, ef]
          rfl
      · rintro H2 ⟨s2, hR⟩
        rw [List.length_map, hl, List.take_length] at hR
        refine ⟨_, rfl, by show 2 ≤ sizeLine; decide, fun z nz => ?_⟩
        have e2 := same_new (o := HO.tup [.ref R, .int c]) nz
        exact q z R c _ (s2.trans e2) upd_same (e2 _ _ hR) c0 cD hc
def spAdded (K : PySem.W.Frag) : Sp := fun vs H Q _ => ∃ (p : Addr) (xs : List RT) (n d : Nat) (D : Int), vs = [.ref p] ∧ LstAt K H p xs ∧ Over1 n d D xs ∧ n ≤ 4000 ∧ d ≤ 4000 ∧
  ∀ z x H', Same H H' → RAt K H' z x → Red x → qv x = (xs.map qv).sum → x.2 ∣ D → Sm (n + d + 11) x.1 → Q (.ref z) H'
theorem ok_added {f fO fR : Addr} {fd fdO fdR : FuncData} (F : Fun K "added" "added" s_added f fd) (FO : Fun K "on_one_bottom" "on_one_bottom" s_oob fO fdO) (bO : Binds K fdO ["told"] []) (gO : mg "on_one_bottom" = some (.ref fO)) (GO : FnOk P w K mg base CX0 2 fO fdO ["told"] (spOob K))
    (FR : Fun K "ratio" "ratio" s_ratio fR fdR) (bR : Binds K fdR ["top", "bottom"] []) (gR : mg "ratio" = some (.ref fR)) (GR : FnOk P w K mg base CX0 2 fR fdR ["top", "bottom"] spRat0) (ms : mg "sum" = none) : FnOk P w K mg base CX0 3 f fd ["told"] (spAdded K) := by
  refine F.ok sc_added (fun vs H Q E h => ?_) (fun cdv A outer s H vs Q E hr h => ?_)
  · obtain ⟨_, _, _, _, _, rfl, _⟩ := h
    rfl
  · obtain ⟨p, xs, n, d, D, rfl, hlst, O, hn, hd, q⟩ := h
    refine ⟨_, (pss_cons (ps_asg (pe_call GO hr (by rfl) gO FO.kp bO .nil pass0 (pa_cons (pv 0) pa_nil)) (pg_tup rfl (pgs_cons (pg_name (i := 1) sc_added.nd rfl (.inl rfl)) (pgs_cons (pg_name (i := 2) sc_added.nd rfl (.inl rfl)) pgs_nil)))) (pss_one (ps_ret (pe_call GR hr (by rfl) gR FR.kp bR .nil pass0 (pa_cons (pe_callB (cr_sum rfl) (by rfl) ms (by decide +kernel) (pa_cons (pv 1) pa_nil)) (pa_cons (pv 2) pa_nil)))))), ?_⟩
    refine ⟨_, rfl, p, xs, n, d, D, rfl, hlst, O, hn, hd, fun z zl c H1 s1 hz hzl c0 cD hc => ?_⟩
    refine ⟨z, _, rfl, SqT.of hz, rfl, _, _, rfl, _, _, rfl, rfl, ?_⟩
    have sc : Sm d c := dvd_small cD O.pos O.sm
    refine ⟨_, rfl, zl, _, rfl, SqL.of hzl, _, rfl, _, c, rfl, sc.mono (show d ≤ 8000 by omega), Int.ne_of_gt c0, fun y ny => ?_⟩
    have e := same_new (o := HO.tup [.int (ratT (topsOn c xs).sum c), .int (ratB (topsOn c xs).sum c)]) ny
    have red : Red (low2 (topsOn c xs).sum c) := low2_red (Int.ne_of_gt c0)
    have val : qv (low2 (topsOn c xs).sum c) = (((topsOn c xs).sum : Int) : Rat) / (c : Rat) := qv_low2 c0
    obtain ⟨y1, y2⟩ := red_small red c0 val
    refine q y (low2 (topsOn c xs).sum c) _ (s1.trans e) (SqT.of upd_same) red (val.trans (tops_sum c0 fun x hx => ⟨(O.ok x hx).1, hc x hx⟩)) (Int.dvd_trans y1 cD) ?_
    have t := tops_sm (n := n) c0 O.pos cD O.sm (xs := xs) fun x hx => ⟨(O.ok x hx).1, (O.ok x hx).2.2⟩
    have hlen := O.len
    unfold Sm
    have t2 : xs.length * 2 ^ (n + d) ≤ 1000 * 2 ^ (n + d) := Nat.mul_le_mul_right _ hlen
    have t3 : 2 ^ (n + d + 11) = 2048 * 2 ^ (n + d) := by rw [Nat.pow_add, Nat.mul_comm]
    have t4 : 0 < 2 ^ (n + d) := Nat.pow_pos (by decide)
    omega
end

end Fp

set_option Elab.async false
set_option linter.all false
set_option maxRecDepth 100000
set_option maxHeartbeats 4000000
set_option exponentiation.threshold 10000
namespace Fp
open PySem PySem.Spec PyProof.Rows L2
/-! ### the program's own: what lasts behind the row's end, the short life -/
abbrev s_behind : Stmt := topS 16
theorem sc_behind : FnScope ["life", "row", "step"] ["life"] (defScope s_behind) := ⟨rfl, rfl, rfl, by decide +kernel, rfl, by decide +kernel, by decide +kernel⟩
structure ConstN (K : PySem.W.Frag) (mg : Str → Option Value) (aN : Addr) : Prop where
  gN : mg "NOUGHT" = some (.ref aN)
  tN : ∀ H : Hp, RAt K H aN (0, 1)
structure Consts (K : PySem.W.Frag) (mg : Str → Option Value) (aN aO : Addr) : Prop where
  gN : mg "NOUGHT" = some (.ref aN)
  gO : mg "ONE" = some (.ref aO)
  tN : ∀ H, RAt K H aN (0, 1)
  tO : ∀ H, RAt K H aO (1, 1)
theorem Consts.n {K : PySem.W.Frag} {mg : Str → Option Value} {aN aO : Addr} (C : Consts K mg aN aO) : ConstN K mg aN := ⟨C.gN, C.tN⟩
def rM (x y : RT) : RT := low2 (x.1 * y.2 - y.1 * x.2) (x.2 * y.2)
def rO (x y : RT) : RT := low2 (x.1 * y.2) (x.2 * y.1)
/-- a step: from nought on, below one -/
def StepOk (n : Nat) (s : RT) : Prop := SmR n s ∧ 0 ≤ s.1 ∧ s.1 < s.2
theorem gap_pos {s : RT} (h : Red s) (h1 : s.1 < s.2) : 0 < (rM (1, 1) s).1 := by
  have hb : (0 : Int) < 1 * s.2 := by have := h.1; omega
  have e := low2_cross (t := 1 * s.2 - s.1 * 1) hb
  have hp := ratB_pos (t := 1 * s.2 - s.1 * 1) hb
  show 0 < (low2 (1 * s.2 - s.1 * 1) (1 * s.2)).1
  have hp2 : 0 < (low2 (1 * s.2 - s.1 * 1) (1 * s.2)).2 := hp
  generalize (low2 (1 * s.2 - s.1 * 1) (1 * s.2)).1 = x at *
  generalize (low2 (1 * s.2 - s.1 * 1) (1 * s.2)).2 = y at *
  rcases (by omega : 0 < x ∨ x ≤ 0) with z | z
  · exact z
  · have a1 : 0 < (1 * s.2 - s.1 * 1) * y := Int.mul_pos (by omega) hp2
    have a2 : x * (1 * s.2) ≤ 0 := Int.mul_nonpos_of_nonpos_of_nonneg z (Int.le_of_lt hb)
    omega
def behindR (row : List RT) (step : RT) : RT := match row.getLast? with
  | none => (0, 1)
  | some l => rO (rT l step) (rM (1, 1) step)
theorem behindR_snoc (ys : List RT) (y step : RT) : behindR (ys ++ [y]) step = rO (rT y step) (rM (1, 1) step) := by
  have e : (ys ++ [y]).getLast? = some y := by simp
  unfold behindR
  rw [e]
/-! data of a row -/
def rowD (xs : List RT) : List PyData := xs.map fun x => .tuple [.int x.1, .int x.2]
theorem RsAt.dp {K : PySem.W.Frag} {H : Hp} : ∀ {ps : List Addr} {xs : List RT}, RsAt K H ps xs → DpAll K H (ps.map V.ref) (rowD xs)
  | _, _, .nil => .nil
  | _, _, .cons h r => .cons h.dp r.dp
theorem RowAt.dp {K : PySem.W.Frag} {H : Hp} {p : Addr} {xs : List RT} (h : RowAt K H p xs) : Dp K H (.ref p) (.tuple (rowD xs)) := by
  obtain ⟨rs, h1, h2⟩ := h
  exact .tup h1 h2.dp
theorem rowD_lay : ∀ xs : List RT, PyData.canLayAll0 (rowD xs) = true
  | [] => rfl
  | x :: r => by
    show (PyData.canLay0 (.tuple [.int x.1, .int x.2]) && PyData.canLayAll0 (rowD r)) = true
    rw [rowD_lay r]
    rfl
theorem rowD_depth : ∀ xs : List RT, PyData.depthAll (rowD xs) ≤ 1
  | [] => by decide
  | x :: r => by
    show max (PyData.depth (.tuple [.int x.1, .int x.2])) (PyData.depthAll (rowD r)) ≤ 1
    have := rowD_depth r
    have e : PyData.depth (.tuple [.int x.1, .int x.2]) = 1 := rfl
    omega
theorem rowD_shaped (xs : List RT) : SeqAt.shaped (.tuple (rowD xs)) = true := by
  unfold SeqAt.shaped
  have h1 : PyData.canLay0 (.tuple (rowD xs)) = true := rowD_lay xs
  have h2 : (PyData.tuple (rowD xs)).depth ≤ 64 := by
    show PyData.depthAll (rowD xs) + 1 ≤ 64
    have := rowD_depth xs
    omega
  rw [h1, decide_eq_true h2]
  rfl
theorem rowD_nil (xs : List RT) : PyData.eqv (.tuple (rowD xs)) (.tuple []) = xs.isEmpty := by
  cases xs with
  | nil => rfl
  | cons x r => rfl
section
variable {P : Program} {w : World} {K : PySem.W.Frag} {mg : Str → Option Value} {base : Heap} {aN aO : Addr}
def spBehind (K : PySem.W.Frag) : Sp := fun vs H Q _ => ∃ (p : Addr) (row : List RT) (step : RT), vs = [.ref p] ∧ LifeAt K H p row step ∧ (∀ x ∈ row, SmR 1900 x) ∧ StepOk 300 step ∧
  ∀ z H', Same H H' → RAt K H' z (behindR row step) → Q (.ref z) H'
theorem ok_behind {f fO fT fM : Addr} {fd fdO fdT fdM : FuncData} (F : Fun K "behind_row" "behind_row" s_behind f fd) (C : Consts K mg aN aO)
    (FO : Fun K "over" "over" s_over fO fdO) (bO : Binds K fdO ["one", "other"] []) (gO : mg "over" = some (.ref fO)) (GO : FnOk P w K mg base CX0 3 fO fdO ["one", "other"] (spOver0 K))
    (FT : Fun K "times" "times" s_times fT fdT) (bT : Binds K fdT ["one", "other"] []) (gT : mg "times" = some (.ref fT)) (GT : FnOk P w K mg base CX0 3 fT fdT ["one", "other"] (spTwo K (fun a b c d => a * c)))
    (FM : Fun K "minus" "minus" s_minus fM fdM) (bM : Binds K fdM ["one", "other"] []) (gM : mg "minus" = some (.ref fM)) (GM : FnOk P w K mg base CX0 3 fM fdM ["one", "other"] (spTwo K (fun a b c d => a * d - c * b))) :
    FnOk P w K mg base CX0 4 f fd ["life"] (spBehind K) := by
  refine F.ok sc_behind (fun vs H Q E h => ?_) (fun cdv A outer s H vs Q E hr h => ?_)
  · obtain ⟨_, _, _, rfl, _⟩ := h
    rfl
  · obtain ⟨p, row, step, rfl, ⟨pr, ps, l1, l2, l3⟩, hsm, hst, q⟩ := h
    refine ⟨_, (pss_cons (ps_asg (pv 0) (pg_tup rfl (pgs_cons (pg_name (i := 1) sc_behind.nd rfl (.inl rfl)) (pgs_cons (pg_name (i := 2) sc_behind.nd rfl (.inl rfl)) pgs_nil)))) (pss_cons (ps_if (pt_cmpR (op_eqD hr.units) (pv 1) (pe_tup pa_nil) (nomark _)) (pss_one (ps_ret (pe_glob (v := .ref aN) rfl C.gN rfl))) pss_nil) (pss_one (ps_ret (pe_call GO hr (by rfl) gO FO.kp bO .nil pass0 (pa_cons (pe_call GT hr (by rfl) gT FT.kp bT .nil pass0 (pa_cons (pe_ix ix_tup (pv 1) (pe_un un_neg pe_int) (fun _ _ => rfl)) (pa_cons (pv 2) pa_nil))) (pa_cons (pe_call GM hr (by rfl) gM FM.kp bM .nil pass0 (pa_cons (pe_glob (v := .ref aO) rfl C.gO rfl) (pa_cons (pv 2) pa_nil))) pa_nil))))))), ?_⟩
    refine ⟨_, rfl, p, _, rfl, l1, rfl, _, _, rfl, _, _, rfl, rfl, ?_⟩
    refine ⟨_, rfl, by show 0 ≤ sizeLine; decide, fun a na => ?_⟩
    have e1 := same_new (o := HO.tup []) na
    refine ⟨_, _, (l2.tk (Tk.same e1)).dp, .tup (SqT.of upd_same) .nil, rowD_shaped row, rfl, _, rfl, ?_⟩
    rw [rowD_nil]
    rcases snoc_cases row with rfl | ⟨ys, y, rfl⟩
    · exact iteT (q aN _ e1 (C.tN _))
    · have ne : (ys ++ [y]).isEmpty = false := by simp
      rw [ne]
      refine iteF ?_
      obtain ⟨hs1, hs2, hs3⟩ := hst
      have hy := hsm y (by simp)
      refine ⟨_, rfl, 1, rfl, ?_⟩
      refine ix_back (k := 1) (j := ys.length) (x := y) (l2.tk (Tk.same e1)) (by decide) (by simp) (by simp) fun r hr3 => ?_
      refine ⟨_, rfl, r, ps, _, _, _, _, rfl, ⟨hr3, l3.tk (Tk.same e1), hy.2.1.mono (by decide), hy.2.2.mono (by decide), hs1.2.1.mono (by decide), hs1.2.2.mono (by decide), hy.1.1, hs1.1.1⟩, fun b nb => ?_⟩
      have e2 := same_new (o := HO.tup [.int (rT y step).1, .int (rT y step).2]) nb
      refine ⟨_, rfl, aO, ps, _, _, _, _, rfl, ⟨C.tO _, l3.tk (Tk.same (e1.trans e2)), by unfold Sm; decide, by unfold Sm; decide, hs1.2.1.mono (by decide), hs1.2.2.mono (by decide), by decide, hs1.1.1⟩, fun b2 nb2 => ?_⟩
      have e3 := same_new (o := HO.tup [.int (rM (1, 1) step).1, .int (rM (1, 1) step).2]) nb2
      have sT := rT_sm hy hs1
      have hden : (0 : Int) < 1 * step.2 := by have := hs1.1.1; omega
      have a1 : Sm 301 (1 * step.2 - step.1 * 1) := by
        rw [Int.one_mul, Int.mul_one]
        exact hs1.2.2.sub hs1.2.1
      have a2 : Sm 301 (1 * step.2) := by
        rw [Int.one_mul]
        exact hs1.2.2.mono (by decide)
      have sM : SmR 301 (rM (1, 1) step) := low2_sm hden a1 a2
      refine ⟨b, b2, _, _, _, _, rfl, ⟨SqT.of (e3 _ _ upd_same), SqT.of upd_same, sT.2.1.mono (by decide), sT.2.2.mono (by decide), sM.2.1.mono (by decide), sM.2.2.mono (by decide), sT.1.1, sM.1.1⟩, Int.ne_of_gt (Int.mul_pos sT.1.1 (gap_pos hs1.1 hs3)), fun b3 nb3 => ?_⟩
      refine q b3 _ (e1.trans (e2.trans (e3.trans (same_new nb3)))) ?_
      rw [behindR_snoc]
      exact SqT.of upd_same
end

end Fp

set_option Elab.async false
set_option linter.all false
set_option maxRecDepth 100000
set_option maxHeartbeats 4000000
set_option exponentiation.threshold 10000
namespace Fp
open PySem PySem.Spec PyProof.Rows L2
/-! ### chances, one behind the other -/

def chR (row : List RT) (step : RT) (i : Nat) : Rat := match row[i]? with
  | some x => qv x
  | none => match row.getLast? with
    | none => 0
    | some l => qv l * qv step ^ (i + 1 - row.length)
theorem chR_in {row : List RT} {step : RT} {i : Nat} {x : RT} (h : row[i]? = some x) : chR row step i = qv x := by
  unfold chR
  rw [h]
theorem chR_out {row : List RT} {step l : RT} {i : Nat} (h : row.length ≤ i) (hl : row.getLast? = some l) : chR row step i = qv l * qv step ^ (i + 1 - row.length) := by
  unfold chR
  rw [List.getElem?_eq_none h, hl]
theorem chR_nil {step : RT} {i : Nat} : chR [] step i = 0 := rfl
theorem last_is {row : List RT} (h : row ≠ []) : ∃ l, row.getLast? = some l ∧ row[row.length - 1]? = some l ∧ l ∈ row := by
  refine ⟨row.getLast h, List.getLast?_eq_some_getLast h, ?_, List.getLast_mem h⟩
  rw [List.getLast_eq_getElem]
  exact List.getElem?_eq_getElem _
theorem chR_next {row : List RT} {step : RT} {k : Nat} (h : row.length ≤ k + 1) (hne : row ≠ []) : chR row step (k + 1) = chR row step k * qv step := by
  obtain ⟨l, h1, h2, _⟩ := last_is hne
  have hp := List.length_pos_iff.mpr hne
  rw [chR_out h h1]
  rcases (by omega : row.length = k + 1 ∨ row.length ≤ k) with z | z
  · have e : row[k]? = some l := by
      rw [← h2]
      congr 1
      omega
    rw [chR_in e, show k + 1 + 1 - row.length = 0 + 1 by omega, Rat.pow_succ, Rat.pow_zero]
    grind
  · rw [chR_out z h1, show k + 1 + 1 - row.length = (k + 1 - row.length) + 1 by omega, Rat.pow_succ]
    grind
/-- the chances 1 to as many as there are -/
structure IsCh (row : List RT) (step : RT) (n most : Nat) (chs : List RT) : Prop where
  len : chs.length = most
  ok : ∀ i x, chs[i]? = some x → SmR (n + 5 * i) x ∧ qv x = chR row step i
/-- what one number stands under all of them -/
theorem ch_dvd {row : List RT} {step x : RT} {n i most : Nat} (hr : ∀ y ∈ row, SmR n y) (hs : Red step) (hx : Red x) (h : qv x = chR row step i) (hi : i < most) : x.2 ∣ prodB row * step.2 ^ most := by
  match e : row[i]? with
  | some y =>
    have hy := List.mem_of_getElem? e
    have ex : x = y := qv_inj hx (hr y hy).1 (h.trans (chR_in e))
    rw [ex]
    exact Int.dvd_trans (prodB_dvd hy) (Int.dvd_mul_right ..)
  | none =>
    have hle : row.length ≤ i := List.getElem?_eq_none_iff.mp e
    match el : row.getLast? with
    | none =>
      have er : row = [] := List.getLast?_eq_none_iff.mp el
      rw [er, chR_nil] at h
      have ex : x = (0, 1) := qv_inj hx ⟨by decide, by decide⟩ (by
        rw [h]
        unfold qv
        show (0 : Rat) = ((0 : Int) : Rat) / ((1 : Int) : Rat)
        grind)
      rw [ex]
      exact Int.one_dvd _
    | some l =>
      have hl : l ∈ row := List.mem_of_getLast? el
      have hl0 := (hr l hl).1
      rw [chR_out hle el] at h
      obtain ⟨j, ej, hj⟩ : ∃ j, i + 1 - row.length = j ∧ j ≤ most := ⟨_, rfl, by omega⟩
      rw [ej] at h
      have key : ∀ j : Nat, qv l * qv step ^ j = ((l.1 * step.1 ^ j : Int) : Rat) / ((l.2 * step.2 ^ j : Int) : Rat) := by
        intro j
        induction j with
        | zero =>
          rw [Rat.pow_zero, Int.pow_zero, Int.pow_zero, Int.mul_one, Int.mul_one]
          unfold qv
          grind
        | succ j ih =>
          have h1 := cast_ne (Int.ne_of_gt hs.1)
          have h2 := cast_ne (Int.ne_of_gt (Int.mul_pos hl0.1 (show (0 : Int) < step.2 ^ j from Int.pow_pos hs.1)))
          rw [Rat.pow_succ, ← Rat.mul_assoc, ih, Int.pow_succ, Int.pow_succ, ← Int.mul_assoc, ← Int.mul_assoc, Rat.intCast_mul (l.1 * step.1 ^ j), Rat.intCast_mul (l.2 * step.2 ^ j)]
          unfold qv
          grind
      rw [key j] at h
      obtain ⟨d1, _⟩ := red_small hx (Int.mul_pos hl0.1 (Int.pow_pos hs.1)) h
      refine Int.dvd_trans d1 ?_
      obtain ⟨u, hu⟩ := prodB_dvd hl
      refine ⟨u * step.2 ^ (most - j), ?_⟩
      rw [hu, show most = j + (most - j) by omega, Int.pow_add, Nat.add_sub_cancel_left]
      rw [Int.mul_assoc l.2 u, ← Int.mul_assoc u, Int.mul_comm u (step.2 ^ j), Int.mul_assoc (step.2 ^ j), ← Int.mul_assoc l.2]
theorem sm_pow {n : Nat} {a : Int} (h : Sm n a) (hn : 0 < n) : ∀ k : Nat, Sm (n * k + 1) (a ^ k)
  | 0 => by
    unfold Sm
    rw [Int.pow_zero]
    simp
  | k + 1 => by
    rw [Int.pow_succ]
    have := (sm_pow h hn k).mul h
    refine this.mono ?_
    rw [Nat.mul_add]
    omega
theorem over_ch {row : List RT} {step : RT} {n most : Nat} {chs : List RT} (hr : ∀ y ∈ row, SmR n y) (hs : SmR 5 step) (hl : row.length ≤ 14) (hn : n ≤ 64) (hm : most ≤ 70) (h : IsCh row step n most chs) : Over1 (n + 350) 1300 (prodB row * step.2 ^ most) chs := by
  refine ⟨Int.mul_pos (prodB_pos fun x hx => (hr x hx).1.1) (Int.pow_pos hs.1.1), ?_, fun x hx => ?_, by rw [h.len]; omega⟩
  · have h1 := prodB_sm fun x hx => (hr x hx).2.2
    have h2 := sm_pow hs.2.2 (by decide) most
    refine (h1.mul h2).mono ?_
    have : n * row.length ≤ 64 * 14 := Nat.mul_le_mul hn hl
    omega
  · obtain ⟨i, hi⟩ := List.mem_iff_getElem?.mp hx
    have hi2 := (List.getElem?_eq_some_iff.mp hi).1
    rw [h.len] at hi2
    obtain ⟨s1, s2⟩ := h.ok i x hi
    exact ⟨s1.1.1, ch_dvd hr hs.1 s1.1 s2 hi2, s1.2.1.mono (by omega)⟩
def sumCh (row : List RT) (step : RT) : Nat → Rat
  | 0 => 0
  | k + 1 => sumCh row step k + chR row step k
theorem sum_snoc (xs : List Rat) (x : Rat) : (xs ++ [x]).sum = xs.sum + x := by
  induction xs with
  | nil =>
    show x + 0 = 0 + x
    grind
  | cons y r ih =>
    show y + (r ++ [x]).sum = y + r.sum + x
    rw [ih]
    grind
theorem IsCh.sum {row : List RT} {step : RT} {n most : Nat} {chs : List RT} (h : IsCh row step n most chs) : (chs.map qv).sum = sumCh row step most := by
  have key : ∀ k, k ≤ most → ((chs.take k).map qv).sum = sumCh row step k := by
    intro k
    induction k with
    | zero =>
      intro _
      rfl
    | succ k ih =>
      intro hk
      have hk2 : k < chs.length := by rw [h.len]; omega
      have hg : chs[k]? = some chs[k] := List.getElem?_eq_getElem hk2
      rw [List.take_add_one, hg]
      show ((chs.take k ++ [chs[k]]).map qv).sum = sumCh row step k + chR row step k
      rw [List.map_append, List.map_singleton, sum_snoc, ih (by omega), (h.ok k _ hg).2]
  have := key most (Nat.le_refl _)
  rw [← h.len, List.take_length] at this
  rw [h.len] at this
  exact this
abbrev s_chto : Stmt := topS 17
theorem sc_chto : FnScope ["life", "most", "row", "step", "chances"] ["life", "most"] (defScope s_chto) := ⟨rfl, rfl, rfl, by decide +kernel, rfl, by decide +kernel, by decide +kernel⟩
/-- a life as the program is asked of it -/
structure LifeOk (n : Nat) (row : List RT) (step : RT) : Prop where
  sm : ∀ y ∈ row, SmR n y
  st : StepOk 5 step
  len : row.length ≤ 14
  n64 : n ≤ 64
  n1 : 1 ≤ n
section
variable {P : Program} {w : World} {K : PySem.W.Frag} {mg : Str → Option Value} {base : Heap} {aN aO : Addr}
def spChto (K : PySem.W.Frag) : Sp := fun vs H Q _ => ∃ (p : Addr) (row : List RT) (step : RT) (n most : Nat), vs = [.ref p, .int (most : Int)] ∧ LifeAt K H p row step ∧ LifeOk n row step ∧ most ≤ 70 ∧
  ∀ z rs chs H', Same H H' → H' z = some (.lst (rs.map V.ref)) → RsAt K H' rs chs → IsCh row step n most chs → Q (.ref z) H'
theorem ok_chto {f fT : Addr} {fd fdT : FuncData} (F : Fun K "chances_to" "chances_to" s_chto f fd) (C : ConstN K mg aN)
    (FT : Fun K "times" "times" s_times fT fdT) (bT : Binds K fdT ["one", "other"] []) (gT : mg "times" = some (.ref fT)) (GT : FnOk P w K mg base CX0 3 fT fdT ["one", "other"] (spTwo K (fun a b c d => a * c)))
    (ml : mg "len" = none) (mL : mg "list" = none) : FnOk P w K mg base CX0 4 f fd ["life", "most"] (spChto K) := by
  refine F.ok sc_chto (fun vs H Q E h => ?_) (fun cdv A outer s H vs Q E hr h => ?_)
  · obtain ⟨_, _, _, _, _, rfl, _⟩ := h
    rfl
  · obtain ⟨p, row, step, n, most, rfl, ⟨pr, ps, l1, l2, l3⟩, L, hm, q⟩ := h
    refine ⟨_, (pss_cons (ps_asg (pv 0) (pg_tup rfl (pgs_cons (pg_name (i := 2) sc_chto.nd rfl (.inl rfl)) (pgs_cons (pg_name (i := 3) sc_chto.nd rfl (.inl rfl)) pgs_nil)))) (pss_cons (ps_set (i := 4) sc_chto.nd rfl (.inl rfl) (pe_callTy call_list_of (by rfl) mL (by decide +kernel) (pa_cons (pe_slice sl_tupA (pv 2) po_none (po_some (pv 1))) pa_nil))) (pss_cons (ps_while PassesOwn.never (pt_cmpR op_lt (pe_callB call_len_seq (by rfl) ml PySem.boot_len (pa_cons (pv 4) pa_nil)) (pv 1) (nomark _))
          (pss_one (ps_expr (pe_bm PySem.F.plainAttrs_list PySem.F.slot_list_append PySem.F.type_list_append mt_append (pv 4) (pa_cons (pe_ifExp (pt_truth (pv 4) (by intro _; rfl)) (pe_call GT hr (by rfl) gT FT.kp bT .nil pass0 (pa_cons (pe_ix ix_list (pv 4) (pe_un un_neg pe_int) (fun _ _ => rfl)) (pa_cons (pv 3) pa_nil))) (pe_glob (v := .ref aN) rfl C.gN rfl)) pa_nil))))) (pss_one (ps_ret (pv 4)))))), ?_⟩
    refine ⟨_, rfl, p, _, rfl, l1, rfl, _, _, rfl, _, _, rfl, rfl, ?_⟩
    refine ⟨_, rfl, _, rfl, most, rfl, ?_⟩
    refine take_row l2 fun a H1 s1 ha => ?_
    obtain ⟨rs0, a1, a2⟩ := id ha
    refine ⟨a, _, rfl, .inr a1, fun c nc => ?_⟩
    have e1 := same_new (o := HO.lst (rs0.map V.ref)) nc
    have nc0 : H c = none := s1.free nc
    have hlen0 := a2.length
    rw [List.length_take] at hlen0
    refine ⟨fun m σ H2 => ∃ (rs : List Addr) (chs : List RT), σ = [some (.ref p), some (.int (most : Int)), some (.ref pr), some (.ref ps), some (.ref c)] ∧ Same H H2 ∧ H2 c = some (.lst (rs.map V.ref)) ∧ RsAt K H2 rs chs ∧ m + chs.length = most ∧ (row.length ≤ chs.length ∨ m = 0) ∧ (∀ i x, chs[i]? = some x → SmR (n + 5 * i) x ∧ qv x = chR row step i), ⟨most - (row.take most).length, rs0, row.take most, rfl, s1.trans e1, upd_same, a2.tk (Tk.same e1), ?_, ?_, ?_⟩, ?_⟩
    · rw [List.length_take]
      omega
    · rw [List.length_take]
      omega
    · intro i x hx
      rw [List.getElem?_take] at hx
      split at hx
      · exact ⟨(L.sm x (List.mem_of_getElem? hx)).mono (by omega), (chR_in hx).symm⟩
      · cases hx
    · rintro m σ H2 ⟨rs, chs, rfl, s2, hc, hrs, em, hlr, hok⟩
      have hl := hrs.length
      refine ⟨_, rfl, c, _, rfl, .inl (SqL.of hc), _, rfl, _, _, rfl, rfl, _, rfl, ite2 (fun c2 => ?_) (fun c2 => ?_)⟩
      · have hlt : chs.length < most := by
          have : (((rs.map V.ref).length : Nat) : Int) < (most : Int) := of_decide_eq_true c2
          rw [List.length_map] at this
          omega
        have hrl : row.length ≤ chs.length := by
          rcases hlr with z | z
          · exact z
          · omega
        refine ⟨fun σ' H' => ∃ (rs : List Addr) (chs' : List RT), σ' = [some (.ref p), some (.int (most : Int)), some (.ref pr), some (.ref ps), some (.ref c)] ∧ Same H H' ∧ H' c = some (.lst (rs.map V.ref)) ∧ RsAt K H' rs chs' ∧ chs'.length = chs.length + 1 ∧ (∀ i x, chs'[i]? = some x → SmR (n + 5 * i) x ∧ qv x = chR row step i), fun σ' H' z => ?_, ?_⟩
        · obtain ⟨rs', chs', z1, z2, z3, z4, z5, z6⟩ := z
          exact ⟨m - 1, by omega, rs', chs', z1, z2, z3, z4, by omega, .inl (by omega), z6⟩
        · have put : ∀ (r : Addr) (x : RT) (H3 : Hp), Same H2 H3 → RAt K H3 r x → SmR (n + 5 * chs.length) x → qv x = chR row step chs.length →
              ∃ (l : Addr) (xs : List V) (y : V), V.ref c = .ref l ∧ [V.ref r] = [y] ∧ H3 l = some (.lst xs) ∧ xs.length < sizeLine ∧ ∃ (rs : List Addr) (chs' : List RT), [some (V.ref p), some (.int (most : Int)), some (.ref pr), some (.ref ps), some (.ref c)] = [some (.ref p), some (.int (most : Int)), some (.ref pr), some (.ref ps), some (.ref c)] ∧ Same H (upd H3 l (.lst (xs ++ [y]))) ∧ upd H3 l (.lst (xs ++ [y])) c = some (.lst (rs.map V.ref)) ∧ RsAt K (upd H3 l (.lst (xs ++ [y]))) rs chs' ∧ chs'.length = chs.length + 1 ∧ (∀ i x, chs'[i]? = some x → SmR (n + 5 * i) x ∧ qv x = chR row step i) := by
            intro r x H3 s3 hx hsx hqx
            have hc3 := s3 _ _ hc
            refine ⟨c, _, _, rfl, rfl, hc3, ?_, rs ++ [r], chs ++ [x], rfl, ?_, ?_, ?_, by simp, ?_⟩
            · rw [List.length_map, hl]
              exact small1000 (by omega)
            · intro b o hb
              rw [upd_ne (ne_of_none hb nc0)]
              exact s3 _ _ (s2 _ _ hb)
            · rw [upd_same, List.map_append]
              rfl
            · exact ((hrs.tk (Tk.same s3)).append (.cons hx .nil)).tk (tk_lst hc3)
            · intro i y hy
              rcases (by omega : i < chs.length ∨ i = chs.length ∨ chs.length < i) with z | z | z
              · rw [List.getElem?_append_left z] at hy
                exact hok i y hy
              · subst z
                rw [List.getElem?_append_right (Nat.le_refl _), Nat.sub_self] at hy
                cases Option.some.inj hy
                exact ⟨hsx, hqx⟩
              · rw [List.getElem?_append_right (by omega), List.getElem?_eq_none (by simp; omega)] at hy
                cases hy
          refine ⟨_, rfl, .inl ⟨rfl, _, SqL.of hc⟩, ?_⟩
          refine ⟨_, rfl, _, .inl ⟨_, SqL.of hc, rfl⟩, ?_⟩
          rcases snoc_cases chs with e0 | ⟨ys, y, e0⟩
          · have er : rs = [] := by
              rw [e0] at hl
              exact List.length_eq_zero_iff.mp hl
            subst er
            have erow : row = [] := by
              rw [e0] at hrl
              exact List.length_eq_zero_iff.mp (by simpa using hrl)
            refine iteF ?_
            refine put aN (0, 1) H2 (Same.refl _) (C.tN _) (SmR.mono (n := 1) ⟨⟨by decide, by decide⟩, by unfold Sm; decide, by unfold Sm; decide⟩ (by have := L.n1; omega)) ?_
            · rw [erow, chR_nil]
              unfold qv
              show ((0 : Int) : Rat) / ((1 : Int) : Rat) = 0
              grind
          · have hne : (rs.map V.ref).isEmpty = false := by
              rw [e0] at hl
              cases rs with
              | nil => simp at hl
              | cons b t => rfl
            rw [hne]
            refine iteT ?_
            have hy : chs[ys.length]? = some y := by
              rw [e0]
              simp
            have hyl : chs.length = ys.length + 1 := by
              rw [e0]
              simp
            obtain ⟨r, er, hr2⟩ := hrs.get hy
            have eat : atI (rs.map V.ref) (-1) = some (.ref r) := by
              have e2 : ixN (rs.map V.ref).length (-1) = some ys.length := by
                unfold ixN
                rw [List.length_map, hl, hyl, if_neg (by omega), if_pos (by omega)]
                congr 1
                omega
              unfold atI
              rw [e2]
              show (rs.map V.ref)[ys.length]? = _
              rw [List.getElem?_map, er]
              rfl
            obtain ⟨sy, qy⟩ := hok _ _ hy
            refine ⟨_, rfl, 1, rfl, c, _, -1, _, rfl, rfl, SqL.of hc, eat, ?_⟩
            have hn64 := L.n64
            have hst := L.st.1
            refine ⟨_, rfl, r, ps, _, _, _, _, rfl, ⟨hr2, l3.tk (Tk.same s2), sy.2.1.mono (by omega), sy.2.2.mono (by omega), hst.2.1.mono (by decide), hst.2.2.mono (by decide), sy.1.1, hst.1.1⟩, fun b nb => ?_⟩
            have e3 := same_new (o := HO.tup [.int (rT y step).1, .int (rT y step).2]) nb
            obtain ⟨v1, v2⟩ := qv_rT sy.1 hst.1
            refine put b (rT y step) _ e3 (SqT.of upd_same) ((rT_sm sy hst).mono (by omega)) ?_
            rw [v2, qy, hyl]
            rcases Classical.em (row = []) with z | z
            · rw [z, chR_nil, chR_nil]
              grind
            · exact (chR_next (by omega) z).symm
      · have hge : m = 0 := by
          have : ¬ (((rs.map V.ref).length : Nat) : Int) < (most : Int) := fun z => c2 (decide_eq_true z)
          rw [List.length_map] at this
          omega
        exact ⟨_, rfl, q c rs chs H2 s2 hc hrs ⟨by omega, hok⟩⟩
end

end Fp

set_option Elab.async false
set_option linter.all false
set_option maxRecDepth 100000
set_option maxHeartbeats 4000000
set_option exponentiation.threshold 10000
namespace Fp
open PySem PySem.Spec PyProof.Rows L2
/-! ### a chance, lasting, the miss -/
abbrev s_miss : Stmt := topS 19
theorem sc_miss : FnScope ["life"] ["life"] (defScope s_miss) := ⟨rfl, rfl, rfl, by decide +kernel, rfl, by decide +kernel, by decide +kernel⟩
theorem qv_rM {x y : RT} (hx : Red x) (hy : Red y) : Red (rM x y) ∧ qv (rM x y) = qv x - qv y := by
  have hb := Int.mul_pos hx.1 hy.1
  refine ⟨low2_red (Int.ne_of_gt hb), ?_⟩
  unfold rM
  rw [qv_low2 hb, Rat.intCast_sub, Rat.intCast_mul, Rat.intCast_mul, Rat.intCast_mul]
  have h1 := cast_ne (Int.ne_of_gt hx.1)
  have h2 := cast_ne (Int.ne_of_gt hy.1)
  unfold qv
  grind
theorem qv_rO {x y : RT} (hx : Red x) (hy : Red y) (h : 0 < y.1) : Red (rO x y) ∧ qv (rO x y) = qv x / qv y := by
  have hb := Int.mul_pos hx.1 h
  refine ⟨low2_red (Int.ne_of_gt hb), ?_⟩
  unfold rO
  rw [qv_low2 hb, Rat.intCast_mul, Rat.intCast_mul]
  have h1 := cast_ne (Int.ne_of_gt hx.1)
  have h2 := cast_ne (Int.ne_of_gt hy.1)
  have h3 := cast_ne (Int.ne_of_gt h)
  unfold qv
  grind
theorem qv_one : qv (1, 1) = 1 := by
  unfold qv
  show ((1 : Int) : Rat) / ((1 : Int) : Rat) = 1
  grind
theorem qv_nought : qv (0, 1) = 0 := by
  unfold qv
  show ((0 : Int) : Rat) / ((1 : Int) : Rat) = 0
  grind
theorem one_red : Red (1, 1) := ⟨by decide, by decide⟩
theorem gap_val {s : RT} (hs : Red s) (h : s.1 < s.2) : (1 : Rat) - qv s ≠ 0 := by
  obtain ⟨r, v⟩ := qv_rM one_red hs
  have hg := gap_pos hs h
  have e : qv (rM (1, 1) s) ≠ 0 := by
    have h1 := cast_ne (Int.ne_of_gt hg)
    have h2 := cast_ne (Int.ne_of_gt r.1)
    unfold qv
    grind
  rw [v, qv_one] at e
  exact e
/-- what lasts behind the row's end -/
def behQ (row : List RT) (step : RT) : Rat := match row.getLast? with
  | none => 0
  | some l => qv l * qv step / (1 - qv step)
theorem behind_val {row : List RT} {step : RT} {n : Nat} (hr : ∀ x ∈ row, SmR n x) (hs : StepOk 5 step) : SmR (n + 20) (behindR row step) ∧ qv (behindR row step) = behQ row step := by
  rcases snoc_cases row with rfl | ⟨ys, y, rfl⟩
  · exact ⟨SmR.mono (n := 1) (x := (0, 1)) ⟨⟨by decide, by decide⟩, by unfold Sm; decide, by unfold Sm; decide⟩ (by omega), qv_nought⟩
  · have hy := hr y (by simp)
    rw [behindR_snoc]
    have e : behQ (ys ++ [y]) step = qv y * qv step / (1 - qv step) := by
      have e : (ys ++ [y]).getLast? = some y := by simp
      unfold behQ
      rw [e]
    rw [e]
    obtain ⟨h1, h2, h3⟩ := hs
    obtain ⟨a1, a2⟩ := qv_rT hy.1 h1.1
    obtain ⟨b1, b2⟩ := qv_rM one_red h1.1
    have g := gap_pos h1.1 h3
    obtain ⟨c1, c2⟩ := qv_rO a1 b1 g
    refine ⟨⟨c1, ?_, ?_⟩, ?_⟩
    · have sT := rT_sm hy h1
      have hden : (0 : Int) < 1 * step.2 := by have := h1.1.1; omega
      have m1 : Sm 6 (1 * step.2 - step.1 * 1) := by
        rw [Int.one_mul, Int.mul_one]
        exact h1.2.2.sub h1.2.1
      have m2 : Sm 6 (1 * step.2) := by
        rw [Int.one_mul]
        exact h1.2.2.mono (by decide)
      have sM : SmR 6 (rM (1, 1) step) := low2_sm hden m1 m2
      exact (ratT_sm (Int.mul_pos sT.1.1 g) ((sT.2.1.mul sM.2.2).mono (show n + 5 + 6 ≤ n + 20 by omega)))
    · have sT := rT_sm hy h1
      have hden : (0 : Int) < 1 * step.2 := by have := h1.1.1; omega
      have m1 : Sm 6 (1 * step.2 - step.1 * 1) := by
        rw [Int.one_mul, Int.mul_one]
        exact h1.2.2.sub h1.2.1
      have m2 : Sm 6 (1 * step.2) := by
        rw [Int.one_mul]
        exact h1.2.2.mono (by decide)
      have sM : SmR 6 (rM (1, 1) step) := low2_sm hden m1 m2
      exact (ratB_sm (Int.mul_pos sT.1.1 g) ((sT.2.2.mul sM.2.1).mono (show n + 5 + 6 ≤ n + 20 by omega)))
    · rw [c2, a2, b2, qv_one]
section
variable {P : Program} {w : World} {K : PySem.W.Frag} {mg : Str → Option Value} {base : Heap} {aN aO : Addr}
def spLasting (K : PySem.W.Frag) : Sp := fun vs H Q _ => ∃ (p : Addr) (row : List RT) (step : RT) (n k : Nat), vs = [.ref p, .int (k : Int)] ∧ LifeAt K H p row step ∧ LifeOk n row step ∧ k ≤ 70 ∧
  ∀ z x H', Same H H' → RAt K H' z x → SmR 1800 x → qv x = 1 - sumCh row step k → Q (.ref z) H'
/-- one less a ratio -/
theorem one_less {x : RT} {n : Nat} (h : SmR n x) : SmR (n + 1) (rM (1, 1) x) ∧ qv (rM (1, 1) x) = 1 - qv x := by
  obtain ⟨b1, b2⟩ := qv_rM one_red h.1
  have hden : (0 : Int) < 1 * x.2 := by have := h.1.1; omega
  have m1 : Sm (n + 1) (1 * x.2 - x.1 * 1) := by
    rw [Int.one_mul, Int.mul_one]
    exact h.2.2.sub h.2.1
  have m2 : Sm (n + 1) (1 * x.2) := by
    rw [Int.one_mul]
    exact h.2.2.mono (by omega)
  refine ⟨low2_sm hden m1 m2, ?_⟩
  rw [b2, qv_one]
def rowQ (row : List RT) : Rat := (row.map qv).sum
def spMiss (K : PySem.W.Frag) : Sp := fun vs H Q _ => ∃ (p : Addr) (row : List RT) (step : RT) (n : Nat), vs = [.ref p] ∧ LifeAt K H p row step ∧ LifeOk n row step ∧
  ∀ z x H', Same H H' → RAt K H' z x → SmR 1800 x → qv x = 1 - (rowQ row + behQ row step) → Q (.ref z) H'
theorem ok_miss {f fB fA fM : Addr} {fd fdB fdA fdM : FuncData} (F : Fun K "miss" "miss" s_miss f fd) (C : Consts K mg aN aO)
    (FB : Fun K "behind_row" "behind_row" s_behind fB fdB) (bB : Binds K fdB ["life"] []) (gB : mg "behind_row" = some (.ref fB)) (GB : FnOk P w K mg base CX0 4 fB fdB ["life"] (spBehind K))
    (FA : Fun K "added" "added" s_added fA fdA) (bA : Binds K fdA ["told"] []) (gA : mg "added" = some (.ref fA)) (GA : FnOk P w K mg base CX0 3 fA fdA ["told"] (spAdded K))
    (FM : Fun K "minus" "minus" s_minus fM fdM) (bM : Binds K fdM ["one", "other"] []) (gM : mg "minus" = some (.ref fM)) (GM : FnOk P w K mg base CX0 3 fM fdM ["one", "other"] (spTwo K (fun a b c d => a * d - c * b))) :
    FnOk P w K mg base CX0 5 f fd ["life"] (spMiss K) := by
  refine F.ok sc_miss (fun vs H Q E h => ?_) (fun cdv A outer s H vs Q E hr h => ?_)
  · obtain ⟨_, _, _, _, rfl, _⟩ := h
    rfl
  · obtain ⟨p, row, step, n, rfl, hlife, L, q⟩ := h
    have hr3 := hr.mono (show 3 ≤ 4 by decide)
    obtain ⟨pr, ps, l1, l2, l3⟩ := id hlife
    obtain ⟨rs, r1, r2⟩ := id l2
    have hn := L.n64
    refine ⟨_, (pss_one (ps_ret (pe_call GM hr3 (by rfl) gM FM.kp bM .nil pass0 (pa_cons (pe_glob (v := .ref aO) rfl C.gO rfl) (pa_cons (pe_call GA hr3 (by rfl) gA FA.kp bA .nil pass0 (pa_cons (pe_lst (StX.pa_star (pe_ix ix_tup (pv 0) pe_int (fun _ _ => rfl)) (pa_cons (pe_call GB hr (by rfl) gB FB.kp bB .nil pass0 (pa_cons (pv 0) pa_nil)) pa_nil))) pa_nil)) pa_nil))))), ?_⟩
    refine ⟨_, rfl, p, _, 0, _, rfl, rfl, l1, atI_nat (j := 0) rfl, pr, _, rfl, .inl r1, ?_⟩
    refine ⟨_, rfl, p, row, step, rfl, hlife, fun x hx => (L.sm x hx).mono (by omega), ⟨L.st.1.mono (by decide), L.st.2⟩, fun b H1 s1 hb => ?_⟩
    obtain ⟨sb, vb⟩ := behind_val L.sm L.st
    have hl := r2.length
    have hlen := L.len
    refine ⟨?_, fun z nz => ?_⟩
    · rw [List.length_append, List.length_map, List.length_singleton, hl, sizeLine_eq]
      omega
    have e := same_new (o := HO.lst (rs.map V.ref ++ [V.ref b])) nz
    have sm2 : ∀ x ∈ row ++ [behindR row step], SmR (n + 20) x := fun x hx => by
      rcases List.mem_append.mp hx with y | y
      · exact (L.sm x y).mono (by omega)
      · rw [List.mem_singleton.mp y]
        exact sb
    have O : Over1 (n + 20) 1300 (prodB (row ++ [behindR row step])) (row ++ [behindR row step]) := by
      refine ⟨prodB_pos fun x hx => (sm2 x hx).1.1, ?_, fun x hx => ⟨(sm2 x hx).1.1, prodB_dvd hx, (sm2 x hx).2.1⟩, ?_⟩
      · refine (prodB_sm fun x hx => (sm2 x hx).2.2).mono ?_
        rw [List.length_append, List.length_singleton]
        have : (n + 20) * (row.length + 1) ≤ 84 * 15 := Nat.mul_le_mul (by omega) (by omega)
        omega
      · rw [List.length_append, List.length_singleton]
        omega
    refine ⟨z, row ++ [behindR row step], _, _, _, rfl, ⟨rs ++ [b], ?_, (r2.tk (Tk.same (s1.trans e))).append (.cons (hb.tk (Tk.same e)) .nil)⟩, O, by omega, by decide, fun y x H2 s2 hy rx vx dx sx => ?_⟩
    · rw [List.map_append]
      exact SqL.of upd_same
    have sx2 : SmR 1730 x := ⟨rx, sx.mono (by omega), (dvd_small dx O.pos O.sm).mono (by decide)⟩
    refine ⟨aO, y, _, _, _, _, rfl, ⟨C.tO _, hy, by unfold Sm; decide, by unfold Sm; decide, sx2.2.1.mono (by decide), sx2.2.2.mono (by decide), by decide, rx.1⟩, fun b2 nb => ?_⟩
    have e2 := same_new (o := HO.tup [.int (rM (1, 1) x).1, .int (rM (1, 1) x).2]) nb
    obtain ⟨o1, o2⟩ := one_less sx2
    refine q b2 (rM (1, 1) x) _ (s1.trans (e.trans (s2.trans e2))) (SqT.of upd_same) (o1.mono (by decide)) ?_
    rw [o2, vx, List.map_append, List.map_singleton, sum_snoc, vb]
    rfl
end

end Fp

set_option Elab.async false
set_option linter.all false
set_option maxRecDepth 100000
set_option maxHeartbeats 4000000
set_option exponentiation.threshold 10000
namespace Fp
open PySem PySem.Spec PyProof.Rows L2
/-! ### the law's own sums, chances and rests -/
theorem sum_red {xs : List RT} {n d : Nat} {D : Int} {x : RT} (O : Over1 n d D xs) (hx : Red x) (h : qv x = (xs.map qv).sum) : x.2 ∣ D ∧ Sm (n + d + 11) x.1 := by
  have val : qv x = (((topsOn D xs).sum : Int) : Rat) / (D : Rat) := h.trans (tops_sum O.pos fun y hy => ⟨(O.ok y hy).1, (O.ok y hy).2.1⟩).symm
  obtain ⟨y1, y2⟩ := red_small hx O.pos val
  refine ⟨y1, ?_⟩
  have t := tops_sm (n := n) O.pos O.pos (Int.dvd_refl D) O.sm (xs := xs) fun y hy => ⟨(O.ok y hy).1, (O.ok y hy).2.2⟩
  have hlen := O.len
  unfold Sm
  have t2 : xs.length * 2 ^ (n + d) ≤ 1000 * 2 ^ (n + d) := Nat.mul_le_mul_right _ hlen
  have t3 : 2 ^ (n + d + 11) = 2048 * 2 ^ (n + d) := by rw [Nat.pow_add, Nat.mul_comm]
  have t4 : 0 < 2 ^ (n + d) := Nat.pow_pos (by decide)
  omega
theorem Over1.take {xs : List RT} {n d : Nat} {D : Int} (O : Over1 n d D xs) (i : Nat) : Over1 n d D (xs.take i) := ⟨O.pos, O.sm, fun x hx => O.ok x (List.mem_of_mem_take hx), by rw [List.length_take]; have := O.len; omega⟩
def rP (x y : RT) : RT := low2 (x.1 * y.2 + y.1 * x.2) (x.2 * y.2)
theorem qv_rP {x y : RT} (hx : Red x) (hy : 0 < y.2) : Red (rP x y) ∧ qv (rP x y) = qv x + qv y := by
  have hb := Int.mul_pos hx.1 hy
  refine ⟨low2_red (Int.ne_of_gt hb), ?_⟩
  unfold rP
  rw [qv_low2 hb, Rat.intCast_add, Rat.intCast_mul, Rat.intCast_mul, Rat.intCast_mul]
  have h1 := cast_ne (Int.ne_of_gt hx.1)
  have h2 := cast_ne (Int.ne_of_gt hy)
  unfold qv
  grind
section
variable {P : Program} {w : World} {K : PySem.W.Frag} {mg : Str → Option Value} {base : Heap}
def spLsum (K : PySem.W.Frag) (At : PySem.W.Frag → Hp → Addr → List RT → Prop) : Sp := fun vs H Q _ => ∃ (p : Addr) (xs : List RT) (n d : Nat) (D : Int), vs = [.ref p] ∧ At K H p xs ∧ Over1 n d D xs ∧ n ≤ 3500 ∧ d ≤ 3500 ∧
  ∀ z x H', Same H H' → RAt K H' z x → Red x → qv x = (xs.map qv).sum → x.2 ∣ D → Sm (n + d + 11) x.1 → Q (.ref z) H'
def spLpower (K : PySem.W.Frag) : Sp := fun vs H Q _ => ∃ (p : Addr) (x : RT) (far : Nat), vs = [.ref p, .int (far : Int)] ∧ RAt K H p x ∧ SmR 5 x ∧ far ≤ 80 ∧
  ∀ z y H', Same H H' → RAt K H' z y → SmR (1 + 5 * far) y → qv y = qv x ^ far → Q (.ref z) H'
theorem pow_val {l step : RT} (hl : 0 < l.2) (hs : 0 < step.2) (j : Nat) : qv l * qv step ^ j = ((l.1 * step.1 ^ j : Int) : Rat) / ((l.2 * step.2 ^ j : Int) : Rat) := by
  induction j with
  | zero =>
    rw [Rat.pow_zero, Int.pow_zero, Int.pow_zero, Int.mul_one, Int.mul_one]
    unfold qv
    grind
  | succ j ih =>
    have h1 := cast_ne (Int.ne_of_gt hs)
    have h2 := cast_ne (Int.ne_of_gt (Int.mul_pos hl (show (0 : Int) < step.2 ^ j from Int.pow_pos hs)))
    rw [Rat.pow_succ, ← Rat.mul_assoc, ih, Int.pow_succ, Int.pow_succ, ← Int.mul_assoc, ← Int.mul_assoc, Rat.intCast_mul (l.1 * step.1 ^ j), Rat.intCast_mul (l.2 * step.2 ^ j)]
    unfold qv
    grind
theorem zero_pow {j : Nat} (h : 0 < j) : (0 : Rat) ^ j = 0 := by
  obtain ⟨i, rfl⟩ : ∃ i, j = i + 1 := ⟨j - 1, by omega⟩
  rw [Rat.pow_succ]
  grind
def spLchance (K : PySem.W.Frag) : Sp := fun vs H Q _ => ∃ (p : Addr) (row : List RT) (step : RT) (n k : Nat), vs = [.ref p, .int (k : Int)] ∧ LifeAt K H p row step ∧ LifeOk n row step ∧ (row = [] → step = (0, 1)) ∧ 1 ≤ k ∧ k ≤ 70 ∧
  ∀ z x H', Same H H' → RAt K H' z x → SmR 500 x → qv x = chR row step (k - 1) → Q (.ref z) H'
end
/-- all chances from a place on -/
def restR (row : List RT) (step : RT) (k : Nat) : Rat := rowQ (row.drop k) + match row.getLast? with
  | none => 0
  | some l => qv l * qv step ^ (1 + (k - row.length)) / (1 - qv step)
theorem restR_zero {row : List RT} {step : RT} : restR row step 0 = rowQ row + behQ row step := by
  unfold restR behQ
  rw [List.drop_zero]
  match row.getLast? with
  | none => rfl
  | some l =>
    show _ + qv l * qv step ^ (1 + (0 - row.length)) / (1 - qv step) = _
    rw [Nat.zero_sub, Nat.add_zero]
    have : qv step ^ 1 = qv step := by
      rw [show (1 : Nat) = 0 + 1 from rfl, Rat.pow_succ, Rat.pow_zero]
      grind
    rw [this]
theorem restR_next {row : List RT} {step : RT} (hs : (1 : Rat) - qv step ≠ 0) (k : Nat) : restR row step k = chR row step k + restR row step (k + 1) := by
  rcases Classical.em (row = []) with z | z
  · subst z
    rw [chR_nil]
    unfold restR
    show (([].drop k : List RT).map qv).sum + 0 = 0 + ((([].drop (k + 1) : List RT).map qv).sum + 0)
    rw [List.drop_nil, List.drop_nil]
    grind
  · obtain ⟨l, g1, g2, g3⟩ := last_is z
    rcases (by omega : k < row.length ∨ row.length ≤ k) with hk | hk
    · have hg : row[k]? = some row[k] := List.getElem?_eq_getElem hk
      have ed : row.drop k = row[k] :: row.drop (k + 1) := List.drop_eq_getElem_cons hk
      rw [chR_in hg]
      unfold restR
      rw [g1, ed, show k - row.length = 0 by omega, show k + 1 - row.length = 0 by omega]
      show (qv row[k] + ((row.drop (k + 1)).map qv).sum) + _ = qv row[k] + (rowQ (row.drop (k + 1)) + _)
      unfold rowQ
      grind
    · rw [chR_out hk g1]
      unfold restR
      rw [g1, List.drop_eq_nil_of_le hk, List.drop_eq_nil_of_le (by omega)]
      show rowQ [] + qv l * qv step ^ (1 + (k - row.length)) / (1 - qv step) = qv l * qv step ^ (k + 1 - row.length) + (rowQ [] + qv l * qv step ^ (1 + (k + 1 - row.length)) / (1 - qv step))
      rw [show 1 + (k - row.length) = k + 1 - row.length by omega, show 1 + (k + 1 - row.length) = (k + 1 - row.length) + 1 by omega, Rat.pow_succ]
      grind
theorem restR_sum {row : List RT} {step : RT} (hs : (1 : Rat) - qv step ≠ 0) : ∀ k : Nat, restR row step 0 = sumCh row step k + restR row step k
  | 0 => by
    show _ = 0 + _
    grind
  | k + 1 => by
    rw [restR_sum hs k, restR_next hs k]
    show _ = sumCh row step k + chR row step k + _
    grind

end Fp

set_option Elab.async false
set_option linter.all false
set_option maxRecDepth 100000
set_option maxHeartbeats 4000000
set_option exponentiation.threshold 10000
namespace Fp
open PySem PySem.Spec PyProof.Rows L2
theorem tNoPart_go {σ : L2.St} {H : Hp} {Q : Option Int → Hp → Prop} (h : Q none H) : tNoPart σ H Q := h
theorem cutV_from (vs : List V) (n : Nat) : cutV vs (some (n : Int)) none = vs.drop n := by
  unfold cutV
  rw [HT.sIx_none, HT.sIx_nat]
  rcases Nat.le_total n vs.length with z | z
  · rw [Nat.min_eq_left z]
    rw [List.take_of_length_le (by rw [List.length_drop]; exact Nat.le_refl _)]
  · rw [Nat.min_eq_right z, List.drop_eq_nil_of_le (Nat.le_refl _), List.drop_eq_nil_of_le z, List.take_nil]
/-- row[n:] -/
theorem from_row {K : PySem.W.Frag} {H : Hp} {p : Addr} {xs : List RT} {n : Nat} {Q : VK} (h : RowAt K H p xs) (hq : ∀ r H', Same H H' → RowAt K H' r (xs.drop n) → Q (.ref r) H') : rSlA K (.ref p) (some (n : Int)) none H Q := by
  obtain ⟨rs, h1, h2⟩ := h
  have hl := h2.length
  refine ⟨p, _, rfl, h1, fun z => ?_, fun _ r nr => ?_⟩
  · have z1 := z.1
    rw [HT.sIx_nat, List.length_map] at z1
    refine hq p H (Same.refl H) ?_
    rcases (by omega : n = 0 ∨ xs.length = 0) with e | e
    · rw [e, List.drop_zero]
      exact ⟨rs, h1, h2⟩
    · have e2 := List.length_eq_zero_iff.mp e
      subst e2
      rw [List.drop_nil]
      exact ⟨rs, h1, h2⟩
  · rw [cutV_from]
    have s := same_new (o := HO.tup ((rs.map V.ref).drop n)) nr
    refine hq r _ s ⟨rs.drop n, ?_, (h2.drop n).tk (Tk.same s)⟩
    rw [List.map_drop]
    exact SqT.of upd_same
theorem over_two {x y : RT} {n a b : Nat} (hx : 0 < x.2) (hy : 0 < y.2) (sx : Sm n x.1) (sy : Sm n y.1) (dx : Sm a x.2) (dy : Sm b y.2) : Over1 n (a + b) (x.2 * y.2) [x, y] := by
  refine ⟨Int.mul_pos hx hy, dx.mul dy, fun z hz => ?_, by show 2 ≤ 1000; decide⟩
  rcases List.mem_cons.mp hz with e | e
  · subst e
    exact ⟨hx, Int.dvd_mul_right .., sx⟩
  · rw [List.mem_singleton.mp e]
    exact ⟨hy, Int.dvd_mul_left .., sy⟩
theorem sum_two (x y : RT) : (([x, y] : List RT).map qv).sum = qv x + qv y := by
  show qv x + (qv y + 0) = _
  grind
section
variable {P : Program} {w : World} {K : PySem.W.Frag} {mg : Str → Option Value} {base : Heap}
def spLrest (K : PySem.W.Frag) : Sp := fun vs H Q _ => ∃ (p : Addr) (row : List RT) (step : RT) (n k : Nat), vs = [.ref p, .int (k : Int)] ∧ LifeAt K H p row step ∧ LifeOk n row step ∧ (row = [] → step = (0, 1)) ∧ k ≤ 70 ∧
  ∀ z x H', Same H H' → RAt K H' z x → Red x → qv x = restR row step k → Sm 2350 x.1 → Sm 1350 x.2 → Q (.ref z) H'
end

end Fp

set_option Elab.async false
set_option linter.all false
set_option maxRecDepth 100000
set_option maxHeartbeats 4000000
set_option exponentiation.threshold 10000
namespace Fp
open PySem PySem.Spec PyProof.Rows L2
/-! ### the one ratio in lowest terms of a value -/
def rdq (q : Rat) : RT := (q.num, (q.den : Int))
theorem rdq_red (q : Rat) : Red (rdq q) := ⟨by have := q.den_nz; show (0 : Int) < (q.den : Int); omega, by
  have := q.reduced
  show Nat.gcd q.num.natAbs ((q.den : Int)).natAbs = 1
  rw [Int.natAbs_natCast]
  exact this⟩
theorem qv_rdq (q : Rat) : qv (rdq q) = q := by
  have h := Rat.num_divInt_den q
  rw [Rat.divInt_eq_div] at h
  exact h
theorem red_rdq {x : RT} (h : Red x) : x = rdq (qv x) := qv_inj h (rdq_red _) (qv_rdq _).symm
theorem is_rdq {x : RT} {q : Rat} (h : Red x) (e : qv x = q) : x = rdq q := by
  rw [← e]
  exact red_rdq h
mutual
theorem Dp.same' {K : PySem.W.Frag} {H H' : Hp} (e : Same H H') : ∀ {v : V} {d : PyData}, Dp K H v d → Dp K H' v d
  | _, _, .non => .non
  | _, _, .bl b => .bl b
  | _, _, .int i => .int i
  | _, _, .str x => .str x
  | _, _, .lst h r => .lst (e.seq h) (DpAll.same' e r)
  | _, _, .tup h r => .tup (sqT_same e h) (DpAll.same' e r)
theorem DpAll.same' {K : PySem.W.Frag} {H H' : Hp} (e : Same H H') : ∀ {vs : List V} {ds : List PyData}, DpAll K H vs ds → DpAll K H' vs ds
  | _, _, .nil => .nil
  | _, _, .cons h r => .cons (Dp.same' e h) (DpAll.same' e r)
end

end Fp

set_option Elab.async false
set_option linter.all false
set_option maxRecDepth 100000
set_option maxHeartbeats 4000000
set_option exponentiation.threshold 10000
namespace Fp
open PySem PySem.Spec PyProof.Rows L2
/-! ### lives shown -/
theorem sh_int {i : Int} (h : Sm 1900 i) : (PyData.int i).showable = true ∧ (PyData.int i).leavesShort 2000 = true := by
  have l : i.natAbs.log2 < 1900 := h.log (by decide)
  refine ⟨?_, ?_⟩
  · simp only [PyData.showable, decide_eq_true_eq]
    omega
  · simp only [PyData.leavesShort, decide_eq_true_eq]
    have e := int_text_length_le (k := 1900) (by decide) l
    show (Str.ofString (toString i)).length ≤ 2000
    rw [PySem.ofString_length]
    omega
/-- a thing that may be shown within others -/
structure Sh (c k : Nat) (d : PyData) : Prop where
  sh : d.showable = true
  lv : d.leavesShort 2000 = true
  co : cost d ≤ c
  dp : d.depth ≤ k
theorem Sh.shows {c k : Nat} {d : PyData} (h : Sh c k d) (hc : c ≤ 16000000) (hk : k ≤ 60) : Shows d := ⟨h.sh, h.lv, Nat.le_trans h.co hc, Nat.le_trans h.dp hk⟩
structure Shs (c k : Nat) (ds : List PyData) : Prop where
  sh : PyData.showableAll ds = true
  lv : PyData.leavesShortAll 2000 ds = true
  co : costAll ds ≤ c
  dp : PyData.depthAll ds ≤ k
theorem Shs.nil {k : Nat} : Shs 0 k [] := ⟨rfl, rfl, Nat.le_refl _, Nat.zero_le _⟩
theorem Shs.cons {c1 c2 k : Nat} {d : PyData} {ds : List PyData} (h : Sh c1 k d) (hs : Shs c2 k ds) : Shs (c1 + 2 + c2) k (d :: ds) := by
  refine ⟨?_, ?_, ?_, ?_⟩
  · show (d.showable && PyData.showableAll ds) = true
    rw [h.sh, hs.sh]
    rfl
  · show (d.leavesShort 2000 && PyData.leavesShortAll 2000 ds) = true
    rw [h.lv, hs.lv]
    rfl
  · show cost d + 2 + costAll ds ≤ _
    have := h.co
    have := hs.co
    omega
  · show max d.depth (PyData.depthAll ds) ≤ k
    have := h.dp
    have := hs.dp
    omega
theorem Shs.tup {c k : Nat} {ds : List PyData} (h : Shs c k ds) : Sh (c + 3) (k + 1) (.tuple ds) := ⟨h.sh, h.lv, Nat.add_le_add_right h.co 3, Nat.add_le_add_right h.dp 1⟩
theorem Shs.lst {c k : Nat} {ds : List PyData} (h : Shs c k ds) : Sh (c + 3) (k + 1) (.list ds) := ⟨h.sh, h.lv, Nat.add_le_add_right h.co 3, Nat.add_le_add_right h.dp 1⟩
theorem Sh.int {i : Int} (h : Sm 1900 i) : Sh 2000 0 (.int i) := ⟨(sh_int h).1, (sh_int h).2, Nat.le_refl _, Nat.le_refl _⟩
theorem Sh.bool {b : Bool} : Sh 5 0 (.bool b) := ⟨rfl, rfl, Nat.le_refl _, Nat.le_refl _⟩
theorem Sh.mono {c c2 k k2 : Nat} {d : PyData} (h : Sh c k d) (h1 : c ≤ c2) (h2 : k ≤ k2) : Sh c2 k2 d := ⟨h.sh, h.lv, Nat.le_trans h.co h1, Nat.le_trans h.dp h2⟩
theorem Shs.mono {c c2 k k2 : Nat} {ds : List PyData} (h : Shs c k ds) (h1 : c ≤ c2) (h2 : k ≤ k2) : Shs c2 k2 ds := ⟨h.sh, h.lv, Nat.le_trans h.co h1, Nat.le_trans h.dp h2⟩
def ratD (x : RT) : PyData := .tuple [.int x.1, .int x.2]
theorem Sh.rat {x : RT} {n : Nat} (h : SmR n x) (hn : n ≤ 1900) : Sh 4007 1 (ratD x) := (Shs.cons (Sh.int (h.2.1.mono hn)) (Shs.cons (Sh.int (h.2.2.mono hn)) Shs.nil)).tup
theorem Shs.row {n : Nat} (hn : n ≤ 1900) : ∀ {xs : List RT}, (∀ x ∈ xs, SmR n x) → Shs (4009 * xs.length) 1 (rowD xs)
  | [], _ => Shs.nil
  | x :: r, h => by
    have h1 := Shs.cons (Sh.rat (h x (List.mem_cons_self ..)) hn) (Shs.row hn fun y hy => h y (List.mem_cons_of_mem _ hy))
    refine h1.mono ?_ (Nat.le_refl _)
    rw [List.length_cons]
    omega
def lifeD (row : List RT) (step : RT) : PyData := .tuple [.tuple (rowD row), ratD step]
theorem Sh.life {n : Nat} {row : List RT} {step : RT} (hn : n ≤ 1900) (h : ∀ x ∈ row, SmR n x) (hs : SmR n step) (hl : row.length ≤ 100) : Sh 500000 3 (lifeD row step) := by
  have h1 := (Shs.row hn h).tup
  have h2 := (Shs.cons h1 (Shs.cons ((Sh.rat hs hn).mono (Nat.le_refl _) (by decide : 1 ≤ 2)) Shs.nil)).tup
  exact h2.mono (by omega) (Nat.le_refl _)
theorem LifeAt.dp {K : PySem.W.Frag} {H : Hp} {p : Addr} {row : List RT} {step : RT} (h : LifeAt K H p row step) : Dp K H (.ref p) (lifeD row step) := by
  obtain ⟨pr, ps, h1, h2, h3⟩ := h
  exact .tup h1 (.cons h2.dp (.cons h3.dp .nil))

end Fp

set_option Elab.async false
set_option linter.all false
set_option maxRecDepth 100000
set_option maxHeartbeats 4000000
set_option exponentiation.threshold 10000
namespace Fp
open PySem PySem.Spec PyProof.Rows L2
theorem flat_rep {α : Type} (a : α) : ∀ k : Nat, (List.replicate k [a]).flatten = List.replicate k a
  | 0 => rfl
  | k + 1 => by
    rw [List.replicate_succ, List.flatten_cons, flat_rep a k]
    rfl
theorem RsAt.rep {K : PySem.W.Frag} {H : Hp} {p : Addr} {x : RT} (h : RAt K H p x) : ∀ k : Nat, RsAt K H (List.replicate k p) (List.replicate k x)
  | 0 => .nil
  | k + 1 => .cons h (RsAt.rep h k)
/-- ((0, 1),) * k -/
theorem rep_row {K : PySem.W.Frag} {H : Hp} {p a : Addr} {x : RT} {k : Nat} {Q : VK} (h : SqT K H p [.ref a]) (ha : RAt K H a x) (hk : k ≤ 1000) (q : ∀ r H', Same H H' → RowAt K H' r (List.replicate k x) → Q (.ref r) H') : rRepA K (.ref p) (.int (k : Int)) H Q := by
  refine ⟨p, k, _, rfl, rfl, h, by simp, by omega, by omega, by show 1 ≤ 1000; decide, fun z => ?_, fun _ r nr => ?_⟩
  · have e : k = 1 := by omega
    subst e
    exact q p H (Same.refl H) ⟨[a], h, .cons ha .nil⟩
  · have s := same_new (o := HO.tup (List.replicate (k : Int).toNat [V.ref a]).flatten) nr
    refine q r _ s ⟨List.replicate k a, ?_, (RsAt.rep ha k).tk (Tk.same s)⟩
    have e : (List.replicate k a).map V.ref = (List.replicate (k : Int).toNat [V.ref a]).flatten := by
      rw [flat_rep, List.map_replicate, Int.toNat_natCast]
    rw [e]
    exact SqT.of upd_same

end Fp

set_option Elab.async false
set_option linter.all false
set_option maxRecDepth 100000
set_option maxHeartbeats 4000000
set_option exponentiation.threshold 10000
namespace Fp
open PySem PySem.Spec PyProof.Rows L2
/-! ### the short life with the same chances: what both sides come to -/
def trimZ (xs : List RT) : List RT := (xs.reverse.dropWhile (fun x => decide (x = ((0 : Int), (1 : Int))))).reverse
theorem trimZ_nil : trimZ [] = [] := rfl
theorem trimZ_nought (xs : List RT) : trimZ (xs ++ [(0, 1)]) = trimZ xs := by
  unfold trimZ
  rw [List.reverse_append]
  show (List.dropWhile _ ((0, 1) :: xs.reverse)).reverse = _
  rw [List.dropWhile_cons_of_pos (by decide)]
theorem trimZ_stop (xs : List RT) {x : RT} (h : x ≠ (0, 1)) : trimZ (xs ++ [x]) = xs ++ [x] := by
  unfold trimZ
  rw [List.reverse_append]
  show (List.dropWhile _ (x :: xs.reverse)).reverse = _
  rw [List.dropWhile_cons_of_neg (by simpa using h), List.reverse_cons, List.reverse_reverse]
theorem trimZ_noughts (xs : List RT) : ∀ n, trimZ (xs ++ List.replicate n (0, 1)) = trimZ xs
  | 0 => by rw [List.replicate_zero, List.append_nil]
  | n + 1 => by rw [List.replicate_succ', ← List.append_assoc, trimZ_nought, trimZ_noughts xs n]
theorem trimZ_cases (xs : List RT) : trimZ xs = [] ∨ ∃ ys y, trimZ xs = ys ++ [y] ∧ y ≠ (0, 1) := by
  suffices h : ∀ n (xs : List RT), xs.length = n → trimZ xs = [] ∨ ∃ ys y, trimZ xs = ys ++ [y] ∧ y ≠ (0, 1) from h _ xs rfl
  intro n
  induction n with
  | zero =>
    intro xs h
    rw [List.length_eq_zero_iff.mp h]
    exact .inl rfl
  | succ n ih =>
    intro xs h
    rcases snoc_cases xs with rfl | ⟨ys, y, rfl⟩
    · cases h
    · rcases Classical.em (y = (0, 1)) with rfl | hy
      · rw [trimZ_nought]
        exact ih ys (by simpa using h)
      · rw [trimZ_stop _ hy]
        exact .inr ⟨ys, y, rfl, hy⟩
theorem trimZ_idem (xs : List RT) : trimZ (trimZ xs) = trimZ xs := by
  rcases trimZ_cases xs with h | ⟨ys, y, h, hy⟩
  · rw [h]
    rfl
  · rw [h, trimZ_stop _ hy]
def revG (step : RT) : List RT → List RT
  | a :: b :: r => if a = rT b step then revG step (b :: r) else a :: b :: r
  | l => l
def trimG (xs : List RT) (step : RT) : List RT := (revG step xs.reverse).reverse
theorem trimG_one (a step : RT) : trimG [a] step = [a] := rfl
theorem rev_two (xs : List RT) (b a : RT) : (xs ++ [b] ++ [a]).reverse = a :: b :: xs.reverse := by
  rw [List.reverse_append, List.reverse_append]
  rfl
theorem rev_one (xs : List RT) (b : RT) : (xs ++ [b]).reverse = b :: xs.reverse := by
  rw [List.reverse_append]
  rfl
theorem trimG_cut (xs : List RT) (b step : RT) : trimG (xs ++ [b] ++ [rT b step]) step = trimG (xs ++ [b]) step := by
  unfold trimG
  rw [rev_two, rev_one]
  show (if rT b step = rT b step then revG step (b :: xs.reverse) else _).reverse = _
  rw [if_pos rfl]
theorem trimG_stop (xs : List RT) {a b step : RT} (h : a ≠ rT b step) : trimG (xs ++ [b] ++ [a]) step = xs ++ [b] ++ [a] := by
  unfold trimG
  rw [rev_two]
  show (if a = rT b step then _ else a :: b :: xs.reverse).reverse = _
  rw [if_neg h, List.reverse_cons, List.reverse_cons, List.reverse_reverse]
theorem low2_nought {b : Int} (hb : 0 < b) : low2 0 b = (0, 1) :=
  red_eq (low2_red (Int.ne_of_gt hb)) ⟨by decide, by decide⟩ (by
    have := low2_cross (t := 0) hb
    rw [Int.zero_mul] at this
    have e : (low2 0 b).1 = 0 := by
      rcases Int.mul_eq_zero.mp this with z | z
      · exact z
      · omega
    rw [e]
    show (0 : Int) * 1 = 0 * _
    rw [Int.zero_mul, Int.zero_mul])
theorem low2_zero {t b : Int} (hb : 0 < b) : low2 t b = (0, 1) ↔ t = 0 := by
  refine ⟨fun h => ?_, fun h => by rw [h]; exact low2_nought hb⟩
  have := low2_cross (t := t) hb
  rw [h] at this
  dsimp only at this
  omega
theorem red_zero {x : RT} (h : Red x) : x = (0, 1) ↔ x.1 = 0 := by
  refine ⟨fun z => by rw [z], fun z => ?_⟩
  refine red_eq h ⟨by decide, by decide⟩ ?_
  rw [z]
  simp
theorem rT_zero {x y : RT} (hx : Red x) (hy : Red y) : rT x y = (0, 1) ↔ x = (0, 1) ∨ y = (0, 1) := by
  unfold rT
  rw [low2_zero (Int.mul_pos hx.1 hy.1), red_zero hx, red_zero hy, Int.mul_eq_zero]
/-- the last of a trimmed one isn't nought, and it is trimmed -/
theorem trimG_good (step : RT) : ∀ (n : Nat) (xs : List RT) (a : RT), xs.length = n → (∀ x ∈ xs ++ [a], Red x) → Red step → a ≠ (0, 1) → step ≠ (0, 1) →
    ∃ ys b, trimG (xs ++ [a]) step = ys ++ [b] ∧ b ≠ (0, 1) ∧ trimG (ys ++ [b]) step = ys ++ [b] ∧ (ys ++ [b]).length ≤ (xs ++ [a]).length ∧ ∀ x ∈ ys ++ [b], x ∈ xs ++ [a] := by
  intro n
  induction n with
  | zero =>
    intro xs a h _ _ ha _
    rw [List.length_eq_zero_iff.mp h]
    exact ⟨[], a, trimG_one a step, ha, trimG_one a step, Nat.le_refl _, fun x hx => hx⟩
  | succ n ih =>
    intro xs a h hr hs ha hz
    rcases snoc_cases xs with rfl | ⟨ys, b, rfl⟩
    · cases h
    · rcases Classical.em (a = rT b step) with rfl | hn
      · have hb : Red b := hr b (by simp)
        have hb0 : b ≠ (0, 1) := fun z => ha ((rT_zero hb hs).mpr (.inl z))
        obtain ⟨zs, c, e1, e2, e3, e4, e5⟩ := ih ys b (by simpa using h) (fun x hx => hr x (List.mem_append_left _ hx)) hs hb0 hz
        rw [trimG_cut]
        refine ⟨zs, c, e1, e2, e3, ?_, fun x hx => List.mem_append_left _ (e5 x hx)⟩
        rw [List.length_append (as := ys ++ [b])]
        omega
      · rw [trimG_stop _ hn]
        exact ⟨ys ++ [b], a, rfl, ha, trimG_stop _ hn, Nat.le_refl _, fun x hx => hx⟩
/-- the row has a last one that isn't nought, and goes on by the step -/
def GoesOn (row : List RT) (step : RT) : Prop := step ≠ (0, 1) ∧ ∃ ys y, row = ys ++ [y] ∧ y ≠ (0, 1)
open Classical in
noncomputable def shortL (row : List RT) (step : RT) : List RT × RT := if GoesOn row step then (trimG row step, step) else (trimZ row, (0, 1))
theorem shortL_go {row : List RT} {step : RT} (h : GoesOn row step) : shortL row step = (trimG row step, step) := by
  unfold shortL
  rw [if_pos h]
theorem shortL_end {row : List RT} {step : RT} (h : ¬ GoesOn row step) : shortL row step = (trimZ row, (0, 1)) := by
  unfold shortL
  rw [if_neg h]
theorem goes_snoc {ys : List RT} {y step : RT} : GoesOn (ys ++ [y]) step ↔ step ≠ (0, 1) ∧ y ≠ (0, 1) := by
  refine ⟨fun h => ?_, fun h => ⟨h.1, ys, y, rfl, h.2⟩⟩
  obtain ⟨h1, zs, z, e, hz⟩ := h
  have e2 := List.append_inj_right' e rfl
  cases e2
  exact ⟨h1, hz⟩
theorem goes_nil {step : RT} : ¬ GoesOn [] step := by
  rintro ⟨_, ys, y, e, _⟩
  have := congrArg List.length e
  simp at this
theorem shortL_idem {row : List RT} {step : RT} (hr : ∀ x ∈ row, Red x) (hs : Red step) : shortL (shortL row step).1 (shortL row step).2 = shortL row step := by
  rcases Classical.em (GoesOn row step) with h | h
  · obtain ⟨h1, ys, y, rfl, hy⟩ := id h
    obtain ⟨zs, z, e1, e2, e3, _, _⟩ := trimG_good step _ ys y rfl hr hs hy h1
    rw [shortL_go h, e1]
    dsimp only
    rw [shortL_go (goes_snoc.mpr ⟨h1, e2⟩), e3]
  · rw [shortL_end h]
    dsimp only
    rw [shortL_end (fun z => z.1 rfl), trimZ_idem]
theorem shortL_more {row : List RT} {step l : RT} (h : GoesOn (row ++ [l]) step) (hl : Red l) (hs : Red step) : GoesOn (row ++ [l] ++ [rT l step]) step ∧ shortL (row ++ [l] ++ [rT l step]) step = shortL (row ++ [l]) step := by
  obtain ⟨h1, h2⟩ := goes_snoc.mp h
  have g : GoesOn (row ++ [l] ++ [rT l step]) step := goes_snoc.mpr ⟨h1, fun z => by
    rcases (rT_zero hl hs).mp z with y | y
    · exact h2 y
    · exact h1 y⟩
  exact ⟨g, by rw [shortL_go g, shortL_go h, trimG_cut]⟩
theorem shortL_noughts {row : List RT} {step st : RT} {n : Nat} (h : ¬ GoesOn row step) (hn : n = 0 → ¬ GoesOn row st) : ¬ GoesOn (row ++ List.replicate n (0, 1)) st ∧ shortL (row ++ List.replicate n (0, 1)) st = shortL row step := by
  have g : ¬ GoesOn (row ++ List.replicate n (0, 1)) st := by
    match n, hn with
    | 0, hn =>
      rw [List.replicate_zero, List.append_nil]
      exact hn rfl
    | n + 1, _ =>
      rw [List.replicate_succ', ← List.append_assoc]
      exact fun z => (goes_snoc.mp z).2 rfl
  exact ⟨g, by rw [shortL_end g, shortL_end h, trimZ_noughts]⟩
theorem trimZ_mem : ∀ {n : Nat} {xs : List RT}, xs.length = n → ∀ x ∈ trimZ xs, x ∈ xs := by
  intro n
  induction n with
  | zero =>
    intro xs h x hx
    rw [List.length_eq_zero_iff.mp h] at hx
    simp [trimZ] at hx
  | succ n ih =>
    intro xs h x hx
    rcases snoc_cases xs with rfl | ⟨ys, y, rfl⟩
    · cases h
    · rcases Classical.em (y = (0, 1)) with rfl | hy
      · rw [trimZ_nought] at hx
        exact List.mem_append_left _ (ih (by simpa using h) x hx)
      · rw [trimZ_stop _ hy] at hx
        exact hx
theorem trimZ_len : ∀ {n : Nat} {xs : List RT}, xs.length = n → (trimZ xs).length ≤ xs.length := by
  intro n
  induction n with
  | zero =>
    intro xs h
    rw [List.length_eq_zero_iff.mp h]
    exact Nat.le_refl _
  | succ n ih =>
    intro xs h
    rcases snoc_cases xs with rfl | ⟨ys, y, rfl⟩
    · cases h
    · rcases Classical.em (y = (0, 1)) with rfl | hy
      · rw [trimZ_nought]
        have := ih (xs := ys) (by simpa using h)
        rw [List.length_append]
        omega
      · rw [trimZ_stop _ hy]
        exact Nat.le_refl _
theorem shortL_mem {row : List RT} {step : RT} (hr : ∀ x ∈ row, Red x) (hs : Red step) : (∀ x ∈ (shortL row step).1, x ∈ row) ∧ (shortL row step).1.length ≤ row.length ∧ ((shortL row step).2 = step ∨ (shortL row step).2 = (0, 1)) := by
  rcases Classical.em (GoesOn row step) with h | h
  · obtain ⟨h1, ys, y, rfl, hy⟩ := id h
    obtain ⟨zs, z, e1, e2, e3, e4, e5⟩ := trimG_good step _ ys y rfl hr hs hy h1
    rw [shortL_go h, e1]
    exact ⟨e5, e4, .inl rfl⟩
  · rw [shortL_end h]
    exact ⟨trimZ_mem rfl, trimZ_len rfl, .inr rfl⟩

end Fp

set_option Elab.async false
set_option linter.all false
set_option maxRecDepth 100000
set_option maxHeartbeats 4000000
set_option exponentiation.threshold 10000
namespace Fp
open PySem PySem.Spec PyProof.Rows L2
abbrev s_wn : Stmt := topS 20
theorem sc_wn : FnScope ["row", "end"] ["row"] (defScope s_wn) := ⟨rfl, rfl, rfl, by decide +kernel, rfl, by decide +kernel, by decide +kernel⟩
theorem behindR_zero {row : List RT} {step : RT} (hr : ∀ x ∈ row, Red x) (hs : Red step) (h1 : step.1 < step.2) : behindR row step = (0, 1) ↔ ¬ GoesOn row step := by
  rcases snoc_cases row with rfl | ⟨ys, y, rfl⟩
  · exact ⟨fun _ => goes_nil, fun _ => rfl⟩
  · have hy : Red y := hr y (by simp)
    rw [behindR_snoc, goes_snoc]
    unfold rO
    have hq : Red (rT y step) := low2_red (Int.ne_of_gt (Int.mul_pos hy.1 hs.1))
    rw [low2_zero (Int.mul_pos hq.1 (gap_pos hs h1)), Int.mul_eq_zero]
    have hm := (low2_red (t := 1 * step.2 - step.1 * 1) (b := 1 * step.2) (by have := hs.1; omega)).1
    have e1 : (rT y step).1 = 0 ↔ rT y step = (0, 1) := (red_zero hq).symm
    rw [e1, rT_zero hy hs]
    refine ⟨fun z => ?_, fun z => .inl ?_⟩
    · rcases z with (z | z) | z
      · exact fun g => g.2 z
      · exact fun g => g.1 z
      · have : (0 : Int) < (rM (1, 1) step).2 := hm
        omega
    · rcases Classical.em (y = (0, 1)) with a | a
      · exact .inl a
      · rcases Classical.em (step = (0, 1)) with b | b
        · exact .inr b
        · exact absurd ⟨b, a⟩ z
section
variable {P : Program} {w : World} {K : PySem.W.Frag} {mg : Str → Option Value} {base : Heap} {aN aO : Addr}
/-! ### without noughts at the end -/
def spWn (K : PySem.W.Frag) : Sp := fun vs H Q _ => ∃ (p : Addr) (row : List RT), vs = [.ref p] ∧ RowAt K H p row ∧ ∀ z H', Same H H' → LifeAt K H' z (trimZ row) (0, 1) → Q (.ref z) H'
theorem ok_wn {f : Addr} {fd : FuncData} {k : Nat} (F : Fun K "without_noughts" "without_noughts" s_wn f fd) (C : Consts K mg aN aO) (ml : mg "len" = none) : FnOk P w K mg base CX0 (k + 1) f fd ["row"] (spWn K) := by
  refine F.ok sc_wn (fun vs H Q E h => ?_) (fun cdv A outer s H vs Q E hr h => ?_)
  · obtain ⟨_, _, rfl, _⟩ := h
    rfl
  · obtain ⟨p, row, rfl, hrow, q⟩ := h
    refine ⟨_, (pss_cons (ps_set (i := 1) sc_wn.nd rfl (.inl rfl) (pe_callB call_len_seq (by rfl) ml PySem.boot_len (pa_cons (pv 0) pa_nil))) (pss_cons (ps_while PassesOwn.never (PW.pt (pw_and (pt_cmpR op_gt (pv 1) pe_int (nomark _)) (pw_and1 (pt_cmpR (op_eqD hr.units) (pe_ix ix_tup (pv 0) (pe_op op_sub (pv 1) pe_int) (fun _ _ => rfl)) (pe_glob (v := .ref aN) rfl C.gN rfl) (nomark _)))))
          (pss_one (ps_aug (i := 1) sc_wn.nd rfl (.inl rfl) pe_int ip_sub))) (pss_one (ps_ret (pe_tup (pa_cons (pe_slice sl_tupA (pv 0) po_none (po_some (pv 1))) (pa_cons (pe_glob (v := .ref aN) rfl C.gN rfl) pa_nil))))))), ?_⟩
    obtain ⟨rs, r1, r2⟩ := id hrow
    have hl := r2.length
    refine ⟨_, rfl, p, _, rfl, .inr r1, ?_⟩
    refine ⟨fun m σ H1 => H1 = H ∧ m ≤ row.length ∧ σ = [some (.ref p), some (.int (m : Int))] ∧ trimZ (row.take m) = trimZ row, ⟨row.length, rfl, Nat.le_refl _, ?_, by rw [List.take_length]⟩, ?_⟩
    · show [some (V.ref p), some (V.int (((rs.map V.ref).length : Nat) : Int))] = _
      rw [List.length_map, hl]
    · rintro m σ H1 ⟨rfl, hm, rfl, et⟩
      have done : (m = 0 ∨ ∃ x, row[m - 1]? = some x ∧ x ≠ (0, 1)) → trimZ row = row.take m := fun z => by
        rw [← et]
        rcases z with rfl | ⟨x, hx, hne⟩
        · rfl
        · have hm0 : m ≠ 0 ∨ m = 0 := by omega
          match m, hx with
          | 0, hx =>
            rfl
          | m + 1, hx =>
            rw [List.take_add_one, show row[m]? = some x from hx]
            exact trimZ_stop _ hne
      have ends : trimZ row = row.take m → tRet (tTup (tCons (tSl (rSlA K) (tVar 0) tNoPart (tPart (tVar 1))) (tCons (tC (.ref aN)) tNil))) { nx := fun _ H' => Q .non H', rt := Q } [some (.ref p), some (.int (m : Int))] H1 := fun z => by
        refine ⟨_, rfl, _, rfl, m, rfl, ?_⟩
        refine take_row hrow fun r H2 s2 hr2 => ?_
        refine ⟨by show 2 ≤ sizeLine; decide, fun y ny => ?_⟩
        have e := same_new (o := HO.tup [.ref r, .ref aN]) ny
        refine q y _ (s2.trans e) ⟨r, aN, SqT.of upd_same, ?_, C.tN _⟩
        rw [z]
        exact hr2.tk (Tk.same e)
      refine ⟨_, rfl, m, 0, rfl, rfl, _, rfl, ite2 (fun c => ?_) (fun c => ?_)⟩
      · have hm0 : 0 < m := by
          have : (0 : Int) < (m : Int) := of_decide_eq_true c
          omega
        have hg : row[m - 1]? = some row[m - 1] := List.getElem?_eq_getElem (by omega)
        refine ⟨_, rfl, _, rfl, m, 1, rfl, rfl, ?_⟩
        refine ix_row (j := m - 1) hrow (by omega) hg fun r hr2 => ?_
        refine tC_go (eq_rat hr2 (C.tN _) ?_)
        refine ⟨_, rfl, ite2 (fun c2 => ?_) (fun c2 => ?_)⟩
        · have ez : row[m - 1] = (0, 1) := of_decide_eq_true c2
          refine ⟨fun σ' H' => H' = H1 ∧ σ' = [some (.ref p), some (.int ((m - 1 : Nat) : Int))], fun σ' H' z => ?_, ?_⟩
          · obtain ⟨rfl, rfl⟩ := z
            refine ⟨m - 1, by omega, rfl, by omega, rfl, ?_⟩
            rw [← et]
            obtain ⟨k, rfl⟩ : ∃ k, m = k + 1 := ⟨m - 1, by omega⟩
            rw [List.take_add_one, show row[k]? = some (0, 1) from by rw [← ez]; exact hg]
            exact (trimZ_nought _).symm
          · refine ⟨_, rfl, m, 1, rfl, rfl, rfl, ?_⟩
            show [some (V.ref p), some (V.int ((m : Int) - 1))] = _
            rw [show (m : Int) - 1 = ((m - 1 : Nat) : Int) by omega]
        · exact ends (done (.inr ⟨_, hg, fun z => c2 (decide_eq_true z)⟩))
      · have hm0 : m = 0 := by
          have : ¬ (0 : Int) < (m : Int) := fun z => c (decide_eq_true z)
          omega
        exact iteF (ends (done (.inl hm0)))
/-! ### short -/
theorem cutV_drop (vs : List V) (h : vs ≠ []) : cutV vs none (some (-1)) = vs.take (vs.length - 1) := by
  have hp := List.length_pos_iff.mpr h
  unfold cutV
  rw [HT.sIx_none]
  have e0 : HT.sIx vs.length vs.length (some (-1)) = ((-1 : Int) + (vs.length : Int)).toNat := by
    unfold HT.sIx
    rfl
  have e : HT.sIx vs.length vs.length (some (-1)) = vs.length - 1 := by
    rw [e0]
    omega
  rw [e, Nat.sub_zero, List.drop_zero]
theorem drop_row {K : PySem.W.Frag} {H : Hp} {p : Addr} {xs : List RT} {y : RT} {Q : VK} (h : RowAt K H p (xs ++ [y])) (hq : ∀ r H', Same H H' → RowAt K H' r xs → Q (.ref r) H') : rSlA K (.ref p) none (some (-1)) H Q := by
  obtain ⟨rs, h1, h2⟩ := h
  have hl := h2.length
  rw [List.length_append, List.length_singleton] at hl
  have hne : rs.map V.ref ≠ [] := fun z => by
    have := congrArg List.length z
    rw [List.length_map, List.length_nil] at this
    omega
  refine ⟨p, _, rfl, h1, fun z => ?_, fun _ r nr => ?_⟩
  · have z2 := z.2
    have e0 : HT.sIx (rs.map V.ref).length (rs.map V.ref).length (some (-1)) = ((-1 : Int) + ((rs.map V.ref).length : Int)).toNat := by
      unfold HT.sIx
      rfl
    have e : HT.sIx (rs.map V.ref).length (rs.map V.ref).length (some (-1)) = (rs.map V.ref).length - 1 := by
      rw [e0, List.length_map]
      omega
    rw [e, List.length_map] at z2
    omega
  · rw [cutV_drop _ hne, List.length_map]
    have s := same_new (o := HO.tup ((rs.map V.ref).take (rs.length - 1))) nr
    refine hq r _ s ⟨rs.take (rs.length - 1), ?_, ?_⟩
    · rw [List.map_take]
      exact SqT.of upd_same
    · have h3 := (h2.take (rs.length - 1)).tk (Tk.same (K := K) s)
      rw [hl, Nat.add_sub_cancel, List.take_left'] at h3
      · rw [hl, Nat.add_sub_cancel]
        exact h3
      · rfl
def spShort (K : PySem.W.Frag) : Sp := fun vs H Q _ => ∃ (p : Addr) (row : List RT) (step : RT), vs = [.ref p] ∧ LifeAt K H p row step ∧ (∀ x ∈ row, SmR 1900 x) ∧ StepOk 300 step ∧
  ∀ z H', Same H H' → LifeAt K H' z (shortL row step).1 (shortL row step).2 → Q (.ref z) H'
end

end Fp

set_option Elab.async false
set_option linter.all false
set_option maxRecDepth 100000
set_option maxHeartbeats 4000000
set_option exponentiation.threshold 10000
namespace Fp
open PySem PySem.Spec PyProof.Rows L2
/-! ### the law's own short life -/
abbrev N_lshort : List Str := ["_law_life_here", "_law_row", "_law_step", "_law_some", "_law_first", "_law_k"]
theorem trimZ_all {row : List RT} (h : ∀ y ∈ row, y = (0, 1)) : trimZ row = [] := by
  have e : row = [] ++ List.replicate row.length (0, 1) := by
    rw [List.nil_append]
    exact List.eq_replicate_of_mem h
  rw [e, trimZ_noughts]
  rfl
theorem trimZ_at {row : List RT} {m : Nat} {x : RT} (h : row[m]? = some x) (hx : x ≠ (0, 1)) (hr : ∀ j y, m < j → row[j]? = some y → y = (0, 1)) : trimZ row = row.take (m + 1) := by
  have e : row = row.take (m + 1) ++ List.replicate (row.drop (m + 1)).length (0, 1) := by
    rw [← List.eq_replicate_of_mem (l := row.drop (m + 1)) (a := (0, 1)) ?_, List.take_append_drop]
    intro y hy
    obtain ⟨i, hi⟩ := List.mem_iff_getElem?.mp hy
    rw [List.getElem?_drop] at hi
    exact hr _ y (by omega) hi
  have e2 : trimZ row = trimZ (row.take (m + 1)) := by
    conv => lhs; rw [e]
    exact trimZ_noughts _ _
  rw [e2, List.take_add_one, h]
  exact trimZ_stop _ hx
section
variable {P : Program} {w : World} {K : PySem.W.Frag} {mg : Str → Option Value} {base : Heap}
def spLshort (K : PySem.W.Frag) : Sp := fun vs H Q _ => ∃ (p : Addr) (row : List RT) (step : RT), vs = [.ref p] ∧ LifeAt K H p row step ∧ row.length ≤ 1000 ∧ (row = [] → step = (0, 1)) ∧ (∀ x ∈ row, SmR 1900 x) ∧ StepOk 300 step ∧
  ∀ z H', Same H H' → LifeAt K H' z (shortL row step).1 (shortL row step).2 → Q (.ref z) H'
end

end Fp

set_option Elab.async false
set_option linter.all false
set_option maxRecDepth 100000
set_option maxHeartbeats 4000000
set_option exponentiation.threshold 10000
namespace Fp
open PySem PySem.Spec PyProof.Rows L2
/-! ### chances put anew: the recursion -/
def sumTo (n : Nat) (f : Nat → Rat) : Rat := ((List.range n).map f).sum
def renL (a b : Nat → Rat) : Nat → List Rat
  | 0 => []
  | n + 1 => renL a b n ++ [b n + sumTo n fun j => a j * (renL a b n)[n - 1 - j]?.getD 0]
theorem renL_len (a b : Nat → Rat) : ∀ n, (renL a b n).length = n
  | 0 => rfl
  | n + 1 => by
    show (renL a b n ++ [_]).length = _
    rw [List.length_append, renL_len a b n]
    rfl
theorem renL_at (a b : Nat → Rat) : ∀ {n j : Nat}, j < n → (renL a b n)[j]? = (renL a b (j + 1))[j]?
  | 0, j, h => absurd h (Nat.not_lt_zero _)
  | n + 1, j, h => by
    rcases (by omega : j < n ∨ j = n) with z | z
    · show (renL a b n ++ [_])[j]? = _
      rw [List.getElem?_append_left (by rw [renL_len]; exact z)]
      exact renL_at a b z
    · subst z
      rfl
/-- what is at n: the told one, and by each chance what is so much before -/
def renQ (a b : Nat → Rat) (n : Nat) : Rat := (renL a b (n + 1))[n]?.getD 0
theorem renQ_is (a b : Nat → Rat) (n : Nat) : renQ a b n = b n + sumTo n fun j => a j * renQ a b (n - 1 - j) := by
  unfold renQ
  show (renL a b n ++ [b n + sumTo n fun j => a j * (renL a b n)[n - 1 - j]?.getD 0])[n]?.getD 0 = _
  rw [List.getElem?_append_right (by rw [renL_len]; exact Nat.le_refl _), renL_len, Nat.sub_self]
  show b n + sumTo n (fun j => a j * (renL a b n)[n - 1 - j]?.getD 0) = _
  congr 1
  unfold sumTo
  congr 1
  refine List.map_congr_left fun j hj => ?_
  have := List.mem_range.mp hj
  rw [renL_at a b (show n - 1 - j < n by omega)]
def qa (xs : List RT) (j : Nat) : Rat := match xs[j]? with
  | some x => qv x
  | none => 0
theorem qa_at {xs : List RT} {j : Nat} {x : RT} (h : xs[j]? = some x) : qa xs j = qv x := by
  unfold qa
  rw [h]
def getI (xs : List Int) (j : Nat) : Int := xs[j]?.getD 0
theorem getI_at {xs : List Int} {j : Nat} (h : j < xs.length) : xs[j]? = some (getI xs j) := by
  unfold getI
  rw [List.getElem?_eq_getElem h]
  rfl
theorem CMulA.of {n m : Nat} {a b : Int} (ha : Sm n a) (hb : Sm m b) (hn : 0 < n) (hm : 0 < m) (h : n + m ≤ 1000000) : CMulA a b := by
  unfold CMulA
  have := ha.log hn
  have := hb.log hm
  omega
theorem sum_sm {e : Nat} : ∀ {xs : List Int}, (∀ x ∈ xs, Sm e x) → xs.length ≤ 32 → Sm (e + 6) xs.sum := by
  have key : ∀ {xs : List Int}, (∀ x ∈ xs, Sm e x) → xs.sum.natAbs ≤ xs.length * 2 ^ e := by
    intro xs
    induction xs with
    | nil =>
      intro _
      simp
    | cons x r ih =>
      intro h
      have h1 := h x (List.mem_cons_self ..)
      have h2 := ih fun y hy => h y (List.mem_cons_of_mem _ hy)
      rw [List.sum_cons, List.length_cons, Nat.add_mul]
      unfold Sm at h1
      have := Int.natAbs_add_le x r.sum
      omega
  intro xs h hl
  have h1 := key h
  unfold Sm
  have h2 : xs.length * 2 ^ e ≤ 32 * 2 ^ e := Nat.mul_le_mul_right _ hl
  have h3 : 2 ^ (e + 6) = 64 * 2 ^ e := by rw [Nat.pow_add, Nat.mul_comm]
  have h4 : 0 < 2 ^ e := Nat.pow_pos (by decide)
  omega
/-- the sums as the program has them -/
structure SOk (a b : Nat → Rat) (c c2 : Int) (u i : Nat) (ss : List Int) : Prop where
  len : ss.length = i
  val : ∀ j, j < i → ((getI ss j : Int) : Rat) = (c2 : Rat) * (c : Rat) ^ j * renQ a b j
  sm : ∀ j, j < i → Sm ((2 * u + 8) * (j + 1)) (getI ss j)
def partI (tp ss : List Int) (c : Int) (i j : Nat) : Int := getI tp j * c ^ j * getI ss (i - 1 - j)
theorem sumTo_cast (f : Nat → Int) (n : Nat) : ((((List.range n).map f).sum : Int) : Rat) = sumTo n fun j => ((f j : Int) : Rat) := by
  unfold sumTo
  induction n with
  | zero => rfl
  | succ n ih =>
    rw [List.range_succ, List.map_append, List.map_append, List.sum_append, Rat.intCast_add, ih]
    simp only [List.map_cons, List.map_nil]
    rw [sum_snoc]
    congr 1
    simp
theorem sumTo_mul (k : Rat) (f : Nat → Rat) (n : Nat) : k * sumTo n f = sumTo n fun j => k * f j := by
  unfold sumTo
  induction n with
  | zero =>
    show k * 0 = 0
    grind
  | succ n ih =>
    rw [List.range_succ, List.map_append, List.map_append]
    simp only [List.map_cons, List.map_nil]
    rw [sum_snoc, sum_snoc, ← ih]
    grind
theorem sumTo_congr {n : Nat} {f g : Nat → Rat} (h : ∀ j, j < n → f j = g j) : sumTo n f = sumTo n g := by
  unfold sumTo
  congr 1
  exact List.map_congr_left fun j hj => h j (List.mem_range.mp hj)
theorem cast_pow (c : Int) : ∀ j : Nat, ((c ^ j : Int) : Rat) = (c : Rat) ^ j
  | 0 => by
    rw [Int.pow_zero, Rat.pow_zero]
    rfl
  | j + 1 => by rw [Int.pow_succ, Rat.pow_succ, Rat.intCast_mul, cast_pow c j]
theorem pow_plus (c : Rat) (m : Nat) : ∀ n : Nat, c ^ (m + n) = c ^ m * c ^ n
  | 0 => by
    rw [Rat.pow_zero, Nat.add_zero]
    grind
  | n + 1 => by
    rw [← Nat.add_assoc, Rat.pow_succ, Rat.pow_succ, pow_plus c m n]
    grind
theorem SOk.step {a b : Nat → Rat} {c c2 tt : Int} {u i : Nat} {ss tp : List Int} (h : SOk a b c c2 u i ss) (hc : (c : Rat) ≠ 0) (ht : ((tt : Int) : Rat) = (c2 : Rat) * b i) (ha : ∀ j, j < i → ((getI tp j : Int) : Rat) = (c : Rat) * a j)
    (su : 0 < u) (st : Sm u tt) (sc : Sm u c) (sp : ∀ j, j < i → Sm u (getI tp j)) (hi : i ≤ 32) : SOk a b c c2 u (i + 1) (ss ++ [tt * c ^ i + ((List.range i).map (partI tp ss c i)).sum]) := by
  have old : ∀ j, j < i → ∀ x, getI (ss ++ [x]) j = getI ss j := fun j hj x => by
    unfold getI
    rw [List.getElem?_append_left (by rw [h.len]; exact hj)]
  have new : ∀ x, getI (ss ++ [x]) i = x := fun x => by
    unfold getI
    rw [List.getElem?_append_right (by rw [h.len]; exact Nat.le_refl _), h.len, Nat.sub_self]
    rfl
  refine ⟨by rw [List.length_append, h.len]; rfl, fun j hj => ?_, fun j hj => ?_⟩
  · rcases (by omega : j < i ∨ j = i) with z | z
    · rw [old j z]
      exact h.val j z
    · subst z
      rw [new, Rat.intCast_add, Rat.intCast_mul, sumTo_cast, cast_pow, ht, renQ_is a b j]
      have e : (sumTo j fun k => ((partI tp ss c j k : Int) : Rat)) = (c2 : Rat) * (c : Rat) ^ j * sumTo j fun k => a k * renQ a b (j - 1 - k) := by
        rw [sumTo_mul]
        refine sumTo_congr fun k hk => ?_
        unfold partI
        rw [Rat.intCast_mul, Rat.intCast_mul, cast_pow, ha k hk, h.val (j - 1 - k) (by omega)]
        have e2 : (c : Rat) ^ j = (c : Rat) * (c : Rat) ^ k * (c : Rat) ^ (j - 1 - k) := by
          have : j = (k + (j - 1 - k)) + 1 := by omega
          conv => lhs; rw [this]
          rw [Rat.pow_succ, pow_plus]
          grind
        rw [e2]
        grind
      rw [e]
      grind
  · rcases (by omega : j < i ∨ j = i) with z | z
    · rw [old j z]
      exact h.sm j z
    · subst z
      rw [new]
      have hU : ∀ k, k < j → Sm (u + 1 + (2 * u + 8) * j) (partI tp ss c j k) := fun k hk => by
        unfold partI
        have h1 := ((sp k hk).mul (sm_pow sc su k)).mul (h.sm (j - 1 - k) (by omega))
        refine h1.mono ?_
        have e1 : j - 1 - k + 1 = j - k := by omega
        rw [e1]
        have e2 : (2 * u + 8) * j = (2 * u + 8) * (j - k) + (2 * u + 8) * k := by rw [← Nat.mul_add]; congr 1; omega
        rw [e2]
        have e3 : u * k ≤ (2 * u + 8) * k := Nat.mul_le_mul_right _ (by omega)
        omega
      have s1 : Sm (u + 1 + (2 * u + 8) * j + 6) ((List.range j).map (partI tp ss c j)).sum := by
        refine sum_sm (fun x hx => ?_) (by rw [List.length_map, List.length_range]; exact hi)
        obtain ⟨k, hk, rfl⟩ := List.mem_map.mp hx
        exact hU k (List.mem_range.mp hk)
      have s2 : Sm (u + 1 + (2 * u + 8) * j + 6) (tt * c ^ j) := by
        refine (st.mul (sm_pow sc su j)).mono ?_
        have e3 : u * j ≤ (2 * u + 8) * j := Nat.mul_le_mul_right _ (by omega)
        omega
      have s3 := s2.add s1
      refine s3.mono ?_
      rw [Nat.mul_add]
      omega

end Fp

set_option Elab.async false
set_option linter.all false
set_option maxRecDepth 100000
set_option maxHeartbeats 4000000
set_option exponentiation.threshold 10000
namespace Fp
open PySem PySem.Spec PyProof.Rows L2
/-! ### renewed -/
abbrev N_ren : List Str := ["chances", "told", "tops", "bottom", "told_tops", "told_bottom", "powers", "sums", "n", "told_top", "parts", "k", "total", "power"]
def powL (c : Int) (m : Nat) : List Int := (List.range m).map fun j => c ^ j
theorem powL_len {c : Int} {m : Nat} : (powL c m).length = m := by
  unfold powL
  rw [List.length_map, List.length_range]
theorem powL_at {c : Int} {m j : Nat} (h : j < m) : (powL c m)[j]? = some (c ^ j) := by
  unfold powL
  rw [List.getElem?_map, List.getElem?_range h]
  rfl
theorem powL_succ {c : Int} {m : Nat} : powL c (m + 1) = powL c m ++ [c ^ m] := by
  unfold powL
  rw [List.range_succ, List.map_append]
  rfl
theorem tops_len {c : Int} {xs : List RT} : (topsOn c xs).length = xs.length := by
  unfold topsOn
  rw [List.length_map]
theorem tops_get {c : Int} {xs : List RT} {j : Nat} {x : RT} (h : xs[j]? = some x) : getI (topsOn c xs) j = x.1 * (c / x.2) := by
  unfold getI topsOn
  rw [List.getElem?_map, h]
  rfl
theorem tops_val {c : Int} (hc : 0 < c) {xs : List RT} {j : Nat} (hj : j < xs.length) (h : ∀ x ∈ xs, 0 < x.2 ∧ x.2 ∣ c) : ((getI (topsOn c xs) j : Int) : Rat) = (c : Rat) * qa xs j := by
  have hg : xs[j]? = some xs[j] := List.getElem?_eq_getElem hj
  obtain ⟨h1, h2⟩ := h _ (List.getElem_mem hj)
  rw [tops_get hg, qa_at hg, qv_over h1 h2 hc]
  have := cast_ne (Int.ne_of_gt hc)
  grind
theorem tops_each {n d : Nat} {c D : Int} (hD : 0 < D) (hcD : c ∣ D) (sD : Sm d D) {xs : List RT} {j : Nat} (hj : j < xs.length) (h : ∀ x ∈ xs, Sm n x.1) : Sm (n + d) (getI (topsOn c xs) j) := by
  have hg : xs[j]? = some xs[j] := List.getElem?_eq_getElem hj
  rw [tops_get hg]
  have sc : Sm d c := dvd_small hcD hD sD
  have sq : Sm d (c / xs[j].2) := by
    unfold Sm at *
    have a : (c / xs[j].2).natAbs ≤ c.natAbs := Int.natAbs_ediv_le_natAbs ..
    omega
  exact (h _ (List.getElem_mem hj)).mul sq
theorem upd_int {H : Hp} {l : Addr} {xs : List Int} {x : Int} : upd H l (.lst (xs.map V.int ++ [.int x])) l = some (.lst ((xs ++ [x]).map V.int)) := by
  rw [upd_same, List.map_append]
  rfl
section
variable {P : Program} {w : World} {K : PySem.W.Frag} {mg : Str → Option Value} {base : Heap}
def spRen (K : PySem.W.Frag) : Sp := fun vs H Q _ => ∃ (p t : Addr) (chs tld : List RT) (n1 d1 n2 d2 : Nat) (D1 D2 : Int), vs = [.ref p, .ref t] ∧ LstAt K H p chs ∧ LstAt K H t tld ∧ Over1 n1 d1 D1 chs ∧ Over1 n2 d2 D2 tld ∧ n1 ≤ 2000 ∧ d1 ≤ 300 ∧ n2 ≤ 2000 ∧ d2 ≤ 300 ∧ tld.length ≤ 22 ∧ tld.length ≤ chs.length + 1 ∧
  ∀ z rs H', Same H H' → H' z = some (.lst (rs.map V.ref)) → RsAt K H' rs ((List.range tld.length).map fun i => rdq (renQ (qa chs) (qa tld) i)) → Q (.ref z) H'
end

end Fp

set_option Elab.async false
set_option linter.all false
set_option maxRecDepth 100000
set_option maxHeartbeats 4000000
set_option exponentiation.threshold 10000
namespace Fp
open PySem PySem.Spec PyProof.Rows L2
/-! ### chances of drawn lives stand over a small number -/
theorem ch_dvdW {row : List RT} {step x : RT} {n i most : Nat} {W : Int} (hW : ∀ y ∈ row, y.2 ∣ W) (hr : ∀ y ∈ row, SmR n y) (hs : Red step) (hx : Red x) (h : qv x = chR row step i) (hi : i < most) : x.2 ∣ W * step.2 ^ most := by
  match e : row[i]? with
  | some y =>
    have hy := List.mem_of_getElem? e
    have ex : x = y := qv_inj hx (hr y hy).1 (h.trans (chR_in e))
    rw [ex]
    exact Int.dvd_trans (hW y hy) (Int.dvd_mul_right ..)
  | none =>
    have hle : row.length ≤ i := List.getElem?_eq_none_iff.mp e
    match el : row.getLast? with
    | none =>
      have er : row = [] := List.getLast?_eq_none_iff.mp el
      rw [er, chR_nil] at h
      have ex : x = (0, 1) := qv_inj hx ⟨by decide, by decide⟩ (by rw [h, qv_nought])
      rw [ex]
      exact Int.one_dvd _
    | some l =>
      have hl : l ∈ row := List.mem_of_getLast? el
      have hl0 := (hr l hl).1
      rw [chR_out hle el] at h
      obtain ⟨j, ej, hj⟩ : ∃ j, i + 1 - row.length = j ∧ j ≤ most := ⟨_, rfl, by omega⟩
      rw [ej] at h
      have key : ∀ j : Nat, qv l * qv step ^ j = ((l.1 * step.1 ^ j : Int) : Rat) / ((l.2 * step.2 ^ j : Int) : Rat) := by
        intro j
        induction j with
        | zero =>
          rw [Rat.pow_zero, Int.pow_zero, Int.pow_zero, Int.mul_one, Int.mul_one]
          unfold qv
          grind
        | succ j ih =>
          have h1 := cast_ne (Int.ne_of_gt hs.1)
          have h2 := cast_ne (Int.ne_of_gt (Int.mul_pos hl0.1 (show (0 : Int) < step.2 ^ j from Int.pow_pos hs.1)))
          rw [Rat.pow_succ, ← Rat.mul_assoc, ih, Int.pow_succ, Int.pow_succ, ← Int.mul_assoc, ← Int.mul_assoc, Rat.intCast_mul (l.1 * step.1 ^ j), Rat.intCast_mul (l.2 * step.2 ^ j)]
          unfold qv
          grind
      rw [key j] at h
      obtain ⟨d1, _⟩ := red_small hx (Int.mul_pos hl0.1 (Int.pow_pos hs.1)) h
      refine Int.dvd_trans d1 ?_
      obtain ⟨u, hu⟩ := hW l hl
      refine ⟨u * step.2 ^ (most - j), ?_⟩
      rw [hu, show most = j + (most - j) by omega, Int.pow_add, Nat.add_sub_cancel_left]
      rw [Int.mul_assoc l.2 u, ← Int.mul_assoc u, Int.mul_comm u (step.2 ^ j), Int.mul_assoc (step.2 ^ j), ← Int.mul_assoc l.2]
/-- one small number under a whole row -/
structure WOk (W : Int) (row : List RT) : Prop where
  pos : 0 < W
  sm : Sm 14 W
  dvd : ∀ y ∈ row, y.2 ∣ W
theorem over_chW {row : List RT} {step : RT} {n most : Nat} {chs : List RT} {W : Int} (hW : WOk W row) (hr : ∀ y ∈ row, SmR n y) (hs : SmR 5 step) (hm : most ≤ 20) (h : IsCh row step n most chs) : Over1 (n + 100) 121 (W * step.2 ^ most) chs := by
  refine ⟨Int.mul_pos hW.pos (Int.pow_pos hs.1.1), ?_, fun x hx => ?_, by rw [h.len]; omega⟩
  · exact (hW.sm.mul (sm_pow hs.2.2 (by decide) most)).mono (by omega)
  · obtain ⟨i, hi⟩ := List.mem_iff_getElem?.mp hx
    have hi2 := (List.getElem?_eq_some_iff.mp hi).1
    rw [h.len] at hi2
    obtain ⟨s1, s2⟩ := h.ok i x hi
    exact ⟨s1.1.1, ch_dvdW hW.dvd hr hs.1 s1.1 s2 hi2, s1.2.1.mono (by omega)⟩
theorem BaseLife.w {row : List RT} {step : RT} (h : BaseLife row step) : ∃ W : Int, 0 < W ∧ Sm 10 W ∧ ∀ y ∈ row, y.2 ∣ W := by
  rcases h with ⟨ws, extra, m, rfl⟩ | ⟨rfl, rfl⟩
  · obtain ⟨w0, w1⟩ := m.whole
    refine ⟨wholeOf ws extra step, w0, by unfold Sm; omega, fun y hy => ?_⟩
    unfold rowOf at hy
    obtain ⟨z, hz, rfl⟩ := List.mem_map.mp hy
    exact (red_small (low2_red (Int.ne_of_gt w0)) w0 (qv_low2 w0)).1
  · exact ⟨1, by decide, by unfold Sm; decide, fun y hy => by simp at hy⟩
theorem AnyLife.w {row : List RT} {step : RT} (h : AnyLife row step) : ∃ W : Int, WOk W row := by
  rcases h with h | ⟨row0, l, h, h5, hs, hl, rfl⟩ | ⟨row0, h, h5, rfl, hs⟩
  · obtain ⟨W, w0, w1, w2⟩ := h.w
    exact ⟨W, w0, w1.mono (by decide), w2⟩
  · obtain ⟨W, w0, w1, w2⟩ := h.w
    obtain ⟨s1, s2, s3, s4⟩ := h.sm
    refine ⟨W * step.2, Int.mul_pos w0 s2.1.1, (w1.mul s2.2.2).mono (by decide), fun y hy => ?_⟩
    rcases List.mem_append.mp hy with z | z
    · exact Int.dvd_trans (w2 y z) (Int.dvd_mul_right ..)
    · rw [List.mem_singleton.mp z]
      have hm := List.mem_of_getElem? hl
      have hp := Int.mul_pos (s1 l hm).1.1.1 s2.1.1
      have d := (red_small (x := rT l step) (low2_red (Int.ne_of_gt hp)) hp (qv_low2 hp)).1
      refine Int.dvd_trans d ?_
      obtain ⟨u, hu⟩ := w2 l hm
      exact ⟨u, by rw [hu, Int.mul_assoc, Int.mul_comm u, ← Int.mul_assoc]⟩
  · obtain ⟨W, w0, w1, w2⟩ := h.w
    refine ⟨W, w0, w1.mono (by decide), fun y hy => ?_⟩
    rcases List.mem_append.mp hy with z | z
    · exact w2 y z
    · rw [List.mem_singleton.mp z]
      exact Int.one_dvd _
theorem renQ_congr {a a' b b' : Nat → Rat} : ∀ {m n : Nat}, n ≤ m → (∀ j, j < m → a j = a' j) → (∀ j, j ≤ m → b j = b' j) → renQ a b n = renQ a' b' n := by
  intro m n
  induction n using Nat.strongRecOn with
  | ind n ih =>
    intro hn h1 h2
    rw [renQ_is, renQ_is, h2 n hn]
    congr 1
    refine sumTo_congr fun j hj => ?_
    rw [h1 j (by omega), ih (n - 1 - j) (by omega) (by omega) h1 h2]
theorem qa_ch {row : List RT} {step : RT} {n m j : Nat} {chs : List RT} (h : IsCh row step n m chs) (hj : j < m) : qa chs j = chR row step j := by
  have hj2 : j < chs.length := by rw [h.len]; exact hj
  have hg : chs[j]? = some chs[j] := List.getElem?_eq_getElem hj2
  rw [qa_at hg]
  exact (h.ok j _ hg).2

end Fp

set_option Elab.async false
set_option linter.all false
set_option maxRecDepth 100000
set_option maxHeartbeats 4000000
set_option exponentiation.threshold 10000
namespace Fp
open PySem PySem.Spec PyProof.Rows L2
/-! ### puts -/
/-- one at the beginning, nothing told later -/
def oneAt (n : Nat) : Rat := if n = 0 then 1 else 0
def putQ (row : List RT) (step : RT) (n : Nat) : Rat := renQ (chR row step) oneAt n
theorem qa_one {m j : Nat} (h : j ≤ m) : qa ((1, 1) :: List.replicate m ((0 : Int), (1 : Int))) j = oneAt j := by
  cases j with
  | zero =>
    rw [qa_at (x := (1, 1)) rfl, qv_one]
    rfl
  | succ j =>
    rw [qa_at (x := (0, 1)) (by rw [List.getElem?_cons_succ, List.getElem?_replicate]; exact if_pos (by omega)), qv_nought]
    rfl
section
variable {P : Program} {w : World} {K : PySem.W.Frag} {mg : Str → Option Value} {base : Heap} {aN aO : Addr}
def spPuts (K : PySem.W.Frag) : Sp := fun vs H Q _ => ∃ (p : Addr) (row : List RT) (step : RT) (n most : Nat) (W : Int), vs = [.ref p, .int (most : Int)] ∧ LifeAt K H p row step ∧ LifeOk n row step ∧ WOk W row ∧ most ≤ 20 ∧
  ∀ z H', Same H H' → RowAt K H' z ((List.range (most + 1)).map fun i => rdq (putQ row step i)) → Q (.ref z) H'
end

end Fp

set_option Elab.async false
set_option linter.all false
set_option maxRecDepth 100000
set_option maxHeartbeats 4000000
set_option exponentiation.threshold 10000
namespace Fp
open PySem PySem.Spec PyProof.Rows L2
/-! ### put by how many parts there are -/
def pQ (a : Nat → Rat) : Nat → Nat → Rat
  | 0, m => oneAt m
  | j + 1, m => sumTo m fun k => a k * pQ a j (m - 1 - k)
theorem sumTo_succ (n : Nat) (f : Nat → Rat) : sumTo (n + 1) f = sumTo n f + f n := by
  unfold sumTo
  rw [List.range_succ, List.map_append]
  simp only [List.map_cons, List.map_nil]
  rw [sum_snoc]
theorem sumTo_zero (f : Nat → Rat) : sumTo 0 f = 0 := rfl
theorem sumTo_head (n : Nat) (f : Nat → Rat) : sumTo (n + 1) f = f 0 + sumTo n fun j => f (j + 1) := by
  induction n with
  | zero =>
    rw [sumTo_succ, sumTo_zero, sumTo_zero]
    grind
  | succ n ih =>
    rw [sumTo_succ, ih, sumTo_succ]
    grind
theorem sumTo_add (n : Nat) (f g : Nat → Rat) : sumTo n (fun j => f j + g j) = sumTo n f + sumTo n g := by
  induction n with
  | zero =>
    rw [sumTo_zero, sumTo_zero, sumTo_zero]
    grind
  | succ n ih =>
    rw [sumTo_succ, sumTo_succ, sumTo_succ, ih]
    grind
theorem sumTo_nought (n : Nat) : sumTo n (fun _ => 0) = 0 := by
  induction n with
  | zero => rfl
  | succ n ih =>
    rw [sumTo_succ, ih]
    grind
theorem sumTo_swap (n m : Nat) (f : Nat → Nat → Rat) : sumTo n (fun j => sumTo m fun k => f j k) = sumTo m fun k => sumTo n fun j => f j k := by
  induction n with
  | zero =>
    rw [sumTo_zero]
    exact (sumTo_nought m).symm
  | succ n ih =>
    rw [sumTo_succ, ih, ← sumTo_add]
    exact sumTo_congr fun k _ => (sumTo_succ n fun j => f j k).symm
/-- all of them added: what is put -/
theorem put_parts (a : Nat → Rat) : ∀ n N : Nat, n ≤ N → sumTo (N + 1) (fun j => pQ a j n) = renQ a oneAt n := by
  intro n
  induction n using Nat.strongRecOn with
  | ind n ih =>
    intro N hN
    rw [renQ_is, sumTo_head]
    show oneAt n + sumTo N (fun j => sumTo n fun k => a k * pQ a j (n - 1 - k)) = _
    congr 1
    rw [sumTo_swap]
    refine sumTo_congr fun k hk => ?_
    rw [← sumTo_mul]
    have hN2 : N = (N - 1) + 1 := by omega
    rw [hN2, ih (n - 1 - k) (by omega) (N - 1) (by omega)]
/-- with more parts than beats there is nothing -/
theorem pQ_far (a : Nat → Rat) : ∀ {j m : Nat}, m < j → pQ a j m = 0
  | 0, m, h => absurd h (Nat.not_lt_zero _)
  | j + 1, m, h => by
    show sumTo m (fun k => a k * pQ a j (m - 1 - k)) = 0
    rw [sumTo_congr (g := fun _ => 0) fun k hk => ?_]
    · exact sumTo_nought m
    · rw [pQ_far a (show m - 1 - k < j by omega)]
      grind
theorem sumTo_le {n : Nat} {f g : Nat → Rat} (h : ∀ j, j < n → f j ≤ g j) : sumTo n f ≤ sumTo n g := by
  induction n with
  | zero => exact Rat.le_refl
  | succ n ih =>
    rw [sumTo_succ, sumTo_succ]
    have h1 := ih fun j hj => h j (by omega)
    have h2 := h n (by omega)
    grind
theorem sumTo_rev (n : Nat) (f : Nat → Rat) : sumTo n (fun k => f (n - 1 - k)) = sumTo n f := by
  induction n with
  | zero => rfl
  | succ n ih =>
    rw [sumTo_head, sumTo_succ]
    have e : (sumTo n fun j => f (n + 1 - 1 - (j + 1))) = sumTo n fun k => f (n - 1 - k) := sumTo_congr fun k hk => by
      congr 1
      omega
    rw [e, ih]
    have : n + 1 - 1 - 0 = n := by omega
    rw [this]
    grind
theorem two_sum (n : Nat) : sumTo n (fun m => (2 : Rat) ^ m) = 2 ^ n - 1 := by
  induction n with
  | zero =>
    rw [sumTo_zero, Rat.pow_zero]
    grind
  | succ n ih =>
    rw [sumTo_succ, ih, Rat.pow_succ]
    grind
/-- chances from nought to one: from nought to two powers -/
theorem pQ_bound {a : Nat → Rat} {M : Nat} (h0 : ∀ k, k < M → 0 ≤ a k) (h1 : ∀ k, k < M → a k ≤ 1) : ∀ j m, m ≤ M → 0 ≤ pQ a j m ∧ pQ a j m ≤ 2 ^ m := by
  have pp : ∀ m : Nat, (0 : Rat) < 2 ^ m := fun m => Rat.pow_pos (by decide)
  intro j
  induction j with
  | zero =>
    intro m _
    show 0 ≤ oneAt m ∧ oneAt m ≤ 2 ^ m
    unfold oneAt
    split
    · rename_i e
      subst e
      rw [Rat.pow_zero]
      exact ⟨by decide, Rat.le_refl⟩
    · exact ⟨Rat.le_refl, Rat.le_of_lt (pp m)⟩
  | succ j ih =>
    intro m hm
    show 0 ≤ sumTo m (fun k => a k * pQ a j (m - 1 - k)) ∧ sumTo m (fun k => a k * pQ a j (m - 1 - k)) ≤ 2 ^ m
    refine ⟨?_, ?_⟩
    · have := sumTo_le (n := m) (f := fun _ => 0) (g := fun k => a k * pQ a j (m - 1 - k)) fun k hk => Rat.mul_nonneg (h0 k (by omega)) (ih (m - 1 - k) (by omega)).1
      rw [sumTo_nought] at this
      exact this
    · have h2 : sumTo m (fun k => a k * pQ a j (m - 1 - k)) ≤ sumTo m fun k => (2 : Rat) ^ (m - 1 - k) := sumTo_le fun k hk => by
        obtain ⟨i1, i2⟩ := ih (m - 1 - k) (by omega)
        have h3 := Rat.mul_le_mul_of_nonneg_right (h1 k (by omega)) i1
        grind
      rw [sumTo_rev m fun k => (2 : Rat) ^ k, two_sum] at h2
      grind
theorem tri_flip (n : Nat) (f : Nat → Nat → Rat) : (sumTo n fun m => sumTo (m + 1) (f m)) = sumTo n fun j => sumTo (n - j) fun k => f (j + k) j := by
  induction n with
  | zero => rfl
  | succ n ih =>
    rw [sumTo_succ, ih, sumTo_succ (n := n) (f := fun j => sumTo (n + 1 - j) fun k => f (j + k) j)]
    have e : (sumTo n fun j => sumTo (n + 1 - j) fun k => f (j + k) j) = sumTo n fun j => (sumTo (n - j) fun k => f (j + k) j) + f n j := by
      refine sumTo_congr fun j hj => ?_
      rw [show n + 1 - j = (n - j) + 1 by omega, sumTo_succ, show j + (n - j) = n by omega]
    rw [e, sumTo_add, sumTo_succ, show n + 1 - n = 0 + 1 by omega, sumTo_succ, sumTo_zero]
    rw [Nat.add_zero]
    grind

end Fp

set_option Elab.async false
set_option linter.all false
set_option maxRecDepth 100000
set_option maxHeartbeats 4000000
set_option exponentiation.threshold 10000
namespace Fp
open PySem PySem.Spec PyProof.Rows L2
/-! ### lists of ratios told by their values; values over powers of one number -/
def mkL (n : Nat) (g : Nat → Rat) : List RT := (List.range n).map fun m => rdq (g m)
theorem mkL_len {n : Nat} {g : Nat → Rat} : (mkL n g).length = n := by
  unfold mkL
  rw [List.length_map, List.length_range]
theorem mkL_at {n m : Nat} {g : Nat → Rat} (h : m < n) : (mkL n g)[m]? = some (rdq (g m)) := by
  unfold mkL
  rw [List.getElem?_map, List.getElem?_range h]
  rfl
theorem mkL_congr {n : Nat} {g g' : Nat → Rat} (h : ∀ m, m < n → g m = g' m) : mkL n g = mkL n g' := by
  unfold mkL
  refine List.map_congr_left fun m hm => ?_
  rw [h m (List.mem_range.mp hm)]
theorem mkL_set {n i : Nat} {g : Nat → Rat} {v : Rat} : (mkL n g).set i (rdq v) = mkL n fun m => if m = i then v else g m := by
  refine List.ext_getElem (by rw [List.length_set, mkL_len, mkL_len]) fun m h1 h2 => ?_
  rw [List.getElem_set]
  have hm : m < n := by
    rw [mkL_len] at h2
    exact h2
  have e : ∀ (f : Nat → Rat) (h : m < (mkL n f).length), (mkL n f)[m] = rdq (f m) := fun f h => by
    have := mkL_at (g := f) hm
    rw [List.getElem?_eq_getElem h] at this
    exact Option.some.inj this
  rw [e (fun m => if m = i then v else g m)]
  by_cases z : i = m
  · rw [if_pos z, if_pos z.symm]
  · rw [if_neg z, if_neg fun y => z y.symm, e]
theorem RsAt.set {K : PySem.W.Frag} {H : Hp} {z : Addr} {x : RT} (hz : RAt K H z x) : ∀ {rs : List Addr} {xs : List RT} (i : Nat), RsAt K H rs xs → RsAt K H (rs.set i z) (xs.set i x)
  | _, _, _, .nil => .nil
  | _, _, 0, .cons _ r => .cons hz r
  | _, _, i + 1, .cons h r => .cons h (RsAt.set hz i r)
/-- a whole number over the e-th power of D -/
def Den (D : Int) (e : Nat) (q : Rat) : Prop := ∃ T : Int, q = (T : Rat) / ((D ^ e : Int) : Rat)
section
variable {D : Int} {e f : Nat} {p q : Rat}
theorem Den.up (hD : 0 < D) (h : Den D e q) : Den D (e + 1) q := by
  obtain ⟨T, rfl⟩ := h
  refine ⟨T * D, ?_⟩
  have h1 := cast_ne (Int.ne_of_gt hD)
  have h2 := cast_ne (Int.ne_of_gt (show (0 : Int) < D ^ e from Int.pow_pos hD))
  rw [Int.pow_succ, Rat.intCast_mul, Rat.intCast_mul]
  grind
theorem Den.mono (hD : 0 < D) (h : Den D e q) : ∀ {f : Nat}, e ≤ f → Den D f q := by
  intro f hf
  induction hf with
  | refl => exact h
  | step _ ih => exact ih.up hD
theorem Den.add (hD : 0 < D) (hp : Den D e p) (hq : Den D e q) : Den D e (p + q) := by
  obtain ⟨T, rfl⟩ := hp
  obtain ⟨S, rfl⟩ := hq
  refine ⟨T + S, ?_⟩
  have h2 := cast_ne (Int.ne_of_gt (show (0 : Int) < D ^ e from Int.pow_pos hD))
  rw [Rat.intCast_add]
  grind
theorem Den.mul (hD : 0 < D) (hp : Den D e p) (hq : Den D f q) : Den D (e + f) (p * q) := by
  obtain ⟨T, rfl⟩ := hp
  obtain ⟨S, rfl⟩ := hq
  refine ⟨T * S, ?_⟩
  have h1 := cast_ne (Int.ne_of_gt (show (0 : Int) < D ^ e from Int.pow_pos hD))
  have h2 := cast_ne (Int.ne_of_gt (show (0 : Int) < D ^ f from Int.pow_pos hD))
  rw [Int.pow_add, Rat.intCast_mul, Rat.intCast_mul]
  grind
theorem Den.zero : Den D e 0 := ⟨0, by
  show (0 : Rat) = ((0 : Int) : Rat) / _
  rw [show ((0 : Int) : Rat) = 0 from rfl]
  grind⟩
theorem Den.sum (hD : 0 < D) {n : Nat} {g : Nat → Rat} (h : ∀ j, j < n → Den D e (g j)) : Den D e (sumTo n g) := by
  induction n with
  | zero => exact Den.zero
  | succ n ih =>
    rw [sumTo_succ]
    exact (ih fun j hj => h j (by omega)).add hD (h n (by omega))
theorem Den.of {x : RT} (hD : 0 < D) (hx : 0 < x.2) (h : x.2 ∣ D) : Den D 1 (qv x) := by
  refine ⟨x.1 * (D / x.2), ?_⟩
  rw [Int.pow_succ, Int.pow_zero, Int.one_mul]
  exact qv_over hx h hD
/-- what such a value's lowest form is like -/
theorem Den.red (hD : 0 < D) (h : Den D e q) {d k : Nat} (sD : Sm d D) (hd : 0 < d) (h0 : 0 ≤ q) (h1 : q ≤ 2 ^ k) : (rdq q).2 ∣ D ^ e ∧ Sm (d * e + 1 + k + 1) (rdq q).1 ∧ Sm (d * e + 1) (rdq q).2 := by
  obtain ⟨T, hT⟩ := h
  have hP : (0 : Int) < D ^ e := Int.pow_pos hD
  have hc := cast_ne (Int.ne_of_gt hP)
  obtain ⟨r1, r2⟩ := red_small (rdq_red q) hP (by rw [qv_rdq]; exact hT)
  have sP : Sm (d * e + 1) (D ^ e) := sm_pow sD hd e
  refine ⟨r1, ?_, dvd_small r1 hP sP⟩
  have hcp : (0 : Rat) < ((D ^ e : Int) : Rat) := Rat.intCast_pos.mpr hP
  have e1 : (T : Rat) = q * ((D ^ e : Int) : Rat) := by
    rw [hT]
    grind
  have t0 : 0 ≤ T := by
    have := Rat.mul_nonneg h0 (Rat.le_of_lt hcp)
    rw [← e1] at this
    exact Rat.intCast_nonneg.mp this
  have t1 : T ≤ 2 ^ k * D ^ e := by
    have := Rat.mul_le_mul_of_nonneg_right h1 (Rat.le_of_lt hcp)
    rw [← e1] at this
    have e2 : (2 : Rat) ^ k * ((D ^ e : Int) : Rat) = ((2 ^ k * D ^ e : Int) : Rat) := by
      rw [Rat.intCast_mul, cast_pow 2 k]
      rfl
    rw [e2] at this
    exact Rat.intCast_le_intCast.mp this
  unfold Sm at *
  have t2 : T.natAbs ≤ 2 ^ k * (D ^ e).natAbs := by
    have : (2 ^ k * D ^ e : Int).natAbs = 2 ^ k * (D ^ e).natAbs := by
      rw [Int.natAbs_mul, Int.natAbs_pow]
      rfl
    omega
  have t3 : 2 ^ k * (D ^ e).natAbs ≤ 2 ^ k * 2 ^ (d * e + 1) := Nat.mul_le_mul_left _ (Nat.le_of_lt sP)
  have t4 : 2 ^ (d * e + 1 + k + 1) = 2 * (2 ^ k * 2 ^ (d * e + 1)) := by
    rw [Nat.pow_succ, Nat.pow_add, Nat.mul_comm, Nat.mul_comm (2 ^ (d * e + 1))]
  have t5 : 0 < 2 ^ k * 2 ^ (d * e + 1) := Nat.mul_pos (Nat.pow_pos (by decide)) (Nat.pow_pos (by decide))
  omega
end
/-- chances from nought to one, each over D -/
structure Ch01 (D : Int) (a : Nat → Rat) (M : Nat) : Prop where
  pos : 0 < D
  sm : Sm 60 D
  ge : ∀ k, k < M → 0 ≤ a k
  le : ∀ k, k < M → a k ≤ 1
  den : ∀ k, k < M → Den D 1 (a k)
theorem Ch01.pq {D : Int} {a : Nat → Rat} {M : Nat} (h : Ch01 D a M) : ∀ j m, m ≤ M → Den D j (pQ a j m) := by
  intro j
  induction j with
  | zero =>
    intro m _
    show Den D 0 (oneAt m)
    unfold oneAt
    split
    · exact ⟨1, by
        rw [Int.pow_zero]
        grind⟩
    · exact Den.zero
  | succ j ih =>
    intro m hm
    refine Den.sum h.pos fun k hk => ?_
    rw [Nat.add_comm]
    exact (h.den k (by omega)).mul h.pos (ih (m - 1 - k) (by omega))

end Fp

set_option Elab.async false
set_option linter.all false
set_option maxRecDepth 100000
set_option maxHeartbeats 4000000
set_option exponentiation.threshold 10000
namespace Fp
open PySem PySem.Spec PyProof.Rows L2
/-! ### the law's own: by how many parts there are -/
abbrev N_bp : List Str := ["_law_life_here", "_law_most_here", "_law_chances", "_law_found", "_law_parts", "_law_here", "_law_more", "_law_n", "_law_k"]
/-- what n parts before and one more give at m -/
def fM (a : Nat → Rat) (j m n : Nat) : Rat := pQ a j n * a (m - 1 - n)
theorem fM_sum (a : Nat → Rat) (j m : Nat) : sumTo m (fM a j m) = pQ a (j + 1) m := by
  show _ = sumTo m fun k => a k * pQ a j (m - 1 - k)
  rw [← sumTo_rev m fun k => a k * pQ a j (m - 1 - k)]
  refine sumTo_congr fun k hk => ?_
  unfold fM
  rw [show m - 1 - (m - 1 - k) = k by omega]
  grind
/-- n of them taken, and of the next one those to n + kk -/
def vM (a : Nat → Rat) (j n kk m : Nat) : Rat := sumTo (min n m) (fM a j m) + if n < m ∧ m ≤ n + kk then fM a j m n else 0
theorem vM_zero (a : Nat → Rat) (j n m : Nat) : vM a j n 0 m = sumTo (min n m) (fM a j m) := by
  unfold vM
  rw [if_neg (by omega)]
  grind
theorem vM_full (a : Nat → Rat) {j n kk m : Nat} (h : m ≤ n + kk) : vM a j n kk m = sumTo (min (n + 1) m) (fM a j m) := by
  unfold vM
  rcases (by omega : n < m ∨ m ≤ n) with z | z
  · rw [if_pos ⟨z, h⟩, Nat.min_eq_left (by omega), Nat.min_eq_left (by omega), sumTo_succ]
  · rw [if_neg (by omega), Nat.min_eq_right z, Nat.min_eq_right (by omega)]
    grind
theorem vM_step (a : Nat → Rat) {j n kk m : Nat} : vM a j n (kk + 1) m = if m = n + (kk + 1) then vM a j n kk m + fM a j m n else vM a j n kk m := by
  unfold vM
  by_cases z : m = n + (kk + 1)
  · rw [if_pos z, if_pos (by omega), if_neg (by omega)]
    grind
  · rw [if_neg z]
    congr 1
    by_cases y : n < m ∧ m ≤ n + kk
    · rw [if_pos y, if_pos (by omega)]
    · rw [if_neg y, if_neg (by omega)]
section
variable {D : Int} {a : Nat → Rat} {M j m n : Nat}
theorem Ch01.f_ok (h : Ch01 D a M) (hm : m ≤ M) (hn : n < m) : 0 ≤ fM a j m n ∧ fM a j m n ≤ 2 ^ n ∧ Den D (j + 1) (fM a j m n) := by
  obtain ⟨b1, b2⟩ := pQ_bound h.ge h.le j n (by omega)
  refine ⟨Rat.mul_nonneg b1 (h.ge _ (by omega)), ?_, (h.pq j n (by omega)).mul h.pos (h.den _ (by omega))⟩
  have := Rat.mul_le_mul_of_nonneg_left (h.le (m - 1 - n) (by omega)) b1
  unfold fM
  grind
theorem pow2_le {i k : Nat} (h : i ≤ k) : (2 : Rat) ^ i ≤ 2 ^ k := by
  have pp : ∀ m : Nat, (0 : Rat) < 2 ^ m := fun m => Rat.pow_pos (by decide)
  induction h with
  | refl => exact Rat.le_refl
  | step _ ih =>
    rename_i m _
    rw [Rat.pow_succ]
    have := pp m
    grind
theorem Ch01.s_ok (h : Ch01 D a M) (hm : m ≤ M) (hn : n ≤ m) : 0 ≤ sumTo n (fM a j m) ∧ sumTo n (fM a j m) ≤ 2 ^ m ∧ Den D (j + 1) (sumTo n (fM a j m)) := by
  refine ⟨?_, ?_, Den.sum h.pos fun k hk => (h.f_ok hm (by omega)).2.2⟩
  · have := sumTo_le (n := n) (f := fun _ => 0) (g := fM a j m) fun k hk => (h.f_ok hm (by omega)).1
    rw [sumTo_nought] at this
    exact this
  · have h1 := sumTo_le (n := n) (f := fM a j m) (g := fun k => (2 : Rat) ^ k) fun k hk => (h.f_ok hm (by omega)).2.1
    rw [two_sum] at h1
    have h2 := pow2_le hn
    grind
theorem Ch01.red (h : Ch01 D a M) {q : Rat} {e k : Nat} (hd : Den D e q) (h0 : 0 ≤ q) (h1 : q ≤ 2 ^ k) (he : e ≤ 21) (hk : k ≤ 21) : (rdq q).2 ∣ D ^ e ∧ Sm 1400 (rdq q).1 ∧ Sm 1400 (rdq q).2 := by
  obtain ⟨r1, r2, r3⟩ := hd.red h.pos h.sm (by decide) h0 h1
  have : 60 * e ≤ 60 * 21 := Nat.mul_le_mul_left _ he
  exact ⟨r1, r2.mono (by omega), r3.mono (by omega)⟩
end

end Fp

set_option Elab.async false
set_option linter.all false
set_option maxRecDepth 100000
set_option maxHeartbeats 4000000
set_option exponentiation.threshold 10000
namespace Fp
open PySem PySem.Spec PyProof.Rows L2
section
variable {P : Program} {w : World} {K : PySem.W.Frag} {mg : Str → Option Value} {base : Heap}
/-- a list of ratios that may be changed -/
def LsM (K : PySem.W.Frag) (H : Hp) (p : Addr) (xs : List RT) : Prop := ∃ rs : List Addr, H p = some (.lst (rs.map V.ref)) ∧ RsAt K H rs xs
theorem LsM.same {H H' : Hp} {p : Addr} {xs : List RT} (h : LsM K H p xs) (e : Same H H') : LsM K H' p xs := by
  obtain ⟨rs, h1, h2⟩ := h
  exact ⟨rs, e _ _ h1, h2.tk (Tk.same e)⟩
theorem LsM.at {H : Hp} {p : Addr} {n m : Nat} {g : Nat → Rat} {k : Int} {Q : VK} (h : LsM K H p (mkL n g)) (hk : k = (m : Int)) (hm : m < n) (q : ∀ r, RAt K H r (rdq (g m)) → Q (.ref r) H) : rIxL K (.ref p) (.int k) H Q := by
  obtain ⟨rs, h1, h2⟩ := h
  obtain ⟨r, e1, e2⟩ := h2.get (mkL_at hm)
  have g2 : (rs.map V.ref)[m]? = some (.ref r) := by
    rw [List.getElem?_map, e1]
    rfl
  exact ⟨p, _, _, _, rfl, rfl, SqL.of h1, at_of hk g2, q r e2⟩
theorem rdq_zero {q : Rat} : rdq q = (0, 1) ↔ q = 0 := by
  constructor
  · intro h
    have := congrArg qv h
    rw [qv_rdq, qv_nought] at this
    exact this
  · intro h
    rw [h]
    exact (is_rdq ⟨by decide, by decide⟩ qv_nought).symm
def spBp (K : PySem.W.Frag) : Sp := fun vs H Q _ => ∃ (p : Addr) (row : List RT) (step : RT) (n most : Nat) (D : Int), vs = [.ref p, .int (most : Int)] ∧ LifeAt K H p row step ∧ LifeOk n row step ∧ (row = [] → step = (0, 1)) ∧ Ch01 D (chR row step) 20 ∧ most ≤ 20 ∧
  ∀ (z : Addr) (fs : List Addr) (H' : Hp), Same H H' → H' z = some (.lst (fs.map V.ref)) → fs.length = most + 1 → (∀ j f, fs[j]? = some f → LsM K H' f (mkL (most + 1) (pQ (chR row step) j))) → Q (.ref z) H'
end

end Fp

set_option Elab.async false
set_option linter.all false
set_option maxRecDepth 100000
set_option maxHeartbeats 4000000
set_option exponentiation.threshold 10000
namespace Fp
open PySem PySem.Spec PyProof.Rows L2
theorem AnyLife.ok {row : List RT} {step : RT} (h : AnyLife row step) : LifeOk 20 row step ∧ row.length ≤ 7 ∧ (row = [] → step = (0, 1)) := by
  have nought : SmR 20 (0, 1) := ⟨⟨by decide, by decide⟩, by unfold Sm; decide, by unfold Sm; decide⟩
  rcases h with h | ⟨row0, l, h, h5, hs, hl, rfl⟩ | ⟨row0, h, h5, rfl, hs⟩
  · obtain ⟨s1, s2, s3, s4⟩ := h.sm
    have := h.len
    refine ⟨⟨fun x hx => (s1 x hx).1.mono (by decide), ⟨s2.mono (by decide), s3, s4⟩, by omega, by decide, by decide⟩, by omega, fun z => ?_⟩
    rcases Classical.em (step = (0, 1)) with y | y
    · exact y
    · exact absurd z (h.ne y)
  · obtain ⟨s1, s2, s3, s4⟩ := h.sm
    have hlen : (row0 ++ [rT l step]).length ≤ 6 := by
      rw [List.length_append, List.length_singleton]
      omega
    refine ⟨⟨fun x hx => ?_, ⟨s2.mono (by decide), s3, s4⟩, by omega, by decide, by decide⟩, by omega, fun z => ?_⟩
    · rcases List.mem_append.mp hx with z | z
      · exact (s1 x z).1.mono (by decide)
      · rw [List.mem_singleton.mp z]
        exact (rT_sm (s1 l (List.mem_of_getElem? hl)).1 s2).mono (by decide)
    · have := congrArg List.length z
      simp at this
  · obtain ⟨s1, s2, s3, s4⟩ := h.sm
    have hlen : (row0 ++ [((0 : Int), (1 : Int))]).length ≤ 6 := by
      rw [List.length_append, List.length_singleton]
      omega
    refine ⟨⟨fun x hx => ?_, ?_, by omega, by decide, by decide⟩, by omega, fun z => ?_⟩
    · rcases List.mem_append.mp hx with z | z
      · exact (s1 x z).1.mono (by decide)
      · rw [List.mem_singleton.mp z]
        exact nought
    · rcases hs with rfl | rfl
      · exact ⟨⟨⟨by decide, by decide⟩, by unfold Sm; decide, by unfold Sm; decide⟩, by decide, by decide⟩
      · exact ⟨⟨⟨by decide, by decide⟩, by unfold Sm; decide, by unfold Sm; decide⟩, by decide, by decide⟩
    · have := congrArg List.length z
      simp at this

end Fp

set_option Elab.async false
set_option linter.all false
set_option maxRecDepth 100000
set_option maxHeartbeats 4000000
set_option exponentiation.threshold 10000
namespace Fp
open PySem PySem.Spec PyProof.Rows L2
/-! ### a life cut at a beat -/
theorem ch_ex {row : List RT} {step : RT} {n : Nat} (L : LifeOk n row step) : ∀ i, ∃ x, SmR (n + 5 * i) x ∧ qv x = chR row step i := by
  intro i
  induction i with
  | zero =>
    rcases Classical.em (0 < row.length) with hi | hi
    · exact ⟨row[0], (L.sm _ (List.getElem_mem hi)).mono (by omega), (chR_in (List.getElem?_eq_getElem hi)).symm⟩
    · have er : row = [] := List.length_eq_zero_iff.mp (by omega)
      subst er
      exact ⟨(0, 1), SmR.mono (n := 1) ⟨⟨by decide, by decide⟩, by unfold Sm; decide, by unfold Sm; decide⟩ (by have := L.n1; omega), by rw [chR_nil, qv_nought]⟩
  | succ j ih =>
    rcases Classical.em (j + 1 < row.length) with hi | hi
    · exact ⟨row[j + 1], (L.sm _ (List.getElem_mem hi)).mono (by omega), (chR_in (List.getElem?_eq_getElem hi)).symm⟩
    · rcases Classical.em (row = []) with er | er
      · subst er
        exact ⟨(0, 1), SmR.mono (n := 1) ⟨⟨by decide, by decide⟩, by unfold Sm; decide, by unfold Sm; decide⟩ (by have := L.n1; omega), by rw [chR_nil, qv_nought]⟩
      · obtain ⟨x, h1, h2⟩ := ih
        refine ⟨rT x step, (rT_sm h1 L.st.1).mono (by omega), ?_⟩
        rw [(qv_rT h1.1 L.st.1.1).2, h2, chR_next (by omega) er]
def chsR (row : List RT) (step : RT) (m : Nat) : List RT := (List.range m).map fun k => rdq (chR row step k)
def cutR (row : List RT) (step : RT) (m : Nat) : List RT := chsR row step m ++ [rdq (1 - sumCh row step m)]
theorem chsR_at {row : List RT} {step : RT} {m i : Nat} {x : RT} (h : (chsR row step m)[i]? = some x) : i < m ∧ x = rdq (chR row step i) := by
  unfold chsR at h
  rw [List.getElem?_map] at h
  rcases Classical.em (i < m) with z | z
  · rw [List.getElem?_range z] at h
    exact ⟨z, (Option.some.inj h).symm⟩
  · rw [List.getElem?_eq_none (by rw [List.length_range]; omega)] at h
    cases h
theorem chsR_len {row : List RT} {step : RT} {m : Nat} : (chsR row step m).length = m := by
  unfold chsR
  rw [List.length_map, List.length_range]
theorem IsCh.is {row : List RT} {step : RT} {n m : Nat} {chs : List RT} (h : IsCh row step n m chs) : chs = chsR row step m := by
  refine List.ext_getElem (by rw [h.len, chsR_len]) fun i h1 h2 => ?_
  have e1 := h.ok i _ (List.getElem?_eq_getElem h1)
  have e2 := chsR_at (List.getElem?_eq_getElem h2)
  rw [e2.2]
  exact is_rdq e1.1.1 e1.2
theorem ch_all {row : List RT} {step : RT} {n : Nat} (L : LifeOk n row step) (m : Nat) : IsCh row step n m (chsR row step m) := by
  refine ⟨chsR_len, fun i x hx => ?_⟩
  obtain ⟨_, rfl⟩ := chsR_at hx
  obtain ⟨y, h1, h2⟩ := ch_ex L i
  rw [← is_rdq h1.1 h2]
  exact ⟨h1, h2⟩
theorem chsR_sm {row : List RT} {step : RT} {n m : Nat} (L : LifeOk n row step) (hm : m ≤ 70) : ∀ x ∈ chsR row step m, SmR 500 x := by
  intro x hx
  obtain ⟨i, hi⟩ := List.mem_iff_getElem?.mp hx
  have := (chsR_at hi).1
  have := L.n64
  exact ((ch_all L m).ok i x hi).1.mono (by omega)
theorem cut_sm {row : List RT} {step : RT} {n m : Nat} (L : LifeOk n row step) (hm : m ≤ 70) : ∀ x ∈ cutR row step m, SmR 1900 x := by
  intro x hx
  rcases List.mem_append.mp hx with z | z
  · exact (chsR_sm L hm x z).mono (by decide)
  · rw [List.mem_singleton.mp z]
    have I := ch_all L m
    have O := over_ch L.sm L.st.1 L.len L.n64 hm I
    have hs := tops_sum O.pos (xs := chsR row step m) fun y hy => ⟨(O.ok y hy).1, (O.ok y hy).2.1⟩
    have hb := tops_sm O.pos O.pos (Int.dvd_refl _) O.sm (xs := chsR row step m) fun y hy => ⟨(O.ok y hy).1, (O.ok y hy).2.2⟩
    rw [I.sum] at hs
    have hD := O.pos
    have sD := O.sm
    generalize prodB row * step.2 ^ m = D at hs hb hD sD
    generalize (topsOn D (chsR row step m)).sum = T at hs hb
    have sT : Sm 1800 T := by
      unfold Sm
      refine Nat.lt_of_le_of_lt hb ?_
      rw [chsR_len]
      have h64 := L.n64
      have e1 : m * 2 ^ (n + 350 + 1300) ≤ 70 * 2 ^ (64 + 350 + 1300) := Nat.mul_le_mul hm (Nat.pow_le_pow_right (by decide) (by omega))
      exact Nat.lt_of_le_of_lt e1 (by decide)
    have sN : Sm 1801 (D - T) := (sD.mono (show 1300 ≤ 1800 by decide)).sub sT
    have sy : SmR 1801 (low2 (D - T) D) := low2_sm hD sN (sD.mono (by decide))
    have e : low2 (D - T) D = rdq (1 - sumCh row step m) := by
      refine is_rdq sy.1 ?_
      rw [qv_low2 hD, ← hs, Rat.intCast_sub]
      have := cast_ne (Int.ne_of_gt hD)
      grind
    rw [← e]
    exact sy.mono (by decide)
/-- each one with noughts before it -/
def wideR (m : Nat) (row : List RT) : List RT := row.flatMap fun x => List.replicate m ((0 : Int), (1 : Int)) ++ [x]
theorem wide_snoc {m : Nat} {xs : List RT} {x : RT} : wideR m (xs ++ [x]) = wideR m xs ++ (List.replicate m (0, 1) ++ [x]) := by
  unfold wideR
  rw [List.flatMap_append]
  simp
theorem wide_mem {m : Nat} {row : List RT} {x : RT} (h : x ∈ wideR m row) : x = (0, 1) ∨ x ∈ row := by
  unfold wideR at h
  obtain ⟨y, h1, h2⟩ := List.mem_flatMap.mp h
  rcases List.mem_append.mp h2 with z | z
  · exact .inl (List.eq_of_mem_replicate z)
  · rw [List.mem_singleton.mp z]
    exact .inr h1
theorem wide_len {m : Nat} : ∀ {row : List RT}, (wideR m row).length = row.length * (m + 1)
  | [] => by
    show 0 = 0 * (m + 1)
    omega
  | x :: r => by
    show ((List.replicate m (0, 1) ++ [x]) ++ wideR m r).length = _
    rw [List.length_append, List.length_append, List.length_replicate, List.length_singleton, wide_len, List.length_cons, Nat.add_mul]
    omega
theorem take_snoc {α : Type} {xs : List α} {i : Nat} {x : α} (h : xs[i]? = some x) : xs.take (i + 1) = xs.take i ++ [x] := by
  rw [List.take_add_one, h]
  rfl
theorem nought_sm {n : Nat} (h : 1 ≤ n) : SmR n (0, 1) := SmR.mono (n := 1) ⟨⟨by decide, by decide⟩, by unfold Sm; decide, by unfold Sm; decide⟩ h
theorem nought_step {n : Nat} (h : 1 ≤ n) : StepOk n (0, 1) := ⟨nought_sm h, by decide, by decide⟩

end Fp

set_option Elab.async false
set_option linter.all false
set_option maxRecDepth 100000
set_option maxHeartbeats 4000000
set_option exponentiation.threshold 10000
namespace Fp
open PySem PySem.Spec PyProof.Rows L2
/-! ### chances of drawn lives are from nought to one -/
theorem div_01 {t b : Int} (h0 : 0 ≤ t) (hb : 0 < b) (h : t ≤ b) : (0 : Rat) ≤ (t : Rat) / (b : Rat) ∧ (t : Rat) / (b : Rat) ≤ 1 := by
  have hc : (0 : Rat) < (b : Rat) := Rat.intCast_pos.mpr hb
  have ht : (0 : Rat) ≤ (t : Rat) := Rat.intCast_nonneg.mpr h0
  have hl : (t : Rat) ≤ (b : Rat) := Rat.intCast_le_intCast.mpr h
  have hi : (0 : Rat) ≤ (b : Rat)⁻¹ := Rat.le_of_lt (Rat.inv_pos.mpr hc)
  rw [Rat.div_def]
  refine ⟨Rat.mul_nonneg ht hi, ?_⟩
  have := Rat.mul_le_mul_of_nonneg_right hl hi
  have e : (b : Rat) * (b : Rat)⁻¹ = 1 := Rat.mul_inv_cancel _ (Rat.ne_of_gt hc)
  rw [e] at this
  exact this
theorem mem_sum : ∀ {ws : List Int}, (∀ x ∈ ws, 0 ≤ x ∧ x ≤ 5) → ∀ y ∈ ws, y ≤ ws.sum
  | [], _, y, hy => by simp at hy
  | x :: r, h, y, hy => by
    have h1 := h x (List.mem_cons_self ..)
    have h2 := (sum_bound (ws := r) fun z hz => h z (List.mem_cons_of_mem _ hz)).1
    rw [List.sum_cons]
    rcases List.mem_cons.mp hy with z | z
    · omega
    · have := mem_sum (ws := r) (fun z hz => h z (List.mem_cons_of_mem _ hz)) y z
      omega
theorem mul_01 {p q : Rat} (hp : 0 ≤ p ∧ p ≤ 1) (hq : 0 ≤ q ∧ q ≤ 1) : 0 ≤ p * q ∧ p * q ≤ 1 := by
  refine ⟨Rat.mul_nonneg hp.1 hq.1, ?_⟩
  have := Rat.mul_le_mul_of_nonneg_right hp.2 hq.1
  have h2 := hq.2
  grind
theorem pow_01 {q : Rat} (hq : 0 ≤ q ∧ q ≤ 1) : ∀ k : Nat, 0 ≤ q ^ k ∧ q ^ k ≤ 1
  | 0 => by
    rw [Rat.pow_zero]
    exact ⟨by decide, Rat.le_refl⟩
  | k + 1 => by
    rw [Rat.pow_succ]
    exact mul_01 (pow_01 hq k) hq
theorem BaseLife.q01 {row : List RT} {step : RT} (h : BaseLife row step) : (∀ x ∈ row, 0 ≤ qv x ∧ qv x ≤ 1) ∧ 0 ≤ qv step ∧ qv step ≤ 1 := by
  have hs := h.sm
  refine ⟨fun x hx => ?_, div_01 hs.2.2.1 hs.2.1.1.1 (Int.le_of_lt hs.2.2.2)⟩
  rcases h with ⟨ws, extra, m, rfl⟩ | ⟨rfl, rfl⟩
  · obtain ⟨w0, _⟩ := m.whole
    unfold rowOf at hx
    obtain ⟨y, hy, rfl⟩ := List.mem_map.mp hx
    rw [qv_low2 w0]
    have h1 := (m.nn y hy).1
    have hd : 0 ≤ step.2 - step.1 := by
      have := hs.2.2.2
      omega
    refine div_01 (Int.mul_nonneg hd h1) w0 ?_
    have h2 := mem_sum m.nn y hy
    have h3 : (step.2 - step.1) * y ≤ (step.2 - step.1) * (ws.sum + extra) := Int.mul_le_mul_of_nonneg_left (by have := m.ex.1; omega) hd
    have h4 : 0 ≤ step.1 * lastW ws := Int.mul_nonneg hs.2.2.1 (Int.le_of_lt m.last)
    unfold wholeOf
    omega
  · simp at hx
theorem AnyLife.q01 {row : List RT} {step : RT} (h : AnyLife row step) : (∀ x ∈ row, 0 ≤ qv x ∧ qv x ≤ 1) ∧ 0 ≤ qv step ∧ qv step ≤ 1 := by
  rcases h with h | ⟨row0, l, h, h5, hs, hl, rfl⟩ | ⟨row0, h, h5, rfl, hs⟩
  · exact h.q01
  · obtain ⟨q1, q2⟩ := h.q01
    obtain ⟨s1, s2, _, _⟩ := h.sm
    refine ⟨fun x hx => ?_, q2⟩
    rcases List.mem_append.mp hx with z | z
    · exact q1 x z
    · rw [List.mem_singleton.mp z]
      have hm := List.mem_of_getElem? hl
      rw [(qv_rT (s1 l hm).1.1 s2.1).2]
      exact mul_01 (q1 l hm) q2
  · obtain ⟨q1, q2⟩ := h.q01
    refine ⟨fun x hx => ?_, ?_⟩
    · rcases List.mem_append.mp hx with z | z
      · exact q1 x z
      · rw [List.mem_singleton.mp z, qv_nought]
        exact ⟨Rat.le_refl, by decide⟩
    · rcases hs with rfl | rfl
      · exact div_01 (by decide) (by decide) (by decide)
      · exact div_01 (by decide) (by decide) (by decide)
theorem chR_01 {row : List RT} {step : RT} (h1 : ∀ x ∈ row, 0 ≤ qv x ∧ qv x ≤ 1) (h2 : 0 ≤ qv step ∧ qv step ≤ 1) (i : Nat) : 0 ≤ chR row step i ∧ chR row step i ≤ 1 := by
  match e : row[i]? with
  | some x =>
    rw [chR_in e]
    exact h1 x (List.mem_of_getElem? e)
  | none =>
    have hle : row.length ≤ i := List.getElem?_eq_none_iff.mp e
    match el : row.getLast? with
    | none =>
      rw [List.getLast?_eq_none_iff.mp el, chR_nil]
      exact ⟨Rat.le_refl, by decide⟩
    | some l =>
      rw [chR_out hle el]
      exact mul_01 (h1 l (List.mem_of_getLast? el)) (pow_01 h2 _)
theorem AnyLife.step4 {row : List RT} {step : RT} (h : AnyLife row step) : 0 < step.2 ∧ step.2 ≤ 4 := by
  have b : ∀ {row : List RT} {step : RT}, BaseLife row step → 0 < step.2 ∧ step.2 ≤ 4 := fun h => by
    rcases h with ⟨ws, extra, m, _⟩ | ⟨_, rfl⟩
    · rcases m.st with rfl | rfl | rfl | rfl | rfl <;> decide
    · decide
  rcases h with h | ⟨_, _, h, _⟩ | ⟨_, _, _, _, hs⟩
  · exact b h
  · exact b h
  · rcases hs with rfl | rfl <;> decide
theorem pow_four {x : Int} (h : 0 < x ∧ x ≤ 4) : ∀ k : Nat, 0 < x ^ k ∧ x ^ k ≤ 4 ^ k
  | 0 => by
    rw [Int.pow_zero, Int.pow_zero]
    decide
  | k + 1 => by
    obtain ⟨h1, h2⟩ := pow_four h k
    rw [Int.pow_succ, Int.pow_succ]
    exact ⟨Int.mul_pos h1 h.1, Int.mul_le_mul h2 h.2 (Int.le_of_lt h.1) (Int.le_of_lt (Int.lt_of_lt_of_le h1 h2))⟩
theorem AnyLife.ch01 {row : List RT} {step : RT} (h : AnyLife row step) : ∃ D : Int, Ch01 D (chR row step) 20 := by
  obtain ⟨W, hW⟩ := h.w
  obtain ⟨L, _, _⟩ := h.ok
  obtain ⟨q1, q2⟩ := h.q01
  have sm20 : Sm 41 (step.2 ^ 20) := by
    obtain ⟨z1, z2⟩ := pow_four h.step4 20
    have e : (4 : Int) ^ 20 = 1099511627776 := by decide
    have e2 : (2 : Nat) ^ 41 = 2199023255552 := by decide
    unfold Sm
    rw [e2]
    rw [e] at z2
    omega
  have hD : 0 < W * step.2 ^ 20 := Int.mul_pos hW.pos (Int.pow_pos L.st.1.1.1)
  refine ⟨W * step.2 ^ 20, hD, (hW.sm.mul (show Sm 41 (step.2 ^ 20) from sm20)).mono (by decide), fun k _ => (chR_01 q1 q2 k).1, fun k _ => (chR_01 q1 q2 k).2, fun k hk => ?_⟩
  obtain ⟨x, sx, vx⟩ := ch_ex L k
  rw [← vx]
  exact Den.of hD sx.1.1 (ch_dvdW hW.dvd L.sm L.st.1.1 sx.1 vx hk)

end Fp

set_option Elab.async false
set_option linter.all false
set_option maxRecDepth 100000
set_option maxHeartbeats 4000000
set_option exponentiation.threshold 10000
namespace Fp
open PySem PySem.Spec PyProof.Rows L2
/-! ### the law's own puts -/
abbrev N_lp : List Str := ["_law_life_here", "_law_most_here", "_law_some", "_law_n", "_law_here"]
def retScope (b : List Stmt) (d : Scope) : Scope := match b with
  | [_, .Return (some (.ListComp _ _ sc _)) _] => sc
  | _ => d
section
variable {P : Program} {w : World} {K : PySem.W.Frag} {mg : Str → Option Value} {base : Heap}
def spLmost : Sp := fun vs H Q _ => ∃ (d c : Addr) (t : Int), vs = [.ref d] ∧ Feed H d c t ∧ t ≤ 800000 ∧ ∀ (r : Nat) H', r ≤ 20 → Keep d H H' → Feed H' d c (t + 1 + 1) → Q (.int (r : Int)) H'
def spLputs (K : PySem.W.Frag) : Sp := fun vs H Q _ => ∃ (p : Addr) (row : List RT) (step : RT) (n most : Nat) (D : Int), vs = [.ref p, .int (most : Int)] ∧ LifeAt K H p row step ∧ LifeOk n row step ∧ (row = [] → step = (0, 1)) ∧ Ch01 D (chR row step) 20 ∧ most ≤ 20 ∧
  ∀ z H', Same H H' → LsM K H' z (mkL (most + 1) (putQ row step)) → Q (.ref z) H'
theorem mkL_succ {i : Nat} {g : Nat → Rat} : mkL (i + 1) g = mkL i g ++ [rdq (g i)] := by
  unfold mkL
  rw [List.range_succ, List.map_append]
  rfl
theorem mkL_sum {n : Nat} {g : Nat → Rat} : ((mkL n g).map qv).sum = sumTo n g := by
  induction n with
  | zero => rfl
  | succ n ih =>
    rw [mkL_succ, List.map_append, sumTo_succ, ← ih]
    simp only [List.map_cons, List.map_nil]
    rw [sum_snoc, qv_rdq]
end

end Fp

set_option Elab.async false
set_option linter.all false
set_option maxRecDepth 100000
set_option maxHeartbeats 4000000
set_option exponentiation.threshold 10000
namespace Fp
open PySem PySem.Spec PyProof.Rows L2
/-! ### what is told anew is what is told times the puts -/
theorem tri_swap (f : Nat → Nat → Rat) : ∀ n, sumTo n (fun k => sumTo (n - k) (f k)) = sumTo n fun j => sumTo (n - j) fun k => f k j := by
  have key : ∀ (g : Nat → Nat → Rat) (n : Nat), sumTo (n + 1) (fun k => sumTo (n + 1 - k) (g k)) = sumTo n (fun k => sumTo (n - k) (g k)) + sumTo (n + 1) fun k => g k (n - k) := by
    intro g n
    rw [sumTo_succ, sumTo_succ (f := fun k => g k (n - k))]
    have e1 : sumTo n (fun k => sumTo (n + 1 - k) (g k)) = sumTo n (fun k => sumTo (n - k) (g k)) + sumTo n fun k => g k (n - k) := by
      rw [← sumTo_add]
      refine sumTo_congr fun k hk => ?_
      rw [show n + 1 - k = (n - k) + 1 by omega, sumTo_succ]
    have e2 : sumTo (n + 1 - n) (g n) = g n (n - n) := by
      rw [show n + 1 - n = 0 + 1 by omega, sumTo_succ, sumTo_zero, Nat.sub_self]
      grind
    rw [e1, e2]
    grind
  intro n
  induction n with
  | zero => rfl
  | succ n ih =>
    rw [key f n, key (fun j k => f k j) n, ih]
    congr 1
    have := sumTo_rev (n + 1) fun k => f k (n - k)
    rw [← this]
    refine sumTo_congr fun k hk => ?_
    rw [show n - (n + 1 - 1 - k) = k by omega, show n + 1 - 1 - k = n - k by omega]
theorem conv (a b : Nat → Rat) : ∀ n, renQ a b n = sumTo (n + 1) fun k => b k * renQ a oneAt (n - k) := by
  intro n
  induction n using Nat.strongRecOn with
  | ind n ih =>
    have p0 : renQ a oneAt 0 = 1 := by
      rw [renQ_is, sumTo_zero]
      show (1 : Rat) + 0 = 1
      grind
    rw [renQ_is a b n, sumTo_succ, Nat.sub_self, p0]
    have e : sumTo n (fun k => b k * renQ a oneAt (n - k)) = sumTo n fun k => sumTo (n - k) fun j => a j * (b k * renQ a oneAt (n - k - 1 - j)) := by
      refine sumTo_congr fun k hk => ?_
      rw [renQ_is a oneAt (n - k)]
      have : oneAt (n - k) = 0 := if_neg (by omega)
      rw [this]
      have e2 : sumTo (n - k) (fun j => a j * (b k * renQ a oneAt (n - k - 1 - j))) = b k * sumTo (n - k) fun j => a j * renQ a oneAt (n - k - 1 - j) := by
        rw [sumTo_mul]
        refine sumTo_congr fun j _ => ?_
        grind
      rw [e2]
      grind
    rw [e, tri_swap fun k j => a j * (b k * renQ a oneAt (n - k - 1 - j))]
    have e3 : (sumTo n fun j => sumTo (n - j) fun k => a j * (b k * renQ a oneAt (n - k - 1 - j))) = sumTo n fun j => a j * renQ a b (n - 1 - j) := by
      refine sumTo_congr fun j hj => ?_
      rw [← sumTo_mul, ih (n - 1 - j) (by omega), show n - 1 - j + 1 = n - j by omega]
      congr 1
      refine sumTo_congr fun k hk => ?_
      rw [show n - 1 - j - k = n - k - 1 - j by omega]
    rw [e3]
    grind
/-- told one beat later -/
def laterF (c : Nat → Rat) : Nat → Rat
  | 0 => 0
  | k + 1 => c k
theorem conv_later (a c : Nat → Rat) (n : Nat) : renQ a (laterF c) n = sumTo n fun k => c k * renQ a oneAt (n - 1 - k) := by
  rw [conv, sumTo_head]
  have e : (sumTo n fun j => laterF c (j + 1) * renQ a oneAt (n - (j + 1))) = sumTo n fun k => c k * renQ a oneAt (n - 1 - k) := by
    refine sumTo_congr fun k hk => ?_
    rw [show n - (k + 1) = n - 1 - k by omega]
    rfl
  rw [e]
  show (0 : Rat) * _ + _ = _
  grind

end Fp

set_option Elab.async false
set_option linter.all false
set_option maxRecDepth 100000
set_option maxHeartbeats 4000000
set_option exponentiation.threshold 10000
namespace Fp
open PySem PySem.Spec PyProof.Rows L2
/-! ### puts behind a first -/
def afterQ (frow row : List RT) (fst step : RT) (n : Nat) : Rat := renQ (chR row step) (laterF (chR frow fst)) n
section
variable {P : Program} {w : World} {K : PySem.W.Frag} {mg : Str → Option Value} {base : Heap} {aN aO : Addr}
def spAfter (K : PySem.W.Frag) : Sp := fun vs H Q _ => ∃ (p f : Addr) (row frow : List RT) (step fst : RT) (n n2 most : Nat) (W W2 : Int), vs = [.ref f, .ref p, .int (most : Int)] ∧ LifeAt K H p row step ∧ LifeOk n row step ∧ WOk W row ∧ LifeAt K H f frow fst ∧ LifeOk n2 frow fst ∧ WOk W2 frow ∧ most ≤ 20 ∧
  ∀ z H', Same H H' → RowAt K H' z (mkL (most + 1) (afterQ frow row fst step)) → Q (.ref z) H'
end

end Fp

set_option Elab.async false
set_option linter.all false
set_option maxRecDepth 100000
set_option maxHeartbeats 4000000
set_option exponentiation.threshold 10000
namespace Fp
open PySem PySem.Spec PyProof.Rows L2
/-! ### how great puts are -/
/-- a whole number over P -/
def Ov (P : Int) (q : Rat) : Prop := ∃ T : Int, q = (T : Rat) / (P : Rat)
theorem Ov.red {P : Int} {q : Rat} {s k : Nat} (hP : 0 < P) (h : Ov P q) (sP : Sm s P) (h0 : 0 ≤ q) (h1 : q ≤ 2 ^ k) : (rdq q).2 ∣ P ∧ Sm (s + k + 1) (rdq q).1 ∧ Sm s (rdq q).2 := by
  obtain ⟨T, hT⟩ := h
  have hc := cast_ne (Int.ne_of_gt hP)
  obtain ⟨r1, r2⟩ := red_small (rdq_red q) hP (by rw [qv_rdq]; exact hT)
  refine ⟨r1, ?_, dvd_small r1 hP sP⟩
  have hcp : (0 : Rat) < (P : Rat) := Rat.intCast_pos.mpr hP
  have e1 : (T : Rat) = q * (P : Rat) := by
    rw [hT]
    grind
  have t0 : 0 ≤ T := by
    have := Rat.mul_nonneg h0 (Rat.le_of_lt hcp)
    rw [← e1] at this
    exact Rat.intCast_nonneg.mp this
  have t1 : T ≤ 2 ^ k * P := by
    have := Rat.mul_le_mul_of_nonneg_right h1 (Rat.le_of_lt hcp)
    rw [← e1] at this
    have e2 : (2 : Rat) ^ k * (P : Rat) = ((2 ^ k * P : Int) : Rat) := by
      rw [Rat.intCast_mul, cast_pow 2 k]
      rfl
    rw [e2] at this
    exact Rat.intCast_le_intCast.mp this
  unfold Sm at *
  have t2 : T.natAbs ≤ 2 ^ k * P.natAbs := by
    have : (2 ^ k * P : Int).natAbs = 2 ^ k * P.natAbs := by
      rw [Int.natAbs_mul, Int.natAbs_pow]
      rfl
    omega
  have t3 : 2 ^ k * P.natAbs ≤ 2 ^ k * 2 ^ s := Nat.mul_le_mul_left _ (Nat.le_of_lt sP)
  have t4 : 2 ^ (s + k + 1) = 2 * (2 ^ k * 2 ^ s) := by
    rw [Nat.pow_succ, Nat.pow_add, Nat.mul_comm, Nat.mul_comm (2 ^ s)]
  have t5 : 0 < 2 ^ k * 2 ^ s := Nat.mul_pos (Nat.pow_pos (by decide)) (Nat.pow_pos (by decide))
  omega
theorem Ov.zero {P : Int} : Ov P 0 := ⟨0, by
  show (0 : Rat) = ((0 : Int) : Rat) / _
  rw [show ((0 : Int) : Rat) = 0 from rfl]
  grind⟩
theorem Ov.add {P : Int} {p q : Rat} (hP : 0 < P) (hp : Ov P p) (hq : Ov P q) : Ov P (p + q) := by
  obtain ⟨T, rfl⟩ := hp
  obtain ⟨S, rfl⟩ := hq
  refine ⟨T + S, ?_⟩
  have h2 := cast_ne (Int.ne_of_gt hP)
  rw [Rat.intCast_add]
  grind
theorem Ov.sum {P : Int} (hP : 0 < P) {n : Nat} {g : Nat → Rat} (h : ∀ j, j < n → Ov P (g j)) : Ov P (sumTo n g) := by
  induction n with
  | zero => exact Ov.zero
  | succ n ih =>
    rw [sumTo_succ]
    exact (ih fun j hj => h j (by omega)).add hP (h n (by omega))
theorem Den.ov {D : Int} {e : Nat} {q : Rat} (h : Den D e q) : Ov (D ^ e) q := h
theorem Ov.mul {P R : Int} {p q : Rat} (hP : 0 < P) (hR : 0 < R) (hp : Ov P p) (hq : Ov R q) : Ov (P * R) (p * q) := by
  obtain ⟨T, rfl⟩ := hp
  obtain ⟨S, rfl⟩ := hq
  refine ⟨T * S, ?_⟩
  have h1 := cast_ne (Int.ne_of_gt hP)
  have h2 := cast_ne (Int.ne_of_gt hR)
  rw [Rat.intCast_mul, Rat.intCast_mul]
  grind
section
variable {D : Int} {a : Nat → Rat} {M : Nat}
/-- puts: from nought to a power of two, over a power of the one number -/
theorem Ch01.put (h : Ch01 D a M) : ∀ n, n ≤ M → 0 ≤ renQ a oneAt n ∧ renQ a oneAt n ≤ 2 ^ n ∧ Den D n (renQ a oneAt n) := by
  have pp : ∀ m : Nat, (0 : Rat) < 2 ^ m := fun m => Rat.pow_pos (by decide)
  intro n
  induction n using Nat.strongRecOn with
  | ind n ih =>
    intro hn
    cases n with
    | zero =>
      have e : renQ a oneAt 0 = 1 := by
        rw [renQ_is, sumTo_zero]
        show (1 : Rat) + 0 = 1
        grind
      rw [e, Rat.pow_zero]
      refine ⟨by decide, Rat.le_refl, 1, ?_⟩
      rw [Int.pow_zero]
      grind
    | succ n =>
      have e : renQ a oneAt (n + 1) = sumTo (n + 1) fun j => a j * renQ a oneAt (n + 1 - 1 - j) := by
        rw [renQ_is]
        show (0 : Rat) + _ = _
        grind
      rw [e]
      refine ⟨?_, ?_, Den.sum h.pos fun j hj => ?_⟩
      · have := sumTo_le (n := n + 1) (f := fun _ => 0) (g := fun j => a j * renQ a oneAt (n + 1 - 1 - j)) fun j hj => Rat.mul_nonneg (h.ge j (by omega)) (ih (n + 1 - 1 - j) (by omega) (by omega)).1
        rw [sumTo_nought] at this
        exact this
      · have h2 : sumTo (n + 1) (fun j => a j * renQ a oneAt (n + 1 - 1 - j)) ≤ sumTo (n + 1) fun j => (2 : Rat) ^ (n + 1 - 1 - j) := sumTo_le fun j hj => by
          obtain ⟨i1, i2, _⟩ := ih (n + 1 - 1 - j) (by omega) (by omega)
          have h3 := Rat.mul_le_mul_of_nonneg_right (h.le j (by omega)) i1
          grind
        rw [sumTo_rev (n + 1) fun k => (2 : Rat) ^ k, two_sum] at h2
        grind
      · have := (h.den j (by omega)).mul h.pos (ih (n + 1 - 1 - j) (by omega) (by omega)).2.2
        exact this.mono h.pos (by omega)
end
/-- behind a first: over the product, from nought to a power of two -/
theorem after_ok {D D2 : Int} {a c : Nat → Rat} (h : Ch01 D a 20) (h2 : Ch01 D2 c 20) {n : Nat} (hn : n ≤ 20) : 0 ≤ renQ a (laterF c) n ∧ renQ a (laterF c) n ≤ 2 ^ n ∧ Ov (D2 * D ^ 20) (renQ a (laterF c) n) := by
  rw [conv_later]
  have hP : (0 : Int) < D ^ 20 := Int.pow_pos h.pos
  refine ⟨?_, ?_, Ov.sum (Int.mul_pos h2.pos hP) fun j hj => ?_⟩
  · have := sumTo_le (n := n) (f := fun _ => 0) (g := fun k => c k * renQ a oneAt (n - 1 - k)) fun j hj => Rat.mul_nonneg (h2.ge j (by omega)) (h.put (n - 1 - j) (by omega)).1
    rw [sumTo_nought] at this
    exact this
  · have h3 : sumTo n (fun k => c k * renQ a oneAt (n - 1 - k)) ≤ sumTo n fun j => (2 : Rat) ^ (n - 1 - j) := sumTo_le fun j hj => by
      obtain ⟨i1, i2, _⟩ := h.put (n - 1 - j) (by omega)
      have h4 := Rat.mul_le_mul_of_nonneg_right (h2.le j (by omega)) i1
      grind
    rw [sumTo_rev n fun k => (2 : Rat) ^ k, two_sum] at h3
    grind
  · have e1 := (h2.den j (by omega)).ov
    rw [Int.pow_succ, Int.pow_zero, Int.one_mul] at e1
    exact e1.mul h2.pos hP ((h.put (n - 1 - j) (by omega)).2.2.mono h.pos (show n - 1 - j ≤ 20 by omega)).ov
theorem cutV_from1 (vs : List V) : cutV vs (some 1) none = vs.drop 1 := by
  unfold cutV
  rw [HT.sIx_none, show (1 : Int) = ((1 : Nat) : Int) from rfl, HT.sIx_nat]
  rcases (by omega : 1 ≤ vs.length ∨ vs.length = 0) with z | z
  · rw [Nat.min_eq_left z, List.take_of_length_le (by rw [List.length_drop]; exact Nat.le_refl _)]
  · rw [List.length_eq_zero_iff.mp z]
    rfl

end Fp

set_option Elab.async false
set_option linter.all false
set_option maxRecDepth 100000
set_option maxHeartbeats 4000000
set_option exponentiation.threshold 10000
namespace Fp
open PySem PySem.Spec PyProof.Rows L2
/-! ### values with their size -/
/-- a whole number over P, within the k-th power of two -/
structure Sz (P : Int) (k : Nat) (q : Rat) : Prop where
  ov : Ov P q
  lo : -((2 : Rat) ^ k) ≤ q
  hi : q ≤ (2 : Rat) ^ k
theorem two_pos (k : Nat) : (0 : Rat) < (2 : Rat) ^ k := Rat.pow_pos (by decide)
theorem Sz.pos {P : Int} {k : Nat} {q : Rat} (h : Ov P q) (h0 : 0 ≤ q) (h1 : q ≤ (2 : Rat) ^ k) : Sz P k q := ⟨h, by have := two_pos k; grind, h1⟩
theorem Sz.mono {P : Int} {k j : Nat} {q : Rat} (h : Sz P k q) (l : k ≤ j) : Sz P j q := by
  have e := pow2_le l
  have h1 := h.lo
  have h2 := h.hi
  exact ⟨h.ov, by grind, by grind⟩
theorem Sz.neg {P : Int} {k : Nat} {q : Rat} (h : Sz P k q) : Sz P k (-q) := by
  obtain ⟨⟨T, hT⟩, h1, h2⟩ := h
  refine ⟨⟨-T, ?_⟩, by grind, by grind⟩
  rw [hT, Rat.intCast_neg]
  grind
theorem Sz.add {P : Int} {k : Nat} {p q : Rat} (hP : 0 < P) (h1 : Sz P k p) (h2 : Sz P k q) : Sz P (k + 1) (p + q) := by
  have a1 := h1.lo
  have a2 := h1.hi
  have b1 := h2.lo
  have b2 := h2.hi
  refine ⟨h1.ov.add hP h2.ov, ?_, ?_⟩ <;> (rw [Rat.pow_succ]; grind)
theorem Sz.mul {P R : Int} {k j : Nat} {p q : Rat} (hP : 0 < P) (hR : 0 < R) (h1 : Sz P k p) (h2 : Sz R j q) : Sz (P * R) (k + j) (p * q) := by
  have a1 : 0 ≤ (2 : Rat) ^ k + p := by have := h1.lo; grind
  have a2 : 0 ≤ (2 : Rat) ^ k - p := by have := h1.hi; grind
  have b1 : 0 ≤ (2 : Rat) ^ j + q := by have := h2.lo; grind
  have b2 : 0 ≤ (2 : Rat) ^ j - q := by have := h2.hi; grind
  have x1 := Rat.mul_nonneg a1 b1
  have x2 := Rat.mul_nonneg a1 b2
  have x3 := Rat.mul_nonneg a2 b1
  have x4 := Rat.mul_nonneg a2 b2
  refine ⟨h1.ov.mul hP hR h2.ov, ?_, ?_⟩ <;> (rw [pow_plus]; grind)
theorem Ov.dvd {P R : Int} {q : Rat} (h : Ov P q) (hP : 0 < P) (hR : 0 < R) (d : P ∣ R) : Ov R q := by
  obtain ⟨T, rfl⟩ := h
  obtain ⟨u, rfl⟩ := d
  refine ⟨T * u, ?_⟩
  have h1 := cast_ne (Int.ne_of_gt hP)
  have h2 := cast_ne (Int.ne_of_gt hR)
  rw [Rat.intCast_mul] at h2
  rw [Rat.intCast_mul, Rat.intCast_mul]
  grind
theorem Sz.dvd {P R : Int} {k : Nat} {q : Rat} (h : Sz P k q) (hP : 0 < P) (hR : 0 < R) (d : P ∣ R) : Sz R k q := ⟨h.ov.dvd hP hR d, h.lo, h.hi⟩
theorem Sz.sum {P : Int} {k n : Nat} {g : Nat → Rat} (hP : 0 < P) (h : ∀ j, j < n → Sz P k (g j)) (hn : n ≤ 128) : Sz P (k + 7) (sumTo n g) := by
  have key : ∀ m : Nat, m ≤ n → -(((m : Int) : Rat) * (2 : Rat) ^ k) ≤ sumTo m g ∧ sumTo m g ≤ ((m : Int) : Rat) * (2 : Rat) ^ k := by
    intro m
    induction m with
    | zero =>
      intro _
      rw [sumTo_zero, show (((0 : Nat) : Int) : Rat) = 0 from rfl]
      constructor <;> grind
    | succ m ih =>
      intro hm
      obtain ⟨i1, i2⟩ := ih (by omega)
      have z := h m (by omega)
      have z1 := z.lo
      have z2 := z.hi
      rw [sumTo_succ, show ((m + 1 : Nat) : Int) = (m : Int) + 1 by omega, Rat.intCast_add]
      rw [show ((1 : Int) : Rat) = 1 from rfl]
      constructor <;> grind
  obtain ⟨k1, k2⟩ := key n (Nat.le_refl _)
  have e : ((n : Int) : Rat) * (2 : Rat) ^ k ≤ (2 : Rat) ^ (k + 7) := by
    rw [pow_plus]
    have l : ((n : Int) : Rat) ≤ ((128 : Int) : Rat) := Rat.intCast_le_intCast.mpr (by omega)
    have := Rat.mul_le_mul_of_nonneg_right l (Rat.le_of_lt (two_pos k))
    have e2 : (2 : Rat) ^ 7 = ((128 : Int) : Rat) := by decide +kernel
    rw [e2]
    grind
  exact ⟨Ov.sum hP fun j hj => (h j hj).ov, by grind, by grind⟩
theorem Sz.red {P : Int} {q : Rat} {s k : Nat} (h : Sz P k q) (hP : 0 < P) (sP : Sm s P) : (rdq q).2 ∣ P ∧ Sm (s + k + 1) (rdq q).1 ∧ Sm s (rdq q).2 := by
  obtain ⟨⟨T, hT⟩, h0, h1⟩ := h
  have hc := cast_ne (Int.ne_of_gt hP)
  obtain ⟨r1, r2⟩ := red_small (rdq_red q) hP (by rw [qv_rdq]; exact hT)
  refine ⟨r1, ?_, dvd_small r1 hP sP⟩
  have hcp : (0 : Rat) < (P : Rat) := Rat.intCast_pos.mpr hP
  have e1 : (T : Rat) = q * (P : Rat) := by
    rw [hT]
    grind
  have e2 : (2 : Rat) ^ k * (P : Rat) = ((2 ^ k * P : Int) : Rat) := by
    rw [Rat.intCast_mul, cast_pow 2 k]
    rfl
  have t1 : T ≤ 2 ^ k * P := by
    have := Rat.mul_le_mul_of_nonneg_right h1 (Rat.le_of_lt hcp)
    rw [← e1, e2] at this
    exact Rat.intCast_le_intCast.mp this
  have t0 : -(2 ^ k * P) ≤ T := by
    have := Rat.mul_le_mul_of_nonneg_right h0 (Rat.le_of_lt hcp)
    rw [← e1] at this
    refine Rat.intCast_le_intCast.mp ?_
    rw [Rat.intCast_neg, ← e2]
    grind
  unfold Sm at *
  have t2 : T.natAbs ≤ 2 ^ k * P.natAbs := by
    have : (2 ^ k * P : Int).natAbs = 2 ^ k * P.natAbs := by
      rw [Int.natAbs_mul, Int.natAbs_pow]
      rfl
    omega
  have t3 : 2 ^ k * P.natAbs ≤ 2 ^ k * 2 ^ s := Nat.mul_le_mul_left _ (Nat.le_of_lt sP)
  have t4 : 2 ^ (s + k + 1) = 2 * (2 ^ k * 2 ^ s) := by
    rw [Nat.pow_succ, Nat.pow_add, Nat.mul_comm, Nat.mul_comm (2 ^ s)]
  have t5 : 0 < 2 ^ k * 2 ^ s := Nat.mul_pos (Nat.pow_pos (by decide)) (Nat.pow_pos (by decide))
  omega
theorem Sz.smr {P : Int} {q : Rat} {s k n : Nat} (h : Sz P k q) (hP : 0 < P) (sP : Sm s P) (hn : s + k + 1 ≤ n) : SmR n (rdq q) := by
  obtain ⟨_, h2, h3⟩ := h.red hP sP
  exact ⟨rdq_red _, h2.mono hn, h3.mono (by omega)⟩
/-- a put: its size -/
theorem Ch01.putSz {D : Int} {a : Nat → Rat} {M : Nat} (h : Ch01 D a M) {n e : Nat} (hn : n ≤ M) (he : n ≤ e) : Sz (D ^ e) n (renQ a oneAt n) := by
  obtain ⟨x1, x2, x3⟩ := h.put n hn
  exact Sz.pos (x3.mono h.pos he).ov x1 x2
theorem Ch01.chSz {D : Int} {a : Nat → Rat} {M : Nat} (h : Ch01 D a M) {n : Nat} (hn : n < M) : Sz D 0 (a n) := by
  refine Sz.pos ?_ (h.ge n hn) (by rw [Rat.pow_zero]; exact h.le n hn)
  have := (h.den n hn).ov
  rw [Int.pow_succ, Int.pow_zero, Int.one_mul] at this
  exact this
theorem Ch01.powSm {D : Int} {a : Nat → Rat} {M : Nat} (h : Ch01 D a M) (e : Nat) : 0 < D ^ e ∧ Sm (60 * e + 1) (D ^ e) := ⟨Int.pow_pos h.pos, sm_pow h.sm (by decide) e⟩
theorem Sz.nought {P : Int} {k : Nat} : Sz P k 0 := ⟨Ov.zero, by have := two_pos k; grind, by have := two_pos k; grind⟩
theorem Sz.one {k : Nat} {P : Int} (hP : 0 < P) : Sz P k 1 := by
  refine ⟨⟨P, ?_⟩, ?_, ?_⟩
  · have := cast_ne (Int.ne_of_gt hP)
    grind
  · have := two_pos k
    grind
  · have := pow2_le (Nat.zero_le k)
    rw [Rat.pow_zero] at this
    exact this
/-! ### lists told by value -/
theorem mem_mkL {n : Nat} {f : Nat → Rat} {x : RT} (h : x ∈ mkL n f) : ∃ j, j < n ∧ x = rdq (f j) := by
  obtain ⟨j, hj⟩ := List.mem_iff_getElem?.mp h
  have hj2 := (List.getElem?_eq_some_iff.mp hj).1
  rw [mkL_len] at hj2
  rw [mkL_at hj2] at hj
  exact ⟨j, hj2, (Option.some.inj hj).symm⟩
theorem over_mkL {P : Int} {n s k : Nat} {f : Nat → Rat} (hP : 0 < P) (sP : Sm s P) (z : ∀ j, j < n → Sz P k (f j)) (hn : n ≤ 1000) : Over1 (s + k + 1) s P (mkL n f) := by
  refine ⟨hP, sP, fun x hx => ?_, by rw [mkL_len]; exact hn⟩
  obtain ⟨j, hj, rfl⟩ := mem_mkL hx
  obtain ⟨h1, h2, h3⟩ := (z j hj).red hP sP
  exact ⟨(rdq_red _).1, h1, h2⟩
section
variable {K : PySem.W.Frag} {H : Hp} {Q : VK}
theorem tnil_go {σ : L2.St} {R : List V → Hp → Prop} (h : R [] H) : tNil σ H R := h
theorem lsum_go {p : Addr} {P : Int} {n s k : Nat} {f : Nat → Rat} (h : LsM K H p (mkL n f)) (hP : 0 < P) (sP : Sm s P) (z : ∀ j, j < n → Sz P k (f j)) (hn : n ≤ 1000) (hs : s ≤ 2500) (hk : k ≤ 900)
    (q : ∀ r H', Same H H' → RAt K H' r (rdq (sumTo n f)) → Q (.ref r) H') : spLsum K LstAt [.ref p] H Q E0 := by
  obtain ⟨rs, h1, h2⟩ := h
  refine ⟨p, _, _, _, P, rfl, ⟨rs, SqL.of h1, h2⟩, over_mkL hP sP z hn, by omega, by omega, fun y x HF sF hy rx vx _ _ => ?_⟩
  have ex : x = rdq (sumTo n f) := is_rdq rx (by rw [vx, mkL_sum])
  rw [ex] at hy
  exact q y HF sF hy
theorem lsumT_go {p : Addr} {P : Int} {n s k : Nat} {f : Nat → Rat} (h : RowAt K H p (mkL n f)) (hP : 0 < P) (sP : Sm s P) (z : ∀ j, j < n → Sz P k (f j)) (hn : n ≤ 1000) (hs : s ≤ 2500) (hk : k ≤ 900)
    (q : ∀ r H', Same H H' → RAt K H' r (rdq (sumTo n f)) → Q (.ref r) H') : spLsum K RowAt [.ref p] H Q E0 := by
  refine ⟨p, _, _, _, P, rfl, h, over_mkL hP sP z hn, by omega, by omega, fun y x HF sF hy rx vx _ _ => ?_⟩
  have ex : x = rdq (sumTo n f) := is_rdq rx (by rw [vx, mkL_sum])
  rw [ex] at hy
  exact q y HF sF hy
theorem times_go {p1 p2 : Addr} {x y : Rat} (h1 : RAt K H p1 (rdq x)) (h2 : RAt K H p2 (rdq y)) (s1 : SmR 3000 (rdq x)) (s2 : SmR 3000 (rdq y)) (q : ∀ r H', Same H H' → RAt K H' r (rdq (x * y)) → Q (.ref r) H') : spTwo K (fun a b c d => a * c) [.ref p1, .ref p2] H Q E0 := by
  refine ⟨p1, p2, _, _, _, _, rfl, ⟨h1, h2, s1.2.1, s1.2.2, s2.2.1, s2.2.2, s1.1.1, s2.1.1⟩, fun b nb => ?_⟩
  have e := same_new (o := HO.tup [.int (rT (rdq x) (rdq y)).1, .int (rT (rdq x) (rdq y)).2]) nb
  obtain ⟨y1, y2⟩ := qv_rT s1.1 s2.1
  have ep : rT (rdq x) (rdq y) = rdq (x * y) := is_rdq y1 (by rw [y2, qv_rdq, qv_rdq])
  refine q b _ e ?_
  rw [← ep]
  exact SqT.of upd_same
theorem minus_go {p1 p2 : Addr} {x y : Rat} (h1 : RAt K H p1 (rdq x)) (h2 : RAt K H p2 (rdq y)) (s1 : SmR 3000 (rdq x)) (s2 : SmR 3000 (rdq y)) (q : ∀ r H', Same H H' → RAt K H' r (rdq (x - y)) → Q (.ref r) H') : spTwo K (fun a b c d => a * d - c * b) [.ref p1, .ref p2] H Q E0 := by
  refine ⟨p1, p2, _, _, _, _, rfl, ⟨h1, h2, s1.2.1, s1.2.2, s2.2.1, s2.2.2, s1.1.1, s2.1.1⟩, fun b nb => ?_⟩
  have e := same_new (o := HO.tup [.int (rM (rdq x) (rdq y)).1, .int (rM (rdq x) (rdq y)).2]) nb
  obtain ⟨y1, y2⟩ := qv_rM s1.1 s2.1
  have ep : rM (rdq x) (rdq y) = rdq (x - y) := is_rdq y1 (by rw [y2, qv_rdq, qv_rdq])
  refine q b _ e ?_
  rw [← ep]
  exact SqT.of upd_same
/-- a tuple of a list -/
theorem RowAt.of_ls {p b : Addr} {xs : List RT} {rs : List Addr} (h1 : H p = some (.lst (rs.map V.ref))) (h2 : RsAt K H rs xs) (nb : H b = none) : RowAt K (upd H b (.tup (rs.map V.ref))) b xs := ⟨rs, SqT.of upd_same, h2.tk (Tk.same (same_new nb))⟩
/-- a wish of an object alone -/
@[reducible] def refQ (Qd : Addr → Hp → Prop) : VK := fun v H2 => match v with
  | .ref D => Qd D H2
  | _ => False
/-- a comprehension each turn of which gives a ratio told by its value -/
theorem lc_mkW {J : It} {n : Nat} {G : Hp → Prop} {Y : Nat → Hp → V → Hp → Prop} (w : Walk J n G Y) {g : TG} {te : TE} {vs : List Nat} {σ : L2.St} {H1 : Hp} (f : Nat → Rat) (hn : n ≤ 900) (hG : ∀ HE, Same H1 HE → G HE)
    (hs : ∀ (k : Nat) (x : V) (HE HE' : Hp) (R : VK), k < n → Same H1 HE → Y k HE x HE' → (∀ r HF, Same HE HF → RAt K HF r (rdq (f k)) → R (.ref r) HF) → g x (wipe σ vs) HE' fun σ2 H2 => wipe σ2 vs = wipe σ vs ∧ te σ2 H2 R)
    {Qd : Addr → Hp → Prop} (hd : ∀ D H2, Same H1 H2 → LsM K H2 D (mkL n f) → Qd D H2) : tLc (fun _ H2 R => R J H2) g tYes te vs σ H1 (refQ Qd) := by
  intro D nD
  have e1 := same_new (o := HO.lst []) nD
  refine lc_it w (fun k HE => ∃ qs : List Addr, Same H1 HE ∧ HE D = some (.lst (qs.map V.ref)) ∧ RsAt K HE qs (mkL k f)) ⟨[], e1, upd_same, .nil⟩ ?_ ?_ ?_
  · rintro i HE _ ⟨_, sE, _⟩
    exact hG HE sE
  · rintro k x HE HE' hk ⟨qs, sE, hE, hqs⟩ hY
    have hql := hqs.length
    rw [mkL_len] at hql
    refine hs k x HE HE' _ hk sE hY fun r HF sF hr => ?_
    have hE5 := sF _ _ hE
    refine ⟨_, hE5, by rw [List.length_map, hql]; exact small1000 (by omega), qs ++ [r], ?_, ?_, ?_⟩
    · intro b2 o hb2
      rw [upd_ne (ne_of_none hb2 nD)]
      exact (sE.trans sF) _ _ hb2
    · rw [upd_same, List.map_append]
      rfl
    · rw [mkL_succ]
      exact ((hqs.tk (Tk.same sF)).append (.cons hr .nil)).tk (tk_lst hE5)
  · rintro HE ⟨qs, sE, hE, hqs⟩
    exact hd D HE sE ⟨qs, hE, hqs⟩
theorem lc_mk {lo : Int} {n : Nat} {g : TG} {te : TE} {vs : List Nat} {σ : L2.St} {H1 : Hp} (f : Nat → Rat) (hn : n ≤ 900)
    (hs : ∀ (k : Nat) (HE : Hp) (R : VK), k < n → Same H1 HE → (∀ r HF, Same HE HF → RAt K HF r (rdq (f k)) → R (.ref r) HF) → g (.int (lo + k)) (wipe σ vs) HE fun σ2 H2 => wipe σ2 vs = wipe σ vs ∧ te σ2 H2 R)
    {Qd : Addr → Hp → Prop} (hd : ∀ D H2, Same H1 H2 → LsM K H2 D (mkL n f) → Qd D H2) : tLc (fun _ H2 R => R (Itr lo n) H2) g tYes te vs σ H1 (refQ Qd) := by
  refine lc_mkW walk_range f hn (fun _ _ => trivial) (fun k x HE HE' R hk sE hY q => ?_) hd
  obtain ⟨rfl, rfl⟩ := hY
  exact hs k _ R hk sE q
end

end Fp

set_option Elab.async false
set_option linter.all false
set_option maxRecDepth 100000
set_option maxHeartbeats 4000000
set_option exponentiation.threshold 10000
namespace Fp
open PySem PySem.Spec PyProof.Rows L2
/-! ### lists of ratios: parts, joined, cut -/
section
variable {K : PySem.W.Frag} {H H' : Hp}
theorem LsM.keep {d c p : Addr} {t : Int} {xs : List RT} (h : LsM K H p xs) (f : Feed H d c t) (k : Keep d H H') : LsM K H' p xs := by
  obtain ⟨rs, h1, h2⟩ := h
  exact ⟨rs, keep_at f k h1 (by intro _ z; cases z), h2.tk (Tk.keep f k)⟩
theorem LsM.ix {p : Addr} {xs : List RT} {m : Nat} {x : RT} {k : Int} {Q : VK} (h : LsM K H p xs) (hk : k = (m : Int)) (hm : xs[m]? = some x) (q : ∀ r, RAt K H r x → Q (.ref r) H) : rIxL K (.ref p) (.int k) H Q := by
  obtain ⟨rs, h1, h2⟩ := h
  obtain ⟨r, e1, e2⟩ := h2.get hm
  have g2 : (rs.map V.ref)[m]? = some (.ref r) := by
    rw [List.getElem?_map, e1]
    rfl
  exact ⟨p, _, _, _, rfl, rfl, SqL.of h1, at_of hk g2, q r e2⟩
/-- [x] * k -/
theorem rep_ls {p a : Addr} {x : RT} {k : Nat} {Q : VK} (h : H p = some (.lst [.ref a])) (ha : RAt K H a x) (hk : k ≤ 900) (q : ∀ r H', Same H H' → LsM K H' r (List.replicate k x) → Q (.ref r) H') : rRep (.ref p) (.int (k : Int)) H Q := by
  refine ⟨p, _, _, rfl, rfl, h, by omega, by omega, ?_, fun b nb => ?_⟩
  · rw [Int.toNat_natCast]
    show 1 * k ≤ sizeLine
    exact Nat.le_trans (show 1 * k ≤ 1000 by omega) (by decide)
  have ef : (List.replicate (k : Int).toNat [V.ref a]).flatten = (List.replicate k a).map V.ref := by
    rw [flat_rep, List.map_replicate, Int.toNat_natCast]
  rw [ef] at *
  have e := same_new (o := HO.lst ((List.replicate k a).map V.ref)) nb
  exact q b _ e ⟨_, upd_same, RsAt.rep (ha.tk (Tk.same e)) k⟩
theorem cat_ls {p r : Addr} {xs ys : List RT} {Q : VK} (h1 : LsM K H p xs) (h2 : LsM K H r ys) (hl : xs.length + ys.length ≤ 900) (q : ∀ b H', Same H H' → LsM K H' b (xs ++ ys) → Q (.ref b) H') : rCat (.ref p) (.ref r) H Q := by
  obtain ⟨as, a1, a2⟩ := h1
  obtain ⟨bs, b1, b2⟩ := h2
  have la := a2.length
  have lb := b2.length
  refine ⟨p, r, _, _, rfl, rfl, a1, b1, ?_, fun b nb => ?_⟩
  · rw [List.length_map, List.length_map, sizeLine_eq]
    omega
  have e := same_new (o := HO.lst (as.map V.ref ++ bs.map V.ref)) nb
  refine q b _ e ⟨as ++ bs, ?_, (a2.append b2).tk (Tk.same e)⟩
  rw [upd_same, List.map_append]
/-- xs[:n] of a list -/
theorem take_ls {p : Addr} {xs : List RT} {n : Nat} {Q : VK} (h : LsM K H p xs) (q : ∀ b H', Same H H' → LsM K H' b (xs.take n) → Q (.ref b) H') : rSlL K (.ref p) none (some (n : Int)) H Q := by
  obtain ⟨as, a1, a2⟩ := h
  refine ⟨p, _, rfl, SqL.of a1, fun b nb => ?_⟩
  rw [cutV_take]
  have e := same_new (o := HO.lst ((as.map V.ref).take n)) nb
  refine q b _ e ⟨as.take n, ?_, (a2.take n).tk (Tk.same e)⟩
  rw [upd_same, List.map_take]
/-- the same, and that it is new -/
theorem rep_ls2 {p a : Addr} {x : RT} {k : Nat} {Q : VK} (h : H p = some (.lst [.ref a])) (ha : RAt K H a x) (hk : k ≤ 900) (q : ∀ r H', Same H H' → H r = none → LsM K H' r (List.replicate k x) → Q (.ref r) H') : rRep (.ref p) (.int (k : Int)) H Q := by
  refine ⟨p, _, _, rfl, rfl, h, by omega, by omega, ?_, fun b nb => ?_⟩
  · rw [Int.toNat_natCast]
    show 1 * k ≤ sizeLine
    exact Nat.le_trans (show 1 * k ≤ 1000 by omega) (by decide)
  have ef : (List.replicate (k : Int).toNat [V.ref a]).flatten = (List.replicate k a).map V.ref := by
    rw [flat_rep, List.map_replicate, Int.toNat_natCast]
  rw [ef] at *
  have e := same_new (o := HO.lst ((List.replicate k a).map V.ref)) nb
  exact q b _ e nb ⟨_, upd_same, RsAt.rep (ha.tk (Tk.same e)) k⟩
/-- appending to a list that stands beside others -/
theorem LsM.push {p r : Addr} {xs : List RT} {x : RT} {rs : List Addr} (h1 : H p = some (.lst (rs.map V.ref))) (h2 : RsAt K H rs xs) (hr : RAt K H r x) : LsM K (upd H p (.lst (rs.map V.ref ++ [.ref r]))) p (xs ++ [x]) := by
  refine ⟨rs ++ [r], ?_, (h2.append (.cons hr .nil)).tk (tk_lst h1)⟩
  rw [upd_same, List.map_append]
  rfl
end
section
variable {K : PySem.W.Frag} {H : Hp}
theorem set_ls {p r : Addr} {xs : List RT} {x : RT} {m : Nat} {k : Int} {Q : Hp → Prop} (h : LsM K H p xs) (hr : RAt K H r x) (hk : k = (m : Int)) (hm : m < xs.length) (q : ∀ H', Tk K H H' → (∀ b, b ≠ p → H' b = H b) → LsM K H' p (xs.set m x) → Q H') : rSetL (.ref p) (.int k) (.ref r) H Q := by
  obtain ⟨rs, h1, h2⟩ := h
  have hl := h2.length
  refine ⟨p, _, _, m, rfl, rfl, h1, ?_, ?_⟩
  · subst hk
    unfold ixN
    rw [List.length_map, hl, if_pos (by omega), if_pos (by omega)]
    congr 1
  · refine q _ (tk_lst h1) (fun b hb => upd_ne hb) ⟨rs.set m r, ?_, (RsAt.set hr m h2).tk (tk_lst h1)⟩
    rw [upd_same, List.map_set]
end

end Fp

set_option Elab.async false
set_option linter.all false
set_option maxRecDepth 100000
set_option maxHeartbeats 4000000
set_option exponentiation.threshold 10000
namespace Fp
open PySem PySem.Spec PyProof.Rows L2
/-! ### lists of objects of one sort -/
def Obs {α : Type} (At : Hp → Addr → α → Prop) (H : Hp) (rs : List Addr) (ys : List α) : Prop := rs.length = ys.length ∧ ∀ (i : Nat) (r : Addr) (y : α), rs[i]? = some r → ys[i]? = some y → At H r y
/-- a sort of object that stands while tuples stand -/
def Stays {α : Type} (K : PySem.W.Frag) (At : Hp → Addr → α → Prop) : Prop := ∀ H H' r y, Tk K H H' → At H r y → At H' r y
section
variable {α : Type} {At : Hp → Addr → α → Prop} {K : PySem.W.Frag} {H H' : Hp}
theorem Obs.nil : Obs At H [] [] := ⟨rfl, fun i r y h => by simp at h⟩
theorem Obs.tk {rs : List Addr} {ys : List α} (st : Stays K At) (h : Obs At H rs ys) (e : Tk K H H') : Obs At H' rs ys := ⟨h.1, fun i r y h1 h2 => st _ _ _ _ e (h.2 i r y h1 h2)⟩
theorem Obs.append {rs qs : List Addr} {ys zs : List α} (h : Obs At H rs ys) (g : Obs At H qs zs) : Obs At H (rs ++ qs) (ys ++ zs) := by
  refine ⟨by rw [List.length_append, List.length_append, h.1, g.1], fun i r y h1 h2 => ?_⟩
  rcases Nat.lt_or_ge i rs.length with z | z
  · rw [List.getElem?_append_left z] at h1
    rw [List.getElem?_append_left (by rw [← h.1]; exact z)] at h2
    exact h.2 i r y h1 h2
  · rw [List.getElem?_append_right z] at h1
    rw [List.getElem?_append_right (by rw [← h.1]; exact z), ← h.1] at h2
    exact g.2 _ r y h1 h2
theorem Obs.one {r : Addr} {y : α} (h : At H r y) : Obs At H [r] [y] := by
  refine ⟨rfl, fun i q z h1 h2 => ?_⟩
  match i, h1, h2 with
  | 0, h1, h2 =>
    cases Option.some.inj h1
    cases Option.some.inj h2
    exact h
theorem Obs.get {rs : List Addr} {ys : List α} {i : Nat} {y : α} (h : Obs At H rs ys) (e : ys[i]? = some y) : ∃ r, rs[i]? = some r ∧ At H r y := by
  have hi := (List.getElem?_eq_some_iff.mp e).1
  rw [← h.1] at hi
  exact ⟨rs[i], List.getElem?_eq_getElem hi, h.2 i _ y (List.getElem?_eq_getElem hi) e⟩
/-- a list that may be changed, of such objects -/
def OLs (At : Hp → Addr → α → Prop) (H : Hp) (p : Addr) (ys : List α) : Prop := ∃ rs : List Addr, H p = some (.lst (rs.map V.ref)) ∧ Obs At H rs ys
theorem OLs.same {p : Addr} {ys : List α} (st : Stays K At) (h : OLs At H p ys) (e : Same H H') : OLs At H' p ys := by
  obtain ⟨rs, h1, h2⟩ := h
  exact ⟨rs, e _ _ h1, h2.tk st (Tk.same e)⟩
/-- a comprehension each turn of which gives such an object -/
theorem lc_obsW (st : Stays K At) {J : It} {n : Nat} {G : Hp → Prop} {Y : Nat → Hp → V → Hp → Prop} (w : Walk J n G Y) {g : TG} {te : TE} {vs : List Nat} {σ : L2.St} {H1 : Hp} (f : List α) (hf : f.length = n) (hn : n ≤ 900) (hG : ∀ HE, Same H1 HE → G HE)
    (hs : ∀ (k : Nat) (y : α) (x : V) (HE HE' : Hp) (R : VK), f[k]? = some y → Same H1 HE → Y k HE x HE' → (∀ r HF, Same HE HF → At HF r y → R (.ref r) HF) → g x (wipe σ vs) HE' fun σ2 H2 => wipe σ2 vs = wipe σ vs ∧ te σ2 H2 R)
    {Qd : Addr → Hp → Prop} (hd : ∀ D H2, Same H1 H2 → OLs At H2 D f → Qd D H2) : tLc (fun _ H2 R => R J H2) g tYes te vs σ H1 (refQ Qd) := by
  intro D nD
  have e1 := same_new (o := HO.lst []) nD
  refine lc_it w (fun k HE => ∃ qs : List Addr, Same H1 HE ∧ HE D = some (.lst (qs.map V.ref)) ∧ Obs At HE qs (f.take k)) ⟨[], e1, upd_same, Obs.nil⟩ ?_ ?_ ?_
  · rintro i HE _ ⟨_, sE, _⟩
    exact hG HE sE
  · rintro k x HE HE' hk ⟨qs, sE, hE, hqs⟩ hY
    have hql := hqs.1
    rw [List.length_take] at hql
    obtain ⟨y, hy⟩ : ∃ y, f[k]? = some y := ⟨f[k], List.getElem?_eq_getElem (by omega)⟩
    refine hs k y x HE HE' _ hy sE hY fun r HF sF hr => ?_
    have hE5 := sF _ _ hE
    refine ⟨_, hE5, by rw [List.length_map, hql]; exact small1000 (by omega), qs ++ [r], ?_, ?_, ?_⟩
    · intro b2 o hb2
      rw [upd_ne (ne_of_none hb2 nD)]
      exact (sE.trans sF) _ _ hb2
    · rw [upd_same, List.map_append]
      rfl
    · rw [List.take_add_one, hy]
      exact ((hqs.tk st (Tk.same sF)).append (Obs.one hr)).tk st (tk_lst hE5)
  · rintro HE ⟨qs, sE, hE, hqs⟩
    rw [List.take_of_length_le (by omega)] at hqs
    exact hd D HE sE ⟨qs, hE, hqs⟩
end
section
variable {K : PySem.W.Frag} {H : Hp} {Q : VK}
theorem cat_ints {p q : Addr} {xs ys : List Int} (a1 : SqT K H p (xs.map V.int)) (b1 : SqT K H q (ys.map V.int)) (hl : xs.length + ys.length ≤ 1000) (h : ∀ r H', Same H H' → SqT K H' r ((xs ++ ys).map V.int) → Q (.ref r) H') : rCatA K (.ref p) (.ref q) H Q := by
  refine ⟨p, q, _, _, rfl, rfl, a1, b1, ?_, fun z => ?_, fun _ z => ?_, fun _ _ r nr => ?_⟩
  · rw [List.length_map, List.length_map, sizeLine_eq]
    omega
  · have e : xs = [] := List.map_eq_nil_iff.mp z
    subst e
    exact h q H (Same.refl H) b1
  · have e : ys = [] := List.map_eq_nil_iff.mp z
    subst e
    refine h p H (Same.refl H) ?_
    rw [List.append_nil]
    exact a1
  · have s := same_new (o := HO.tup (xs.map V.int ++ ys.map V.int)) nr
    refine h r _ s ?_
    rw [List.map_append]
    exact SqT.of upd_same
end

end Fp

set_option Elab.async false
set_option linter.all false
set_option maxRecDepth 100000
set_option maxHeartbeats 4000000
set_option exponentiation.threshold 10000
namespace Fp
open PySem PySem.Spec PyProof.Rows L2
/-! ### what laws share -/
theorem mkL_rowD_sh {n : Nat} {g : Nat → Rat} (hn : n ≤ 21) (h : ∀ m, m < n → SmR 1900 (rdq (g m))) : Shows (.tuple (rowD (mkL n g))) := by
  refine (Shs.row (n := 1900) (by decide) (xs := mkL n g) fun x hx => ?_).tup.shows (by rw [mkL_len]; omega) (by decide)
  obtain ⟨j, hj⟩ := List.mem_iff_getElem?.mp hx
  have hj2 := (List.getElem?_eq_some_iff.mp hj).1
  rw [mkL_len] at hj2
  rw [mkL_at hj2] at hj
  cases Option.some.inj hj
  exact h j hj2
section
variable {P : Program} {w : World} {K : PySem.W.Frag} {mg : Str → Option Value} {base : Heap}
theorem drop1_row {H : Hp} {p : Addr} {xs : List RT} {Q : VK} (h : RowAt K H p xs) (hl : 1 ≤ xs.length) (hq : ∀ r H', Same H H' → RowAt K H' r (xs.drop 1) → Q (.ref r) H') : rSlA K (.ref p) (some 1) none H Q := by
  obtain ⟨rs, h1, h2⟩ := h
  have hl2 := h2.length
  refine ⟨p, _, rfl, h1, fun z => ?_, fun _ r nr => ?_⟩
  · have z1 := z.1
    rw [show (1 : Int) = ((1 : Nat) : Int) from rfl, HT.sIx_nat, List.length_map] at z1
    omega
  · rw [cutV_from1]
    have s := same_new (o := HO.tup ((rs.map V.ref).drop 1)) nr
    refine hq r _ s ⟨rs.drop 1, ?_, (h2.drop 1).tk (Tk.same s)⟩
    rw [List.map_drop]
    exact SqT.of upd_same
theorem noPart_go {σ : L2.St} {H : Hp} {k : Option Int → Hp → Prop} (h : k none H) : tNoPart σ H k := h
def spLaw (K : PySem.W.Frag) : Sp := fun vs H Q _ => ∃ (a : Addr) (ns : List Int), vs = [.ref a] ∧ SqL K H a (ns.map V.int) ∧ ∀ H', Q (.bl true) H'
end

end Fp

set_option Elab.async false
set_option linter.all false
set_option maxRecDepth 100000
set_option maxHeartbeats 4000000
set_option exponentiation.threshold 10000
namespace Fp
open PySem PySem.Spec PyProof.Rows L2
/-! ### renewed, by values -/
theorem IsCh.told {row : List RT} {step : RT} {n most : Nat} {chs : List RT} (h : IsCh row step n most chs) : chs = mkL most (chR row step) := by
  refine List.ext_getElem (by rw [mkL_len, h.len]) fun m h1 h2 => ?_
  have hm : m < most := by
    rw [mkL_len] at h2
    exact h2
  have e := mkL_at (g := chR row step) hm
  rw [List.getElem?_eq_getElem h2] at e
  rw [Option.some.inj e]
  obtain ⟨o1, o2⟩ := h.ok m _ (List.getElem?_eq_getElem h1)
  exact is_rdq o1.1 o2
theorem qa_mkL {n j : Nat} {g : Nat → Rat} (h : j < n) : qa (mkL n g) j = g j := by rw [qa_at (mkL_at h), qv_rdq]
theorem mkL_cons {n : Nat} {c : Nat → Rat} : mkL (n + 1) (laterF c) = (0, 1) :: mkL n c := by
  unfold mkL
  rw [List.range_succ_eq_map, List.map_cons, List.map_map]
  show rdq 0 :: _ = _
  rw [rdq_zero.mpr rfl]
  rfl
theorem mkL_drop {n : Nat} {g : Nat → Rat} : (mkL (n + 1) g).drop 1 = mkL n fun i => g (i + 1) := by
  unfold mkL
  rw [List.range_succ_eq_map, List.map_cons, List.map_map]
  rfl
section
variable {K : PySem.W.Frag} {H : Hp} {Q : VK}
/-- xs[1:] of a list -/
theorem drop1_ls {p : Addr} {xs : List RT} (h : LsM K H p xs) (q : ∀ b H', Same H H' → LsM K H' b (xs.drop 1) → Q (.ref b) H') : rSlL K (.ref p) (some 1) none H Q := by
  obtain ⟨as, a1, a2⟩ := h
  refine ⟨p, _, rfl, SqL.of a1, fun b nb => ?_⟩
  rw [cutV_from1]
  have e := same_new (o := HO.lst ((as.map V.ref).drop 1)) nb
  refine q b _ e ⟨as.drop 1, ?_, (a2.drop 1).tk (Tk.same e)⟩
  rw [upd_same, List.map_drop]
end
/-! ### a share: from nought to one, by a small bottom -/
structure Part (b : Int) (s : Rat) : Prop where
  pos : 0 < b
  le5 : b ≤ 5
  ov : Ov b s
  ge : 0 ≤ s
  le : s ≤ 1
theorem Part.sm {b : Int} {s : Rat} (h : Part b s) : Sm 3 b := by
  have := h.pos
  have := h.le5
  unfold Sm
  omega
theorem Part.rest {b : Int} {s : Rat} (h : Part b s) : Part b (1 - s) := by
  obtain ⟨h1, h2, ⟨T, hT⟩, h4, h5⟩ := h
  refine ⟨h1, h2, ⟨b - T, ?_⟩, by grind, by grind⟩
  have := cast_ne (Int.ne_of_gt h1)
  rw [hT, Rat.intCast_sub]
  grind
theorem Part.sz {b : Int} {s : Rat} (h : Part b s) : Sz b 0 s := Sz.pos h.ov h.ge (by rw [Rat.pow_zero]; exact h.le)
theorem Part.pow {b : Int} {s : Rat} (h : Part b s) : ∀ j : Nat, Den b j (s ^ j) ∧ 0 ≤ s ^ j ∧ s ^ j ≤ 1
  | 0 => by
    rw [Rat.pow_zero]
    refine ⟨⟨1, ?_⟩, by decide, Rat.le_refl⟩
    rw [Int.pow_zero]
    grind
  | j + 1 => by
    obtain ⟨i1, i2, i3⟩ := h.pow j
    rw [Rat.pow_succ]
    have m := mul_01 ⟨i2, i3⟩ ⟨h.ge, h.le⟩
    have d : Den b 1 s := by
      obtain ⟨T, hT⟩ := h.ov
      refine ⟨T, ?_⟩
      rw [Int.pow_succ, Int.pow_zero, Int.one_mul]
      exact hT
    exact ⟨i1.mul h.pos d, m.1, m.2⟩
theorem Part.low {t b : Int} (h0 : 0 ≤ t) (h1 : t ≤ b) (hb : 0 < b) (h5 : b ≤ 5) : Part b (qv (low2 t b)) := by
  rw [qv_low2 hb]
  obtain ⟨x1, x2⟩ := div_01 h0 hb h1
  exact ⟨hb, h5, ⟨t, rfl⟩, x1, x2⟩
def thinQ (a : Nat → Rat) (s : Rat) (n : Nat) : Rat := renQ (fun j => (1 - s) * a j) (laterF fun j => s * a j) n
theorem pQ_scale (a : Nat → Rat) (c : Rat) : ∀ j m, pQ (fun i => c * a i) j m = c ^ j * pQ a j m
  | 0, m => by
    show oneAt m = c ^ 0 * oneAt m
    rw [Rat.pow_zero]
    grind
  | j + 1, m => by
    show (sumTo m fun k => c * a k * pQ (fun i => c * a i) j (m - 1 - k)) = c ^ (j + 1) * sumTo m fun k => a k * pQ a j (m - 1 - k)
    rw [sumTo_mul]
    refine sumTo_congr fun k _ => ?_
    rw [pQ_scale a c j, Rat.pow_succ]
    grind
/-- thinned: by how many parts there are, all but the last one lost -/
theorem thin_parts (a : Nat → Rat) (s : Rat) {n N : Nat} (h : n ≤ N) : thinQ a s n = sumTo N fun j => s * (1 - s) ^ j * pQ a (j + 1) n := by
  rcases Nat.eq_zero_or_pos N with z | z
  · have e : n = 0 := by omega
    subst z e
    unfold thinQ
    rw [conv_later, sumTo_zero, sumTo_zero]
  obtain ⟨M, rfl⟩ : ∃ M, N = M + 1 := ⟨N - 1, by omega⟩
  unfold thinQ
  rw [conv_later]
  have e : (sumTo n fun k => s * a k * renQ (fun j => (1 - s) * a j) oneAt (n - 1 - k)) = sumTo n fun k => sumTo (M + 1) fun j => s * a k * ((1 - s) ^ j * pQ a j (n - 1 - k)) := by
    refine sumTo_congr fun k hk => ?_
    rw [← put_parts (fun j => (1 - s) * a j) (n - 1 - k) M (by omega), sumTo_mul]
    refine sumTo_congr fun j _ => ?_
    rw [pQ_scale]
  rw [e, sumTo_swap]
  refine sumTo_congr fun j _ => ?_
  show _ = s * (1 - s) ^ j * sumTo n fun k => a k * pQ a j (n - 1 - k)
  rw [sumTo_mul]
  refine sumTo_congr fun k _ => ?_
  grind

end Fp

set_option Elab.async false
set_option linter.all false
set_option maxRecDepth 100000
set_option maxHeartbeats 4000000
set_option exponentiation.threshold 10000
namespace Fp
open PySem PySem.Spec PyProof.Rows L2
/-! ### lists of whole numbers told by a function -/
def mkI (n : Nat) (f : Nat → Int) : List Int := (List.range n).map f
theorem mkI_len {n : Nat} {f : Nat → Int} : (mkI n f).length = n := by
  unfold mkI
  rw [List.length_map, List.length_range]
theorem mkI_at {n m : Nat} {f : Nat → Int} (h : m < n) : (mkI n f)[m]? = some (f m) := by
  unfold mkI
  rw [List.getElem?_map, List.getElem?_range h]
  rfl
theorem mkI_succ {n : Nat} {f : Nat → Int} : mkI (n + 1) f = mkI n f ++ [f n] := by
  unfold mkI
  rw [List.range_succ, List.map_append]
  rfl
theorem mkI_congr {n : Nat} {f g : Nat → Int} (h : ∀ m, m < n → f m = g m) : mkI n f = mkI n g := by
  unfold mkI
  exact List.map_congr_left fun m hm => h m (List.mem_range.mp hm)
theorem mkI_sum {n : Nat} {f : Nat → Int} : (((mkI n f).sum : Int) : Rat) = sumTo n fun j => ((f j : Int) : Rat) := sumTo_cast f n
theorem mkI_take {n m : Nat} {f : Nat → Int} (h : m ≤ n) : (mkI n f).take m = mkI m f := by
  unfold mkI
  rw [← List.map_take, List.take_range, Nat.min_eq_left h]
theorem is_mkI {xs : List Int} : xs = mkI xs.length (getI xs) := by
  refine List.ext_getElem (by rw [mkI_len]) fun m h1 h2 => ?_
  have e := mkI_at (f := getI xs) h1
  rw [List.getElem?_eq_getElem h2] at e
  rw [Option.some.inj e]
  unfold getI
  rw [List.getElem?_eq_getElem h1]
  rfl
theorem mkI_sm {e n : Nat} {f : Nat → Int} (h : ∀ j, j < n → Sm e (f j)) (hn : n ≤ 32) : Sm (e + 6) (mkI n f).sum := by
  refine sum_sm (fun x hx => ?_) (by rw [mkI_len]; exact hn)
  obtain ⟨j, hj, rfl⟩ := List.mem_map.mp hx
  exact h j (List.mem_range.mp hj)
theorem mkI_rep {n : Nat} {c : Int} : mkI n (fun _ => c) = List.replicate n c := by
  unfold mkI
  rw [List.map_const', List.length_range]
section
variable {K : PySem.W.Frag} {H : Hp} {Q : VK}
def IntL (H : Hp) (p : Addr) (n : Nat) (f : Nat → Int) : Prop := H p = some (.lst ((mkI n f).map V.int))
theorem ixI_go {p : Addr} {n m : Nat} {f : Nat → Int} {k : Int} (h : IntL H p n f) (hk : k = (m : Int)) (hm : m < n) (q : Q (.int (f m)) H) : rIxL K (.ref p) (.int k) H Q :=
  ⟨p, _, _, _, rfl, rfl, SqL.of h, at_of hk (by rw [List.getElem?_map, mkI_at hm]; rfl), q⟩
theorem sumI_go {p : Addr} {n : Nat} {f : Nat → Int} (h : IntL H p n f) (q : Q (.int (mkI n f).sum) H) : rSum K [.ref p] H Q := ⟨p, _, rfl, SqL.of h, q⟩
theorem takeI_go {p : Addr} {n m : Nat} {f : Nat → Int} (h : IntL H p n f) (hm : m ≤ n) (q : ∀ b H', Same H H' → IntL H' b m f → Q (.ref b) H') : rSlL K (.ref p) none (some (m : Int)) H Q := by
  refine ⟨p, _, rfl, SqL.of h, fun b nb => ?_⟩
  rw [cutV_take, ← List.map_take, mkI_take hm]
  exact q b _ (same_new nb) upd_same
theorem lc_intW {J : It} {n : Nat} {G : Hp → Prop} {Y : Nat → Hp → V → Hp → Prop} (w : Walk J n G Y) {g : TG} {te : TE} {vs : List Nat} {σ : L2.St} {H1 : Hp} (f : Nat → Int) (hn : n ≤ 900) (hG : ∀ HE, Same H1 HE → G HE)
    (hs : ∀ (k : Nat) (x : V) (HE HE' : Hp) (R : VK), k < n → Same H1 HE → Y k HE x HE' → (∀ HF, Same HE HF → R (.int (f k)) HF) → g x (wipe σ vs) HE' fun σ2 H2 => wipe σ2 vs = wipe σ vs ∧ te σ2 H2 R)
    {Qd : Addr → Hp → Prop} (hd : ∀ D H2, Same H1 H2 → IntL H2 D n f → Qd D H2) : tLc (fun _ H2 R => R J H2) g tYes te vs σ H1 (refQ Qd) := by
  intro D nD
  have e1 := same_new (o := HO.lst []) nD
  refine lc_it w (fun k HE => Same H1 HE ∧ HE D = some (.lst ((mkI k f).map V.int))) ⟨e1, upd_same⟩ ?_ ?_ ?_
  · rintro i HE _ ⟨sE, _⟩
    exact hG HE sE
  · rintro k x HE HE' hk ⟨sE, hE⟩ hY
    refine hs k x HE HE' _ hk sE hY fun HF sF => ?_
    have hE5 := sF _ _ hE
    refine ⟨_, hE5, by rw [List.length_map, mkI_len]; exact small1000 (by omega), ?_, ?_⟩
    · intro b2 o hb2
      rw [upd_ne (ne_of_none hb2 nD)]
      exact (sE.trans sF) _ _ hb2
    · rw [upd_same, mkI_succ, List.map_append]
      rfl
  · rintro HE ⟨sE, hE⟩
    exact hd D HE sE hE
theorem lc_int {lo : Int} {n : Nat} {g : TG} {te : TE} {vs : List Nat} {σ : L2.St} {H1 : Hp} (f : Nat → Int) (hn : n ≤ 900)
    (hs : ∀ (k : Nat) (HE : Hp) (R : VK), k < n → Same H1 HE → (∀ HF, Same HE HF → R (.int (f k)) HF) → g (.int (lo + k)) (wipe σ vs) HE fun σ2 H2 => wipe σ2 vs = wipe σ vs ∧ te σ2 H2 R)
    {Qd : Addr → Hp → Prop} (hd : ∀ D H2, Same H1 H2 → IntL H2 D n f → Qd D H2) : tLc (fun _ H2 R => R (Itr lo n) H2) g tYes te vs σ H1 (refQ Qd) := by
  refine lc_intW walk_range f hn (fun _ _ => trivial) (fun k x HE HE' R hk sE hY q => ?_) hd
  obtain ⟨rfl, rfl⟩ := hY
  exact hs k _ R hk sE q
/-- on one bottom, by values -/
theorem oob_go {p : Addr} {m s k : Nat} {A : Nat → Rat} {P : Int} (h : LsM K H p (mkL m A)) (hP : 0 < P) (sP : Sm s P) (z : ∀ j, j < m → Sz P k (A j)) (hm : m ≤ 900) (hs : s ≤ 2500) (hk : k ≤ 900)
    (q : ∀ z zl c T H', Same H H' → H' z = some (.tup [.ref zl, .int c]) → IntL H' zl m T → 0 < c → c ∣ P → Sm s c → (∀ j, j < m → ((T j : Int) : Rat) = (c : Rat) * A j) → (∀ j, j < m → Sm (2 * s + k + 1) (T j)) → Q (.ref z) H') : spOob K [.ref p] H Q E0 := by
  obtain ⟨rs, h1, h2⟩ := h
  have O := over_mkL hP sP z (show m ≤ 1000 by omega)
  refine ⟨p, _, _, _, _, rfl, ⟨rs, SqL.of h1, h2⟩, O, by omega, by omega, fun z1 zl c H' s1 hz hzl c0 cD hc => ?_⟩
  have hl : (mkL m A).length = m := mkL_len
  refine q z1 zl c (getI (topsOn c (mkL m A))) H' s1 hz ?_ c0 cD (dvd_small cD hP sP) (fun j hj => ?_) (fun j hj => ?_)
  · have e := is_mkI (xs := topsOn c (mkL m A))
    rw [tops_len, hl] at e
    unfold IntL
    rw [← e]
    exact hzl
  · rw [tops_val c0 (by rw [hl]; exact hj) fun x hx => ⟨(O.ok x hx).1, hc x hx⟩, qa_mkL hj]
  · have := tops_each (n := s + k + 1) O.pos cD O.sm (xs := mkL m A) (j := j) (by rw [hl]; exact hj) fun x hx => (O.ok x hx).2.2
    exact this.mono (by omega)
/-- a ratio of two whole numbers, by its value -/
theorem rat_go {t b : Int} {v : Rat} (hb : 0 < b) (s8 : b.natAbs < 2 ^ 8000) (e : ((t : Int) : Rat) = v * (b : Rat)) (q : ∀ r H', Same H H' → RAt K H' r (rdq v) → Q (.ref r) H') : spRat0 [.int t, .int b] H Q E0 := by
  refine ⟨t, b, rfl, s8, Int.ne_of_gt hb, fun p np => ?_⟩
  have hc := cast_ne (Int.ne_of_gt hb)
  have ex : low2 t b = rdq v := by
    refine is_rdq (low2_red (Int.ne_of_gt hb)) ?_
    rw [qv_low2 hb, e]
    grind
  refine q p _ (same_new np) ?_
  rw [← ex]
  exact SqT.of upd_same
end

end Fp

set_option Elab.async false
set_option linter.all false
set_option maxRecDepth 100000
set_option maxHeartbeats 4000000
set_option exponentiation.threshold 10000
namespace Fp
open PySem PySem.Spec PyProof.Rows L2
/-! ### all chances together -/
structure Tot (row : List RT) (step : RT) (N E : Int) : Prop where
  nn : 0 ≤ N
  ee : 0 ≤ E
  pos : 0 < N + E
  le : N + E ≤ 255
  val : rowQ row + behQ row step = (N : Rat) / ((N + E : Int) : Rat)
theorem behQ_snoc (ys : List RT) (y step : RT) : behQ (ys ++ [y]) step = qv y * qv step / (1 - qv step) := by
  unfold behQ
  rw [List.getLast?_append]
  rfl
theorem rowQ_snoc (ys : List RT) (y : RT) : rowQ (ys ++ [y]) = rowQ ys + qv y := by
  unfold rowQ
  rw [List.map_append]
  exact sum_snoc _ _
theorem rowOf_sum {D k : Int} (hD : 0 < D) : ∀ ws : List Int, ((ws.map fun x => low2 (k * x) D).map qv).sum = ((k * ws.sum : Int) : Rat) / (D : Rat)
  | [] => by
    show (0 : Rat) = ((k * 0 : Int) : Rat) / _
    rw [Int.mul_zero]
    have := cast_ne (Int.ne_of_gt hD)
    show (0 : Rat) = 0 / _
    grind
  | x :: r => by
    have ih := rowOf_sum hD (k := k) r
    show qv (low2 (k * x) D) + ((r.map fun x => low2 (k * x) D).map qv).sum = _
    rw [ih, qv_low2 hD, List.sum_cons, Int.mul_add, Rat.intCast_add]
    have := cast_ne (Int.ne_of_gt hD)
    grind
theorem BaseLife.tot {row : List RT} {step : RT} (h : BaseLife row step) : ∃ N E, Tot row step N E := by
  rcases h with ⟨ws, extra, m, rfl⟩ | ⟨rfl, rfl⟩
  · obtain ⟨w0, w1⟩ := m.whole
    obtain ⟨s0, s1, s2, s3⟩ := m.step_ok
    have hS := sum_bound m.nn
    have hL := m.last
    have hE := m.ex
    refine ⟨(step.2 - step.1) * ws.sum + step.1 * lastW ws, (step.2 - step.1) * extra, ?_⟩
    have e : (step.2 - step.1) * ws.sum + step.1 * lastW ws + (step.2 - step.1) * extra = wholeOf ws extra step := by
      unfold wholeOf
      rw [Int.mul_add]
      omega
    refine ⟨Int.add_nonneg (Int.mul_nonneg (by omega) hS.1) (Int.mul_nonneg s0 (Int.le_of_lt hL)), Int.mul_nonneg (by omega) hE.1, by rw [e]; exact w0, by rw [e]; omega, ?_⟩
    rw [e]
    rcases snoc_cases ws with z | ⟨ys, y, z⟩
    · exact absurd z m.ne
    · have ey : lastW ws = y := by
        rw [z]
        unfold lastW
        simp
      have hr : rowQ (rowOf ws extra step) = (((step.2 - step.1) * ws.sum : Int) : Rat) / (wholeOf ws extra step : Rat) := rowOf_sum w0 ws
      have hb : behQ (rowOf ws extra step) step = ((step.1 * lastW ws : Int) : Rat) / (wholeOf ws extra step : Rat) := by
        have er : rowOf ws extra step = (ys.map fun x => low2 ((step.2 - step.1) * x) (wholeOf ws extra step)) ++ [low2 ((step.2 - step.1) * y) (wholeOf ws extra step)] := by
          show ws.map _ = _
          conv => lhs; rw [z]
          rw [List.map_append]
          rw [← z]
          rfl
        rw [er, behQ_snoc, qv_low2 w0, ey]
        have h1 := cast_ne (Int.ne_of_gt w0)
        have h2 := gap_val s3 s1
        have h3 := cast_ne (Int.ne_of_gt s3.1)
        rw [Rat.intCast_mul, Rat.intCast_mul, Rat.intCast_sub]
        unfold qv at *
        have h4 : (step.2 : Rat) - (step.1 : Rat) ≠ 0 := by
          intro z4
          apply h2
          grind
        grind
      rw [hr, hb, Rat.intCast_add]
      have h1 := cast_ne (Int.ne_of_gt w0)
      grind
  · refine ⟨0, 1, by decide, by decide, by decide, by decide, ?_⟩
    show (0 : Rat) + 0 = ((0 : Int) : Rat) / _
    show (0 : Rat) + 0 = 0 / _
    grind
theorem AnyLife.tot {row : List RT} {step : RT} (h : AnyLife row step) : ∃ N E, Tot row step N E := by
  have st := h.ok.1.st
  rcases h with h | ⟨row0, l, h, h5, hs, hl, rfl⟩ | ⟨row0, h, h5, rfl, hs⟩
  · exact h.tot
  · obtain ⟨N, E, t⟩ := h.tot
    obtain ⟨s1, s2, _, _⟩ := h.sm
    refine ⟨N, E, t.nn, t.ee, t.pos, t.le, ?_⟩
    rw [← t.val, rowQ_snoc, behQ_snoc, (qv_rT (s1 l (List.mem_of_getElem? hl)).1.1 s2.1).2]
    rcases snoc_cases row0 with z | ⟨ys, y, z⟩
    · rw [z] at hl
      simp at hl
    · have ey : l = y := by
        rw [z] at hl
        simpa using hl.symm
      rw [z, behQ_snoc, ← ey]
      have := gap_val st.1.1 st.2.2
      grind
  · obtain ⟨N, E, t⟩ := h.tot
    refine ⟨N, E, t.nn, t.ee, t.pos, t.le, ?_⟩
    rw [← t.val, rowQ_snoc, behQ_snoc, qv_nought]
    have hb : behQ row0 (0, 1) = 0 := by
      unfold behQ
      split
      · rfl
      · rw [qv_nought]
        grind
    rw [hb]
    grind

end Fp

set_option Elab.async false
set_option linter.all false
set_option maxRecDepth 100000
set_option maxHeartbeats 4000000
set_option exponentiation.threshold 10000
namespace Fp
open PySem PySem.Spec PyProof.Rows L2
/-! ### added: told as a tuple -/
section
variable {P : Program} {w : World} {K : PySem.W.Frag} {mg : Str → Option Value} {base : Heap}
def spOobT (K : PySem.W.Frag) : Sp := fun vs H Q _ => ∃ (p : Addr) (xs : List RT) (n d : Nat) (D : Int), vs = [.ref p] ∧ RowAt K H p xs ∧ Over1 n d D xs ∧ n ≤ 4000 ∧ d ≤ 4000 ∧
  ∀ z zl c H', Same H H' → H' z = some (.tup [.ref zl, .int c]) → H' zl = some (.lst ((topsOn c xs).map V.int)) → 0 < c → c ∣ D → (∀ x ∈ xs, x.2 ∣ c) → Q (.ref z) H'
theorem ok_oobT {f fC : Addr} {fd fdC : FuncData} (F : Fun K "on_one_bottom" "on_one_bottom" s_oob f fd) (FC : Fun K "common_divisor" "common_divisor" s_cd fC fdC) (bC : Binds K fdC ["one", "other"] []) (gC : mg "common_divisor" = some (.ref fC)) (ma : mg "abs" = none) :
    FnOk P w K mg base CX0 2 f fd ["told"] (spOobT K) := by
  have GC : FnOk P w K mg base CX0 1 fC fdC ["one", "other"] spCd := ok_cd FC ma
  refine F.ok sc_oob (fun vs H Q E h => ?_) (fun cdv A outer s H vs Q E hr h => ?_)
  · obtain ⟨_, _, _, _, _, rfl, _⟩ := h
    rfl
  · obtain ⟨p, xs, n, d, D, rfl, hlst, O, hn, hd, q⟩ := h
    obtain ⟨rs, r1, r2⟩ := id hlst
    have hl := r2.length
    refine ⟨_, (pss_cons (ps_set (i := 1) sc_oob.nd rfl (.inr rfl) pe_int) (pss_cons (ps_for PassesOwn.never rfl (pi_tup (pv 0)) (pg_tup rfl (pgs_cons (pg_name (i := 2) sc_oob.nd rfl (.inl rfl)) (pgs_cons (pg_name (i := 3) sc_oob.nd rfl (.inl rfl)) pgs_nil)))
          (pss_one (ps_set (i := 1) sc_oob.nd rfl (.inr rfl) (pe_op op_mulA (pe_op op_fdivA (pv 1) (pe_call GC hr (by rfl) gC FC.kp bC .nil pass0 (pa_cons (pv 1) (pa_cons (pv 3) pa_nil)))) (pv 3))))) (pss_one (ps_ret (pe_tup (pa_cons (pe_lc (own := [("top", 2), ("bottom", 3)]) (g := gTup K 2 (gCons (gName 2) (gCons (gName 3) gNil))) (tt := tYes) (te := tOp (rI CMulA fun i j => .int (i * j)) (tVar 2) (tOp (rI CDivA fun i j => .int (i.fdiv j)) (tVar 1) (tVar 3))) rfl sc_oob.nd (pi_tup (pv 0)) (blkOk_by (own := [("top", 2), ("bottom", 3)]) (N := N_oob) (sc := defScope s_oob) (by decide +kernel))
          (fun _ _ _ _ _ => pg_tup rfl (pgs_cons (pg_name (i := 2) sc_oob.nd rfl (.inl rfl)) (pgs_cons (pg_name (i := 3) sc_oob.nd rfl (.inl rfl)) pgs_nil))) (fun _ _ _ _ _ => pts_nil) (fun _ _ _ _ _ => pe_op op_mulA (pv 2) (pe_op op_fdivA (pv 1) (pv 3)))) (pa_cons (pv 1) pa_nil))))))), ?_⟩
    refine ⟨_, rfl, p, rfl, ⟨_, r1⟩, for_tup (K := K) (a := p) (xs := rs.map V.ref) (fun i σ H1 => H1 = H ∧ ∃ (c : Int) (y2 y3 : Option V), σ = [some (.ref p), some (.int c), y2, y3] ∧ 0 < c ∧ c ∣ D ∧ ∀ x ∈ xs.take i, x.2 ∣ c) ?_ ?_ ?_ ?_⟩
    · exact ⟨rfl, 1, _, _, rfl, by decide, Int.one_dvd D, fun x hx => by simp at hx⟩
    · rintro i σ H1 _ ⟨rfl, _⟩
      exact r1
    · rintro i y σ H1 hi ⟨rfl, c, y2, y3, rfl, c0, cD, hc⟩
      have hi2 : i < xs.length := by
        have := (List.getElem?_eq_some_iff.mp hi).1
        rw [List.length_map, hl] at this
        exact this
      have hg : xs[i]? = some xs[i] := List.getElem?_eq_getElem hi2
      obtain ⟨r, er, hr2⟩ := r2.get hg
      have ey : y = .ref r := by
        rw [List.getElem?_map, er] at hi
        exact (Option.some.inj hi).symm
      subst ey
      obtain ⟨b0, bD, _⟩ := O.ok xs[i] (List.getElem_mem hi2)
      have sc : Sm d c := dvd_small cD O.pos O.sm
      have sb : Sm d xs[i].2 := dvd_small bD O.pos O.sm
      have hg0 : 0 < Int.gcd c xs[i].2 := Nat.gcd_pos_of_pos_right _ (by omega)
      have hgs : Sm d ((Int.gcd c xs[i].2 : Nat) : Int) := by
        unfold Sm at *
        rw [Int.natAbs_natCast]
        exact Nat.lt_of_le_of_lt (Nat.gcd_le_right _ (by omega)) sb
      have d0 : 0 < d := by
        rcases Nat.eq_zero_or_pos d with z | z
        · rw [z] at sc
          unfold Sm at sc
          omega
        · exact z
      have hq1 : Sm d (c.fdiv ((Int.gcd c xs[i].2 : Nat) : Int)) := Nat.lt_of_le_of_lt (fdiv_le (by omega) (Int.gcd_dvd_left ..)) sc
      obtain ⟨k0, k1, k2, k3⟩ := lcm_ok c0 b0 cD bD
      refine ⟨r, _, rfl, hr2, rfl, _, _, rfl, _, _, rfl, rfl, ?_⟩
      refine ⟨_, rfl, _, rfl, _, rfl, c, xs[i].2, rfl, ?_⟩
      refine ⟨c, _, rfl, rfl, ⟨by omega, Nat.lt_of_lt_of_le (hgs.log d0) (by omega)⟩, _, rfl, _, _, rfl, rfl, hq1.cmul sb d0 d0 (by omega), rfl, _, _, _, rfl, k0, k1, fun x hx => ?_⟩
      rw [List.take_add_one, hg] at hx
      rcases List.mem_append.mp hx with z | z
      · exact Int.dvd_trans (hc x z) k2
      · rw [List.mem_singleton.mp z]
        exact k3
    · rintro σ H1 ⟨rfl, c, y2, y3, rfl, c0, cD, hc⟩
      rw [List.length_map, hl, List.take_length] at hc
      have sc : Sm d c := dvd_small cD O.pos O.sm
      have d0 : 0 < d := by
        rcases Nat.eq_zero_or_pos d with z | z
        · rw [z] at sc
          unfold Sm at sc
          omega
        · exact z
      refine ⟨_, rfl, p, rfl, ⟨_, r1⟩, fun R nR => ?_⟩
      have e1 := same_new (o := HO.lst []) nR
      refine lc_tup (K := K) (a := p) (xs := rs.map V.ref) (fun i H2 => Same H1 H2 ∧ H2 R = some (.lst ((topsOn c (xs.take i)).map V.int))) ?_ ?_ ?_ ?_
      · exact ⟨e1, upd_same⟩
      · rintro i H2 _ ⟨s2, _⟩
        exact sqT_same s2 r1
      · rintro i y H2 hi ⟨s2, hR⟩
        have hi2 : i < xs.length := by
          have := (List.getElem?_eq_some_iff.mp hi).1
          rw [List.length_map, hl] at this
          exact this
        have hg : xs[i]? = some xs[i] := List.getElem?_eq_getElem hi2
        obtain ⟨r, er, hr2⟩ := r2.get hg
        have ey : y = .ref r := by
          rw [List.getElem?_map, er] at hi
          exact (Option.some.inj hi).symm
        subst ey
        obtain ⟨b0, bD, sn⟩ := O.ok xs[i] (List.getElem_mem hi2)
        have sb : Sm d xs[i].2 := dvd_small bD O.pos O.sm
        have hdv := hc xs[i] (List.getElem_mem hi2)
        have ef : c.fdiv xs[i].2 = c / xs[i].2 := Int.fdiv_eq_ediv_of_nonneg _ (by omega)
        have sq : Sm d (c.fdiv xs[i].2) := Nat.lt_of_le_of_lt (fdiv_le b0 hdv) sc
        refine ⟨r, _, rfl, hr2.tk (Tk.same s2), rfl, _, _, rfl, _, _, rfl, rfl, rfl, tYes_go ?_⟩
        refine iteT ?_
        refine ⟨_, rfl, _, rfl, _, rfl, c, xs[i].2, rfl, rfl, ⟨by omega, Nat.lt_of_lt_of_le (sb.log d0) (by omega)⟩, _, _, rfl, rfl, (sn.mono (show n ≤ n + 1 by omega)).cmul sq (by omega) d0 (by omega), _, hR, ?_, ?_, ?_⟩
        · rw [List.length_map]
          unfold topsOn
          rw [List.length_map, List.length_take]
          have := O.len
          exact small1000 (by omega)
        · intro b o hb
          rw [upd_ne (ne_of_none hb nR)]
          exact s2 _ _ hb
        · rw [upd_same, List.take_add_one, hg]
          unfold topsOn
          rw [List.map_append, List.map_append, ef]
          rfl
      · rintro H2 ⟨s2, hR⟩
        rw [List.length_map, hl, List.take_length] at hR
        refine ⟨_, rfl, by show 2 ≤ sizeLine; decide, fun z nz => ?_⟩
        have e2 := same_new (o := HO.tup [.ref R, .int c]) nz
        exact q z R c _ (s2.trans e2) upd_same (e2 _ _ hR) c0 cD hc
def spAddedT (K : PySem.W.Frag) : Sp := fun vs H Q _ => ∃ (p : Addr) (xs : List RT) (n d : Nat) (D : Int), vs = [.ref p] ∧ RowAt K H p xs ∧ Over1 n d D xs ∧ n ≤ 4000 ∧ d ≤ 4000 ∧
  ∀ z x H', Same H H' → RAt K H' z x → Red x → qv x = (xs.map qv).sum → x.2 ∣ D → Sm (n + d + 11) x.1 → Q (.ref z) H'
theorem ok_addedT {f fO fR : Addr} {fd fdO fdR : FuncData} (F : Fun K "added" "added" s_added f fd) (FO : Fun K "on_one_bottom" "on_one_bottom" s_oob fO fdO) (bO : Binds K fdO ["told"] []) (gO : mg "on_one_bottom" = some (.ref fO)) (GO : FnOk P w K mg base CX0 2 fO fdO ["told"] (spOobT K))
    (FR : Fun K "ratio" "ratio" s_ratio fR fdR) (bR : Binds K fdR ["top", "bottom"] []) (gR : mg "ratio" = some (.ref fR)) (GR : FnOk P w K mg base CX0 2 fR fdR ["top", "bottom"] spRat0) (ms : mg "sum" = none) : FnOk P w K mg base CX0 3 f fd ["told"] (spAddedT K) := by
  refine F.ok sc_added (fun vs H Q E h => ?_) (fun cdv A outer s H vs Q E hr h => ?_)
  · obtain ⟨_, _, _, _, _, rfl, _⟩ := h
    rfl
  · obtain ⟨p, xs, n, d, D, rfl, hlst, O, hn, hd, q⟩ := h
    refine ⟨_, (pss_cons (ps_asg (pe_call GO hr (by rfl) gO FO.kp bO .nil pass0 (pa_cons (pv 0) pa_nil)) (pg_tup rfl (pgs_cons (pg_name (i := 1) sc_added.nd rfl (.inl rfl)) (pgs_cons (pg_name (i := 2) sc_added.nd rfl (.inl rfl)) pgs_nil)))) (pss_one (ps_ret (pe_call GR hr (by rfl) gR FR.kp bR .nil pass0 (pa_cons (pe_callB (cr_sum rfl) (by rfl) ms (by decide +kernel) (pa_cons (pv 1) pa_nil)) (pa_cons (pv 2) pa_nil)))))), ?_⟩
    refine ⟨_, rfl, p, xs, n, d, D, rfl, hlst, O, hn, hd, fun z zl c H1 s1 hz hzl c0 cD hc => ?_⟩
    refine ⟨z, _, rfl, SqT.of hz, rfl, _, _, rfl, _, _, rfl, rfl, ?_⟩
    have sc : Sm d c := dvd_small cD O.pos O.sm
    refine ⟨_, rfl, zl, _, rfl, SqL.of hzl, _, rfl, _, c, rfl, sc.mono (show d ≤ 8000 by omega), Int.ne_of_gt c0, fun y ny => ?_⟩
    have e := same_new (o := HO.tup [.int (ratT (topsOn c xs).sum c), .int (ratB (topsOn c xs).sum c)]) ny
    have red : Red (low2 (topsOn c xs).sum c) := low2_red (Int.ne_of_gt c0)
    have val : qv (low2 (topsOn c xs).sum c) = (((topsOn c xs).sum : Int) : Rat) / (c : Rat) := qv_low2 c0
    obtain ⟨y1, y2⟩ := red_small red c0 val
    refine q y (low2 (topsOn c xs).sum c) _ (s1.trans e) (SqT.of upd_same) red (val.trans (tops_sum c0 fun x hx => ⟨(O.ok x hx).1, hc x hx⟩)) (Int.dvd_trans y1 cD) ?_
    have t := tops_sm (n := n) c0 O.pos cD O.sm (xs := xs) fun x hx => ⟨(O.ok x hx).1, (O.ok x hx).2.2⟩
    have hlen := O.len
    unfold Sm
    have t2 : xs.length * 2 ^ (n + d) ≤ 1000 * 2 ^ (n + d) := Nat.mul_le_mul_right _ hlen
    have t3 : 2 ^ (n + d + 11) = 2048 * 2 ^ (n + d) := by rw [Nat.pow_add, Nat.mul_comm]
    have t4 : 0 < 2 ^ (n + d) := Nat.pow_pos (by decide)
    omega
theorem addT_go {H : Hp} {Q : VK} {p : Addr} {P : Int} {n s k : Nat} {f : Nat → Rat} (h : RowAt K H p (mkL n f)) (hP : 0 < P) (sP : Sm s P) (z : ∀ j, j < n → Sz P k (f j)) (hn : n ≤ 1000) (hs : s ≤ 2500) (hk : k ≤ 900)
    (q : ∀ r H', Same H H' → RAt K H' r (rdq (sumTo n f)) → Q (.ref r) H') : spAddedT K [.ref p] H Q E0 := by
  refine ⟨p, _, _, _, P, rfl, h, over_mkL hP sP z hn, by omega, by omega, fun y x HF sF hy rx vx _ _ => ?_⟩
  have ex : x = rdq (sumTo n f) := is_rdq rx (by rw [vx, mkL_sum])
  rw [ex] at hy
  exact q y HF sF hy
end

end Fp

set_option Elab.async false
set_option linter.all false
set_option maxRecDepth 100000
set_option maxHeartbeats 4000000
set_option exponentiation.threshold 10000
namespace Fp
open PySem PySem.Spec PyProof.Rows L2
/-! ### many, in all -/
section
variable {P : Program} {w : World} {K : PySem.W.Frag} {mg : Str → Option Value} {base : Heap} {aN aO : Addr}
def spMb (K : PySem.W.Frag) : Sp := fun vs H Q _ => ∃ (p : Addr) (row : List RT) (step : RT) (n beat : Nat) (W D : Int), vs = [.ref p, .int (beat : Int)] ∧ LifeAt K H p row step ∧ LifeOk n row step ∧ WOk W row ∧ Ch01 D (chR row step) 20 ∧ beat ≤ 20 ∧
  ∀ z H', Same H H' → RAt K H' z (rdq (sumTo beat fun i => putQ row step (i + 1))) → Q (.ref z) H'
/-- none of a full one, else all by what lacks -/
def AD (K : PySem.W.Frag) (H : Hp) (v : V) (t : Rat) : Prop := (t = 1 ∧ v = .non) ∨ (t ≠ 1 ∧ ∃ z, v = .ref z ∧ RAt K H z (rdq (t / (1 - t))))
theorem AD.tk {H H' : Hp} {v : V} {t : Rat} (h : AD K H v t) (e : Tk K H H') : AD K H' v t := by
  rcases h with h | ⟨h1, z, h2, h3⟩
  · exact .inl h
  · exact .inr ⟨h1, z, h2, h3.tk e⟩
def adD (t : Rat) : PyData := if t = 1 then .none else ratD (rdq (t / (1 - t)))
theorem AD.dp {H : Hp} {v : V} {t : Rat} (h : AD K H v t) : Dp K H v (adD t) ∧ (v = .non ∨ (∃ i, v = .int i) ∨ ∃ a, v = .ref a) := by
  unfold adD
  rcases h with ⟨h1, rfl⟩ | ⟨h1, z, rfl, h3⟩
  · rw [if_pos h1]
    exact ⟨.non, .inl rfl⟩
  · rw [if_neg h1]
    exact ⟨h3.dp, .inr (.inr ⟨z, rfl⟩)⟩
theorem Tot.facts {row : List RT} {step : RT} {N E : Int} (h : Tot row step N E) : Sz (N + E) 0 (rowQ row + behQ row step) ∧ Sm 8 (N + E) ∧ 0 ≤ rowQ row + behQ row step ∧ rowQ row + behQ row step ≤ 1 ∧ Sz (N + E) 0 (1 - (rowQ row + behQ row step)) ∧
    (rowQ row + behQ row step ≠ 1 → 0 < E ∧ (rowQ row + behQ row step) / (1 - (rowQ row + behQ row step)) = (N : Rat) / (E : Rat)) := by
  have hn := h.nn
  have he := h.ee
  have hp := h.pos
  have hl := h.le
  have v := h.val
  generalize rowQ row + behQ row step = t at *
  obtain ⟨d1, d2⟩ := div_01 hn hp (show N ≤ N + E by omega)
  rw [← v] at d1 d2
  have hc := cast_ne (Int.ne_of_gt hp)
  have o : Ov (N + E) t := ⟨N, v⟩
  have o2 : Ov (N + E) (1 - t) := by
    refine ⟨E, ?_⟩
    rw [v]
    rw [Rat.intCast_add] at hc ⊢
    grind
  refine ⟨Sz.pos o d1 (by rw [Rat.pow_zero]; exact d2), by unfold Sm; omega, d1, d2, Sz.pos o2 (by grind) (by rw [Rat.pow_zero]; grind), fun ht => ?_⟩
  have e0 : 0 < E := by
    rcases (by omega : 0 < E ∨ E = 0) with z | z
    · exact z
    · refine absurd ?_ ht
      rw [z, Int.add_zero] at v hc
      rw [v]
      grind
  refine ⟨e0, ?_⟩
  have he2 := cast_ne (Int.ne_of_gt e0)
  rw [v]
  rw [Rat.intCast_add] at hc ⊢
  grind
theorem sh_none : Shows .none := ⟨rfl, rfl, by decide, by decide⟩
theorem Tot.sh {row : List RT} {step : RT} {N E : Int} (h : Tot row step N E) : Shows (adD (rowQ row + behQ row step)) := by
  obtain ⟨_, _, _, _, _, h6⟩ := h.facts
  unfold adD
  split
  · exact sh_none
  · rename_i z
    obtain ⟨e0, e1⟩ := h6 z
    have hn := h.nn
    have hl := h.le
    rw [e1]
    have sz : Sz E 8 ((N : Rat) / (E : Rat)) := by
      have hc : (0 : Rat) < (E : Rat) := Rat.intCast_pos.mpr e0
      have hi : (0 : Rat) ≤ (E : Rat)⁻¹ := Rat.le_of_lt (Rat.inv_pos.mpr hc)
      refine Sz.pos ⟨N, rfl⟩ (by rw [Rat.div_def]; exact Rat.mul_nonneg (Rat.intCast_nonneg.mpr hn) hi) ?_
      have u : (N : Rat) ≤ ((256 * E : Int) : Rat) := Rat.intCast_le_intCast.mpr (by omega)
      have u2 := Rat.mul_le_mul_of_nonneg_right u hi
      have e : (E : Rat) * (E : Rat)⁻¹ = 1 := Rat.mul_inv_cancel _ (Rat.ne_of_gt hc)
      rw [Rat.div_def, show (2 : Rat) ^ 8 = ((256 : Int) : Rat) by decide +kernel]
      rw [Rat.intCast_mul] at u2
      grind
    exact (Sh.rat (sz.smr (s := 8) (n := 1900) e0 (by unfold Sm; omega) (by decide)) (by decide)).shows (by decide) (by decide)
def spIa (K : PySem.W.Frag) : Sp := fun vs H Q _ => ∃ (p : Addr) (row : List RT) (step : RT) (n : Nat) (N E : Int), vs = [.ref p] ∧ LifeAt K H p row step ∧ LifeOk n row step ∧ Tot row step N E ∧
  ∀ v H', Same H H' → AD K H' v (rowQ row + behQ row step) → Q v H'
end

end Fp

set_option Elab.async false
set_option linter.all false
set_option maxRecDepth 100000
set_option maxHeartbeats 4000000
set_option exponentiation.threshold 10000
namespace Fp
open PySem PySem.Spec PyProof.Rows L2
/-! ### what laws need of a life -/
structure LF (row : List RT) (step : RT) : Prop where
  ok : LifeOk 20 row step
  len : row.length ≤ 7
  nil : row = [] → step = (0, 1)
  w : ∃ W, WOk W row
  ch : ∃ D, Ch01 D (chR row step) 20
  tot : ∃ N E, Tot row step N E
theorem AnyLife.lf {row : List RT} {step : RT} (h : AnyLife row step) : LF row step := ⟨h.ok.1, h.ok.2.1, h.ok.2.2, h.w, h.ch01, h.tot⟩
theorem ch01_of {row : List RT} {step : RT} {W : Int} (hW : WOk W row) (L : LifeOk 20 row step) (q1 : ∀ x ∈ row, 0 ≤ qv x ∧ qv x ≤ 1) (q2 : 0 ≤ qv step ∧ qv step ≤ 1) (s4 : 0 < step.2 ∧ step.2 ≤ 4) : Ch01 (W * step.2 ^ 20) (chR row step) 20 := by
  have sm20 : Sm 41 (step.2 ^ 20) := by
    obtain ⟨z1, z2⟩ := pow_four s4 20
    have e : (4 : Int) ^ 20 = 1099511627776 := by decide
    have e2 : (2 : Nat) ^ 41 = 2199023255552 := by decide
    unfold Sm
    rw [e2]
    rw [e] at z2
    omega
  have hD : 0 < W * step.2 ^ 20 := Int.mul_pos hW.pos (Int.pow_pos L.st.1.1.1)
  refine ⟨hD, (hW.sm.mul (show Sm 41 (step.2 ^ 20) from sm20)).mono (by decide), fun k _ => (chR_01 q1 q2 k).1, fun k _ => (chR_01 q1 q2 k).2, fun k hk => ?_⟩
  obtain ⟨x, sx, vx⟩ := ch_ex L k
  rw [← vx]
  exact Den.of hD sx.1.1 (ch_dvdW hW.dvd L.sm L.st.1.1 sx.1 vx hk)
theorem LF.sh {row : List RT} {step : RT} (h : LF row step) : Sh 500000 3 (lifeD row step) := Sh.life (n := 1900) (by decide) (fun x hx => (h.ok.sm x hx).mono (by decide)) (h.ok.st.1.mono (by decide)) (by have := h.len; omega)
theorem LF.small {row : List RT} {step : RT} {W N E : Int} (h1 : ∀ y ∈ row, SmR 20 y ∧ y.2 ∣ W ∧ 0 ≤ qv y ∧ qv y ≤ 1) (hW : 0 < W) (sW : Sm 14 W) (hs : StepOk 5 step) (hl : row.length ≤ 7) (hn : row ≠ []) (q2 : 0 ≤ qv step ∧ qv step ≤ 1) (s4 : 0 < step.2 ∧ step.2 ≤ 4) (t : Tot row step N E) : LF row step := by
  have L : LifeOk 20 row step := ⟨fun y hy => (h1 y hy).1, hs, by omega, by decide, by decide⟩
  have w : WOk W row := ⟨hW, sW, fun y hy => (h1 y hy).2.1⟩
  exact ⟨L, hl, fun z => absurd z hn, ⟨W, w⟩, ⟨_, ch01_of w L (fun x hx => (h1 x hx).2.2) q2 s4⟩, ⟨N, E, t⟩⟩

end Fp

set_option Elab.async false
set_option linter.all false
set_option maxRecDepth 100000
set_option maxHeartbeats 4000000
set_option exponentiation.threshold 10000
namespace Fp
open PySem PySem.Spec PyProof.Rows L2
/-! ### means: what they are, and their size -/
/-- one number under a row -/
structure WO (W : Int) (row : List RT) : Prop where
  pos : 0 < W
  sm : Sm 20 W
  dvd : ∀ y ∈ row, y.2 ∣ W
structure ML (row : List RT) (step : RT) (W : Int) : Prop where
  ok : LifeOk 20 row step
  len : row.length ≤ 13
  nil : row = [] → step = (0, 1)
  w : WO W row
  q01 : ∀ x ∈ row, 0 ≤ qv x ∧ qv x ≤ 1
  s4 : step.2 ≤ 4
def stQ (step : RT) : Rat := qv step
def firstQ (row : List RT) (step : RT) : Rat := behQ row step / (1 - qv step)
def secondQ (row : List RT) (step : RT) : Rat := firstQ row step * (1 + qv step) / (1 - qv step)
theorem Sz.frac {t b : Int} {k : Nat} (h0 : 0 ≤ t) (hb : 0 < b) (ht : t ≤ 2 ^ k * b) : Sz b k ((t : Rat) / (b : Rat)) := by
  have hc : (0 : Rat) < (b : Rat) := Rat.intCast_pos.mpr hb
  have hi : (0 : Rat) ≤ (b : Rat)⁻¹ := Rat.le_of_lt (Rat.inv_pos.mpr hc)
  have e : (b : Rat) * (b : Rat)⁻¹ = 1 := Rat.mul_inv_cancel _ (Rat.ne_of_gt hc)
  refine Sz.pos ⟨t, rfl⟩ (by rw [Rat.div_def]; exact Rat.mul_nonneg (Rat.intCast_nonneg.mpr h0) hi) ?_
  have u : (t : Rat) ≤ ((2 ^ k * b : Int) : Rat) := Rat.intCast_le_intCast.mpr ht
  have u2 := Rat.mul_le_mul_of_nonneg_right u hi
  rw [Rat.intCast_mul, cast_pow] at u2
  rw [Rat.div_def]
  have e2 : (((2 : Int) : Rat)) ^ k = (2 : Rat) ^ k := rfl
  rw [e2, Rat.mul_assoc, e, Rat.mul_one] at u2
  exact u2
section
variable {row : List RT} {step : RT} {W : Int}
/-- the number under all -/
def mP (W : Int) (step : RT) : Int := W * (step.2 - step.1) * (step.2 - step.1) * (step.2 - step.1)
theorem ML.gap (h : ML row step W) : 0 < step.2 - step.1 ∧ step.2 - step.1 ≤ 4 ∧ 0 ≤ step.1 ∧ 0 < step.2 := by
  have h1 := h.ok.st
  have h2 := h.s4
  have h3 := h1.2.2
  have h4 := h1.2.1
  omega
theorem ML.P (h : ML row step W) : 0 < mP W step ∧ Sm 29 (mP W step) := by
  obtain ⟨g1, g2, _, _⟩ := h.gap
  have sg : Sm 3 (step.2 - step.1) := by unfold Sm; omega
  exact ⟨Int.mul_pos (Int.mul_pos (Int.mul_pos h.w.pos g1) g1) g1, ((h.w.sm.mul sg).mul sg).mul sg⟩
theorem ML.rowz (h : ML row step W) {x : RT} (hx : x ∈ row) : Sz W 0 (qv x) := by
  obtain ⟨a, b⟩ := h.q01 x hx
  exact Sz.pos ⟨_, qv_over (h.ok.sm x hx).1.1 (h.w.dvd x hx) h.w.pos⟩ a (by rw [Rat.pow_zero]; exact b)
theorem ML.gapQ (h : ML row step W) : (1 : Rat) - qv step = (((step.2 - step.1 : Int)) : Rat) / (step.2 : Rat) ∧ (1 : Rat) - qv step ≠ 0 := by
  obtain ⟨g1, _, _, g4⟩ := h.gap
  have h3 := cast_ne (Int.ne_of_gt g4)
  refine ⟨?_, gap_val h.ok.st.1.1 h.ok.st.2.2⟩
  unfold qv
  rw [Rat.intCast_sub]
  grind
theorem ML.beh (h : ML row step W) : Sz (W * (step.2 - step.1)) 2 (behQ row step) := by
  obtain ⟨g1, g2, g3, g4⟩ := h.gap
  have hWd := Int.mul_pos h.w.pos g1
  rcases snoc_cases row with z | ⟨ys, y, z⟩
  · rw [z]
    show Sz _ _ 0
    exact Sz.nought
  · have hy : y ∈ row := by rw [z]; simp
    have e : behQ row step = qv y * ((step.1 : Rat) / ((step.2 - step.1 : Int) : Rat)) := by
      rw [z, behQ_snoc, h.gapQ.1]
      have h1 := cast_ne (Int.ne_of_gt g1)
      have h2 := cast_ne (Int.ne_of_gt g4)
      unfold qv
      grind
    rw [e]
    exact (h.rowz hy).mul h.w.pos g1 (Sz.frac (k := 2) g3 g1 (by have := h.ok.st.2.2; have := h.s4; omega))
theorem ML.first (h : ML row step W) : Sz (W * (step.2 - step.1) * (step.2 - step.1)) 4 (firstQ row step) := by
  obtain ⟨g1, g2, g3, g4⟩ := h.gap
  have e : firstQ row step = behQ row step * ((step.2 : Rat) / ((step.2 - step.1 : Int) : Rat)) := by
    unfold firstQ
    rw [h.gapQ.1]
    have h1 := cast_ne (Int.ne_of_gt g1)
    have h2 := cast_ne (Int.ne_of_gt g4)
    grind
  rw [e]
  exact h.beh.mul (Int.mul_pos h.w.pos g1) g1 (Sz.frac (k := 2) (Int.le_of_lt g4) g1 (by have := h.s4; omega))
theorem ML.second (h : ML row step W) : Sz (mP W step) 7 (secondQ row step) := by
  obtain ⟨g1, g2, g3, g4⟩ := h.gap
  have e : secondQ row step = firstQ row step * (((step.2 + step.1 : Int) : Rat) / ((step.2 - step.1 : Int) : Rat)) := by
    unfold secondQ
    rw [h.gapQ.1]
    have h1 := cast_ne (Int.ne_of_gt g1)
    have h2 := cast_ne (Int.ne_of_gt g4)
    rw [Rat.intCast_add]
    unfold qv
    grind
  rw [e]
  exact h.first.mul (Int.mul_pos (Int.mul_pos h.w.pos g1) g1) g1 (Sz.frac (k := 3) (by omega) g1 (by have := h.s4; have := h.ok.st.2.2; omega))
theorem ML.up1 (h : ML row step W) {k : Nat} {q : Rat} (z : Sz W k q) : Sz (mP W step) k q := by
  obtain ⟨g1, _, _, _⟩ := h.gap
  exact z.dvd h.w.pos h.P.1 (by unfold mP; exact ⟨(step.2 - step.1) * (step.2 - step.1) * (step.2 - step.1), by rw [Int.mul_assoc, Int.mul_assoc, Int.mul_assoc]⟩)
theorem ML.up2 (h : ML row step W) {k : Nat} {q : Rat} (z : Sz (W * (step.2 - step.1)) k q) : Sz (mP W step) k q := by
  obtain ⟨g1, _, _, _⟩ := h.gap
  exact z.dvd (Int.mul_pos h.w.pos g1) h.P.1 (by unfold mP; exact ⟨(step.2 - step.1) * (step.2 - step.1), by rw [Int.mul_assoc]⟩)
theorem ML.up3 (h : ML row step W) {k : Nat} {q : Rat} (z : Sz (W * (step.2 - step.1) * (step.2 - step.1)) k q) : Sz (mP W step) k q := by
  obtain ⟨g1, _, _, _⟩ := h.gap
  exact z.dvd (Int.mul_pos (Int.mul_pos h.w.pos g1) g1) h.P.1 (by unfold mP; exact ⟨step.2 - step.1, rfl⟩)
theorem Sz.nat {P : Int} {k j : Nat} {q : Rat} {n : Nat} (z : Sz P k q) (hP : 0 < P) (hn : n ≤ 2 ^ j) : Sz P (k + j) (((n : Int) : Rat) * q) := by
  have a : Sz 1 j ((n : Int) : Rat) := by
    have := Sz.frac (t := (n : Int)) (b := 1) (k := j) (by omega) (by decide) (by
      have e : ((2 ^ j : Nat) : Int) = (2 : Int) ^ j := by rw [Int.natCast_pow]; rfl
      rw [Int.mul_one, ← e]
      omega)
    rw [show ((n : Int) : Rat) / (((1 : Int)) : Rat) = ((n : Int) : Rat) by show _ / (1 : Rat) = _; grind] at this
    exact this
  have := z.mul hP (by decide : (0 : Int) < 1) a
  rw [Int.mul_one] at this
  rw [show ((n : Int) : Rat) * q = q * ((n : Int) : Rat) by grind]
  exact this
end
/-- the mean, the square's -/
def meanQ (row : List RT) (step : RT) : Rat := (sumTo row.length fun k => (((k + 1 : Nat) : Int) : Rat) * chR row step k) + ((row.length : Int) : Rat) * behQ row step + firstQ row step
def msqQ (row : List RT) (step : RT) : Rat := (sumTo row.length fun k => ((((k + 1) * (k + 1) : Nat) : Int) : Rat) * chR row step k) + (((row.length * row.length : Nat) : Int) : Rat) * behQ row step + (((2 * row.length : Nat) : Int) : Rat) * firstQ row step + secondQ row step
/-- none where not full -/
def MV (K : PySem.W.Frag) (H : Hp) (v : V) (t q : Rat) : Prop := (t ≠ 1 ∧ v = .non) ∨ (t = 1 ∧ ∃ z, v = .ref z ∧ RAt K H z (rdq q))
def mvD (t q : Rat) : PyData := if t = 1 then ratD (rdq q) else .none
section
variable {K : PySem.W.Frag} {H H' : Hp} {v : V} {t q : Rat}
theorem MV.tk (h : MV K H v t q) (e : Tk K H H') : MV K H' v t q := by
  rcases h with h | ⟨h1, z, h2, h3⟩
  · exact .inl h
  · exact .inr ⟨h1, z, h2, h3.tk e⟩
theorem MV.dp (h : MV K H v t q) : Dp K H v (mvD t q) := by
  unfold mvD
  rcases h with ⟨h1, rfl⟩ | ⟨h1, z, rfl, h3⟩
  · rw [if_neg h1]
    exact .non
  · rw [if_pos h1]
    exact h3.dp
theorem over_go {p1 p2 : Addr} {x y : Rat} {Q : VK} (h1 : RAt K H p1 (rdq x)) (h2 : RAt K H p2 (rdq y)) (s1 : SmR 3000 (rdq x)) (s2 : SmR 3000 (rdq y)) (hy : 0 < y) (q : ∀ r H', Same H H' → RAt K H' r (rdq (x / y)) → Q (.ref r) H') : spOver0 K [.ref p1, .ref p2] H Q E0 := by
  have hpos : 0 < (rdq y).1 := by
    have h3 := (rdq_red y).1
    have hc : (0 : Rat) < ((rdq y).2 : Rat) := Rat.intCast_pos.mpr h3
    have e := qv_rdq y
    refine Rat.intCast_pos.mp ?_
    have h4 : ((rdq y).1 : Rat) = y * ((rdq y).2 : Rat) := by
      have hne := Rat.ne_of_gt hc
      unfold qv at e
      grind
    rw [h4]
    exact Rat.mul_pos hy hc
  refine ⟨p1, p2, _, _, _, _, rfl, ⟨h1, h2, s1.2.1, s1.2.2, s2.2.1, s2.2.2, s1.1.1, s2.1.1⟩, Int.ne_of_gt (Int.mul_pos s1.1.1 hpos), fun b nb => ?_⟩
  obtain ⟨y1, y2⟩ := qv_rO s1.1 s2.1 hpos
  have e9 := same_new (o := HO.tup [.int (rO (rdq x) (rdq y)).1, .int (rO (rdq x) (rdq y)).2]) nb
  have ep : rO (rdq x) (rdq y) = rdq (x / y) := is_rdq y1 (by rw [y2, qv_rdq, qv_rdq])
  refine q b _ e9 ?_
  rw [← ep]
  exact SqT.of upd_same
theorem plus_go {p1 p2 : Addr} {x y : Rat} {Q : VK} (h1 : RAt K H p1 (rdq x)) (h2 : RAt K H p2 (rdq y)) (s1 : SmR 3000 (rdq x)) (s2 : SmR 3000 (rdq y)) (q : ∀ r H', Same H H' → RAt K H' r (rdq (x + y)) → Q (.ref r) H') : spTwo K (fun a b c d => a * d + c * b) [.ref p1, .ref p2] H Q E0 := by
  refine ⟨p1, p2, _, _, _, _, rfl, ⟨h1, h2, s1.2.1, s1.2.2, s2.2.1, s2.2.2, s1.1.1, s2.1.1⟩, fun b nb => ?_⟩
  have e := same_new (o := HO.tup [.int (rP (rdq x) (rdq y)).1, .int (rP (rdq x) (rdq y)).2]) nb
  obtain ⟨y1, y2⟩ := qv_rP s1.1 s2.1.1
  have ep : rP (rdq x) (rdq y) = rdq (x + y) := is_rdq y1 (by rw [y2, qv_rdq, qv_rdq])
  refine q b _ e ?_
  rw [← ep]
  exact SqT.of upd_same
/-- a whole number as a ratio -/
theorem int_rat {p : Addr} {n : Nat} (h : SqT K H p [.int (n : Int), .int 1]) : RAt K H p (rdq ((n : Int) : Rat)) := by
  have e : ((n : Int), (1 : Int)) = rdq ((n : Int) : Rat) := by
    refine is_rdq ⟨by show (0 : Int) < 1; decide, by show Int.gcd (n : Int) 1 = 1; simp⟩ ?_
    unfold qv
    show ((n : Int) : Rat) / ((1 : Int) : Rat) = _
    show ((n : Int) : Rat) / (1 : Rat) = _
    grind
  rw [← e]
  exact h
theorem int_smr {n : Nat} (h : n < 1000) : SmR 3000 (rdq ((n : Int) : Rat)) := by
  have e : ((n : Int), (1 : Int)) = rdq ((n : Int) : Rat) := by
    refine is_rdq ⟨by show (0 : Int) < 1; decide, by show Int.gcd (n : Int) 1 = 1; simp⟩ ?_
    unfold qv
    show ((n : Int) : Rat) / (1 : Rat) = _
    grind
  rw [← e]
  refine SmR.mono (n := 10) ⟨⟨by show (0 : Int) < 1; decide, by show Int.gcd (n : Int) 1 = 1; simp⟩, ?_, by unfold Sm; show (1 : Nat) < 2 ^ 10; decide⟩ (by decide)
  unfold Sm
  show (n : Int).natAbs < 2 ^ 10
  omega
end

end Fp

set_option Elab.async false
set_option linter.all false
set_option maxRecDepth 100000
set_option maxHeartbeats 4000000
set_option exponentiation.threshold 10000
namespace Fp
open PySem PySem.Spec PyProof.Rows L2
/-! ### moments, means, the square's, the round -/
theorem over_ls {P : Int} {s k : Nat} {xs : List RT} (hP : 0 < P) (sP : Sm s P) (h : ∀ x ∈ xs, ∃ q, x = rdq q ∧ Sz P k q) (hl : xs.length ≤ 1000) : Over1 (s + k + 1) s P xs := by
  refine ⟨hP, sP, fun x hx => ?_, hl⟩
  obtain ⟨q, rfl, z⟩ := h x hx
  obtain ⟨h1, h2, h3⟩ := z.red hP sP
  exact ⟨(rdq_red _).1, h1, h2⟩
theorem sum_app_rat (xs ys : List Rat) : (xs ++ ys).sum = xs.sum + ys.sum := by
  induction xs with
  | nil =>
    show ys.sum = 0 + ys.sum
    grind
  | cons x r ih =>
    show x + (r ++ ys).sum = (x + r.sum) + ys.sum
    rw [ih]
    grind
theorem red_at {K : PySem.W.Frag} {H : Hp} {p : Addr} {x : RT} (h : RAt K H p x) (r : Red x) : RAt K H p (rdq (qv x)) := by
  rw [← red_rdq r]
  exact h
abbrev s_mom : Stmt := topS 26
abbrev N_mom : List Str := ["life", "step", "gap", "zeroth", "first", "second"]
theorem sc_mom : FnScope N_mom ["life"] (defScope s_mom) := ⟨rfl, rfl, rfl, by decide +kernel, rfl, by decide +kernel, by decide +kernel⟩
abbrev s_mean : Stmt := topS 25
abbrev N_mean : List Str := ["life", "row", "told", "zeroth", "first", "k", "chance"]
theorem sc_mean : FnScope N_mean ["life"] (defScope s_mean) := ⟨rfl, rfl, rfl, by decide +kernel, rfl, by decide +kernel, by decide +kernel⟩
section
variable {P : Program} {w : World} {K : PySem.W.Frag} {mg : Str → Option Value} {base : Heap} {aN aO : Addr}
def spMom (K : PySem.W.Frag) : Sp := fun vs H Q _ => ∃ (p : Addr) (row : List RT) (step : RT) (W : Int), vs = [.ref p] ∧ LifeAt K H p row step ∧ ML row step W ∧
  ∀ z a b c H', Same H H' → SqT K H' z [.ref a, .ref b, .ref c] → RAt K H' a (rdq (behQ row step)) → RAt K H' b (rdq (firstQ row step)) → RAt K H' c (rdq (secondQ row step)) → Q (.ref z) H'
theorem ok_mom {f fM fBR fO fT fPL : Addr} {fd fdM fdBR fdO fdT fdPL : FuncData} (F : Fun K "moments_behind" "moments_behind" s_mom f fd) (C : Consts K mg aN aO)
    (FM : Fun K "minus" "minus" s_minus fM fdM) (bM : Binds K fdM ["one", "other"] []) (gM : mg "minus" = some (.ref fM)) (GM : FnOk P w K mg base CX0 3 fM fdM ["one", "other"] (spTwo K (fun a b c d => a * d - c * b)))
    (FBR : Fun K "behind_row" "behind_row" s_behind fBR fdBR) (bBR : Binds K fdBR ["life"] []) (gBR : mg "behind_row" = some (.ref fBR)) (GBR : FnOk P w K mg base CX0 4 fBR fdBR ["life"] (spBehind K))
    (FO : Fun K "over" "over" s_over fO fdO) (bO : Binds K fdO ["one", "other"] []) (gO : mg "over" = some (.ref fO)) (GO : FnOk P w K mg base CX0 3 fO fdO ["one", "other"] (spOver0 K))
    (FT : Fun K "times" "times" s_times fT fdT) (bT : Binds K fdT ["one", "other"] []) (gT : mg "times" = some (.ref fT)) (GT : FnOk P w K mg base CX0 3 fT fdT ["one", "other"] (spTwo K (fun a b c d => a * c)))
    (FPL : Fun K "plus" "plus" s_plus fPL fdPL) (bPL : Binds K fdPL ["one", "other"] []) (gPL : mg "plus" = some (.ref fPL)) (GPL : FnOk P w K mg base CX0 3 fPL fdPL ["one", "other"] (spTwo K (fun a b c d => a * d + c * b)))
    : FnOk P w K mg base CX0 5 f fd ["life"] (spMom K) := by
  refine F.ok sc_mom (fun vs H Q E h => ?_) (fun cdv A outer s H vs Q E hr h => ?_)
  · obtain ⟨_, _, _, _, rfl, _⟩ := h
    rfl
  · obtain ⟨p, row, step, W, rfl, hl, M, q⟩ := h
    refine ⟨_, (pss_cons (ps_set (i := 1) sc_mom.nd rfl (.inl rfl) (pe_ix ix_tup (pv 0) pe_int (fun _ _ => rfl)))
      (pss_cons (ps_set (i := 2) sc_mom.nd rfl (.inl rfl) (pe_call GM (hr.mono (by decide)) (by rfl) gM FM.kp bM .nil pass0 (pa_cons (pe_glob (v := .ref aO) rfl C.gO rfl) (pa_cons (pv 1) pa_nil))))
      (pss_cons (ps_set (i := 3) sc_mom.nd rfl (.inl rfl) (pe_call GBR hr (by rfl) gBR FBR.kp bBR .nil pass0 (pa_cons (pv 0) pa_nil)))
      (pss_cons (ps_set (i := 4) sc_mom.nd rfl (.inl rfl) (pe_call GO (hr.mono (by decide)) (by rfl) gO FO.kp bO .nil pass0 (pa_cons (pv 3) (pa_cons (pv 2) pa_nil))))
      (pss_cons (ps_set (i := 5) sc_mom.nd rfl (.inl rfl) (pe_call GO (hr.mono (by decide)) (by rfl) gO FO.kp bO .nil pass0 (pa_cons (pe_call GT (hr.mono (by decide)) (by rfl) gT FT.kp bT .nil pass0 (pa_cons (pv 4) (pa_cons (pe_call GPL (hr.mono (by decide)) (by rfl) gPL FPL.kp bPL .nil pass0 (pa_cons (pe_glob (v := .ref aO) rfl C.gO rfl) (pa_cons (pv 1) pa_nil))) pa_nil))) (pa_cons (pv 2) pa_nil))))
      (pss_one (ps_ret (pe_tup (pa_cons (pv 3) (pa_cons (pv 4) (pa_cons (pv 5) pa_nil))))))))))), ?_⟩
    obtain ⟨pr, ps, l1, l2, l3⟩ := id hl
    have one : rdq 1 = (1, 1) := (is_rdq one_red qv_one).symm
    have sm1 : SmR 3000 (rdq 1) := by
      rw [one]
      exact ⟨one_red, by unfold Sm; decide, by unfold Sm; decide⟩
    have st := M.ok.st
    have smS : SmR 3000 (rdq (qv step)) := by
      rw [← red_rdq st.1.1]
      exact st.1.mono (by decide)
    obtain ⟨g1, g2, g3, g4⟩ := M.gap
    obtain ⟨gq, g0⟩ := M.gapQ
    have gpos : 0 < 1 - qv step := by
      rw [gq, Rat.div_def]
      exact Rat.mul_pos (Rat.intCast_pos.mpr g1) (Rat.inv_pos.mpr (Rat.intCast_pos.mpr g4))
    have szG : Sz step.2 0 (1 - qv step) := by
      rw [gq]
      exact Sz.frac (by omega) g4 (by rw [Int.pow_zero, Int.one_mul]; omega)
    have smG : SmR 3000 (rdq (1 - qv step)) := szG.smr (s := 3) g4 (by unfold Sm; have := M.s4; omega) (by decide)
    obtain ⟨bv1, bv2⟩ := behind_val M.ok.sm st
    have P0 := M.P
    have smB : SmR 3000 (rdq (behQ row step)) := (M.up2 M.beh).smr P0.1 P0.2 (by decide)
    have smF : SmR 3000 (rdq (firstQ row step)) := (M.up3 M.first).smr P0.1 P0.2 (by decide)
    have sz1 : Sz step.2 1 (1 + qv step) := by
      have e : 1 + qv step = (((step.2 + step.1 : Int)) : Rat) / (step.2 : Rat) := by
        have h3 := cast_ne (Int.ne_of_gt g4)
        unfold qv
        rw [Rat.intCast_add]
        grind
      rw [e]
      exact Sz.frac (by omega) g4 (by have := st.2.2; omega)
    have smP : SmR 3000 (rdq (1 + qv step)) := sz1.smr (s := 3) g4 (by unfold Sm; have := M.s4; omega) (by decide)
    refine ⟨_, rfl, p, _, _, _, rfl, rfl, l1, rfl, ?_⟩
    refine ⟨_, rfl, ?_⟩
    refine tnil_go ?_
    refine minus_go (x := 1) (y := qv step) (by rw [one]; exact C.tO _) (red_at l3 st.1.1) sm1 smS fun ga H1 s1 hga => ?_
    refine ⟨_, rfl, p, row, step, rfl, hl.tk (Tk.same s1), fun x hx => (M.ok.sm x hx).mono (by decide), ⟨st.1.mono (by decide), st.2.1, st.2.2⟩, fun ze H2 s2 hze => ?_⟩
    rw [is_rdq bv1.1 bv2] at hze
    refine ⟨_, rfl, _, rfl, ?_⟩
    refine tnil_go ?_
    refine over_go (x := behQ row step) (y := 1 - qv step) hze (hga.tk (Tk.same s2)) smB smG gpos fun fi H3 s3 hfi => ?_
    have hfi' : RAt K H3 fi (rdq (firstQ row step)) := hfi
    refine ⟨_, rfl, _, rfl, ?_⟩
    refine tnil_go ?_
    refine plus_go (x := 1) (y := qv step) (by rw [one]; exact C.tO _) (red_at (l3.tk (Tk.same (s1.trans (s2.trans s3)))) st.1.1) sm1 smS fun pl H4 s4 hpl => ?_
    refine tnil_go ?_
    refine times_go (hfi'.tk (Tk.same s4)) hpl smF smP fun ti H5 s5 hti => ?_
    refine ⟨_, rfl, ?_⟩
    refine tnil_go ?_
    have szT : Sz (mP W step * step.2) 5 (firstQ row step * (1 + qv step)) := (M.up3 M.first).mul P0.1 g4 sz1
    have smT : SmR 3000 (rdq (firstQ row step * (1 + qv step))) := szT.smr (s := 32) (Int.mul_pos P0.1 g4) (P0.2.mul (show Sm 3 step.2 by unfold Sm; have := M.s4; omega)) (by decide)
    refine over_go (x := firstQ row step * (1 + qv step)) (y := 1 - qv step) hti (hga.tk (Tk.same (s2.trans (s3.trans (s4.trans s5))))) smT smG gpos fun se H6 s6 hse => ?_
    refine ⟨_, rfl, _, rfl, _, rfl, by show 3 ≤ sizeLine; decide, fun z nz => ?_⟩
    have e7 := same_new (o := HO.tup [.ref ze, .ref fi, .ref se]) nz
    exact q z ze fi se _ (s1.trans (s2.trans (s3.trans (s4.trans (s5.trans (s6.trans e7)))))) (SqT.of upd_same) (hze.tk (Tk.same (s3.trans (s4.trans (s5.trans (s6.trans e7)))))) (hfi'.tk (Tk.same (s4.trans (s5.trans (s6.trans e7))))) (hse.tk (Tk.same e7))
def spMean (K : PySem.W.Frag) : Sp := fun vs H Q _ => ∃ (p : Addr) (row : List RT) (step : RT) (W : Int), vs = [.ref p] ∧ LifeAt K H p row step ∧ ML row step W ∧
  ∀ v H', Same H H' → MV K H' v (rowQ row + behQ row step) (meanQ row step) → Q v H'
def spMsq (K : PySem.W.Frag) : Sp := fun vs H Q _ => ∃ (p : Addr) (row : List RT) (step : RT) (W : Int), vs = [.ref p] ∧ LifeAt K H p row step ∧ ML row step W ∧
  ∀ v H', Same H H' → MV K H' v (rowQ row + behQ row step) (msqQ row step) → Q v H'
/-- the items of a row, by values -/
theorem row_item {H HE : Hp} {pr : Addr} {row : List RT} {step : RT} {W : Int} (M : ML row step W) {rs : List Addr} (r2 : RsAt K H rs row) (sE : Same H HE) {i : Nat} {x : V} (hi : i < row.length) (e : (rs.map V.ref)[i]? = some x) : ∃ r, x = .ref r ∧ RAt K HE r (rdq (chR row step i)) ∧ SmR 3000 (rdq (chR row step i)) ∧ Sz W 0 (chR row step i) := by
  have hg : row[i]? = some row[i] := List.getElem?_eq_getElem hi
  obtain ⟨r, e1, e2⟩ := r2.get hg
  rw [List.getElem?_map, e1] at e
  have hm := List.getElem_mem hi
  rw [chR_in hg]
  refine ⟨r, (Option.some.inj e).symm, red_at (e2.tk (Tk.same sE)) (M.ok.sm _ hm).1, ?_, M.rowz hm⟩
  rw [← red_rdq (M.ok.sm _ hm).1]
  exact (M.ok.sm _ hm).mono (by decide)
theorem ok_mean {f fMI fT fMO fAD : Addr} {fd fdMI fdT fdMO fdAD : FuncData} (F : Fun K "mean" "mean" s_mean f fd) (C : Consts K mg aN aO)
    (FMI : Fun K "miss" "miss" s_miss fMI fdMI) (bMI : Binds K fdMI ["life"] []) (gMI : mg "miss" = some (.ref fMI)) (GMI : FnOk P w K mg base CX0 5 fMI fdMI ["life"] (spMiss K))
    (FT : Fun K "times" "times" s_times fT fdT) (bT : Binds K fdT ["one", "other"] []) (gT : mg "times" = some (.ref fT)) (GT : FnOk P w K mg base CX0 3 fT fdT ["one", "other"] (spTwo K (fun a b c d => a * c)))
    (FMO : Fun K "moments_behind" "moments_behind" s_mom fMO fdMO) (bMO : Binds K fdMO ["life"] []) (gMO : mg "moments_behind" = some (.ref fMO)) (GMO : FnOk P w K mg base CX0 5 fMO fdMO ["life"] (spMom K))
    (FAD : Fun K "added" "added" s_added fAD fdAD) (bAD : Binds K fdAD ["told"] []) (gAD : mg "added" = some (.ref fAD)) (GAD : FnOk P w K mg base CX0 3 fAD fdAD ["told"] (spAdded K))
    (n_enumerate : mg "enumerate" = none) (n_len : mg "len" = none) : FnOk P w K mg base CX0 6 f fd ["life"] (spMean K) := by
  refine F.ok sc_mean (fun vs H Q E h => ?_) (fun cdv A outer s H vs Q E hr h => ?_)
  · obtain ⟨_, _, _, _, rfl, _⟩ := h
    rfl
  · obtain ⟨p, row, step, W, rfl, hl, M, q⟩ := h
    refine ⟨_, (pss_cons (ps_if (pt_cmpR (op_neD hr.units) (pe_call GMI hr (by rfl) gMI FMI.kp bMI .nil pass0 (pa_cons (pv 0) pa_nil)) (pe_glob (v := .ref aN) rfl C.gN rfl) (nomark _)) (pss_one (ps_ret pe_non)) pss_nil)
      (pss_cons (ps_set (i := 1) sc_mean.nd rfl (.inl rfl) (pe_ix ix_tup (pv 0) pe_int (fun _ _ => rfl)))
      (pss_cons (ps_setLc (i := 2) (own := [("k", 5), ("chance", 6)]) (g := (gTup K 2 (gCons (gName 5) (gCons (gName 6) gNil)))) (tt := tYes) (te := (tCall (spTwo K (fun a b c d => a * c)) [] E0 (tCons (tTup (tCons (tVar 5) (tCons (tC (.int 1)) tNil))) (tCons (tVar 6) tNil)))) rfl sc_mean.nd rfl rfl (sw_true rfl rfl rfl (by decide +kernel)) (pi_qT (by decide) (by decide) (by rfl) n_enumerate (pa_cons (pv 1) pa_nil)) (blkOk_by (own := [("k", 5), ("chance", 6)]) (N := N_mean) (sc := (defScope s_mean)) (by decide +kernel)) (fun _ _ _ _ _ => (pg_tup rfl (pgs_cons (pg_name (i := 5) sc_mean.nd rfl (.inl rfl)) (pgs_cons (pg_name (i := 6) sc_mean.nd rfl (.inl rfl)) pgs_nil)))) (fun _ _ _ _ _ => pts_nil) (fun _ _ _ _ _ => (pe_call GT (hr.mono (by decide)) (by rfl) gT FT.kp bT .nil pass0 (pa_cons (pe_tup (pa_cons (pv 5) (pa_cons pe_int pa_nil))) (pa_cons (pv 6) pa_nil)))))
      (pss_cons (ps_asg (pe_slice sl_tupA (pe_call GMO hr (by rfl) gMO FMO.kp bMO .nil pass0 (pa_cons (pv 0) pa_nil)) po_none (po_some pe_int)) (pg_tup rfl (pgs_cons (pg_name (i := 3) sc_mean.nd rfl (.inl rfl)) (pgs_cons (pg_name (i := 4) sc_mean.nd rfl (.inl rfl)) pgs_nil))))
      (pss_one (ps_ret (pe_call GAD (hr.mono (by decide)) (by rfl) gAD FAD.kp bAD .nil pass0 (pa_cons (pe_lst (StX.pa_star (pv 2) (pa_cons (pe_call GT (hr.mono (by decide)) (by rfl) gT FT.kp bT .nil pass0 (pa_cons (pe_tup (pa_cons (pe_callB call_len_seq (by rfl) n_len PySem.boot_len (pa_cons (pv 1) pa_nil)) (pa_cons pe_int pa_nil))) (pa_cons (pv 3) pa_nil))) (pa_cons (pv 4) pa_nil)))) pa_nil)))))))), ?_⟩
    obtain ⟨pr, ps, l1, l2, l3⟩ := id hl
    obtain ⟨rs, r1, r2⟩ := id l2
    have hrl := r2.length
    have hlen := M.len
    have P0 := M.P
    refine ⟨_, rfl, p, row, step, 20, rfl, hl, M.ok, fun z x H1 s1 hz sx vx => ?_⟩
    refine tC_go ?_
    refine ne_rat (y := (0, 1)) hz (C.tN _) ?_
    refine ⟨_, rfl, ite2 (fun c1 => ?_) (fun c1 => ?_)⟩
    · refine q .non H1 s1 (.inl ⟨fun e => ?_, rfl⟩)
      rw [e, show (1 : Rat) - 1 = 0 by decide +kernel] at vx
      rw [is_rdq sx.1 vx, rdq_zero.mpr rfl] at c1
      simp at c1
    have t1 : rowQ row + behQ row step = 1 := by
      rcases Classical.em (x = (0, 1)) with y | y
      · rw [y, qv_nought] at vx
        grind
      · exact absurd (show (!decide (x = (0, 1))) = true by simp [y]) c1
    refine ⟨_, rfl, p, _, _, _, rfl, rfl, sqT_same s1 l1, rfl, ?_⟩
    refine ⟨_, rfl, pr, _, rfl, sqT_same s1 r1, ?_⟩
    refine lc_mkW (K := K) (walk_q (Sq := fun H xs => SqT K H pr xs) (k := 1) (xs := rs.map V.ref)) (fun k => (((k + 1 : Nat) : Int) : Rat) * chR row step k) (by rw [List.length_map, hrl]; omega) (fun HE sE => sqT_same (s1.trans sE) r1) (fun i v HE HE' R hi sE hY qr => ?_) (fun to H2 s2 hto => ?_)
    · obtain ⟨T, x1, x2, rfl, nT, rfl, ex1, ex2⟩ := hY
      rw [List.length_map, hrl] at hi
      dsimp only at ex1 ex2
      cases Option.some.inj ex1
      obtain ⟨r, rfl, hr2, sm2, sz2⟩ := row_item (step := step) (pr := pr) M r2 (s1.trans sE) hi ex2
      have gT := same_new (o := HO.tup [.int (1 + ((i : Nat) : Int)), .ref r]) nT
      refine ⟨T, _, rfl, SqT.of upd_same, rfl, _, _, rfl, _, _, rfl, rfl, rfl, ?_⟩
      refine ⟨_, rfl, by show 2 ≤ sizeLine; decide, fun b nb => ?_⟩
      have g2 := same_new (o := HO.tup [.int (1 + ((i : Nat) : Int)), .int 1]) nb
      refine ⟨_, rfl, ?_⟩
      refine tnil_go ?_
      refine times_go (x := (((i + 1 : Nat) : Int) : Rat)) (int_rat ?_) (hr2.tk (Tk.same (gT.trans g2))) (int_smr (by omega)) sm2 fun r3 HF sF hr3 => qr r3 HF (gT.trans (g2.trans sF)) hr3
      rw [show ((i + 1 : Nat) : Int) = 1 + ((i : Nat) : Int) by omega]
      exact SqT.of upd_same
    rw [List.length_map, hrl] at hto
    refine ⟨_, rfl, p, row, step, W, rfl, hl.tk (Tk.same (s1.trans s2)), M, fun z3 a b c H3 s3 hz3 ha hb hc => ?_⟩
    refine noPart_go ?_
    refine ⟨2, rfl, z3, _, rfl, hz3, fun zz => ?_, fun _ z4 n4 => ?_⟩
    · have z2 := zz.2
      rw [show (2 : Int) = ((2 : Nat) : Int) from rfl, HT.sIx_nat] at z2
      exact absurd z2 (by show ¬ min 2 3 = 3; decide)
    rw [show (2 : Int) = ((2 : Nat) : Int) from rfl, cutV_take] at *
    have e4 := same_new (o := HO.tup ([V.ref a, V.ref b, V.ref c].take 2)) n4
    refine ⟨z4, _, rfl, SqT.of upd_same, rfl, _, _, rfl, _, _, rfl, rfl, ?_⟩
    obtain ⟨ts, ht1, ht2⟩ := hto
    have htl := ht2.length
    rw [mkL_len] at htl
    have S4 := s3.trans e4
    refine ⟨_, rfl, to, _, rfl, .inr (SqL.of (S4 _ _ ht1)), ?_⟩
    refine ⟨_, rfl, pr, _, rfl, .inr (sqT_same (s1.trans (s2.trans S4)) r1), ?_⟩
    refine ⟨by show 2 ≤ sizeLine; decide, fun b5 n5 => ?_⟩
    have el : (((rs.map V.ref).length : Nat) : Int) = (row.length : Int) := by rw [List.length_map, hrl]
    have e5 := same_new (o := HO.tup [.int ((rs.map V.ref).length : Nat), .int 1]) n5
    have szB := M.up2 M.beh
    have szF := M.up3 M.first
    refine ⟨_, rfl, ?_⟩
    refine tnil_go ?_
    refine times_go (x := ((row.length : Int) : Rat)) (y := behQ row step) (int_rat ?_) (ha.tk (Tk.same (e4.trans e5))) (int_smr (by omega)) (szB.smr P0.1 P0.2 (by decide)) fun r6 H6 s6 hr6 => ?_
    · rw [← el]
      exact SqT.of upd_same
    refine ⟨_, rfl, ?_, fun ls nls => ?_⟩
    · rw [List.length_append, List.length_map, htl]
      exact Nat.le_trans (show row.length + 2 ≤ 1000 by omega) (by decide)
    have e7 := same_new (o := HO.lst (ts.map V.ref ++ [.ref r6, .ref b])) nls
    have S7 := e5.trans (s6.trans e7)
    refine tnil_go ?_
    have hP := M.P.1
    refine ⟨ls, mkL row.length (fun k => (((k + 1 : Nat) : Int) : Rat) * chR row step k) ++ [rdq (((row.length : Int) : Rat) * behQ row step), rdq (firstQ row step)], 29 + 8 + 1, 29, mP W step, rfl, ⟨ts ++ [r6, b], SqL.of ?_, (ht2.tk (Tk.same (S4.trans S7))).append (.cons (hr6.tk (Tk.same e7)) (.cons (hb.tk (Tk.same (e4.trans S7))) .nil))⟩, over_ls hP P0.2 (fun y hy => ?_) (by rw [List.length_append, mkL_len]; show row.length + 2 ≤ 1000; omega), by decide, by decide, fun y x2 H8 s8 hy rx vx2 _ _ => ?_⟩
    · rw [upd_same, List.map_append]
      rfl
    · rcases List.mem_append.mp hy with u | u
      · obtain ⟨j, hj, rfl⟩ := mem_mkL u
        refine ⟨_, rfl, ?_⟩
        have hg : row[j]? = some row[j] := List.getElem?_eq_getElem hj
        rw [chR_in hg]
        exact ((M.up1 (M.rowz (List.getElem_mem hj))).nat (j := 4) hP (by omega)).mono (by decide)
      · rcases List.mem_cons.mp u with u | u
        · rw [u]
          exact ⟨_, rfl, (szB.nat (j := 4) hP (by omega)).mono (by decide)⟩
        · rw [List.mem_singleton.mp u]
          exact ⟨_, rfl, szF.mono (by decide)⟩
    have ex : x2 = rdq (meanQ row step) := by
      refine is_rdq rx ?_
      rw [vx2, List.map_append, sum_app_rat, mkL_sum]
      show _ + (qv (rdq _) + (qv (rdq _) + 0)) = _
      rw [qv_rdq, qv_rdq]
      unfold meanQ
      grind
    rw [ex] at hy
    exact q (.ref y) H8 (s1.trans (s2.trans (S4.trans (S7.trans s8)))) (.inr ⟨t1, y, rfl, hy⟩)
/-- the greatest that divides all -/
def gR (a : Nat → Rat) : Nat → Nat
  | 0 => 0
  | i + 1 => if a i = 0 then gR a i else Nat.gcd (gR a i) (i + 1)
def roundN (row : List RT) (step : RT) : Nat := if behQ row step = 0 then gR (chR row step) row.length else Nat.gcd (gR (chR row step) row.length) (row.length + 1)
def spRound (K : PySem.W.Frag) : Sp := fun vs H Q _ => ∃ (p : Addr) (row : List RT) (step : RT) (W : Int), vs = [.ref p] ∧ LifeAt K H p row step ∧ ML row step W ∧ ∀ H', Same H H' → Q (.int ((roundN row step : Nat) : Int)) H'
end

end Fp

set_option Elab.async false
set_option linter.all false
set_option maxRecDepth 100000
set_option maxHeartbeats 4000000
set_option exponentiation.threshold 10000
namespace Fp
open PySem PySem.Spec PyProof.Rows L2
/-! ### the law's own means -/
theorem abel1 (a : Nat → Rat) (n : Nat) : (sumTo n fun k => (((k + 1 : Nat) : Int) : Rat) * a k) + (sumTo n fun k => sumTo k a) = ((n : Int) : Rat) * sumTo n a := by
  induction n with
  | zero =>
    show (0 : Rat) + 0 = 0 * 0
    grind
  | succ n ih =>
    rw [sumTo_succ, sumTo_succ (n := n) (f := fun k => sumTo k a), sumTo_succ (n := n) (f := a)]
    rw [show (((n + 1 : Nat) : Int)) = (n : Int) + 1 by omega, Rat.intCast_add]
    show _ + ((n : Int) + (1 : Rat)) * a n + _ = ((n : Int) + (1 : Rat)) * _
    grind
theorem abel2 (a : Nat → Rat) (n : Nat) : (sumTo n fun k => ((((k + 1) * (k + 1) : Nat) : Int) : Rat) * a k) + (sumTo n fun k => (((2 * k + 1 : Nat) : Int) : Rat) * sumTo k a) = (((n * n : Nat) : Int) : Rat) * sumTo n a := by
  induction n with
  | zero =>
    show (0 : Rat) + 0 = 0 * 0
    grind
  | succ n ih =>
    rw [sumTo_succ, sumTo_succ (n := n) (f := fun k => (((2 * k + 1 : Nat) : Int) : Rat) * sumTo k a), sumTo_succ (n := n) (f := a)]
    have e1 : ((((n + 1) * (n + 1) : Nat) : Int) : Rat) = (((n * n : Nat) : Int) : Rat) + (((2 * n + 1 : Nat) : Int) : Rat) := by
      rw [← Rat.intCast_add]
      congr 1
      have : (n + 1) * (n + 1) = n * n + (2 * n + 1) := by
        rw [Nat.add_mul, Nat.mul_add]
        omega
      omega
    rw [e1]
    grind
theorem ones (n : Nat) : (sumTo n fun _ => (1 : Rat)) = ((n : Int) : Rat) := by
  induction n with
  | zero => rfl
  | succ n ih =>
    rw [sumTo_succ, ih, show (((n + 1 : Nat) : Int)) = (n : Int) + 1 by omega, Rat.intCast_add]
    rfl
theorem odds (n : Nat) : (sumTo n fun k => (((2 * k + 1 : Nat) : Int) : Rat)) = (((n * n : Nat) : Int) : Rat) := by
  induction n with
  | zero => rfl
  | succ n ih =>
    rw [sumTo_succ, ih, ← Rat.intCast_add]
    congr 1
    have : (n + 1) * (n + 1) = n * n + (2 * n + 1) := by
      rw [Nat.add_mul, Nat.mul_add]
      omega
    omega
theorem rowQ_to (row : List RT) (step : RT) : ∀ k, k ≤ row.length → rowQ (row.take k) = sumTo k (chR row step)
  | 0, _ => rfl
  | k + 1, h => by
    have hg : row[k]? = some row[k] := List.getElem?_eq_getElem (by omega)
    rw [List.take_add_one, hg, sumTo_succ, chR_in hg, ← rowQ_to row step k (by omega)]
    exact rowQ_snoc _ _
theorem restR_le {row : List RT} {step : RT} {k : Nat} (h : k ≤ row.length) : restR row step k = (rowQ row + behQ row step) - sumTo k (chR row step) := by
  rw [← rowQ_to row step k h]
  have e : rowQ row = rowQ (row.take k) + rowQ (row.drop k) := by
    unfold rowQ
    conv => lhs; rw [← List.take_append_drop k row]
    rw [List.map_append, sum_app_rat]
  have e2 : restR row step k = rowQ (row.drop k) + behQ row step := by
    unfold restR behQ
    congr 1
    generalize row.getLast? = o
    cases o with
    | none => rfl
    | some l =>
      show qv l * qv step ^ (1 + (k - row.length)) / (1 - qv step) = _
      rw [show 1 + (k - row.length) = 0 + 1 by omega, Rat.pow_succ, Rat.pow_zero]
      grind
  rw [e2, e]
  grind
section
variable {P : Program} {w : World} {K : PySem.W.Frag} {mg : Str → Option Value} {base : Heap}
theorem lsum_ls {H : Hp} {Q : VK} {p : Addr} {xs : List RT} {P : Int} {s k : Nat} (h : LsM K H p xs) (hP : 0 < P) (sP : Sm s P) (z : ∀ x ∈ xs, ∃ q, x = rdq q ∧ Sz P k q) (hl : xs.length ≤ 900) (hs : s ≤ 2500) (hk : k ≤ 900)
    (q : ∀ r H', Same H H' → RAt K H' r (rdq (xs.map qv).sum) → Q (.ref r) H') : spLsum K LstAt [.ref p] H Q E0 := by
  obtain ⟨rs, h1, h2⟩ := h
  refine ⟨p, _, _, _, P, rfl, ⟨rs, SqL.of h1, h2⟩, over_ls hP sP z (by omega), by omega, by omega, fun y x HF sF hy rx vx _ _ => ?_⟩
  rw [is_rdq rx vx] at hy
  exact q y HF sF hy
theorem low_go {H : Hp} {Q : VK} {t b : Int} {v : Rat} (hb : 0 < b) (s8 : Sm 8000 b) (e : ((t : Int) : Rat) = v * (b : Rat)) (q : ∀ r H', Same H H' → RAt K H' r (rdq v) → Q (.ref r) H') : spLow [.int t, .int b] H Q E0 := by
  refine ⟨t, b, rfl, hb, s8, fun p np => ?_⟩
  have hc := cast_ne (Int.ne_of_gt hb)
  have ex : low2 t b = rdq v := by
    refine is_rdq (low2_red (Int.ne_of_gt hb)) ?_
    rw [qv_low2 hb, e]
    grind
  refine q p _ (same_new np) ?_
  rw [← ex]
  exact SqT.of upd_same
def spLmeans (K : PySem.W.Frag) : Sp := fun vs H Q _ => ∃ (p : Addr) (row : List RT) (step : RT) (W : Int), vs = [.ref p] ∧ LifeAt K H p row step ∧ ML row step W ∧
  ∀ z m s H', Same H H' → SqT K H' z [m, s] → MV K H' m (rowQ row + behQ row step) (meanQ row step) → MV K H' s (rowQ row + behQ row step) (msqQ row step) → Q (.ref z) H'
end

end Fp

set_option Elab.async false
set_option linter.all false
set_option maxRecDepth 100000
set_option maxHeartbeats 4000000
set_option exponentiation.threshold 10000
namespace Fp
open PySem PySem.Spec PyProof.Rows L2
/-! ### enumerate(xs) of a tuple -/
theorem enum1_meets {y : Value} {ob : Obj} {Hh : Heap → Prop} (B : Begins y ob Hh) :
    Meets (Builtin.«enumerate.__new__» ⟨[.type "enumerate", y], []⟩) (fun _ R0 st => Hh st.heap ∧
      R0 (.ok (.ret (.ref (st.heap.push ob).objs.size))) { st with heap := (st.heap.push ob).push { cls := .type "enumerate", data := .fields #[.none, .bool false, .ref st.heap.objs.size, rawInt 0, .none, .none] } }) :=
  .of_wp fun pr wo Ar Rr st hst => by
    obtain ⟨hh, gg, dd, kk, oo⟩ := st
    obtain ⟨b1, b2⟩ := hst
    have subE := sub_enumerate
    have goes : ∀ {A2 : Around} {E2 : Value → Shared → Prop} {Q2 : Value → Shared → Prop}, Q2 (.ref hh.objs.size) ⟨hh.push ob, gg, dd, kk, oo⟩ → wpAny (model pr wo) A2 (pyIter y) Q2 E2 ⟨hh, gg, dd, kk, oo⟩ :=
      fun q2 => B.iter pr wo _ _ ⟨hh, gg, dd, kk, oo⟩ _ b1 q2
    wp_walk using goes
    refine wpAny_stack_any fun sk => wpAny_pure ?_
    split
    · rename_i cc _ _ _ _ _
      cases (cc == Value.type "enumerate")
      · wp_walk using goes
        exact ⟨_, rfl, b2⟩
      · wp_walk using goes
        exact ⟨_, rfl, b2⟩
    · wp_walk using goes
      exact ⟨_, rfl, b2⟩
theorem enum1_begins {prog : Program} {w : World} {A : Around} {F0 : Value → Shared → Prop} {st : Shared} {y : Value} {ob : Obj} {Hh : Heap → Prop} {Q0 : Value → Shared → Prop} (B : Begins y ob Hh) (b1 : Hh st.heap)
    (go : ∀ h2, IsEnum h2 (st.heap.objs.size + 1) st.heap.objs.size 0 .none → h2.get? st.heap.objs.size = some ob → (∀ b o, st.heap.get? b = some o → h2.get? b = some o) → Q0 (.ref (st.heap.objs.size + 1)) { st with heap := h2 }) :
    wpAny (model prog w) A (call (.type "enumerate") [y]) Q0 F0 st := by
  refine callType_new F.called_enumerate (by decide) (F.typeCall_enumerate_1 _) (F.newCall_enumerate_1 _) (fun z => F.args_object_init_2 z _) F.entry_enumerate_new (enum1_meets B) ⟨b1, ?_⟩
  have sz : (st.heap.push ob).objs.size = st.heap.objs.size + 1 := Heap.size_push ..
  show _ ∧ _
  rw [sz]
  have is : IsEnum ((st.heap.push ob).push { cls := .type "enumerate", data := .fields #[.none, .bool false, .ref st.heap.objs.size, rawInt 0, .none, .none] }) (st.heap.objs.size + 1) st.heap.objs.size 0 .none := by
    have z := Heap.get?_push_size (st.heap.push ob) (o := { cls := .type "enumerate", data := .fields #[.none, .bool false, .ref st.heap.objs.size, rawInt 0, .none, .none] }) rfl
    rw [sz] at z
    exact z
  exact ⟨⟨_, is, rfl⟩, go _ is (Heap.get?_push_of_some _ (Heap.get?_push_size _ B.free)) fun b o x => Heap.get?_push_of_some _ (Heap.get?_push_of_some _ x)⟩
theorem pi_eT {X : Cx} {e : Expr} {ta : TA} {p pos tpos : Pos} {elts : List Expr} {kk : Nat} (hg : Gl X "enumerate") (hm : X.mg "enumerate" = none) (ha : PA X [e] ta) (hs : starEach [e] X.env = [(false, eval e X.env)] := by rfl) :
    PI X (.Tuple elts kk tpos) (.Call (.Name "enumerate" p) [e] [] pos) (iQT X.K 0 ta) := by
  refine ⟨fun pn s sl H R I h => Call_ (ld_blt I hg hm boot_enumerate (PyProof.Rows.callWith_type1 (thn (ha.run pos pn s sl H _ I h) fun us s2 z2 => ?_) hs rfl))⟩
  obtain ⟨vs, H2, I2, r1, a, xs, rfl, sq, q⟩ := z2
  cases r1 with
  | cons ra rn =>
    cases rn
    cases ra
    obtain ⟨us, rv, po, _⟩ := I2.tuple sq
    have oa : s2.heap.IsTuple a us.toArray := po
    refine enum1_begins (begins_tuple a us.toArray) oa fun h2 ee oi kp2 => wpAny_pyIter_enum ee ?_
    have I3 : Inv X pn sl H2 { s2 with heap := h2 } := I2.kept (t' := s2.toks) kp2
    refine ⟨s2.heap.objs.size + 1, [s2.heap.objs.size + 1, s2.heap.objs.size], _, _, H2, rfl, I3, turn_qT 0 a (s2.heap.objs.size + 1) s2.heap.objs.size, ⟨⟨.none, ?_⟩, ⟨_, oi, rfl, rfl⟩, Nat.succ_ne_self _⟩, fun b hb => ?_, q⟩
    · rw [show (0 : Int) + ((0 : Nat) : Int) = 0 by omega]
      exact ee
    · have lb : s2.heap.objs.size ≤ b := by
        rcases (show b = s2.heap.objs.size + 1 ∨ b = s2.heap.objs.size by simpa using hb) with z | z
        · rw [z]
          exact Nat.le_add_right _ _
        · rw [z]
          exact Nat.le_refl _
      exact I2.fpOk lb (I2.hok.fresh lb)

end Fp

set_option Elab.async false
set_option linter.all false
set_option maxRecDepth 100000
set_option maxHeartbeats 4000000
set_option exponentiation.threshold 10000
namespace Fp
open PySem PySem.Spec PyProof.Rows L2
/-! ### lives that end -/
/-- a row that ends, its chances by one small number -/
structure BR (row : List RT) : Prop where
  w : ∃ W : Int, 0 < W ∧ Sm 10 W ∧ ∀ y ∈ row, y.2 ∣ W
  q : ∀ x ∈ row, 0 ≤ qv x ∧ qv x ≤ 1
  sm : ∀ x ∈ row, SmR 10 x
theorem BR.nil : BR [] := ⟨⟨1, by decide, by unfold Sm; decide, fun y hy => by simp at hy⟩, fun x hx => by simp at hx, fun x hx => by simp at hx⟩
theorem BR.app {row xs : List RT} (h : BR row) (hx : ∀ x ∈ xs, x = (0, 1)) : BR (row ++ xs) ∧ BR (xs ++ row) := by
  obtain ⟨⟨W, w1, w2, w3⟩, q, sm⟩ := h
  have z1 : ∀ x ∈ xs, x.2 ∣ W ∧ (0 ≤ qv x ∧ qv x ≤ 1) ∧ SmR 10 x := fun x h => by
    rw [hx x h, qv_nought]
    exact ⟨Int.one_dvd _, ⟨Rat.le_refl, by decide⟩, nought_sm (by decide)⟩
  have key : ∀ x, x ∈ row ∨ x ∈ xs → x.2 ∣ W ∧ (0 ≤ qv x ∧ qv x ≤ 1) ∧ SmR 10 x := fun x h => by
    rcases h with h | h
    · exact ⟨w3 x h, q x h, sm x h⟩
    · exact z1 x h
  refine ⟨⟨⟨W, w1, w2, fun y hy => (key y (List.mem_append.mp hy)).1⟩, fun x hx => (key x (List.mem_append.mp hx)).2.1, fun x hx => (key x (List.mem_append.mp hx)).2.2⟩, ⟨⟨W, w1, w2, fun y hy => (key y (List.mem_append.mp hy).symm).1⟩, fun x hx => (key x (List.mem_append.mp hx).symm).2.1, fun x hx => (key x (List.mem_append.mp hx).symm).2.2⟩⟩
section
variable {P : Program} {w : World} {K : PySem.W.Frag} {mg : Str → Option Value} {base : Heap}
end

end Fp

set_option Elab.async false
set_option linter.all false
set_option maxRecDepth 100000
set_option maxHeartbeats 4000000
set_option exponentiation.threshold 10000
namespace Fp
open PySem PySem.Spec PyProof.Rows L2
/-! ### tuples on one bottom -/
section
variable {K : PySem.W.Frag} {H : Hp} {Q : VK}
theorem oobT_go {p : Addr} {m s k : Nat} {A : Nat → Rat} {P : Int} (h : RowAt K H p (mkL m A)) (hP : 0 < P) (sP : Sm s P) (z : ∀ j, j < m → Sz P k (A j)) (hm : m ≤ 900) (hs : s ≤ 2500) (hk : k ≤ 900)
    (q : ∀ z zl c T H', Same H H' → H' z = some (.tup [.ref zl, .int c]) → IntL H' zl m T → 0 < c → c ∣ P → Sm s c → (∀ j, j < m → ((T j : Int) : Rat) = (c : Rat) * A j) → (∀ j, j < m → Sm (2 * s + k + 1) (T j)) → Q (.ref z) H') : spOobT K [.ref p] H Q E0 := by
  have O := over_mkL hP sP z (show m ≤ 1000 by omega)
  refine ⟨p, _, _, _, _, rfl, h, O, by omega, by omega, fun z1 zl c H' s1 hz hzl c0 cD hc => ?_⟩
  have hl : (mkL m A).length = m := mkL_len
  refine q z1 zl c (getI (topsOn c (mkL m A))) H' s1 hz ?_ c0 cD (dvd_small cD hP sP) (fun j hj => ?_) (fun j hj => ?_)
  · have e := is_mkI (xs := topsOn c (mkL m A))
    rw [tops_len, hl] at e
    unfold IntL
    rw [← e]
    exact hzl
  · rw [tops_val c0 (by rw [hl]; exact hj) fun x hx => ⟨(O.ok x hx).1, hc x hx⟩, qa_mkL hj]
  · have := tops_each (n := s + k + 1) O.pos cD O.sm (xs := mkL m A) (j := j) (by rw [hl]; exact hj) fun x hx => (O.ok x hx).2.2
    exact this.mono (by omega)
end

end Fp

set_option Elab.async false
set_option linter.all false
set_option maxRecDepth 100000
set_option maxHeartbeats 4000000
set_option exponentiation.threshold 10000
namespace Fp
open PySem PySem.Spec PyProof.Rows L2
/-! ### crossed: each with each -/
def crossQ (A B : Nat → Rat) (m n i : Nat) : Rat := sumTo m fun k => if k ≤ i ∧ i < k + n then A k * B (i - k) else 0
def cJ (T U : Nat → Int) (n kk jj i : Nat) : Int := (mkI kk fun k => if k ≤ i ∧ i < k + n then T k * U (i - k) else 0).sum + if kk ≤ i ∧ i < kk + jj then T kk * U (i - kk) else 0
theorem sumI_snoc (xs : List Int) (x : Int) : (xs ++ [x]).sum = xs.sum + x := by
  rw [List.sum_append]
  show xs.sum + (x + 0) = _
  omega
theorem cJ_full {T U : Nat → Int} {n kk i : Nat} : cJ T U n kk n i = cJ T U n (kk + 1) 0 i := by
  unfold cJ
  rw [mkI_succ, sumI_snoc, if_neg (show ¬ (kk + 1 ≤ i ∧ i < kk + 1 + 0) by omega)]
  omega
theorem cJ_step {T U : Nat → Int} {n kk jj i : Nat} : cJ T U n kk (jj + 1) i = if i = kk + jj then cJ T U n kk jj i + T kk * U jj else cJ T U n kk jj i := by
  unfold cJ
  by_cases z : i = kk + jj
  · rw [if_pos z, if_pos (by omega), if_neg (by omega), show i - kk = jj by omega]
    omega
  · rw [if_neg z]
    congr 1
    by_cases y : kk ≤ i ∧ i < kk + jj
    · rw [if_pos y, if_pos (by omega)]
    · rw [if_neg y, if_neg (by omega)]
theorem cJ_zero {T U : Nat → Int} {n i : Nat} : cJ T U n 0 0 i = 0 := by
  unfold cJ
  rw [if_neg (by omega)]
  rfl
theorem cJ_val {T U : Nat → Int} {A B : Nat → Rat} {c e : Int} {m n i : Nat} (hT : ∀ j, j < m → ((T j : Int) : Rat) = (c : Rat) * A j) (hU : ∀ j, j < n → ((U j : Int) : Rat) = (e : Rat) * B j) : ((cJ T U n m 0 i : Int) : Rat) = crossQ A B m n i * ((c * e : Int) : Rat) := by
  unfold cJ
  rw [if_neg (by omega), Int.add_zero, mkI_sum]
  have h : (sumTo m fun k => (((if k ≤ i ∧ i < k + n then T k * U (i - k) else 0 : Int)) : Rat)) = ((c : Rat) * (e : Rat)) * crossQ A B m n i := by
    unfold crossQ
    rw [sumTo_mul]
    refine sumTo_congr fun k hk => ?_
    split
    · rw [Rat.intCast_mul, hT k hk, hU (i - k) (by omega)]
      grind
    · show (0 : Rat) = _ * 0
      grind
  rw [h, Rat.intCast_mul]
  grind
theorem mkI_set {n i : Nat} {g : Nat → Int} {v : Int} : (mkI n g).set i v = mkI n fun m => if m = i then v else g m := by
  refine List.ext_getElem (by rw [List.length_set, mkI_len, mkI_len]) fun m h1 h2 => ?_
  rw [List.getElem_set]
  have hm : m < n := by
    rw [mkI_len] at h2
    exact h2
  have e : ∀ (f : Nat → Int) (h : m < (mkI n f).length), (mkI n f)[m] = f m := fun f h => by
    have := mkI_at (f := f) hm
    rw [List.getElem?_eq_getElem h] at this
    exact Option.some.inj this
  rw [e (fun m => if m = i then v else g m)]
  by_cases z : i = m
  · rw [if_pos z, if_pos z.symm]
  · rw [if_neg z, if_neg fun y => z y.symm, e]
section
variable {P : Program} {w : World} {K : PySem.W.Frag} {mg : Str → Option Value} {base : Heap}
def spCrossedTT (K : PySem.W.Frag) : Sp := fun vs H Q _ => ∃ (p t : Addr) (m n s1 k1 s2 k2 : Nat) (A B : Nat → Rat) (P1 P2 : Int), vs = [.ref p, .ref t] ∧ RowAt K H p (mkL m A) ∧ RowAt K H t (mkL n B) ∧ (0 < P1 ∧ Sm s1 P1 ∧ ∀ j, j < m → Sz P1 k1 (A j)) ∧ (0 < P2 ∧ Sm s2 P2 ∧ ∀ j, j < n → Sz P2 k2 (B j)) ∧ (m ≤ 100 ∧ n ≤ 100) ∧ (0 < s1 ∧ s1 ≤ 2500 ∧ k1 ≤ 900 ∧ 0 < s2 ∧ s2 ≤ 2500 ∧ k2 ≤ 900) ∧
  ∀ z H', Same H H' → LsM K H' z (mkL (m + n - 1) (crossQ A B m n)) → Q (.ref z) H'
end

end Fp

set_option Elab.async false
set_option linter.all false
set_option maxRecDepth 100000
set_option maxHeartbeats 4000000
set_option exponentiation.threshold 10000
namespace Fp
open PySem PySem.Spec PyProof.Rows L2
/-! ### tables: what they hold -/
theorem tk_dk {K : PySem.W.Frag} {H : Hp} {p : Addr} {xs ys : List (Key × V)} (h : H p = some (.dK xs)) : Tk K H (upd H p (.dK ys)) := fun a zs z => by
  rcases z with (z | ⟨o, z⟩) | z
  · exact .inl (.inl (by rw [upd_ne (ne_of z h (by intro y; cases y))]; exact z))
  · exact .inl (.inr ⟨o, by rw [upd_ne (ne_of z h (by intro y; cases y))]; exact z⟩)
  · exact .inr z
/-- a table: each number's chance -/
def TbA (K : PySem.W.Frag) (H : Hp) (T : Addr) (n : Nat) (F : Nat → Rat) : Prop := ∃ kvs : List (Key × V), H T = some (.dK kvs) ∧ kvs.length ≤ n ∧ (∀ kv ∈ kvs, ∃ k : Nat, kv.1 = .inl (k : Int) ∧ k ≤ 60) ∧
  ∀ k : Nat, (valV kvs (.inl (k : Int)) = none ∧ F k = 0) ∨ ∃ r, valV kvs (.inl (k : Int)) = some (.ref r) ∧ RAt K H r (rdq (F k))
section
variable {K : PySem.W.Frag} {H H' : Hp} {T : Addr} {n : Nat} {F : Nat → Rat}
theorem TbA.same (h : TbA K H T n F) (s : Same H H') : TbA K H' T n F := by
  obtain ⟨kvs, h1, h2, h3, h4⟩ := h
  refine ⟨kvs, s _ _ h1, h2, h3, fun k => ?_⟩
  rcases h4 k with z | ⟨r, z1, z2⟩
  · exact .inl z
  · exact .inr ⟨r, z1, z2.tk (Tk.same s)⟩
theorem TbA.nil : TbA K (upd H T (.dK [])) T 0 (fun _ => 0) := ⟨[], upd_same, Nat.le_refl _, fun kv h => by simp at h, fun k => .inl ⟨rfl, rfl⟩⟩
theorem TbA.congr {G : Nat → Rat} (h : TbA K H T n F) (e : ∀ k, G k = F k) : TbA K H T n G := by
  rw [funext e]
  exact h
theorem TbA.get (h : TbA K H T n F) (k : Nat) {z : Addr} (hz : RAt K H z (0, 1)) : ∃ o r, DGet H T (.int (k : Int)) o ∧ o.getD (.ref z) = .ref r ∧ RAt K H r (rdq (F k)) := by
  obtain ⟨kvs, h1, h2, h3, h4⟩ := h
  rcases h4 k with ⟨z1, z2⟩ | ⟨r, z1, z2⟩
  · refine ⟨_, z, DGet.k (k := .inl (k : Int)) h1, ?_, ?_⟩
    · rw [z1]
      rfl
    · rw [z2, rdq_zero.mpr rfl]
      exact hz
  · refine ⟨_, r, DGet.k (k := .inl (k : Int)) h1, ?_, z2⟩
    rw [z1]
    rfl
theorem mem_put {kvs : List (Key × V)} {k : Key} {v : V} : ∀ kv ∈ putK kvs k v, kv.1 = k ∨ ∃ u ∈ kvs, u.1 = kv.1 := by
  intro kv h
  unfold putK at h
  split at h
  · obtain ⟨u, hu, e⟩ := List.mem_map.mp h
    refine .inr ⟨u, hu, ?_⟩
    rw [← e]
    split <;> rfl
  · rcases List.mem_append.mp h with z | z
    · exact .inr ⟨kv, z, rfl⟩
    · rw [List.mem_singleton.mp z]
      exact .inl rfl
theorem TbA.put (h : TbA K H T n F) {k : Nat} {r : Addr} {v : Rat} (hk : k ≤ 60) (hn : n ≤ 900) (hr : RAt K H r (rdq v)) : ∃ H', DPut H T (.int (k : Int)) (.ref r) H' ∧ TbA K H' T (n + 1) (fun j => if j = k then v else F j) ∧ Tk K H H' ∧ ∀ b, b ≠ T → H' b = H b := by
  obtain ⟨kvs, h1, h2, h3, h4⟩ := h
  have tk : Tk K H (upd H T (.dK (putK kvs (.inl (k : Int)) (.ref r)))) := tk_dk h1
  refine ⟨_, DPut.k (k := .inl (k : Int)) h1 (by rw [sizeLine_eq]; omega), ⟨_, upd_same, ?_, fun kv hkv => ?_, fun j => ?_⟩, tk, fun b hb => upd_ne hb⟩
  · have := length_putK kvs (.inl (k : Int)) (.ref r)
    omega
  · rcases mem_put kv hkv with z | ⟨u, hu, z⟩
    · exact ⟨k, z, hk⟩
    · rw [← z]
      exact h3 u hu
  · rw [valV_put]
    dsimp only
    rcases Classical.em (j = k) with z | z
    · rw [if_pos (by rw [z]), if_pos z]
      exact .inr ⟨r, rfl, hr.tk tk⟩
    · rw [if_neg (by intro e; apply z; have := Sum.inl.inj e; omega), if_neg z]
      rcases h4 j with y | ⟨r2, y1, y2⟩
      · exact .inl y
      · exact .inr ⟨r2, y1, y2.tk tk⟩
end
/-! ### each with each, one after another -/
def crossP (A B : Nat → Rat) (n jj kk i : Nat) : Rat := (sumTo jj fun k => if k ≤ i ∧ i < k + n then A k * B (i - k) else 0) + if jj ≤ i ∧ i < jj + kk then A jj * B (i - jj) else 0
theorem crossP_zero (A B : Nat → Rat) (n i : Nat) : crossP A B n 0 0 i = 0 := by
  unfold crossP
  rw [sumTo_zero, if_neg (by omega)]
  grind
theorem crossP_full (A B : Nat → Rat) (n jj i : Nat) : crossP A B n jj n i = crossP A B n (jj + 1) 0 i := by
  unfold crossP
  rw [sumTo_succ, if_neg (show ¬ (jj + 1 ≤ i ∧ i < jj + 1 + 0) by omega)]
  grind
theorem crossP_all (A B : Nat → Rat) (m n i : Nat) : crossP A B n m 0 i = crossQ A B m n i := by
  unfold crossP crossQ
  rw [if_neg (by omega)]
  grind
theorem crossP_step (A B : Nat → Rat) (n jj kk i : Nat) : crossP A B n jj (kk + 1) i = if i = jj + kk then crossP A B n jj kk i + A jj * B kk else crossP A B n jj kk i := by
  unfold crossP
  rcases Classical.em (i = jj + kk) with z | z
  · rw [if_pos z, if_pos (by omega), if_neg (by omega), show i - jj = kk by omega]
    grind
  · rw [if_neg z]
    congr 1
    rcases Classical.em (jj ≤ i ∧ i < jj + kk) with y | y
    · rw [if_pos y, if_pos (by omega)]
    · rw [if_neg y, if_neg (by omega)]
theorem crossQ_far (A B : Nat → Rat) {m n i : Nat} (h : m + n ≤ i + 1) : crossQ A B m n i = 0 := by
  unfold crossQ
  rw [sumTo_congr (g := fun _ => 0) fun k hk => if_neg (by omega), sumTo_nought]
/-- the table of two behind one another -/
def tabF (C : Nat → Rat) : Nat → Rat
  | 0 => 0
  | 1 => 0
  | i + 2 => C i
theorem tabF_put (C : Nat → Rat) (i : Nat) (v : Rat) : (fun j => if j = i + 2 then v else tabF C j) = tabF fun j => if j = i then v else C j := by
  funext j
  match j with
  | 0 =>
    rw [if_neg (by omega)]
    rfl
  | 1 =>
    rw [if_neg (by omega)]
    rfl
  | j + 2 =>
    show (if j + 2 = i + 2 then v else C j) = if j = i then v else C j
    rcases Classical.em (j = i) with z | z
    · rw [if_pos (by omega), if_pos z]
    · rw [if_neg (by omega), if_neg z]
theorem tabF_row (C : Nat → Rat) (i : Nat) : tabF C (i + 1) = laterF C i := by
  cases i <;> rfl
/-! ### rows told shorter or longer -/
theorem trim_mk {f : Nat → Rat} {m M : Nat} (h : m ≤ M) (hz : ∀ i, m ≤ i → f i = 0) : trimZ (mkL M f) = trimZ (mkL m f) := by
  obtain ⟨k, rfl⟩ : ∃ k, M = m + k := ⟨M - m, by omega⟩
  have e : mkL (m + k) f = mkL m f ++ List.replicate k (0, 1) := by
    induction k with
    | zero => rw [Nat.add_zero, List.replicate_zero, List.append_nil]
    | succ k ih => rw [← Nat.add_assoc, mkL_succ, ih (by omega), hz _ (by omega), rdq_zero.mpr rfl, List.append_assoc, List.replicate_succ']
  rw [e, trimZ_noughts]
theorem goes_none {row : List RT} : ¬ GoesOn row (0, 1) := by
  rcases snoc_cases row with z | ⟨ys, y, z⟩
  · rw [z]
    exact goes_nil
  · rw [z]
    intro h
    exact (goes_snoc.mp h).1 rfl
theorem short_row (row : List RT) : shortL row (0, 1) = (trimZ row, (0, 1)) := shortL_end goes_none
theorem nstep7 : StepOk 300 (0, 1) := ⟨nought_sm (by decide), by show (0 : Int) ≤ 0; decide, by show (0 : Int) < 1; decide⟩
/-! ### rows that end -/
theorem chR_far0' {row : List RT} {i : Nat} (h : row.length ≤ i) : chR row (0, 1) i = 0 := by
  rcases Classical.em (row = []) with z | z
  · rw [z, chR_nil]
  · obtain ⟨l, h1, _, _⟩ := last_is z
    rw [chR_out h h1, qv_nought, show i + 1 - row.length = (i - row.length) + 1 by omega, Rat.pow_succ]
    grind
theorem BR.sz {row : List RT} {W : Int} (h : BR row) (hW : 0 < W) (hd : ∀ y ∈ row, y.2 ∣ W) (k : Nat) : Sz W 0 (chR row (0, 1) k) := by
  rcases (by omega : k < row.length ∨ row.length ≤ k) with z | z
  · have hm := List.getElem_mem z
    rw [chR_in (List.getElem?_eq_getElem z)]
    obtain ⟨a, b⟩ := h.q _ hm
    exact Sz.pos ⟨_, qv_over (h.sm _ hm).1.1 (hd _ hm) hW⟩ a (by rw [Rat.pow_zero]; exact b)
  · rw [chR_far0' z]
    exact Sz.nought
theorem BR.mkl {row : List RT} (h : BR row) : row = mkL row.length (chR row (0, 1)) := by
  refine List.ext_getElem (by rw [mkL_len]) fun i h1 h2 => ?_
  have e := mkL_at (g := chR row (0, 1)) h1
  rw [List.getElem?_eq_getElem h2] at e
  rw [Option.some.inj e, chR_in (List.getElem?_eq_getElem h1), ← red_rdq (h.sm _ (List.getElem_mem h1)).1]
theorem BR.ok {row : List RT} (h : BR row) (hl : row.length ≤ 14) : LifeOk 20 row (0, 1) := ⟨fun x hx => (h.sm x hx).mono (by decide), ⟨nought_sm (by decide), by show (0 : Int) ≤ 0; decide, by show (0 : Int) < 1; decide⟩, by omega, by decide, by decide⟩
theorem crossQ_sz {A B : Nat → Rat} {P1 P2 : Int} (h1 : 0 < P1) (h2 : 0 < P2) (zA : ∀ k, Sz P1 0 (A k)) (zB : ∀ k, Sz P2 0 (B k)) {m n : Nat} (hm : m ≤ 100) (i : Nat) : Sz (P1 * P2) 7 (crossQ A B m n i) := by
  unfold crossQ
  refine Sz.sum (k := 0) (Int.mul_pos h1 h2) (fun k _ => ?_) (by omega)
  split
  · exact (zA k).mul h1 h2 (zB _)
  · exact Sz.nought
theorem crossP_sz {A B : Nat → Rat} {P1 P2 : Int} (h1 : 0 < P1) (h2 : 0 < P2) (zA : ∀ k, Sz P1 0 (A k)) (zB : ∀ k, Sz P2 0 (B k)) {jj n kk : Nat} (hm : jj ≤ 100) (i : Nat) : Sz (P1 * P2) 8 (crossP A B n jj kk i) := by
  unfold crossP
  refine Sz.add (k := 7) (Int.mul_pos h1 h2) (crossQ_sz h1 h2 zA zB hm i) ?_
  split
  · exact ((zA _).mul h1 h2 (zB _)).mono (by decide)
  · exact Sz.nought

end Fp

set_option Elab.async false
set_option linter.all false
set_option maxRecDepth 100000
set_option maxHeartbeats 4000000
set_option exponentiation.threshold 10000
namespace Fp
open PySem PySem.Spec PyProof.Rows L2
/-! ### tables of chances -/
section
variable {K : PySem.W.Frag}
/-- a comprehension each turn of which gives a new list of ratios -/
theorem lc_lsW {J : It} {n : Nat} {G : Hp → Prop} {Y : Nat → Hp → V → Hp → Prop} (w : Walk J n G Y) {g : TG} {te : TE} {vs : List Nat} {σ : L2.St} {H1 : Hp} (m : Nat) (f : Nat → Nat → Rat) (hn : n ≤ 900) (hG : ∀ HE, Same H1 HE → G HE)
    (hs : ∀ (k : Nat) (x : V) (HE HE' : Hp) (R : VK), k < n → Same H1 HE → Y k HE x HE' → (∀ r HF, Same HE HF → HE r = none → LsM K HF r (mkL m (f k)) → R (.ref r) HF) → g x (wipe σ vs) HE' fun σ2 H2 => wipe σ2 vs = wipe σ vs ∧ te σ2 H2 R)
    {Qd : Addr → Hp → Prop} (hd : ∀ D H2 (fs : List Addr), Same H1 H2 → H2 D = some (.lst (fs.map V.ref)) → fs.length = n → (∀ i r, fs[i]? = some r → LsM K H2 r (mkL m (f i))) → Qd D H2) : tLc (fun _ H2 R => R J H2) g tYes te vs σ H1 (refQ Qd) := by
  intro D nD
  have e1 := same_new (o := HO.lst []) nD
  refine lc_it w (fun k HE => ∃ fs : List Addr, Same H1 HE ∧ HE D = some (.lst (fs.map V.ref)) ∧ fs.length = k ∧ ∀ i r, fs[i]? = some r → r ≠ D ∧ LsM K HE r (mkL m (f i))) ⟨[], e1, upd_same, rfl, fun i r h => by simp at h⟩ ?_ ?_ ?_
  · rintro i HE _ ⟨_, sE, _⟩
    exact hG HE sE
  · rintro k x HE HE' hk ⟨fs, sE, hE, hfl, hfs⟩ hY
    refine hs k x HE HE' _ hk sE hY fun r HF sF nr hr => ?_
    have hE5 := sF _ _ hE
    have hrD : r ≠ D := fun z => by
      rw [z, hE] at nr
      cases nr
    have stay : ∀ b ys, b ≠ D → LsM K HF b ys → LsM K (upd HF D (.lst (fs.map V.ref ++ [.ref r]))) b ys := fun b ys hb h => by
      obtain ⟨as, h1, h2⟩ := h
      refine ⟨as, ?_, h2.tk (tk_lst hE5)⟩
      rw [upd_ne hb]
      exact h1
    refine ⟨_, hE5, by rw [List.length_map, hfl]; exact small1000 (by omega), fs ++ [r], ?_, ?_, by rw [List.length_append, hfl]; rfl, fun i q hq => ?_⟩
    · intro b2 o hb2
      rw [upd_ne (ne_of_none hb2 nD)]
      exact (sE.trans sF) _ _ hb2
    · rw [upd_same, List.map_append]
      rfl
    · rcases (by omega : i < fs.length ∨ i = fs.length ∨ fs.length < i) with z | z | z
      · rw [List.getElem?_append_left z] at hq
        obtain ⟨x1, x2⟩ := hfs i q hq
        exact ⟨x1, stay q _ x1 (x2.same sF)⟩
      · rw [z, List.getElem?_append_right (Nat.le_refl _), Nat.sub_self] at hq
        cases Option.some.inj hq
        rw [z, hfl]
        exact ⟨hrD, stay r _ hrD hr⟩
      · rw [List.getElem?_append_right (by omega), List.getElem?_eq_none (by simp; omega)] at hq
        cases hq
  · rintro HE ⟨fs, sE, hE, hfl, hfs⟩
    exact hd D HE fs sE hE hfl fun i r h => (hfs i r h).2
end

end Fp

set_option Elab.async false
set_option linter.all false
set_option maxRecDepth 100000
set_option maxHeartbeats 4000000
set_option exponentiation.threshold 10000
namespace Fp
open PySem PySem.Spec PyProof.Rows L2
/-! ### kinds -/
abbrev Tri := Nat × Nat × RT
def TriA (K : PySem.W.Frag) (H : Hp) (p : Addr) (y : Tri) : Prop := ∃ c : Addr, SqT K H p [.int ((y.1 : Nat) : Int), .int ((y.2.1 : Nat) : Int), .ref c] ∧ RAt K H c y.2.2
def KdA (K : PySem.W.Frag) (H : Hp) (p : Addr) (ys : List Tri) : Prop := ∃ rs : List Addr, SqT K H p (rs.map V.ref) ∧ Obs (TriA K) H rs ys
def KdsA (K : PySem.W.Frag) (H : Hp) (p : Addr) (ks : List (List Tri)) : Prop := ∃ rs : List Addr, SqT K H p (rs.map V.ref) ∧ Obs (KdA K) H rs ks
abbrev Mv := Nat × Tri
def MvA (K : PySem.W.Frag) (H : Hp) (p : Addr) (y : Mv) : Prop := ∃ c : Addr, SqT K H p [.int ((y.1 : Nat) : Int), .int ((y.2.1 : Nat) : Int), .int ((y.2.2.1 : Nat) : Int), .ref c] ∧ RAt K H c y.2.2.2
def movesFrom : Nat → List (List Tri) → List Mv
  | _, [] => []
  | k, ts :: r => ts.map (fun t => (k, t)) ++ movesFrom (k + 1) r
def folL (row : List RT) (f : Nat) : List Tri := (row.zipIdx.filter fun x => decide (x.1 ≠ (0, 1))).map fun x => (x.2 + 1, f, x.1)
section
variable {K : PySem.W.Frag}
theorem triA_stays : Stays K (TriA K) := fun H H' p y e h => by
  obtain ⟨c, h1, h2⟩ := h
  exact ⟨c, e _ _ h1, h2.tk e⟩
theorem kdA_stays : Stays K (KdA K) := fun H H' p y e h => by
  obtain ⟨c, h1, h2⟩ := h
  exact ⟨c, e _ _ h1, h2.tk triA_stays e⟩
theorem kdsA_stays : Stays K (KdsA K) := fun H H' p y e h => by
  obtain ⟨c, h1, h2⟩ := h
  exact ⟨c, e _ _ h1, h2.tk kdA_stays e⟩
theorem mvA_stays : Stays K (MvA K) := fun H H' p y e h => by
  obtain ⟨c, h1, h2⟩ := h
  exact ⟨c, e _ _ h1, h2.tk e⟩
/-- a comprehension with a test, each turn of which gives such an object -/
theorem lc_obsF {α β : Type} {At : Hp → Addr → β → Prop} (st : Stays K At) {J : It} {n : Nat} {G : Hp → Prop} {Y : Nat → Hp → V → Hp → Prop} (w : Walk J n G Y) {g : TG} {tt : TT} {te : TE} {vs : List Nat} {σ : L2.St} {H1 : Hp} (xs : List α) (f : α → β) (b : α → Bool) (hx : n = xs.length) (hn : n ≤ 900) (hG : ∀ HE, Same H1 HE → G HE)
    (hs : ∀ (k : Nat) (y : α) (x : V) (HE HE' : Hp) (R : VK) (N : Hp → Prop), xs[k]? = some y → Same H1 HE → Y k HE x HE' → (b y = true → ∀ r HF, Same HE HF → At HF r (f y) → R (.ref r) HF) → (b y = false → ∀ HF, Same HE HF → N HF) → g x (wipe σ vs) HE' fun σ2 H2 => wipe σ2 vs = wipe σ vs ∧ tt σ2 H2 fun bb H3 => if bb = true then te σ2 H3 R else N H3)
    {Qd : Addr → Hp → Prop} (hd : ∀ D H2, Same H1 H2 → OLs At H2 D ((xs.filter b).map f) → Qd D H2) : tLc (fun _ H2 R => R J H2) g tt te vs σ H1 (refQ Qd) := by
  intro D nD
  have e1 := same_new (o := HO.lst []) nD
  refine lc_it w (fun k HE => Same H1 HE ∧ ∃ rs : List Addr, HE D = some (.lst (rs.map V.ref)) ∧ Obs At HE rs (((xs.take k).filter b).map f)) ⟨e1, [], upd_same, Obs.nil⟩ ?_ ?_ ?_
  · rintro i HE _ ⟨sE, _⟩
    exact hG HE sE
  · rintro k x HE HE' hk ⟨sE, hE⟩ hY
    obtain ⟨y, hy⟩ : ∃ y, xs[k]? = some y := ⟨xs[k], List.getElem?_eq_getElem (by omega)⟩
    have et : (xs.take (k + 1)).filter b = (xs.take k).filter b ++ [y].filter b := by
      rw [List.take_add_one, hy, List.filter_append]
      rfl
    refine hs k y x HE HE' _ _ hy sE hY (fun hb r HF sF hr => ?_) (fun hb HF sF => ?_)
    · obtain ⟨qs, q1, q2⟩ := hE
      have q3 := q2.tk st (Tk.same (K := K) sF)
      have hql := q3.1
      have hfl : ((xs.take k).filter b).length ≤ k := Nat.le_trans (List.length_filter_le _ _) (by rw [List.length_take]; omega)
      rw [List.length_map] at hql
      refine ⟨_, sF _ _ q1, by rw [List.length_map]; exact small1000 (by omega), ?_, ?_⟩
      · intro b2 o hb2
        rw [upd_ne (ne_of_none hb2 nD)]
        exact (sE.trans sF) _ _ hb2
      · refine ⟨qs ++ [r], ?_, ?_⟩
        · rw [upd_same, List.map_append]
          rfl
        · rw [et, List.filter_cons_of_pos hb, List.map_append]
          have tk : Tk K HF (upd HF D (.lst (qs.map V.ref ++ [.ref r]))) := tk_lst (sF _ _ q1)
          exact (q3.append (Obs.one hr)).tk st tk
    · obtain ⟨qs, q1, q2⟩ := hE
      refine ⟨sE.trans sF, qs, sF _ _ q1, ?_⟩
      rw [et, List.filter_cons_of_neg (by rw [hb]; decide), List.filter_nil, List.append_nil]
      exact q2.tk st (Tk.same sF)
  · rintro HE ⟨sE, hE⟩
    rw [List.take_of_length_le (by omega)] at hE
    exact hd D HE sE hE
end
section
variable {P : Program} {w : World} {K : PySem.W.Frag} {mg : Str → Option Value} {base : Heap} {aN aO : Addr}
def spFol (K : PySem.W.Frag) : Sp := fun vs H Q _ => ∃ (p : Addr) (row : List RT) (step : RT) (f : Nat), vs = [.ref p, .int ((f : Nat) : Int)] ∧ LifeAt K H p row step ∧ row.length ≤ 20 ∧
  ∀ z H', Same H H' → KdA K H' z (folL row f) → Q (.ref z) H'
def spLent (K : PySem.W.Frag) : Sp := fun vs H Q _ => ∃ (p r : Addr) (rowA rowB : List RT) (sA sB : RT), vs = [.ref p, .ref r] ∧ LifeAt K H p rowA sA ∧ LifeAt K H r rowB sB ∧ rowA.length ≤ 20 ∧ rowB.length ≤ 20 ∧
  ∀ z H', Same H H' → KdsA K H' z [folL rowA 1, folL rowB 0] → Q (.ref z) H'
end

end Fp

set_option Elab.async false
set_option linter.all false
set_option maxRecDepth 100000
set_option maxHeartbeats 4000000
set_option exponentiation.threshold 10000
namespace Fp
open PySem PySem.Spec PyProof.Rows L2
/-! ### where kinds are put: numbers -/
def cnd (shut : Option Nat) (n : Nat) (m : Mv) (j : Nat) : Bool := decide (m.2.2.1 = j ∧ m.2.1 ≤ n ∧ (m.2.1 = n ∨ shut ≠ some m.1))
def prI (mv : List (Mv × Int)) (c : Int) (first : Nat) (shut : Option Nat) (n j : Nat) : Int := match n with
  | 0 => if j = first then 1 else 0
  | n + 1 => (mv.map fun m => if cnd shut (n + 1) m.1 j = true then prI mv c first shut (n - (m.1.2.1 - 1)) m.1.1 * m.2 * c ^ (m.1.2.1 - 1) else 0).sum
termination_by n
decreasing_by omega
def prQ (mv : List Mv) (first : Nat) (shut : Option Nat) (n j : Nat) : Rat := match n with
  | 0 => if j = first then 1 else 0
  | n + 1 => (mv.map fun m => if cnd shut (n + 1) m j = true then qv m.2.2.2 * prQ mv first shut (n - (m.2.1 - 1)) m.1 else 0).sum
termination_by n
decreasing_by omega
theorem prI_zero {mv : List (Mv × Int)} {c : Int} {first : Nat} {shut : Option Nat} {j : Nat} : prI mv c first shut 0 j = if j = first then 1 else 0 := by rw [prI]
theorem prI_succ {mv : List (Mv × Int)} {c : Int} {first : Nat} {shut : Option Nat} {n j : Nat} : prI mv c first shut (n + 1) j = (mv.map fun m => if cnd shut (n + 1) m.1 j = true then prI mv c first shut (n - (m.1.2.1 - 1)) m.1.1 * m.2 * c ^ (m.1.2.1 - 1) else 0).sum := by rw [prI]
theorem prQ_zero {mv : List Mv} {first : Nat} {shut : Option Nat} {j : Nat} : prQ mv first shut 0 j = if j = first then 1 else 0 := by rw [prQ]
theorem prQ_succ {mv : List Mv} {first : Nat} {shut : Option Nat} {n j : Nat} : prQ mv first shut (n + 1) j = (mv.map fun m => if cnd shut (n + 1) m j = true then qv m.2.2.2 * prQ mv first shut (n - (m.2.1 - 1)) m.1 else 0).sum := by rw [prQ]
theorem cast_sumL {α : Type} (f : α → Int) : ∀ xs : List α, (((xs.map f).sum : Int) : Rat) = (xs.map fun x => ((f x : Int) : Rat)).sum
  | [] => rfl
  | x :: r => by
    show ((f x + (r.map f).sum : Int) : Rat) = _ + _
    rw [Rat.intCast_add, cast_sumL f r]
    rfl
theorem sumL_mul {α : Type} (f : α → Rat) (k : Rat) : ∀ xs : List α, (xs.map f).sum * k = (xs.map fun x => f x * k).sum
  | [] => by
    show (0 : Rat) * k = 0
    grind
  | x :: r => by
    have ih := sumL_mul f k r
    show (f x + (r.map f).sum) * k = f x * k + (r.map fun x => f x * k).sum
    rw [← ih]
    grind
theorem sumL_congr {α : Type} {f g : α → Rat} : ∀ {xs : List α}, (∀ x ∈ xs, f x = g x) → (xs.map f).sum = (xs.map g).sum := fun h => by rw [List.map_congr_left h]
theorem pr_val {mv : List (Mv × Int)} {c : Int} {first : Nat} {shut : Option Nat} (h : ∀ x ∈ mv, ((x.2 : Int) : Rat) = (c : Rat) * qv x.1.2.2.2 ∧ 1 ≤ x.1.2.1) (n : Nat) : ∀ j : Nat, ((prI mv c first shut n j : Int) : Rat) = prQ (mv.map (·.1)) first shut n j * ((c ^ n : Int) : Rat) := by
  induction n using Nat.strongRecOn with
  | ind n ih =>
    intro j
    cases n with
    | zero =>
      rw [prI_zero, prQ_zero, Int.pow_zero]
      split <;> grind
    | succ n =>
      rw [prI_succ, prQ_succ, cast_sumL, List.map_map, sumL_mul]
      refine sumL_congr fun x hx => ?_
      obtain ⟨h1, h2⟩ := h x hx
      show (((if cnd shut (n + 1) x.1 j = true then prI mv c first shut (n - (x.1.2.1 - 1)) x.1.1 * x.2 * c ^ (x.1.2.1 - 1) else 0 : Int)) : Rat) = (if cnd shut (n + 1) x.1 j = true then qv x.1.2.2.2 * prQ (mv.map (·.1)) first shut (n - (x.1.2.1 - 1)) x.1.1 else 0) * _
      by_cases z : cnd shut (n + 1) x.1 j = true
      · rw [if_pos z, if_pos z, Rat.intCast_mul, Rat.intCast_mul, ih _ (by omega), h1]
        have z2 := of_decide_eq_true z
        obtain ⟨s, hs⟩ : ∃ s, x.1.2.1 = s + 1 := ⟨x.1.2.1 - 1, by omega⟩
        have e : c ^ (n + 1) = c ^ (n - s) * c * c ^ s := by
          rw [show n + 1 = n - s + 1 + s by omega, Int.pow_add, Int.pow_succ]
        rw [hs, Nat.add_sub_cancel, e, Rat.intCast_mul, Rat.intCast_mul]
        grind
      · rw [if_neg z, if_neg z]
        show (0 : Rat) = 0 * _
        grind
theorem sum_sm128 {e : Nat} : ∀ {xs : List Int}, (∀ x ∈ xs, Sm e x) → xs.length ≤ 128 → Sm (e + 8) xs.sum := by
  have key : ∀ {xs : List Int}, (∀ x ∈ xs, Sm e x) → xs.sum.natAbs ≤ xs.length * 2 ^ e := by
    intro xs
    induction xs with
    | nil =>
      intro _
      simp
    | cons x r ih =>
      intro h
      have h1 := h x (List.mem_cons_self ..)
      have h2 := ih fun y hy => h y (List.mem_cons_of_mem _ hy)
      rw [List.sum_cons, List.length_cons, Nat.add_mul]
      unfold Sm at h1
      have := Int.natAbs_add_le x r.sum
      omega
  intro xs h hl
  have h1 := key h
  unfold Sm
  have h2 : xs.length * 2 ^ e ≤ 128 * 2 ^ e := Nat.mul_le_mul_right _ hl
  have h3 : 2 ^ (e + 8) = 256 * 2 ^ e := by rw [Nat.pow_add, Nat.mul_comm]
  have h4 : 0 < 2 ^ e := Nat.pow_pos (by decide)
  omega
theorem pr_sm {mv : List (Mv × Int)} {c : Int} {first : Nat} {shut : Option Nat} (h : ∀ x ∈ mv, Sm 66 x.2 ∧ 1 ≤ x.1.2.1) (hc : Sm 60 c) (hl : mv.length ≤ 128) (n : Nat) : ∀ j : Nat, Sm (76 * n + 1) (prI mv c first shut n j) := by
  induction n using Nat.strongRecOn with
  | ind n ih =>
    intro j
    cases n with
    | zero =>
      rw [prI_zero]
      split <;> (unfold Sm; decide)
    | succ n =>
      rw [prI_succ]
      refine (sum_sm128 (e := 76 * n + 69) (fun x hx => ?_) (by rw [List.length_map]; exact hl)).mono (by omega)
      obtain ⟨m, hm, rfl⟩ := List.mem_map.mp hx
      obtain ⟨h1, h2⟩ := h m hm
      split
      · rename_i z
        have z2 := of_decide_eq_true z
        exact (((ih (n - (m.1.2.1 - 1)) (by omega) m.1.1).mul h1).mul (sm_pow hc (by decide) (m.1.2.1 - 1))).mono (by omega)
      · exact Nat.lt_of_lt_of_le (by decide : (0 : Int).natAbs < 1) (Nat.one_le_two_pow)
/-! ### two clauses in a comprehension -/
section
variable {J J1 : It} {n n1 : Nat} {G G1 : Hp → Prop} {Y Y1 : Nat → Hp → V → Hp → Prop}
def inner2 (J1 : It) (g1 : TG) (tt1 : TT) (te : TE) (vs1 : List Nat) (σ2 : L2.St) (D : Addr) (H4 : Hp) (Nx : Hp → Prop) : Prop := ∃ W1 : Nat → Nat → Hp → Prop, (∃ m, W1 0 m H4) ∧ ∀ j k H, W1 j k H →
      (J1.stop j H ∧ Nx H) ∨ (J1.go j H ∧ ∃ Nx1 : Hp → Prop, (∀ H', Nx1 H' → ∃ k', k' < k ∧ W1 (j + 1) k' H') ∧ ∀ x H', J1.yld j H x H' → g1 x (wipe σ2 vs1) H' fun σ3 H5 => wipe σ3 vs1 = wipe σ2 vs1 ∧ tt1 σ3 H5 fun b H6 =>
        if b = true then te σ3 H6 fun y H7 => ∃ acc, H7 D = some (.lst acc) ∧ acc.length < sizeLine ∧ Nx1 (upd H7 D (.lst (acc ++ [y]))) else Nx1 H6)
theorem inner2_it (w : Walk J1 n1 G1 Y1) {g1 : TG} {tt1 : TT} {te : TE} {vs1 : List Nat} {σ2 : L2.St} {H4 : Hp} {D : Addr} {Nx : Hp → Prop} (Pv : Nat → Hp → Prop) (h0 : Pv 0 H4) (hG : ∀ i H, i ≤ n1 → Pv i H → G1 H)
    (hs : ∀ i x H H', i < n1 → Pv i H → Y1 i H x H' → g1 x (wipe σ2 vs1) H' fun σ3 H5 => wipe σ3 vs1 = wipe σ2 vs1 ∧ tt1 σ3 H5 fun b H6 =>
      if b = true then te σ3 H6 fun y H7 => ∃ acc, H7 D = some (.lst acc) ∧ acc.length < sizeLine ∧ Pv (i + 1) (upd H7 D (.lst (acc ++ [y]))) else Pv (i + 1) H6) (hd : ∀ H, Pv n1 H → Nx H) : inner2 J1 g1 tt1 te vs1 σ2 D H4 Nx := by
  refine ⟨fun i m H => m = n1 - i ∧ i ≤ n1 ∧ Pv i H, ⟨n1, by simp, Nat.zero_le _, h0⟩, ?_⟩
  rintro i m H ⟨rfl, hi, p⟩
  have q := hG i H hi p
  by_cases hlt : i < n1
  · refine .inr ⟨w.goes i H hlt q, Pv (i + 1), fun H' p' => ⟨n1 - (i + 1), by omega, rfl, hlt, p'⟩, fun x H' y => hs i x H H' hlt p (w.yields i H x H' hlt q y)⟩
  · have e : i = n1 := by omega
    subst e
    exact .inl ⟨w.stops H q, hd H p⟩
theorem lc2_it (w : Walk J n G Y) {wi1 : TI} {g g1 : TG} {tt tt1 : TT} {te : TE} {vs vs1 : List Nat} {σ : L2.St} {H1 : Hp} {Qd : Addr → Hp → Prop} (Pv : Addr → Nat → Hp → Prop) (h0 : ∀ D, H1 D = none → Pv D 0 (upd H1 D (.lst []))) (hG : ∀ D i H, i ≤ n → Pv D i H → G H)
    (hs : ∀ D i x H H', H1 D = none → i < n → Pv D i H → Y i H x H' → g x (wipe σ vs) H' fun σ2 H2 => wipe σ2 vs = wipe σ vs ∧ tt σ2 H2 fun b H3 =>
      if b = true then wi1 σ2 H3 fun J1 H4 => inner2 J1 g1 tt1 te vs1 σ2 D H4 (Pv D (i + 1)) else Pv D (i + 1) H3) (hd : ∀ D H, Pv D n H → Qd D H) : tLc2 (fun _ H2 R => R J H2) g tt wi1 g1 tt1 te vs vs1 σ H1 (refQ Qd) := by
  intro D nD
  refine ⟨fun i m H => m = n - i ∧ i ≤ n ∧ Pv D i H, ⟨n, by simp, Nat.zero_le _, h0 D nD⟩, ?_⟩
  rintro i m H ⟨rfl, hi, p⟩
  have q := hG D i H hi p
  by_cases hlt : i < n
  · refine .inr ⟨w.goes i H hlt q, Pv D (i + 1), fun H' p' => ⟨n - (i + 1), by omega, rfl, hlt, p'⟩, fun x H' y => hs D i x H H' nD hlt p (w.yields i H x H' hlt q y)⟩
  · have e : i = n := by omega
    subst e
    exact .inl ⟨w.stops H q, hd D H p⟩
end

end Fp

set_option Elab.async false
set_option linter.all false
set_option maxRecDepth 100000
set_option maxHeartbeats 4000000
set_option exponentiation.threshold 10000
namespace Fp
open PySem PySem.Spec PyProof.Rows L2
/-! ### where kinds are put -/
abbrev s_pr : Stmt := topS 39
abbrev N_pr : List Str := ["kinds", "first", "most", "shut", "moves", "tops", "bottom", "powers", "rows", "n", "row", "top", "kind", "stretch", "follower", "chance", "since", "triples", "triple", "move", "power", "total"]
theorem sc_pr : FnScope N_pr ["kinds", "first", "most", "shut"] (defScope s_pr) := ⟨rfl, rfl, rfl, by decide +kernel, rfl, by decide +kernel, by decide +kernel⟩
def scp0_pr (b : List Stmt) (d : Scope) : Scope := match b with
  | (_ :: _ :: _ :: _ :: _ :: (.Return (some (.ListComp _ _ sc _)) _) :: _) => sc
  | _ => d
theorem movesFrom_snoc (ts : List Tri) : ∀ (xs : List (List Tri)) (k : Nat), movesFrom k (xs ++ [ts]) = movesFrom k xs ++ ts.map fun t => (k + xs.length, t)
  | [], k => by
    show (ts.map fun t => (k, t)) ++ [] = [] ++ _
    rw [List.append_nil, List.nil_append]
    rfl
  | x :: r, k => by
    show (x.map fun t => (k, t)) ++ movesFrom (k + 1) (r ++ [ts]) = (x.map fun t => (k, t)) ++ movesFrom (k + 1) r ++ _
    rw [movesFrom_snoc ts r (k + 1), List.append_assoc, List.length_cons, show k + 1 + r.length = k + (r.length + 1) by omega]
theorem moves_take {ks : List (List Tri)} {i : Nat} {ts : List Tri} (h : ks[i]? = some ts) : movesFrom 0 (ks.take (i + 1)) = movesFrom 0 (ks.take i) ++ ts.map fun t => (i, t) := by
  have hi := (List.getElem?_eq_some_iff.mp h).1
  rw [List.take_add_one, h]
  show movesFrom 0 (ks.take i ++ [ts]) = _
  rw [movesFrom_snoc, List.length_take, Nat.min_eq_left (by omega), Nat.zero_add]
/-- moves that may be reckoned with -/
structure MvOk (P : Int) (m : Nat) (mv : List Mv) : Prop where
  pos : 0 < P
  sm : Sm 32 P
  len : mv.length ≤ 128
  red : ∀ y ∈ mv, Red y.2.2.2
  sz : ∀ y ∈ mv, Sz P 0 (qv y.2.2.2)
  st : ∀ y ∈ mv, 1 ≤ y.2.1
  kd : ∀ y ∈ mv, y.1 < m ∧ y.2.2.1 < m
def chM (mv : List Mv) (i : Nat) : Rat := match mv[i]? with
  | some y => qv y.2.2.2
  | none => 0
def shutV : Option Nat → V
  | some k => .int ((k : Nat) : Int)
  | none => .non
section
variable {K : PySem.W.Frag}
/-- a comprehension of ratios; the list is new -/
theorem lc_mkN {J : It} {n : Nat} {G : Hp → Prop} {Y : Nat → Hp → V → Hp → Prop} (w : Walk J n G Y) {g : TG} {te : TE} {vs : List Nat} {σ : L2.St} {H1 : Hp} (f : Nat → Rat) (hn : n ≤ 900) (hG : ∀ HE, Same H1 HE → G HE)
    (hs : ∀ (k : Nat) (x : V) (HE HE' : Hp) (R : VK), k < n → Same H1 HE → Y k HE x HE' → (∀ r HF, Same HE HF → RAt K HF r (rdq (f k)) → R (.ref r) HF) → g x (wipe σ vs) HE' fun σ2 H2 => wipe σ2 vs = wipe σ vs ∧ te σ2 H2 R)
    {Qd : Addr → Hp → Prop} (hd : ∀ D H2, H1 D = none → Same H1 H2 → LsM K H2 D (mkL n f) → Qd D H2) : tLc (fun _ H2 R => R J H2) g tYes te vs σ H1 (refQ Qd) := by
  intro D nD
  have h := lc_mkW (K := K) w f hn hG hs (Qd := fun E H2 => E = D → Qd D H2) (fun E H2 s2 l z => hd D H2 nD s2 (z ▸ l)) D nD
  obtain ⟨W, h0, h1⟩ := h
  refine ⟨W, h0, fun i m H2 h2 => ?_⟩
  rcases h1 i m H2 h2 with ⟨a, b⟩ | b
  · exact .inl ⟨a, b rfl⟩
  · exact .inr b
end
section
variable {K : PySem.W.Frag}
theorem lc_intN {lo : Int} {n : Nat} {g : TG} {te : TE} {vs : List Nat} {σ : L2.St} {H1 : Hp} (f : Nat → Int) (hn : n ≤ 900)
    (hs : ∀ (k : Nat) (HE : Hp) (R : VK), k < n → Same H1 HE → (∀ HF, Same HE HF → R (.int (f k)) HF) → g (.int (lo + k)) (wipe σ vs) HE fun σ2 H2 => wipe σ2 vs = wipe σ vs ∧ te σ2 H2 R)
    {Qd : Addr → Hp → Prop} (hd : ∀ D H2, H1 D = none → Same H1 H2 → IntL H2 D n f → Qd D H2) : tLc (fun _ H2 R => R (Itr lo n) H2) g tYes te vs σ H1 (refQ Qd) := by
  intro D nD
  have h := lc_int f hn hs (Qd := fun E H2 => E = D → Qd D H2) (fun E H2 s2 l z => hd D H2 nD s2 (z ▸ l)) D nD
  obtain ⟨W, h0, h1⟩ := h
  refine ⟨W, h0, fun i m H2 h2 => ?_⟩
  rcases h1 i m H2 h2 with ⟨a, b⟩ | b
  · exact .inl ⟨a, b rfl⟩
  · exact .inr b
theorem put_test {σ : L2.St} {H : Hp} {R : Bool → Hp → Prop} {since : Int} {kind : Nat} {shut : Option Nat} (h1 : σ[16]? = some (some (.int since))) (h2 : σ[12]? = some (some (.int ((kind : Nat) : Int)))) (h3 : σ[3]? = some (some (shutV shut)))
    (h : R (decide (since = 0 ∨ (0 < since ∧ shut ≠ some kind))) H) : tOr (tTest (tOp rEq (tVar 16) (tC (.int 0)))) (tAnd (tTest (tOp (rI0 fun i j => .bl (decide (j < i))) (tVar 16) (tC (.int 0)))) (tTest (tOp rNe (tVar 12) (tVar 3)))) σ H R := by
  refine ⟨_, h1, rfl, _, rfl, ite2 (fun c1 => ?_) (fun c1 => ?_)⟩
  · have z := of_decide_eq_true c1
    injection z with z
    rw [decide_eq_true (.inl z)] at h
    exact h
  · have z : ¬ since = 0 := fun z => c1 (decide_eq_true (by rw [z]))
    refine ⟨_, h1, _, _, rfl, rfl, _, rfl, ite2 (fun c2 => ?_) (fun c2 => ?_)⟩
    · have z2 : 0 < since := of_decide_eq_true c2
      refine ⟨_, h2, _, h3, ?_, _, rfl, ?_⟩
      · cases shut <;> rfl
      · have e : (decide (since = 0 ∨ (0 < since ∧ shut ≠ some kind))) = !decide (V.int ((kind : Nat) : Int) = shutV shut) := by
          cases shut with
          | none =>
            rw [decide_eq_true (.inr ⟨z2, fun y => by cases y⟩), decide_eq_false (fun y => by cases y)]
            rfl
          | some k =>
            by_cases y : kind = k
            · rw [decide_eq_false (fun x => by
                rcases x with x | ⟨_, x⟩
                · exact z x
                · exact x (by rw [y])), decide_eq_true (by rw [y]; rfl)]
              rfl
            · rw [decide_eq_true (.inr ⟨z2, fun x => y (Option.some.inj x).symm⟩), decide_eq_false (fun x => y (by
                injection x with x
                omega))]
              rfl
        rw [e] at h
        exact h
    · have z2 : ¬ 0 < since := fun y => c2 (decide_eq_true y)
      rw [decide_eq_false (fun x => by
        rcases x with x | ⟨x, _⟩
        · exact z x
        · exact z2 x)] at h
      exact h
end
def acc (mv : List (Mv × Int)) (c : Int) (first : Nat) (shut : Option Nat) (n k j : Nat) : Int := ((mv.take k).map fun m => if cnd shut (n + 1) m.1 j = true then prI mv c first shut (n - (m.1.2.1 - 1)) m.1.1 * m.2 * c ^ (m.1.2.1 - 1) else 0).sum
theorem acc_step {mv : List (Mv × Int)} {c : Int} {first : Nat} {shut : Option Nat} {n k j : Nat} {m : Mv × Int} (h : mv[k]? = some m) : acc mv c first shut n (k + 1) j = acc mv c first shut n k j + if cnd shut (n + 1) m.1 j = true then prI mv c first shut (n - (m.1.2.1 - 1)) m.1.1 * m.2 * c ^ (m.1.2.1 - 1) else 0 := by
  unfold acc
  rw [List.take_add_one, h, List.map_append]
  exact sumI_snoc _ _
theorem acc_all {mv : List (Mv × Int)} {c : Int} {first : Nat} {shut : Option Nat} {n j : Nat} : acc mv c first shut n mv.length j = prI mv c first shut (n + 1) j := by
  unfold acc
  rw [List.take_of_length_le (Nat.le_refl _), prI_succ]
section
variable {P : Program} {w : World} {K : PySem.W.Frag} {mg : Str → Option Value} {base : Heap} {aN aO : Addr}
def spPr (K : PySem.W.Frag) : Sp := fun vs H Q _ => ∃ (p : Addr) (ks : List (List Tri)) (first most : Nat) (shut : Option Nat) (P : Int), vs = [.ref p, .int ((first : Nat) : Int), .int ((most : Nat) : Int), shutV shut] ∧ KdsA K H p ks ∧ MvOk P ks.length (movesFrom 0 ks) ∧ ks.length ≤ 32 ∧ most ≤ 20 ∧
  ∀ D H2 (fs : List Addr), Same H H2 → H2 D = some (.lst (fs.map V.ref)) → fs.length = most + 1 → (∀ i r, fs[i]? = some r → LsM K H2 r (mkL ks.length (prQ (movesFrom 0 ks) first shut i))) → Q (.ref D) H2
theorem ok_pr {f fOB fR : Addr} {fd fdOB fdR : FuncData} (F : Fun K "put_rows" "put_rows" s_pr f fd)
    (FOB : Fun K "on_one_bottom" "on_one_bottom" s_oob fOB fdOB) (bOB : Binds K fdOB ["told"] []) (gOB : mg "on_one_bottom" = some (.ref fOB)) (GOB : FnOk P w K mg base CX0 2 fOB fdOB ["told"] (spOob K))
    (FR : Fun K "ratio" "ratio" s_ratio fR fdR) (bR : Binds K fdR ["top", "bottom"] []) (gR : mg "ratio" = some (.ref fR)) (GR : FnOk P w K mg base CX0 2 fR fdR ["top", "bottom"] spRat0)
    (n_enumerate : mg "enumerate" = none) (n_len : mg "len" = none) (n_range : mg "range" = none) (n_zip : mg "zip" = none) : FnOk P w K mg base CX0 3 f fd ["kinds", "first", "most", "shut"] (spPr K) := by
  refine F.ok sc_pr (fun vs H Q E h => ?_) (fun cdv A outer s H vs Q E hr h => ?_)
  · obtain ⟨_, _, _, _, _, _, rfl, _⟩ := h
    rfl
  · obtain ⟨p, ks, first, most, shut, PP, rfl, hk, M, hkl, hm, q⟩ := h
    refine ⟨_, (pss_cons (ps_setLc2 (i := 4) (own := [("kind", 12), ("triples", 17), ("triple", 18)]) (vs1 := [18]) (g := (gTup K 2 (gCons (gName 12) (gCons (gName 17) gNil)))) (g1 := (gName 18)) (tt := tYes) (tt1 := tYes) (wi1 := (iTup K (tVar 17))) (te := (tTup (tCons (tVar 12) (StX.tStar K (tVar 18) tNil)))) rfl sc_pr.nd rfl rfl (sw_true rfl rfl rfl (by decide +kernel)) (pi_eT (by rfl) n_enumerate (pa_cons (pv 0) pa_nil)) (blkOk_by (own := [("kind", 12), ("triples", 17), ("triple", 18)]) (N := N_pr) (sc := (defScope s_pr)) (by decide +kernel)) (by decide) (fun _ _ _ _ _ => (pg_tup rfl (pgs_cons (pg_name (i := 12) sc_pr.nd rfl (.inl rfl)) (pgs_cons (pg_name (i := 17) sc_pr.nd rfl (.inl rfl)) pgs_nil)))) (fun _ _ _ _ _ => pts_nil) (fun _ _ _ _ _ => (pi_tup (pv 17))) (fun _ _ _ _ _ => (pg_name (i := 18) sc_pr.nd rfl (.inl rfl))) (fun _ _ _ _ _ => pts_nil) (fun _ _ _ _ _ => (pe_tup (pa_cons (pv 12) (StX.pa_star (pv 18) pa_nil)))))
      (pss_cons (ps_asg (pe_call GOB hr (by rfl) gOB FOB.kp bOB .nil pass0 (pa_cons (pe_lc (own := [("move", 19)]) (g := (gName 19)) (tt := tYes) (te := (tOp (rIxT K) (tVar 19) (tC (.int 3)))) rfl sc_pr.nd (pi_list (pv 4)) (blkOk_by (own := [("move", 19)]) (N := N_pr) (sc := (defScope s_pr)) (by decide +kernel)) (fun _ _ _ _ _ => (pg_name (i := 19) sc_pr.nd rfl (.inl rfl))) (fun _ _ _ _ _ => pts_nil) (fun _ _ _ _ _ => (pe_ix ix_tup (pv 19) pe_int (fun _ _ => rfl)))) pa_nil)) (pg_tup rfl (pgs_cons (pg_name (i := 5) sc_pr.nd rfl (.inl rfl)) (pgs_cons (pg_name (i := 6) sc_pr.nd rfl (.inl rfl)) pgs_nil))))
      (pss_cons (ps_set (i := 7) sc_pr.nd rfl (.inl rfl) (pe_lst (pa_cons pe_int pa_nil)))
      (pss_cons (ps_set (i := 8) sc_pr.nd rfl (.inl rfl) (pe_lst (pa_cons (pe_lc (own := [("kind", 12)]) (g := (gName 12)) (tt := tYes) (te := (tIf (tTest (tOp rEq (tVar 12) (tVar 1))) (tC (.int 1)) (tC (.int 0)))) rfl sc_pr.nd (pi_range1 (by rfl) n_range (pa_cons (pe_callB call_len_seq (by rfl) n_len PySem.boot_len (pa_cons (pv 0) pa_nil)) pa_nil)) (blkOk_by (own := [("kind", 12)]) (N := N_pr) (sc := (defScope s_pr)) (by decide +kernel)) (fun _ _ _ _ _ => (pg_name (i := 12) sc_pr.nd rfl (.inl rfl))) (fun _ _ _ _ _ => pts_nil) (fun _ _ _ _ _ => (pe_ifExp (pt_cmpR op_eq (pv 12) (pv 1) (nomark _)) pe_int pe_int))) pa_nil)))
      (pss_cons (ps_for PassesOwn.never rfl (pi_range2 (by rfl) n_range (pa_cons pe_int (pa_cons (pe_op op_add (pv 2) pe_int) pa_nil))) (pg_name (i := 9) sc_pr.nd rfl (.inl rfl)) (pss_cons (ps_set (i := 10) sc_pr.nd rfl (.inl rfl) (pe_op op_rep (pe_lst (pa_cons pe_int pa_nil)) (pe_callB call_len_seq (by rfl) n_len PySem.boot_len (pa_cons (pv 0) pa_nil))))
      (pss_cons (ps_for PassesOwn.never rfl (pi_zip (by rfl) n_zip (pa_cons (pv 4) (pa_cons (pv 5) pa_nil))) (pg_tup rfl (pgs_cons (pg_tup rfl (pgs_cons (pg_name (i := 12) sc_pr.nd rfl (.inl rfl)) (pgs_cons (pg_name (i := 13) sc_pr.nd rfl (.inl rfl)) (pgs_cons (pg_name (i := 14) sc_pr.nd rfl (.inl rfl)) (pgs_cons (pg_name (i := 15) sc_pr.nd rfl (.inl rfl)) pgs_nil))))) (pgs_cons (pg_name (i := 11) sc_pr.nd rfl (.inl rfl)) pgs_nil))) (pss_cons (ps_set (i := 16) sc_pr.nd rfl (.inl rfl) (pe_op op_sub (pv 9) (pv 13)))
      (pss_one (ps_if (PW.pt (pw_or (pt_cmpR op_eq (pv 16) pe_int (nomark _)) (pw_or1 (PW.pt (pw_and (pt_cmpR op_gt (pv 16) pe_int (nomark _)) (pw_and1 (pt_cmpR op_ne (pv 12) (pv 3) (nomark _)))))))) (pss_one (ps_augS (pv 10) (pv 14) get_listN (pe_op op_mulA (pe_op op_mulA (pe_ix ix_list (pe_ix ix_list (pv 8) (pv 16) (fun _ _ => rfl)) (pv 12) (fun _ _ => rfl)) (pv 11)) (pe_ix ix_list (pv 7) (pe_op op_sub (pv 13) pe_int) (fun _ _ => rfl))) ip_add set_list)) pss_nil))))
      (pss_cons (ps_expr (pe_bm PySem.F.plainAttrs_list PySem.F.slot_list_append PySem.F.type_list_append mt_append (pv 8) (pa_cons (pv 10) pa_nil)))
      (pss_one (ps_expr (pe_bm PySem.F.plainAttrs_list PySem.F.slot_list_append PySem.F.type_list_append mt_append (pv 7) (pa_cons (pe_op op_mulA (pe_ix ix_list (pv 7) (pe_un un_neg pe_int) (fun _ _ => rfl)) (pv 6)) pa_nil))))))))
      (pss_one (ps_ret (pe_lc (own := [("row", 10), ("power", 20)]) (g := (gTup K 2 (gCons (gName 10) (gCons (gName 20) gNil)))) (tt := tYes) (te := (tLc (iList K (tVar 10)) (gName 21) tYes (tCall spRat0 [] E0 (tCons (tVar 21) (tCons (tVar 20) tNil))) [21])) rfl sc_pr.nd (pi_zip (by rfl) n_zip (pa_cons (pv 8) (pa_cons (pv 7) pa_nil))) (blkOk_by (own := [("row", 10), ("power", 20)]) (N := N_pr) (sc := (defScope s_pr)) (by decide +kernel)) (fun _ _ _ _ _ => (pg_tup rfl (pgs_cons (pg_name (i := 10) sc_pr.nd rfl (.inl rfl)) (pgs_cons (pg_name (i := 20) sc_pr.nd rfl (.inr rfl)) pgs_nil)))) (fun _ _ _ _ _ => pts_nil) (fun _ _ _ _ _ => (pe_lc (own := [("total", 21)]) (g := (gName 21)) (tt := tYes) (te := (tCall spRat0 [] E0 (tCons (tVar 21) (tCons (tVar 20) tNil)))) rfl sc_pr.nd (pi_list (pv 10)) (blkOk_by (own := [("total", 21)]) (N := N_pr) (sc := (relS (scp0_pr (defBody s_pr) (defScope s_pr)) (defScope s_pr))) (by decide +kernel)) (fun _ _ _ _ _ => (pg_name (i := 21) sc_pr.nd rfl (.inl rfl))) (fun _ _ _ _ _ => pts_nil) (fun _ _ _ _ _ => (pe_call GR hr (by rfl) gR FR.kp bR .nil pass0 (pa_cons (pv 21) (pa_cons (pv 20) pa_nil)))))))))))))), ?_⟩
    obtain ⟨rk, k1, k2⟩ := id hk
    have hrk := k2.1
    refine ⟨_, rfl, ?_⟩
    refine tnil_go ?_
    refine ⟨p, _, rfl, k1, ?_⟩
    refine lc2_it (walk_q (Sq := fun H xs => SqT K H p xs) (k := 0) (xs := rk.map V.ref)) (fun D i HE => Same H HE ∧ ∃ rs : List Addr, HE D = some (.lst (rs.map V.ref)) ∧ Obs (MvA K) HE rs (movesFrom 0 (ks.take i))) (fun D nD => ⟨same_new nD, [], upd_same, Obs.nil⟩) (fun D i HE _ h => sqT_same h.1 k1) (fun D i v HE HE' nD hi ⟨sE, rs, hD, hrs⟩ hY => ?_) (fun ml H1 ⟨s1, rs, hml, hrs⟩ => ?_)
    · obtain ⟨T, x1, x2, rfl, nT, rfl, ex1, ex2⟩ := hY
      rw [List.length_map, hrk] at hi
      dsimp only at ex1 ex2
      cases Option.some.inj ex1
      obtain ⟨ts, hts⟩ : ∃ ts, ks[i]? = some ts := ⟨ks[i], List.getElem?_eq_getElem hi⟩
      obtain ⟨kt, ekt, tr, t1, t2⟩ := k2.get hts
      rw [List.getElem?_map, ekt] at ex2
      cases Option.some.inj ex2
      have gT := same_new (o := HO.tup [.int (0 + ((i : Nat) : Int)), .ref kt]) nT
      have S1 := sE.trans gT
      refine ⟨T, _, rfl, SqT.of upd_same, rfl, _, _, rfl, _, _, rfl, rfl, rfl, ?_⟩
      refine tYes_go (iteT ?_)
      have hle : (movesFrom 0 (ks.take i)).length + ts.length ≤ 128 := by
        have h1 := M.len
        have h2 : movesFrom 0 ks = movesFrom 0 (ks.take (i + 1) ++ ks.drop (i + 1)) := by rw [List.take_append_drop]
        have h3 : ∀ (xs ys : List (List Tri)) (k : Nat), (movesFrom k xs).length ≤ (movesFrom k (xs ++ ys)).length := by
          intro xs ys
          induction xs with
          | nil => intro k; exact Nat.zero_le _
          | cons x r ih =>
            intro k
            show ((x.map fun t => (k, t)) ++ movesFrom (k + 1) r).length ≤ ((x.map fun t => (k, t)) ++ movesFrom (k + 1) (r ++ ys)).length
            rw [List.length_append, List.length_append]
            have := ih (k + 1)
            omega
        have h4 := h3 (ks.take (i + 1)) (ks.drop (i + 1)) 0
        rw [← h2, moves_take hts, List.length_append, List.length_map] at h4
        omega
      refine ⟨_, rfl, kt, rfl, ⟨_, sqT_same S1 t1⟩, ?_⟩
      refine inner2_it (walk_tup (K := K) (a := kt) (xs := tr.map V.ref)) (fun j HE => Same H HE ∧ ∃ rs : List Addr, HE D = some (.lst (rs.map V.ref)) ∧ Obs (MvA K) HE rs (movesFrom 0 (ks.take i) ++ (ts.take j).map fun t => (i, t))) ⟨S1, rs, gT _ _ hD, ?_⟩ (fun j HF _ h => sqT_same h.1 t1) (fun j v HF HF' hj ⟨sF, qs, hF, hqs⟩ hY => ?_) (fun HF ⟨sF, qs, hF, hqs⟩ => ⟨sF, qs, hF, ?_⟩)
      · rw [List.take_zero, List.map_nil, List.append_nil]
        exact hrs.tk mvA_stays (Tk.same gT)
      · obtain ⟨rfl, hv⟩ := hY
        rw [List.length_map, t2.1] at hj
        obtain ⟨t, ht⟩ : ∃ t, ts[j]? = some t := ⟨ts[j], List.getElem?_eq_getElem hj⟩
        obtain ⟨pt, ept, pc, c1, c2⟩ := t2.get ht
        rw [List.getElem?_map, ept] at hv
        cases Option.some.inj hv
        refine ⟨rfl, ?_⟩
        refine tYes_go (iteT ?_)
        refine ⟨_, rfl, _, rfl, pt, _, rfl, .inl (sqT_same sF c1), by show 4 ≤ sizeLine; decide, fun b nb => ?_⟩
        have gb := same_new (o := HO.tup [.int (0 + ((i : Nat) : Int)), .int ((t.1 : Nat) : Int), .int ((t.2.1 : Nat) : Int), .ref pc]) nb
        have hql := hqs.1
        rw [List.length_append, List.length_map, List.length_take] at hql
        refine ⟨_, gb _ _ hF, by rw [List.length_map]; exact small1000 (by omega), ?_, qs ++ [b], ?_, ?_⟩
        · intro b2 o hb2
          rw [upd_ne (ne_of_none hb2 nD)]
          exact (sF.trans gb) _ _ hb2
        · rw [upd_same, List.map_append]
          rfl
        · rw [List.take_add_one, ht, List.map_append, ← List.append_assoc]
          refine ((hqs.tk mvA_stays (Tk.same gb)).append (Obs.one ?_)).tk mvA_stays (tk_lst (gb _ _ hF))
          refine ⟨pc, ?_, (c2.tk (Tk.same sF)).tk (Tk.same gb)⟩
          exact SqT.of (upd_same.trans (by show some (HO.tup [.int (0 + ((i : Nat) : Int)), .int ((t.1 : Nat) : Int), .int ((t.2.1 : Nat) : Int), .ref pc]) = _; rw [Int.zero_add]))
      · rw [moves_take hts]
        rw [List.length_map, t2.1, List.take_of_length_le (Nat.le_refl _)] at hqs
        exact hqs
    rw [List.length_map, hrk, List.take_of_length_le (Nat.le_refl _)] at hrs
    generalize hmv : movesFrom 0 ks = mv at *
    have hrl := hrs.1
    refine ⟨_, rfl, ml, rfl, ⟨_, SqL.of hml⟩, ?_⟩
    refine lc_mkW (K := K) (walk_list (K := K) (a := ml) (xs := rs.map V.ref)) (chM mv) (by rw [List.length_map, hrl]; have := M.len; omega) (fun HE sE => SqL.of (sE _ _ hml)) (fun i v HE HE' R hi sE hY qr => ?_) (fun cl H2 s2 hcl => ?_)
    · obtain ⟨rfl, hv⟩ := hY
      rw [List.length_map, hrl] at hi
      obtain ⟨y, hy⟩ : ∃ y, mv[i]? = some y := ⟨mv[i], List.getElem?_eq_getElem hi⟩
      obtain ⟨pm, epm, pc, c1, c2⟩ := hrs.get hy
      rw [List.getElem?_map, epm] at hv
      cases Option.some.inj hv
      refine ⟨rfl, _, rfl, pm, _, _, _, rfl, rfl, sqT_same sE c1, at_of (j := 3) rfl rfl, qr pc _ (Same.refl _) ?_⟩
      have e : rdq (chM mv i) = y.2.2.2 := by
        unfold chM
        rw [hy]
        exact (is_rdq (M.red y (List.mem_of_getElem? hy)) rfl).symm
      rw [e]
      exact c2.tk (Tk.same sE)
    rw [List.length_map, hrl] at hcl
    refine tnil_go ?_
    have hml2 := s2 _ _ hml
    refine oob_go (K := K) (s := 32) (k := 0) hcl M.pos M.sm (fun j hj => ?_) (by have := M.len; omega) (by decide) (by decide) fun z1 zt c T H3 s3 hz1 hzt c0 cD sc tv ts => ?_
    · unfold chM
      rw [List.getElem?_eq_getElem hj]
      exact M.sz _ (List.getElem_mem hj)
    refine ⟨z1, _, rfl, SqT.of hz1, rfl, _, _, rfl, _, _, rfl, rfl, ?_⟩
    -- powers, rows
    refine ⟨by show 1 ≤ sizeLine; decide, fun pw npw => ?_⟩
    have g4 := same_new (o := HO.lst [.int 1]) npw
    have hpw : IntL (upd H3 pw (HO.lst [.int 1])) pw 1 (fun k => c ^ k) := by
      unfold IntL
      rw [upd_same]
      show some (HO.lst [.int 1]) = some (HO.lst [.int (c ^ 0)])
      rw [Int.pow_zero]
    have S4 := s2.trans (s3.trans g4)
    have hzt4 := g4 _ _ hzt
    generalize upd H3 pw (HO.lst [.int 1]) = H4 at *
    have k4 := sqT_same (s1.trans S4) k1
    refine ⟨_, rfl, p, _, rfl, .inr k4, ?_⟩
    have elk : (((rk.map V.ref).length : Nat) : Int) = ((ks.length : Nat) : Int) := by rw [List.length_map, hrk]
    refine ⟨_, rfl, by omega, by omega, ?_⟩
    have hfs : (((rk.map V.ref).length : Nat) : Int).toNat = ks.length := by omega
    let mvi := mv.zip (mkI mv.length T)
    have hmi : ∀ i y, mv[i]? = some y → mvi[i]? = some (y, T i) := fun i y hy => by
      have hi := (List.getElem?_eq_some_iff.mp hy).1
      show (mv.zip (mkI mv.length T))[i]? = _
      rw [List.getElem?_zip_eq_some]
      exact ⟨hy, mkI_at hi⟩
    have hml3 : mvi.length = mv.length := by
      show (mv.zip (mkI mv.length T)).length = _
      rw [List.length_zip, mkI_len, Nat.min_self]
    have hmm : mvi.map (·.1) = mv := by
      show (mv.zip (mkI mv.length T)).map Prod.fst = mv
      rw [List.map_fst_zip]
      rw [mkI_len]
      exact Nat.le_refl _
    have hmem : ∀ x ∈ mvi, ∃ i y, mv[i]? = some y ∧ x = (y, T i) := fun x hx => by
      obtain ⟨i, hi⟩ := List.mem_iff_getElem?.mp hx
      have hi2 := (List.getElem?_eq_some_iff.mp hi).1
      rw [hml3] at hi2
      have e := hmi i mv[i] (List.getElem?_eq_getElem hi2)
      rw [hi] at e
      exact ⟨i, mv[i], List.getElem?_eq_getElem hi2, Option.some.inj e⟩
    have hsmx : ∀ x ∈ mvi, Sm 66 x.2 ∧ 1 ≤ x.1.2.1 := fun x hx => by
      obtain ⟨i, y, hy, rfl⟩ := hmem x hx
      exact ⟨(ts i (List.getElem?_eq_some_iff.mp hy).1).mono (by decide), M.st y (List.mem_of_getElem? hy)⟩
    have hvx : ∀ x ∈ mvi, ((x.2 : Int) : Rat) = (c : Rat) * qv x.1.2.2.2 ∧ 1 ≤ x.1.2.1 := fun x hx => by
      obtain ⟨i, y, hy, rfl⟩ := hmem x hx
      refine ⟨?_, M.st y (List.mem_of_getElem? hy)⟩
      have e := tv i (List.getElem?_eq_some_iff.mp hy).1
      unfold chM at e
      rw [hy] at e
      exact e
    have sc60 : Sm 60 c := sc.mono (by decide)
    have PS := pr_sm (first := first) (shut := shut) hsmx sc60 (by rw [hml3]; exact M.len)
    have PV := pr_val (first := first) (shut := shut) hvx
    rw [hmm] at PV
    generalize hmvi : mvi = mw at *
    refine lc_intN (n := (((rk.map V.ref).length : Nat) : Int).toNat) (prI mw c first shut 0) (by omega) (fun k HE R hk sE qr => ?_) (fun r0 H5 nr0 s5 hr0 => ?_)
    · refine ⟨rfl, _, rfl, _, rfl, rfl, _, rfl, ite2 (fun c1 => ?_) (fun c1 => ?_)⟩
      · have := qr HE (Same.refl _)
        rw [prI_zero, if_pos] at this
        · exact this
        · have z := of_decide_eq_true c1
          injection z with z
          omega
      · have := qr HE (Same.refl _)
        rw [prI_zero, if_neg] at this
        · exact this
        · intro z
          apply c1
          apply decide_eq_true
          rw [z, Int.zero_add]
    rw [hfs] at hr0
    refine tnil_go ?_
    refine ⟨by show 1 ≤ sizeLine; decide, fun ro nro => ?_⟩
    have g6 := same_new (o := HO.lst [.ref r0]) nro
    have hro := upd_same (H := H5) (a := ro) (o := HO.lst [.ref r0])
    have hr6 := g6 _ _ hr0
    have hpw6 := g6 _ _ (s5 _ _ hpw)
    have nrr : r0 ≠ ro := ne_of_none hr0 nro
    have npr : pw ≠ ro := ne_of_none (s5 _ _ hpw) nro
    have S6 := S4.trans (s5.trans g6)
    generalize upd H5 ro (HO.lst [.ref r0]) = H6 at *
    have nrp : r0 ≠ pw := fun z => by
      rw [z, hpw] at nr0
      cases nr0
    have n3pw : H3 pw = none := npw
    have n3ro : H3 ro = none := (g4.trans s5).free nro
    have hsv : ∀ k, k ≤ 21 → Sm 1300 (c ^ k) := fun k hk => (sm_pow sc60 (by decide) k).mono (by omega)
    have hml6 := (s3.trans (g4.trans (s5.trans g6))) _ _ hml2
    refine ⟨_, rfl, _, _, rfl, rfl, 1, _, rfl, ⟨by decide, by decide, by show -(2 ^ 62) ≤ ((most : Nat) : Int) + 1; omega, by show ((most : Nat) : Int) + 1 < 2 ^ 62; omega⟩, ?_⟩
    refine for_range (lo := 1) (n := ((most : Int) + 1 - 1).toNat) (fun i σ HB => ∃ (z9 z10 z11 z12 z13 z14 z15 z16 : Option V) (fs : List Addr), σ = [some (.ref p), some (.int ((first : Nat) : Int)), some (.int ((most : Nat) : Int)), some (shutV shut), some (.ref ml), some (.ref zt), some (.int c), some (.ref pw), some (.ref ro), z9, z10, z11, z12, z13, z14, z15, z16, none, none, none, none, none] ∧ Same H3 HB ∧ IntL HB pw (i + 1) (fun k => c ^ k) ∧ HB ro = some (.lst (fs.map V.ref)) ∧ fs.length = i + 1 ∧ ∀ j r, fs[j]? = some r → r ≠ pw ∧ r ≠ ro ∧ IntL HB r ks.length (prI mw c first shut j))
      ⟨none, none, none, none, none, none, none, none, [r0], rfl, g4.trans (s5.trans g6), hpw6, hro, rfl, fun j r hj => ?_⟩ ?_ ?_
    · match j, hj with
      | 0, hj =>
        cases Option.some.inj hj
        exact ⟨nrp, nrr, hr6⟩
    · rintro i σ HB hi ⟨z9, z10, z11, z12, z13, z14, z15, z16, fs, rfl, sB, hpB, hrB, hfl, hfx⟩
      have hi20 : i < 20 := by omega
      refine ⟨by show 1 ≤ sizeLine; decide, fun b1 mb => ?_⟩
      have g7 := same_new (o := HO.lst [.int 0]) mb
      refine ⟨_, rfl, p, _, rfl, .inr (sqT_same ((s1.trans (s2.trans (s3.trans sB))).trans g7) k1), ?_⟩
      refine ⟨b1, _, _, rfl, rfl, upd_same, by omega, by omega, ?_, fun rw nrw => ?_⟩
      · rw [hfs]
        show 1 * ks.length ≤ sizeLine
        exact Nat.le_trans (show 1 * ks.length ≤ 1000 by omega) (by decide)
      have ef : (List.replicate (((rk.map V.ref).length : Nat) : Int).toNat [V.int 0]).flatten = (mkI ks.length (acc mw c first shut i 0)).map V.int := by
        rw [flat_rep, hfs, mkI_congr (f := acc mw c first shut i 0) (g := fun _ => 0) (fun j _ => rfl), mkI_rep, List.map_replicate]
      rw [ef] at *
      have g8 := same_new (o := HO.lst ((mkI ks.length (acc mw c first shut i 0)).map V.int)) nrw
      have G8 := g7.trans g8
      have nrB : HB rw = none := g7.free nrw
      have hrw0 : IntL (upd (upd HB b1 (HO.lst [.int 0])) rw (HO.lst ((mkI ks.length (acc mw c first shut i 0)).map V.int))) rw ks.length (acc mw c first shut i 0) := upd_same
      generalize upd (upd HB b1 (HO.lst [.int 0])) rw (HO.lst ((mkI ks.length (acc mw c first shut i 0)).map V.int)) = HC0 at *
      have hmlB := sB _ _ (s3 _ _ hml2)
      have hztB := sB _ _ hzt
      refine ⟨_, rfl, _, rfl, ml, zt, _, _, rfl, SqL.of (G8 _ _ hmlB), SqL.of (G8 _ _ hztB), ?_⟩
      refine for_it (walk_zip (K := K) (a := ml) (b := zt) (xs := rs.map V.ref) (ys := (mkI mv.length T).map V.int) (n := mv.length) (by rw [List.length_map, List.length_map, mkI_len, hrl, Nat.min_self])) (fun k σ HC => ∃ (z11 z12 z13 z14 z15 z16 : Option V), σ = [some (.ref p), some (.int ((first : Nat) : Int)), some (.int ((most : Nat) : Int)), some (shutV shut), some (.ref ml), some (.ref zt), some (.int c), some (.ref pw), some (.ref ro), some (.int (1 + ((i : Nat) : Int))), some (.ref rw), z11, z12, z13, z14, z15, z16, none, none, none, none, none] ∧ Same HB HC ∧ IntL HC rw ks.length (acc mw c first shut i k))
        ⟨z11, z12, z13, z14, z15, z16, rfl, G8, hrw0⟩ ?_ ?_ ?_
      · rintro k σ HC _ ⟨_, _, _, _, _, _, rfl, sC, _⟩
        exact ⟨SqL.of (sC _ _ hmlB), SqL.of (sC _ _ hztB)⟩
      · rintro k v σ HC HC' hk ⟨z11, z12, z13, z14, z15, z16, rfl, sC, hC⟩ ⟨T2, y1, y2, rfl, nT2, rfl, ex1, ex2⟩
        dsimp only at ex1 ex2
        obtain ⟨y, hy⟩ : ∃ y, mv[k]? = some y := ⟨mv[k], List.getElem?_eq_getElem hk⟩
        obtain ⟨pm, epm, pc, c1, c2⟩ := hrs.get hy
        rw [List.getElem?_map, epm] at ex1
        cases Option.some.inj ex1
        rw [List.getElem?_map, mkI_at hk] at ex2
        cases Option.some.inj ex2
        have gT2 := same_new (o := HO.tup [.ref pm, .int (T k)]) nT2
        have hC2 := gT2 _ _ hC
        have sC2 := sC.trans gT2
        have c1' := sqT_same (s2.trans (s3.trans (sB.trans sC2))) c1
        have hT2 : SqT K (upd HC T2 (HO.tup [.ref pm, .int (T k)])) T2 [.ref pm, .int (T k)] := SqT.of upd_same
        generalize upd HC T2 (HO.tup [.ref pm, .int (T k)]) = HD at *
        refine ⟨T2, _, rfl, hT2, rfl, _, _, rfl, pm, _, rfl, c1', rfl, _, _, rfl, _, _, rfl, _, _, rfl, _, _, rfl, rfl, _, _, rfl, rfl, ?_⟩
        refine ⟨_, rfl, _, rfl, _, _, rfl, rfl, ?_⟩
        have hyk := M.kd y (List.mem_of_getElem? hy)
        have hst := M.st y (List.mem_of_getElem? hy)
        have hmk := hmi k y hy
        refine put_test (kind := y.1) (shut := shut) rfl rfl rfl ?_
        refine ite2 (fun cd => ?_) (fun cd => ?_)
        · have cd2 := of_decide_eq_true cd
          have hsi : y.2.1 ≤ i + 1 := by omega
          have hsd : y.2.1 = i + 1 ∨ shut ≠ some y.1 := by
            rcases cd2 with z | z
            · exact .inl (by omega)
            · exact .inr z.2
          obtain ⟨rj, hrj⟩ : ∃ rj, fs[i - (y.2.1 - 1)]? = some rj := ⟨fs[i - (y.2.1 - 1)]'(by omega), List.getElem?_eq_getElem (by omega)⟩
          obtain ⟨nj1, nj2, hj3⟩ := hfx _ _ hrj
          refine ⟨_, rfl, _, rfl, ?_⟩
          refine ⟨rw, _, _, _, rfl, rfl, SqL.of hC2, by show (0 : Int) ≤ ((y.2.2.1 : Nat) : Int); omega, at_of (j := y.2.2.1) rfl (by rw [List.getElem?_map, mkI_at hyk.2]; rfl), ?_⟩
          refine ⟨_, rfl, _, rfl, ro, _, _, _, rfl, rfl, SqL.of (sC2 _ _ hrB), at_of (j := i - (y.2.1 - 1)) (by show 1 + ((i : Nat) : Int) - ((y.2.1 : Nat) : Int) = _; omega) (by rw [List.getElem?_map, hrj]; rfl), ?_⟩
          refine ⟨_, rfl, ?_⟩
          refine ixI_go (m := y.1) (sC2 _ _ hj3) rfl hyk.1 ?_
          refine ⟨_, rfl, _, _, rfl, rfl, (PS (i - (y.2.1 - 1)) y.1).cmul (ts k hk) (by omega) (by decide) (by omega), ?_⟩
          refine ⟨_, rfl, _, rfl, _, _, rfl, rfl, ?_⟩
          refine ixI_go (m := y.2.1 - 1) (sC2 _ _ hpB) (by show ((y.2.1 : Nat) : Int) - 1 = _; omega) (by omega) ?_
          refine ⟨_, _, rfl, rfl, ((PS (i - (y.2.1 - 1)) y.1).mul (ts k hk)).cmul (hsv (y.2.1 - 1) (by omega)) (by omega) (by decide) (by omega), ?_⟩
          refine ⟨_, _, rfl, rfl, ?_⟩
          refine ⟨rw, _, _, y.2.2.1, rfl, rfl, hC2, ?_, ?_⟩
          · show ixN ((mkI ks.length (acc mw c first shut i k)).map V.int).length ((y.2.2.1 : Nat) : Int) = some y.2.2.1
            unfold ixN
            rw [List.length_map, mkI_len, if_pos (by omega), if_pos (by omega)]
            congr 1
          · refine ⟨_, _, _, _, _, _, rfl, ?_, ?_⟩
            · intro b2 o hb2
              rw [upd_ne (ne_of_none hb2 nrB)]
              exact sC2 _ _ hb2
            · unfold IntL
              rw [upd_same, ← List.map_set, mkI_set]
              congr 3
              refine mkI_congr fun j hj => ?_
              rw [acc_step hmk]
              by_cases z : j = y.2.2.1
              · rw [if_pos z, if_pos (show cnd shut (i + 1) (y, T k).1 j = true from decide_eq_true ⟨z.symm, hsi, hsd⟩), z]
              · rw [if_neg z, if_neg (fun x => z (of_decide_eq_true x).1.symm), Int.add_zero]
        · refine ⟨_, _, _, _, _, _, rfl, sC2, ?_⟩
          have e : mkI ks.length (acc mw c first shut i (k + 1)) = mkI ks.length (acc mw c first shut i k) := mkI_congr fun j _ => by
            rw [acc_step hmk, if_neg (fun x => ?_), Int.add_zero]
            obtain ⟨x1, x2, x3⟩ : y.2.2.1 = j ∧ y.2.1 ≤ i + 1 ∧ (y.2.1 = i + 1 ∨ shut ≠ some y.1) := of_decide_eq_true x
            refine cd (decide_eq_true ?_)
            rcases x3 with x3 | x3
            · exact .inl (by omega)
            · by_cases z : y.2.1 = i + 1
              · exact .inl (by omega)
              · exact .inr ⟨by omega, x3⟩
          unfold IntL
          rw [e]
          exact hC2
      · rintro σ HC ⟨z11, z12, z13, z14, z15, z16, rfl, sC, hC⟩
        rw [← hml3] at hC
        have e : mkI ks.length (acc mw c first shut i mw.length) = mkI ks.length (prI mw c first shut (i + 1)) := mkI_congr fun j _ => acc_all
        unfold IntL at hC
        rw [e] at hC
        have hroC := sC _ _ hrB
        have npw2 : rw ≠ pw := fun z => by
          rw [z, hpB] at nrB
          cases nrB
        have nro2 : rw ≠ ro := fun z => by
          rw [z, hrB] at nrB
          cases nrB
        have hpC := sC _ _ hpB
        refine ⟨_, rfl, .inl ⟨rfl, _, SqL.of hroC⟩, _, rfl, ro, _, _, rfl, rfl, hroC, by rw [List.length_map]; exact small1000 (by omega), ?_⟩
        have hpE : upd HC ro (.lst (fs.map V.ref ++ [.ref rw])) pw = some (.lst ((mkI (i + 1) fun k => c ^ k).map V.int)) := by
          rw [upd_ne npr]
          exact hpC
        refine ⟨_, rfl, .inl ⟨rfl, _, SqL.of hpE⟩, ?_⟩
        have eat : atI ((mkI (i + 1) fun k => c ^ k).map V.int) (-1) = some (.int (c ^ i)) := by
          have e2 : ixN ((mkI (i + 1) fun k => c ^ k).map V.int).length (-1) = some i := by
            unfold ixN
            rw [List.length_map, mkI_len, if_neg (by omega), if_pos (by omega)]
            congr 1
            omega
          unfold atI
          rw [e2]
          show ((mkI (i + 1) fun k => c ^ k).map V.int)[i]? = _
          rw [List.getElem?_map, mkI_at (by omega)]
          rfl
        refine ⟨_, rfl, 1, rfl, pw, _, -1, _, rfl, rfl, SqL.of hpE, eat, ?_⟩
        refine ⟨_, rfl, _, _, rfl, rfl, (hsv i (by omega)).cmul sc60 (by decide) (by decide) (by decide), ?_⟩
        refine ⟨pw, _, _, rfl, rfl, hpE, by rw [List.length_map, mkI_len]; exact small1000 (by omega), ?_⟩
        refine ⟨_, _, _, _, _, _, _, _, fs ++ [rw], rfl, ?_, ?_, ?_, by rw [List.length_append, hfl]; rfl, fun j r hj => ?_⟩
        · intro b2 o hb2
          rw [upd_ne (ne_of_none hb2 n3pw), upd_ne (ne_of_none hb2 n3ro)]
          exact (sB.trans sC) _ _ hb2
        · unfold IntL
          rw [upd_same, mkI_succ (n := i + 1), List.map_append, Int.pow_succ]
          rfl
        · rw [upd_ne (Ne.symm npr), upd_same, List.map_append]
          rfl
        · rcases (by omega : j < fs.length ∨ j = fs.length ∨ fs.length < j) with z | z | z
          · rw [List.getElem?_append_left z] at hj
            obtain ⟨x1, x2, x3⟩ := hfx j r hj
            refine ⟨x1, x2, ?_⟩
            unfold IntL
            rw [upd_ne x1, upd_ne x2]
            exact sC _ _ x3
          · rw [z, List.getElem?_append_right (Nat.le_refl _), Nat.sub_self] at hj
            cases Option.some.inj hj
            refine ⟨npw2, nro2, ?_⟩
            unfold IntL
            rw [upd_ne npw2, upd_ne nro2, z, hfl]
            exact hC
          · rw [List.getElem?_append_right (by omega), List.getElem?_eq_none (by simp; omega)] at hj
            cases hj
    · rintro σ HB ⟨z9, z10, z11, z12, z13, z14, z15, z16, fs, rfl, sB, hpB, hrB, hfl, hfx⟩
      have em : ((most : Int) + 1 - 1).toNat = most := by omega
      rw [em] at hpB hfl
      refine ⟨_, rfl, _, rfl, ro, pw, _, _, rfl, SqL.of hrB, SqL.of hpB, ?_⟩
      refine lc_lsW (K := K) (walk_zip (K := K) (a := ro) (b := pw) (xs := fs.map V.ref) (ys := (mkI (most + 1) fun k => c ^ k).map V.int) (n := most + 1) (by rw [List.length_map, List.length_map, mkI_len, hfl, Nat.min_self])) ks.length (prQ mv first shut) (by omega) (fun HE sE => ⟨SqL.of (sE _ _ hrB), SqL.of (sE _ _ hpB)⟩) (fun k v HE HE' R hk sE hY qr => ?_) (fun D H2 gs sD hD hgl hgs => ?_)
      · obtain ⟨T2, y1, y2, rfl, nT2, rfl, ex1, ex2⟩ := hY
        dsimp only at ex1 ex2
        obtain ⟨rj, hrj⟩ : ∃ rj, fs[k]? = some rj := ⟨fs[k]'(by omega), List.getElem?_eq_getElem (by omega)⟩
        obtain ⟨nj1, nj2, hj3⟩ := hfx _ _ hrj
        rw [List.getElem?_map, hrj] at ex1
        cases Option.some.inj ex1
        rw [List.getElem?_map, mkI_at hk] at ex2
        cases Option.some.inj ex2
        have gT := same_new (o := HO.tup [.ref rj, .int (c ^ k)]) nT2
        refine ⟨T2, _, rfl, SqT.of upd_same, rfl, _, _, rfl, _, _, rfl, rfl, rfl, ?_⟩
        have hj4 := (sE.trans gT) _ _ hj3
        refine ⟨_, rfl, rj, rfl, ⟨_, SqL.of hj4⟩, ?_⟩
        refine lc_mkN (K := K) (walk_list (K := K) (a := rj) (xs := (mkI ks.length (prI mw c first shut k)).map V.int)) (prQ mv first shut k) (by rw [List.length_map, mkI_len]; omega) (fun HF sF => SqL.of (sF _ _ hj4)) (fun j v HF HF' R2 hj sF hY qr2 => ?_) (fun D2 HF nD2 sF hF => ?_)
        · obtain ⟨rfl, hv⟩ := hY
          rw [List.length_map, mkI_len] at hj
          rw [List.getElem?_map, mkI_at hj] at hv
          cases Option.some.inj hv
          refine ⟨rfl, _, rfl, _, rfl, ?_⟩
          refine tnil_go ?_
          exact rat_go (K := K) (Int.pow_pos c0) ((hsv k (by omega)).mono (m := 8000) (by decide)) (PV k j) qr2
        · rw [List.length_map, mkI_len] at hF
          exact qr D2 HF (gT.trans sF) (gT.free nD2) hF
      · exact q D H2 gs (s1.trans (s2.trans (s3.trans (sB.trans sD)))) hD hgl hgs
end

end Fp

set_option Elab.async false
set_option linter.all false
set_option maxRecDepth 100000
set_option maxHeartbeats 4000000
set_option exponentiation.threshold 10000
namespace Fp
open PySem PySem.Spec PyProof.Rows L2
/-! ### the told rows of kinds -/
def prRows (ks : List (List Tri)) (first most : Nat) : List (List RT) := (List.range (most + 1)).map fun i => mkL ks.length (prQ (movesFrom 0 ks) first none i)
@[reducible] def rTupOf (K : PySem.W.Frag) (xs : List V) (H : Hp) (Q : VK) : Prop := ∃ p ys, xs = [.ref p] ∧ ((SqL K H p ys ∧ ∀ l, H l = none → Q (.ref l) (upd H l (.tup ys))) ∨ (SqT K H p ys ∧ Q (.ref p) H))
section
variable {P : Program} {w : World} {K : PySem.W.Frag} {mg : Str → Option Value} {base : Heap} {aN aO : Addr}
theorem rowA_stays : Stays K (fun H p xs => RowAt K H p xs) := fun H H' p y e h => h.tk e
def spKp (K : PySem.W.Frag) : Sp := fun vs H Q _ => ∃ (p : Addr) (ks : List (List Tri)) (first most : Nat) (P : Int), vs = [.ref p, .int ((first : Nat) : Int), .int ((most : Nat) : Int)] ∧ KdsA K H p ks ∧ MvOk P ks.length (movesFrom 0 ks) ∧ ks.length ≤ 32 ∧ most ≤ 20 ∧
  ∀ z H' (rs : List Addr), Same H H' → SqT K H' z (rs.map V.ref) → Obs (fun H p xs => RowAt K H p xs) H' rs (prRows ks first most) → Q (.ref z) H'
end

end Fp

set_option Elab.async false
set_option linter.all false
set_option maxRecDepth 100000
set_option maxHeartbeats 4000000
set_option exponentiation.threshold 10000
namespace Fp
open PySem PySem.Spec PyProof.Rows L2
/-! ### bounded lives, by small weights -/
structure B6 (row : List RT) : Prop where
  len : row.length ≤ 6
  w : ∃ W : Int, 0 < W ∧ Sm 6 W ∧ ∀ y ∈ row, y.2 ∣ W
  q : ∀ x ∈ row, 0 ≤ qv x ∧ qv x ≤ 1
  sm : ∀ x ∈ row, SmR 10 x
theorem B6.br {row : List RT} (h : B6 row) : BR row := by
  obtain ⟨W, w1, w2, w3⟩ := h.w
  exact ⟨⟨W, w1, w2.mono (by decide), w3⟩, h.q, h.sm⟩
theorem sum_n6 : ∀ {us : List Int}, (∀ x ∈ us, 0 ≤ x ∧ x ≤ 6) → 0 ≤ us.sum ∧ us.sum ≤ 6 * (us.length : Int) ∧ ∀ x ∈ us, x ≤ us.sum
  | [], _ => ⟨by decide, by decide, fun x h => by simp at h⟩
  | x :: r, h => by
    obtain ⟨i1, i2, i3⟩ := sum_n6 fun y hy => h y (List.mem_cons_of_mem _ hy)
    have hx := h x (List.mem_cons_self ..)
    rw [List.sum_cons, List.length_cons]
    refine ⟨by omega, by omega, fun y hy => ?_⟩
    rcases List.mem_cons.mp hy with z | z
    · omega
    · have := i3 y z
      omega
theorem b6_of {us : List Int} {b : Int} (hu : ∀ x ∈ us, 0 ≤ x ∧ x ≤ b) (hb : 0 < b) (hb2 : b < 64) (hl : us.length ≤ 6) : B6 (mkL us.length fun i => ((getI us i : Int) : Rat) / (b : Rat)) := by
  have key : ∀ x ∈ mkL us.length (fun i => ((getI us i : Int) : Rat) / (b : Rat)), ∃ t : Int, 0 ≤ t ∧ t ≤ b ∧ x = low2 t b := fun x hx => by
    obtain ⟨j, hj, rfl⟩ := mem_mkL hx
    have hm : getI us j ∈ us := List.mem_of_getElem? (getI_at hj)
    exact ⟨getI us j, (hu _ hm).1, (hu _ hm).2, (is_rdq (low2_red (Int.ne_of_gt hb)) (qv_low2 hb)).symm⟩
  refine ⟨by rw [mkL_len]; exact hl, ⟨b, hb, by unfold Sm; omega, fun y hy => ?_⟩, fun x hx => ?_, fun x hx => ?_⟩
  · obtain ⟨t, _, _, rfl⟩ := key y hy
    exact (red_small (low2_red (Int.ne_of_gt hb)) hb (qv_low2 hb)).1
  · obtain ⟨t, h0, h1, rfl⟩ := key x hx
    rw [qv_low2 hb]
    exact div_01 h0 hb h1
  · obtain ⟨t, h0, h1, rfl⟩ := key x hx
    exact low2_sm hb (by unfold Sm; omega) (by unfold Sm; omega)
section
variable {P : Program} {w : World} {K : PySem.W.Frag} {mg : Str → Option Value} {base : Heap}
def spBd (K : PySem.W.Frag) : Sp := fun vs H Q _ => ∃ (d c : Addr) (t : Int) (b : Bool), vs = [.ref d, .int 6, .bl b] ∧ Feed H d c t ∧ t ≤ 800000 ∧
  ∀ p row t' H', Keep d H H' → Feed H' d c t' → t' ≤ t + 20 → B6 row → LifeAt K H' p row (0, 1) → Q (.ref p) H'
end

end Fp

set_option Elab.async false
set_option linter.all false
set_option maxRecDepth 100000
set_option maxHeartbeats 4000000
set_option exponentiation.threshold 10000
namespace Fp
open PySem PySem.Spec PyProof.Rows L2
/-! ### kinds that are drawn: the marks of one kind -/
abbrev Mk := (Int × Int) × Int
def mkE (e : Mk) : List L2.Key × V := ([.inl e.1.1, .inl e.1.2], .int e.2)
theorem mk_inj {e f : Mk} (h : (mkE e).1 = (mkE f).1) : e.1 = f.1 := by
  unfold mkE at h
  injection h with h1 h2
  injection h1 with h1
  injection h2 with h2 _
  injection h2 with h2
  exact Prod.ext h1 h2
theorem mk_put (ms : List Mk) (i j v : Int) : ∃ ns : List Mk, putK (ms.map mkE) [.inl i, .inl j] (.int v) = ns.map mkE ∧ (∀ e ∈ ns, e ∈ ms ∨ e = ((i, j), v)) ∧ ns.length ≤ ms.length + 1 ∧ ns ≠ [] := by
  unfold putK
  split
  · rename_i hany
    refine ⟨ms.map fun e => if e.1 = (i, j) then ((i, j), v) else e, ?_, fun e he => ?_, by rw [List.length_map]; omega, fun z => ?_⟩
    · rw [List.map_map, List.map_map]
      refine List.map_congr_left fun e _ => ?_
      show (if (mkE e).1 = [.inl i, .inl j] then ((mkE e).1, V.int v) else mkE e) = mkE (if e.1 = (i, j) then ((i, j), v) else e)
      by_cases z : e.1 = (i, j)
      · have z2 : (mkE e).1 = [.inl i, .inl j] := by
          unfold mkE
          rw [z]
        rw [if_pos z, if_pos z2, z2]
        rfl
      · have z2 : ¬ (mkE e).1 = [.inl i, .inl j] := fun u => z (mk_inj (f := ((i, j), v)) u)
        rw [if_neg z, if_neg z2]
    · obtain ⟨f, hf, rfl⟩ := List.mem_map.mp he
      split
      · exact .inr rfl
      · exact .inl hf
    · rw [List.map_eq_nil_iff.mp z] at hany
      cases hany
  · refine ⟨ms ++ [((i, j), v)], by rw [List.map_append]; rfl, fun e he => ?_, by rw [List.length_append]; exact Nat.le_refl _, by simp⟩
    rcases List.mem_append.mp he with z | z
    · exact .inl z
    · exact .inr (List.mem_singleton.mp z)
theorem mk_get {ms : List Mk} {e : Mk} (h : e ∈ ms) : ∃ v, valV (ms.map mkE) (mkE e).1 = some (.int v) ∧ (e.1, v) ∈ ms := by
  unfold valV
  induction ms with
  | nil => cases h
  | cons f r ih =>
    rw [List.map_cons]
    by_cases z : (mkE f).1 = (mkE e).1
    · rw [List.find?_cons_of_pos (by rw [decide_eq_true z])]
      refine ⟨f.2, rfl, ?_⟩
      rw [← mk_inj z]
      exact List.mem_cons_self ..
    · rw [List.find?_cons_of_neg (by rw [decide_eq_false z]; decide)]
      rcases List.mem_cons.mp h with u | u
      · exact absurd (by rw [u]) z
      · obtain ⟨v, h1, h2⟩ := ih u
        exact ⟨v, h1, List.mem_cons_of_mem _ h2⟩
structure MkOk (m : Nat) (ms : List Mk) : Prop where
  ok : ∀ e ∈ ms, (1 ≤ e.1.1 ∧ e.1.1 ≤ 6) ∧ (0 ≤ e.1.2 ∧ e.1.2 < (m : Int)) ∧ 1 ≤ e.2 ∧ e.2 ≤ 9
theorem mk_sum : ∀ {ms : List Mk}, (∀ e ∈ ms, 1 ≤ e.2 ∧ e.2 ≤ 9) → 0 ≤ (ms.map (·.2)).sum ∧ (ms.map (·.2)).sum ≤ 9 * (ms.length : Int) ∧ ∀ e ∈ ms, e.2 ≤ (ms.map (·.2)).sum
  | [], _ => ⟨by decide, by decide, fun e he => by cases he⟩
  | f :: r, h => by
    obtain ⟨i1, i2, i3⟩ := mk_sum (ms := r) fun e he => h e (List.mem_cons_of_mem _ he)
    have hf := h f (List.mem_cons_self ..)
    rw [List.map_cons, List.sum_cons, List.length_cons]
    refine ⟨by omega, by omega, fun e he => ?_⟩
    rcases List.mem_cons.mp he with z | z
    · rw [z]
      omega
    · have := i3 e z
      omega
theorem keys_mem {H : Hp} : ∀ {kvs : List (List L2.Key × V)} {bs : List Addr}, IsKeys H kvs bs → ∀ b ∈ bs, ∃ e ∈ kvs, H b = some (.tup (e.1.map kV))
  | _, _, .nil, b, hb => by cases hb
  | _, _, .cons (a := a) h t, b, hb => by
    rcases List.mem_cons.mp hb with z | z
    · rw [z]
      exact ⟨a, List.mem_cons_self .., h⟩
    · obtain ⟨e, h1, h2⟩ := keys_mem t b z
      exact ⟨e, List.mem_cons_of_mem _ h1, h2⟩
theorem keys_len {H : Hp} : ∀ {kvs : List (List L2.Key × V)} {bs : List Addr}, IsKeys H kvs bs → bs.length = kvs.length
  | _, _, .nil => rfl
  | _, _, .cons _ t => congrArg Nat.succ (keys_len t)
theorem tri_list {α β : Type} {Pd : α → β → Prop} : ∀ {ys : List α}, (∀ y ∈ ys, ∃ t, Pd y t) → ∃ f : List β, f.length = ys.length ∧ (∀ (i : Nat) (y : α), ys[i]? = some y → ∃ t, f[i]? = some t ∧ Pd y t) ∧ ∀ t ∈ f, ∃ y ∈ ys, Pd y t
  | [], _ => ⟨[], rfl, fun i y h => by simp at h, fun t h => by cases h⟩
  | y :: r, h => by
    obtain ⟨t, ht⟩ := h y (List.mem_cons_self ..)
    obtain ⟨f, h1, h2, h3⟩ := tri_list (ys := r) fun z hz => h z (List.mem_cons_of_mem _ hz)
    refine ⟨t :: f, by rw [List.length_cons, List.length_cons, h1], fun i z hz => ?_, fun u hu => ?_⟩
    · cases i with
      | zero =>
        cases Option.some.inj hz
        exact ⟨t, rfl, ht⟩
      | succ i => exact h2 i z hz
    · rcases List.mem_cons.mp hu with z | z
      · rw [z]
        exact ⟨y, List.mem_cons_self .., ht⟩
      · obtain ⟨v, hv, hp⟩ := h3 u z
        exact ⟨v, List.mem_cons_of_mem _ hv, hp⟩
/-- a kind as it is drawn -/
structure KdOk (m : Nat) (ts : List Tri) : Prop where
  len : ts.length ≤ 4
  tot : ∃ T : Int, 0 < T ∧ T ≤ 45 ∧ ∀ t ∈ ts, (1 ≤ t.1 ∧ t.1 ≤ 6) ∧ t.2.1 < m ∧ ∃ v : Int, 1 ≤ v ∧ v ≤ T ∧ t.2.2 = low2 v T
section
variable {P : Program} {w : World} {K : PySem.W.Frag} {mg : Str → Option Value} {base : Heap} {aN aO : Addr}
def spFw : Sp := fun vs H Q _ => ∃ (d c : Addr) (t way : Int) (k m : Nat), vs = [.ref d, .int way, .int (k : Int), .int (m : Int)] ∧ k < m ∧ m ≤ 4 ∧ Feed H d c t ∧ t ≤ 900000 ∧
  ∀ (j : Nat) t' H', j < m → Keep d H H' → Feed H' d c t' → t' ≤ t + 1 → Q (.int (j : Int)) H'
def spKi (K : PySem.W.Frag) : Sp := fun vs H Q _ => ∃ (d c : Addr) (t : Int) (m : Nat) (b : Bool), vs = [.ref d, .int (m : Int), .bl b] ∧ 1 ≤ m ∧ m ≤ 4 ∧ Feed H d c t ∧ t ≤ 800000 ∧
  ∀ z kinds t' H', Keep d H H' → Feed H' d c t' → t' ≤ t + 80 → KdsA K H' z kinds → kinds.length = m → (∀ ts ∈ kinds, KdOk m ts) → Q (.ref z) H'
end

end Fp

set_option Elab.async false
set_option linter.all false
set_option maxRecDepth 100000
set_option maxHeartbeats 4000000
set_option exponentiation.threshold 10000
namespace Fp
open PySem PySem.Spec PyProof.Rows L2
/-! ### lent kinds are behind one another -/
theorem sumTo_far {f : Nat → Rat} {a b : Nat} (h : ∀ k, a ≤ k → f k = 0) (hab : a ≤ b) : sumTo b f = sumTo a f := by
  obtain ⟨d, rfl⟩ : ∃ d, b = a + d := ⟨b - a, by omega⟩
  clear hab
  induction d with
  | zero => rfl
  | succ d ih =>
    rw [show a + (d + 1) = a + d + 1 by omega, sumTo_succ, ih, h (a + d) (by omega)]
    grind
theorem crossQ_conv {A B : Nat → Rat} {m n : Nat} (hA : ∀ k, m ≤ k → A k = 0) (hB : ∀ k, n ≤ k → B k = 0) (i : Nat) : crossQ A B m n i = sumTo (i + 1) fun k => A k * B (i - k) := by
  unfold crossQ
  have e1 := sumTo_far (f := fun k => if k ≤ i ∧ i < k + n then A k * B (i - k) else 0) (a := m) (b := m + (i + 1)) (fun k hk => by
    show (if k ≤ i ∧ i < k + n then A k * B (i - k) else 0) = 0
    split
    · rw [hA k hk]
      grind
    · rfl) (by omega)
  have e2 := sumTo_far (f := fun k => if k ≤ i ∧ i < k + n then A k * B (i - k) else 0) (a := i + 1) (b := m + (i + 1)) (fun k hk => if_neg (by omega)) (by omega)
  rw [← e1, e2]
  refine sumTo_congr fun k hk => ?_
  by_cases z : i < k + n
  · rw [if_pos ⟨by omega, z⟩]
  · rw [if_neg (fun x => z x.2), hB (i - k) (by omega)]
    grind
theorem conv3 {A B C p : Nat → Rat} (hC : ∀ i, C i = sumTo (i + 1) fun k => A k * B (i - k)) (n : Nat) : (sumTo n fun k => B k * sumTo (n - 1 - k) fun l => A l * p (n - 1 - k - 1 - l)) = sumTo n fun j => laterF C j * p (n - 1 - j) := by
  cases n with
  | zero => rfl
  | succ m =>
    rw [sumTo_head (n := m) (f := fun j => laterF C j * p (m + 1 - 1 - j)), sumTo_succ]
    have h1 : B m * (sumTo (m + 1 - 1 - m) fun l => A l * p (m + 1 - 1 - m - 1 - l)) = 0 := by
      rw [show m + 1 - 1 - m = 0 by omega, sumTo_zero]
      grind
    rw [h1, show laterF C 0 = 0 from rfl]
    have h2 : (sumTo m fun j => laterF C (j + 1) * p (m + 1 - 1 - (j + 1))) = sumTo m fun j => sumTo (j + 1) fun k => A k * B (j - k) * p (m - 1 - j) := sumTo_congr fun j _ => by
      show C j * p (m + 1 - 1 - (j + 1)) = _
      rw [hC j, show m + 1 - 1 - (j + 1) = m - 1 - j by omega]
      have e : (sumTo (j + 1) fun k => A k * B (j - k)) * p (m - 1 - j) = p (m - 1 - j) * sumTo (j + 1) fun k => A k * B (j - k) := by grind
      rw [e, sumTo_mul]
      exact sumTo_congr fun k _ => by grind
    rw [h2, tri_flip m (fun j k => A k * B (j - k) * p (m - 1 - j)), tri_swap (fun j k => A j * B (j + k - j) * p (m - 1 - (j + k))) m]
    have h3 : (sumTo m fun k => B k * sumTo (m + 1 - 1 - k) fun l => A l * p (m + 1 - 1 - k - 1 - l)) = sumTo m fun j => sumTo (m - j) fun k => A k * B (k + j - k) * p (m - 1 - (k + j)) := sumTo_congr fun k hk => by
      rw [sumTo_mul, show m + 1 - 1 - k = m - k by omega]
      refine sumTo_congr fun l hl => ?_
      rw [show l + k - l = k by omega, show m - k - 1 - l = m - 1 - (l + k) by omega]
      grind
    rw [h3]
    grind
theorem two_by_two {A B C r0 r1 : Nat → Rat} (hC : ∀ i, C i = sumTo (i + 1) fun k => A k * B (i - k)) (h0 : ∀ n, r0 n = oneAt n + sumTo n fun k => B k * r1 (n - 1 - k)) (h1 : ∀ n, r1 n = sumTo n fun k => A k * r0 (n - 1 - k)) (n : Nat) : r0 n = renQ (laterF C) oneAt n ∧ r1 n = renQ (laterF C) (laterF A) n := by
  have key : ∀ n, r0 n = renQ (laterF C) oneAt n := by
    intro n
    induction n using Nat.strongRecOn with
    | ind n ih =>
      rw [h0 n, renQ_is]
      congr 1
      have e : (sumTo n fun k => B k * r1 (n - 1 - k)) = sumTo n fun k => B k * sumTo (n - 1 - k) fun l => A l * r0 (n - 1 - k - 1 - l) := sumTo_congr fun k _ => by rw [h1]
      rw [e, conv3 hC]
      exact sumTo_congr fun j hj => by rw [ih (n - 1 - j) (by omega)]
  refine ⟨key n, ?_⟩
  rw [h1, conv_later]
  exact sumTo_congr fun k _ => by rw [key]
theorem sumL_app {α : Type} (f : α → Rat) (ys : List α) : ∀ xs : List α, ((xs ++ ys).map f).sum = (xs.map f).sum + (ys.map f).sum
  | [] => by
    show _ = (0 : Rat) + _
    rw [List.nil_append]
    grind
  | x :: r => by
    have ih := sumL_app f ys r
    show f x + ((r ++ ys).map f).sum = (f x + (r.map f).sum) + _
    rw [ih]
    grind
theorem zip_sum {g : RT → Nat → Rat} (hg : ∀ i, g (0, 1) i = 0) : ∀ (row : List RT) (o : Nat), (((row.zipIdx o).filter fun x => decide (x.1 ≠ (0, 1))).map fun x => g x.1 x.2).sum = sumTo row.length fun i => g (row[i]?.getD (0, 1)) (o + i)
  | [], o => rfl
  | x :: r, o => by
    have ih := zip_sum hg r (o + 1)
    rw [List.length_cons, sumTo_head, List.zipIdx_cons]
    have e : (sumTo r.length fun j => g ((x :: r)[j + 1]?.getD (0, 1)) (o + (j + 1))) = sumTo r.length fun i => g (r[i]?.getD (0, 1)) (o + 1 + i) := sumTo_congr fun j _ => by
      rw [List.getElem?_cons_succ, show o + (j + 1) = o + 1 + j by omega]
    rw [e, ← ih]
    show _ = g x (o + 0) + _
    by_cases z : x = (0, 1)
    · rw [List.filter_cons_of_neg (by
        show ¬ decide (x ≠ (0, 1)) = true
        simp [z]), z, hg]
      grind
    · rw [List.filter_cons_of_pos (by
        show decide (x ≠ (0, 1)) = true
        simp [z])]
      rfl
theorem fol_sum {row : List RT} {f k n j : Nat} {h : Nat → Nat → Rat} : (((folL row f).map fun t => ((k, t) : Mv)).map fun m => if cnd none (n + 1) m j = true then qv m.2.2.2 * h (n - (m.2.1 - 1)) m.1 else 0).sum = if f = j then sumTo (n + 1) fun i => chR row (0, 1) i * h (n - i) k else 0 := by
  unfold folL
  rw [List.map_map, List.map_map]
  by_cases z : f = j
  · rw [if_pos z]
    have e : (((row.zipIdx.filter fun x => decide (x.1 ≠ (0, 1))).map ((fun m : Mv => if cnd none (n + 1) m j = true then qv m.2.2.2 * h (n - (m.2.1 - 1)) m.1 else 0) ∘ (fun t => ((k, t) : Mv)) ∘ fun x => (x.2 + 1, f, x.1))).sum) = (((row.zipIdx 0).filter fun x => decide (x.1 ≠ (0, 1))).map fun x => if x.2 < n + 1 then qv x.1 * h (n - x.2) k else 0).sum := by
      congr 1
      refine List.map_congr_left fun x _ => ?_
      show (if cnd none (n + 1) (k, x.2 + 1, f, x.1) j = true then qv x.1 * h (n - (x.2 + 1 - 1)) k else 0) = _
      by_cases y : x.2 < n + 1
      · rw [if_pos (show cnd none (n + 1) (k, x.2 + 1, f, x.1) j = true from decide_eq_true ⟨z, by show x.2 + 1 ≤ n + 1; omega, .inr (fun q => by cases q)⟩), if_pos y, Nat.add_sub_cancel]
      · rw [if_neg (fun q => y (by
          have := (of_decide_eq_true q).2.1
          have : x.2 + 1 ≤ n + 1 := this
          omega)), if_neg y]
    refine Eq.trans e ?_
    rw [zip_sum (g := fun x i => if i < n + 1 then qv x * h (n - i) k else 0) (fun i => by
      show (if i < n + 1 then qv (0, 1) * h (n - i) k else 0) = 0
      rw [qv_nought]
      split <;> grind)]
    have hz : ∀ i, row.length ≤ i → (if i < n + 1 then chR row (0, 1) i * h (n - i) k else 0) = 0 := fun i hi => by
      rw [chR_far0' hi]
      split <;> grind
    have e1 : (sumTo row.length fun i => if 0 + i < n + 1 then qv (row[i]?.getD (0, 1)) * h (n - (0 + i)) k else 0) = sumTo row.length fun i => if i < n + 1 then chR row (0, 1) i * h (n - i) k else 0 := sumTo_congr fun i hi => by
      rw [Nat.zero_add, List.getElem?_eq_getElem hi, chR_in (List.getElem?_eq_getElem hi)]
      rfl
    rw [e1, ← sumTo_far hz (show row.length ≤ row.length + (n + 1) by omega), sumTo_far (a := n + 1) (fun i hi => if_neg (by omega)) (show n + 1 ≤ row.length + (n + 1) by omega)]
    exact sumTo_congr fun i hi => if_pos hi
  · rw [if_neg z]
    have e : ∀ xs : List (RT × Nat), (xs.map ((fun m : Mv => if cnd none (n + 1) m j = true then qv m.2.2.2 * h (n - (m.2.1 - 1)) m.1 else 0) ∘ (fun t => ((k, t) : Mv)) ∘ fun x => (x.2 + 1, f, x.1))).sum = 0 := by
      intro xs
      induction xs with
      | nil => rfl
      | cons x r ih =>
        show (if cnd none (n + 1) (k, x.2 + 1, f, x.1) j = true then qv x.1 * h (n - (x.2 + 1 - 1)) k else 0) + _ = 0
        rw [if_neg (fun q => z (of_decide_eq_true q).1)]
        have ih2 : (List.foldr (fun x1 x2 => x1 + x2) 0 (List.map ((fun m : Mv => if cnd none (n + 1) m j = true then qv m.2.2.2 * h (n - (m.2.1 - 1)) m.1 else 0) ∘ (fun t => ((k, t) : Mv)) ∘ fun x => (x.2 + 1, f, x.1)) r)) = 0 := ih
        grind
    exact e _
theorem lent_step {X Y : List RT} {first n j : Nat} : prQ (movesFrom 0 [folL X 1, folL Y 0]) first none (n + 1) j = (if 1 = j then sumTo (n + 1) fun i => chR X (0, 1) i * prQ (movesFrom 0 [folL X 1, folL Y 0]) first none (n - i) 0 else 0) + if 0 = j then sumTo (n + 1) fun i => chR Y (0, 1) i * prQ (movesFrom 0 [folL X 1, folL Y 0]) first none (n - i) 1 else 0 := by
  rw [prQ_succ]
  have e : movesFrom 0 [folL X 1, folL Y 0] = ((folL X 1).map fun t => ((0, t) : Mv)) ++ ((folL Y 0).map fun t => ((1, t) : Mv)) := by
    show ((folL X 1).map fun t => ((0, t) : Mv)) ++ (((folL Y 0).map fun t => ((1, t) : Mv)) ++ []) = _
    rw [List.append_nil]
  generalize hm : movesFrom 0 [folL X 1, folL Y 0] = mv at *
  generalize hp : prQ mv first none = p at *
  rw [e, sumL_app, fol_sum, fol_sum]

end Fp

set_option Elab.async false
set_option linter.all false
set_option maxRecDepth 100000
set_option maxHeartbeats 4000000
set_option exponentiation.threshold 10000
namespace Fp
open PySem PySem.Spec PyProof.Rows L2
/-! ### chances of a trimmed row -/
theorem trimZ_get : ∀ {n : Nat} {xs : List RT}, xs.length = n → ∀ i : Nat, ((trimZ xs)[i]?).getD (0, 1) = (xs[i]?).getD (0, 1) := by
  intro n
  induction n with
  | zero =>
    intro xs h i
    rw [List.length_eq_zero_iff.mp h]
    rfl
  | succ n ih =>
    intro xs h i
    have hne : xs ≠ [] := fun z => by rw [z] at h; cases h
    have e := List.dropLast_concat_getLast hne
    generalize xs.dropLast = ys at e
    generalize xs.getLast hne = y at e
    subst e
    rw [List.length_append] at h
    have hy : ys.length = n := by
      have : [y].length = 1 := rfl
      omega
    by_cases z : y = (0, 1)
    · rw [z, trimZ_nought, ih hy i]
      rcases (by omega : i < ys.length ∨ i = ys.length ∨ ys.length < i) with q | q | q
      · rw [List.getElem?_append_left q]
      · rw [q, List.getElem?_append_right (Nat.le_refl _), Nat.sub_self, List.getElem?_eq_none (Nat.le_refl _)]
        rfl
      · rw [List.getElem?_eq_none (by omega), List.getElem?_eq_none (by rw [List.length_append]; show ys.length + 1 ≤ i; omega)]
    · rw [trimZ_stop _ z]
theorem chR_get (row : List RT) (i : Nat) : chR row (0, 1) i = qv ((row[i]?).getD (0, 1)) := by
  rcases (by omega : i < row.length ∨ row.length ≤ i) with z | z
  · rw [List.getElem?_eq_getElem z, chR_in (List.getElem?_eq_getElem z)]
    rfl
  · rw [List.getElem?_eq_none z, chR_far0' z]
    exact qv_nought.symm
theorem chR_trim {f : Nat → Rat} {m : Nat} (h : ∀ i, m ≤ i → f i = 0) (i : Nat) : chR (trimZ (mkL m f)) (0, 1) i = f i := by
  rw [chR_get, trimZ_get rfl]
  rcases (by omega : i < m ∨ m ≤ i) with z | z
  · rw [mkL_at z]
    exact qv_rdq _
  · rw [List.getElem?_eq_none (by rw [mkL_len]; exact z), h i z]
    exact qv_nought

end Fp

set_option Elab.async false
set_option linter.all false
set_option maxRecDepth 100000
set_option maxHeartbeats 4000000
set_option exponentiation.threshold 10000
namespace Fp
open PySem PySem.Spec PyProof.Rows L2
/-! ### coming to a kind for the first time -/
theorem sumTo_end {f : Nat → Rat} {n m : Nat} (h : ∀ k, n ≤ k → f k = 0) (hm : n ≤ m) : sumTo m f = sumTo n f := by
  obtain ⟨d, rfl⟩ : ∃ d, m = n + d := ⟨m - n, by omega⟩
  induction d with
  | zero => rfl
  | succ d ih =>
    rw [← Nat.add_assoc, sumTo_succ, ih (by omega), h (n + d) (by omega)]
    grind
theorem sumL_add {α : Type} (f g : α → Rat) : ∀ xs : List α, (xs.map f).sum + (xs.map g).sum = (xs.map fun x => f x + g x).sum
  | [] => by
    show (0 : Rat) + 0 = 0
    grind
  | x :: r => by
    show (f x + (r.map f).sum) + (g x + (r.map g).sum) = (f x + g x) + (r.map fun x => f x + g x).sum
    rw [← sumL_add f g r]
    grind
theorem sumL_swap {α : Type} (a : Nat → Rat) (g : Nat → α → Rat) (n : Nat) : ∀ xs : List α, (sumTo n fun k => a k * (xs.map (g k)).sum) = (xs.map fun y => sumTo n fun k => a k * g k y).sum
  | [] => by
    have : (sumTo n fun k => a k * (([] : List α).map (g k)).sum) = sumTo n fun _ => 0 := sumTo_congr fun k _ => by
      show a k * 0 = 0
      grind
    rw [this, sumTo_nought]
    rfl
  | x :: r => by
    have : (sumTo n fun k => a k * ((x :: r).map (g k)).sum) = sumTo n fun k => a k * g k x + a k * (r.map (g k)).sum := sumTo_congr fun k _ => by
      show a k * (g k x + (r.map (g k)).sum) = _
      grind
    rw [this, sumTo_add, sumL_swap a g n r]
    rfl
theorem passage {mv : List Mv} (hs : ∀ y ∈ mv, 1 ≤ y.2.1) (first o : Nat) (n : Nat) : ∀ j, prQ mv first none (n + 1) j = prQ mv first (some o) (n + 1) j + sumTo n fun k => prQ mv first (some o) (k + 1) o * prQ mv o none (n - k) j := by
  induction n using Nat.strongRecOn with
  | ind n ih =>
    intro j
    have eW : (sumTo n fun k => prQ mv first (some o) (k + 1) o * prQ mv o none (n - k) j) = (mv.map fun y => sumTo n fun k => prQ mv first (some o) (k + 1) o * (if cnd none (n - k) y j = true then qv y.2.2.2 * prQ mv o none (n - k - 1 - (y.2.1 - 1)) y.1 else 0)).sum := by
      rw [← sumL_swap]
      refine sumTo_congr fun k hk => ?_
      obtain ⟨q, hq⟩ : ∃ q, n - k = q + 1 := ⟨n - k - 1, by omega⟩
      rw [hq, prQ_succ (first := o) (shut := none)]
      rfl
    rw [prQ_succ, prQ_succ, eW, sumL_add]
    refine sumL_congr fun y hy => ?_
    have h1 := hs y hy
    by_cases c1 : y.2.2.1 = j ∧ y.2.1 ≤ n + 1
    · obtain ⟨cj, cs⟩ := c1
      have cn : cnd none (n + 1) y j = true := decide_eq_true ⟨cj, cs, .inr (by intro z; cases z)⟩
      rw [if_pos cn]
      rcases (by omega : y.2.1 = n + 1 ∨ y.2.1 ≤ n) with z | z
      · have cv : cnd (some o) (n + 1) y j = true := decide_eq_true ⟨cj, cs, .inl z⟩
        rw [if_pos cv, show n - (y.2.1 - 1) = 0 by omega, prQ_zero, prQ_zero]
        have e0 : (sumTo n fun k => prQ mv first (some o) (k + 1) o * (if cnd none (n - k) y j = true then qv y.2.2.2 * prQ mv o none (n - k - 1 - (y.2.1 - 1)) y.1 else 0)) = sumTo n fun _ => 0 := sumTo_congr fun k hk => by
          rw [if_neg fun u => by
            have := (of_decide_eq_true u).2.1
            omega]
          grind
        rw [e0, sumTo_nought]
        grind
      · obtain ⟨p, hp⟩ : ∃ p, n = p + y.2.1 := ⟨n - y.2.1, by omega⟩
        rw [show n - (y.2.1 - 1) = p + 1 by omega, ih p (by omega) y.1]
        have e1 : (sumTo n fun k => prQ mv first (some o) (k + 1) o * (if cnd none (n - k) y j = true then qv y.2.2.2 * prQ mv o none (n - k - 1 - (y.2.1 - 1)) y.1 else 0)) = sumTo (p + 1) fun k => prQ mv first (some o) (k + 1) o * (qv y.2.2.2 * prQ mv o none (p - k) y.1) := by
          rw [sumTo_end (n := p + 1) (fun k hk => ?_) (by omega)]
          · refine sumTo_congr fun k hk => ?_
            rw [if_pos (show cnd none (n - k) y j = true from decide_eq_true ⟨cj, by omega, .inr (by intro z; cases z)⟩), show n - k - 1 - (y.2.1 - 1) = p - k by omega]
          · rw [if_neg fun u => by
              have := (of_decide_eq_true u).2.1
              omega]
            grind
        rw [e1, sumTo_succ, Nat.sub_self, prQ_zero]
        have e2 : (sumTo p fun k => prQ mv first (some o) (k + 1) o * (qv y.2.2.2 * prQ mv o none (p - k) y.1)) = qv y.2.2.2 * sumTo p fun k => prQ mv first (some o) (k + 1) o * prQ mv o none (p - k) y.1 := by
          rw [sumTo_mul]
          exact sumTo_congr fun k _ => by grind
        rw [e2]
        by_cases ko : y.1 = o
        · have cv : ¬ cnd (some o) (n + 1) y j = true := fun u => by
            rcases (of_decide_eq_true u).2.2 with v | v
            · omega
            · exact v (by rw [ko])
          rw [if_neg cv, if_pos ko, ko]
          grind
        · have cv : cnd (some o) (n + 1) y j = true := decide_eq_true ⟨cj, cs, .inr fun u => ko (Option.some.inj u).symm⟩
          rw [if_pos cv, if_neg ko]
          grind
    · have cn : ¬ cnd none (n + 1) y j = true := fun u => c1 ⟨(of_decide_eq_true u).1, (of_decide_eq_true u).2.1⟩
      have cv : ¬ cnd (some o) (n + 1) y j = true := fun u => c1 ⟨(of_decide_eq_true u).1, (of_decide_eq_true u).2.1⟩
      have e0 : (sumTo n fun k => prQ mv first (some o) (k + 1) o * (if cnd none (n - k) y j = true then qv y.2.2.2 * prQ mv o none (n - k - 1 - (y.2.1 - 1)) y.1 else 0)) = sumTo n fun _ => 0 := sumTo_congr fun k hk => by
        rw [if_neg fun u => c1 ⟨(of_decide_eq_true u).1, by have := (of_decide_eq_true u).2.1; omega⟩]
        grind
      rw [if_neg cn, if_neg cv, e0, sumTo_nought]
      grind
/-- put there: by where it was first -/
theorem passage_at {mv : List Mv} (hs : ∀ y ∈ mv, 1 ≤ y.2.1) (first o n : Nat) : prQ mv first none (n + 1) o = sumTo (n + 1) fun k => prQ mv first (some o) (k + 1) o * prQ mv o none (n - k) o := by
  rw [passage hs first o n o, sumTo_succ, Nat.sub_self, prQ_zero, if_pos rfl]
  grind

end Fp

set_option Elab.async false
set_option linter.all false
set_option maxRecDepth 100000
set_option maxHeartbeats 4000000
set_option exponentiation.threshold 10000
namespace Fp
open PySem PySem.Spec PyProof.Rows L2
/-! ### one kind alone; sizes -/
theorem ren_uniq57 {a b r : Nat → Rat} (h : ∀ n, r n = b n + sumTo n fun j => a j * r (n - 1 - j)) : ∀ n, renQ a b n = r n := by
  intro n
  induction n using Nat.strongRecOn with
  | ind n ih =>
    rw [renQ_is, h n]
    congr 1
    exact sumTo_congr fun j hj => by rw [ih (n - 1 - j) (by omega)]
theorem one_at (n j : Nat) (g : Nat → Rat) : (sumTo n fun i => if i = j then g i else 0) = if j < n then g j else 0 := by
  induction n with
  | zero => rfl
  | succ n ih =>
    rw [sumTo_succ, ih]
    by_cases z : j < n
    · rw [if_pos z, if_neg (by omega), if_pos (by omega)]
      grind
    · rw [if_neg z]
      by_cases y : n = j
      · rw [if_pos y, if_pos (by omega), y]
        grind
      · rw [if_neg y, if_neg (by omega)]
        grind
def klQ (ts : List Tri) (k : Nat) : Rat := (ts.map fun t => if t.1 = k + 1 then qv t.2.2 else 0).sum
theorem fol_kl (row : List RT) (f k : Nat) : klQ (folL row f) k = chR row (0, 1) k := by
  unfold klQ folL
  rw [List.map_map]
  have e := zip_sum (g := fun x i => if i + 1 = k + 1 then qv x else 0) (fun i => by rw [qv_nought]; split <;> rfl) row 0
  have e2 : (sumTo row.length fun i => (if 0 + i + 1 = k + 1 then qv (row[i]?.getD (0, 1)) else 0)) = sumTo row.length fun i => if i = k then qv (row[i]?.getD (0, 1)) else 0 := sumTo_congr fun i _ => by
    by_cases z : i = k
    · rw [if_pos (by omega), if_pos z]
    · rw [if_neg (by omega), if_neg z]
  rw [e2, one_at] at e
  refine Eq.trans e ?_
  rcases (by omega : k < row.length ∨ row.length ≤ k) with z | z
  · rw [if_pos z, List.getElem?_eq_getElem z, chR_in (List.getElem?_eq_getElem z)]
    rfl
  · rw [if_neg (by omega), chR_far0' z]
theorem one_moves (ts : List Tri) : movesFrom 0 [ts] = ts.map fun t => ((0, t) : Mv) := by
  show ts.map (fun t => ((0, t) : Mv)) ++ [] = _
  rw [List.append_nil]
theorem alone_put (row : List RT) (n : Nat) : prQ (movesFrom 0 [folL row 0]) 0 none n 0 = putQ row (0, 1) n := by
  unfold putQ
  refine (ren_uniq57 (r := fun n => prQ (movesFrom 0 [folL row 0]) 0 none n 0) (fun n => ?_) n).symm
  cases n with
  | zero =>
    show prQ _ 0 none 0 0 = oneAt 0 + sumTo 0 _
    rw [prQ_zero, sumTo_zero]
    show (1 : Rat) = 1 + 0
    grind
  | succ n =>
    show prQ (movesFrom 0 [folL row 0]) 0 none (n + 1) 0 = oneAt (n + 1) + _
    rw [prQ_succ, show oneAt (n + 1) = 0 from if_neg (by omega)]
    generalize hp : prQ (movesFrom 0 [folL row 0]) 0 none = p
    rw [one_moves, fol_sum, if_pos rfl]
    show _ = (0 : Rat) + sumTo (n + 1) fun j => chR row (0, 1) j * p (n + 1 - 1 - j) 0
    rw [Nat.add_sub_cancel]
    grind
theorem alone_first (row : List RT) (n : Nat) : prQ (movesFrom 0 [folL row 0]) 0 (some 0) (n + 1) 0 = chR row (0, 1) n := by
  rw [prQ_succ, ← fol_kl row 0 n]
  unfold klQ
  generalize hp : prQ (movesFrom 0 [folL row 0]) 0 (some 0) = p
  have p0 : p 0 0 = 1 := by
    rw [← hp, prQ_zero]
    rfl
  rw [one_moves, List.map_map]
  refine sumL_congr fun t ht => ?_
  have hf : t.2.1 = 0 := by
    unfold folL at ht
    obtain ⟨x, _, rfl⟩ := List.mem_map.mp ht
    rfl
  show (if cnd (some 0) (n + 1) (0, t) 0 = true then qv t.2.2 * p (n - (t.1 - 1)) 0 else 0) = _
  by_cases z : t.1 = n + 1
  · rw [if_pos (show cnd (some 0) (n + 1) (0, t) 0 = true from decide_eq_true ⟨hf, by show t.1 ≤ n + 1; omega, .inl z⟩), if_pos z, show n - (t.1 - 1) = 0 by omega, p0]
    grind
  · rw [if_neg fun u => ?_, if_neg z]
    rcases (of_decide_eq_true u).2.2 with v | v
    · exact z v
    · exact v rfl
theorem Sz.sumL {α : Type} {P : Int} {k : Nat} {f : α → Rat} (hP : 0 < P) : ∀ {xs : List α}, (∀ x ∈ xs, Sz P k (f x)) → xs.length ≤ 128 → Sz P (k + 7) (xs.map f).sum := by
  intro xs h hl
  have e : (xs.map f).sum = sumTo xs.length fun i => ((xs[i]?).map f).getD 0 := by
    unfold sumTo
    congr 1
    refine List.ext_getElem (by rw [List.length_map, List.length_map, List.length_range]) fun i h1 h2 => ?_
    have hi : i < xs.length := by
      rw [List.length_map] at h1
      exact h1
    rw [List.getElem_map, List.getElem_map, List.getElem_range, List.getElem?_eq_getElem hi]
    rfl
  rw [e]
  refine Sz.sum hP (fun i hi => ?_) hl
  rw [List.getElem?_eq_getElem hi]
  exact h _ (List.getElem_mem hi)
theorem pow_dvd57 (P : Int) {a b : Nat} (h : a ≤ b) : P ^ a ∣ P ^ b := by
  refine ⟨P ^ (b - a), ?_⟩
  rw [← Int.pow_add, show a + (b - a) = b by omega]
theorem pr_sz {P : Int} {m : Nat} {mv : List Mv} (M : MvOk P m mv) (first : Nat) (shut : Option Nat) (n : Nat) : ∀ j, Sz (P ^ n) (7 * n) (prQ mv first shut n j) := by
  induction n using Nat.strongRecOn with
  | ind n ih =>
    intro j
    have hP : ∀ e : Nat, (0 : Int) < P ^ e := fun e => Int.pow_pos M.pos
    cases n with
    | zero =>
      rw [prQ_zero]
      split
      · exact Sz.one (hP 0)
      · exact Sz.nought
    | succ n =>
      rw [prQ_succ, show 7 * (n + 1) = 7 * n + 7 by omega]
      refine Sz.sumL (hP _) (fun y hy => ?_) (Nat.le_trans M.len (by decide))
      split
      · have h1 := M.st y hy
        have x := (M.sz y hy).mul M.pos (hP _) (ih (n - (y.2.1 - 1)) (by omega) y.1)
        have e : P * P ^ (n - (y.2.1 - 1)) = P ^ (n - (y.2.1 - 1) + 1) := by rw [Int.pow_succ, Int.mul_comm]
        rw [e, Nat.zero_add] at x
        exact (x.dvd (hP _) (hP _) (pow_dvd57 P (by omega))).mono (by omega)
      · exact Sz.nought
theorem pr_sz20 {P : Int} {m : Nat} {mv : List Mv} (M : MvOk P m mv) (first : Nat) (shut : Option Nat) {n : Nat} (hn : n ≤ 20) (j : Nat) : Sz (P ^ 20) 140 (prQ mv first shut n j) := ((pr_sz M first shut n j).dvd (Int.pow_pos M.pos) (Int.pow_pos M.pos) (pow_dvd57 P hn)).mono (by omega)
theorem MvOk.p20 {P : Int} {m : Nat} {mv : List Mv} (M : MvOk P m mv) : 0 < P ^ 20 ∧ Sm 641 (P ^ 20) := ⟨Int.pow_pos M.pos, sm_pow M.sm (by decide) 20⟩
/-- drawn kinds may be put -/
theorem kinds_P {m : Nat} : ∀ (ks : List (List Tri)) (k : Nat), (∀ ts ∈ ks, KdOk m ts) → ∃ P : Int, (0 < P ∧ P ≤ 45 ^ ks.length) ∧ (movesFrom k ks).length ≤ 4 * ks.length ∧ ∀ y ∈ movesFrom k ks, Red y.2.2.2 ∧ Sz P 0 (qv y.2.2.2) ∧ 1 ≤ y.2.1 ∧ y.1 < k + ks.length ∧ y.2.2.1 < m
  | [], k, _ => ⟨1, ⟨by decide, by decide⟩, Nat.le_refl _, fun y hy => by cases hy⟩
  | ts :: r, k, h => by
    obtain ⟨P, ⟨p0, p1⟩, hl, hy⟩ := kinds_P r (k + 1) fun u hu => h u (List.mem_cons_of_mem _ hu)
    obtain ⟨len, T, t0, t1, ht⟩ := h ts (List.mem_cons_self ..)
    have hTP : 0 < T * P := Int.mul_pos t0 p0
    refine ⟨T * P, ⟨hTP, ?_⟩, ?_, fun y hy2 => ?_⟩
    · rw [List.length_cons, Int.pow_succ, Int.mul_comm]
      exact Int.mul_le_mul p1 t1 (by omega) (Int.le_of_lt (Int.pow_pos (by decide)))
    · show (ts.map (fun t => ((k, t) : Mv)) ++ movesFrom (k + 1) r).length ≤ _
      rw [List.length_append, List.length_map, List.length_cons]
      omega
    · rcases List.mem_append.mp (show y ∈ ts.map (fun t => ((k, t) : Mv)) ++ movesFrom (k + 1) r from hy2) with z | z
      · obtain ⟨t, htm, rfl⟩ := List.mem_map.mp z
        obtain ⟨⟨a1, a2⟩, a3, v, v1, v2, e⟩ := ht t htm
        obtain ⟨d0, d1⟩ := div_01 (show 0 ≤ v by omega) t0 v2
        refine ⟨by show Red t.2.2; rw [e]; exact low2_red (Int.ne_of_gt t0), ?_, a1, by show k < k + (r.length + 1); omega, a3⟩
        show Sz (T * P) 0 (qv t.2.2)
        rw [e, qv_low2 t0]
        exact (Sz.pos (P := T) ⟨v, rfl⟩ d0 (by rw [Rat.pow_zero]; exact d1)).dvd t0 hTP (Int.dvd_mul_right ..)
      · obtain ⟨b1, b2, b3, b4, b5⟩ := hy y z
        refine ⟨b1, b2.dvd p0 hTP (Int.dvd_mul_left ..), b3, by rw [List.length_cons]; omega, b5⟩
theorem kinds_ok {m : Nat} {ks : List (List Tri)} (h : ∀ ts ∈ ks, KdOk m ts) (hl : ks.length = m) (hm : m ≤ 4) : ∃ P : Int, MvOk P ks.length (movesFrom 0 ks) := by
  obtain ⟨P, ⟨p0, p1⟩, hlen, hy⟩ := kinds_P ks 0 h
  refine ⟨P, p0, ?_, by omega, fun y h2 => (hy y h2).1, fun y h2 => (hy y h2).2.1, fun y h2 => (hy y h2).2.2.1, fun y h2 => ?_⟩
  · have e : (45 : Int) ^ ks.length ≤ 45 ^ 4 := by
      rcases (by omega : ks.length = 0 ∨ ks.length = 1 ∨ ks.length = 2 ∨ ks.length = 3 ∨ ks.length = 4) with z | z | z | z | z <;> (rw [z]; decide)
    have e4 : (45 : Int) ^ 4 = 4100625 := by decide
    unfold Sm
    have e24 : (2 : Nat) ^ 32 = 4294967296 := by decide
    omega
  · obtain ⟨_, _, _, b4, b5⟩ := hy y h2
    exact ⟨by omega, by omega⟩
theorem fol_mem57 {row : List RT} {f : Nat} {t : Tri} (h : t ∈ folL row f) : t.2.2 ∈ row ∧ t.2.1 = f ∧ 1 ≤ t.1 ∧ t.1 ≤ row.length := by
  unfold folL at h
  obtain ⟨x, hx, rfl⟩ := List.mem_map.mp h
  have h1 := (List.mem_filter.mp hx).1
  obtain ⟨i, hi⟩ := List.mem_iff_getElem?.mp h1
  rw [List.getElem?_zipIdx] at hi
  match e : row[i]? with
  | none => rw [e] at hi; cases hi
  | some y =>
    rw [e] at hi
    have e2 := Option.some.inj hi
    have hil := (List.getElem?_eq_some_iff.mp e).1
    rw [← e2]
    refine ⟨List.mem_of_getElem? e, rfl, by show 1 ≤ 0 + i + 1; omega, by show 0 + i + 1 ≤ row.length; omega⟩
theorem fol_len57 {row : List RT} {f : Nat} : (folL row f).length ≤ row.length := by
  unfold folL
  rw [List.length_map]
  exact Nat.le_trans (List.length_filter_le _ _) (by rw [List.length_zipIdx]; exact Nat.le_refl _)
theorem alone_ok {row : List RT} (h : B6 row) : ∃ P : Int, MvOk P 1 (movesFrom 0 [folL row 0]) ∧ ∀ t ∈ folL row 0, Red t.2.2 ∧ Sz P 0 (qv t.2.2) := by
  obtain ⟨W, w1, w2, w3⟩ := h.w
  have key : ∀ t ∈ folL row 0, Red t.2.2 ∧ Sz W 0 (qv t.2.2) := fun t ht => by
    obtain ⟨m1, _, _, _⟩ := fol_mem57 ht
    obtain ⟨q0, q1⟩ := h.q _ m1
    exact ⟨(h.sm _ m1).1, Sz.pos ⟨_, qv_over (h.sm _ m1).1.1 (w3 _ m1) w1⟩ q0 (by rw [Rat.pow_zero]; exact q1)⟩
  refine ⟨W, ?_, key⟩
  rw [one_moves]
  have each : ∀ y ∈ (folL row 0).map (fun t => ((0, t) : Mv)), ∃ t ∈ folL row 0, y = (0, t) := fun y hy => by
    obtain ⟨t, ht, rfl⟩ := List.mem_map.mp hy
    exact ⟨t, ht, rfl⟩
  refine ⟨w1, w2.mono (by decide), ?_, fun y hy => ?_, fun y hy => ?_, fun y hy => ?_, fun y hy => ?_⟩
  · rw [List.length_map]
    have := fol_len57 (row := row) (f := 0)
    have := h.len
    omega
  · obtain ⟨t, ht, rfl⟩ := each y hy
    exact (key t ht).1
  · obtain ⟨t, ht, rfl⟩ := each y hy
    exact (key t ht).2
  · obtain ⟨t, ht, rfl⟩ := each y hy
    exact (fol_mem57 ht).2.2.1
  · obtain ⟨t, ht, rfl⟩ := each y hy
    exact ⟨by show 0 < 1; decide, by show t.2.1 < 1; rw [(fol_mem57 ht).2.1]; decide⟩
/-- how far the stretches go -/
def mxS (ts : List Tri) : Nat := (ts.map fun t => t.1).foldl max 0
theorem kl_far {ts : List Tri} {M k : Nat} (h : ∀ t ∈ ts, t.1 ≤ M) (hk : M ≤ k) : klQ ts k = 0 := by
  unfold klQ
  rw [sumL_congr (g := fun _ => 0) fun t ht => if_neg (by have := h t ht; omega)]
  induction ts with
  | nil => rfl
  | cons t r ih =>
    show (0 : Rat) + (r.map fun _ => (0 : Rat)).sum = 0
    rw [ih fun u hu => h u (List.mem_cons_of_mem _ hu)]
    grind

end Fp

set_option Elab.async false
set_option linter.all false
set_option maxRecDepth 100000
set_option maxHeartbeats 4000000
set_option exponentiation.threshold 10000
namespace Fp
open PySem PySem.Spec PyProof.Rows L2
/-! ### the law's own sums; the first time; a kind's life -/
theorem kl_snoc (ts : List Tri) (t : Tri) (k : Nat) : klQ (ts ++ [t]) k = klQ ts k + if t.1 = k + 1 then qv t.2.2 else 0 := by
  unfold klQ
  rw [List.map_append, List.map_cons, List.map_nil, sum_snoc]
theorem kl_nil (M : Nat) : List.replicate M ((0 : Int), (1 : Int)) = mkL M (klQ []) := by
  unfold mkL
  show _ = (List.range M).map (fun _ => rdq 0)
  rw [rdq_zero.mpr rfl, List.map_const', List.length_range]
theorem maxD_go {K : PySem.W.Frag} {H : Hp} {Q : VK} {li : Addr} {ts : List Tri} (h : SqL K H li ((ts.map fun t => ((t.1 : Nat) : Int)).map V.int)) (go : ∀ M : Nat, (∀ t ∈ ts, t.1 ≤ M) → (M = 0 ∨ ∃ t ∈ ts, t.1 = M) → Q (.int (M : Int)) H) : rMaxD K [.ref li] [.int 0] H Q := by
  refine ⟨li, _, 0, rfl, rfl, h, fun z => ?_, fun m hm hle => ?_⟩
  · have e := List.map_eq_nil_iff.mp z
    exact go 0 (fun t ht => by rw [e] at ht; cases ht) (.inl rfl)
  · obtain ⟨t, ht, rfl⟩ := List.mem_map.mp hm
    refine go t.1 (fun u hu => ?_) (.inr ⟨t, ht, rfl⟩)
    have := hle _ (List.mem_map.mpr ⟨u, hu, rfl⟩)
    omega
abbrev s_la2 : Stmt := topS 44
abbrev N_la2 : List Str := ["_law_one", "_law_other"]
theorem sc_la2 : FnScope N_la2 ["_law_one", "_law_other"] (defScope s_la2) := ⟨rfl, rfl, rfl, by decide +kernel, rfl, by decide +kernel, by decide +kernel⟩
abbrev s_lby : Stmt := topS 45
abbrev N_lby : List Str := ["_law_one", "_law_other"]
theorem sc_lby : FnScope N_lby ["_law_one", "_law_other"] (defScope s_lby) := ⟨rfl, rfl, rfl, by decide +kernel, rfl, by decide +kernel, by decide +kernel⟩
abbrev s_lall : Stmt := topS 46
abbrev N_lall : List Str := ["_law_numbers", "_law_found", "_law_number"]
theorem sc_lall : FnScope N_lall ["_law_numbers"] (defScope s_lall) := ⟨rfl, rfl, rfl, by decide +kernel, rfl, by decide +kernel, by decide +kernel⟩
abbrev s_kl : Stmt := topS 23
abbrev N_kl : List Str := ["kinds", "kind", "row", "stretch", "follower", "chance", "triple"]
theorem sc_kl : FnScope N_kl ["kinds", "kind"] (defScope s_kl) := ⟨rfl, rfl, rfl, by decide +kernel, rfl, by decide +kernel, by decide +kernel⟩
section
variable {P : Program} {w : World} {K : PySem.W.Frag} {mg : Str → Option Value} {base : Heap} {aN aO : Addr}
theorem ok_la2 {f fL : Addr} {fd fdL : FuncData} (F : Fun K "_law_add" "_law_add" s_la2 f fd)
    (FL : Fun K "_law_lowest" "_law_lowest" s_lowest fL fdL) (bL : Binds K fdL ["_law_top", "_law_bottom"] []) (gL : mg "_law_lowest" = some (.ref fL)) (GL : FnOk P w K mg base CX0 1 fL fdL ["_law_top", "_law_bottom"] spLow)
    : FnOk P w K mg base CX0 2 f fd ["_law_one", "_law_other"] (spTwo K (fun a b c d => a * d + c * b)) := by
  refine F.ok sc_la2 (fun vs H Q E h => ?_) (fun cdv A outer s H vs Q E hr h => ?_)
  · obtain ⟨_, _, _, _, _, _, rfl, _⟩ := h
    rfl
  · obtain ⟨p1, p2, a, b, c, d, rfl, T, q⟩ := h
    refine ⟨_, (pss_one (ps_ret (pe_call GL hr (by rfl) gL FL.kp bL .nil pass0 (pa_cons (pe_op op_add (pe_op op_mulA (pe_ix ix_tup (pv 0) pe_int (fun _ _ => rfl)) (pe_ix ix_tup (pv 1) pe_int (fun _ _ => rfl))) (pe_op op_mulA (pe_ix ix_tup (pv 1) pe_int (fun _ _ => rfl)) (pe_ix ix_tup (pv 0) pe_int (fun _ _ => rfl)))) (pa_cons (pe_op op_mulA (pe_ix ix_tup (pv 0) pe_int (fun _ _ => rfl)) (pe_ix ix_tup (pv 1) pe_int (fun _ _ => rfl))) pa_nil))))), ?_⟩
    refine ⟨_, rfl, p1, _, 0, _, rfl, rfl, T.t1, atI_nat (j := 0) rfl, _, rfl, p2, _, 1, _, rfl, rfl, T.t2, atI_nat (j := 1) rfl, a, d, rfl, rfl, T.sa.cmul T.sd (by decide) (by decide) (by decide), ?_⟩
    refine ⟨_, rfl, p2, _, 0, _, rfl, rfl, T.t2, atI_nat (j := 0) rfl, _, rfl, p1, _, 1, _, rfl, rfl, T.t1, atI_nat (j := 1) rfl, c, b, rfl, rfl, T.sc.cmul T.sb (by decide) (by decide) (by decide), _, _, rfl, rfl, ?_⟩
    refine ⟨_, rfl, p1, _, 1, _, rfl, rfl, T.t1, atI_nat (j := 1) rfl, _, rfl, p2, _, 1, _, rfl, rfl, T.t2, atI_nat (j := 1) rfl, b, d, rfl, rfl, T.sb.cmul T.sd (by decide) (by decide) (by decide), ?_⟩
    exact ⟨_, _, rfl, T.den, (T.sb.mul T.sd).mono (by decide), q⟩
theorem ok_lby {f fL : Addr} {fd fdL : FuncData} (F : Fun K "_law_by" "_law_by" s_lby f fd)
    (FL : Fun K "_law_lowest" "_law_lowest" s_lowest fL fdL) (bL : Binds K fdL ["_law_top", "_law_bottom"] []) (gL : mg "_law_lowest" = some (.ref fL)) (GL : FnOk P w K mg base CX0 1 fL fdL ["_law_top", "_law_bottom"] spLow)
    : FnOk P w K mg base CX0 2 f fd ["_law_one", "_law_other"] (spTwo K (fun a b c d => a * c)) := by
  refine F.ok sc_lby (fun vs H Q E h => ?_) (fun cdv A outer s H vs Q E hr h => ?_)
  · obtain ⟨_, _, _, _, _, _, rfl, _⟩ := h
    rfl
  · obtain ⟨p1, p2, a, b, c, d, rfl, T, q⟩ := h
    refine ⟨_, (pss_one (ps_ret (pe_call GL hr (by rfl) gL FL.kp bL .nil pass0 (pa_cons (pe_op op_mulA (pe_ix ix_tup (pv 0) pe_int (fun _ _ => rfl)) (pe_ix ix_tup (pv 1) pe_int (fun _ _ => rfl))) (pa_cons (pe_op op_mulA (pe_ix ix_tup (pv 0) pe_int (fun _ _ => rfl)) (pe_ix ix_tup (pv 1) pe_int (fun _ _ => rfl))) pa_nil))))), ?_⟩
    refine ⟨_, rfl, p1, _, 0, _, rfl, rfl, T.t1, atI_nat (j := 0) rfl, _, rfl, p2, _, 0, _, rfl, rfl, T.t2, atI_nat (j := 0) rfl, a, c, rfl, rfl, T.sa.cmul T.sc (by decide) (by decide) (by decide), ?_⟩
    refine ⟨_, rfl, p1, _, 1, _, rfl, rfl, T.t1, atI_nat (j := 1) rfl, _, rfl, p2, _, 1, _, rfl, rfl, T.t2, atI_nat (j := 1) rfl, b, d, rfl, rfl, T.sb.cmul T.sd (by decide) (by decide) (by decide), ?_⟩
    exact ⟨_, _, rfl, T.den, (T.sb.mul T.sd).mono (by decide), q⟩
def spLall (K : PySem.W.Frag) : Sp := fun vs H Q _ => ∃ (p : Addr) (n s k : Nat) (P0 : Int) (f : Nat → Rat), vs = [.ref p] ∧ LsM K H p (mkL n f) ∧ 0 < P0 ∧ Sm s P0 ∧ (∀ j, j < n → Sz P0 k (f j)) ∧ n ≤ 100 ∧ s + k ≤ 2900 ∧
  ∀ r H', Same H H' → RAt K H' r (rdq (sumTo n f)) → Q (.ref r) H'
theorem ok_lall {f fLA2 : Addr} {fd fdLA2 : FuncData} (F : Fun K "_law_all" "_law_all" s_lall f fd)
    (FLA2 : Fun K "_law_add" "_law_add" s_la2 fLA2 fdLA2) (bLA2 : Binds K fdLA2 ["_law_one", "_law_other"] []) (gLA2 : mg "_law_add" = some (.ref fLA2)) (GLA2 : FnOk P w K mg base CX0 2 fLA2 fdLA2 ["_law_one", "_law_other"] (spTwo K (fun a b c d => a * d + c * b)))
    : FnOk P w K mg base CX0 3 f fd ["_law_numbers"] (spLall K) := by
  refine F.ok sc_lall (fun vs H Q E h => ?_) (fun cdv A outer s H vs Q E hr h => ?_)
  · obtain ⟨_, _, _, _, _, _, rfl, _⟩ := h
    rfl
  · obtain ⟨p, n, s0, k0, P0, f0, rfl, hp, hP, sP, sz, hn, hsk, q⟩ := h
    refine ⟨_, (pss_cons (ps_set (i := 1) sc_lall.nd rfl (.inl rfl) (pe_tup (pa_cons pe_int (pa_cons pe_int pa_nil))))
      (pss_cons (ps_for PassesOwn.never rfl (pi_list (pv 0)) (pg_name (i := 2) sc_lall.nd rfl (.inl rfl)) (pss_one (ps_set (i := 1) sc_lall.nd rfl (.inl rfl) (pe_call GLA2 hr (by rfl) gLA2 FLA2.kp bLA2 .nil pass0 (pa_cons (pv 1) (pa_cons (pv 2) pa_nil))))))
      (pss_one (ps_ret (pv 1))))), ?_⟩
    obtain ⟨rs, h1, h2⟩ := id hp
    have hrl := h2.length
    rw [mkL_len] at hrl
    refine ⟨by show 2 ≤ sizeLine; decide, fun fo nf => ?_⟩
    have e1 := same_new (o := HO.tup [.int 0, .int 1]) nf
    refine ⟨_, rfl, p, rfl, ⟨_, SqL.of (e1 _ _ h1)⟩, ?_⟩
    refine for_list (K := K) (a := p) (xs := rs.map V.ref) (fun i σ HB => ∃ (z2 : Option V) (fo : Addr), σ = [some (.ref p), some (.ref fo), z2] ∧ Same H HB ∧ RAt K HB fo (rdq (sumTo i f0))) ⟨none, fo, rfl, e1, by rw [sumTo_zero, rdq_zero.mpr rfl]; exact SqT.of upd_same⟩ ?_ ?_ ?_
    · rintro i σ HB _ ⟨_, _, rfl, sB, _⟩
      exact SqL.of (sB _ _ h1)
    · rintro i y σ HB hy ⟨z2, fo, rfl, sB, hfo⟩
      have hi : i < n := by
        have := (List.getElem?_eq_some_iff.mp hy).1
        rw [List.length_map, hrl] at this
        exact this
      obtain ⟨r, er, hr2⟩ := h2.get (mkL_at hi)
      rw [List.getElem?_map, er] at hy
      cases Option.some.inj hy
      refine ⟨_, rfl, _, rfl, ?_⟩
      refine tnil_go ?_
      refine plus_go hfo (hr2.tk (Tk.same sB)) ((Sz.sum hP (fun j hj => sz j (by omega)) (show i ≤ 128 by omega)).smr hP sP (by omega)) ((sz i hi).smr hP sP (by omega)) fun r3 H3 s3 hr3 => ?_
      refine ⟨_, r3, rfl, sB.trans s3, ?_⟩
      rw [sumTo_succ]
      exact hr3
    · rintro σ HB ⟨z2, fo, rfl, sB, hfo⟩
      rw [List.length_map, hrl] at hfo
      exact ⟨_, rfl, q fo HB sB hfo⟩
def spFi (K : PySem.W.Frag) : Sp := fun vs H Q _ => ∃ (p : Addr) (ks : List (List Tri)) (first other most : Nat) (P0 : Int), vs = [.ref p, .int (first : Int), .int (other : Int), .int (most : Int)] ∧ KdsA K H p ks ∧ MvOk P0 ks.length (movesFrom 0 ks) ∧ ks.length ≤ 32 ∧ other < ks.length ∧ most ≤ 20 ∧
  ∀ z H', Same H H' → RowAt K H' z (mkL most fun i => prQ (movesFrom 0 ks) first (some other) (i + 1) other) → Q (.ref z) H'
def spKl (K : PySem.W.Frag) : Sp := fun vs H Q _ => ∃ (p : Addr) (ks : List (List Tri)) (ts : List Tri) (kind : Nat) (P0 : Int), vs = [.ref p, .int (kind : Int)] ∧ KdsA K H p ks ∧ ks[kind]? = some ts ∧ 0 < P0 ∧ Sm 24 P0 ∧ (∀ t ∈ ts, Red t.2.2 ∧ Sz P0 0 (qv t.2.2)) ∧ (∀ t ∈ ts, 1 ≤ t.1 ∧ t.1 ≤ 60) ∧ ts.length ≤ 60 ∧
  ∀ z H' (M : Nat), Same H H' → (∀ t ∈ ts, t.1 ≤ M) → (M = 0 ∨ ∃ t ∈ ts, t.1 = M) → LifeAt K H' z (trimZ (mkL M (klQ ts))) (0, 1) → Q (.ref z) H'
theorem ok_kl {f fPL fWN : Addr} {fd fdPL fdWN : FuncData} (F : Fun K "kind_life" "kind_life" s_kl f fd) (C : Consts K mg aN aO)
    (FPL : Fun K "plus" "plus" s_plus fPL fdPL) (bPL : Binds K fdPL ["one", "other"] []) (gPL : mg "plus" = some (.ref fPL)) (GPL : FnOk P w K mg base CX0 3 fPL fdPL ["one", "other"] (spTwo K (fun a b c d => a * d + c * b)))
    (FWN : Fun K "without_noughts" "without_noughts" s_wn fWN fdWN) (bWN : Binds K fdWN ["row"] []) (gWN : mg "without_noughts" = some (.ref fWN)) (GWN : FnOk P w K mg base CX0 1 fWN fdWN ["row"] (spWn K))
    (n_max : mg "max" = none) (n_tuple : mg "tuple" = none) : FnOk P w K mg base CX0 4 f fd ["kinds", "kind"] (spKl K) := by
  refine F.ok sc_kl (fun vs H Q E h => ?_) (fun cdv A outer s H vs Q E hr h => ?_)
  · obtain ⟨_, _, _, _, _, rfl, _⟩ := h
    rfl
  · obtain ⟨p, ks, ts, kind, P0, rfl, ⟨rs, hp1, hp2⟩, hki, hP, sP, hsz, hst, hln, q⟩ := h
    refine ⟨_, (pss_cons (ps_set (i := 2) sc_kl.nd rfl (.inl rfl) (pe_op op_rep (pe_lst (pa_cons (pe_glob (v := .ref aN) rfl C.gN rfl) pa_nil)) (pe_callBK (cr_maxD rfl hr.units) (by rfl) n_max (by decide +kernel) (pa_cons (pe_lc (own := [("triple", 6)]) (g := (gName 6)) (tt := tYes) (te := (tOp (rIxT K) (tVar 6) (tC (.int 0)))) rfl sc_kl.nd (pi_tup (pe_ix ix_tup (pv 0) (pv 1) (fun _ _ => rfl))) (blkOk_by (own := [("triple", 6)]) (N := N_kl) (sc := (defScope s_kl)) (by decide +kernel)) (fun _ _ _ _ _ => (pg_name (i := 6) sc_kl.nd rfl (.inl rfl))) (fun _ _ _ _ _ => pts_nil) (fun _ _ _ _ _ => (pe_ix ix_tup (pv 6) pe_int (fun _ _ => rfl)))) pa_nil) (pk_cons pe_int pk_nil))))
      (pss_cons (ps_for PassesOwn.never rfl (pi_tup (pe_ix ix_tup (pv 0) (pv 1) (fun _ _ => rfl))) (pg_tup rfl (pgs_cons (pg_name (i := 3) sc_kl.nd rfl (.inl rfl)) (pgs_cons (pg_name (i := 4) sc_kl.nd rfl (.inl rfl)) (pgs_cons (pg_name (i := 5) sc_kl.nd rfl (.inl rfl)) pgs_nil)))) (pss_one (ps_asg (pe_call GPL hr (by rfl) gPL FPL.kp bPL .nil pass0 (pa_cons (pe_ix ix_list (pv 2) (pe_op op_sub (pv 3) pe_int) (fun _ _ => rfl)) (pa_cons (pv 5) pa_nil))) (pg_sub (pv 2) (pe_op op_sub (pv 3) pe_int) set_list))))
      (pss_one (ps_ret (pe_call GWN (hr.mono (by decide)) (by rfl) gWN FWN.kp bWN .nil pass0 (pa_cons (pe_callTy call_tuple_of (by rfl) n_tuple (by decide +kernel) (pa_cons (pv 2) pa_nil)) pa_nil)))))), ?_⟩
    obtain ⟨pk, epk, qs, hq1, hq2⟩ := hp2.get hki
    have hql := hq2.1
    have atk : atI (rs.map V.ref) (kind : Int) = some (.ref pk) := atI_nat (j := kind) (by rw [List.getElem?_map, epk]; rfl)
    refine ⟨by show 1 ≤ sizeLine; decide, fun b1 n1 => ?_⟩
    have e1 := same_new (o := HO.lst [.ref aN]) n1
    refine ⟨_, rfl, _, rfl, p, _, _, _, rfl, rfl, Tk.same e1 _ _ hp1, atk, ?_⟩
    have hqE := Tk.same (K := K) e1 _ _ hq1
    refine ⟨pk, rfl, ⟨_, hqE⟩, ?_⟩
    refine lc_intW (walk_tup (K := K) (a := pk) (xs := qs.map V.ref)) (fun i => (((ts[i]?).map fun t => ((t.1 : Nat) : Int)).getD 0)) (by rw [List.length_map, hql]; omega) (fun HE sE => sqT_same sE hqE) (fun i v HE HE' R hi sE hY qr => ?_) (fun li H2 s2 hli => ?_)
    · obtain ⟨rfl, hv⟩ := hY
      rw [List.length_map, hql] at hi
      obtain ⟨r, er, c, hr1, hr2⟩ := hq2.get (List.getElem?_eq_getElem hi)
      rw [List.getElem?_map, er] at hv
      cases Option.some.inj hv
      refine ⟨rfl, _, rfl, r, _, _, _, rfl, rfl, Tk.same (e1.trans sE) _ _ hr1, at_of (j := 0) rfl rfl, ?_⟩
      have := qr _ (Same.refl _)
      rw [List.getElem?_eq_getElem hi] at this
      exact this
    rw [List.length_map, hql] at hli
    have ens : mkI ts.length (fun i => (((ts[i]?).map fun t => ((t.1 : Nat) : Int)).getD 0)) = ts.map fun t => ((t.1 : Nat) : Int) := by
      refine List.ext_getElem (by rw [mkI_len, List.length_map]) fun i h1 h2 => ?_
      have hi : i < ts.length := by
        rw [List.length_map] at h2
        exact h2
      have e := mkI_at (f := fun i => (((ts[i]?).map fun t => ((t.1 : Nat) : Int)).getD 0)) hi
      rw [List.getElem?_eq_getElem h1] at e
      rw [Option.some.inj e, List.getElem_map, List.getElem?_eq_getElem hi]
      rfl
    have hli2 : H2 li = some (.lst ((ts.map fun t => ((t.1 : Nat) : Int)).map V.int)) := by
      rw [← ens]
      exact hli
    refine tnil_go ?_
    refine tC_go ?_
    refine tnil_go ?_
    refine maxD_go (SqL.of hli2) fun M hM1 hM2 => ?_
    have hM60 : M ≤ 60 := by
      rcases hM2 with z | ⟨t, ht, z⟩
      · omega
      · have := (hst t ht).2
        omega
    refine rep_ls2 (K := K) (x := (0, 1)) (s2 _ _ upd_same) (C.tN _) (by omega) fun ro H3 s3 nro hro => ?_
    rw [kl_nil] at hro
    have S2 := e1.trans s2
    have hpp := Tk.same (K := K) (S2.trans s3) _ _ hp1
    have hqq := Tk.same (K := K) (S2.trans s3) _ _ hq1
    refine ⟨_, rfl, _, rfl, p, _, _, _, rfl, rfl, hpp, atk, pk, rfl, ⟨_, hqq⟩, ?_⟩
    refine for_tup (K := K) (a := pk) (xs := qs.map V.ref) (fun i σ HB => ∃ z3 z4 z5 : Option V, σ = [some (.ref p), some (.int (kind : Int)), some (.ref ro), z3, z4, z5, none] ∧ Same H2 HB ∧ LsM K HB ro (mkL M (klQ (ts.take i)))) ⟨none, none, none, rfl, s3, hro⟩ ?_ ?_ ?_
    · rintro i σ HB _ ⟨_, _, _, rfl, sB, _⟩
      exact Tk.same (K := K) (S2.trans sB) _ _ hq1
    · rintro i v σ HB hv ⟨z3, z4, z5, rfl, sB, hB⟩
      have hi : i < ts.length := by
        have := (List.getElem?_eq_some_iff.mp hv).1
        rw [List.length_map, hql] at this
        exact this
      obtain ⟨t, et⟩ : ∃ t, ts[i]? = some t := ⟨_, List.getElem?_eq_getElem hi⟩
      have hmem := List.mem_of_getElem? et
      obtain ⟨r, er, cc, hr1, hr2⟩ := hq2.get et
      rw [List.getElem?_map, er] at hv
      cases Option.some.inj hv
      obtain ⟨hred, hqs⟩ := hsz t hmem
      obtain ⟨t1, t60⟩ := hst t hmem
      have tM := hM1 t hmem
      have tkB : Tk K H HB := Tk.same (K := K) (S2.trans sB)
      have hcB := hr2.tk tkB
      rw [red_rdq hred] at hcB
      refine ⟨r, _, rfl, tkB _ _ hr1, rfl, _, _, rfl, _, _, rfl, _, _, rfl, rfl, ?_⟩
      refine ⟨_, rfl, _, rfl, _, 1, rfl, rfl, ?_⟩
      refine hB.at (m := t.1 - 1) (by show ((t.1 : Nat) : Int) - 1 = _; omega) (by omega) fun x1 hx1 => ?_
      refine ⟨_, rfl, ?_⟩
      refine tnil_go ?_
      have szK : ∀ k, Sz P0 7 (klQ (ts.take i) k) := fun k => by
        unfold klQ
        refine Sz.sumL (k := 0) hP (fun u hu => ?_) (by rw [List.length_take]; omega)
        split
        · exact (hsz u (List.mem_of_mem_take hu)).2
        · exact Sz.nought
      refine plus_go hx1 hcB ((szK _).smr hP sP (by decide)) (hqs.smr hP sP (by decide)) fun x2 H4 s4 hx2 => ?_
      refine ⟨_, rfl, _, rfl, _, 1, rfl, rfl, ?_⟩
      refine set_ls (K := K) (m := t.1 - 1) (hB.same s4) hx2 (by show ((t.1 : Nat) : Int) - 1 = _; omega) (by rw [mkL_len]; omega) fun H5 t5 u5 h5 => ?_
      refine ⟨_, _, _, rfl, ?_, ?_⟩
      · intro b7 o hb7
        rw [u5 b7 (ne_of_none hb7 nro)]
        exact (sB.trans s4) _ _ hb7
      · rw [List.take_add_one, et]
        rw [mkL_set, mkL_congr (g' := klQ (ts.take i ++ [t])) fun k _ => ?_] at h5
        · exact h5
        · rw [kl_snoc]
          by_cases z : k = t.1 - 1
          · rw [if_pos z, if_pos (by omega), z]
          · rw [if_neg z, if_neg (by omega)]
            grind
    · rintro σ HB ⟨z3, z4, z5, rfl, sB, hB⟩
      rw [List.length_map, hql, List.take_of_length_le (Nat.le_refl _)] at hB
      obtain ⟨us, hu1, hu2⟩ := hB
      refine ⟨_, rfl, ro, _, rfl, .inl ⟨SqL.of hu1, fun tu ntu => ?_⟩⟩
      have e6 := same_new (o := HO.tup (us.map V.ref)) ntu
      refine tnil_go ?_
      exact ⟨tu, _, rfl, RowAt.of_ls hu1 hu2 ntu, fun z H' sz' hz => q z H' M (S2.trans (sB.trans (e6.trans sz'))) hM1 hM2 hz⟩
end

end Fp

set_option Elab.async false
set_option linter.all false
set_option maxRecDepth 100000
set_option maxHeartbeats 4000000
set_option exponentiation.threshold 10000
namespace Fp
open PySem PySem.Spec PyProof.Rows L2
/-! ### wide kinds -/
structure KdW (m : Nat) (ts : List Tri) : Prop where
  len : ts.length ≤ 24
  tot : ∃ T : Int, 0 < T ∧ T ≤ 200 ∧ ∀ t ∈ ts, (1 ≤ t.1 ∧ t.1 ≤ 6) ∧ t.2.1 < m ∧ ∃ v : Int, 1 ≤ v ∧ v ≤ T ∧ t.2.2 = low2 v T
theorem KdOk.w {m : Nat} {ts : List Tri} (h : KdOk m ts) : KdW m ts := by
  obtain ⟨h1, T, t0, t1, h2⟩ := h
  exact ⟨by omega, T, t0, by omega, h2⟩
theorem sum_n8 : ∀ {us : List Int}, (∀ x ∈ us, 0 ≤ x ∧ x ≤ 8) → 0 ≤ us.sum ∧ us.sum ≤ 8 * (us.length : Int) ∧ ∀ x ∈ us, x ≤ us.sum
  | [], _ => ⟨by decide, by decide, fun x h => by simp at h⟩
  | x :: r, h => by
    obtain ⟨i1, i2, i3⟩ := sum_n8 fun y hy => h y (List.mem_cons_of_mem _ hy)
    have hx := h x (List.mem_cons_self ..)
    rw [List.sum_cons, List.length_cons]
    refine ⟨by omega, by omega, fun y hy => ?_⟩
    rcases List.mem_cons.mp hy with z | z
    · omega
    · have := i3 y z
      omega
section
variable {P : Program} {w : World} {K : PySem.W.Frag} {mg : Str → Option Value} {base : Heap} {aN aO : Addr}
theorem lc_intF {J : It} {n : Nat} {G : Hp → Prop} {Y : Nat → Hp → V → Hp → Prop} (w : Walk J n G Y) {g : TG} {tt : TT} {te : TE} {vs : List Nat} {σ : L2.St} {H1 : Hp} (f : Nat → Int) (b : Nat → Bool) (hn : n ≤ 900) (hG : ∀ HE, Same H1 HE → G HE)
    (hs : ∀ (k : Nat) (x : V) (HE HE' : Hp) (R : VK) (N : Hp → Prop), k < n → Same H1 HE → Y k HE x HE' → (b k = true → ∀ HF, Same HE HF → R (.int (f k)) HF) → (b k = false → ∀ HF, Same HE HF → N HF) → g x (wipe σ vs) HE' fun σ2 H2 => wipe σ2 vs = wipe σ vs ∧ tt σ2 H2 fun bb H3 => if bb = true then te σ2 H3 R else N H3)
    {Qd : Addr → Hp → Prop} (hd : ∀ D H2, Same H1 H2 → H2 D = some (.lst ((((List.range n).filter b).map f).map V.int)) → Qd D H2) : tLc (fun _ H2 R => R J H2) g tt te vs σ H1 (refQ Qd) := by
  intro D nD
  have e1 := same_new (o := HO.lst []) nD
  refine lc_it w (fun k HE => Same H1 HE ∧ HE D = some (.lst ((((List.range k).filter b).map f).map V.int))) ⟨e1, upd_same⟩ ?_ ?_ ?_
  · rintro i HE _ ⟨sE, _⟩
    exact hG HE sE
  · rintro k x HE HE' hk ⟨sE, hE⟩ hY
    have hfl : ((List.range k).filter b).length ≤ k := by
      have := List.length_filter_le b (List.range k)
      rw [List.length_range] at this
      exact this
    refine hs k x HE HE' _ _ hk sE hY (fun hb HF sF => ?_) (fun hb HF sF => ?_)
    · have hE5 := sF _ _ hE
      refine ⟨_, hE5, by rw [List.length_map, List.length_map]; exact small1000 (by omega), ?_, ?_⟩
      · intro b2 o hb2
        rw [upd_ne (ne_of_none hb2 nD)]
        exact (sE.trans sF) _ _ hb2
      · rw [upd_same, List.range_succ, List.filter_append, List.map_append, List.map_append]
        simp [hb]
    · refine ⟨sE.trans sF, ?_⟩
      rw [List.range_succ, List.filter_append]
      simp only [List.filter_cons, hb, List.filter_nil]
      rw [show ((List.range k).filter b ++ if false = true then [k] else []) = (List.range k).filter b by simp]
      exact sF _ _ hE
  · rintro HE ⟨sE, hE⟩
    exact hd D HE sE hE
def spWk (K : PySem.W.Frag) : Sp := fun vs H Q _ => ∃ (d c : Addr) (t : Int), vs = [.ref d] ∧ Feed H d c t ∧ t ≤ 800000 ∧
  ∀ z kinds (m : Nat) t' H', Keep d H H' → Feed H' d c t' → t' ≤ t + 110 → KdsA K H' z kinds → kinds.length = m → 2 ≤ m → m ≤ 4 → (∀ ts ∈ kinds, KdW m ts) → Q (.ref z) H'
end

end Fp

set_option Elab.async false
set_option linter.all false
set_option maxRecDepth 100000
set_option maxHeartbeats 4000000
set_option exponentiation.threshold 10000
namespace Fp
open PySem PySem.Spec PyProof.Rows L2
/-! ### kinds shown -/
theorem Obs.dp {α : Type} {K : PySem.W.Frag} {At : Hp → Addr → α → Prop} {g : α → PyData} {H : Hp} (hg : ∀ p y, At H p y → Dp K H (.ref p) (g y)) : ∀ {rs : List Addr} {ys : List α}, Obs At H rs ys → DpAll K H (rs.map V.ref) (ys.map g)
  | [], [], _ => .nil
  | [], _ :: _, h => by have := h.1; simp at this
  | _ :: _, [], h => by have := h.1; simp at this
  | r :: rs, y :: ys, h => .cons (hg r y (h.2 0 r y rfl rfl)) (Obs.dp hg (rs := rs) (ys := ys) ⟨by have := h.1; simpa using this, fun i q z h1 h2 => h.2 (i + 1) q z h1 h2⟩)
theorem Shs.all {c k : Nat} : ∀ {ds : List PyData}, (∀ d ∈ ds, Sh c k d) → Shs ((c + 2) * ds.length) k ds
  | [], _ => Shs.nil
  | d :: r, h => by
    refine (Shs.cons (h d (List.mem_cons_self ..)) (Shs.all fun e he => h e (List.mem_cons_of_mem _ he))).mono ?_ (Nat.le_refl _)
    rw [List.length_cons, Nat.mul_succ]
    omega
theorem Shs.map {α : Type} {c k N : Nat} {xs : List α} {g : α → PyData} (h : ∀ x ∈ xs, Sh c k (g x)) (hl : xs.length ≤ N) : Shs ((c + 2) * N) k (xs.map g) := by
  refine (Shs.all (c := c) (k := k) fun d hd => ?_).mono ?_ (Nat.le_refl _)
  · obtain ⟨x, hx, rfl⟩ := List.mem_map.mp hd
    exact h x hx
  · rw [List.length_map]
    exact Nat.mul_le_mul_left _ hl
def triD (t : Tri) : PyData := .tuple [.int ((t.1 : Nat) : Int), .int ((t.2.1 : Nat) : Int), ratD t.2.2]
def kdD (ts : List Tri) : PyData := .tuple (ts.map triD)
def kdsD (ks : List (List Tri)) : PyData := .tuple (ks.map kdD)
def TTA (K : PySem.W.Frag) (H : Hp) (p : Addr) (xss : List (List RT)) : Prop := ∃ rs : List Addr, SqT K H p (rs.map V.ref) ∧ Obs (fun H p xs => RowAt K H p xs) H rs xss
section
variable {K : PySem.W.Frag} {H : Hp}
theorem triA_dp (p : Addr) (y : Tri) (h : TriA K H p y) : Dp K H (.ref p) (triD y) := by
  obtain ⟨c, h1, h2⟩ := h
  exact .tup h1 (.cons (.int _) (.cons (.int _) (.cons h2.dp .nil)))
theorem kdA_dp (p : Addr) (y : List Tri) (h : KdA K H p y) : Dp K H (.ref p) (kdD y) := by
  obtain ⟨rs, h1, h2⟩ := h
  exact .tup h1 (h2.dp triA_dp)
theorem kdsA_dp (p : Addr) (y : List (List Tri)) (h : KdsA K H p y) : Dp K H (.ref p) (kdsD y) := by
  obtain ⟨rs, h1, h2⟩ := h
  exact .tup h1 (h2.dp kdA_dp)
theorem TTA.dp {p : Addr} {xss : List (List RT)} (h : TTA K H p xss) : Dp K H (.ref p) (.tuple (xss.map fun xs => .tuple (rowD xs))) := by
  obtain ⟨rs, h1, h2⟩ := h
  exact .tup h1 (h2.dp fun _ _ z => RowAt.dp z)
theorem TTA.same {H' : Hp} {p : Addr} {xss : List (List RT)} (h : TTA K H p xss) (e : Same H H') : TTA K H' p xss := by
  obtain ⟨rs, h1, h2⟩ := h
  exact ⟨rs, sqT_same e h1, ⟨h2.1, fun i r y a b => RowAt.tk (h2.2 i r y a b) (Tk.same e)⟩⟩
end
theorem triD_sh {t : Tri} (h1 : t.1 ≤ 60) (h2 : t.2.1 ≤ 60) (h3 : SmR 1900 t.2.2) : Sh 8100 2 (triD t) := by
  have a : Sh 2000 1 (.int ((t.1 : Nat) : Int)) := (Sh.int (Sm.mono (n := 6) (by unfold Sm; omega) (by decide))).mono (Nat.le_refl _) (by decide)
  have b : Sh 2000 1 (.int ((t.2.1 : Nat) : Int)) := (Sh.int (Sm.mono (n := 6) (by unfold Sm; omega) (by decide))).mono (Nat.le_refl _) (by decide)
  exact (Shs.cons a (Shs.cons b (Shs.cons (Sh.rat h3 (by decide)) Shs.nil))).tup.mono (by decide) (by decide)
theorem sh_tt {n m N : Nat} {f : Nat → Nat → Rat} {ks : List Nat} (hm : m ≤ 4) (hN : ks.length ≤ 25) (h : ∀ i ∈ ks, ∀ j, j < m → SmR 1900 (rdq (f i j))) : Shows (.tuple (ks.map fun i => .tuple (rowD (mkL m (f i))))) := by
  refine ((Shs.map (c := 16100) (k := 2) (N := 25) (fun i hi => ?_) hN).tup).shows (by decide) (by decide)
  refine (Shs.row (n := 1900) (by decide) (xs := mkL m (f i)) fun x hx => ?_).tup.mono (by rw [mkL_len]; omega) (by decide)
  obtain ⟨j, hj, rfl⟩ := mem_mkL hx
  exact h i hi j hj

end Fp

set_option Elab.async false
set_option linter.all false
set_option maxRecDepth 100000
set_option maxHeartbeats 4000000
set_option exponentiation.threshold 10000
namespace Fp
open PySem PySem.Spec PyProof.Rows L2
/-! ### the chain of kinds -/
def cnQ (ts : List Tri) (j : Nat) : Rat := (ts.map fun t => if t.2.1 = j then qv t.2.2 else 0).sum
theorem cn_snoc (ts : List Tri) (t : Tri) (j : Nat) : cnQ (ts ++ [t]) j = cnQ ts j + if t.2.1 = j then qv t.2.2 else 0 := by
  unfold cnQ
  rw [List.map_append, List.map_cons, List.map_nil, sum_snoc]
theorem cn_nil (M : Nat) : List.replicate M ((0 : Int), (1 : Int)) = mkL M (cnQ []) := by
  unfold mkL
  show _ = (List.range M).map (fun _ => rdq 0)
  rw [rdq_zero.mpr rfl, List.map_const', List.length_range]
def chRows (ks : List (List Tri)) : List (List RT) := ks.map fun ts => mkL ks.length (cnQ ts)
/-- what is needed of a kind's chances -/
structure Fit (ts : List Tri) (P0 : Int) : Prop where
  pos : 0 < P0
  sm : Sm 8 P0
  sz : ∀ t ∈ ts, Red t.2.2 ∧ Sz P0 0 (qv t.2.2)
theorem KdW.fit {m : Nat} {ts : List Tri} (h : KdW m ts) : ∃ P0, Fit ts P0 := by
  obtain ⟨len, T, t0, t1, ht⟩ := h
  refine ⟨T, t0, by unfold Sm; omega, fun t htm => ?_⟩
  obtain ⟨⟨a1, a2⟩, a3, v, v1, v2, e⟩ := ht t htm
  obtain ⟨d0, d1⟩ := div_01 (show 0 ≤ v by omega) t0 v2
  refine ⟨by rw [e]; exact low2_red (Int.ne_of_gt t0), ?_⟩
  rw [e, qv_low2 t0]
  exact Sz.pos (P := T) ⟨v, rfl⟩ d0 (by rw [Rat.pow_zero]; exact d1)
theorem Fit.sumIf {ts us : List Tri} {P0 : Int} (h : Fit ts P0) (hs : ∀ t ∈ us, t ∈ ts) (hl : us.length ≤ 128) (b : Tri → Prop) [DecidablePred b] : Sz P0 7 (us.map fun t => if b t then qv t.2.2 else 0).sum := by
  refine Sz.sumL (k := 0) h.pos (fun u hu => ?_) hl
  split
  · exact (h.sz u (hs u hu)).2
  · exact Sz.nought
theorem Fit.cn {ts : List Tri} {P0 : Int} (h : Fit ts P0) (hl : ts.length ≤ 128) (i j : Nat) : Sz P0 7 (cnQ (ts.take i) j) := h.sumIf (fun t ht => List.mem_of_mem_take ht) (by rw [List.length_take]; omega) _
theorem Fit.kl {ts : List Tri} {P0 : Int} (h : Fit ts P0) (hl : ts.length ≤ 128) (j : Nat) : Sz P0 7 (klQ ts j) := h.sumIf (fun t ht => ht) hl _
abbrev s_cn : Stmt := topS 22
abbrev N_cn : List Str := ["kinds", "told", "triples", "row", "stretch", "follower", "chance"]
theorem sc_cn : FnScope N_cn ["kinds"] (defScope s_cn) := ⟨rfl, rfl, rfl, by decide +kernel, rfl, by decide +kernel, by decide +kernel⟩
section
variable {P : Program} {w : World} {K : PySem.W.Frag} {mg : Str → Option Value} {base : Heap} {aN aO : Addr}
def spCn (K : PySem.W.Frag) : Sp := fun vs H Q _ => ∃ (p : Addr) (ks : List (List Tri)), vs = [.ref p] ∧ KdsA K H p ks ∧ (∀ ts ∈ ks, KdW ks.length ts) ∧ ks.length ≤ 4 ∧
  ∀ z H', Same H H' → TTA K H' z (chRows ks) → Q (.ref z) H'
theorem ok_cn {f fPL : Addr} {fd fdPL : FuncData} (F : Fun K "chain" "chain" s_cn f fd) (C : Consts K mg aN aO)
    (FPL : Fun K "plus" "plus" s_plus fPL fdPL) (bPL : Binds K fdPL ["one", "other"] []) (gPL : mg "plus" = some (.ref fPL)) (GPL : FnOk P w K mg base CX0 3 fPL fdPL ["one", "other"] (spTwo K (fun a b c d => a * d + c * b)))
    (n_len : mg "len" = none) (n_tuple : mg "tuple" = none) : FnOk P w K mg base CX0 4 f fd ["kinds"] (spCn K) := by
  refine F.ok sc_cn (fun vs H Q E h => ?_) (fun cdv A outer s H vs Q E hr h => ?_)
  · obtain ⟨_, _, rfl, _⟩ := h
    rfl
  · obtain ⟨p, ks, rfl, hk, hok, hkl, q⟩ := h
    refine ⟨_, (pss_cons (ps_set (i := 1) sc_cn.nd rfl (.inl rfl) (pe_lst pa_nil))
      (pss_cons (ps_for PassesOwn.never rfl (pi_tup (pv 0)) (pg_name (i := 2) sc_cn.nd rfl (.inl rfl)) (pss_cons (ps_set (i := 3) sc_cn.nd rfl (.inl rfl) (pe_op op_rep (pe_lst (pa_cons (pe_glob (v := .ref aN) rfl C.gN rfl) pa_nil)) (pe_callB call_len_seq (by rfl) n_len PySem.boot_len (pa_cons (pv 0) pa_nil))))
      (pss_cons (ps_for PassesOwn.never rfl (pi_tup (pv 2)) (pg_tup rfl (pgs_cons (pg_name (i := 4) sc_cn.nd rfl (.inl rfl)) (pgs_cons (pg_name (i := 5) sc_cn.nd rfl (.inl rfl)) (pgs_cons (pg_name (i := 6) sc_cn.nd rfl (.inl rfl)) pgs_nil)))) (pss_one (ps_asg (pe_call GPL hr (by rfl) gPL FPL.kp bPL .nil pass0 (pa_cons (pe_ix ix_list (pv 3) (pv 5) (fun _ _ => rfl)) (pa_cons (pv 6) pa_nil))) (pg_sub (pv 3) (pv 5) set_list))))
      (pss_one (ps_expr (pe_bm PySem.F.plainAttrs_list PySem.F.slot_list_append PySem.F.type_list_append mt_append (pv 1) (pa_cons (pe_callTy call_tuple_of (by rfl) n_tuple (by decide +kernel) (pa_cons (pv 3) pa_nil)) pa_nil)))))))
      (pss_one (ps_ret (pe_callTy call_tuple_of (by rfl) n_tuple (by decide +kernel) (pa_cons (pv 1) pa_nil)))))), ?_⟩
    obtain ⟨rs, hp1, hp2⟩ := id hk
    have hrl := hp2.1
    refine ⟨by show 0 ≤ sizeLine; decide, fun tl ntl => ?_⟩
    have e1 := same_new (o := HO.lst []) ntl
    refine ⟨_, rfl, p, rfl, ⟨_, sqT_same e1 hp1⟩, ?_⟩
    refine for_tup (K := K) (a := p) (xs := rs.map V.ref) (fun i σ HB => ∃ (z2 z3 z4 z5 z6 : Option V) (fs : List Addr), σ = [some (.ref p), some (.ref tl), z2, z3, z4, z5, z6] ∧ Same H HB ∧ HB tl = some (.lst (fs.map V.ref)) ∧ Obs (fun H p xs => RowAt K H p xs) HB fs ((chRows ks).take i)) ⟨none, none, none, none, none, [], rfl, e1, upd_same, by rw [List.take_zero]; exact Obs.nil⟩ ?_ ?_ ?_
    · rintro i σ HB _ ⟨_, _, _, _, _, _, rfl, sB, _, _⟩
      exact sqT_same sB hp1
    · rintro i v σ HB hv ⟨z2, z3, z4, z5, z6, fs, rfl, sB, hB, oB⟩
      have hi : i < ks.length := by
        have := (List.getElem?_eq_some_iff.mp hv).1
        rw [List.length_map, hrl] at this
        exact this
      obtain ⟨ts, ets⟩ : ∃ ts, ks[i]? = some ts := ⟨_, List.getElem?_eq_getElem hi⟩
      obtain ⟨pk, epk, qs, hq1, hq2⟩ := hp2.get ets
      rw [List.getElem?_map, epk] at hv
      cases Option.some.inj hv
      have hql := hq2.1
      have kd := hok ts (List.mem_of_getElem? ets)
      have hlen := kd.len
      obtain ⟨P0, F0⟩ := kd.fit
      obtain ⟨T, _, _, htt⟩ := kd.tot
      refine ⟨by show 1 ≤ sizeLine; decide, fun b1 n1 => ?_⟩
      have e2 := same_new (o := HO.lst [.ref aN]) n1
      refine ⟨_, rfl, p, _, rfl, .inr (sqT_same (sB.trans e2) hp1), ?_⟩
      rw [List.length_map, hrl]
      refine rep_ls2 (K := K) (x := (0, 1)) upd_same (C.tN _) (by omega) fun ro H3 s3 nro hro => ?_
      rw [cn_nil] at hro
      have S3 := sB.trans (e2.trans s3)
      refine ⟨_, rfl, pk, rfl, ⟨_, sqT_same S3 hq1⟩, ?_⟩
      refine for_tup (K := K) (a := pk) (xs := qs.map V.ref) (fun k σ HC => ∃ z4 z5 z6 : Option V, σ = [some (.ref p), some (.ref tl), some (.ref pk), some (.ref ro), z4, z5, z6] ∧ Same HB HC ∧ LsM K HC ro (mkL ks.length (cnQ (ts.take k)))) ⟨_, _, _, rfl, e2.trans s3, by rw [List.take_zero]; exact hro⟩ ?_ ?_ ?_
      · rintro k σ HC _ ⟨_, _, _, rfl, sC, _⟩
        exact sqT_same (sB.trans sC) hq1
      · rintro k v σ HC hv ⟨z4, z5, z6, rfl, sC, hC⟩
        have hki : k < ts.length := by
          have := (List.getElem?_eq_some_iff.mp hv).1
          rw [List.length_map, hql] at this
          exact this
        obtain ⟨t, et⟩ : ∃ t, ts[k]? = some t := ⟨_, List.getElem?_eq_getElem hki⟩
        have hmem := List.mem_of_getElem? et
        obtain ⟨r, er, cc, hr1, hr2⟩ := hq2.get et
        rw [List.getElem?_map, er] at hv
        cases Option.some.inj hv
        obtain ⟨hred, hqs⟩ := F0.sz t hmem
        obtain ⟨_, t3, _⟩ := htt t hmem
        have tkC : Tk K H HC := Tk.same (K := K) (sB.trans sC)
        have hcC := hr2.tk tkC
        rw [red_rdq hred] at hcC
        refine ⟨r, _, rfl, tkC _ _ hr1, rfl, _, _, rfl, _, _, rfl, _, _, rfl, rfl, ?_⟩
        refine ⟨_, rfl, _, rfl, ?_⟩
        refine hC.at (m := t.2.1) rfl t3 fun x1 hx1 => ?_
        refine ⟨_, rfl, ?_⟩
        refine tnil_go ?_
        refine plus_go hx1 hcC ((F0.cn (by omega) k _).smr F0.pos (F0.sm.mono (by decide : 8 ≤ 24)) (by decide)) (hqs.smr F0.pos (F0.sm.mono (by decide : 8 ≤ 24)) (by decide)) fun x2 H4 s4 hx2 => ?_
        refine ⟨_, rfl, _, rfl, ?_⟩
        refine set_ls (K := K) (m := t.2.1) (hC.same s4) hx2 rfl (by rw [mkL_len]; exact t3) fun H5 t5 u5 h5 => ?_
        refine ⟨_, _, _, rfl, ?_, ?_⟩
        · intro b7 o hb7
          have hn : HB ro = none := e2.free nro
          rw [u5 b7 (ne_of_none hb7 hn)]
          exact (sC.trans s4) _ _ hb7
        · rw [List.take_add_one, et]
          rw [mkL_set, mkL_congr (g' := cnQ (ts.take k ++ [t])) fun j _ => ?_] at h5
          · exact h5
          · rw [cn_snoc]
            by_cases z : j = t.2.1
            · rw [if_pos z, if_pos z.symm, z]
            · rw [if_neg z, if_neg fun y => z y.symm]
              grind
      · rintro σ HC ⟨z4, z5, z6, rfl, sC, hC⟩
        rw [List.length_map, hql, List.take_of_length_le (Nat.le_refl _)] at hC
        obtain ⟨us, hu1, hu2⟩ := hC
        have hBC := sC _ _ hB
        refine ⟨_, rfl, .inl ⟨rfl, _, SqL.of hBC⟩, ?_⟩
        refine ⟨_, rfl, ro, _, rfl, .inl ⟨SqL.of hu1, fun tu ntu => ?_⟩⟩
        have e6 := same_new (o := HO.tup (us.map V.ref)) ntu
        have hB6 := e6 _ _ hBC
        have hfl : fs.length ≤ 4 := by
          rw [oB.1, List.length_take]
          unfold chRows
          rw [List.length_map]
          omega
        refine tnil_go ?_
        refine ⟨tl, _, _, rfl, rfl, hB6, by rw [List.length_map]; exact small1000 (by omega), ?_⟩
        refine ⟨_, _, _, _, _, fs ++ [tu], rfl, ?_, ?_, ?_⟩
        · intro b7 o hb7
          rw [upd_ne (ne_of_none hb7 ntl)]
          exact (sB.trans (sC.trans e6)) _ _ hb7
        · rw [upd_same, List.map_append]
          rfl
        · rw [List.take_add_one, show (chRows ks)[i]? = some (mkL ks.length (cnQ ts)) by unfold chRows; rw [List.getElem?_map, ets]; rfl]
          refine Obs.append (oB.tk rowA_stays ((Tk.same (sC.trans e6)).trans (tk_lst hB6))) (Obs.one ?_)
          exact RowAt.tk (RowAt.of_ls hu1 hu2 ntu) (tk_lst hB6)
    · rintro σ HB ⟨z2, z3, z4, z5, z6, fs, rfl, sB, hB, oB⟩
      rw [List.length_map, hrl, List.take_of_length_le (by unfold chRows; rw [List.length_map]; exact Nat.le_refl _)] at oB
      refine ⟨_, rfl, tl, _, rfl, .inl ⟨SqL.of hB, fun z nz => ?_⟩⟩
      have x5 := same_new (o := HO.tup (fs.map V.ref)) nz
      exact q z _ (sB.trans x5) ⟨fs, SqT.of upd_same, oB.tk rowA_stays (Tk.same x5)⟩
end

end Fp

set_option Elab.async false
set_option linter.all false
set_option maxRecDepth 100000
set_option maxHeartbeats 4000000
set_option exponentiation.threshold 10000
namespace Fp
open PySem PySem.Spec PyProof.Rows L2
/-! ### the law's own rows -/
theorem sumL_to {α : Type} (xs : List α) (f : α → Rat) : (xs.map f).sum = sumTo xs.length fun i => ((xs[i]?).map f).getD 0 := by
  unfold sumTo
  congr 1
  refine List.ext_getElem (by rw [List.length_map, List.length_map, List.length_range]) fun i h1 h2 => ?_
  have hi : i < xs.length := by
    rw [List.length_map] at h1
    exact h1
  rw [List.getElem_map, List.getElem_map, List.getElem_range, List.getElem?_eq_getElem hi]
  rfl
theorem sum_filt {α : Type} (b : α → Bool) (f : α → Rat) : ∀ xs : List α, ((xs.filter b).map f).sum = (xs.map fun x => if b x = true then f x else 0).sum
  | [] => rfl
  | x :: r => by
    have ih := sum_filt b f r
    by_cases h : b x = true
    · rw [List.filter_cons_of_pos h, List.map_cons, List.sum_cons, List.map_cons, List.sum_cons, ih, if_pos h]
    · rw [List.filter_cons_of_neg h, List.map_cons, List.sum_cons, ih, if_neg h]
      grind
theorem obs_rs {K : PySem.W.Frag} {H : Hp} : ∀ {rs : List Addr} {xs : List RT}, Obs (fun H p x => RAt K H p x) H rs xs → RsAt K H rs xs
  | [], [], _ => .nil
  | [], _ :: _, h => by have := h.1; simp at this
  | _ :: _, [], h => by have := h.1; simp at this
  | r :: rs, y :: ys, h => .cons (h.2 0 r y rfl rfl) (obs_rs (rs := rs) (xs := ys) ⟨by have := h.1; simpa using this, fun i q z h1 h2 => h.2 (i + 1) q z h1 h2⟩)
theorem ratA_stays {K : PySem.W.Frag} : Stays K (fun H p x => RAt K H p x) := fun H H' p y e h => h.tk e
theorem filt_all {K : PySem.W.Frag} {H : Hp} {D : Addr} {ts : List Tri} {b : Tri → Bool} {P0 : Int} (F : Fit ts P0) (hl : ts.length ≤ 100) (h : OLs (fun H p x => RAt K H p x) H D ((ts.filter b).map fun t => t.2.2)) :
    ∃ (n : Nat) (f : Nat → Rat), LsM K H D (mkL n f) ∧ n ≤ 100 ∧ (∀ j, j < n → Sz P0 0 (f j)) ∧ sumTo n f = (ts.map fun t => if b t = true then qv t.2.2 else 0).sum := by
  have hfl : (ts.filter b).length ≤ ts.length := List.length_filter_le _ _
  refine ⟨(ts.filter b).length, fun i => (((ts.filter b)[i]?).map fun t => qv t.2.2).getD 0, ?_, by omega, fun j hj => ?_, ?_⟩
  · obtain ⟨rs, h1, h2⟩ := h
    have e : (ts.filter b).map (fun t => t.2.2) = mkL (ts.filter b).length (fun i => (((ts.filter b)[i]?).map fun t => qv t.2.2).getD 0) := by
      refine List.ext_getElem (by rw [List.length_map, mkL_len]) fun i g1 g2 => ?_
      have hi : i < (ts.filter b).length := by
        rw [List.length_map] at g1
        exact g1
      have e1 := mkL_at (g := fun i => (((ts.filter b)[i]?).map fun t => qv t.2.2).getD 0) hi
      rw [List.getElem?_eq_getElem g2] at e1
      rw [Option.some.inj e1, List.getElem_map, List.getElem?_eq_getElem hi]
      exact red_rdq (F.sz _ ((List.mem_filter.mp (List.getElem_mem hi)).1)).1
    rw [← e]
    exact ⟨rs, h1, obs_rs h2⟩
  · dsimp only
    rw [List.getElem?_eq_getElem hj]
    exact (F.sz _ ((List.mem_filter.mp (List.getElem_mem hj)).1)).2
  · rw [← sum_filt, sumL_to]
section
variable {P : Program} {w : World} {K : PySem.W.Frag} {mg : Str → Option Value} {base : Heap} {aN aO : Addr}
def spLrw (K : PySem.W.Frag) : Sp := fun vs H Q _ => ∃ (p : Addr) (ks : List (List Tri)), vs = [.ref p] ∧ KdsA K H p ks ∧ (∀ ts ∈ ks, KdW ks.length ts) ∧ ks.length ≤ 4 ∧
  ∀ z H', Same H H' → TTA K H' z (chRows ks) → Q (.ref z) H'
end

end Fp

set_option Elab.async false
set_option linter.all false
set_option maxRecDepth 100000
set_option maxHeartbeats 4000000
set_option exponentiation.threshold 10000
namespace Fp
open PySem PySem.Spec PyProof.Rows L2
/-! ### the law's own life of a kind -/
theorem trim_far {f : Nat → Rat} {M : Nat} (h : ∀ i, M ≤ i → f i = 0) : ∀ N, M ≤ N → trimZ (mkL N f) = trimZ (mkL M f) := by
  intro N
  induction N with
  | zero =>
    intro hN
    rw [show M = 0 by omega]
  | succ N ih =>
    intro hN
    rcases (by omega : M = N + 1 ∨ M ≤ N) with z | z
    · rw [z]
    · rw [mkL_succ, h N z, rdq_zero.mpr rfl, trimZ_nought, ih z]
theorem shaped_all {α : Type} {g : α → PyData} {k : Nat} (hk : k ≤ 60) (h : ∀ x, (g x).canLay0 = true ∧ (g x).depth ≤ k) (xs : List α) : SeqAt.shaped (.list (xs.map g)) = true := by
  have key : ∀ xs : List α, PyData.canLayAll0 (xs.map g) = true ∧ PyData.depthAll (xs.map g) ≤ k := fun xs => by
    induction xs with
    | nil => exact ⟨rfl, Nat.zero_le _⟩
    | cons x r ih =>
      refine ⟨?_, ?_⟩
      · show ((g x).canLay0 && PyData.canLayAll0 (r.map g)) = true
        rw [(h x).1, ih.1]
        rfl
      · show max (g x).depth (PyData.depthAll (r.map g)) ≤ k
        exact Nat.max_le.mpr ⟨(h x).2, ih.2⟩
  obtain ⟨h1, h2⟩ := key xs
  show (PyData.canLayAll0 (xs.map g) && decide (PyData.depthAll (xs.map g) + 1 ≤ 64)) = true
  rw [h1, decide_eq_true (by omega)]
  rfl
theorem rowD_map (xs : List RT) : rowD xs = xs.map ratD := rfl
theorem LsM.dp {K : PySem.W.Frag} {H : Hp} {p : Addr} {xs : List RT} (h : LsM K H p xs) : Dp K H (.ref p) (.list (rowD xs)) := by
  obtain ⟨rs, h1, h2⟩ := h
  exact .lst (SqL.of h1) h2.dp
theorem eqvm_nil {α : Type} {g : α → PyData} (xs : List α) : PyData.eqv (.list (xs.map g)) (.list []) = xs.isEmpty := by
  cases xs <;> rfl
theorem ne_nil_ls {K : PySem.W.Frag} {H : Hp} {p q : Addr} {xs : List RT} {Q : VK} (h1 : LsM K H p xs) (h2 : H q = some (.lst [])) (h : Q (.bl (!xs.isEmpty)) H) : rNeD K (.ref p) (.ref q) H Q := by
  refine ⟨_, _, h1.dp, .lst (SqL.of h2) .nil, ?_, rfl, ?_⟩
  · rw [rowD_map]
    exact shaped_all (k := 1) (by decide) (fun x => ⟨rfl, Nat.le_refl _⟩) xs
  · rw [rowD_map, eqvm_nil]
    exact h
theorem pop_ls {K : PySem.W.Frag} {H : Hp} {p : Addr} {xs : List RT} {x : RT} {Q : VK} (h : LsM K H p (xs ++ [x])) (q : ∀ r H', Tk K H H' → (∀ b, b ≠ p → H' b = H b) → LsM K H' p xs → Q (.ref r) H') : rPop (.ref p) [] H Q := by
  obtain ⟨rs, h1, h2⟩ := h
  have hl := h2.length
  rw [List.length_append] at hl
  have hl1 : [x].length = 1 := rfl
  have hne : rs ≠ [] := fun z => by rw [z] at hl; simp at hl
  obtain ⟨r, hr⟩ : ∃ r, rs[rs.length - 1]? = some r := ⟨rs[rs.length - 1]'(by have := List.length_pos_iff.mpr hne; omega), List.getElem?_eq_getElem _⟩
  refine ⟨p, _, .ref r, rfl, rfl, h1, by rw [List.length_map, List.getElem?_map, hr]; rfl, ?_⟩
  refine q r _ (tk_lst h1) (fun b hb => upd_ne hb) ⟨rs.dropLast, by rw [upd_same, List.map_dropLast], ?_⟩
  have h3 := (h2.take xs.length).tk (tk_lst (ys := (rs.map V.ref).dropLast) h1)
  rw [List.take_left' rfl] at h3
  rw [List.dropLast_eq_take (l := rs), show rs.length - 1 = xs.length by omega]
  exact h3
theorem last_ls {K : PySem.W.Frag} {H : Hp} {p : Addr} {xs : List RT} {x : RT} {Q : VK} (h : LsM K H p (xs ++ [x])) (q : ∀ r, RAt K H r x → Q (.ref r) H) : rIxL K (.ref p) (.int (-1)) H Q := by
  obtain ⟨rs, h1, h2⟩ := h
  have hl := h2.length
  rw [List.length_append] at hl
  have hl1 : [x].length = 1 := rfl
  obtain ⟨r, hr, hr2⟩ := h2.get (show (xs ++ [x])[xs.length]? = some x by rw [List.getElem?_append_right (Nat.le_refl _), Nat.sub_self]; rfl)
  have e2 : ixN (rs.map V.ref).length (-1) = some xs.length := by
    unfold ixN
    rw [List.length_map, if_neg (by omega), if_pos (by omega)]
    congr 1
    omega
  refine ⟨p, _, -1, .ref r, rfl, rfl, SqL.of h1, ?_, q r hr2⟩
  unfold atI
  rw [e2]
  show (rs.map V.ref)[xs.length]? = _
  rw [List.getElem?_map, hr]
  rfl
section
variable {P : Program} {w : World} {K : PySem.W.Frag} {mg : Str → Option Value} {base : Heap} {aN aO : Addr}
def spLf5 (K : PySem.W.Frag) : Sp := fun vs H Q _ => ∃ (p : Addr) (ts : List Tri) (m : Nat), vs = [.ref p] ∧ KdA K H p ts ∧ KdW m ts ∧
  ∀ z H', Same H H' → LifeAt K H' z (trimZ (mkL 6 (klQ ts))) (0, 1) → Q (.ref z) H'
end

end Fp

set_option Elab.async false
set_option linter.all false
set_option maxRecDepth 100000
set_option maxHeartbeats 4000000
set_option exponentiation.threshold 10000
namespace Fp
open PySem PySem.Spec PyProof.Rows L2
/-! ### put by the first step: backward -/
theorem sumL_swapL {α β : Type} (f : α → β → Rat) (ys : List β) : ∀ xs : List α, (xs.map fun x => (ys.map fun y => f x y).sum).sum = (ys.map fun y => (xs.map fun x => f x y).sum).sum
  | [] => by
    show (0 : Rat) = (ys.map fun _ => (0 : Rat)).sum
    induction ys with
    | nil => rfl
    | cons y r ih =>
      show (0 : Rat) = 0 + (r.map fun _ => (0 : Rat)).sum
      rw [← ih]
      grind
  | x :: r => by
    show (ys.map fun y => f x y).sum + (r.map fun x => (ys.map fun y => f x y).sum).sum = (ys.map fun y => f x y + (r.map fun x => f x y).sum).sum
    rw [sumL_swapL f ys r, sumL_add]
theorem sumL_nought {α : Type} : ∀ xs : List α, (xs.map fun _ => (0 : Rat)).sum = 0
  | [] => rfl
  | _ :: r => by
    show (0 : Rat) + (r.map fun _ => (0 : Rat)).sum = 0
    rw [sumL_nought r]
    grind
theorem mul_sumL {α : Type} (f : α → Rat) (k : Rat) (xs : List α) : k * (xs.map f).sum = (xs.map fun x => k * f x).sum := by
  rw [show k * (xs.map f).sum = (xs.map f).sum * k by grind, sumL_mul]
  exact sumL_congr fun x _ => by grind
def bk (mv : List Mv) (shut : Option Nat) (a l j : Nat) : Rat := if a = 0 then (if j = l then 1 else 0) else if shut = some l then 0 else prQ mv l shut a j
theorem back {mv : List Mv} (hs : ∀ y ∈ mv, 1 ≤ y.2.1) (i : Nat) (shut : Option Nat) (n : Nat) : ∀ j, prQ mv i shut (n + 1) j = (mv.map fun z => if z.1 = i ∧ z.2.1 ≤ n + 1 then qv z.2.2.2 * bk mv shut (n + 1 - z.2.1) z.2.2.1 j else 0).sum := by
  induction n using Nat.strongRecOn with
  | ind n ih =>
    intro j
    have eA : ∀ y ∈ mv, (if cnd shut (n + 1) y j = true then qv y.2.2.2 * prQ mv i shut (n - (y.2.1 - 1)) y.1 else 0) = (if y.1 = i ∧ y.2.1 = n + 1 ∧ y.2.2.1 = j then qv y.2.2.2 else 0) + (mv.map fun z => if y.2.2.1 = j ∧ z.1 = i ∧ y.2.1 + z.2.1 ≤ n + 1 ∧ shut ≠ some y.1 then qv y.2.2.2 * (qv z.2.2.2 * bk mv shut (n + 1 - y.2.1 - z.2.1) z.2.2.1 y.1) else 0).sum := fun y hy => by
      have h1 := hs y hy
      by_cases cj : y.2.2.1 = j
      · rcases (by omega : y.2.1 = n + 1 ∨ y.2.1 ≤ n ∨ n + 1 < y.2.1) with z | z | z
        · have e0 : (mv.map fun z => if y.2.2.1 = j ∧ z.1 = i ∧ y.2.1 + z.2.1 ≤ n + 1 ∧ shut ≠ some y.1 then qv y.2.2.2 * (qv z.2.2.2 * bk mv shut (n + 1 - y.2.1 - z.2.1) z.2.2.1 y.1) else 0).sum = (mv.map fun _ => (0 : Rat)).sum := sumL_congr fun x hx => if_neg fun u => by
            have := hs x hx
            omega
          rw [if_pos (show cnd shut (n + 1) y j = true from decide_eq_true ⟨cj, by omega, .inl z⟩), e0, sumL_nought, show n - (y.2.1 - 1) = 0 by omega, prQ_zero]
          by_cases ci : y.1 = i
          · rw [if_pos ci, if_pos ⟨ci, z, cj⟩]
            grind
          · rw [if_neg ci, if_neg fun u => ci u.1]
            grind
        · rw [if_neg (fun u : y.1 = i ∧ y.2.1 = n + 1 ∧ y.2.2.1 = j => by omega)]
          by_cases cs : shut = some y.1
          · rw [if_neg fun u => ?_]
            · have e0 : (mv.map fun z => if y.2.2.1 = j ∧ z.1 = i ∧ y.2.1 + z.2.1 ≤ n + 1 ∧ shut ≠ some y.1 then qv y.2.2.2 * (qv z.2.2.2 * bk mv shut (n + 1 - y.2.1 - z.2.1) z.2.2.1 y.1) else 0).sum = (mv.map fun _ => (0 : Rat)).sum := sumL_congr fun x hx => if_neg fun u => u.2.2.2 cs
              rw [e0, sumL_nought]
              grind
            · rcases (of_decide_eq_true u).2.2 with v | v
              · omega
              · exact v cs
          · rw [if_pos (show cnd shut (n + 1) y j = true from decide_eq_true ⟨cj, by omega, .inr cs⟩)]
            obtain ⟨p, hp⟩ : ∃ p, n = p + y.2.1 := ⟨n - y.2.1, by omega⟩
            rw [show n - (y.2.1 - 1) = p + 1 by omega, ih p (by omega) y.1, mul_sumL]
            rw [show ∀ q : Rat, 0 + q = q by intro q; grind]
            refine sumL_congr fun x hx => ?_
            by_cases c : x.1 = i ∧ x.2.1 ≤ p + 1
            · rw [if_pos c, if_pos ⟨cj, c.1, by omega, cs⟩, show n + 1 - y.2.1 - x.2.1 = p + 1 - x.2.1 by omega]
            · rw [if_neg c, if_neg fun u => c ⟨u.2.1, by omega⟩]
              grind
        · rw [if_neg fun u => by have := (of_decide_eq_true u).2.1; omega, if_neg (fun u : y.1 = i ∧ y.2.1 = n + 1 ∧ y.2.2.1 = j => by omega)]
          have e0 : (mv.map fun z => if y.2.2.1 = j ∧ z.1 = i ∧ y.2.1 + z.2.1 ≤ n + 1 ∧ shut ≠ some y.1 then qv y.2.2.2 * (qv z.2.2.2 * bk mv shut (n + 1 - y.2.1 - z.2.1) z.2.2.1 y.1) else 0).sum = (mv.map fun _ => (0 : Rat)).sum := sumL_congr fun x hx => if_neg fun u => by omega
          rw [e0, sumL_nought]
          grind
      · rw [if_neg fun u => cj (of_decide_eq_true u).1, if_neg fun u => cj u.2.2]
        have e0 : (mv.map fun z => if y.2.2.1 = j ∧ z.1 = i ∧ y.2.1 + z.2.1 ≤ n + 1 ∧ shut ≠ some y.1 then qv y.2.2.2 * (qv z.2.2.2 * bk mv shut (n + 1 - y.2.1 - z.2.1) z.2.2.1 y.1) else 0).sum = (mv.map fun _ => (0 : Rat)).sum := sumL_congr fun x hx => if_neg fun u => cj u.1
        rw [e0, sumL_nought]
        grind
    have eB : ∀ z ∈ mv, (if z.1 = i ∧ z.2.1 ≤ n + 1 then qv z.2.2.2 * bk mv shut (n + 1 - z.2.1) z.2.2.1 j else 0) = (if z.1 = i ∧ z.2.1 = n + 1 ∧ z.2.2.1 = j then qv z.2.2.2 else 0) + (mv.map fun y => if y.2.2.1 = j ∧ z.1 = i ∧ y.2.1 + z.2.1 ≤ n + 1 ∧ shut ≠ some y.1 then qv y.2.2.2 * (qv z.2.2.2 * bk mv shut (n + 1 - y.2.1 - z.2.1) z.2.2.1 y.1) else 0).sum := fun z hz => by
      have h1 := hs z hz
      by_cases ci : z.1 = i
      · rcases (by omega : z.2.1 = n + 1 ∨ z.2.1 ≤ n ∨ n + 1 < z.2.1) with c | c | c
        · have e0 : (mv.map fun y => if y.2.2.1 = j ∧ z.1 = i ∧ y.2.1 + z.2.1 ≤ n + 1 ∧ shut ≠ some y.1 then qv y.2.2.2 * (qv z.2.2.2 * bk mv shut (n + 1 - y.2.1 - z.2.1) z.2.2.1 y.1) else 0).sum = (mv.map fun _ => (0 : Rat)).sum := sumL_congr fun x hx => if_neg fun u => by
            have := hs x hx
            omega
          rw [e0, sumL_nought, if_pos ⟨ci, by omega⟩, show n + 1 - z.2.1 = 0 by omega]
          unfold bk
          rw [if_pos rfl]
          by_cases cj : z.2.2.1 = j
          · rw [if_pos cj.symm, if_pos ⟨ci, c, cj⟩]
            grind
          · rw [if_neg fun u => cj u.symm, if_neg fun u => cj u.2.2]
            grind
        · rw [if_pos ⟨ci, by omega⟩, if_neg (fun u : z.1 = i ∧ z.2.1 = n + 1 ∧ z.2.2.1 = j => by omega)]
          rw [show ∀ q : Rat, 0 + q = q by intro q; grind]
          obtain ⟨p, hp⟩ : ∃ p, n = p + z.2.1 := ⟨n - z.2.1, by omega⟩
          rw [show n + 1 - z.2.1 = p + 1 by omega]
          have e1 : bk mv shut (p + 1) z.2.2.1 j = if shut = some z.2.2.1 then 0 else prQ mv z.2.2.1 shut (p + 1) j := by
            unfold bk
            rw [if_neg (by omega)]
          rw [e1]
          by_cases cs : shut = some z.2.2.1
          · rw [if_pos cs]
            have e0 : (mv.map fun y => if y.2.2.1 = j ∧ z.1 = i ∧ y.2.1 + z.2.1 ≤ n + 1 ∧ shut ≠ some y.1 then qv y.2.2.2 * (qv z.2.2.2 * bk mv shut (n + 1 - y.2.1 - z.2.1) z.2.2.1 y.1) else 0).sum = (mv.map fun _ => (0 : Rat)).sum := sumL_congr fun y hy => by
              by_cases u : y.2.2.1 = j ∧ z.1 = i ∧ y.2.1 + z.2.1 ≤ n + 1 ∧ shut ≠ some y.1
              · rw [if_pos u]
                unfold bk
                by_cases a0 : n + 1 - y.2.1 - z.2.1 = 0
                · rw [if_pos a0, if_neg fun v => u.2.2.2 (by rw [v]; exact cs)]
                  grind
                · rw [if_neg a0, if_pos cs]
                  grind
              · rw [if_neg u]
            rw [e0, sumL_nought]
            grind
          · rw [if_neg cs, prQ_succ, mul_sumL]
            refine sumL_congr fun y hy => ?_
            have hy1 := hs y hy
            by_cases u : y.2.2.1 = j ∧ y.2.1 ≤ p + 1
            · rcases (by omega : y.2.1 = p + 1 ∨ y.2.1 ≤ p) with v | v
              · rw [if_pos (show cnd shut (p + 1) y j = true from decide_eq_true ⟨u.1, u.2, .inl v⟩), show p - (y.2.1 - 1) = 0 by omega, prQ_zero]
                by_cases w : y.1 = z.2.2.1
                · rw [if_pos w, if_pos ⟨u.1, ci, by omega, by rw [w]; exact cs⟩]
                  unfold bk
                  rw [if_pos (by omega), if_pos w]
                  grind
                · rw [if_neg w]
                  by_cases u2 : y.2.2.1 = j ∧ z.1 = i ∧ y.2.1 + z.2.1 ≤ n + 1 ∧ shut ≠ some y.1
                  · rw [if_pos u2]
                    unfold bk
                    rw [if_pos (by omega), if_neg w]
                    grind
                  · rw [if_neg u2]
                    grind
              · by_cases w : shut = some y.1
                · rw [if_neg fun k => by
                    rcases (of_decide_eq_true k).2.2 with x | x
                    · omega
                    · exact x w, if_neg fun k => k.2.2.2 w]
                  grind
                · rw [if_pos (show cnd shut (p + 1) y j = true from decide_eq_true ⟨u.1, u.2, .inr w⟩), if_pos ⟨u.1, ci, by omega, w⟩]
                  unfold bk
                  rw [if_neg (by omega), if_neg cs, show n + 1 - y.2.1 - z.2.1 = p - (y.2.1 - 1) by omega]
                  grind
            · rw [if_neg fun k => u ⟨(of_decide_eq_true k).1, (of_decide_eq_true k).2.1⟩, if_neg fun k => u ⟨k.1, by omega⟩]
              grind
        · rw [if_neg (fun u : z.1 = i ∧ z.2.1 ≤ n + 1 => by omega), if_neg (fun u : z.1 = i ∧ z.2.1 = n + 1 ∧ z.2.2.1 = j => by omega)]
          have e0 : (mv.map fun y => if y.2.2.1 = j ∧ z.1 = i ∧ y.2.1 + z.2.1 ≤ n + 1 ∧ shut ≠ some y.1 then qv y.2.2.2 * (qv z.2.2.2 * bk mv shut (n + 1 - y.2.1 - z.2.1) z.2.2.1 y.1) else 0).sum = (mv.map fun _ => (0 : Rat)).sum := sumL_congr fun x hx => if_neg fun u => by omega
          rw [e0, sumL_nought]
          grind
      · rw [if_neg fun u => ci u.1, if_neg fun u => ci u.1]
        have e0 : (mv.map fun y => if y.2.2.1 = j ∧ z.1 = i ∧ y.2.1 + z.2.1 ≤ n + 1 ∧ shut ≠ some y.1 then qv y.2.2.2 * (qv z.2.2.2 * bk mv shut (n + 1 - y.2.1 - z.2.1) z.2.2.1 y.1) else 0).sum = (mv.map fun _ => (0 : Rat)).sum := sumL_congr fun x hx => if_neg fun u => ci u.2.1
        rw [e0, sumL_nought]
        grind
    rw [prQ_succ, sumL_congr eA, sumL_congr eB, ← sumL_add, ← sumL_add, sumL_swapL]

end Fp

set_option Elab.async false
set_option linter.all false
set_option maxRecDepth 100000
set_option maxHeartbeats 4000000
set_option exponentiation.threshold 10000
namespace Fp
open PySem PySem.Spec PyProof.Rows L2
/-! ### moves by their kinds; what stands in all -/
theorem moves_sum (G : Mv → Rat) : ∀ (ks : List (List Tri)) (k : Nat), ((movesFrom k ks).map G).sum = sumTo ks.length fun j => (((ks[j]?).getD []).map fun t => G (k + j, t)).sum
  | [], k => rfl
  | ts :: r, k => by
    show ((ts.map (fun t => ((k, t) : Mv)) ++ movesFrom (k + 1) r).map G).sum = _
    rw [List.map_append, List.sum_append, moves_sum G r (k + 1), List.length_cons, sumTo_head, List.map_map]
    congr 1
    refine sumTo_congr fun j _ => ?_
    rw [List.getElem?_cons_succ, show k + 1 + j = k + (j + 1) by omega]
theorem moves_at {ks : List (List Tri)} {i : Nat} {ts : List Tri} (h : ks[i]? = some ts) (g : Tri → Rat) : ((movesFrom 0 ks).map fun z => if z.1 = i then g z.2 else 0).sum = (ts.map g).sum := by
  have hi := (List.getElem?_eq_some_iff.mp h).1
  rw [moves_sum]
  have e : (sumTo ks.length fun j => (((ks[j]?).getD []).map fun t => (if 0 + j = i then g t else 0)).sum) = sumTo ks.length fun j => if j = i then (((ks[j]?).getD []).map g).sum else 0 := sumTo_congr fun j _ => by
    by_cases z : j = i
    · rw [if_pos z]
      exact sumL_congr fun t _ => if_pos (by omega)
    · rw [if_neg z, sumL_congr (g := fun _ => 0) fun t _ => if_neg (by omega), sumL_nought]
  refine Eq.trans e ?_
  rw [one_at, if_pos hi, h]
  rfl
theorem back_k {ks : List (List Tri)} (hs : ∀ y ∈ movesFrom 0 ks, 1 ≤ y.2.1) {i : Nat} {ts : List Tri} (h : ks[i]? = some ts) (shut : Option Nat) (n j : Nat) : prQ (movesFrom 0 ks) i shut (n + 1) j = (ts.map fun t => if t.1 ≤ n + 1 then qv t.2.2 * bk (movesFrom 0 ks) shut (n + 1 - t.1) t.2.1 j else 0).sum := by
  rw [back hs, ← moves_at h]
  refine sumL_congr fun z _ => ?_
  by_cases c : z.1 = i
  · rw [if_pos c]
    by_cases d : z.2.1 ≤ n + 1
    · rw [if_pos ⟨c, d⟩, if_pos d]
    · rw [if_neg fun u => d u.2, if_neg d]
  · rw [if_neg c, if_neg fun u => c u.1]
theorem bk_none (mv : List Mv) (a l j : Nat) : bk mv none a l j = prQ mv l none a j := by
  unfold bk
  by_cases z : a = 0
  · rw [if_pos z, z, prQ_zero]
  · rw [if_neg z, if_neg (by intro u; cases u)]
/-- backward, from nought on -/
theorem back_all {ks : List (List Tri)} (hs : ∀ y ∈ movesFrom 0 ks, 1 ≤ y.2.1) {i : Nat} {ts : List Tri} (h : ks[i]? = some ts) (ht : ∀ t ∈ ts, 1 ≤ t.1) (n j : Nat) : prQ (movesFrom 0 ks) i none n j = (if n = 0 ∧ j = i then 1 else 0) + (ts.map fun t => if t.1 ≤ n then qv t.2.2 * prQ (movesFrom 0 ks) t.2.1 none (n - t.1) j else 0).sum := by
  cases n with
  | zero =>
    rw [prQ_zero, sumL_congr (g := fun _ => 0) fun t hm => if_neg (by have := ht t hm; omega), sumL_nought]
    by_cases z : j = i
    · rw [if_pos z, if_pos ⟨rfl, z⟩]
      grind
    · rw [if_neg z, if_neg fun u => z u.2]
      grind
  | succ n =>
    rw [back_k hs h, if_neg (by omega), sumL_congr (g := fun t => if t.1 ≤ n + 1 then qv t.2.2 * prQ (movesFrom 0 ks) t.2.1 none (n + 1 - t.1) j else 0) fun t _ => by rw [bk_none]]
    grind
def lastK (ts : List Tri) (a : Nat) : Rat := 1 - (ts.map fun t => if t.1 ≤ a then qv t.2.2 else 0).sum
theorem kl_sum {ts : List Tri} (ht : ∀ t ∈ ts, 1 ≤ t.1) (a : Nat) : sumTo a (klQ ts) = (ts.map fun t => if t.1 ≤ a then qv t.2.2 else 0).sum := by
  have e := sumL_swap (fun _ => 1) (fun k (t : Tri) => if t.1 = k + 1 then qv t.2.2 else 0) a ts
  have e1 : sumTo a (klQ ts) = sumTo a fun k => 1 * (ts.map fun t => if t.1 = k + 1 then qv t.2.2 else 0).sum := sumTo_congr fun k _ => by
    unfold klQ
    grind
  rw [e1, e]
  refine sumL_congr fun t hm => ?_
  have h1 := ht t hm
  have e2 : (sumTo a fun k => 1 * (if t.1 = k + 1 then qv t.2.2 else 0)) = sumTo a fun k => if k = t.1 - 1 then qv t.2.2 else 0 := sumTo_congr fun k _ => by
    by_cases z : k = t.1 - 1
    · rw [if_pos z, if_pos (by omega)]
      grind
    · rw [if_neg z, if_neg (by omega)]
      grind
  rw [e2, one_at (g := fun _ => qv t.2.2)]
  by_cases z : t.1 ≤ a
  · rw [if_pos z, if_pos (by omega)]
  · rw [if_neg z, if_neg (by omega)]
theorem sumTo_spl5 (a b : Nat) (f : Nat → Rat) : sumTo (a + b) f = sumTo a f + sumTo b fun j => f (a + j) := by
  induction b with
  | zero =>
    rw [Nat.add_zero, sumTo_zero]
    grind
  | succ b ih =>
    rw [← Nat.add_assoc, sumTo_succ, ih, sumTo_succ]
    grind
theorem shift_sum {s : Nat} (hs : 1 ≤ s) (b : Nat) (g : Nat → Rat) : (sumTo (b + 1) fun n => if s ≤ b - n then g n else 0) = sumTo (b + 1) fun n => if s ≤ n then g (n - s) else 0 := by
  rcases (by omega : s ≤ b + 1 ∨ b + 1 < s) with z | z
  · obtain ⟨d, hd⟩ : ∃ d, b + 1 = d + s := ⟨b + 1 - s, by omega⟩
    have e1 : (sumTo (b + 1) fun n => if s ≤ b - n then g n else 0) = sumTo d g := by
      rw [sumTo_end (n := d) (fun k hk => if_neg (by omega)) (by omega)]
      exact sumTo_congr fun k hk => if_pos (by omega)
    have e2 : (sumTo (b + 1) fun n => if s ≤ n then g (n - s) else 0) = sumTo d g := by
      rw [show b + 1 = s + d by omega, sumTo_spl5, sumTo_congr (g := fun _ => 0) fun k hk => if_neg (by omega), sumTo_nought, sumTo_congr (g := g) fun k hk => by rw [if_pos (by omega), show s + k - s = k by omega]]
      grind
    rw [e1, e2]
  · rw [sumTo_congr (g := fun _ => 0) fun k hk => if_neg (by omega), sumTo_congr (n := b + 1) (f := fun n => if s ≤ n then g (n - s) else 0) (g := fun _ => 0) fun k hk => if_neg (by omega)]
theorem row_sum {mv : List Mv} {m : Nat} (hs : ∀ y ∈ mv, 1 ≤ y.2.1) (hm : ∀ y ∈ mv, y.2.2.1 < m) (i n : Nat) : (sumTo m fun j => prQ mv i none (n + 1) j) = (mv.map fun y => if y.2.1 ≤ n + 1 then qv y.2.2.2 * prQ mv i none (n + 1 - y.2.1) y.1 else 0).sum := by
  have e := sumL_swap (fun _ => 1) (fun j (y : Mv) => if cnd none (n + 1) y j = true then qv y.2.2.2 * prQ mv i none (n - (y.2.1 - 1)) y.1 else 0) m mv
  have e1 : (sumTo m fun j => prQ mv i none (n + 1) j) = sumTo m fun j => 1 * (mv.map fun y => if cnd none (n + 1) y j = true then qv y.2.2.2 * prQ mv i none (n - (y.2.1 - 1)) y.1 else 0).sum := sumTo_congr fun j _ => by
    rw [prQ_succ]
    grind
  rw [e1, e]
  refine sumL_congr fun y hy => ?_
  have h1 := hs y hy
  have h2 := hm y hy
  have e2 : (sumTo m fun j => 1 * (if cnd none (n + 1) y j = true then qv y.2.2.2 * prQ mv i none (n - (y.2.1 - 1)) y.1 else 0)) = sumTo m fun j => if j = y.2.2.1 then (if y.2.1 ≤ n + 1 then qv y.2.2.2 * prQ mv i none (n + 1 - y.2.1) y.1 else 0) else 0 := sumTo_congr fun j _ => by
    by_cases z : j = y.2.2.1
    · rw [if_pos z]
      by_cases c : y.2.1 ≤ n + 1
      · rw [if_pos c, if_pos (show cnd none (n + 1) y j = true from decide_eq_true ⟨z.symm, c, .inr (by intro u; cases u)⟩), show n - (y.2.1 - 1) = n + 1 - y.2.1 by omega]
        grind
      · rw [if_neg c, if_neg fun u => c (of_decide_eq_true u).2.1]
        grind
    · rw [if_neg z, if_neg fun u => z (of_decide_eq_true u).1.symm]
      grind
  rw [e2, one_at (g := fun _ => if y.2.1 ≤ n + 1 then qv y.2.2.2 * prQ mv i none (n + 1 - y.2.1) y.1 else 0), if_pos h2]
/-- what stands at a beat, all kinds together, is one -/
theorem stands_one {ks : List (List Tri)} (hs : ∀ y ∈ movesFrom 0 ks, 1 ≤ y.2.1) (hm : ∀ y ∈ movesFrom 0 ks, y.2.2.1 < ks.length) {i : Nat} (hi : i < ks.length) (b : Nat) :
    (sumTo ks.length fun j => sumTo (b + 1) fun n => prQ (movesFrom 0 ks) i none n j * lastK ((ks[j]?).getD []) (b - n)) = 1 := by
  generalize hu : prQ (movesFrom 0 ks) i none = u
  have e1 : (sumTo ks.length fun j => sumTo (b + 1) fun n => u n j * lastK ((ks[j]?).getD []) (b - n)) = (sumTo (b + 1) fun n => sumTo ks.length fun j => u n j) + -(sumTo (b + 1) fun n => sumTo ks.length fun j => u n j * (((ks[j]?).getD []).map fun t => if t.1 ≤ b - n then qv t.2.2 else 0).sum) := by
    rw [sumTo_swap, show ∀ q : Rat, -q = (-1) * q by intro q; grind, sumTo_mul, ← sumTo_add]
    refine sumTo_congr fun n _ => ?_
    rw [sumTo_mul, ← sumTo_add]
    refine sumTo_congr fun j _ => ?_
    unfold lastK
    grind
  have e2 : (sumTo (b + 1) fun n => sumTo ks.length fun j => u n j * (((ks[j]?).getD []).map fun t => if t.1 ≤ b - n then qv t.2.2 else 0).sum) = sumTo (b + 1) fun n => ((movesFrom 0 ks).map fun y => u n y.1 * (if y.2.1 ≤ b - n then qv y.2.2.2 else 0)).sum := sumTo_congr fun n _ => by
    rw [moves_sum]
    refine sumTo_congr fun j _ => ?_
    rw [mul_sumL]
    refine sumL_congr fun t _ => ?_
    show _ = u n (0 + j) * (if t.1 ≤ b - n then qv t.2.2 else 0)
    rw [Nat.zero_add]
  have e3 : (sumTo (b + 1) fun n => ((movesFrom 0 ks).map fun y => u n y.1 * (if y.2.1 ≤ b - n then qv y.2.2.2 else 0)).sum) = ((movesFrom 0 ks).map fun y => sumTo (b + 1) fun n => if y.2.1 ≤ n then qv y.2.2.2 * u (n - y.2.1) y.1 else 0).sum := by
    have x := sumL_swap (fun _ => 1) (fun n (y : Mv) => u n y.1 * (if y.2.1 ≤ b - n then qv y.2.2.2 else 0)) (b + 1) (movesFrom 0 ks)
    have x1 : (sumTo (b + 1) fun n => ((movesFrom 0 ks).map fun y => u n y.1 * (if y.2.1 ≤ b - n then qv y.2.2.2 else 0)).sum) = sumTo (b + 1) fun n => 1 * ((movesFrom 0 ks).map fun y => u n y.1 * (if y.2.1 ≤ b - n then qv y.2.2.2 else 0)).sum := sumTo_congr fun n _ => by grind
    rw [x1, x]
    refine sumL_congr fun y hy => ?_
    have h1 := hs y hy
    rw [← shift_sum h1 b (fun n => qv y.2.2.2 * u n y.1)]
    refine sumTo_congr fun n _ => ?_
    split <;> grind
  have e4 : (sumTo (b + 1) fun n => sumTo ks.length fun j => u n j) = 1 + sumTo b fun n => sumTo ks.length fun j => u (n + 1) j := by
    rw [sumTo_head]
    congr 1
    have x : (sumTo ks.length fun j => u 0 j) = sumTo ks.length fun j => if j = i then 1 else 0 := sumTo_congr fun j _ => by
      rw [← hu, prQ_zero]
    rw [x, one_at (g := fun _ => 1), if_pos hi]
  have e5 : (sumTo b fun n => sumTo ks.length fun j => u (n + 1) j) = ((movesFrom 0 ks).map fun y => sumTo (b + 1) fun n => if y.2.1 ≤ n then qv y.2.2.2 * u (n - y.2.1) y.1 else 0).sum := by
    have x := sumL_swap (fun _ => 1) (fun n (y : Mv) => if y.2.1 ≤ n + 1 then qv y.2.2.2 * u (n + 1 - y.2.1) y.1 else 0) b (movesFrom 0 ks)
    have x1 : (sumTo b fun n => sumTo ks.length fun j => u (n + 1) j) = sumTo b fun n => 1 * ((movesFrom 0 ks).map fun y => if y.2.1 ≤ n + 1 then qv y.2.2.2 * u (n + 1 - y.2.1) y.1 else 0).sum := sumTo_congr fun n _ => by
      rw [← hu, row_sum hs hm]
      grind
    rw [x1, x]
    refine sumL_congr fun y hy => ?_
    have h1 := hs y hy
    rw [sumTo_head, if_neg (by omega)]
    rw [show ∀ q : Rat, 0 + q = q by intro q; grind]
    exact sumTo_congr fun n _ => by grind
  rw [e1, e2, e3, e4, e5]
  grind

end Fp

set_option Elab.async false
set_option linter.all false
set_option maxRecDepth 100000
set_option maxHeartbeats 4000000
set_option exponentiation.threshold 10000
namespace Fp
open PySem PySem.Spec PyProof.Rows L2
/-! ### zip(xs, ys) of a list and a tuple -/
def Itlt (K : PySem.W.Frag) (a b : Addr) : It :=
  ⟨fun i H => ∃ (xs ys : List V) (x y : V), SqL K H a xs ∧ SqT K H b ys ∧ xs[i]? = some x ∧ ys[i]? = some y,
    fun i H v H2 => ∃ T x y, v = .ref T ∧ H T = none ∧ H2 = upd H T (.tup [x, y]) ∧ (∀ xs, SqL K H a xs → xs[i]? = some x) ∧ ∀ ys, SqT K H b ys → ys[i]? = some y,
    fun i H => ∃ xs ys : List V, SqL K H a xs ∧ SqT K H b ys ∧ i ≤ xs.length ∧ i ≤ ys.length ∧ (i = xs.length ∨ i = ys.length)⟩
theorem walk_lt {K : PySem.W.Frag} {a b : Addr} {xs ys : List V} {n : Nat} (hn : n = min xs.length ys.length) : Walk (Itlt K a b) n (fun H => SqL K H a xs ∧ SqT K H b ys) (YPair (fun i => xs[i]?) (fun i => ys[i]?)) := by
  subst hn
  refine ⟨fun i _ hi q => ⟨xs, ys, xs[i], ys[i], q.1, q.2, List.getElem?_eq_getElem (by omega), List.getElem?_eq_getElem (by omega)⟩, fun _ q => ⟨xs, ys, q.1, q.2, by omega, by omega, by omega⟩, fun i H v H2 _ q y => ?_⟩
  obtain ⟨T, x, y2, y1, y3, y4, y5, y6⟩ := y
  exact ⟨T, x, y2, y1, y3, y4, y5 xs q.1, y6 ys q.2⟩
theorem turn_lt {P : Program} {w : World} {K : PySem.W.Frag} {elts : List Expr} {kk : Nat} {tpos : Pos} {a b z TI TO i1 i2 : Addr} (S : ZipSep2 z TI TO i1 i2 [i1, a] [i2, b]) (na : a ≠ i1) (nb : b ≠ i2) :
    Turn P w K (.Tuple elts kk tpos) (Itlt K a b) [z, TI, TO, i1, i2] z (fun i h => IsZip h z TI TO .none ∧ IsTupOf2 h TI (.ref i1) (.ref i2) ∧ (∃ x y, IsTupOf2 h TO x y) ∧ h.IsListIter i1 a i ∧ h.IsTupleIter i2 b i) where
  mem := by simp
  obj := fun i h st c hc => by
    obtain ⟨zz, zI, ⟨x, y, zO⟩, ⟨o1, e1, _, d1⟩, ⟨o2, e2, _, d2⟩⟩ := st
    rcases (show c = z ∨ c = TI ∨ c = TO ∨ c = i1 ∨ c = i2 by simpa using hc) with q | q | q | q | q
    · rw [q]
      exact ⟨_, zz, fun v q => nomatch q⟩
    · rw [q]
      exact ⟨_, zI, fun v q => nomatch q⟩
    · rw [q]
      exact ⟨_, zO, fun v q => nomatch q⟩
    · rw [q]
      exact ⟨o1, e1, fun v q => by rw [d1] at q; cases q⟩
    · rw [q]
      exact ⟨o2, e2, fun v q => by rw [d2] at q; cases q⟩
  keep := fun i h h2 st kp => by
    obtain ⟨zz, zI, ⟨x, y, zO⟩, j1, j2⟩ := st
    exact ⟨kp z (by simp) _ zz, kp TI (by simp) _ zI, ⟨x, y, kp TO (by simp) _ zO⟩, j1.at fun o q => kp i1 (by simp) o q, j2.at fun o q => kp i2 (by simp) o q⟩
  item := by
    intro Y yP yw yK yc i pn s sl H F I hf st hg
    subst yP yw yK
    obtain ⟨zz, zI, ⟨x0, y0, zO⟩, j1, j2⟩ := st
    obtain ⟨xs, ys, x, y, sx, sy, ex, ey⟩ := hg
    obtain ⟨us, rv, po, _⟩ := I.list sx
    obtain ⟨ws, rw', pw, _⟩ := I.tuple sy
    obtain ⟨u, eu, ru⟩ := rv.get ex
    obtain ⟨u2, eu2, ru2⟩ := rw'.get ey
    have oa : s.heap.IsList a us.toArray := po.isList
    have ob : s.heap.IsTuple b ws.toArray := pw
    have hh : Y.A.in1.handled = none := I.ok.hd yc
    have lz : z < s.heap.objs.size := Heap.lt_size zz
    have l1 : i < us.toArray.size := by
      have := (List.getElem?_eq_some_iff.mp eu).1
      simpa using this
    have l2 : i < ws.toArray.size := by
      have := (List.getElem?_eq_some_iff.mp eu2).1
      simpa using this
    refine wpAny_pyNext_zipD2_item S (Draws.list (A := Y.A.in1) hh i1 a na us.toArray) (Draws.tuple (A := Y.A.in1) hh i2 b nb ws.toArray) zz zI zO ⟨j1, oa⟩ ⟨j2, ob⟩ l1 l2 fun v1 v2 h2 tk q1 q2 zz2 zO2 st1 st2 oT _ kp => ?_
    have e1 : v1 = u := by
      have : us[i]? = some v1 := by simpa using q1
      rw [eu] at this
      exact Option.some.inj this.symm
    have e2 : v2 = u2 := by
      have : ws[i]? = some v2 := by simpa using q2
      rw [eu2] at this
      exact Option.some.inj this.symm
    subst e1 e2
    refine ⟨_, rfl, wpAny_letOwnedTupleGo_zip (s := { s with heap := h2, toks := tk }) zz2 fun h3 zz3 sb => ?_⟩
    have oT3 := (sb.2 _ (Nat.ne_of_gt lz)).trans oT
    have new : ObjOk Y.prog Y.w (upd H s.heap.objs.size (.tup [x, y])) h3 s.heap.objs.size (.tup [x, y]) :=
      ⟨by show 2 ≤ sizeLine; decide, [v1, v2], .cons ru (.cons ru2 .nil), ⟨_, oT3, rfl, _, rfl⟩⟩
    have I3 : Inv Y pn sl (upd H s.heap.objs.size (.tup [x, y])) { s with heap := h3, toks := tk } := by
      refine I.turnedNew (ch := [z, TI, TO, i1, i2]) (fun c o hb q => ?_) hf (Nat.le_refl _) new
      exact (sb.2 c fun y => hb (by simp [y])).trans (kp c o (fun y => hb (by simp [y])) (fun y => hb (by simp [y])) (fun y => hb (by simp [y])) (fun y => hb (by simp [y])) q)
    refine ⟨.ref s.heap.objs.size, _, I3, rfl, ⟨_, x, y, rfl, I.hok.fresh (Nat.le_refl _), rfl, fun l hl => by rw [I.list_inj hl sx]; exact ex, fun l hl => by rw [I.tuple_inj hl sy]; exact ey⟩, ⟨zz3, ?_, ⟨v1, v2, ?_⟩, ?_, ?_⟩, fun c hc => ?_⟩
    · exact (sb.2 _ S.TIz).trans (kp _ _ S.TIz S.TITO S.TIi1 S.TIi2 zI)
    · exact (sb.2 _ S.TOz).trans zO2
    · exact st1.1.at fun o q => (sb.2 _ S.zi1.symm).trans q
    · exact st2.1.at fun o q => (sb.2 _ S.zi2.symm).trans q
    · have lc : c < s.heap.objs.size := by
        rcases (show c = z ∨ c = TI ∨ c = TO ∨ c = i1 ∨ c = i2 by simpa using hc) with q | q | q | q | q
        · rw [q]
          exact lz
        · rw [q]
          exact Heap.lt_size zI
        · rw [q]
          exact Heap.lt_size zO
        · rw [q]
          obtain ⟨_, y1, _⟩ := j1
          exact Heap.lt_size y1
        · rw [q]
          obtain ⟨_, y1, _⟩ := j2
          exact Heap.lt_size y1
      rw [upd_ne (Nat.ne_of_lt lc)]
      exact (hf c hc).1
  done := by
    intro Y yP yw yK yc i pn s sl H F I hf st hg
    subst yP yw yK
    obtain ⟨zz, zI, ⟨x0, y0, zO⟩, j1, j2⟩ := st
    obtain ⟨xs, ys, sx, sy, hx, hy, he⟩ := hg
    obtain ⟨us, rv, po, _⟩ := I.list sx
    obtain ⟨ws, rw', pw, _⟩ := I.tuple sy
    have l1 := rv.length
    have l2 := rw'.length
    have hh : Y.A.in1.handled = none := I.ok.hd yc
    refine wpAny_pyNext_zipD2_end S (Draws.list (A := Y.A.in1) hh i1 a na us.toArray) (Draws.tuple (A := Y.A.in1) hh i2 b nb ws.toArray) zz zI zO ⟨j1, po.isList⟩ ⟨j2, pw⟩ (by rw [List.size_toArray]; omega) (by rw [List.size_toArray]; omega) (by rw [List.size_toArray, List.size_toArray]; omega) fun h2 tk kp => ⟨rfl, I.turnedL (ch := [z, TI, TO, i1, i2]) (fun c o hb q => ?_) hf⟩
    exact kp c o (fun y => hb (by simp [y])) (fun y => hb (by simp [y])) (fun y => hb (by simp [y])) (fun y => hb (by simp [y])) q
  self := fun A2 i s Q F st h => wpAny_pyIter_zip st.1 h
theorem sep5lt {n a b : Nat} (la : a < n) (lb : b < n) : ZipSep2 (n + 4) (n + 2) (n + 3) n (n + 1) [n, a] [n + 1, b] := by
  have no : ∀ {x y z : Nat}, x ≠ y → x ≠ z → x ∉ [y, z] := fun h1 h2 h => by
    rcases List.mem_cons.mp h with q | q
    · exact h1 q
    · exact h2 (List.mem_singleton.mp q)
  have e1 : ∀ {x y : Nat}, x < y → x ≠ y := fun h => Nat.ne_of_lt h
  have e2 : ∀ {x y : Nat}, y < x → x ≠ y := fun h => Nat.ne_of_gt h
  exact ⟨e1 (by omega), e1 (by omega), e1 (by omega), e2 (by omega), List.mem_cons_self .., no (e2 (by omega)) (e2 (by omega)), no (e2 (by omega)) (e2 (by omega)), e2 (by omega), List.mem_cons_self .., no (e2 (by omega)) (e2 (by omega)), no (e2 (by omega)) (e2 (by omega)), no (e1 (by omega)) (e2 (by omega)), no (e2 (by omega)) (e2 (by omega))⟩
def iZipLT (K : PySem.W.Frag) (ta : TA) : TI := fun σ H R => ta σ H fun vs H1 => ∃ a b xs ys, vs = [.ref a, .ref b] ∧ SqL K H1 a xs ∧ SqT K H1 b ys ∧ R (Itlt K a b) H1
theorem pi_zipLT {X : Cx} {e e2 : Expr} {ta : TA} {p pos tpos : Pos} {elts : List Expr} {kk : Nat} (hg : Gl X "zip") (hm : X.mg "zip" = none) (ha : PA X [e, e2] ta)
    (hs : starEach [e, e2] X.env = (false, eval e X.env) :: starEach [e2] X.env := by rfl) (hpl : (backTo pos (starEach [e2] X.env)).any (·.1) = false := by rfl) :
    PI X (.Tuple elts kk tpos) (.Call (.Name "zip" p) [e, e2] [] pos) (iZipLT X.K ta) := by
  refine ⟨fun pn s sl H R I h => Call_ (ld_blt I hg hm PyProof.Rows.boot_zip (PyProof.Rows.callWith_type1 (thn (ha.run pos pn s sl H _ I h) fun us s1 z1 => ?_) hs hpl))⟩
  obtain ⟨vs, H1, I1, r1, a, b, xs, ys, rfl, sx, sy, q⟩ := z1
  cases r1 with
  | cons ra rn =>
    cases rn with
    | cons rb rn =>
      cases rn
      cases ra
      cases rb
      obtain ⟨us, rv, po, _⟩ := I1.list sx
      obtain ⟨ws, rw', pw, _⟩ := I1.tuple sy
      have oa : s1.heap.IsTuple b ws.toArray := pw
      obtain ⟨o1, q1, _⟩ := id oa
      have la : a < s1.heap.objs.size := po.lt
      have lb : b < s1.heap.objs.size := Heap.lt_size q1
      refine zip_begins2 (begins_list a us.toArray) (begins_tuple b ws.toArray) po.isList oa fun h2 zz zI zO g1 g2 _ kp => wpAny_pyIter_zip zz ?_
      have I2 : Inv X pn sl H1 { s1 with heap := h2 } := I1.kept (t' := s1.toks) kp
      have S : ZipSep2 (s1.heap.objs.size + 4) (s1.heap.objs.size + 2) (s1.heap.objs.size + 3) s1.heap.objs.size (s1.heap.objs.size + 1) [s1.heap.objs.size, a] [s1.heap.objs.size + 1, b] := sep5lt la lb
      refine ⟨s1.heap.objs.size + 4, [s1.heap.objs.size + 4, s1.heap.objs.size + 2, s1.heap.objs.size + 3, s1.heap.objs.size, s1.heap.objs.size + 1], _, _, H1, rfl, I2, turn_lt S (Nat.ne_of_lt la) (Nat.ne_of_lt (Nat.lt_succ_of_lt lb)), ⟨zz, zI, ⟨_, _, zO⟩, ⟨_, g1, rfl, rfl⟩, ⟨_, g2, rfl, rfl⟩⟩, fun c hc => ?_, q⟩
      have hl : s1.heap.objs.size ≤ c := by
        rcases (show c = s1.heap.objs.size + 4 ∨ c = s1.heap.objs.size + 2 ∨ c = s1.heap.objs.size + 3 ∨ c = s1.heap.objs.size ∨ c = s1.heap.objs.size + 1 by simpa using hc) with y | y | y | y | y <;> (rw [y]; omega)
      exact I1.fpOk hl (I1.hok.fresh hl)

end Fp

set_option Elab.async false
set_option linter.all false
set_option maxRecDepth 100000
set_option maxHeartbeats 4000000
set_option exponentiation.threshold 10000
namespace Fp
open PySem PySem.Spec PyProof.Rows L2
/-! ### drawn kinds, wide ones too, may be put -/
theorem kds_tk {K : PySem.W.Frag} {H H' : Hp} {p : Addr} {ks : List (List Tri)} (h : KdsA K H p ks) (e : Same H H') : KdsA K H' p ks := kdsA_stays _ _ _ _ (Tk.same e) h
def KW (ks : List (List Tri)) : Prop := ks.length ≤ 4 ∧ ∀ ts ∈ ks, KdW ks.length ts
theorem kds_sh {ks : List (List Tri)} {m : Nat} (hl : ks.length ≤ 4) (h : ∀ ts ∈ ks, KdW m ts) (hm : m ≤ 60) : Sh 800000 4 (kdsD ks) := by
  refine (Shs.map (c := 194500) (k := 3) (N := 4) (fun ts hts => ?_) hl).tup.mono (by decide) (by decide)
  have kd := h ts hts
  refine (Shs.map (c := 8100) (k := 2) (N := 24) (fun t ht => ?_) kd.len).tup.mono (by decide) (by decide)
  obtain ⟨T, t0, t1, htt⟩ := kd.tot
  obtain ⟨⟨a1, a2⟩, a3, v, v1, v2, e⟩ := htt t ht
  refine triD_sh (by omega) (by omega) ?_
  rw [e]
  exact low2_sm (n := 1900) t0 (Sm.mono (n := 8) (by unfold Sm; omega) (by decide)) (Sm.mono (n := 8) (by unfold Sm; omega) (by decide))
theorem kinds_PW {m : Nat} : ∀ (ks : List (List Tri)) (k : Nat), (∀ ts ∈ ks, KdW m ts) → ∃ P : Int, (0 < P ∧ P ≤ 200 ^ ks.length) ∧ (movesFrom k ks).length ≤ 24 * ks.length ∧ ∀ y ∈ movesFrom k ks, Red y.2.2.2 ∧ Sz P 0 (qv y.2.2.2) ∧ 1 ≤ y.2.1 ∧ y.1 < k + ks.length ∧ y.2.2.1 < m
  | [], k, _ => ⟨1, ⟨by decide, by decide⟩, Nat.le_refl _, fun y hy => by cases hy⟩
  | ts :: r, k, h => by
    obtain ⟨P, ⟨p0, p1⟩, hl, hy⟩ := kinds_PW r (k + 1) fun u hu => h u (List.mem_cons_of_mem _ hu)
    obtain ⟨len, T, t0, t1, ht⟩ := h ts (List.mem_cons_self ..)
    have hTP : 0 < T * P := Int.mul_pos t0 p0
    refine ⟨T * P, ⟨hTP, ?_⟩, ?_, fun y hy2 => ?_⟩
    · rw [List.length_cons, Int.pow_succ, Int.mul_comm]
      exact Int.mul_le_mul p1 t1 (by omega) (Int.le_of_lt (Int.pow_pos (by decide)))
    · show (ts.map (fun t => ((k, t) : Mv)) ++ movesFrom (k + 1) r).length ≤ _
      rw [List.length_append, List.length_map, List.length_cons]
      omega
    · rcases List.mem_append.mp (show y ∈ ts.map (fun t => ((k, t) : Mv)) ++ movesFrom (k + 1) r from hy2) with z | z
      · obtain ⟨t, htm, rfl⟩ := List.mem_map.mp z
        obtain ⟨⟨a1, a2⟩, a3, v, v1, v2, e⟩ := ht t htm
        obtain ⟨d0, d1⟩ := div_01 (show 0 ≤ v by omega) t0 v2
        refine ⟨by show Red t.2.2; rw [e]; exact low2_red (Int.ne_of_gt t0), ?_, a1, by show k < k + (r.length + 1); omega, a3⟩
        show Sz (T * P) 0 (qv t.2.2)
        rw [e, qv_low2 t0]
        exact (Sz.pos (P := T) ⟨v, rfl⟩ d0 (by rw [Rat.pow_zero]; exact d1)).dvd t0 hTP (Int.dvd_mul_right ..)
      · obtain ⟨b1, b2, b3, b4, b5⟩ := hy y z
        refine ⟨b1, b2.dvd p0 hTP (Int.dvd_mul_left ..), b3, by rw [List.length_cons]; omega, b5⟩
theorem kinds_okW {ks : List (List Tri)} (h : KW ks) : ∃ P : Int, MvOk P ks.length (movesFrom 0 ks) := by
  obtain ⟨hl, h⟩ := h
  obtain ⟨P, ⟨p0, p1⟩, hlen, hy⟩ := kinds_PW ks 0 h
  refine ⟨P, p0, ?_, by omega, fun y h2 => (hy y h2).1, fun y h2 => (hy y h2).2.1, fun y h2 => (hy y h2).2.2.1, fun y h2 => ?_⟩
  · have e : (200 : Int) ^ ks.length ≤ 200 ^ 4 := by
      rcases (by omega : ks.length = 0 ∨ ks.length = 1 ∨ ks.length = 2 ∨ ks.length = 3 ∨ ks.length = 4) with z | z | z | z | z <;> (rw [z]; decide)
    have e4 : (200 : Int) ^ 4 = 1600000000 := by decide
    unfold Sm
    have e24 : (2 : Nat) ^ 32 = 4294967296 := by decide
    omega
  · obtain ⟨_, _, _, b4, b5⟩ := hy y h2
    exact ⟨by omega, by omega⟩
theorem kds_drawn {m : Nat} {ks : List (List Tri)} (h : ∀ ts ∈ ks, KdOk m ts) (hl : ks.length = m) (hm : m ≤ 4) : KW ks := ⟨by omega, fun ts hts => by rw [hl]; exact (h ts hts).w⟩
theorem tta_stays {K : PySem.W.Frag} : Stays K (TTA K) := fun H H' p y e h => by
  obtain ⟨rs, h1, h2⟩ := h
  exact ⟨rs, e _ _ h1, h2.tk rowA_stays e⟩

end Fp

set_option Elab.async false
set_option linter.all false
set_option maxRecDepth 100000
set_option maxHeartbeats 4000000
set_option exponentiation.threshold 10000
namespace Fp
open PySem PySem.Spec PyProof.Rows L2
/-! ### the law's own puts, by the first step -/
theorem mem_moves {t : Tri} {ts : List Tri} : ∀ {ks : List (List Tri)} {k i : Nat}, ks[i]? = some ts → t ∈ ts → (k + i, t) ∈ movesFrom k ks
  | [], k, i, h, _ => by simp at h
  | us :: r, k, 0, h, ht => by
    cases Option.some.inj h
    exact List.mem_append_left _ (List.mem_map.mpr ⟨t, ht, rfl⟩)
  | us :: r, k, i + 1, h, ht => by
    have := mem_moves (ks := r) (k := k + 1) (i := i) h ht
    rw [show k + 1 + i = k + (i + 1) by omega] at this
    exact List.mem_append_right _ this
def accB (ks : List (List Tri)) (b f : Nat) (ts : List Tri) (j : Nat) : Rat := (if b = 0 ∧ j = f then 1 else 0) + (ts.map fun t => if t.1 ≤ b then qv t.2.2 * prQ (movesFrom 0 ks) t.2.1 none (b - t.1) j else 0).sum
theorem accB_snoc (ks : List (List Tri)) (b f : Nat) (ts : List Tri) (t : Tri) (j : Nat) : accB ks b f (ts ++ [t]) j = accB ks b f ts j + if t.1 ≤ b then qv t.2.2 * prQ (movesFrom 0 ks) t.2.1 none (b - t.1) j else 0 := by
  unfold accB
  rw [List.map_append, List.map_cons, List.map_nil, sum_snoc]
  grind
theorem accB_nil (ks : List (List Tri)) (b f j : Nat) : accB ks b f [] j = if b = 0 ∧ j = f then 1 else 0 := by
  unfold accB
  show _ + (0 : Rat) = _
  grind
theorem q_sz {ks : List (List Tri)} {P0 : Int} (M : MvOk P0 ks.length (movesFrom 0 ks)) {i : Nat} {ts : List Tri} (h : ks[i]? = some ts) {t : Tri} (ht : t ∈ ts) : Sz P0 0 (qv t.2.2) ∧ Red t.2.2 ∧ 1 ≤ t.1 ∧ t.2.1 < ks.length := by
  have m := mem_moves (k := 0) h ht
  exact ⟨M.sz _ m, M.red _ m, M.st _ m, (M.kd _ m).2⟩
theorem MvOk.p21 {P : Int} {m : Nat} {mv : List Mv} (M : MvOk P m mv) : 0 < P * P ^ 20 ∧ Sm 673 (P * P ^ 20) := ⟨Int.mul_pos M.pos (Int.pow_pos M.pos), (M.sm.mul (M.p20.2)).mono (by decide)⟩
theorem accB_sz {ks : List (List Tri)} {P0 : Int} (M : MvOk P0 ks.length (movesFrom 0 ks)) {i : Nat} {ts : List Tri} (h : ks[i]? = some ts) (hl : ts.length ≤ 128) {b : Nat} (hb : b ≤ 20) (f k j : Nat) : Sz (P0 * P0 ^ 20) 148 (accB ks b f (ts.take k) j) := by
  unfold accB
  refine Sz.add (k := 147) M.p21.1 ?_ ?_
  · split
    · exact Sz.one M.p21.1
    · exact Sz.nought
  · refine Sz.sumL (k := 140) M.p21.1 (fun t ht => ?_) (by rw [List.length_take]; omega)
    split
    · have x := (q_sz M h (List.mem_of_mem_take ht)).1.mul M.pos M.p20.1 (pr_sz20 M t.2.1 none (show b - t.1 ≤ 20 by omega) j)
      rw [Nat.zero_add] at x
      exact x
    · exact Sz.nought
theorem bit_at {K : PySem.W.Frag} {H : Hp} {t : Addr} (c : Bool) : RAt K (upd H t (.tup [.int (if c = true then 1 else 0), .int 1])) t (rdq (if c = true then 1 else 0)) := by
  cases c
  · rw [if_neg (by decide), if_neg (by decide), rdq_zero.mpr rfl]
    exact SqT.of upd_same
  · rw [if_pos rfl, if_pos rfl, (is_rdq one_red qv_one).symm]
    exact SqT.of upd_same
theorem prRows_at {ks : List (List Tri)} {first most i : Nat} (h : i ≤ most) : (prRows ks first most)[i]? = some (mkL ks.length (prQ (movesFrom 0 ks) first none i)) := by
  unfold prRows
  rw [List.getElem?_map, List.getElem?_range (by omega)]
  rfl
section
variable {P : Program} {w : World} {K : PySem.W.Frag} {mg : Str → Option Value} {base : Heap} {aN aO : Addr}
def rowB (ks : List (List Tri)) (n : Nat) : List (List RT) := (List.range ks.length).map fun f => mkL ks.length (prQ (movesFrom 0 ks) f none n)
def spPb (K : PySem.W.Frag) : Sp := fun vs H Q _ => ∃ (p : Addr) (ks : List (List Tri)) (beats : Nat) (P0 : Int), vs = [.ref p, .int (beats : Int)] ∧ KdsA K H p ks ∧ MvOk P0 ks.length (movesFrom 0 ks) ∧ KW ks ∧ beats ≤ 20 ∧
  ∀ z H', Same H H' → OLs (TTA K) H' z ((List.range ks.length).map fun f => prRows ks f beats) → Q (.ref z) H'
end

end Fp

set_option Elab.async false
set_option linter.all false
set_option maxRecDepth 100000
set_option maxHeartbeats 4000000
set_option exponentiation.threshold 10000
namespace Fp
open PySem PySem.Spec PyProof.Rows L2
/-! ### how a life lasts, told by its chances alone -/
def lastQ (a : Nat → Rat) (k : Nat) : Rat := 1 - sumTo k a
abbrev s_ls : Stmt := topS 18
abbrev N_ls : List Str := ["life", "most", "tops", "bottom", "left", "told", "top"]
theorem sc_ls : FnScope N_ls ["life", "most"] (defScope s_ls) := ⟨rfl, rfl, rfl, by decide +kernel, rfl, by decide +kernel, by decide +kernel⟩
section
variable {P : Program} {w : World} {K : PySem.W.Frag} {mg : Str → Option Value} {base : Heap} {aN aO : Addr}
def spLst2 (K : PySem.W.Frag) : Sp := fun vs H Q _ => ∃ (p : Addr) (row : List RT) (step : RT) (n most : Nat) (D : Int), vs = [.ref p, .int (most : Int)] ∧ LifeAt K H p row step ∧ LifeOk n row step ∧ 0 < D ∧ Sm 60 D ∧ (∀ j, j < most → Sz D 7 (chR row step j)) ∧ most ≤ 20 ∧
  ∀ z H', Same H H' → LsM K H' z (mkL (most + 1) (lastQ (chR row step))) → Q (.ref z) H'
theorem ok_ls {f fOB fCT fR : Addr} {fd fdOB fdCT fdR : FuncData} (F : Fun K "lastings_to" "lastings_to" s_ls f fd) (C : Consts K mg aN aO)
    (FOB : Fun K "on_one_bottom" "on_one_bottom" s_oob fOB fdOB) (bOB : Binds K fdOB ["told"] []) (gOB : mg "on_one_bottom" = some (.ref fOB)) (GOB : FnOk P w K mg base CX0 2 fOB fdOB ["told"] (spOob K))
    (FCT : Fun K "chances_to" "chances_to" s_chto fCT fdCT) (bCT : Binds K fdCT ["life", "most"] []) (gCT : mg "chances_to" = some (.ref fCT)) (GCT : FnOk P w K mg base CX0 4 fCT fdCT ["life", "most"] (spChto K))
    (FR : Fun K "ratio" "ratio" s_ratio fR fdR) (bR : Binds K fdR ["top", "bottom"] []) (gR : mg "ratio" = some (.ref fR)) (GR : FnOk P w K mg base CX0 2 fR fdR ["top", "bottom"] spRat0)
    : FnOk P w K mg base CX0 5 f fd ["life", "most"] (spLst2 K) := by
  refine F.ok sc_ls (fun vs H Q E h => ?_) (fun cdv A outer s H vs Q E hr h => ?_)
  · obtain ⟨_, _, _, _, _, _, rfl, _⟩ := h
    rfl
  · obtain ⟨p, row, step, n, most, D, rfl, hlife, L, D0, Ds, Dz, hm, q⟩ := h
    refine ⟨_, (pss_cons (ps_asg (pe_call GOB (hr.mono (by decide)) (by rfl) gOB FOB.kp bOB .nil pass0 (pa_cons (pe_call GCT hr (by rfl) gCT FCT.kp bCT .nil pass0 (pa_cons (pv 0) (pa_cons (pv 1) pa_nil))) pa_nil)) (pg_tup rfl (pgs_cons (pg_name (i := 2) sc_ls.nd rfl (.inl rfl)) (pgs_cons (pg_name (i := 3) sc_ls.nd rfl (.inl rfl)) pgs_nil))))
      (pss_cons (ps_set (i := 4) sc_ls.nd rfl (.inl rfl) (pv 3))
      (pss_cons (ps_set (i := 5) sc_ls.nd rfl (.inl rfl) (pe_lst (pa_cons (pe_glob (v := .ref aO) rfl C.gO rfl) pa_nil)))
      (pss_cons (ps_for PassesOwn.never rfl (pi_list (pv 2)) (pg_name (i := 6) sc_ls.nd rfl (.inl rfl)) (pss_cons (ps_aug (i := 4) sc_ls.nd rfl (.inl rfl) (pv 6) ip_sub)
      (pss_one (ps_expr (pe_bm PySem.F.plainAttrs_list PySem.F.slot_list_append PySem.F.type_list_append mt_append (pv 5) (pa_cons (pe_call GR (hr.mono (by decide)) (by rfl) gR FR.kp bR .nil pass0 (pa_cons (pv 4) (pa_cons (pv 3) pa_nil))) pa_nil))))))
      (pss_one (ps_ret (pv 5))))))), ?_⟩
    refine ⟨_, rfl, _, rfl, p, row, step, n, most, rfl, hlife, L, by omega, fun ch rs chs H1 s1 hch hrs his => ?_⟩
    rw [his.told] at hrs
    generalize ea : chR row step = a at *
    refine tnil_go ?_
    refine oob_go (K := K) (k := 7) ⟨rs, hch, hrs⟩ D0 Ds (fun j hj => Dz j hj) (by omega) (by decide) (by decide) fun z2 zu c U H2 s2 hz2 hzu c0 cD sc uv us => ?_
    refine ⟨z2, _, rfl, SqT.of hz2, rfl, _, _, rfl, _, _, rfl, rfl, ?_⟩
    refine ⟨_, rfl, ?_⟩
    refine ⟨by show 1 ≤ sizeLine; decide, fun tl ntl => ?_⟩
    have e3 := same_new (o := HO.lst [.ref aO]) ntl
    have one : rdq 1 = (1, 1) := (is_rdq one_red qv_one).symm
    have htl0 : LsM K (upd H2 tl (HO.lst [.ref aO])) tl (mkL (0 + 1) (lastQ a)) := by
      refine ⟨[aO], upd_same, ?_⟩
      have e : mkL (0 + 1) (lastQ a) = [(1, 1)] := by
        show [rdq (1 - sumTo 0 a)] = _
        rw [sumTo_zero, show (1 : Rat) - 0 = 1 by decide +kernel, one]
      rw [e]
      exact .cons (C.tO _) .nil
    refine ⟨_, rfl, zu, rfl, ⟨_, SqL.of (e3 _ _ hzu)⟩, ?_⟩
    refine for_list (K := K) (a := zu) (xs := (mkI most U).map V.int) (fun i σ HB => ∃ z6 : Option V, σ = [some (.ref p), some (.int (most : Int)), some (.ref zu), some (.int c), some (.int (c - (mkI i U).sum)), some (.ref tl), z6] ∧ Same H2 HB ∧ LsM K HB tl (mkL (i + 1) (lastQ a))) ?_ ?_ ?_ ?_
    · refine ⟨none, ?_, e3, htl0⟩
      rw [show c - (mkI 0 U).sum = c by show c - 0 = c; omega]
      rfl
    · rintro i σ HB _ ⟨z6, _, sB, _⟩
      exact SqL.of (sB _ _ hzu)
    · rintro i y σ HB hy ⟨z6, rfl, sB, htl⟩
      have hi : i < most := by
        have := (List.getElem?_eq_some_iff.mp hy).1
        rw [List.length_map, mkI_len] at this
        exact this
      rw [List.getElem?_map, mkI_at hi] at hy
      cases Option.some.inj hy
      obtain ⟨ts', ht1, ht2⟩ := id htl
      refine ⟨_, rfl, _, rfl, _, _, rfl, rfl, ?_⟩
      refine ⟨_, rfl, .inl ⟨rfl, _, SqL.of ht1⟩, ?_⟩
      refine ⟨_, rfl, _, rfl, ?_⟩
      refine tnil_go ?_
      have es : c - (mkI i U).sum - U i = c - (mkI (i + 1) U).sum := by
        rw [mkI_succ, List.sum_append, List.sum_singleton]
        omega
      have ev : ((c - (mkI i U).sum - U i : Int) : Rat) = lastQ a (i + 1) * (c : Rat) := by
        rw [es, Rat.intCast_sub, mkI_sum, sumTo_congr (g := fun j => (c : Rat) * a j) fun j hj => uv j (by omega), ← sumTo_mul]
        unfold lastQ
        grind
      refine rat_go (K := K) c0 (sc.mono (m := 8000) (by decide)) ev fun r H6 s6 hr => ?_
      have ht6 := s6 _ _ ht1
      have hl2 := ht2.length
      rw [mkL_len] at hl2
      refine ⟨tl, _, _, rfl, rfl, ht6, by rw [List.length_map, hl2]; exact small1000 (by omega), ?_⟩
      refine ⟨some (.int (U i)), by rw [← es]; rfl, ?_, ?_⟩
      · intro b2 o hb2
        rw [upd_ne (ne_of_none hb2 ntl)]
        exact (sB.trans s6) _ _ hb2
      · rw [mkL_succ]
        exact LsM.push ht6 (ht2.tk (Tk.same s6)) hr
    · rintro σ HB ⟨z6, rfl, sB, htl⟩
      rw [List.length_map, mkI_len] at htl
      exact ⟨_, rfl, q tl HB (s1.trans (s2.trans sB)) htl⟩
end

end Fp

set_option Elab.async false
set_option linter.all false
set_option maxRecDepth 100000
set_option maxHeartbeats 4000000
set_option exponentiation.threshold 10000
namespace Fp
open PySem PySem.Spec PyProof.Rows L2
/-! ### what stands, by its kind -/
def stKQ (ks : List (List Tri)) (first beat j : Nat) : Rat := sumTo (beat + 1) fun n => prQ (movesFrom 0 ks) first none n j * lastK ((ks[j]?).getD []) (beat - n)
theorem rest_rdq (g : Rat) : ((rdq g).2 - (rdq g).1, (rdq g).2) = rdq (1 - g) := by
  obtain ⟨h1, h2⟩ := rdq_red g
  refine is_rdq ⟨h1, ?_⟩ ?_
  · show Int.gcd ((rdq g).2 - (rdq g).1) (rdq g).2 = 1
    rw [Int.gcd_comm, Int.gcd_self_sub_right, Int.gcd_comm]
    exact h2
  · have e := qv_rdq g
    unfold qv at *
    have hn := cast_ne (Int.ne_of_gt h1)
    show (((rdq g).2 - (rdq g).1 : Int) : Rat) / ((rdq g).2 : Rat) = 1 - g
    rw [Rat.intCast_sub, ← e]
    grind
theorem kind_at {ks : List (List Tri)} {j : Nat} {ts : List Tri} (h : ks[j]? = some ts) : (ks[j]?).getD [] = ts := by
  rw [h]
  rfl
abbrev s_ks : Stmt := topS 38
abbrev N_ks : List Str := ["kinds", "first", "beat", "rows", "told", "kind", "lasts", "row", "last"]
theorem sc_ks : FnScope N_ks ["kinds", "first", "beat"] (defScope s_ks) := ⟨rfl, rfl, rfl, by decide +kernel, rfl, by decide +kernel, by decide +kernel⟩
section
variable {P : Program} {w : World} {K : PySem.W.Frag} {mg : Str → Option Value} {base : Heap} {aN aO : Addr}
theorem addL_go55 {H : Hp} {Q : VK} {p : Addr} {P : Int} {n s k : Nat} {f : Nat → Rat} (h : LsM K H p (mkL n f)) (hP : 0 < P) (sP : Sm s P) (z : ∀ j, j < n → Sz P k (f j)) (hn : n ≤ 1000) (hs : s ≤ 2500) (hk : k ≤ 900)
    (q : ∀ r H', Same H H' → RAt K H' r (rdq (sumTo n f)) → Q (.ref r) H') : spAdded K [.ref p] H Q E0 := by
  obtain ⟨rs, h1, h2⟩ := h
  refine ⟨p, _, _, _, P, rfl, ⟨rs, SqL.of h1, h2⟩, over_mkL hP sP z hn, by omega, by omega, fun y x HF sF hy rx vx _ _ => ?_⟩
  have ex : x = rdq (sumTo n f) := is_rdq rx (by rw [vx, mkL_sum])
  rw [ex] at hy
  exact q y HF sF hy
def spKs (K : PySem.W.Frag) : Sp := fun vs H Q _ => ∃ (p : Addr) (ks : List (List Tri)) (first beat : Nat) (P0 : Int), vs = [.ref p, .int (first : Int), .int (beat : Int)] ∧ KdsA K H p ks ∧ MvOk P0 ks.length (movesFrom 0 ks) ∧ KW ks ∧ beat ≤ 20 ∧
  ∀ z H', Same H H' → RowAt K H' z (mkL ks.length (stKQ ks first beat)) → Q (.ref z) H'
theorem ok_ks {f fPR fLS fKL fAD fT : Addr} {fd fdPR fdLS fdKL fdAD fdT : FuncData} (F : Fun K "kind_stands" "kind_stands" s_ks f fd)
    (FPR : Fun K "put_rows" "put_rows" s_pr fPR fdPR) (bPR : Binds K fdPR ["kinds", "first", "most", "shut"] []) (gPR : mg "put_rows" = some (.ref fPR)) (GPR : FnOk P w K mg base CX0 3 fPR fdPR ["kinds", "first", "most", "shut"] (spPr K))
    (FLS : Fun K "lastings_to" "lastings_to" s_ls fLS fdLS) (bLS : Binds K fdLS ["life", "most"] []) (gLS : mg "lastings_to" = some (.ref fLS)) (GLS : FnOk P w K mg base CX0 5 fLS fdLS ["life", "most"] (spLst2 K))
    (FKL : Fun K "kind_life" "kind_life" s_kl fKL fdKL) (bKL : Binds K fdKL ["kinds", "kind"] []) (gKL : mg "kind_life" = some (.ref fKL)) (GKL : FnOk P w K mg base CX0 4 fKL fdKL ["kinds", "kind"] (spKl K))
    (FAD : Fun K "added" "added" s_added fAD fdAD) (bAD : Binds K fdAD ["told"] []) (gAD : mg "added" = some (.ref fAD)) (GAD : FnOk P w K mg base CX0 3 fAD fdAD ["told"] (spAdded K))
    (FT : Fun K "times" "times" s_times fT fdT) (bT : Binds K fdT ["one", "other"] []) (gT : mg "times" = some (.ref fT)) (GT : FnOk P w K mg base CX0 3 fT fdT ["one", "other"] (spTwo K (fun a b c d => a * c)))
    (n_len : mg "len" = none) (n_range : mg "range" = none) (n_tuple : mg "tuple" = none) (n_zip : mg "zip" = none) : FnOk P w K mg base CX0 6 f fd ["kinds", "first", "beat"] (spKs K) := by
  refine F.ok sc_ks (fun vs H Q E h => ?_) (fun cdv A outer s H vs Q E hr h => ?_)
  · obtain ⟨_, _, _, _, _, rfl, _⟩ := h
    rfl
  · obtain ⟨p, ks, first, beat, P0, rfl, hk, M, hkw, hb, q⟩ := h
    refine ⟨_, (pss_cons (ps_set (i := 3) sc_ks.nd rfl (.inl rfl) (pe_call GPR (hr.mono (by decide)) (by rfl) gPR FPR.kp bPR .nil pass0 (pa_cons (pv 0) (pa_cons (pv 1) (pa_cons (pv 2) (pa_cons pe_non pa_nil))))))
      (pss_cons (ps_set (i := 4) sc_ks.nd rfl (.inl rfl) (pe_lst pa_nil))
      (pss_cons (ps_for PassesOwn.never rfl (pi_range1 (by rfl) n_range (pa_cons (pe_callB call_len_seq (by rfl) n_len PySem.boot_len (pa_cons (pv 0) pa_nil)) pa_nil)) (pg_name (i := 5) sc_ks.nd rfl (.inr rfl)) (pss_cons (ps_set (i := 6) sc_ks.nd rfl (.inl rfl) (pe_call GLS hr (by rfl) gLS FLS.kp bLS .nil pass0 (pa_cons (pe_call GKL (hr.mono (by decide)) (by rfl) gKL FKL.kp bKL .nil pass0 (pa_cons (pv 0) (pa_cons (pv 5) pa_nil))) (pa_cons (pv 2) pa_nil))))
      (pss_one (ps_expr (pe_bm PySem.F.plainAttrs_list PySem.F.slot_list_append PySem.F.type_list_append mt_append (pv 4) (pa_cons (pe_call GAD (hr.mono (by decide)) (by rfl) gAD FAD.kp bAD .nil pass0 (pa_cons (pe_lc (own := [("row", 7), ("last", 8)]) (g := (gTup K 2 (gCons (gName 7) (gCons (gName 8) gNil)))) (tt := tYes) (te := (tCall (spTwo K (fun a b c d => a * c)) [] E0 (tCons (tOp (rIxL K) (tVar 7) (tVar 5)) (tCons (tVar 8) tNil)))) rfl sc_ks.nd (pi_zip (by rfl) n_zip (pa_cons (pv 3) (pa_cons (pe_revL (pv 6)) pa_nil))) (blkOk_by (own := [("row", 7), ("last", 8)]) (N := N_ks) (sc := (defScope s_ks)) (by decide +kernel)) (fun _ _ _ _ _ => (pg_tup rfl (pgs_cons (pg_name (i := 7) sc_ks.nd rfl (.inl rfl)) (pgs_cons (pg_name (i := 8) sc_ks.nd rfl (.inl rfl)) pgs_nil)))) (fun _ _ _ _ _ => pts_nil) (fun _ _ _ _ _ => (pe_call GT (hr.mono (by decide)) (by rfl) gT FT.kp bT .nil pass0 (pa_cons (pe_ix ix_list (pv 7) (pv 5) (fun _ _ => rfl)) (pa_cons (pv 8) pa_nil))))) pa_nil)) pa_nil))))))
      (pss_one (ps_ret (pe_callTy call_tuple_of (by rfl) n_tuple (by decide +kernel) (pa_cons (pv 4) pa_nil))))))), ?_⟩
    obtain ⟨rs, hp1, hp2⟩ := id hk
    have hrl := hp2.1
    obtain ⟨hk4, hkd⟩ := hkw
    obtain ⟨P20, sP20⟩ := M.p20
    obtain ⟨P21, sP21⟩ := M.p21
    refine ⟨_, rfl, _, rfl, _, rfl, ?_⟩
    refine tC_go ?_
    refine tnil_go ?_
    refine ⟨p, ks, first, beat, none, P0, rfl, hk, M, by omega, hb, fun D H1 fs s1 hD hfl hfs => ?_⟩
    refine ⟨by show 0 ≤ sizeLine; decide, fun tl ntl => ?_⟩
    have e2 := same_new (o := HO.lst []) ntl
    have ntl0 : H tl = none := s1.free ntl
    refine ⟨_, rfl, p, _, rfl, .inr (sqT_same (s1.trans e2) hp1), ?_⟩
    refine tnil_go ?_
    rw [List.length_map, hrl]
    refine ⟨_, rfl, by omega, by omega, ?_⟩
    refine for_range (lo := 0) (n := ((ks.length : Nat) : Int).toNat) (fun j σ HB => ∃ (z5 z6 : Option V), σ = [some (.ref p), some (.int (first : Int)), some (.int (beat : Int)), some (.ref D), some (.ref tl), z5, z6, none, none] ∧ Same H1 HB ∧ LsM K HB tl (mkL j (stKQ ks first beat))) ⟨none, none, rfl, e2, [], upd_same, .nil⟩ ?_ ?_
    · rintro j σ HB hj ⟨z5, z6, rfl, sB, hB⟩
      have hj4 : j < ks.length := by omega
      obtain ⟨ts, ets⟩ : ∃ ts, ks[j]? = some ts := ⟨_, List.getElem?_eq_getElem hj4⟩
      have kd := hkd ts (List.mem_of_getElem? ets)
      have hlen := kd.len
      obtain ⟨PT, F0⟩ := kd.fit
      obtain ⟨T, _, _, htt⟩ := kd.tot
      have S1 := s1.trans sB
      refine ⟨_, rfl, _, rfl, p, ks, ts, j, PT, (by show [V.ref p, V.int (0 + (j : Int))] = _; rw [Int.zero_add]), kds_tk hk S1, ets, F0.pos, F0.sm.mono (by decide), F0.sz, fun t ht => ?_, by omega, fun zl HG M0 sG hM1 hM2 hl => ?_⟩
      · obtain ⟨⟨a1, a2⟩, _⟩ := htt t ht
        exact ⟨a1, by omega⟩
      have hM6 : M0 ≤ 6 := by
        rcases hM2 with u | ⟨t, ht, u⟩
        · omega
        · have := (htt t ht).1.2
          omega
      have hch : ∀ i, chR (trimZ (mkL M0 (klQ ts))) (0, 1) i = klQ ts i := fun i => chR_trim (fun j hj => kl_far hM1 hj) i
      have lok : LifeOk 40 (trimZ (mkL M0 (klQ ts))) (0, 1) := by
        refine ⟨fun y hy => ?_, ⟨nought_sm (by decide), by show (0 : Int) ≤ 0; decide, by show (0 : Int) < 1; decide⟩, ?_, by decide, by decide⟩
        · obtain ⟨i, _, rfl⟩ := mem_mkL (trimZ_mem rfl y hy)
          exact (F0.kl (by omega) i).smr F0.pos F0.sm (by decide)
        · have := trimZ_len (xs := mkL M0 (klQ ts)) rfl
          rw [mkL_len] at this
          omega
      have hlast : ∀ i, lastQ (chR (trimZ (mkL M0 (klQ ts))) (0, 1)) i = lastK ts i := fun i => by
        unfold lastQ lastK
        rw [sumTo_congr fun k _ => hch k, kl_sum (fun t ht => (htt t ht).1.1)]
      refine ⟨_, rfl, zl, _, (0, 1), 40, beat, PT, rfl, hl, lok, F0.pos, F0.sm.mono (by decide), fun i _ => by rw [hch]; exact F0.kl (by omega) i, hb, fun la H3 s3 hla => ?_⟩
      rw [mkL_congr fun i _ => hlast i] at hla
      obtain ⟨ls, l1, l2⟩ := hla
      have hll := l2.length
      rw [mkL_len] at hll
      have S3 := sG.trans s3
      obtain ⟨us, u1, u2⟩ := id (hB.same S3)
      have hul := u2.length
      rw [mkL_len] at hul
      refine ⟨_, rfl, .inl ⟨rfl, _, SqL.of u1⟩, ?_⟩
      refine ⟨_, rfl, _, rfl, la, _, rfl, SqL.of l1, fun rv nrv => ?_⟩
      have e4 := same_new (o := HO.lst (ls.map V.ref).reverse) nrv
      refine tnil_go ?_
      have sD3 := sB.trans (S3.trans e4)
      refine ⟨D, rv, _, _, rfl, SqL.of (sD3 _ _ hD), SqL.of upd_same, ?_⟩
      have lz : ∀ i, Sz PT 8 (lastK ts i) := fun i => by
        unfold lastK
        rw [show ∀ a : Rat, 1 - a = 1 + -a by intro a; grind]
        exact (Sz.one F0.pos).add F0.pos ((F0.sumIf (fun t ht => ht) (by omega) _).neg)
      have pz : ∀ n, n ≤ beat → Sz (P0 ^ 20) 140 (prQ (movesFrom 0 ks) first none n j) := fun n hn => pr_sz20 M first none (by omega) j
      refine lc_mkW (K := K) (walk_zip (K := K) (a := D) (b := rv) (xs := fs.map V.ref) (ys := (ls.map V.ref).reverse) (n := beat + 1) (by rw [List.length_map, List.length_reverse, List.length_map, hfl, hll, Nat.min_self])) (fun n => prQ (movesFrom 0 ks) first none n j * lastK ts (beat - n)) (by omega) (fun HE sE => ⟨SqL.of ((sD3.trans sE) _ _ hD), SqL.of (sE _ _ upd_same)⟩) (fun n v HE HE' R hn sE hY qr => ?_) (fun cl H5 s5 hcl => ?_)
      · obtain ⟨T2, y1, y2, rfl, nT2, rfl, ex1, ex2⟩ := hY
        dsimp only at ex1 ex2
        obtain ⟨fr, efr⟩ : ∃ fr, fs[n]? = some fr := ⟨fs[n]'(by omega), List.getElem?_eq_getElem (by omega)⟩
        obtain ⟨x2, ex', hx2⟩ := l2.get (mkL_at (show beat - n < beat + 1 by omega))
        rw [List.getElem?_map, efr] at ex1
        cases Option.some.inj ex1
        rw [List.getElem?_reverse (by rw [List.length_map, hll]; omega), List.length_map, hll, show beat + 1 - 1 - n = beat - n by omega, List.getElem?_map, ex'] at ex2
        cases Option.some.inj ex2
        have gT := same_new (o := HO.tup [.ref fr, .ref x2]) nT2
        refine ⟨T2, _, rfl, SqT.of upd_same, rfl, _, _, rfl, _, _, rfl, rfl, rfl, ?_⟩
        refine ⟨_, rfl, _, rfl, ?_⟩
        refine ((hfs n fr efr).same (sD3.trans (sE.trans gT))).at (m := j) (by show 0 + (j : Int) = _; omega) hj4 fun x1 hx1 => ?_
        refine ⟨_, rfl, ?_⟩
        refine tnil_go ?_
        exact times_go hx1 (hx2.tk (Tk.same (e4.trans (sE.trans gT)))) ((pz n (by omega)).smr P20 sP20 (by decide)) ((lz _).smr F0.pos F0.sm (by decide)) fun x3 H6 s6 hx3 => qr x3 H6 (gT.trans s6) hx3
      refine tnil_go ?_
      have e9 : (sumTo (beat + 1) fun n => prQ (movesFrom 0 ks) first none n j * lastK ts (beat - n)) = stKQ ks first beat j := by
        unfold stKQ
        rw [kind_at ets]
      refine addL_go55 (K := K) (s := 641 + 8) (k := 148) hcl (Int.mul_pos P20 F0.pos) (sP20.mul F0.sm) (fun n hn => (pz n (by omega)).mul P20 F0.pos (lz _)) (by omega) (by decide) (by decide) fun r H6 s6 hr => ?_
      rw [e9] at hr
      refine tnil_go ?_
      have u6 := (e4.trans (s5.trans s6)) _ _ u1
      refine ⟨tl, _, _, rfl, rfl, u6, by rw [List.length_map, hul]; exact small1000 (by omega), ?_⟩
      refine ⟨_, _, rfl, ?_, ?_⟩
      · intro b7 o hb7
        rw [upd_ne (ne_of_none hb7 ntl)]
        exact (sD3.trans (s5.trans s6)) _ _ hb7
      · rw [mkL_succ]
        exact LsM.push u6 (u2.tk (Tk.same (e4.trans (s5.trans s6)))) hr
    · rintro σ HB ⟨z5, z6, rfl, sB, hB⟩
      rw [show ((ks.length : Nat) : Int).toNat = ks.length by omega] at hB
      obtain ⟨us, u1, u2⟩ := hB
      refine ⟨_, rfl, tl, _, rfl, .inl ⟨SqL.of u1, fun z nz => ?_⟩⟩
      have x5 := same_new (o := HO.tup (us.map V.ref)) nz
      exact q z _ (s1.trans (sB.trans x5)) (RowAt.of_ls u1 u2 nz)
def spSt5 (K : PySem.W.Frag) : Sp := fun vs H Q _ => ∃ (p : Addr) (ts : List Tri) (m age : Nat), vs = [.ref p, .int (age : Int)] ∧ KdA K H p ts ∧ KdW m ts ∧
  ∀ z H', Same H H' → RAt K H' z (rdq (lastK ts age)) → Q (.ref z) H'
end

end Fp

set_option Elab.async false
set_option linter.all false
set_option maxRecDepth 100000
set_option maxHeartbeats 4000000
set_option exponentiation.threshold 10000
namespace Fp
open PySem PySem.Spec PyProof.Rows L2
/-! ### steps -/
theorem ret_go {te : TE} {E : Ends} {σ : L2.St} {H : Hp} (h : te σ H E.rt) : tRet te E σ H := h
theorem asg_go {te : TE} {g : TG} {b : TS} {D : Ends} {σ : L2.St} {H : Hp} (h : te σ H fun v H1 => g v σ H1 fun σ2 H2 => b D σ2 H2) : tSeq (tAsg te g) b D σ H := h
theorem gn_go {i : Nat} {v : V} {σ : L2.St} {H : Hp} {k : L2.St → Hp → Prop} (h : k (σ.set i (some v)) H) : gName i v σ H k := h
theorem and_share {tA tB : TT} {σ : L2.St} {H : Hp} {Qc : Bool → Hp → Prop} (R : Bool → Hp → Prop) (hA : ∀ Q' : Bool → Hp → Prop, (∀ b H', R b H' → Q' b H') → tAnd tA tB σ H Q') (h : ∀ b H', R b H' → Qc b H') : tAnd tA tB σ H Qc := hA _ h
theorem cutV_to (vs : List V) (n : Nat) : cutV vs none (some (n : Int)) = vs.take n := by
  unfold cutV
  rw [HT.sIx_none, HT.sIx_nat, List.drop_zero, Nat.sub_zero]
  rcases Nat.le_total n vs.length with z | z
  · rw [Nat.min_eq_left z]
  · rw [Nat.min_eq_right z, List.take_of_length_le (Nat.le_refl _), List.take_of_length_le z]
theorem cutV_fr (vs : List V) (n : Nat) : cutV vs (some (n : Int)) none = vs.drop n := by
  unfold cutV
  rw [HT.sIx_none, HT.sIx_nat]
  rcases Nat.le_total n vs.length with z | z
  · rw [Nat.min_eq_left z, List.take_of_length_le (by rw [List.length_drop]; exact Nat.le_refl _)]
  · rw [Nat.min_eq_right z, List.drop_of_length_le (Nat.le_refl _), List.drop_of_length_le z, List.take_nil]
theorem cutV_mid (vs : List V) (a b : Nat) : cutV vs (some (a : Int)) (some (b : Int)) = (vs.take b).drop a := by
  unfold cutV
  rw [HT.sIx_nat, HT.sIx_nat, List.drop_take]
  rcases Nat.le_total b vs.length with z | z
  · rw [Nat.min_eq_left z]
    rcases Nat.le_total a vs.length with y | y
    · rw [Nat.min_eq_left y]
    · rw [Nat.min_eq_right y, List.drop_of_length_le (Nat.le_refl _), List.drop_of_length_le y, List.take_nil, List.take_nil]
  · rw [Nat.min_eq_right z]
    rcases Nat.le_total a vs.length with y | y
    · rw [Nat.min_eq_left y, List.take_of_length_le (by rw [List.length_drop]; exact Nat.le_refl _), List.take_of_length_le (by rw [List.length_drop]; omega)]
    · rw [Nat.min_eq_right y, List.drop_of_length_le (Nat.le_refl _), List.drop_of_length_le y, List.take_nil, List.take_nil]

end Fp

set_option Elab.async false
set_option linter.all false
set_option maxRecDepth 100000
set_option maxHeartbeats 4000000
set_option exponentiation.threshold 10000
namespace Fp
open PySem PySem.Spec PyProof.Rows L2
/-! ### sorted(t), t a tuple of tuples of whole numbers -/
section
variable {prog : Program} {w : World} {A : Around} {s : Shared} {E : Value → Shared → Prop}
theorem collect_tup {l : Addr} {vs : List Value} {Q : List Value → Shared → Prop} (hl : IsTup s.heap l vs.toArray) (hz : vs.length ≤ sizeLine)
    (h : Q vs { s with heap := (s.heap.push (seqObj "list" #[] 0)).update s.heap.objs.size (Obj.mapSeq (· ++ vs.toArray)) }) :
    wpAny (model prog w) A (collect (.ref l)) Q E s := by
  obtain ⟨o, ho, hc, n, hd⟩ := hl
  unfold collect
  refine wpAny_bind (wpAny_runValue (codeAny_builtin entry_proto_collect' ?_))
  refine wpAny_bind (wpAny_newList (wpAny_pure ⟨Code.quiet_builtin _ (by decide +kernel), codeAny_builtin entry_list_iadd' ?_⟩))
  have h1 : (s.heap.push (seqObj "list" #[] 0)).get? l = some o := Heap.get?_push_of_some _ ho
  have h2 : (s.heap.push (seqObj "list" #[] 0)).get? s.heap.objs.size = some (seqObj "list" #[] 0) := Heap.get?_push_size _ rfl
  show wpAny _ _ (Builtin.List.listExtendWith (.ref s.heap.objs.size) (.ref l) (.ref s.heap.objs.size)) _ _ _
  unfold Builtin.List.listExtendWith
  refine wpAny_bind (wpAny_typeOf (T := "tuple") ⟨o, h1, hc⟩ ?_)
  rw [if_pos (by rw [show (Value.type "tuple" == Value.type "tuple") = true from rfl]; simp)]
  refine wpAny_bind (listItems_at h1 hd (wpAny_bind (listItems_at h2 rfl ?_)))
  rw [if_neg (by simp)]
  refine wpAny_bind (listUpdate_at h2 rfl (wpAny_pure ?_) (Nat.zero_le _) (by simp only [Array.size_append, List.size_toArray, List.length_nil, Array.size_empty]; omega))
  refine wpAny_bind (wpAny_load (get?_update_seq h2 _) (wpAny_pure ?_))
  have e : ((#[] : Array Value) ++ vs.toArray).toList = vs := by simp
  rw [e]
  exact h
theorem sorted_XT {l : Addr} {vs : List Value} {k : Value → List Int} {Q : Value → Shared → Prop} (hu : A.units + 64 < cLine) (hl : IsTup s.heap l vs.toArray) (hz : vs.length ≤ sizeLine) (hp : ∀ v ∈ vs, IsW s.heap v (k v))
    (h : ∀ (h' : Heap) (d : Addr) (out : List Value), SrtO.Srtd (fun v u => ltW (k v) (k u)) out → SrtO.Stb (fun v u => ltW (k v) (k u)) out vs → (∀ b o, s.heap.get? b = some o → h'.get? b = some o) → s.heap.objs.size ≤ d → (∃ n, h'.get? d = some (seqObj "list" out.toArray n)) → Q (.ref d) { s with heap := h' }) :
    wpAny (model prog w) A (call (.builtin "sorted") [.ref l]) Q E s := by
  refine Calls.call_function_entry kind_sorted plain_sorted entry_sorted (args_sorted1 _) ?_
  unfold Builtin.sorted
  refine wpAny_bind (m := checkCount "sorted" 1 1 _) (wpAny_pure (wpAny_bind (collect_tup hl hz (wpAny_bind (wpAny_newList ?_ hz)))))
  generalize e1 : (s.heap.push (seqObj "list" #[] 0)).update s.heap.objs.size (Obj.mapSeq (· ++ vs.toArray)) = h1
  have z1 : h1.objs.size = s.heap.objs.size + 1 := by
    rw [← e1, Heap.size_update, size_push']
  have old1 : ∀ b o, s.heap.get? b = some o → h1.get? b = some o := fun b o q => by
    rw [← e1, Heap.get?_update_ne _ _ _ _ (Nat.ne_of_lt (Heap.lt_size q))]
    exact Heap.get?_push_of_some _ q
  have at2 : (h1.push (seqObj "list" vs.toArray 0)).get? h1.objs.size = some (seqObj "list" vs.toArray 0) := Heap.get?_push_size _ rfl
  refine wpAny_bind (wpAny_holding (wpAny_call_entry slot_list_sort ⟨_, at2, rfl⟩ entry_list_sort (SrtO.list_sort_ord (swo_W k) at2 hz (fun _ => ?_) fun out hs hb => ⟨_, rfl, ?_⟩) (args_list_sort _)))
  · refine x_sortable (by simp only [Around.in1_units]; omega) (by omega) (fun v hm => (hp v hm).keeps fun b o e _ => Heap.get?_push_of_some _ (old1 b o e)) fun o e => ?_
    have e' : some o = some (seqObj "list" vs.toArray 0) := e.symm.trans at2
    cases e'
    intro c
    exact absurd (Value.type.inj c) (by decide)
  · refine wpAny_pure ⟨_, rfl, ?_⟩
    have z2 : h1.objs.size = s.heap.objs.size + 1 := z1
    have es : sortedHeap (h1.push (seqObj "list" vs.toArray 0)) h1.objs.size vs out.toArray = sortedAll s.heap vs out.toArray := by
      unfold sortedAll
      rw [e1, z1]
    show Q (.ref h1.objs.size) { s with heap := sortedHeap (h1.push (seqObj "list" vs.toArray 0)) h1.objs.size vs out.toArray }
    rw [es, z1]
    exact h _ _ out hs hb (fun b o e => sortedAll_old e) (Nat.le_succ _) (sortedAll_at s.heap vs out.toArray)
end
/-- sorted(t), t a tuple of tuples of whole numbers : a new list of the same ones -/
def rSortedY (K : PySem.W.Frag) : List V → Hp → VK → Prop := fun vs H Q => ∃ (a : Addr) (rs : List Addr) (wl : List (List Int)), vs = [V.ref a] ∧ SqT K H a (rs.map V.ref) ∧ rs.length = wl.length ∧ (∀ (i : Nat) (r : Addr) (y : List Int), rs[i]? = some r → wl[i]? = some y → SqT K H r (y.map V.int)) ∧
  ∀ (qs : List Addr) (zl : List (List Int)) (p : Addr), List.Perm zl wl → zl.Pairwise (fun x y => ltW y x = false) → qs.length = zl.length → (∀ (i : Nat) (r : Addr) (y : List Int), qs[i]? = some r → zl[i]? = some y → SqT K H r (y.map V.int)) → H p = none → Q (.ref p) (upd H p (.lst (qs.map V.ref)))
section
variable {X : Cx}
theorem vals_refs : ∀ (rs : List Addr) (its : List Value), Vals (rs.map V.ref) its → its = rs.map Value.ref
  | [], its, h => by cases h; rfl
  | r :: rs, its, h => by
    cases h with
    | cons h1 h2 =>
      rw [vals_refs rs _ h2]
      have e : _ = Value.ref r := h1
      rw [e]
      rfl
theorem refs_vals : ∀ l : List Addr, Vals (l.map V.ref) (l.map Value.ref)
  | [] => .nil
  | r :: l => .cons rfl (refs_vals l)
theorem cr_sortedY (hu : X.A.units + 64 < cLine) : CallR X (.builtin "sorted") (rSortedY X.K) := by
  intro pins s σ H vs us Q I r h
  obtain ⟨a, rs, wl, rfl, hs, hlen, hx, q⟩ := h
  obtain ⟨its, rv, hl, hz⟩ := I.tuple hs
  obtain ⟨u, rfl, ru⟩ := vals1 r
  obtain rfl : u = Value.ref a := ru
  have eits := vals_refs rs its rv
  have hw : ∀ i r y, rs[i]? = some r → wl[i]? = some y → IsW s.heap (.ref r) y := fun i r y h1 h2 => by
    obtain ⟨its2, r2, p2, _⟩ := I.tuple (hx i r y h1 h2)
    obtain ⟨o, ho, hc, n, hd⟩ := p2
    exact ⟨r, o, its2.toArray, n, rfl, ho, hc, hd, (Vals.ints r2 : IntsAre its2 y)⟩
  have hk : ∀ i r y, rs[i]? = some r → wl[i]? = some y → kWv s.heap (.ref r) = y := fun i r y h1 h2 => kWv_is (hw i r y h1 h2)
  have emap : its.map (kWv s.heap) = wl := by
    rw [eits, List.map_map]
    refine List.ext_getElem? fun i => ?_
    rw [List.getElem?_map]
    cases e : rs[i]? with
    | none =>
      rw [List.getElem?_eq_none (by have := List.getElem?_eq_none_iff.mp e; omega)]
      rfl
    | some r =>
      have hi := (List.getElem?_eq_some_iff.mp e).1
      obtain ⟨y, hy⟩ : ∃ y, wl[i]? = some y := ⟨_, List.getElem?_eq_getElem (by omega)⟩
      rw [hy]
      show some (kWv s.heap (.ref r)) = some y
      rw [hk i r y e hy]
  have hmem : ∀ v ∈ its, ∃ i r y, v = Value.ref r ∧ rs[i]? = some r ∧ wl[i]? = some y := fun v hv => by
    rw [eits] at hv
    obtain ⟨r, hr, rfl⟩ := List.mem_map.mp hv
    obtain ⟨i, hi⟩ := List.mem_iff_getElem?.mp hr
    have hi2 := (List.getElem?_eq_some_iff.mp hi).1
    exact ⟨i, r, wl[i], rfl, hi, List.getElem?_eq_getElem (by omega)⟩
  refine sorted_XT (k := kWv s.heap) hu hl (by rw [← rv.length]; exact hz) (fun v hv => ?_) fun h' d out h1 h2 kp hd hn => ?_
  · obtain ⟨i, r, y, rfl, e1, e2⟩ := hmem v hv
    rw [hk i r y e1 e2]
    exact hw i r y e1 e2
  · obtain ⟨n, hn⟩ := hn
    have hom : ∀ v ∈ out, ∃ i r y, v = Value.ref r ∧ rs[i]? = some r ∧ wl[i]? = some y := fun v hv => hmem v (h2.perm.mem_iff.mp hv)
    have eout : out = (out.map adr).map Value.ref := by
      rw [List.map_map]
      refine (List.map_id out).symm.trans (List.map_congr_left fun v hv => ?_)
      obtain ⟨i, r, y, rfl, _, _⟩ := hom v hv
      rfl
    have hV : Vals ((out.map adr).map V.ref) out := by
      have := refs_vals (out.map adr)
      rw [← eout] at this
      exact this
    refine ⟨.ref d, upd H d (.lst ((out.map adr).map V.ref)), I.laid (t' := s.toks) kp hd ⟨?_, out, n, hV, hn⟩, rfl, q (out.map adr) (out.map (kWv s.heap)) d ?_ ?_ (by rw [List.length_map, List.length_map]) ?_ (I.hok.fresh hd)⟩
    · rw [List.length_map, List.length_map, h2.perm.length_eq, ← rv.length]
      exact hz
    · have := h2.perm.map (kWv s.heap)
      rw [emap] at this
      exact this
    · exact List.pairwise_map.mpr h1
    · intro i r y e1 e2
      rw [List.getElem?_map] at e1 e2
      cases e : out[i]? with
      | none => rw [e] at e1; cases e1
      | some v =>
        rw [e] at e1 e2
        obtain ⟨j, r', y', rfl, f1, f2⟩ := hom v (List.mem_of_getElem? e)
        cases e1
        cases e2
        rw [hk j _ y' f1 f2]
        exact hx j _ y' f1 f2
end

end Fp

set_option Elab.async false
set_option linter.all false
set_option maxRecDepth 100000
set_option maxHeartbeats 4000000
set_option exponentiation.threshold 10000
namespace Fp
open PySem PySem.Spec PyProof.Rows L2
/-! ### lists of lists of whole numbers -/
def nV (n : Nat) : V := .int (n : Int)
def LNa (H : Hp) : List Addr → List (List Nat) → Prop
  | [], [] => True
  | r :: rs, y :: ys => H r = some (.lst (y.map nV)) ∧ LNa H rs ys
  | _, _ => False
theorem LNa.same {H H' : Hp} : ∀ {rs : List Addr} {ys : List (List Nat)}, LNa H rs ys → Same H H' → LNa H' rs ys
  | [], [], _, _ => trivial
  | _ :: _, _ :: _, h, s => ⟨s _ _ h.1, LNa.same h.2 s⟩
  | [], _ :: _, h, _ => h.elim
  | _ :: _, [], h, _ => h.elim
theorem LNa.upd {H : Hp} {D : Addr} {o : HO} : ∀ {rs : List Addr} {ys : List (List Nat)}, LNa H rs ys → (∀ r ∈ rs, r ≠ D) → LNa (upd H D o) rs ys
  | [], [], _, _ => trivial
  | r :: rs, _ :: _, h, s => ⟨by rw [upd_ne (s r (List.mem_cons_self ..))]; exact h.1, LNa.upd h.2 fun x hx => s x (List.mem_cons_of_mem _ hx)⟩
  | [], _ :: _, h, _ => h.elim
  | _ :: _, [], h, _ => h.elim
theorem LNa.app {H : Hp} : ∀ {rs qs : List Addr} {ys zs : List (List Nat)}, LNa H rs ys → LNa H qs zs → LNa H (rs ++ qs) (ys ++ zs)
  | [], _, [], _, _, g => g
  | _ :: _, _, _ :: _, _, h, g => ⟨h.1, LNa.app h.2 g⟩
  | [], _, _ :: _, _, h, _ => h.elim
  | _ :: _, _, [], _, h, _ => h.elim
theorem LNa.len {H : Hp} : ∀ {rs : List Addr} {ys : List (List Nat)}, LNa H rs ys → rs.length = ys.length
  | [], [], _ => rfl
  | _ :: _, _ :: _, h => congrArg Nat.succ (LNa.len h.2)
  | [], _ :: _, h => h.elim
  | _ :: _, [], h => h.elim
theorem LNa.get {H : Hp} : ∀ {rs : List Addr} {ys : List (List Nat)} {i : Nat} {y : List Nat}, LNa H rs ys → ys[i]? = some y → ∃ r, rs[i]? = some r ∧ H r = some (.lst (y.map nV))
  | r :: _, _ :: _, 0, y, h, e => by
    cases Option.some.inj e
    exact ⟨r, rfl, h.1⟩
  | _ :: rs, _ :: ys, i + 1, y, h, e => LNa.get (rs := rs) (ys := ys) (i := i) h.2 e
  | _, [], _, _, _, e => by simp at e
  | [], _ :: _, _, _, h, _ => h.elim
def LNs (H : Hp) (p : Addr) (yss : List (List Nat)) : Prop := ∃ rs : List Addr, H p = some (.lst (rs.map V.ref)) ∧ LNa H rs yss
theorem LNs.same {H H' : Hp} {p : Addr} {yss : List (List Nat)} (h : LNs H p yss) (s : Same H H') : LNs H' p yss := by
  obtain ⟨rs, h1, h2⟩ := h
  exact ⟨rs, s _ _ h1, h2.same s⟩
theorem lc_LN {J : It} {n : Nat} {G : Hp → Prop} {Y : Nat → Hp → V → Hp → Prop} (w : Walk J n G Y) {g : TG} {te : TE} {vs : List Nat} {σ : L2.St} {H1 : Hp} (f : Nat → List Nat) (hn : n ≤ 900) (hG : ∀ HE, Same H1 HE → G HE)
    (hs : ∀ (k : Nat) (x : V) (HE HE' : Hp) (R : VK), k < n → Same H1 HE → Y k HE x HE' → (∀ r HF, HE r = none → Same HE HF → HF r = some (.lst ((f k).map nV)) → R (.ref r) HF) → g x (wipe σ vs) HE' fun σ2 H2 => wipe σ2 vs = wipe σ vs ∧ te σ2 H2 R)
    {Qd : Addr → Hp → Prop} (hd : ∀ D H2, Same H1 H2 → LNs H2 D ((List.range n).map f) → Qd D H2) : tLc (fun _ H2 R => R J H2) g tYes te vs σ H1 (refQ Qd) := by
  intro D nD
  have e1 := same_new (o := HO.lst []) nD
  refine lc_it w (fun k HE => ∃ rs : List Addr, Same H1 HE ∧ HE D = some (.lst (rs.map V.ref)) ∧ LNa HE rs ((List.range k).map f) ∧ ∀ r ∈ rs, r ≠ D) ⟨[], e1, upd_same, trivial, fun r hr => by cases hr⟩ ?_ ?_ ?_
  · rintro i HE _ ⟨rs, sE, _⟩
    exact hG HE sE
  · rintro k x HE HE' hk ⟨rs, sE, hE, hA, hD⟩ hY
    have hl := hA.len
    rw [List.length_map, List.length_range] at hl
    refine hs k x HE HE' _ hk sE hY fun r HF nr sF hr => ?_
    have hE5 := sF _ _ hE
    have nrD : r ≠ D := fun z => by
      rw [z, hE] at nr
      cases nr
    refine ⟨_, hE5, by rw [List.length_map, hl]; exact small1000 (by omega), rs ++ [r], ?_, ?_, ?_, ?_⟩
    · intro b2 o hb2
      rw [upd_ne (ne_of_none hb2 nD)]
      exact (sE.trans sF) _ _ hb2
    · rw [upd_same, List.map_append]
      rfl
    · rw [List.range_succ, List.map_append]
      exact ((hA.same sF).upd hD).app ⟨by rw [upd_ne nrD]; exact hr, trivial⟩
    · intro q hq
      rcases List.mem_append.mp hq with z | z
      · exact hD q z
      · rw [List.mem_singleton.mp z]
        exact nrD
  · rintro HE ⟨rs, sE, hE, hA, _⟩
    exact hd D HE sE ⟨rs, hE, hA⟩
/-- whole numbers by a test; the list is new -/
theorem lc_natF {J : It} {n : Nat} {G : Hp → Prop} {Y : Nat → Hp → V → Hp → Prop} (w : Walk J n G Y) {g : TG} {tt : TT} {te : TE} {vs : List Nat} {σ : L2.St} {H1 : Hp} (f : Nat → Nat) (b : Nat → Bool) (hn : n ≤ 900) (hG : ∀ HE, Same H1 HE → G HE)
    (hs : ∀ (k : Nat) (x : V) (HE HE' : Hp) (R : VK) (N : Hp → Prop), k < n → Same H1 HE → Y k HE x HE' → (b k = true → ∀ HF, Same HE HF → R (nV (f k)) HF) → (b k = false → ∀ HF, Same HE HF → N HF) → g x (wipe σ vs) HE' fun σ2 H2 => wipe σ2 vs = wipe σ vs ∧ tt σ2 H2 fun bb H3 => if bb = true then te σ2 H3 R else N H3)
    {Qd : Addr → Hp → Prop} (hd : ∀ D H2, H1 D = none → Same H1 H2 → H2 D = some (.lst ((((List.range n).filter b).map f).map nV)) → Qd D H2) : tLc (fun _ H2 R => R J H2) g tt te vs σ H1 (refQ Qd) := by
  intro D nD
  have e1 := same_new (o := HO.lst []) nD
  refine lc_it w (fun k HE => Same H1 HE ∧ HE D = some (.lst ((((List.range k).filter b).map f).map nV))) ⟨e1, upd_same⟩ ?_ ?_ ?_
  · rintro i HE _ ⟨sE, _⟩
    exact hG HE sE
  · rintro k x HE HE' hk ⟨sE, hE⟩ hY
    have hfl : ((List.range k).filter b).length ≤ k := by
      have := List.length_filter_le b (List.range k)
      rw [List.length_range] at this
      exact this
    refine hs k x HE HE' _ _ hk sE hY (fun hb HF sF => ?_) (fun hb HF sF => ?_)
    · have hE5 := sF _ _ hE
      refine ⟨_, hE5, by rw [List.length_map, List.length_map]; exact small1000 (by omega), ?_, ?_⟩
      · intro b2 o hb2
        rw [upd_ne (ne_of_none hb2 nD)]
        exact (sE.trans sF) _ _ hb2
      · rw [upd_same, List.range_succ, List.filter_append, List.map_append, List.map_append]
        simp [hb]
    · refine ⟨sE.trans sF, ?_⟩
      rw [List.range_succ, List.filter_append]
      simp only [List.filter_cons, hb, List.filter_nil]
      rw [show ((List.range k).filter b ++ if false = true then [k] else []) = (List.range k).filter b by simp]
      exact sF _ _ hE
  · rintro HE ⟨sE, hE⟩
    exact hd D HE nD sE hE
/-! ### whom kinds lead to -/
def ledB (row : List RT) : List Nat := (List.range row.length).filter fun j => decide (0 < (row.getD j (0, 1)).1)
def ledQ (ks : List (List Tri)) : List (List Nat) := (chRows ks).map ledB
abbrev s_led : Stmt := topS 28
abbrev N_led : List Str := ["kinds", "row", "follower", "chance"]
theorem sc_led : FnScope N_led ["kinds"] (defScope s_led) := ⟨rfl, rfl, rfl, by decide +kernel, rfl, by decide +kernel, by decide +kernel⟩
def scp0_led (b : List Stmt) (d : Scope) : Scope := match b with
  | ((.Return (some (.ListComp _ _ sc _)) _) :: _) => sc
  | _ => d
section
variable {P : Program} {w : World} {K : PySem.W.Frag} {mg : Str → Option Value} {base : Heap} {aN aO : Addr}
def spLed (K : PySem.W.Frag) : Sp := fun vs H Q _ => ∃ (p : Addr) (ks : List (List Tri)), vs = [.ref p] ∧ KdsA K H p ks ∧ (∀ ts ∈ ks, KdW ks.length ts) ∧ ks.length ≤ 4 ∧
  ∀ z H', Same H H' → LNs H' z (ledQ ks) → Q (.ref z) H'
theorem ok_led {f fCN : Addr} {fd fdCN : FuncData} (F : Fun K "led_to" "led_to" s_led f fd)
    (FCN : Fun K "chain" "chain" s_cn fCN fdCN) (bCN : Binds K fdCN ["kinds"] []) (gCN : mg "chain" = some (.ref fCN)) (GCN : FnOk P w K mg base CX0 4 fCN fdCN ["kinds"] (spCn K))
    (n_enumerate : mg "enumerate" = none) : FnOk P w K mg base CX0 5 f fd ["kinds"] (spLed K) := by
  refine F.ok sc_led (fun vs H Q E h => ?_) (fun cdv A outer s H vs Q E hr h => ?_)
  · obtain ⟨_, _, rfl, _⟩ := h
    rfl
  · obtain ⟨p, ks, rfl, hk, hok, hkl, q⟩ := h
    refine ⟨_, (pss_one (ps_ret (pe_lc (own := [("row", 1)]) (g := (gName 1)) (tt := tYes) (te := (tLc (iQT K 0 (tCons (tVar 1) tNil)) (gTup K 2 (gCons (gName 2) (gCons (gName 3) gNil))) (tTest (tOp (rI0 fun i j => .bl (decide (j < i))) (tOp (rIxT K) (tVar 3) (tC (.int 0))) (tC (.int 0)))) (tVar 2) [2, 3])) rfl sc_led.nd (pi_tup (pe_call GCN hr (by rfl) gCN FCN.kp bCN .nil pass0 (pa_cons (pv 0) pa_nil))) (blkOk_by (own := [("row", 1)]) (N := N_led) (sc := (defScope s_led)) (by decide +kernel)) (fun _ _ _ _ _ => (pg_name (i := 1) sc_led.nd rfl (.inl rfl))) (fun _ _ _ _ _ => pts_nil) (fun _ _ _ _ _ => (pe_lc (own := [("follower", 2), ("chance", 3)]) (g := (gTup K 2 (gCons (gName 2) (gCons (gName 3) gNil)))) (tt := (tTest (tOp (rI0 fun i j => .bl (decide (j < i))) (tOp (rIxT K) (tVar 3) (tC (.int 0))) (tC (.int 0))))) (te := (tVar 2)) rfl sc_led.nd (pi_eT (by rfl) n_enumerate (pa_cons (pv 1) pa_nil)) (blkOk_by (own := [("follower", 2), ("chance", 3)]) (N := N_led) (sc := (relS (scp0_led (defBody s_led) (defScope s_led)) (defScope s_led))) (by decide +kernel)) (fun _ _ _ _ _ => (pg_tup rfl (pgs_cons (pg_name (i := 2) sc_led.nd rfl (.inl rfl)) (pgs_cons (pg_name (i := 3) sc_led.nd rfl (.inl rfl)) pgs_nil)))) (fun _ _ _ _ _ => (pts_one (pt_cmpR op_gt (pe_ix ix_tup (pv 3) pe_int (fun _ _ => rfl)) pe_int (nomark _)))) (fun _ _ _ _ _ => (pv 2))))))), ?_⟩
    refine ret_go ?_
    refine ⟨_, rfl, ?_⟩
    refine tnil_go ?_
    refine ⟨p, ks, rfl, hk, hok, hkl, fun z H1 s1 hz => ?_⟩
    obtain ⟨rs, z1, z2⟩ := hz
    have hrl := z2.1
    have hcl : (chRows ks).length = ks.length := List.length_map ..
    refine ⟨z, rfl, ⟨_, z1⟩, ?_⟩
    refine lc_LN (walk_tup (K := K) (a := z) (xs := rs.map V.ref)) (fun i => ledB ((chRows ks).getD i [])) (by rw [List.length_map]; omega) (fun HE sE => sqT_same sE z1) (fun i v HE HE' R hi sE hY qr => ?_) (fun D H2 s2 hD => ?_)
    · obtain ⟨rfl, hv⟩ := hY
      rw [List.length_map, hrl] at hi
      have hg : (chRows ks)[i]? = some (chRows ks)[i] := List.getElem?_eq_getElem hi
      obtain ⟨r, er, hr⟩ := z2.get hg
      rw [List.getElem?_map, er] at hv
      cases Option.some.inj hv
      have hrl2 : ((chRows ks)[i]).length = ks.length := by
        have hm := List.getElem_mem hi
        obtain ⟨ts, _, e⟩ := List.mem_map.mp hm
        rw [← e, mkL_len]
      rw [List.getD_eq_getElem?_getD, hg] at qr
      obtain ⟨as, r1, r2⟩ := RowAt.tk hr (Tk.same (K := K) sE)
      have hal := r2.length
      refine ⟨rfl, ?_⟩
      refine ⟨_, rfl, ?_⟩
      refine tnil_go ?_
      refine ⟨r, _, rfl, r1, ?_⟩
      have hmk : (chRows ks)[i] = (chRows ks)[i] := rfl
      generalize (chRows ks)[i] = row at *
      refine lc_natF (Qd := fun D H2 => R (.ref D) H2) (walk_q (Sq := fun H xs => SqT K H r xs) (k := 0) (xs := as.map V.ref)) (fun j => j) (fun j => decide (0 < (row.getD j (0, 1)).1)) (by rw [List.length_map]; omega) (fun HF sF => sqT_same sF r1) (fun j x HF HF' R2 N hj sF hY2 qy qn => ?_) (fun D2 H3 nD2 s3 hD2 => ?_)
      · obtain ⟨T, x, y, rfl, nT, rfl, ex, ey⟩ := hY2
        cases Option.some.inj ex
        dsimp only at ey
        rw [List.length_map, hal] at hj
        have hgr : row[j]? = some row[j] := List.getElem?_eq_getElem hj
        obtain ⟨a, ea, ha⟩ := r2.get hgr
        rw [List.getElem?_map, ea] at ey
        cases Option.some.inj ey
        have eT := same_new (o := HO.tup [.int (0 + (j : Int)), .ref a]) nT
        rw [List.getD_eq_getElem?_getD, hgr] at qy qn
        refine ⟨T, _, rfl, SqT.of upd_same, rfl, _, _, rfl, _, _, rfl, rfl, rfl, ?_⟩
        refine ⟨_, rfl, a, _, _, _, rfl, rfl, ha.tk (Tk.same (sF.trans eT)), rfl, ?_⟩
        refine ⟨_, _, rfl, rfl, _, rfl, ?_⟩
        cases hb : decide ((0 : Int) < (row[j]).1) with
        | true =>
          refine iteT ?_
          refine ⟨_, rfl, ?_⟩
          have h5 := qy hb _ eT
          have e0 : nV j = .int (0 + (j : Int)) := by
            show V.int (j : Int) = _
            rw [Int.zero_add]
          rw [e0] at h5
          exact h5
        | false =>
          refine iteF ?_
          exact qn hb _ eT
      · refine qr D2 H3 nD2 s3 ?_
        rw [hD2, List.length_map, hal]
        show some (HO.lst ((((List.range row.length).filter _).map fun j => j).map nV)) = _
        rw [List.map_id']
        rfl
    · refine q D H2 (s1.trans s2) ?_
      have : (List.range (rs.map V.ref).length).map (fun i => ledB ((chRows ks).getD i [])) = ledQ ks := by
        rw [List.length_map, hrl]
        unfold ledQ
        refine List.ext_getElem (by rw [List.length_map, List.length_range, List.length_map]) fun i h1 h2 => ?_
        have h3 : i < (chRows ks).length := by
          rw [List.length_map, List.length_range] at h1
          exact h1
        rw [List.getElem_map, List.getElem_map, List.getElem_range, List.getD_eq_getElem?_getD, List.getElem?_eq_getElem h3]
        rfl
      rw [← this]
      exact hD
end

end Fp

set_option Elab.async false
set_option linter.all false
set_option maxRecDepth 100000
set_option maxHeartbeats 4000000
set_option exponentiation.threshold 10000
namespace Fp
open PySem PySem.Spec PyProof.Rows L2
/-! ### ways home, by data -/
theorem inV_nat (k : Nat) : ∀ xs : List Nat, inV (nV k) (xs.map nV) = xs.contains k
  | [] => rfl
  | x :: r => by
    show (((x : Int) == (k : Int)) || inV (nV k) (r.map nV)) = (k == x || r.contains k)
    rw [inV_nat k r]
    congr 1
    rw [Bool.eq_iff_iff, beq_iff_eq, beq_iff_eq]
    omega
theorem flat_nat (xs : List Nat) : (xs.map nV).all flatV = true := by
  rw [List.all_eq_true]
  intro v hv
  obtain ⟨x, _, rfl⟩ := List.mem_map.mp hv
  rfl
theorem wr_same {H H' : Hp} {p : Addr} {o : HO} (s : Same H H') (n : H p = none) : Same H (upd H' p o) := fun b o hb => by
  rw [upd_ne (ne_of_none hb n)]
  exact s _ _ hb
def whK (ls : List (List Nat)) (st : List Nat × Bool) (k : Nat) : List Nat × Bool := if (!st.1.contains k && (ls.getD k []).any st.1.contains) = true then (st.1 ++ [k], true) else st
def whR (ls : List (List Nat)) (rd : List Nat) : List Nat × Bool := (List.range ls.length).foldl (whK ls) (rd, false)
def whL (ls : List (List Nat)) : Nat → List Nat → Option (List Nat)
  | 0, _ => none
  | m + 1, rd => if (whR ls rd).2 = true then whL ls m (whR ls rd).1 else some (whR ls rd).1
theorem filt_empty (l : List Nat) (c : Nat → Bool) : ((List.range l.length).filter fun i => c (l.getD i 0)).isEmpty = !l.any c := by
  rw [Bool.eq_iff_iff, List.isEmpty_iff, List.filter_eq_nil_iff, Bool.not_eq_true', List.any_eq_false]
  constructor
  · intro h x hx
    obtain ⟨i, hi, rfl⟩ := List.mem_iff_getElem.mp hx
    have := h i (List.mem_range.mpr hi)
    rw [List.getD_eq_getElem?_getD, List.getElem?_eq_getElem hi] at this
    exact this
  · intro h i hi
    have hi := List.mem_range.mp hi
    rw [List.getD_eq_getElem?_getD, List.getElem?_eq_getElem hi]
    exact h _ (List.getElem_mem hi)
def rcS (rd : List Nat) (x : Nat) : List Nat := if rd.contains x then rd else rd ++ [x]
def rcL (ls : List (List Nat)) : Nat → Nat → List Nat → Option (List Nat)
  | 0, _, _ => none
  | m + 1, pl, rd => if pl < rd.length then (if rd.getD pl 0 < ls.length then rcL ls m (pl + 1) ((ls.getD (rd.getD pl 0) []).foldl rcS rd) else none) else some rd
structure Ls8 (ls : List (List Nat)) : Prop where
  len : ls.length ≤ 8
  each : ∀ l ∈ ls, l.length ≤ 8
abbrev s_who : Stmt := topS 31
abbrev N_who : List Str := ["leads", "home", "reached", "ways", "grown", "kind", "followers", "follower"]
theorem sc_who : FnScope N_who ["leads", "home"] (defScope s_who) := ⟨rfl, rfl, rfl, by decide +kernel, rfl, by decide +kernel, by decide +kernel⟩
abbrev s_rea : Stmt := topS 33
abbrev N_rea : List Str := ["leads", "kind", "reached", "place", "followers", "follower"]
theorem sc_rea : FnScope N_rea ["leads", "kind"] (defScope s_rea) := ⟨rfl, rfl, rfl, by decide +kernel, rfl, by decide +kernel, by decide +kernel⟩
section
variable {P : Program} {w : World} {K : PySem.W.Frag} {mg : Str → Option Value} {base : Heap} {aN aO : Addr}
def spWho (K : PySem.W.Frag) : Sp := fun vs H Q _ => ∃ (p : Addr) (ls : List (List Nat)) (home : Nat) (fin : List Nat), vs = [.ref p, .int (home : Int)] ∧ LNs H p ls ∧ Ls8 ls ∧ whL ls 8 [home] = some fin ∧
  ∀ z ws H', Same H H' → SqT K H' z ws → ws.length + 1 = fin.length → Q (.ref z) H'
theorem ok_who {f  : Addr} {fd  : FuncData} (F : Fun K "ways_home" "ways_home" s_who f fd)
    (n_len : mg "len" = none) (n_range : mg "range" = none) (n_tuple : mg "tuple" = none) : FnOk P w K mg base CX0 1 f fd ["leads", "home"] (spWho K) := by
  refine F.ok sc_who (fun vs H Q E h => ?_) (fun cdv A outer s H vs Q E hr h => ?_)
  · obtain ⟨_, _, _, _, rfl, _⟩ := h
    rfl
  · obtain ⟨p, ls, home, fin, rfl, hp, h8, hf, q⟩ := h
    refine ⟨_, (pss_cons (ps_set (i := 2) sc_who.nd rfl (.inr rfl) (pe_lst (pa_cons (pv 1) pa_nil)))
      (pss_cons (ps_set (i := 3) sc_who.nd rfl (.inl rfl) (pe_lst pa_nil))
      (pss_cons (ps_set (i := 4) sc_who.nd rfl (.inl rfl) pe_bl)
      (pss_cons (ps_while PassesOwn.never (pt_truth (pv 4) (by intro _; rfl)) (pss_cons (ps_set (i := 4) sc_who.nd rfl (.inl rfl) pe_bl)
      (pss_one (ps_for PassesOwn.never rfl (pi_range1 (by rfl) n_range (pa_cons (pe_callB call_len_seq (by rfl) n_len PySem.boot_len (pa_cons (pv 0) pa_nil)) pa_nil)) (pg_name (i := 5) sc_who.nd rfl (.inl rfl)) (pss_cons (ps_setLc (i := 6) (own := [("follower", 7)]) (g := (gName 7)) (tt := (tTest (tOp (rIn K false) (tVar 7) (tVar 2)))) (te := (tVar 7)) rfl sc_who.nd rfl rfl (sw_true rfl rfl rfl (by decide +kernel)) (pi_list (pe_ix ix_list (pv 0) (pv 5) (fun _ _ => rfl))) (blkOk_by (own := [("follower", 7)]) (N := N_who) (sc := (defScope s_who)) (by decide +kernel)) (fun _ _ _ _ _ => (pg_name (i := 7) sc_who.nd rfl (.inl rfl))) (fun _ _ _ _ _ => (pts_one (pt_cmpR op_in_seq (pv 7) (pv 2) rfl))) (fun _ _ _ _ _ => (pv 7)))
      (pss_one (ps_if (PW.pt (pw_and (pt_cmpR op_notIn_seq (pv 5) (pv 2) rfl) (pw_and1 (pt_truth (pv 6) (by intro _; rfl))))) (pss_cons (ps_expr (pe_bm PySem.F.plainAttrs_list PySem.F.slot_list_append PySem.F.type_list_append mt_append (pv 2) (pa_cons (pv 5) pa_nil)))
      (pss_cons (ps_expr (pe_bm PySem.F.plainAttrs_list PySem.F.slot_list_append PySem.F.type_list_append mt_append (pv 3) (pa_cons (pe_tup (pa_cons (pv 5) (pa_cons (pe_ix ix_list (pv 6) pe_int (fun _ _ => rfl)) pa_nil))) pa_nil)))
      (pss_one (ps_set (i := 4) sc_who.nd rfl (.inl rfl) pe_bl)))) pss_nil)))))))
      (pss_one (ps_ret (pe_callTy call_tuple_of (by rfl) n_tuple (by decide +kernel) (pa_cons (pv 3) pa_nil)))))))), ?_⟩
    have hz : sizeLine = 16777216 := sizeLine_eq
    have hl8 := h8.len
    obtain ⟨as, hp1, hp2⟩ := id hp
    have hal := hp2.len
    refine asg_go ?_
    refine ⟨_, rfl, ?_⟩
    refine tnil_go ?_
    refine ⟨by show 1 ≤ sizeLine; decide, fun R nR => ?_⟩
    have e1 := same_new (o := HO.lst [.int (home : Int)]) nR
    refine gn_go ?_
    refine asg_go ?_
    refine ⟨by show 0 ≤ sizeLine; decide, fun W nW => ?_⟩
    have e2 := same_new (o := HO.lst []) nW
    have hRW : R ≠ W := fun z => by
      rw [← z, upd_same] at nW
      cases nW
    have hR0 : upd (upd H R (.lst [.int (home : Int)])) W (.lst []) R = some (.lst (([home] : List Nat).map nV)) := e2 _ _ upd_same
    have hW0 : upd (upd H R (.lst [.int (home : Int)])) W (.lst []) W = some (.lst []) := upd_same
    have E2 := e1.trans e2
    have nW0 : H W = none := e1.free nW
    generalize upd (upd H R (.lst [.int (home : Int)])) W (.lst []) = H2 at *
    refine gn_go ?_
    refine asg_go ?_
    refine tC_go ?_
    refine gn_go ?_
    refine ⟨fun m σ HB => ∃ (rd : List Nat) (ws : List V) (g : Bool) (z5 z6 z7 : Option V), σ = [some (.ref p), some (.int (home : Int)), some (.ref R), some (.ref W), some (.bl g), z5, z6, z7] ∧ Same H HB ∧ HB R = some (.lst (rd.map nV)) ∧ HB W = some (.lst ws) ∧ ws.length + 1 = rd.length ∧ rd.length + 8 * m ≤ 65 ∧ (g = true → whL ls m rd = some fin) ∧ (g = false → rd = fin), ⟨8, [home], [], true, _, _, _, rfl, E2, hR0, hW0, rfl, by show 1 + 64 ≤ 65; decide, fun _ => hf, fun z => nomatch z⟩, ?_⟩
    rintro m σ HB ⟨rd, ws, g, z5, z6, z7, rfl, sB, hR, hW, hwl, hrl, hg1, hg0⟩
    refine ⟨_, rfl, g, rfl, ?_⟩
    cases g with
    | false =>
      rw [if_neg (by decide)]
      dsimp only
      refine ret_go ?_
      refine ⟨_, rfl, ?_⟩
      refine tnil_go ?_
      refine ⟨W, _, rfl, .inl ⟨SqL.of hW, fun z nz => ?_⟩⟩
      exact q z ws _ (sB.trans (same_new nz)) (SqT.of upd_same) (by rw [hwl, hg0 rfl])
    | true =>
      rw [if_pos rfl]
      have hL := hg1 rfl
      cases m with
      | zero => cases hL
      | succ m =>
        have hL2 : (if (whR ls rd).2 = true then whL ls m (whR ls rd).1 else some (whR ls rd).1) = some fin := hL
        refine ⟨_, fun σ' H' h => ⟨m, Nat.lt_succ_self m, h⟩, ?_⟩
        refine asg_go ?_
        refine tC_go ?_
        refine gn_go ?_
        refine ⟨_, rfl, ?_⟩
        refine tnil_go ?_
        refine ⟨p, _, rfl, .inl (SqL.of (sB _ _ hp1)), ?_⟩
        rw [List.length_map, hal]
        refine tnil_go ?_
        refine ⟨_, rfl, by omega, by omega, ?_⟩
        rw [Int.toNat_natCast]
        refine for_range (lo := 0) (n := ls.length) (fun i σ HC => ∃ (st : List Nat × Bool) (ws : List V) (z5 z6 z7 : Option V), σ = [some (.ref p), some (.int (home : Int)), some (.ref R), some (.ref W), some (.bl st.2), z5, z6, z7] ∧ st = (List.range i).foldl (whK ls) (rd, false) ∧ Same H HC ∧ HC R = some (.lst (st.1.map nV)) ∧ HC W = some (.lst ws) ∧ ws.length + 1 = st.1.length ∧ st.1.length ≤ rd.length + i) ⟨(rd, false), ws, z5, z6, z7, rfl, rfl, sB, hR, hW, hwl, Nat.le_refl _⟩ ?_ ?_
        · rintro i σ HC hi ⟨st, ws, z5, z6, z7, rfl, hst, sC, hRC, hWC, hwlC, hsl⟩
          have hgl : ls[i]? = some ls[i] := List.getElem?_eq_getElem hi
          obtain ⟨ai, eai, hai⟩ := hp2.get hgl
          have hll := h8.each _ (List.getElem_mem hi)
          have hgd : ls.getD i [] = ls[i] := by rw [List.getD_eq_getElem?_getD, hgl]; rfl
          have hgi : (as.map V.ref)[i]? = some (.ref ai) := by rw [List.getElem?_map, eai]; rfl
          generalize ls[i] = l at *
          refine gn_go ?_
          refine asg_go ?_
          refine ⟨_, rfl, _, rfl, p, _, _, _, rfl, rfl, SqL.of (sC _ _ hp1), at_of (show (0 : Int) + (i : Int) = ((i : Nat) : Int) by omega) hgi, ?_⟩
          refine ⟨ai, rfl, ⟨_, SqL.of (sC _ _ hai)⟩, ?_⟩
          refine lc_natF (walk_list (K := K) (a := ai) (xs := l.map nV)) (fun j => l.getD j 0) (fun j => st.1.contains (l.getD j 0)) (by rw [List.length_map]; omega) (fun HE sE => SqL.of (sE _ _ (sC _ _ hai))) (fun j x HE HE' R2 N hj sE hY qy qn => ?_) (fun F H3 nF s3 hF => ?_)
          · obtain ⟨rfl, hx⟩ := hY
            rw [List.length_map] at hj
            rw [List.getElem?_map, List.getElem?_eq_getElem hj] at hx
            cases Option.some.inj hx
            rw [List.getD_eq_getElem?_getD, List.getElem?_eq_getElem hj] at qy qn
            refine ⟨rfl, ?_⟩
            refine ⟨_, rfl, _, rfl, R, _, rfl, .inl (SqL.of (sE _ _ hRC)), rfl, flat_nat _, ?_⟩
            rw [if_neg (by decide), inV_nat]
            refine ⟨_, rfl, ?_⟩
            cases hb : st.1.contains l[j] with
            | true =>
              refine iteT ?_
              exact ⟨_, rfl, qy hb _ (Same.refl _)⟩
            | false =>
              refine iteF ?_
              exact qn hb _ (Same.refl _)
          have hfe := filt_empty l st.1.contains
          have hFR : F ≠ R := fun z => by rw [z, hRC] at nF; cases nF
          have hFW : F ≠ W := fun z => by rw [z, hWC] at nF; cases nF
          refine gn_go ?_
          have enx : (List.range (i + 1)).foldl (whK ls) (rd, false) = whK ls st i := by
            rw [List.range_succ, List.foldl_append, ← hst]
            rfl
          have ewk : whK ls st i = if (!st.1.contains i && l.any st.1.contains) = true then (st.1 ++ [i], true) else st := by
            unfold whK
            rw [hgd]
          have ei : (V.int (0 + (i : Int))) = nV i := by
            rw [Int.zero_add]
            rfl
          rw [ei] at *
          refine and_share (fun b HG => b = (!st.1.contains i && l.any st.1.contains) ∧ Same H3 HG) (fun Q' hQ => ?_) ?_
          · refine ⟨_, rfl, _, rfl, R, _, rfl, .inl (SqL.of (s3 _ _ hRC)), rfl, flat_nat _, ?_⟩
            rw [if_pos rfl, inV_nat]
            refine ⟨_, rfl, ?_⟩
            cases c : st.1.contains i with
            | true =>
              refine iteF ?_
              exact hQ _ _ ⟨by rw [c]; rfl, Same.refl _⟩
            | false =>
              refine iteT ?_
              refine ⟨_, rfl, _, .inl ⟨_, SqL.of hF, rfl⟩, ?_⟩
              refine hQ _ _ ⟨?_, Same.refl _⟩
              rw [c, List.isEmpty_map, List.isEmpty_map, List.length_map, hfe, Bool.not_not]
              rfl
          rintro b HG ⟨hb, sG⟩
          have S3 := s3.trans sG
          cases b with
          | false =>
            refine iteF ?_
            refine ⟨st, ws, _, _, _, rfl, ?_, sC.trans S3, S3 _ _ hRC, S3 _ _ hWC, hwlC, by omega⟩
            rw [enx, ewk, ← hb]
            rfl
          | true =>
            refine iteT ?_
            have hRG := S3 _ _ hRC
            have hne : ((((List.range (l.map nV).length).filter fun j => st.1.contains (l.getD j 0)).map fun j => l.getD j 0)) ≠ [] := fun z => by
              have hb2 := hb.symm
              rw [Bool.and_eq_true] at hb2
              have h4 := List.map_eq_nil_iff.mp z
              rw [List.length_map] at h4
              rw [h4, hb2.2] at hfe
              cases hfe
            obtain ⟨f0, fr, efr⟩ := List.exists_cons_of_ne_nil hne
            rw [efr] at hF
            refine ⟨_, rfl, .inl ⟨rfl, _, SqL.of hRG⟩, ?_⟩
            refine ⟨_, rfl, ?_⟩
            refine tnil_go ?_
            refine ⟨R, _, _, rfl, rfl, hRG, by rw [List.length_map]; omega, ?_⟩
            have hW4 : upd HG R (.lst (st.1.map nV ++ [nV i])) W = some (.lst ws) := by rw [upd_ne (fun z => hRW z.symm)]; exact S3 _ _ hWC
            have hF4 : upd HG R (.lst (st.1.map nV ++ [nV i])) F = some (.lst ((f0 :: fr).map nV)) := by rw [upd_ne hFR]; exact sG _ _ hF
            have s4 : Same H (upd HG R (.lst (st.1.map nV ++ [nV i]))) := wr_same (sC.trans S3) nR
            have hR4 : upd HG R (.lst (st.1.map nV ++ [nV i])) R = some (.lst ((st.1 ++ [i]).map nV)) := by
              rw [upd_same, List.map_append]
              rfl
            generalize upd HG R (.lst (st.1.map nV ++ [nV i])) = H4 at *
            refine ⟨_, rfl, .inl ⟨rfl, _, SqL.of hW4⟩, ?_⟩
            refine ⟨_, rfl, _, rfl, F, _, _, nV f0, rfl, rfl, SqL.of hF4, atI_nat (j := 0) rfl, ?_⟩
            refine tnil_go ?_
            refine ⟨by show 2 ≤ sizeLine; decide, fun T nT => ?_⟩
            have e5 := same_new (o := HO.tup [nV i, nV f0]) nT
            refine tnil_go ?_
            refine ⟨W, _, _, rfl, rfl, e5 _ _ hW4, by omega, ?_⟩
            refine ⟨(st.1 ++ [i], true), ws ++ [.ref T], _, _, _, rfl, ?_, wr_same (s4.trans e5) nW0, ?_, upd_same, ?_, ?_⟩
            · rw [enx, ewk, ← hb]
              rfl
            · rw [upd_ne hRW]
              exact e5 _ _ hR4
            · rw [List.length_append, List.length_append, ← hwlC]
              rfl
            · rw [List.length_append]
              show st.1.length + 1 ≤ _
              omega
        · rintro σ HC ⟨st, ws, z5, z6, z7, rfl, hst, sC, hRC, hWC, hwlC, hsl⟩
          have hst2 : st = whR ls rd := hst
          rw [← hst2] at hL2
          refine ⟨st.1, ws, st.2, z5, z6, z7, rfl, sC, hRC, hWC, hwlC, by omega, fun h => ?_, fun h => ?_⟩
          · rw [if_pos h] at hL2
            exact hL2
          · rw [if_neg (by rw [h]; decide)] at hL2
            exact Option.some.inj hL2
theorem rcS_len (rd : List Nat) (x : Nat) : (rcS rd x).length ≤ rd.length + 1 := by
  unfold rcS
  split
  · exact Nat.le_succ _
  · rw [List.length_append]
    exact Nat.le_refl _
def spRea (K : PySem.W.Frag) : Sp := fun vs H Q _ => ∃ (p : Addr) (ls : List (List Nat)) (k : Nat) (fin : List Nat), vs = [.ref p, .int (k : Int)] ∧ LNs H p ls ∧ Ls8 ls ∧ rcL ls 9 0 [k] = some fin ∧
  ∀ z (ns : List Int) H', Same H H' → SqT K H' z (ns.map V.int) → ns.Perm (fin.map Int.ofNat) → Q (.ref z) H'
theorem ok_rea {f  : Addr} {fd  : FuncData} (F : Fun K "reach" "reach" s_rea f fd)
    (n_len : mg "len" = none) (n_sorted : mg "sorted" = none) (n_tuple : mg "tuple" = none) : FnOk P w K mg base CX0 1 f fd ["leads", "kind"] (spRea K) := by
  refine F.ok sc_rea (fun vs H Q E h => ?_) (fun cdv A outer s H vs Q E hr h => ?_)
  · obtain ⟨_, _, _, _, rfl, _⟩ := h
    rfl
  · obtain ⟨p, ls, k, fin, rfl, hp, h8, hf, q⟩ := h
    refine ⟨_, (pss_cons (ps_set (i := 2) sc_rea.nd rfl (.inl rfl) (pe_lst (pa_cons (pv 1) pa_nil)))
      (pss_cons (ps_set (i := 3) sc_rea.nd rfl (.inl rfl) pe_int)
      (pss_cons (ps_while PassesOwn.never (pt_cmpR op_lt (pv 3) (pe_callB call_len_seq (by rfl) n_len PySem.boot_len (pa_cons (pv 2) pa_nil)) (nomark _)) (pss_cons (ps_set (i := 4) sc_rea.nd rfl (.inl rfl) (pe_ix ix_list (pv 0) (pe_ix ix_list (pv 2) (pv 3) (fun _ _ => rfl)) (fun _ _ => rfl)))
      (pss_cons (ps_for PassesOwn.never rfl (pi_list (pv 4)) (pg_name (i := 5) sc_rea.nd rfl (.inl rfl)) (pss_one (ps_if (pt_cmpR op_notIn_seq (pv 5) (pv 2) rfl) (pss_one (ps_expr (pe_bm PySem.F.plainAttrs_list PySem.F.slot_list_append PySem.F.type_list_append mt_append (pv 2) (pa_cons (pv 5) pa_nil)))) pss_nil)))
      (pss_one (ps_aug (i := 3) sc_rea.nd rfl (.inl rfl) pe_int ip_add)))))
      (pss_one (ps_ret (pe_callTy call_tuple_of (by rfl) n_tuple (by decide +kernel) (pa_cons (pe_callB cr_sortedI (by rfl) n_sorted (by decide +kernel) (pa_cons (pv 2) pa_nil)) pa_nil))))))), ?_⟩
    have hz : sizeLine = 16777216 := sizeLine_eq
    have hl8 := h8.len
    obtain ⟨as, hp1, hp2⟩ := id hp
    have hal := hp2.len
    refine asg_go ?_
    refine ⟨_, rfl, ?_⟩
    refine tnil_go ?_
    refine ⟨by show 1 ≤ sizeLine; decide, fun R nR => ?_⟩
    have e1 := same_new (o := HO.lst [.int (k : Int)]) nR
    have hR0 : upd H R (.lst [.int (k : Int)]) R = some (.lst (([k] : List Nat).map nV)) := upd_same
    generalize upd H R (.lst [.int (k : Int)]) = H1 at *
    refine gn_go ?_
    refine asg_go ?_
    refine tC_go ?_
    refine gn_go ?_
    refine ⟨fun m σ HB => ∃ (pl : Nat) (rd : List Nat) (z4 z5 : Option V), σ = [some (.ref p), some (.int (k : Int)), some (.ref R), some (.int (pl : Int)), z4, z5] ∧ Same H HB ∧ HB R = some (.lst (rd.map nV)) ∧ rcL ls m pl rd = some fin ∧ rd.length + 8 * m ≤ 73, ⟨9, 0, [k], _, _, rfl, e1, hR0, hf, by show 1 + 72 ≤ 73; decide⟩, ?_⟩
    rintro m σ HB ⟨pl, rd, z4, z5, rfl, sB, hR, hL, hrl⟩
    refine ⟨_, rfl, _, rfl, ?_⟩
    refine tnil_go ?_
    refine ⟨R, _, rfl, .inl (SqL.of hR), ?_⟩
    rw [List.length_map]
    refine ⟨_, _, rfl, rfl, _, rfl, ?_⟩
    cases m with
    | zero => cases hL
    | succ m =>
      have hL2 : (if pl < rd.length then (if rd.getD pl 0 < ls.length then rcL ls m (pl + 1) ((ls.getD (rd.getD pl 0) []).foldl rcS rd) else none) else some rd) = some fin := hL
      by_cases c : pl < rd.length
      case neg =>
        rw [if_neg c] at hL2
        have ef := Option.some.inj hL2
        rw [decide_eq_false (show ¬ (pl : Int) < ((rd.length : Nat) : Int) by omega), if_neg (by decide)]
        dsimp only
        refine ret_go ?_
        refine ⟨_, rfl, ?_⟩
        refine tnil_go ?_
        refine ⟨R, rd.map Int.ofNat, rfl, ?_, fun ns l hperm hsort nl => ?_⟩
        · rw [List.map_map]
          exact SqL.of hR
        have g1 := same_new (o := HO.lst (ns.map V.int)) nl
        refine tnil_go ?_
        refine ⟨l, _, rfl, .inl ⟨SqL.of upd_same, fun z nz => ?_⟩⟩
        exact q z ns _ (sB.trans (g1.trans (same_new nz))) (SqT.of upd_same) (by rw [← ef]; exact hperm)
      rw [if_pos c] at hL2
      rw [decide_eq_true (show (pl : Int) < ((rd.length : Nat) : Int) by omega), if_pos rfl]
      by_cases c2 : rd.getD pl 0 < ls.length
      case neg =>
        rw [if_neg c2] at hL2
        cases hL2
      rw [if_pos c2] at hL2
      refine ⟨_, fun σ' H' h => ⟨m, Nat.lt_succ_self m, h⟩, ?_⟩
      have hgr : (rd.map nV)[pl]? = some (nV (rd.getD pl 0)) := by
        rw [List.getElem?_map, List.getD_eq_getElem?_getD, List.getElem?_eq_getElem c]
        rfl
      generalize rd.getD pl 0 = x at *
      have hgl : ls[x]? = some (ls.getD x []) := by rw [List.getD_eq_getElem?_getD, List.getElem?_eq_getElem c2]; rfl
      obtain ⟨ai, eai, hai⟩ := hp2.get hgl
      have hll := h8.each _ (List.mem_of_getElem? hgl)
      have hgi : (as.map V.ref)[x]? = some (.ref ai) := by rw [List.getElem?_map, eai]; rfl
      generalize ls.getD x [] = l at *
      refine asg_go ?_
      refine ⟨_, rfl, _, rfl, _, rfl, R, _, _, _, rfl, rfl, SqL.of hR, atI_nat hgr, p, _, _, _, rfl, rfl, SqL.of (sB _ _ hp1), atI_nat hgi, ?_⟩
      refine gn_go ?_
      refine ⟨_, rfl, ai, rfl, ⟨_, SqL.of (sB _ _ hai)⟩, ?_⟩
      refine for_list (K := K) (a := ai) (xs := l.map nV) (fun j σ HC => ∃ (z5 : Option V), σ = [some (.ref p), some (.int (k : Int)), some (.ref R), some (.int (pl : Int)), some (.ref ai), z5] ∧ Same H HC ∧ HC R = some (.lst (((l.take j).foldl rcS rd).map nV)) ∧ ((l.take j).foldl rcS rd).length ≤ rd.length + j) ⟨z5, rfl, sB, hR, Nat.le_refl _⟩ ?_ ?_ ?_
      · rintro j σ HC _ ⟨z5, rfl, sC, _⟩
        exact SqL.of (sC _ _ hai)
      · rintro j y σ HC hy ⟨z5, rfl, sC, hRC, hlC⟩
        have hj : j < l.length := by
          have := (List.getElem?_eq_some_iff.mp hy).1
          rw [List.length_map] at this
          exact this
        rw [List.getElem?_map, List.getElem?_eq_getElem hj] at hy
        cases Option.some.inj hy
        have enx : (l.take (j + 1)).foldl rcS rd = rcS ((l.take j).foldl rcS rd) l[j] := by
          rw [List.take_add_one, List.getElem?_eq_getElem hj, List.foldl_append]
          rfl
        have hln := rcS_len ((l.take j).foldl rcS rd) l[j]
        rw [← enx] at hln
        generalize (l.take j).foldl rcS rd = acc at *
        refine gn_go ?_
        refine ⟨_, rfl, _, rfl, R, _, rfl, .inl (SqL.of hRC), rfl, flat_nat _, ?_⟩
        rw [if_pos rfl, inV_nat]
        refine ⟨_, rfl, ?_⟩
        cases cc : acc.contains l[j] with
        | true =>
          refine iteF ?_
          refine ⟨_, rfl, sC, ?_, by omega⟩
          rw [enx]
          unfold rcS
          rw [cc, if_pos rfl]
          exact hRC
        | false =>
          refine iteT ?_
          refine ⟨_, rfl, .inl ⟨rfl, _, SqL.of hRC⟩, ?_⟩
          refine ⟨_, rfl, ?_⟩
          refine tnil_go ?_
          refine ⟨R, _, _, rfl, rfl, hRC, by rw [List.length_map]; omega, ?_⟩
          refine ⟨_, rfl, wr_same sC nR, ?_, by omega⟩
          rw [upd_same, enx]
          unfold rcS
          rw [cc, if_neg (by decide), List.map_append]
          rfl
      · rintro σ HC ⟨z5, rfl, sC, hRC, hlC⟩
        rw [List.length_map, List.take_of_length_le (Nat.le_refl _)] at hRC hlC
        dsimp only
        refine ⟨_, rfl, _, _, rfl, rfl, ?_⟩
        exact ⟨pl + 1, _, _, _, rfl, sC, hRC, hL2, by omega⟩
end

end Fp

set_option Elab.async false
set_option linter.all false
set_option maxRecDepth 100000
set_option maxHeartbeats 4000000
set_option exponentiation.threshold 10000
namespace Fp
open PySem PySem.Spec PyProof.Rows L2
/-! ### two groups apart -/
abbrev s_apt : Stmt := topS 32
abbrev N_apt : List Str := ["leads", "groups", "pairs", "one", "other", "kind"]
theorem sc_apt : FnScope N_apt ["leads"] (defScope s_apt) := ⟨rfl, rfl, rfl, by decide +kernel, rfl, by decide +kernel, by decide +kernel⟩
def scp0_apt (b : List Stmt) (d : Scope) : Scope := match b with
  | (_ :: (.Assign _ (.ListComp _ _ sc _) _) :: _) => sc
  | _ => d
def grQ (ls : List (List Nat)) (k : Nat) : List Nat := (rcL ls 9 0 [k]).getD []
def disQ (ls : List (List Nat)) (a b : Nat) : Bool := !(grQ ls a).any (grQ ls b).contains
/-- some group is apart from another -/
structure Apt (ls : List (List Nat)) : Prop where
  each : ∀ k, k < ls.length → (rcL ls 9 0 [k]).isSome = true
  some : (List.range ls.length).any (fun a => (List.range ls.length).any (disQ ls a)) = true
def GrA (K : PySem.W.Frag) (H : Hp) (p : Addr) (y : List Nat) : Prop := ∃ ns : List Int, SqT K H p (ns.map V.int) ∧ ns.Perm (y.map Int.ofNat)
theorem grA_stays {K : PySem.W.Frag} : Stays K (GrA K) := fun H H' r y e h => by
  obtain ⟨ns, h1, h2⟩ := h
  exact ⟨ns, e _ _ h1, h2⟩
theorem inV_int (k : Int) : ∀ xs : List Int, inV (.int k) (xs.map V.int) = decide (k ∈ xs)
  | [] => rfl
  | x :: r => by
    show ((x == k) || inV (.int k) (r.map V.int)) = decide (k ∈ x :: r)
    rw [inV_int k r, Bool.eq_iff_iff, Bool.or_eq_true, beq_iff_eq, decide_eq_true_eq, decide_eq_true_eq, List.mem_cons]
    constructor
    · rintro (h | h)
      · exact .inl h.symm
      · exact .inr h
    · rintro (h | h)
      · exact .inl h.symm
      · exact .inr h
theorem rcF_len (l : List Nat) : ∀ rd : List Nat, (l.foldl rcS rd).length ≤ rd.length + l.length := by
  induction l with
  | nil => intro rd; exact Nat.le_refl _
  | cons x r ih =>
    intro rd
    have h1 := ih (rcS rd x)
    have h2 := rcS_len rd x
    rw [List.foldl_cons, List.length_cons]
    omega
theorem rcL_len {ls : List (List Nat)} (h8 : Ls8 ls) : ∀ (m pl : Nat) (rd fin : List Nat), rcL ls m pl rd = some fin → fin.length ≤ rd.length + 8 * m
  | 0, pl, rd, fin, h => by cases h
  | m + 1, pl, rd, fin, h => by
    unfold rcL at h
    by_cases c1 : pl < rd.length
    · rw [if_pos c1] at h
      by_cases c2 : rd.getD pl 0 < ls.length
      · rw [if_pos c2] at h
        have h1 := rcL_len h8 m _ _ _ h
        have h2 := rcF_len (ls.getD (rd.getD pl 0) []) rd
        have h3 : (ls.getD (rd.getD pl 0) []).length ≤ 8 := by
          rw [List.getD_eq_getElem?_getD, List.getElem?_eq_getElem c2]
          exact h8.each _ (List.getElem_mem c2)
        omega
      · rw [if_neg c2] at h
        cases h
    · rw [if_neg c1] at h
      cases h
      omega
theorem any_perm {as bs : List Int} {xs ys : List Nat} (h1 : as.Perm (xs.map Int.ofNat)) (h2 : bs.Perm (ys.map Int.ofNat)) : (as.map fun x => decide (x ∈ bs)).any id = xs.any ys.contains := by
  rw [Bool.eq_iff_iff, List.any_eq_true, List.any_eq_true]
  constructor
  · rintro ⟨b, hb, e⟩
    obtain ⟨x, hx, rfl⟩ := List.mem_map.mp hb
    have e := of_decide_eq_true e
    obtain ⟨n, hn, rfl⟩ := List.mem_map.mp (h1.mem_iff.mp hx)
    obtain ⟨m, hm, em⟩ := List.mem_map.mp (h2.mem_iff.mp e)
    have : m = n := Int.ofNat.inj em
    exact ⟨n, hn, by rw [List.contains_iff_mem]; rw [← this]; exact hm⟩
  · rintro ⟨n, hn, e⟩
    rw [List.contains_iff_mem] at e
    refine ⟨true, List.mem_map.mpr ⟨Int.ofNat n, h1.mem_iff.mpr (List.mem_map_of_mem hn), ?_⟩, rfl⟩
    exact decide_eq_true (h2.mem_iff.mpr (List.mem_map_of_mem e))
theorem flat_int (xs : List Int) : (xs.map V.int).all flatV = true := by
  rw [List.all_eq_true]
  intro v hv
  obtain ⟨x, _, rfl⟩ := List.mem_map.mp hv
  rfl
section
variable {P : Program} {w : World} {K : PySem.W.Frag} {mg : Str → Option Value} {base : Heap} {aN aO : Addr}
theorem lc_ols {α : Type} {At : Hp → Addr → α → Prop} (st : Stays K At) {J : It} {n : Nat} {G : Hp → Prop} {Y : Nat → Hp → V → Hp → Prop} (w : Walk J n G Y) {g : TG} {te : TE} {vs : List Nat} {σ : L2.St} {H1 : Hp} (f : Nat → α) (hn : n ≤ 900) (hG : ∀ HE, Same H1 HE → G HE)
    (hs : ∀ (k : Nat) (x : V) (HE HE' : Hp) (R : VK), k < n → Same H1 HE → Y k HE x HE' → (∀ r HF, Same HE HF → At HF r (f k) → R (.ref r) HF) → g x (wipe σ vs) HE' fun σ2 H2 => wipe σ2 vs = wipe σ vs ∧ te σ2 H2 R)
    {Qd : Addr → Hp → Prop} (hd : ∀ D H2, Same H1 H2 → OLs At H2 D ((List.range n).map f) → Qd D H2) : tLc (fun _ H2 R => R J H2) g tYes te vs σ H1 (refQ Qd) := by
  intro D nD
  have e1 := same_new (o := HO.lst []) nD
  refine lc_it w (fun k HE => ∃ rs : List Addr, Same H1 HE ∧ HE D = some (.lst (rs.map V.ref)) ∧ Obs At HE rs ((List.range k).map f)) ⟨[], e1, upd_same, Obs.nil⟩ ?_ ?_ ?_
  · rintro i HE _ ⟨rs, sE, _⟩
    exact hG HE sE
  · rintro k x HE HE' hk ⟨rs, sE, hE, hA⟩ hY
    have hl := hA.1
    rw [List.length_map, List.length_range] at hl
    refine hs k x HE HE' _ hk sE hY fun r HF sF hr => ?_
    have hE5 := sF _ _ hE
    refine ⟨_, hE5, by rw [List.length_map, hl]; exact small1000 (by omega), rs ++ [r], ?_, ?_, ?_⟩
    · exact wr_same (sE.trans sF) nD
    · rw [upd_same, List.map_append]
      rfl
    · rw [List.range_succ, List.map_append]
      exact ((hA.tk st (Tk.same sF)).append (Obs.one hr)).tk st (tk_lst hE5)
  · rintro HE ⟨rs, sE, hE, hA⟩
    exact hd D HE sE ⟨rs, hE, hA⟩
theorem lc_valG {J : It} {n : Nat} {G : Hp → Prop} {Y : Nat → Hp → V → Hp → Prop} (w : Walk J n G Y) {g : TG} {te : TE} {vs : List Nat} {σ : L2.St} {H1 : Hp} (f : Nat → V) (hn : n ≤ 100000) (hG : ∀ HE, Same H1 HE → G HE)
    (hs : ∀ (k : Nat) (x : V) (HE HE' : Hp) (R : VK), k < n → Same H1 HE → Y k HE x HE' → (∀ HF, Same HE HF → R (f k) HF) → g x (wipe σ vs) HE' fun σ2 H2 => wipe σ2 vs = wipe σ vs ∧ te σ2 H2 R)
    {Qd : Addr → Hp → Prop} (hd : ∀ D H2, Same H1 H2 → H2 D = some (.lst ((List.range n).map f)) → Qd D H2) : tLc (fun _ H2 R => R J H2) g tYes te vs σ H1 (refQ Qd) := by
  have hz : sizeLine = 16777216 := sizeLine_eq
  intro D nD
  have e1 := same_new (o := HO.lst []) nD
  refine lc_it w (fun k HE => Same H1 HE ∧ HE D = some (.lst ((List.range k).map f))) ⟨e1, upd_same⟩ ?_ ?_ ?_
  · rintro i HE _ ⟨sE, _⟩
    exact hG HE sE
  · rintro k x HE HE' hk ⟨sE, hE⟩ hY
    refine hs k x HE HE' _ hk sE hY fun HF sF => ?_
    refine ⟨_, sF _ _ hE, by rw [List.length_map, List.length_range]; omega, ?_, ?_⟩
    · intro b2 o hb2
      rw [upd_ne (ne_of_none hb2 nD)]
      exact (sE.trans sF) _ _ hb2
    · rw [upd_same, List.range_succ, List.map_append]
      rfl
  · rintro HE ⟨sE, hE⟩
    exact hd D HE sE hE
def PrT (K : PySem.W.Frag) (H : Hp) (v : V) : Prop := ∃ T x y, v = .ref T ∧ SqT K H T [x, y]
theorem PrT.tk {H H' : Hp} {v : V} (h : PrT K H v) (e : Tk K H H') : PrT K H' v := by
  obtain ⟨T, x, y, h1, h2⟩ := h
  exact ⟨T, x, y, h1, e _ _ h2⟩
def spApt (K : PySem.W.Frag) : Sp := fun vs H Q _ => ∃ (p : Addr) (ls : List (List Nat)), vs = [.ref p] ∧ LNs H p ls ∧ Ls8 ls ∧ Apt ls ∧
  ∀ z x y H', Same H H' → SqT K H' z [.str "apart", x, y] → Q (.ref z) H'
theorem ok_apt {f fREA : Addr} {fd fdREA : FuncData} (F : Fun K "apart_told" "apart_told" s_apt f fd)
    (FREA : Fun K "reach" "reach" s_rea fREA fdREA) (bREA : Binds K fdREA ["leads", "kind"] []) (gREA : mg "reach" = some (.ref fREA)) (GREA : FnOk P w K mg base CX0 1 fREA fdREA ["leads", "kind"] (spRea K))
    (n_any : mg "any" = none) (n_len : mg "len" = none) (n_range : mg "range" = none) : FnOk P w K mg base CX0 2 f fd ["leads"] (spApt K) := by
  refine F.ok sc_apt (fun vs H Q E h => ?_) (fun cdv A outer s H vs Q E hr h => ?_)
  · obtain ⟨_, _, rfl, _⟩ := h
    rfl
  · obtain ⟨p, ls, rfl, hp, h8, hA, q⟩ := h
    refine ⟨_, (pss_cons (ps_set (i := 1) sc_apt.nd rfl (.inr rfl) (pe_lc (own := [("kind", 5)]) (g := (gName 5)) (tt := tYes) (te := (tCall (spRea K) [] E0 (tCons (tVar 0) (tCons (tVar 5) tNil)))) rfl sc_apt.nd (pi_range1 (by rfl) n_range (pa_cons (pe_callB call_len_seq (by rfl) n_len PySem.boot_len (pa_cons (pv 0) pa_nil)) pa_nil)) (blkOk_by (own := [("kind", 5)]) (N := N_apt) (sc := (defScope s_apt)) (by decide +kernel)) (fun _ _ _ _ _ => (pg_name (i := 5) sc_apt.nd rfl (.inl rfl))) (fun _ _ _ _ _ => pts_nil) (fun _ _ _ _ _ => (pe_call GREA hr (by rfl) gREA FREA.kp bREA .nil pass0 (pa_cons (pv 0) (pa_cons (pv 5) pa_nil))))))
      (pss_cons (ps_setLc2 (i := 2) (own := [("one", 3), ("other", 4)]) (vs1 := [4]) (g := (gName 3)) (g1 := (gName 4)) (tt := tYes) (tt1 := (tNot (tB (tCB (rAny K) (tCons (tLc (iTup K (tVar 3)) (gName 5) tYes (tOp (rIn K false) (tVar 5) (tVar 4)) [5]) tNil))))) (wi1 := (iList K (tVar 1))) (te := (tTup (tCons (tVar 3) (tCons (tVar 4) tNil)))) rfl sc_apt.nd rfl rfl (sw_true rfl rfl rfl (by decide +kernel)) (pi_list (pv 1)) (blkOk_by (own := [("one", 3), ("other", 4)]) (N := N_apt) (sc := (defScope s_apt)) (by decide +kernel)) (by decide) (fun _ _ _ _ _ => (pg_name (i := 3) sc_apt.nd rfl (.inl rfl))) (fun _ _ _ _ _ => pts_nil) (fun _ _ _ _ _ => (pi_list (pv 1))) (fun _ _ _ _ _ => (pg_name (i := 4) sc_apt.nd rfl (.inr rfl))) (fun _ _ _ _ _ => (pts_one (pt_not (pt_val (pe_callB (cr_any rfl) (by rfl) n_any (by decide +kernel) (pa_cons (pe_lc (own := [("kind", 5)]) (g := (gName 5)) (tt := tYes) (te := (tOp (rIn K false) (tVar 5) (tVar 4))) rfl sc_apt.nd (pi_tup (pv 3)) (blkOk_by (own := [("kind", 5)]) (N := N_apt) (sc := (relS (scp0_apt (defBody s_apt) (defScope s_apt)) (defScope s_apt))) (by decide +kernel)) (fun _ _ _ _ _ => (pg_name (i := 5) sc_apt.nd rfl (.inl rfl))) (fun _ _ _ _ _ => pts_nil) (fun _ _ _ _ _ => (pe_cmpR op_in_seq (pv 5) (pv 4) rfl))) pa_nil)))))) (fun _ _ _ _ _ => (pe_tup (pa_cons (pv 3) (pa_cons (pv 4) pa_nil)))))
      (pss_cons (ps_asg (pe_ix ix_list (pv 2) pe_int (fun _ _ => rfl)) (pg_tup rfl (pgs_cons (pg_name (i := 3) sc_apt.nd rfl (.inl rfl)) (pgs_cons (pg_name (i := 4) sc_apt.nd rfl (.inl rfl)) pgs_nil))))
      (pss_one (ps_ret (pe_tup (pa_cons pe_str (pa_cons (pv 3) (pa_cons (pv 4) pa_nil))))))))), ?_⟩
    have hz : sizeLine = 16777216 := sizeLine_eq
    have hl8 := h8.len
    obtain ⟨as, hp1, hp2⟩ := id hp
    have hal := hp2.len
    refine asg_go ?_
    refine ⟨_, rfl, ?_⟩
    refine tnil_go ?_
    refine ⟨p, _, rfl, .inl (SqL.of hp1), ?_⟩
    rw [List.length_map, hal]
    refine tnil_go ?_
    refine ⟨_, rfl, by omega, by omega, ?_⟩
    rw [Int.toNat_natCast]
    refine lc_ols (At := GrA K) grA_stays (walk_range (lo := 0) (n := ls.length)) (grQ ls) (by omega) (fun _ _ => trivial) (fun k x HE HE' R hk sE hY qr => ?_) (fun D H1 s1 hD => ?_)
    · obtain ⟨rfl, rfl⟩ := hY
      have hs := hA.each k hk
      obtain ⟨fin, ef⟩ := Option.isSome_iff_exists.mp hs
      refine ⟨rfl, ?_⟩
      refine ⟨_, rfl, _, rfl, ?_⟩
      refine tnil_go ?_
      refine ⟨p, ls, k, fin, by show [V.ref p, V.int (0 + (k : Int))] = _; rw [Int.zero_add], hp.same sE, h8, ef, fun z ns H' s' hz hpm => qr z H' s' ⟨ns, hz, ?_⟩⟩
      unfold grQ
      rw [ef]
      exact hpm
    obtain ⟨gs, d1, d2⟩ := hD
    have hgl := d2.1
    rw [List.length_map, List.length_range] at hgl
    have hga : ∀ i, i < ls.length → ∃ r, gs[i]? = some r ∧ GrA K H1 r (grQ ls i) := fun i hi => by
      obtain ⟨r, e1, e2⟩ := d2.get (i := i) (y := grQ ls i) (by rw [List.getElem?_map, List.getElem?_range hi]; rfl)
      exact ⟨r, e1, e2⟩
    refine gn_go ?_
    refine asg_go ?_
    refine ⟨_, rfl, D, rfl, ⟨_, SqL.of d1⟩, ?_⟩
    have hD0 := hA.some
    refine lc2_it (walk_list (K := K) (a := D) (xs := gs.map V.ref)) (fun D2 i HE => Same H1 HE ∧ ∃ acc : List V, HE D2 = some (.lst acc) ∧ acc.length ≤ 8 * i ∧ (∀ v ∈ acc, PrT K HE v) ∧ acc.isEmpty = !(List.range i).any fun a => (List.range ls.length).any (disQ ls a)) (fun D2 nD => ⟨same_new nD, [], upd_same, Nat.zero_le _, (fun v hv => by cases hv), rfl⟩) (fun D2 i HE _ h => SqL.of (h.1 _ _ d1)) (fun D2 i v HE HE' nD hi ⟨sE, acc, hD, hal2, hpr, hemp⟩ hY => ?_) (fun D2 H2 ⟨s2, acc, hD, hal2, hpr, hemp⟩ => ?_)
    · obtain ⟨rfl, hv⟩ := hY
      rw [List.length_map, hgl] at hi
      obtain ⟨r1, er1, hr1⟩ := hga i hi
      rw [List.getElem?_map, er1] at hv
      cases Option.some.inj hv
      refine ⟨rfl, ?_⟩
      refine ⟨_, rfl, D, rfl, ⟨_, SqL.of (sE _ _ d1)⟩, ?_⟩
      refine inner2_it (walk_list (K := K) (a := D) (xs := gs.map V.ref)) (fun j HF => Same H1 HF ∧ ∃ acc : List V, HF D2 = some (.lst acc) ∧ acc.length ≤ 8 * i + j ∧ (∀ v ∈ acc, PrT K HF v) ∧ acc.isEmpty = !((List.range i).any (fun a => (List.range ls.length).any (disQ ls a)) || (List.range j).any (disQ ls i))) ⟨sE, acc, hD, hal2, hpr, by rw [hemp]; simp⟩ (fun j HF _ h => SqL.of (h.1 _ _ d1)) (fun j v HF HF' hj ⟨sF, acc, hDF, hlF, hpF, heF⟩ hY => ?_) (fun HF ⟨sF, acc, hDF, hlF, hpF, heF⟩ => ⟨sF, acc, hDF, ?_, hpF, ?_⟩)
      · obtain ⟨rfl, hv⟩ := hY
        rw [List.length_map, hgl] at hj
        obtain ⟨r2, er2, hr2⟩ := hga j hj
        rw [List.getElem?_map, er2] at hv
        cases Option.some.inj hv
        obtain ⟨as1, a1, a2⟩ := grA_stays _ _ _ _ (Tk.same (K := K) sF) hr1
        obtain ⟨bs1, b1, b2⟩ := grA_stays _ _ _ _ (Tk.same (K := K) sF) hr2
        have hap := any_perm a2 b2
        have hlen1 : as1.length ≤ 80 := by
          have h1 := a2.length_eq
          rw [List.length_map] at h1
          obtain ⟨fin, ef⟩ := Option.isSome_iff_exists.mp (hA.each i hi)
          have h2 := rcL_len h8 9 0 [i] fin ef
          have h3 : grQ ls i = fin := by unfold grQ; rw [ef]; rfl
          rw [h1, h3]
          have : ([i] : List Nat).length = 1 := rfl
          omega
        have hdis : disQ ls i j = !(grQ ls i).any (grQ ls j).contains := rfl
        refine ⟨rfl, ?_⟩
        refine ⟨_, rfl, r1, rfl, ⟨_, a1⟩, ?_⟩
        refine lc_valG (walk_tup (K := K) (a := r1) (xs := as1.map V.int)) (fun k => .bl (decide ((as1.getD k 0) ∈ bs1))) (by rw [List.length_map]; omega) (fun HE sE2 => sqT_same sE2 a1) (fun k x HE HE' R hk sE2 hY2 qr => ?_) (fun DD HG sG hDD => ?_)
        · obtain ⟨rfl, hx⟩ := hY2
          rw [List.length_map] at hk
          rw [List.getElem?_map, List.getElem?_eq_getElem hk] at hx
          cases Option.some.inj hx
          rw [List.getD_eq_getElem?_getD, List.getElem?_eq_getElem hk] at qr
          refine ⟨rfl, ?_⟩
          refine ⟨_, rfl, _, rfl, r2, _, rfl, .inr (sqT_same sE2 b1), rfl, flat_int _, ?_⟩
          rw [if_neg (by decide), inV_int]
          exact qr _ (Same.refl _)
        have em : (List.range (as1.map V.int).length).map (fun k => V.bl (decide ((as1.getD k 0) ∈ bs1))) = (as1.map fun x => decide (x ∈ bs1)).map V.bl := by
          rw [List.length_map]
          refine List.ext_getElem (by simp) fun k h1 h2 => ?_
          simp only [List.length_map, List.length_range] at h1
          simp only [List.getElem_map, List.getElem_range]
          rw [List.getD_eq_getElem?_getD, List.getElem?_eq_getElem h1]
          rfl
        rw [em] at hDD
        refine tnil_go ?_
        refine ⟨DD, _, rfl, SqL.of hDD, ?_⟩
        rw [hap]
        refine ⟨_, rfl, ?_⟩
        have hrow : (List.range (j + 1)).any (disQ ls i) = ((List.range j).any (disQ ls i) || disQ ls i j) := by
          rw [List.range_succ, List.any_append]
          simp
        have hDG := sG _ _ hDF
        cases hb : (grQ ls i).any (grQ ls j).contains with
        | true =>
          refine iteF ?_
          refine ⟨sF.trans sG, acc, hDG, by omega, fun v hv => (hpF v hv).tk (Tk.same sG), ?_⟩
          rw [hrow, hdis, hb, heF]
          simp
        | false =>
          refine iteT ?_
          refine ⟨_, rfl, _, rfl, ?_⟩
          refine tnil_go ?_
          refine ⟨by show 2 ≤ sizeLine; decide, fun T nT => ?_⟩
          have eT := same_new (o := HO.tup [.ref r1, .ref r2]) nT
          have hDT := eT _ _ hDG
          refine ⟨acc, hDT, by omega, wr_same (sF.trans (sG.trans eT)) nD, acc ++ [.ref T], upd_same, by rw [List.length_append]; show acc.length + 1 ≤ _; omega, fun v hv => ?_, ?_⟩
          · rcases List.mem_append.mp hv with z | z
            · exact (hpF v z).tk ((Tk.same (sG.trans eT)).trans (tk_lst hDT))
            · rw [List.mem_singleton.mp z]
              exact ⟨T, _, _, rfl, tk_lst hDT _ _ (SqT.of upd_same)⟩
          · rw [hrow, hdis, hb]
            cases acc <;> simp
      · rw [List.length_map, hgl] at hlF
        omega
      · rw [heF, List.length_map, hgl, List.range_succ, List.any_append]
        simp
    · rw [List.length_map, hgl, hD0] at hemp
      have hne : acc ≠ [] := fun z => by
        rw [z] at hemp
        cases hemp
      obtain ⟨v0, vr, ev⟩ := List.exists_cons_of_ne_nil hne
      obtain ⟨T, x, y, rfl, hT⟩ := hpr v0 (by rw [ev]; exact List.mem_cons_self ..)
      rw [ev] at hD
      refine gn_go ?_
      refine asg_go ?_
      refine ⟨_, rfl, D2, _, _, .ref T, rfl, rfl, SqL.of hD, atI_nat (j := 0) rfl, ?_⟩
      refine ⟨T, _, rfl, hT, rfl, _, _, rfl, ?_⟩
      refine gn_go ?_
      refine ⟨_, _, rfl, ?_⟩
      refine gn_go ?_
      refine ⟨rfl, ?_⟩
      refine ret_go ?_
      refine ⟨_, rfl, _, rfl, ?_⟩
      refine tnil_go ?_
      refine ⟨by show 3 ≤ sizeLine; decide, fun z nz => ?_⟩
      exact q z x y _ (s1.trans (s2.trans (same_new nz))) (SqT.of upd_same)
end

end Fp

set_option Elab.async false
set_option linter.all false
set_option maxRecDepth 100000
set_option maxHeartbeats 4000000
set_option exponentiation.threshold 10000
namespace Fp
open PySem PySem.Spec PyProof.Rows L2
/-! ### the parts of flows -/
def onQ (n : Nat) (f : Nat → Nat → Rat) : Rat := sumTo (n + 1) (f (n + 1))
def ofQ (n : Nat) (f : Nat → Nat → Rat) (i : Nat) : Rat := f i (n + 1) / onQ n f
def gQ (n : Nat) (f : Nat → Nat → Rat) (i j : Nat) : Rat := f i j + ofQ n f i * f (n + 1) j
def partF : Nat → (Nat → Nat → Rat) → Nat → Rat
  | 0, _ => fun _ => 0
  | 1, _ => fun _ => 1
  | n + 2, f => fun j => if j = n + 1 then sumTo (n + 1) (fun i => partF (n + 1) (gQ n f) i * ofQ n f i) else partF (n + 1) (gQ n f) j
def PtOk : Nat → (Nat → Nat → Rat) → Prop
  | 0, _ => False
  | 1, _ => True
  | n + 2, f => (∃ P : Int, 0 < P ∧ Sm 600 P ∧ (∀ i j, i < n + 2 → j < n + 2 → Sz P 400 (f i j)) ∧ (∀ i, i < n + 1 → Sz P 400 (ofQ n f i)) ∧ ∀ i, i < n + 1 → Sz P 400 (partF (n + 1) (gQ n f) i)) ∧ 0 < onQ n f ∧ PtOk (n + 1) (gQ n f)
theorem cut_last (xs : List V) (y : V) : cutV (xs ++ [y]) none (some (-1)) = xs := by
  have e : HT.sIx (xs ++ [y]).length (xs ++ [y]).length (some (-1)) = xs.length := by
    rw [List.length_append]
    unfold HT.sIx
    simp
    try omega
  unfold cutV
  rw [HT.sIx_none, e, List.drop_zero, Nat.sub_zero, List.take_left]
abbrev s_pts : Stmt := topS 35
abbrev N_pts : List Str := ["flows", "last", "ahead", "onward", "often", "straight", "row", "times_met", "parts", "chance", "through", "part"]
theorem sc_pts : FnScope N_pts ["flows"] (defScope s_pts) := ⟨rfl, rfl, rfl, by decide +kernel, rfl, by decide +kernel, by decide +kernel⟩
section
variable {P : Program} {w : World} {K : PySem.W.Frag} {mg : Str → Option Value} {base : Heap} {aN aO : Addr}
theorem LsM.wr {H : Hp} {r S : Addr} {xs : List RT} {ys zs : List V} (h : LsM K H r xs) (hn : r ≠ S) (e : H S = some (.lst ys)) : LsM K (upd H S (.lst zs)) r xs := by
  obtain ⟨rs, h1, h2⟩ := h
  exact ⟨rs, by rw [upd_ne hn]; exact h1, h2.tk (tk_lst e)⟩
theorem init_ls {H : Hp} {p : Addr} {n : Nat} {g : Nat → Rat} {Q : VK} (h : LsM K H p (mkL (n + 1) g)) (q : ∀ b H', Same H H' → LsM K H' b (mkL n g) → Q (.ref b) H') : rSlL K (.ref p) none (some (-1)) H Q := by
  obtain ⟨as, h1, h2⟩ := h
  have hl := h2.length
  rw [mkL_len] at hl
  obtain ⟨bs, y, rfl⟩ : ∃ bs y, as = bs ++ [y] := by
    rcases snoc_cases as with z | z
    · rw [z] at hl
      cases hl
    · exact z
  have hb : bs.length = n := by
    rw [List.length_append] at hl
    exact Nat.succ.inj hl
  rw [List.map_append] at h1
  refine ⟨p, _, rfl, SqL.of h1, fun b nb => ?_⟩
  have e := cut_last (bs.map V.ref) (.ref y)
  have h3 := h2.take n
  have t1 : (bs ++ [y]).take n = bs := List.take_left' hb
  have t2 : (mkL n g ++ [rdq (g n)]).take n = mkL n g := List.take_left' mkL_len
  rw [mkL_succ, t1, t2] at h3
  rw [show (bs.map V.ref ++ List.map V.ref [y]) = bs.map V.ref ++ [.ref y] from rfl, e]
  exact q b _ (same_new nb) ⟨bs, upd_same, h3.tk (Tk.same (same_new nb))⟩
theorem lastL65 {H : Hp} {p : Addr} {n : Nat} {g : Nat → Rat} {Q : VK} (h : LsM K H p (mkL (n + 1) g)) (q : ∀ r, RAt K H r (rdq (g n)) → Q (.ref r) H) : rIxL K (.ref p) (.int (-1)) H Q := by
  obtain ⟨as, h1, h2⟩ := h
  have hl := h2.length
  rw [mkL_len] at hl
  obtain ⟨r, e1, e2⟩ := h2.get (mkL_at (show n < n + 1 by omega))
  refine ⟨p, _, _, .ref r, rfl, rfl, SqL.of h1, ?_, q r e2⟩
  unfold atI ixN
  rw [if_neg (by decide), if_pos (by rw [List.length_map, hl]; omega)]
  show (as.map V.ref)[((-1 : Int) + ((as.map V.ref).length : Int)).toNat]? = _
  rw [List.length_map, hl, show ((-1 : Int) + ((n + 1 : Nat) : Int)).toNat = n by omega, List.getElem?_map, e1]
  rfl
theorem lc_mkWN {J : It} {n : Nat} {G : Hp → Prop} {Y : Nat → Hp → V → Hp → Prop} (w : Walk J n G Y) {g : TG} {te : TE} {vs : List Nat} {σ : L2.St} {H1 : Hp} (f : Nat → Rat) (hn : n ≤ 900) (hG : ∀ HE, Same H1 HE → G HE)
    (hs : ∀ (k : Nat) (x : V) (HE HE' : Hp) (R : VK), k < n → Same H1 HE → Y k HE x HE' → (∀ r HF, Same HE HF → RAt K HF r (rdq (f k)) → R (.ref r) HF) → g x (wipe σ vs) HE' fun σ2 H2 => wipe σ2 vs = wipe σ vs ∧ te σ2 H2 R)
    {Qd : Addr → Hp → Prop} (hd : ∀ D H2, H1 D = none → Same H1 H2 → LsM K H2 D (mkL n f) → Qd D H2) : tLc (fun _ H2 R => R J H2) g tYes te vs σ H1 (refQ Qd) := by
  intro D nD
  have h := lc_mkW w f hn hG hs (Qd := fun E H2 => E = D → Qd D H2) (fun E H2 s2 l z => hd D H2 nD s2 (z ▸ l)) D nD
  obtain ⟨W, h0, h1⟩ := h
  refine ⟨W, h0, fun i m H2 h2 => ?_⟩
  rcases h1 i m H2 h2 with ⟨a, b⟩ | b
  · exact .inl ⟨a, b rfl⟩
  · exact .inr b
def MtA (K : PySem.W.Frag) (H : Hp) (p : Addr) (n m : Nat) (f : Nat → Nat → Rat) : Prop := ∃ rs : List Addr, H p = some (.lst (rs.map V.ref)) ∧ rs.length = n ∧ ∀ i r, rs[i]? = some r → LsM K H r (mkL m (f i))
def spPts (K : PySem.W.Frag) (n : Nat) : Sp := fun vs H Q _ => ∃ (p : Addr) (m : Nat) (f : Nat → Nat → Rat), vs = [.ref p] ∧ MtA K H p m m f ∧ 1 ≤ m ∧ m ≤ n ∧ m ≤ 8 ∧ PtOk m f ∧
  ∀ z H', Same H H' → LsM K H' z (mkL m (partF m f)) → Q (.ref z) H'
theorem spPts_zero {f : Addr} {fd : FuncData} {ps : List Str} {k : Nat} : FnOk P w K mg base CX0 k f fd ps (spPts K 0) := by
  refine ⟨fun vs H Q E h => ?_, fun A outer s H args us vs Q E hr e0 hb r h => ?_⟩
  · obtain ⟨p, m, f, _, _, h1, h2, _⟩ := h
    omega
  · obtain ⟨p, m, f, _, _, h1, h2, _⟩ := h
    omega
theorem ok_ptss {f : Addr} {fd : FuncData} {ps : List Str} (h : ∀ n, FnOk P w K mg base CX0 (n + 3) f fd ps (spPts K n) → FnOk P w K mg base CX0 (n + 4) f fd ps (spPts K (n + 1))) : ∀ n, FnOk P w K mg base CX0 (n + 3) f fd ps (spPts K n)
  | 0 => spPts_zero
  | n + 1 => h n (ok_ptss h n)
theorem ok_pts {n : Nat} {f fAD fO fPL fT fPTS : Addr} {fd fdAD fdO fdPL fdT fdPTS : FuncData} (F : Fun K "parts_of" "parts_of" s_pts f fd) (C : Consts K mg aN aO)
    (FAD : Fun K "added" "added" s_added fAD fdAD) (bAD : Binds K fdAD ["told"] []) (gAD : mg "added" = some (.ref fAD)) (GAD : FnOk P w K mg base CX0 3 fAD fdAD ["told"] (spAdded K))
    (FO : Fun K "over" "over" s_over fO fdO) (bO : Binds K fdO ["one", "other"] []) (gO : mg "over" = some (.ref fO)) (GO : FnOk P w K mg base CX0 3 fO fdO ["one", "other"] (spOver0 K))
    (FPL : Fun K "plus" "plus" s_plus fPL fdPL) (bPL : Binds K fdPL ["one", "other"] []) (gPL : mg "plus" = some (.ref fPL)) (GPL : FnOk P w K mg base CX0 3 fPL fdPL ["one", "other"] (spTwo K (fun a b c d => a * d + c * b)))
    (FT : Fun K "times" "times" s_times fT fdT) (bT : Binds K fdT ["one", "other"] []) (gT : mg "times" = some (.ref fT)) (GT : FnOk P w K mg base CX0 3 fT fdT ["one", "other"] (spTwo K (fun a b c d => a * c)))
    (FPTS : Fun K "parts_of" "parts_of" s_pts fPTS fdPTS) (bPTS : Binds K fdPTS ["flows"] []) (gPTS : mg "parts_of" = some (.ref fPTS)) (GPTS : FnOk P w K mg base CX0 (n + 3) fPTS fdPTS ["flows"] (spPts K n))
    (n_len : mg "len" = none) (n_zip : mg "zip" = none) : FnOk P w K mg base CX0 (n + 4) f fd ["flows"] (spPts K (n + 1)) := by
  refine F.ok sc_pts (fun vs H Q E h => ?_) (fun cdv A outer s H vs Q E hr h => ?_)
  · obtain ⟨_, _, _, rfl, _⟩ := h
    rfl
  · obtain ⟨p, m, ff, rfl, hM, h1, hmn, hm8, hok, q⟩ := h
    refine ⟨_, (pss_cons (ps_if (pt_cmpR op_eq (pe_callB call_len_seq (by rfl) n_len PySem.boot_len (pa_cons (pv 0) pa_nil)) pe_int (nomark _)) (pss_one (ps_ret (pe_lst (pa_cons (pe_glob (v := .ref aO) rfl C.gO rfl) pa_nil)))) pss_nil)
      (pss_cons (ps_asg (pv 0) (pg_uns rfl (pgs_star (pg_name (i := 2) sc_pts.nd rfl (.inl rfl)) (pgs_cons (pg_name (i := 1) sc_pts.nd rfl (.inl rfl)) pgs_nil))))
      (pss_cons (ps_set (i := 3) sc_pts.nd rfl (.inr rfl) (pe_call GAD (hr.mono (by omega)) (by rfl) gAD FAD.kp bAD .nil pass0 (pa_cons (pe_slice sl_list (pv 1) po_none (po_some (pe_un un_neg pe_int))) pa_nil)))
      (pss_cons (ps_setLc (i := 4) (own := [("row", 6)]) (g := (gName 6)) (tt := tYes) (te := (tCall (spOver0 K) [] E0 (tCons (tOp (rIxL K) (tVar 6) (tUn (rU fun i => .int (-i)) (tC (.int 1)))) (tCons (tVar 3) tNil)))) rfl sc_pts.nd rfl rfl (sw_true rfl rfl rfl (by decide +kernel)) (pi_list (pv 2)) (blkOk_by (own := [("row", 6)]) (N := N_pts) (sc := (defScope s_pts)) (by decide +kernel)) (fun _ _ _ _ _ => (pg_name (i := 6) sc_pts.nd rfl (.inl rfl))) (fun _ _ _ _ _ => pts_nil) (fun _ _ _ _ _ => (pe_call GO (hr.mono (by omega)) (by rfl) gO FO.kp bO .nil pass0 (pa_cons (pe_ix ix_list (pv 6) (pe_un un_neg pe_int) (fun _ _ => rfl)) (pa_cons (pv 3) pa_nil)))))
      (pss_cons (ps_set (i := 5) sc_pts.nd rfl (.inl rfl) (pe_lst pa_nil))
      (pss_cons (ps_for PassesOwn.never rfl (pi_zip (by rfl) n_zip (pa_cons (pv 2) (pa_cons (pv 4) pa_nil))) (pg_tup rfl (pgs_cons (pg_name (i := 6) sc_pts.nd rfl (.inl rfl)) (pgs_cons (pg_name (i := 7) sc_pts.nd rfl (.inr rfl)) pgs_nil))) (pss_one (ps_expr (pe_bm PySem.F.plainAttrs_list PySem.F.slot_list_append PySem.F.type_list_append mt_append (pv 5) (pa_cons (pe_lc (own := [("chance", 9), ("through", 10)]) (g := (gTup K 2 (gCons (gName 9) (gCons (gName 10) gNil)))) (tt := tYes) (te := (tCall (spTwo K (fun a b c d => a * d + c * b)) [] E0 (tCons (tVar 9) (tCons (tCall (spTwo K (fun a b c d => a * c)) [] E0 (tCons (tVar 7) (tCons (tVar 10) tNil))) tNil)))) rfl sc_pts.nd (pi_zip (by rfl) n_zip (pa_cons (pe_slice sl_list (pv 6) po_none (po_some (pe_un un_neg pe_int))) (pa_cons (pv 1) pa_nil))) (blkOk_by (own := [("chance", 9), ("through", 10)]) (N := N_pts) (sc := (defScope s_pts)) (by decide +kernel)) (fun _ _ _ _ _ => (pg_tup rfl (pgs_cons (pg_name (i := 9) sc_pts.nd rfl (.inl rfl)) (pgs_cons (pg_name (i := 10) sc_pts.nd rfl (.inl rfl)) pgs_nil)))) (fun _ _ _ _ _ => pts_nil) (fun _ _ _ _ _ => (pe_call GPL (hr.mono (by omega)) (by rfl) gPL FPL.kp bPL .nil pass0 (pa_cons (pv 9) (pa_cons (pe_call GT (hr.mono (by omega)) (by rfl) gT FT.kp bT .nil pass0 (pa_cons (pv 7) (pa_cons (pv 10) pa_nil))) pa_nil))))) pa_nil)))))
      (pss_cons (ps_set (i := 8) sc_pts.nd rfl (.inl rfl) (pe_call GPTS hr (by rfl) gPTS FPTS.kp bPTS .nil pass0 (pa_cons (pv 5) pa_nil)))
      (pss_one (ps_ret (pe_lst (StX.pa_star (pv 8) (pa_cons (pe_call GAD (hr.mono (by omega)) (by rfl) gAD FAD.kp bAD .nil pass0 (pa_cons (pe_lc (own := [("part", 11), ("times_met", 7)]) (g := (gTup K 2 (gCons (gName 11) (gCons (gName 7) gNil)))) (tt := tYes) (te := (tCall (spTwo K (fun a b c d => a * c)) [] E0 (tCons (tVar 11) (tCons (tVar 7) tNil)))) rfl sc_pts.nd (pi_zip (by rfl) n_zip (pa_cons (pv 8) (pa_cons (pv 4) pa_nil))) (blkOk_by (own := [("part", 11), ("times_met", 7)]) (N := N_pts) (sc := (defScope s_pts)) (by decide +kernel)) (fun _ _ _ _ _ => (pg_tup rfl (pgs_cons (pg_name (i := 11) sc_pts.nd rfl (.inl rfl)) (pgs_cons (pg_name (i := 7) sc_pts.nd rfl (.inl rfl)) pgs_nil)))) (fun _ _ _ _ _ => pts_nil) (fun _ _ _ _ _ => (pe_call GT (hr.mono (by omega)) (by rfl) gT FT.kp bT .nil pass0 (pa_cons (pv 11) (pa_cons (pv 7) pa_nil))))) pa_nil)) pa_nil)))))))))))), ?_⟩
    have hz : sizeLine = 16777216 := sizeLine_eq
    obtain ⟨rs, hp1, hrl, hrows⟩ := hM
    refine ⟨_, rfl, ?_⟩
    refine tnil_go ?_
    refine ⟨p, _, rfl, .inl (SqL.of hp1), ?_⟩
    rw [List.length_map, hrl]
    refine tC_go ?_
    refine ⟨rfl, _, rfl, ?_⟩
    match m, h1, hmn, hm8, hok, q, hrl, hrows with
    | 1, _, _, _, _, q, _, _ =>
      rw [decide_eq_true (show V.int ((1 : Nat) : Int) = V.int 1 from rfl)]
      refine iteT ?_
      refine ret_go ?_
      refine tcn_go ?_
      refine ⟨by show 1 ≤ sizeLine; decide, fun z nz => ?_⟩
      refine q z _ (same_new nz) ⟨[aO], upd_same, .cons ?_ .nil⟩
      show RAt K _ aO (rdq 1)
      rw [show rdq 1 = (1, 1) by decide +kernel]
      exact C.tO _
    | n + 2, _, hmn, hm8, hok, q, hrl, hrows =>
      obtain ⟨⟨D, hD, sD, zf, zo, zp⟩, hon, hok2⟩ := hok
      rw [decide_eq_false (show ¬ V.int (((n + 2 : Nat) : Nat) : Int) = V.int 1 from fun z => by have := V.int.inj z; omega)]
      refine iteF ?_
      dsimp only [tNext]
      obtain ⟨as, l, rfl⟩ : ∃ as l, rs = as ++ [l] := by
        rcases snoc_cases rs with z | z
        · rw [z] at hrl
          cases hrl
        · exact z
      have hal : as.length = n + 1 := by
        rw [List.length_append] at hrl
        exact Nat.succ.inj hrl
      rw [List.map_append] at hp1
      refine asg_go ?_
      refine ⟨_, rfl, p, as.map V.ref, .ref l, rfl, SqL.of hp1, by rw [List.length_map]; omega, fun b nb => ?_⟩
      have eb := same_new (o := HO.lst (as.map V.ref)) nb
      have hlast : LsM K (upd H b (.lst (as.map V.ref))) l (mkL (n + 2) (ff (n + 1))) := (hrows (n + 1) l (by rw [← hal]; simp)).same eb
      have hbB : upd H b (.lst (as.map V.ref)) b = some (.lst (as.map V.ref)) := upd_same
      have hrw : ∀ i, i < n + 1 → ∃ r, as[i]? = some r ∧ LsM K (upd H b (.lst (as.map V.ref))) r (mkL (n + 2) (ff i)) := fun i hi => by
        have hg : as[i]? = some (as[i]'(by omega)) := List.getElem?_eq_getElem (by omega)
        exact ⟨_, hg, (hrows i _ (by rw [List.getElem?_append_left (by omega)]; exact hg)).same eb⟩
      generalize upd H b (.lst (as.map V.ref)) = H1 at *
      refine ⟨_, _, rfl, ?_⟩
      refine gn_go ?_
      refine ⟨_, _, rfl, ?_⟩
      refine gn_go ?_
      refine ⟨rfl, ?_⟩
      refine asg_go ?_
      refine ⟨_, rfl, ?_⟩
      refine noPart_go ?_
      refine ⟨_, rfl, _, rfl, ?_⟩
      refine init_ls hlast fun d H2 s2 hd => ?_
      refine tnil_go ?_
      refine addL_go55 (K := K) (s := 600) (k := 400) hd hD sD (fun j hj => zf (n + 1) j (by omega) (by omega)) (by omega) (by decide) (by decide) fun ro H3 s3 hro => ?_
      have S3 := s2.trans s3
      have szon : SmR 3000 (rdq (onQ n ff)) := (Sz.sum (k := 400) hD (fun j hj => zf (n + 1) j (by omega) (by omega)) (by omega)).smr hD sD (by decide)
      refine gn_go ?_
      refine asg_go ?_
      refine ⟨_, rfl, b, rfl, ⟨_, SqL.of (S3 _ _ hbB)⟩, ?_⟩
      refine lc_mkW (K := K) (walk_list (K := K) (a := b) (xs := as.map V.ref)) (ofQ n ff) (by rw [List.length_map]; omega) (fun HE sE => SqL.of (sE _ _ (S3 _ _ hbB))) (fun i v HE HE' R hi sE hY qr => ?_) (fun O H4 s4 hO => ?_)
      · obtain ⟨rfl, hv⟩ := hY
        rw [List.length_map, hal] at hi
        obtain ⟨r, er, hr⟩ := hrw i hi
        rw [List.getElem?_map, er] at hv
        cases Option.some.inj hv
        refine ⟨rfl, ?_⟩
        refine ⟨_, rfl, _, rfl, ?_⟩
        refine lastL65 (hr.same (S3.trans sE)) fun x hx => ?_
        refine ⟨_, rfl, ?_⟩
        refine tnil_go ?_
        exact over_go hx (hro.tk (Tk.same sE)) ((zf i (n + 1) (by omega) (by omega)).smr hD sD (by decide)) szon hon qr
      rw [List.length_map, hal] at hO
      have S4 := S3.trans s4
      refine gn_go ?_
      refine asg_go ?_
      refine ⟨by show 0 ≤ sizeLine; decide, fun S nS => ?_⟩
      have eS := same_new (o := HO.lst []) nS
      have hS0 : upd H4 S (.lst []) S = some (.lst (([] : List Addr).map V.ref)) := upd_same
      have hO5 := hO.same (K := K) eS
      have S5 := S4.trans eS
      have nS1 : H1 S = none := S4.free nS
      have hOS : O ≠ S := fun z => by
        obtain ⟨_, u1, _⟩ := hO
        rw [z, nS] at u1
        cases u1
      generalize upd H4 S (.lst []) = H5 at *
      refine gn_go ?_
      obtain ⟨os, o1, o2⟩ := id hO5
      have hol := o2.length
      rw [mkL_len] at hol
      refine ⟨_, rfl, _, rfl, ?_⟩
      refine tnil_go ?_
      refine ⟨b, O, _, _, rfl, SqL.of (S5 _ _ hbB), SqL.of o1, ?_⟩
      refine for_it (walk_zip (K := K) (a := b) (b := O) (xs := as.map V.ref) (ys := os.map V.ref) (n := n + 1) (by rw [List.length_map, List.length_map, hal, hol, Nat.min_self])) (fun i σ HB => ∃ (ss : List Addr) (z6 z7 z8 z9 z10 z11 : Option V), σ = [some (.ref p), some (.ref l), some (.ref b), some (.ref ro), some (.ref O), some (.ref S), z6, z7, z8, z9, z10, z11] ∧ Same H1 HB ∧ LsM K HB O (mkL (n + 1) (ofQ n ff)) ∧ HB O = some (.lst (os.map V.ref)) ∧ HB S = some (.lst (ss.map V.ref)) ∧ ss.length = i ∧ ∀ k r, ss[k]? = some r → r ≠ S ∧ LsM K HB r (mkL (n + 1) (gQ n ff k))) ⟨[], none, none, none, none, none, none, rfl, S5, hO5, o1, hS0, rfl, fun k r h => by simp at h⟩ ?_ ?_ ?_
      · rintro i σ HB _ ⟨_, _, _, _, _, _, _, rfl, sB, _, hOB, _⟩
        exact ⟨SqL.of (sB _ _ hbB), SqL.of hOB⟩
      · rintro i v σ HB HB' hi ⟨ss, z6, z7, z8, z9, z10, z11, rfl, sB, hOB, hOB1, hSB, hsl, hss⟩ hY
        obtain ⟨T, x, y, rfl, nT, rfl, ex, ey⟩ := hY
        dsimp only at ex ey
        obtain ⟨r, er, hr⟩ := hrw i hi
        rw [List.getElem?_map, er] at ex
        cases Option.some.inj ex
        have hge : os[i]? = some (os[i]'(by omega)) := List.getElem?_eq_getElem (by omega)
        obtain ⟨oi, eoi, hoi⟩ : ∃ oi, os[i]? = some oi ∧ RAt K HB oi (rdq (ofQ n ff i)) := by
          obtain ⟨os2, p1, p2⟩ := hOB
          rw [hOB1] at p1
          have e2 : os.map V.ref = os2.map V.ref := HO.lst.inj (Option.some.inj p1)
          obtain ⟨oi, e3, e4⟩ := p2.get (mkL_at hi)
          have e5 : (os.map V.ref)[i]? = some (V.ref oi) := by rw [e2, List.getElem?_map, e3]; rfl
          rw [List.getElem?_map] at e5
          obtain ⟨oj, e6, e7⟩ := Option.map_eq_some_iff.mp e5
          cases V.ref.inj e7
          exact ⟨_, e6, e4⟩
        rw [List.getElem?_map, eoi] at ey
        cases Option.some.inj ey
        have eT := same_new (o := HO.tup [.ref r, .ref oi]) nT
        refine ⟨T, _, rfl, SqT.of upd_same, rfl, _, _, rfl, ?_⟩
        refine gn_go ?_
        refine ⟨_, _, rfl, ?_⟩
        refine gn_go ?_
        refine ⟨rfl, ?_⟩
        have sT := sB.trans eT
        have hST := eT _ _ hSB
        have hoT := hoi.tk (K := K) (Tk.same eT)
        have hOT := eT _ _ hOB1
        have hOT2 := hOB.same eT
        have hssT : ∀ k q, ss[k]? = some q → q ≠ S ∧ LsM K (upd HB T (.tup [.ref r, .ref oi])) q (mkL (n + 1) (gQ n ff k)) := fun k q h => ⟨(hss k q h).1, (hss k q h).2.same eT⟩
        generalize upd HB T (.tup [.ref r, .ref oi]) = HT at *
        refine ⟨_, rfl, .inl ⟨rfl, _, SqL.of hST⟩, ?_⟩
        refine ⟨_, rfl, ?_⟩
        refine noPart_go ?_
        refine ⟨_, rfl, _, rfl, ?_⟩
        refine init_ls (hr.same sT) fun d H6 s6 hd => ?_
        refine ⟨_, rfl, ?_⟩
        refine tnil_go ?_
        obtain ⟨ds, d1, d2⟩ := id hd
        obtain ⟨ls, l1, l2⟩ := id (hlast.same (sT.trans s6))
        have hdl := d2.length
        have hll := l2.length
        rw [mkL_len] at hdl hll
        refine ⟨d, l, _, _, rfl, SqL.of d1, SqL.of l1, ?_⟩
        refine lc_mkWN (K := K) (walk_zip (K := K) (a := d) (b := l) (xs := ds.map V.ref) (ys := ls.map V.ref) (n := n + 1) (by rw [List.length_map, List.length_map, hdl, hll]; omega)) (gQ n ff i) (by omega) (fun HE sE => ⟨SqL.of (sE _ _ d1), SqL.of (sE _ _ l1)⟩) (fun j w HE HE' R hj sE hY2 qr => ?_) (fun D H7 nD s7 hD7 => ?_)
        · obtain ⟨T2, x2, y2, rfl, nT2, rfl, ex2, ey2⟩ := hY2
          dsimp only at ex2 ey2
          obtain ⟨c1, e1, hc1⟩ := d2.get (mkL_at hj)
          obtain ⟨c2, e2, hc2⟩ := l2.get (mkL_at (show j < n + 2 by omega))
          rw [List.getElem?_map, e1] at ex2
          cases Option.some.inj ex2
          rw [List.getElem?_map, e2] at ey2
          cases Option.some.inj ey2
          have g2 := same_new (o := HO.tup [.ref c1, .ref c2]) nT2
          refine ⟨T2, _, rfl, SqT.of upd_same, rfl, _, _, rfl, _, _, rfl, rfl, rfl, ?_⟩
          refine ⟨_, rfl, _, rfl, _, rfl, ?_⟩
          refine tnil_go ?_
          have szo := zo i hi
          have szf := zf (n + 1) j (by omega) (by omega)
          refine times_go (hoT.tk (Tk.same (s6.trans (sE.trans g2)))) (hc2.tk (Tk.same (sE.trans g2))) (szo.smr hD sD (by decide)) (szf.smr hD sD (by decide)) fun x3 H8 s8 hx3 => ?_
          refine tnil_go ?_
          exact plus_go (hc1.tk (Tk.same (sE.trans (g2.trans s8)))) hx3 ((zf i j (by omega) (by omega)).smr hD sD (by decide)) ((szo.mul hD hD szf).smr (Int.mul_pos hD hD) (sD.mul sD) (by decide)) fun x4 H9 s9 hx4 => qr x4 H9 (g2.trans (s8.trans s9)) hx4
        have hS7 := (s6.trans s7) _ _ hST
        have nDS : D ≠ S := fun z => by
          rw [z, s6 _ _ hST] at nD
          cases nD
        refine tnil_go ?_
        refine ⟨S, _, _, rfl, rfl, hS7, by rw [List.length_map, hsl]; omega, ?_⟩
        refine ⟨ss ++ [D], _, _, _, _, _, _, rfl, wr_same (sT.trans (s6.trans s7)) nS1, (hOT2.same (s6.trans s7)).wr hOS hS7, by rw [upd_ne hOS]; exact (s6.trans s7) _ _ hOT, by rw [upd_same, List.map_append]; rfl, by rw [List.length_append, hsl]; rfl, fun k q hq => ?_⟩
        rcases Nat.lt_or_ge k ss.length with z | z
        · rw [List.getElem?_append_left z] at hq
          obtain ⟨h1, h2⟩ := hssT k q hq
          exact ⟨h1, (h2.same (s6.trans s7)).wr h1 hS7⟩
        · rw [List.getElem?_append_right z] at hq
          have hk : k - ss.length = 0 := by
            have := (List.getElem?_eq_some_iff.mp hq).1
            rw [List.length_singleton] at this
            omega
          rw [hk] at hq
          cases Option.some.inj hq
          have : k = i := by omega
          rw [this]
          exact ⟨nDS, hD7.wr nDS hS7⟩
      · rintro σ HB ⟨ss, z6, z7, z8, z9, z10, z11, rfl, sB, hOB, hOB1, hSB, hsl, hss⟩
        dsimp only
        refine asg_go ?_
        refine ⟨_, rfl, ?_⟩
        refine tnil_go ?_
        refine ⟨S, n + 1, gQ n ff, rfl, ⟨ss, hSB, hsl, fun k r h => (hss k r h).2⟩, by omega, by omega, by omega, hok2, fun Z H6 s6 hZ => ?_⟩
        refine gn_go ?_
        refine ret_go ?_
        obtain ⟨zs, z1, z2⟩ := id hZ
        have hzl := z2.length
        rw [mkL_len] at hzl
        have hO6 := hOB.same s6
        obtain ⟨os2, u1, u2⟩ := id hO6
        have hol2 := u2.length
        rw [mkL_len] at hol2
        refine ⟨_, rfl, Z, _, rfl, .inr (SqL.of z1), ?_⟩
        refine ⟨_, rfl, _, rfl, ?_⟩
        refine tnil_go ?_
        refine ⟨Z, O, _, _, rfl, SqL.of z1, SqL.of u1, ?_⟩
        refine lc_mkW (K := K) (walk_zip (K := K) (a := Z) (b := O) (xs := zs.map V.ref) (ys := os2.map V.ref) (n := n + 1) (by rw [List.length_map, List.length_map, hzl, hol2, Nat.min_self])) (fun i => partF (n + 1) (gQ n ff) i * ofQ n ff i) (by omega) (fun HE sE => ⟨SqL.of (sE _ _ z1), SqL.of (sE _ _ u1)⟩) (fun j w HE HE' R hj sE hY2 qr => ?_) (fun D7 H7 s7 hD7 => ?_)
        · obtain ⟨T2, x2, y2, rfl, nT2, rfl, ex2, ey2⟩ := hY2
          dsimp only at ex2 ey2
          obtain ⟨c1, e1, hc1⟩ := z2.get (mkL_at hj)
          obtain ⟨c2, e2, hc2⟩ := u2.get (mkL_at hj)
          rw [List.getElem?_map, e1] at ex2
          cases Option.some.inj ex2
          rw [List.getElem?_map, e2] at ey2
          cases Option.some.inj ey2
          have g2 := same_new (o := HO.tup [.ref c1, .ref c2]) nT2
          refine ⟨T2, _, rfl, SqT.of upd_same, rfl, _, _, rfl, _, _, rfl, rfl, rfl, ?_⟩
          refine ⟨_, rfl, _, rfl, ?_⟩
          refine tnil_go ?_
          exact times_go (hc1.tk (Tk.same (sE.trans g2))) (hc2.tk (Tk.same (sE.trans g2))) ((zp j hj).smr hD sD (by decide)) ((zo j hj).smr hD sD (by decide)) fun x3 H8 s8 hx3 => qr x3 H8 (g2.trans s8) hx3
        refine tnil_go ?_
        refine addL_go55 (K := K) (s := 1200) (k := 800) hD7 (Int.mul_pos hD hD) (sD.mul sD) (fun j hj => (zp j hj).mul hD hD (zo j hj)) (by omega) (by decide) (by decide) fun rt H8 s8 hrt => ?_
        refine tnil_go ?_
        refine ⟨by rw [List.length_append, List.length_map, hzl, hz]; show n + 1 + 1 ≤ 16777216; omega, fun U nU => ?_⟩
        have gU := same_new (o := HO.lst (zs.map V.ref ++ [.ref rt])) nU
        refine q U _ (eb.trans (sB.trans (s6.trans (s7.trans (s8.trans gU))))) ⟨zs ++ [rt], by rw [upd_same, List.map_append]; rfl, ?_⟩
        have em : mkL (n + 2) (partF (n + 2) ff) = mkL (n + 1) (partF (n + 1) (gQ n ff)) ++ [rdq (sumTo (n + 1) fun i => partF (n + 1) (gQ n ff) i * ofQ n ff i)] := by
          rw [mkL_succ]
          congr 1
          · refine mkL_congr fun j hj => ?_
            show (if j = n + 1 then _ else partF (n + 1) (gQ n ff) j) = _
            rw [if_neg (by omega)]
          · show [rdq (if n + 1 = n + 1 then _ else _)] = _
            rw [if_pos rfl]
        rw [em]
        exact ((z2.tk (Tk.same (s7.trans s8))).append (.cons hrt .nil)).tk (Tk.same gU)
end

end Fp

set_option Elab.async false
set_option linter.all false
set_option maxRecDepth 100000
set_option maxHeartbeats 4000000
set_option exponentiation.threshold 10000
namespace Fp
open PySem PySem.Spec PyProof.Rows L2
/-! ### weights -/
def ordL (m home : Nat) : List Nat := home :: (List.range m).filter fun k => decide (k ≠ home)
def ordB (m home : Nat) : Bool := decide ((ordL m home).length = m) && (List.range m).all fun k => decide ((ordL m home)[(ordL m home).idxOf k]? = some k) && (decide ((ordL m home).idxOf k < m) && (decide ((ordL m home).getD k 0 < m) && (List.range ((ordL m home).idxOf k)).all fun i => decide ((ordL m home)[i]? ≠ some k)))
theorem ord_all : ((List.range 5).all fun m => (List.range m).all fun h => ordB m h) = true := by decide +kernel
structure OrdOk (m home : Nat) : Prop where
  len : (ordL m home).length = m
  at_ : ∀ k, k < m → (ordL m home)[(ordL m home).idxOf k]? = some k
  lt : ∀ k, k < m → (ordL m home).idxOf k < m
  gt : ∀ k, k < m → (ordL m home).getD k 0 < m
  no : ∀ k, k < m → ∀ i, i < (ordL m home).idxOf k → (ordL m home)[i]? ≠ some k
theorem ord_ok {m home : Nat} (hm : m ≤ 4) (hh : home < m) : OrdOk m home := by
  have h := List.all_eq_true.mp ord_all m (List.mem_range.mpr (by omega))
  have h := List.all_eq_true.mp h home (List.mem_range.mpr hh)
  unfold ordB at h
  rw [Bool.and_eq_true] at h
  have key := fun k (hk : k < m) => List.all_eq_true.mp h.2 k (List.mem_range.mpr hk)
  refine ⟨of_decide_eq_true h.1, fun k hk => ?_, fun k hk => ?_, fun k hk => ?_, fun k hk i hi => ?_⟩
  · have := key k hk
    rw [Bool.and_eq_true] at this
    exact of_decide_eq_true this.1
  · have := key k hk
    rw [Bool.and_eq_true, Bool.and_eq_true] at this
    exact of_decide_eq_true this.2.1
  · have := key k hk
    rw [Bool.and_eq_true, Bool.and_eq_true, Bool.and_eq_true] at this
    exact of_decide_eq_true this.2.2.1
  · have := key k hk
    rw [Bool.and_eq_true, Bool.and_eq_true, Bool.and_eq_true] at this
    exact of_decide_eq_true (List.all_eq_true.mp this.2.2.2 i (List.mem_range.mpr hi))
def flQ (m home : Nat) (c : Nat → Nat → Rat) (i j : Nat) : Rat := c ((ordL m home).getD i 0) ((ordL m home).getD j 0)
def totF (m home : Nat) (c : Nat → Nat → Rat) : Rat := sumTo m (partF m (flQ m home c))
def wtQ (m home : Nat) (c : Nat → Nat → Rat) (k : Nat) : Rat := partF m (flQ m home c) ((ordL m home).idxOf k) / totF m home c
structure WtOk (m home : Nat) (c : Nat → Nat → Rat) : Prop where
  m4 : m ≤ 4
  h : home < m
  ok : PtOk m (flQ m home c)
  sz : ∃ D : Int, 0 < D ∧ Sm 600 D ∧ ∀ j, j < m → Sz D 400 (partF m (flQ m home c) j)
  pos : 0 < totF m home c
abbrev s_wts : Stmt := topS 34
abbrev N_wts : List Str := ["chances", "home", "order", "parts", "total", "kind", "follower"]
theorem sc_wts : FnScope N_wts ["chances", "home"] (defScope s_wts) := ⟨rfl, rfl, rfl, by decide +kernel, rfl, by decide +kernel, by decide +kernel⟩
def scp0_wts (b : List Stmt) (d : Scope) : Scope := match b with
  | (_ :: (.Assign _ (.Call _ ((.ListComp _ _ sc _) :: _) _ _) _) :: _) => sc
  | _ => d
section
variable {P : Program} {w : World} {K : PySem.W.Frag} {mg : Str → Option Value} {base : Heap} {aN aO : Addr}
theorem lc_Mt {J : It} {n m : Nat} {G : Hp → Prop} {Y : Nat → Hp → V → Hp → Prop} (w : Walk J n G Y) {g : TG} {te : TE} {vs : List Nat} {σ : L2.St} {H1 : Hp} (f : Nat → Nat → Rat) (hn : n ≤ 900) (hG : ∀ HE, Same H1 HE → G HE)
    (hs : ∀ (k : Nat) (x : V) (HE HE' : Hp) (R : VK), k < n → Same H1 HE → Y k HE x HE' → (∀ r HF, HE r = none → Same HE HF → LsM K HF r (mkL m (f k)) → R (.ref r) HF) → g x (wipe σ vs) HE' fun σ2 H2 => wipe σ2 vs = wipe σ vs ∧ te σ2 H2 R)
    {Qd : Addr → Hp → Prop} (hd : ∀ D H2, Same H1 H2 → MtA K H2 D n m f → Qd D H2) : tLc (fun _ H2 R => R J H2) g tYes te vs σ H1 (refQ Qd) := by
  intro D nD
  have e1 := same_new (o := HO.lst []) nD
  refine lc_it w (fun k HE => ∃ rs : List Addr, Same H1 HE ∧ HE D = some (.lst (rs.map V.ref)) ∧ rs.length = k ∧ ∀ i r, rs[i]? = some r → r ≠ D ∧ LsM K HE r (mkL m (f i))) ⟨[], e1, upd_same, rfl, fun i r h => by simp at h⟩ ?_ ?_ ?_
  · rintro i HE _ ⟨rs, sE, _⟩
    exact hG HE sE
  · rintro k x HE HE' hk ⟨rs, sE, hE, hl, hA⟩ hY
    refine hs k x HE HE' _ hk sE hY fun r HF nr sF hr => ?_
    have hE5 := sF _ _ hE
    have nrD : r ≠ D := fun z => by
      rw [z, hE] at nr
      cases nr
    refine ⟨_, hE5, by rw [List.length_map, hl]; exact small1000 (by omega), rs ++ [r], wr_same (sE.trans sF) nD, ?_, ?_, ?_⟩
    · rw [upd_same, List.map_append]
      rfl
    · rw [List.length_append, hl]
      rfl
    · intro i q hq
      rcases Nat.lt_or_ge i rs.length with z | z
      · rw [List.getElem?_append_left z] at hq
        obtain ⟨h1, h2⟩ := hA i q hq
        exact ⟨h1, (h2.same sF).wr h1 hE5⟩
      · rw [List.getElem?_append_right z] at hq
        have hk0 : i - rs.length = 0 := by
          have := (List.getElem?_eq_some_iff.mp hq).1
          rw [List.length_singleton] at this
          omega
        rw [hk0] at hq
        cases Option.some.inj hq
        have : i = k := by omega
        rw [this]
        exact ⟨nrD, hr.wr nrD hE5⟩
  · rintro HE ⟨rs, sE, hE, hl, hA⟩
    exact hd D HE sE ⟨rs, hE, hl, fun i r h => (hA i r h).2⟩
def CmA (K : PySem.W.Frag) (H : Hp) (p : Addr) (m : Nat) (c : Nat → Nat → Rat) : Prop := ∃ rs : List Addr, SqT K H p (rs.map V.ref) ∧ rs.length = m ∧ ∀ i r, rs[i]? = some r → RowAt K H r (mkL m (c i))
theorem CmA.same {H H' : Hp} {p : Addr} {m : Nat} {c : Nat → Nat → Rat} (h : CmA K H p m c) (s : Same H H') : CmA K H' p m c := by
  obtain ⟨rs, h1, h2, h3⟩ := h
  exact ⟨rs, sqT_same s h1, h2, fun i r e => (h3 i r e).tk (Tk.same s)⟩
def spWts (K : PySem.W.Frag) : Sp := fun vs H Q _ => ∃ (p : Addr) (m home : Nat) (c : Nat → Nat → Rat), vs = [.ref p, .int (home : Int)] ∧ CmA K H p m c ∧ WtOk m home c ∧
  ∀ z H', Same H H' → RowAt K H' z (mkL m (wtQ m home c)) → Q (.ref z) H'
theorem ok_wts {f fPTS fAD fO : Addr} {fd fdPTS fdAD fdO : FuncData} (F : Fun K "weights_of" "weights_of" s_wts f fd)
    (FPTS : Fun K "parts_of" "parts_of" s_pts fPTS fdPTS) (bPTS : Binds K fdPTS ["flows"] []) (gPTS : mg "parts_of" = some (.ref fPTS)) (GPTS : FnOk P w K mg base CX0 7 fPTS fdPTS ["flows"] (spPts K 4))
    (FAD : Fun K "added" "added" s_added fAD fdAD) (bAD : Binds K fdAD ["told"] []) (gAD : mg "added" = some (.ref fAD)) (GAD : FnOk P w K mg base CX0 3 fAD fdAD ["told"] (spAdded K))
    (FO : Fun K "over" "over" s_over fO fdO) (bO : Binds K fdO ["one", "other"] []) (gO : mg "over" = some (.ref fO)) (GO : FnOk P w K mg base CX0 3 fO fdO ["one", "other"] (spOver0 K))
    (n_len : mg "len" = none) (n_range : mg "range" = none) (n_tuple : mg "tuple" = none) : FnOk P w K mg base CX0 8 f fd ["chances", "home"] (spWts K) := by
  refine F.ok sc_wts (fun vs H Q E h => ?_) (fun cdv A outer s H vs Q E hr h => ?_)
  · obtain ⟨_, _, _, _, rfl, _⟩ := h
    rfl
  · obtain ⟨p, m, home, c, rfl, hc, hW, q⟩ := h
    refine ⟨_, (pss_cons (ps_set (i := 2) sc_wts.nd rfl (.inr rfl) (pe_lst (pa_cons (pv 1) (StX.pa_star (pe_lc (own := [("kind", 5)]) (g := (gName 5)) (tt := (tTest (tOp rNe (tVar 5) (tVar 1)))) (te := (tVar 5)) rfl sc_wts.nd (pi_range1 (by rfl) n_range (pa_cons (pe_callB call_len_seq (by rfl) n_len PySem.boot_len (pa_cons (pv 0) pa_nil)) pa_nil)) (blkOk_by (own := [("kind", 5)]) (N := N_wts) (sc := (defScope s_wts)) (by decide +kernel)) (fun _ _ _ _ _ => (pg_name (i := 5) sc_wts.nd rfl (.inl rfl))) (fun _ _ _ _ _ => (pts_one (pt_cmpR op_ne (pv 5) (pv 1) (nomark _)))) (fun _ _ _ _ _ => (pv 5))) pa_nil))))
      (pss_cons (ps_set (i := 3) sc_wts.nd rfl (.inr rfl) (pe_call GPTS hr (by rfl) gPTS FPTS.kp bPTS .nil pass0 (pa_cons (pe_lc (own := [("kind", 5)]) (g := (gName 5)) (tt := tYes) (te := (tLc (iList K (tVar 2)) (gName 6) tYes (tOp (rIxT K) (tOp (rIxT K) (tVar 0) (tVar 5)) (tVar 6)) [6])) rfl sc_wts.nd (pi_list (pv 2)) (blkOk_by (own := [("kind", 5)]) (N := N_wts) (sc := (defScope s_wts)) (by decide +kernel)) (fun _ _ _ _ _ => (pg_name (i := 5) sc_wts.nd rfl (.inr rfl))) (fun _ _ _ _ _ => pts_nil) (fun _ _ _ _ _ => (pe_lc (own := [("follower", 6)]) (g := (gName 6)) (tt := tYes) (te := (tOp (rIxT K) (tOp (rIxT K) (tVar 0) (tVar 5)) (tVar 6))) rfl sc_wts.nd (pi_list (pv 2)) (blkOk_by (own := [("follower", 6)]) (N := N_wts) (sc := (relS (scp0_wts (defBody s_wts) (defScope s_wts)) (defScope s_wts))) (by decide +kernel)) (fun _ _ _ _ _ => (pg_name (i := 6) sc_wts.nd rfl (.inl rfl))) (fun _ _ _ _ _ => pts_nil) (fun _ _ _ _ _ => (pe_ix ix_tup (pe_ix ix_tup (pv 0) (pv 5) (fun _ _ => rfl)) (pv 6) (fun _ _ => rfl)))))) pa_nil)))
      (pss_cons (ps_set (i := 4) sc_wts.nd rfl (.inr rfl) (pe_call GAD (hr.mono (by decide)) (by rfl) gAD FAD.kp bAD .nil pass0 (pa_cons (pv 3) pa_nil)))
      (pss_one (ps_ret (pe_callTy call_tuple_of (by rfl) n_tuple (by decide +kernel) (pa_cons (pe_lc (own := [("kind", 5)]) (g := (gName 5)) (tt := tYes) (te := (tCall (spOver0 K) [] E0 (tCons (tOp (rIxL K) (tVar 3) (tBM K "list" (rIndex K) (tVar 2) (tCons (tVar 5) tNil))) (tCons (tVar 4) tNil)))) rfl sc_wts.nd (pi_range1 (by rfl) n_range (pa_cons (pe_callB call_len_seq (by rfl) n_len PySem.boot_len (pa_cons (pv 2) pa_nil)) pa_nil)) (blkOk_by (own := [("kind", 5)]) (N := N_wts) (sc := (defScope s_wts)) (by decide +kernel)) (fun _ _ _ _ _ => (pg_name (i := 5) sc_wts.nd rfl (.inl rfl))) (fun _ _ _ _ _ => pts_nil) (fun _ _ _ _ _ => (pe_call GO (hr.mono (by decide)) (by rfl) gO FO.kp bO .nil pass0 (pa_cons (pe_ix ix_list (pv 3) (pe_bm PySem.F.plainAttrs_list PySem.F.slot_list_index PySem.F.type_list_index mt_index (pv 2) (pa_cons (pv 5) pa_nil)) (fun _ _ => rfl)) (pa_cons (pv 4) pa_nil))))) pa_nil))))))), ?_⟩
    have hz : sizeLine = 16777216 := sizeLine_eq
    have hm4 := hW.m4
    have hh := hW.h
    have O := ord_ok hm4 hh
    obtain ⟨D, hD, sD, zp⟩ := hW.sz
    obtain ⟨rs, c1, c2, c3⟩ := id hc
    refine asg_go ?_
    refine ⟨_, rfl, ?_⟩
    refine ⟨_, rfl, ?_⟩
    refine tnil_go ?_
    refine ⟨p, _, rfl, .inr c1, ?_⟩
    rw [List.length_map, c2]
    refine tnil_go ?_
    refine ⟨_, rfl, by omega, by omega, ?_⟩
    rw [Int.toNat_natCast]
    refine lc_natF (walk_range (lo := 0) (n := m)) (fun k => k) (fun k => decide (k ≠ home)) (by omega) (fun _ _ => trivial) (fun k x HE HE' R N hk sE hY qy qn => ?_) (fun D1 H1 nD1 s1 hD1 => ?_)
    · obtain ⟨rfl, rfl⟩ := hY
      refine ⟨rfl, ?_⟩
      refine ⟨_, rfl, _, rfl, rfl, _, rfl, ?_⟩
      have e0 : (0 : Int) + (k : Int) = ((k : Nat) : Int) := by omega
      by_cases ck : k = home
      · rw [show decide (V.int (0 + (k : Int)) = V.int (home : Int)) = true from decide_eq_true (by rw [ck, Int.zero_add])]
        refine iteF ?_
        exact qn (by rw [ck]; simp) _ (Same.refl _)
      · rw [show decide (V.int (0 + (k : Int)) = V.int (home : Int)) = false from decide_eq_false fun z => ck (by have := V.int.inj z; omega)]
        refine iteT ?_
        refine ⟨_, rfl, ?_⟩
        have h5 := qy (decide_eq_true ck) _ (Same.refl _)
        have e1 : nV k = V.int (0 + (k : Int)) := by rw [e0]; rfl
        rw [e1] at h5
        exact h5
    rw [List.map_id'] at hD1
    refine ⟨D1, _, rfl, .inr (SqL.of hD1), ?_⟩
    refine tnil_go ?_
    have hOl := O.len
    refine ⟨?_, fun Lo nLo => ?_⟩
    · have : (ordL m home).length ≤ 4 := by omega
      show ([V.int (home : Int)] ++ (((List.range m).filter fun k => decide (k ≠ home)).map nV ++ [])).length ≤ sizeLine
      rw [List.append_nil, List.length_append, List.length_map, hz]
      have h3 : ((List.range m).filter fun k => decide (k ≠ home)).length + 1 = (ordL m home).length := rfl
      show 1 + _ ≤ _
      omega
    have eo : [V.int (home : Int)] ++ (((List.range m).filter fun k => decide (k ≠ home)).map nV ++ []) = (ordL m home).map nV := by
      rw [List.append_nil]
      rfl
    have e2 := same_new (o := HO.lst (V.int (home : Int) :: (((List.range m).filter fun k => decide (k ≠ home)).map nV ++ []))) nLo
    have hLo : upd H1 Lo (HO.lst (V.int (home : Int) :: (((List.range m).filter fun k => decide (k ≠ home)).map nV ++ []))) Lo = some (.lst ((ordL m home).map nV)) := by
      rw [upd_same]
      exact congrArg (fun z => some (HO.lst z)) eo
    have S2 := s1.trans e2
    generalize upd H1 Lo (HO.lst (V.int (home : Int) :: (((List.range m).filter fun k => decide (k ≠ home)).map nV ++ []))) = H2 at *
    refine gn_go ?_
    refine asg_go ?_
    have hlm : ((ordL m home).map nV).length = m := by rw [List.length_map, hOl]
    refine ⟨_, rfl, Lo, rfl, ⟨_, SqL.of hLo⟩, ?_⟩
    have oat : ∀ i, i < m → ((ordL m home).map nV)[i]? = some (nV ((ordL m home).getD i 0)) := fun i hi => by
      rw [List.getElem?_map, List.getD_eq_getElem?_getD, List.getElem?_eq_getElem (by omega)]
      rfl
    refine lc_Mt (K := K) (m := m) (walk_list (K := K) (a := Lo) (xs := (ordL m home).map nV)) (flQ m home c) (by rw [hlm]; omega) (fun HE sE => SqL.of (sE _ _ hLo)) (fun i x HE HE' R hi sE hY qr => ?_) (fun F H3 s3 hF => ?_)
    · obtain ⟨rfl, hx⟩ := hY
      rw [hlm] at hi
      rw [oat i hi] at hx
      cases Option.some.inj hx
      refine ⟨rfl, ?_⟩
      refine ⟨_, rfl, Lo, rfl, ⟨_, SqL.of (sE _ _ hLo)⟩, ?_⟩
      have key : (((ordL m home).map nV).length) = m := hlm
      refine lc_mkWN (K := K) (Qd := fun D H2 => R (.ref D) H2) (walk_list (K := K) (a := Lo) (xs := (ordL m home).map nV)) (flQ m home c i) (by rw [hlm]; omega) (fun HF sF => SqL.of ((sE.trans sF) _ _ hLo)) (fun j x HF HF' R2 hj sF hY2 qr2 => ?_) (fun D2 H4 nD2 s4 hD2 => ?_)
      · obtain ⟨rfl, hx2⟩ := hY2
        rw [hlm] at hj
        rw [oat j hj] at hx2
        cases Option.some.inj hx2
        have gi := O.gt i hi
        have gj := O.gt j hj
        have hgr : rs[(ordL m home).getD i 0]? = some (rs[(ordL m home).getD i 0]'(by omega)) := List.getElem?_eq_getElem (by omega)
        obtain ⟨as, r1, r2⟩ := c3 _ _ hgr
        obtain ⟨a, e5, ha⟩ := r2.get (mkL_at gj)
        have hgr2 : (rs.map V.ref)[(ordL m home).getD i 0]? = some (.ref (rs[(ordL m home).getD i 0]'(by omega))) := by rw [List.getElem?_map, hgr]; rfl
        have hga : (as.map V.ref)[(ordL m home).getD j 0]? = some (.ref a) := by rw [List.getElem?_map, e5]; rfl
        have SF := S2.trans (sE.trans sF)
        refine ⟨rfl, ?_⟩
        refine ⟨_, rfl, _, rfl, p, _, _, _, rfl, rfl, sqT_same SF c1, atI_nat hgr2, ?_⟩
        refine ⟨_, rfl, _, _, _, _, rfl, rfl, sqT_same SF r1, atI_nat hga, ?_⟩
        exact qr2 a _ (Same.refl _) (ha.tk (Tk.same SF))
      · rw [hlm] at hD2
        exact qr D2 H4 nD2 s4 hD2
    rw [hlm] at hF
    refine tnil_go ?_
    refine ⟨F, m, flQ m home c, rfl, hF, by omega, hm4, by omega, hW.ok, fun Z H4 s4 hZ => ?_⟩
    refine gn_go ?_
    refine asg_go ?_
    refine ⟨_, rfl, ?_⟩
    refine tnil_go ?_
    refine addL_go55 (K := K) (s := 600) (k := 400) hZ hD sD zp (by omega) (by decide) (by decide) fun rt H5 s5 hrt => ?_
    refine gn_go ?_
    refine ret_go ?_
    have hLo5 := (s3.trans (s4.trans s5)) _ _ hLo
    have hZ5 := hZ.same s5
    have hot : SmR 3000 (rdq (totF m home c)) := (Sz.sum (k := 400) hD zp (by omega)).smr hD sD (by decide)
    refine ⟨_, rfl, ?_⟩
    refine tnil_go ?_
    refine ⟨Lo, _, rfl, .inl (SqL.of hLo5), ?_⟩
    rw [hlm]
    refine tnil_go ?_
    refine ⟨_, rfl, by omega, by omega, ?_⟩
    rw [Int.toNat_natCast]
    refine lc_mkW (K := K) (walk_range (lo := 0) (n := m)) (wtQ m home c) (by omega) (fun _ _ => trivial) (fun k x HE HE' R hk sE hY qr => ?_) (fun D1 H6 s6 hD6 => ?_)
    · obtain ⟨rfl, rfl⟩ := hY
      have e1 : V.int (0 + (k : Int)) = nV k := by
        rw [Int.zero_add]
        rfl
      refine ⟨rfl, ?_⟩
      have ia := O.at_ k hk
      have il := O.lt k hk
      have ino := O.no k hk
      generalize hidx : (ordL m home).idxOf k = idx at *
      refine ⟨_, rfl, _, rfl, .inl ⟨rfl, _, SqL.of (sE _ _ hLo5)⟩, ?_⟩
      refine ⟨_, rfl, ?_⟩
      refine tnil_go ?_
      have eqn : ∀ a b : Nat, eqV (nV a) (nV b) = decide (a = b) := fun a b => by
        show ((a : Int) == (b : Int)) = decide (a = b)
        rw [Bool.eq_iff_iff, beq_iff_eq, decide_eq_true_eq]
        omega
      refine ⟨Lo, _, V.int (0 + (k : Int)), idx, nV k, rfl, rfl, SqL.of (sE _ _ hLo5), rfl, flat_nat _, by rw [List.getElem?_map, ia]; rfl, by rw [e1, eqn]; exact decide_eq_true rfl, fun i z hi hz => ?_, ?_⟩
      · rw [List.getElem?_map] at hz
        obtain ⟨a, ea, rfl⟩ := Option.map_eq_some_iff.mp hz
        rw [e1, eqn]
        exact decide_eq_false fun y => ino i hi (by rw [ea, y])
      refine (hZ5.same sE).at (m := idx) rfl il fun x hx => ?_
      refine ⟨_, rfl, ?_⟩
      refine tnil_go ?_
      refine over_go hx (hrt.tk (Tk.same sE)) ((zp idx il).smr hD sD (by decide)) hot hW.pos fun r HF sF hr => qr r HF sF ?_
      have ew : wtQ m home c k = partF m (flQ m home c) idx / sumTo m (partF m (flQ m home c)) := by
        unfold wtQ
        rw [hidx]
        rfl
      rw [ew]
      exact hr
    refine tnil_go ?_
    obtain ⟨ws, w1, w2⟩ := hD6
    refine ⟨D1, _, rfl, .inl ⟨SqL.of w1, fun z nz => ?_⟩⟩
    have g9 := same_new (o := HO.tup (ws.map V.ref)) nz
    exact q z _ (S2.trans (s3.trans (s4.trans (s5.trans (s6.trans g9))))) ⟨ws, SqT.of upd_same, w2.tk (Tk.same g9)⟩
end

end Fp

set_option Elab.async false
set_option linter.all false
set_option maxRecDepth 100000
set_option maxHeartbeats 4000000
set_option exponentiation.threshold 10000
namespace Fp
open PySem PySem.Spec PyProof.Rows L2
/-! ### shares told -/
def cQ (ks : List (List Tri)) (i j : Nat) : Rat := cnQ ((ks[i]?).getD []) j
def goodH (ks : List (List Tri)) (h : Nat) : Prop := ((whL (ledQ ks) 8 [h]).getD []).length = ks.length
instance (ks : List (List Tri)) (h : Nat) : Decidable (goodH ks h) := inferInstanceAs (Decidable (_ = _))
/-- the first home that all lead to -/
def isHome (ks : List (List Tri)) (h : Nat) : Prop := h < ks.length ∧ goodH ks h ∧ ∀ j, j < h → ¬ goodH ks j
structure ShOk (ks : List (List Tri)) : Prop where
  wh : ∀ h, h < ks.length → (whL (ledQ ks) 8 [h]).isSome = true
  yes : ∀ h, isHome ks h → WtOk ks.length h (cQ ks)
  no : (∀ h, h < ks.length → ¬ goodH ks h) → Apt (ledQ ks)
  l8 : Ls8 (ledQ ks)
abbrev s_sht : Stmt := topS 30
abbrev N_sht : List Str := ["kinds", "leads", "home", "ways"]
theorem sc_sht : FnScope N_sht ["kinds"] (defScope s_sht) := ⟨rfl, rfl, rfl, by decide +kernel, rfl, by decide +kernel, by decide +kernel⟩
abbrev s_shs : Stmt := topS 36
abbrev N_shs : List Str := ["kinds", "paper", "spans", "total", "kind", "weight", "span"]
theorem sc_shs : FnScope N_shs ["kinds"] (defScope s_shs) := ⟨rfl, rfl, rfl, by decide +kernel, rfl, by decide +kernel, by decide +kernel⟩
theorem cm_of {K : PySem.W.Frag} {H : Hp} {z : Addr} {ks : List (List Tri)} (h : TTA K H z (chRows ks)) : CmA K H z ks.length (cQ ks) := by
  obtain ⟨rs, h1, h2⟩ := h
  have hl := h2.1
  have hc : (chRows ks).length = ks.length := List.length_map ..
  refine ⟨rs, h1, by rw [hl, hc], fun i r e => ?_⟩
  have hi : i < ks.length := by
    have := (List.getElem?_eq_some_iff.mp e).1
    omega
  have hg : (chRows ks)[i]? = some (mkL ks.length (cQ ks i)) := by
    unfold chRows cQ
    rw [List.getElem?_map, List.getElem?_eq_getElem hi]
    rfl
  exact h2.2 i r _ e hg
section
variable {P : Program} {w : World} {K : PySem.W.Frag} {mg : Str → Option Value} {base : Heap} {aN aO : Addr}
def spSht (K : PySem.W.Frag) : Sp := fun vs H Q _ => ∃ (p : Addr) (ks : List (List Tri)), vs = [.ref p] ∧ KdsA K H p ks ∧ (∀ ts ∈ ks, KdW ks.length ts) ∧ ks.length ≤ 4 ∧ ShOk ks ∧
  (∀ h z pw pws H', isHome ks h → Same H H' → SqT K H' z [.str "share", .int (h : Int), .ref pw, .ref pws] → RowAt K H' pw (mkL ks.length (wtQ ks.length h (cQ ks))) → Q (.ref z) H') ∧
  (∀ z x y H', (∀ h, h < ks.length → ¬ goodH ks h) → Same H H' → SqT K H' z [.str "apart", x, y] → Q (.ref z) H')
theorem ok_sht {f fLED fWHO fWTS fCN fAPT : Addr} {fd fdLED fdWHO fdWTS fdCN fdAPT : FuncData} (F : Fun K "share_told" "share_told" s_sht f fd)
    (FLED : Fun K "led_to" "led_to" s_led fLED fdLED) (bLED : Binds K fdLED ["kinds"] []) (gLED : mg "led_to" = some (.ref fLED)) (GLED : FnOk P w K mg base CX0 5 fLED fdLED ["kinds"] (spLed K))
    (FWHO : Fun K "ways_home" "ways_home" s_who fWHO fdWHO) (bWHO : Binds K fdWHO ["leads", "home"] []) (gWHO : mg "ways_home" = some (.ref fWHO)) (GWHO : FnOk P w K mg base CX0 1 fWHO fdWHO ["leads", "home"] (spWho K))
    (FWTS : Fun K "weights_of" "weights_of" s_wts fWTS fdWTS) (bWTS : Binds K fdWTS ["chances", "home"] []) (gWTS : mg "weights_of" = some (.ref fWTS)) (GWTS : FnOk P w K mg base CX0 8 fWTS fdWTS ["chances", "home"] (spWts K))
    (FCN : Fun K "chain" "chain" s_cn fCN fdCN) (bCN : Binds K fdCN ["kinds"] []) (gCN : mg "chain" = some (.ref fCN)) (GCN : FnOk P w K mg base CX0 4 fCN fdCN ["kinds"] (spCn K))
    (FAPT : Fun K "apart_told" "apart_told" s_apt fAPT fdAPT) (bAPT : Binds K fdAPT ["leads"] []) (gAPT : mg "apart_told" = some (.ref fAPT)) (GAPT : FnOk P w K mg base CX0 2 fAPT fdAPT ["leads"] (spApt K))
    (n_len : mg "len" = none) (n_range : mg "range" = none) : FnOk P w K mg base CX0 9 f fd ["kinds"] (spSht K) := by
  refine F.ok sc_sht (fun vs H Q E h => ?_) (fun cdv A outer s H vs Q E hr h => ?_)
  · obtain ⟨_, _, rfl, _⟩ := h
    rfl
  · obtain ⟨p, ks, rfl, hk, hok, hkl, hS, q1, q0⟩ := h
    refine ⟨_, (pss_cons (ps_set (i := 1) sc_sht.nd rfl (.inl rfl) (pe_call GLED (hr.mono (by decide)) (by rfl) gLED FLED.kp bLED .nil pass0 (pa_cons (pv 0) pa_nil)))
      (pss_cons (ps_for PassesOwn.never rfl (pi_range1 (by rfl) n_range (pa_cons (pe_callB call_len_seq (by rfl) n_len PySem.boot_len (pa_cons (pv 0) pa_nil)) pa_nil)) (pg_name (i := 2) sc_sht.nd rfl (.inl rfl)) (pss_cons (ps_set (i := 3) sc_sht.nd rfl (.inl rfl) (pe_call GWHO (hr.mono (by decide)) (by rfl) gWHO FWHO.kp bWHO .nil pass0 (pa_cons (pv 1) (pa_cons (pv 2) pa_nil))))
      (pss_one (ps_if (pt_cmpR op_eq (pe_op op_add (pe_callB call_len_seq (by rfl) n_len PySem.boot_len (pa_cons (pv 3) pa_nil)) pe_int) (pe_callB call_len_seq (by rfl) n_len PySem.boot_len (pa_cons (pv 0) pa_nil)) (nomark _)) (pss_one (ps_ret (pe_tup (pa_cons pe_str (pa_cons (pv 2) (pa_cons (pe_call GWTS hr (by rfl) gWTS FWTS.kp bWTS .nil pass0 (pa_cons (pe_call GCN (hr.mono (by decide)) (by rfl) gCN FCN.kp bCN .nil pass0 (pa_cons (pv 0) pa_nil)) (pa_cons (pv 2) pa_nil))) (pa_cons (pv 3) pa_nil))))))) pss_nil))))
      (pss_one (ps_ret (pe_call GAPT (hr.mono (by decide)) (by rfl) gAPT FAPT.kp bAPT .nil pass0 (pa_cons (pv 1) pa_nil)))))), ?_⟩
    obtain ⟨rs, hp1, hp2⟩ := id hk
    have hrl := hp2.1
    have hll : (ledQ ks).length = ks.length := by
      unfold ledQ chRows
      rw [List.length_map, List.length_map]
    refine asg_go ?_
    refine ⟨_, rfl, ?_⟩
    refine tnil_go ?_
    refine ⟨p, ks, rfl, hk, hok, hkl, fun L H1 s1 hL => ?_⟩
    refine gn_go ?_
    refine ⟨_, rfl, ?_⟩
    refine tnil_go ?_
    refine ⟨p, _, rfl, .inr (sqT_same s1 hp1), ?_⟩
    rw [List.length_map, hrl]
    refine tnil_go ?_
    refine ⟨_, rfl, by omega, by omega, ?_⟩
    rw [Int.toNat_natCast]
    refine for_range (lo := 0) (n := ks.length) (fun i σ HB => ∃ (z2 z3 : Option V), σ = [some (.ref p), some (.ref L), z2, z3] ∧ Same H1 HB ∧ ∀ h, h < i → ¬ goodH ks h) ⟨none, none, rfl, Same.refl _, fun h z => absurd z (Nat.not_lt_zero _)⟩ ?_ ?_
    · rintro i σ HB hi ⟨z2, z3, rfl, sB, hno⟩
      obtain ⟨fin, ef⟩ := Option.isSome_iff_exists.mp (hS.wh i hi)
      refine gn_go ?_
      refine asg_go ?_
      refine ⟨_, rfl, _, rfl, ?_⟩
      refine tnil_go ?_
      refine ⟨L, ledQ ks, i, fin, by show [V.ref L, V.int (0 + (i : Int))] = _; rw [Int.zero_add], hL.same sB, hS.l8, ef, fun z ws H2 s2 hz hwl => ?_⟩
      have hg : goodH ks i ↔ fin.length = ks.length := by
        unfold goodH
        rw [ef]
        exact Iff.rfl
      refine gn_go ?_
      refine ⟨_, rfl, ?_⟩
      refine tnil_go ?_
      refine ⟨z, _, rfl, .inr hz, ?_⟩
      refine ⟨_, _, rfl, rfl, ?_⟩
      refine ⟨_, rfl, ?_⟩
      refine tnil_go ?_
      have S2 := s1.trans (sB.trans s2)
      refine ⟨p, _, rfl, .inr (sqT_same S2 hp1), ?_⟩
      rw [List.length_map, hrl]
      refine ⟨rfl, _, rfl, ?_⟩
      by_cases c : goodH ks i
      · have c2 := hg.mp c
        have hh : isHome ks i := ⟨hi, c, hno⟩
        rw [decide_eq_true (show V.int (((ws.length : Nat) : Int) + 1) = V.int ((ks.length : Nat) : Int) by rw [← c2, ← hwl]; rfl)]
        refine iteT ?_
        refine ret_go ?_
        refine ⟨_, rfl, _, rfl, ?_⟩
        refine tnil_go ?_
        refine ⟨p, ks, rfl, kds_tk hk S2, hok, hkl, fun C H3 s3 hC => ?_⟩
        refine ⟨_, rfl, ?_⟩
        refine tnil_go ?_
        refine ⟨C, ks.length, i, cQ ks, by show [V.ref C, V.int (0 + (i : Int))] = _; rw [Int.zero_add], cm_of hC, hS.yes i hh, fun W H4 s4 hW => ?_⟩
        refine ⟨_, rfl, ?_⟩
        refine tnil_go ?_
        refine ⟨by show 4 ≤ sizeLine; decide, fun u nu => ?_⟩
        have g5 := same_new (o := HO.tup [.str "share", .int (0 + (i : Int)), .ref W, .ref z]) nu
        refine q1 i u W z _ hh (S2.trans (s3.trans (s4.trans g5))) ?_ (hW.tk (Tk.same g5))
        refine SqT.of ?_
        rw [upd_same, Int.zero_add]
      · have c2 : ¬ fin.length = ks.length := fun y => c (hg.mpr y)
        rw [decide_eq_false (show ¬ V.int (((ws.length : Nat) : Int) + 1) = V.int ((ks.length : Nat) : Int) from fun y => c2 (by have := V.int.inj y; omega))]
        refine iteF ?_
        refine ⟨_, _, rfl, sB.trans s2, fun h hh => ?_⟩
        rcases Nat.lt_or_ge h i with y | y
        · exact hno h y
        · have : h = i := by omega
          rw [this]
          exact c
    · rintro σ HB ⟨z2, z3, rfl, sB, hno⟩
      dsimp only
      refine ret_go ?_
      refine ⟨_, rfl, ?_⟩
      refine tnil_go ?_
      refine ⟨L, ledQ ks, rfl, hL.same sB, hS.l8, hS.no hno, fun z x y H2 s2 hz => ?_⟩
      exact q0 z x y H2 hno (s1.trans (sB.trans s2)) hz
def Mx : List Tri → Nat
  | [] => 0
  | t :: r => max t.1 (Mx r)
theorem mx_le : ∀ {ts : List Tri} {t : Tri}, t ∈ ts → t.1 ≤ Mx ts
  | [], _, h => by cases h
  | x :: r, t, h => by
    rcases List.mem_cons.mp h with z | z
    · rw [z]
      exact Nat.le_max_left _ _
    · exact Nat.le_trans (mx_le z) (Nat.le_max_right _ _)
theorem mx_at : ∀ (ts : List Tri), Mx ts = 0 ∨ ∃ t ∈ ts, t.1 = Mx ts
  | [] => .inl rfl
  | x :: r => by
    rcases Nat.le_total x.1 (Mx r) with z | z
    · have e : Mx (x :: r) = Mx r := Nat.max_eq_right z
      rw [e]
      rcases mx_at r with y | ⟨t, h1, h2⟩
      · exact .inl y
      · exact .inr ⟨t, List.mem_cons_of_mem _ h1, h2⟩
    · have e : Mx (x :: r) = x.1 := Nat.max_eq_left z
      rw [e]
      exact .inr ⟨x, List.mem_cons_self .., rfl⟩
theorem mx_is {ts : List Tri} {M : Nat} (h1 : ∀ t ∈ ts, t.1 ≤ M) (h2 : M = 0 ∨ ∃ t ∈ ts, t.1 = M) : M = Mx ts := by
  have a : M ≤ Mx ts := by
    rcases h2 with z | ⟨t, z1, z2⟩
    · omega
    · rw [← z2]
      exact mx_le z1
  have b : Mx ts ≤ M := by
    rcases mx_at ts with z | ⟨t, z1, z2⟩
    · omega
    · rw [← z2]
      exact h1 t z1
  omega
def LqR (ts : List Tri) : List RT := trimZ (mkL (Mx ts) (klQ ts))
def mkQ (ks : List (List Tri)) (k : Nat) : Rat := meanQ (LqR ((ks[k]?).getD [])) (0, 1)
def spQ (ks : List (List Tri)) (h k : Nat) : Rat := wtQ ks.length h (cQ ks) k * mkQ ks k
structure SpOk (ks : List (List Tri)) (h : Nat) : Prop where
  sz : ∃ D : Int, 0 < D ∧ Sm 600 D ∧ (∀ k, k < ks.length → Sz D 400 (wtQ ks.length h (cQ ks) k)) ∧ ∀ k, k < ks.length → Sz D 400 (spQ ks h k)
  ml : ∀ ts ∈ ks, ∃ W, ML (LqR ts) (0, 1) W ∧ rowQ (LqR ts) + behQ (LqR ts) (0, 1) = 1
  sm : ∀ k, k < ks.length → SmR 3000 (rdq (mkQ ks k))
  pos : 0 < sumTo ks.length (spQ ks h)
def spShs (K : PySem.W.Frag) : Sp := fun vs H Q _ => ∃ (p : Addr) (ks : List (List Tri)), vs = [.ref p] ∧ KdsA K H p ks ∧ (∀ ts ∈ ks, KdW ks.length ts) ∧ ks.length ≤ 4 ∧ ShOk ks ∧ (∀ h, isHome ks h → SpOk ks h) ∧
  (∀ h z H', isHome ks h → Same H H' → RowAt K H' z (mkL ks.length fun k => spQ ks h k / sumTo ks.length (spQ ks h)) → Q (.ref z) H') ∧
  (∀ H', (∀ h, h < ks.length → ¬ goodH ks h) → Same H H' → Q .non H')
theorem ok_shs {f fSHT fT fME fKL fAD fO : Addr} {fd fdSHT fdT fdME fdKL fdAD fdO : FuncData} (F : Fun K "shares" "shares" s_shs f fd)
    (FSHT : Fun K "share_told" "share_told" s_sht fSHT fdSHT) (bSHT : Binds K fdSHT ["kinds"] []) (gSHT : mg "share_told" = some (.ref fSHT)) (GSHT : FnOk P w K mg base CX0 9 fSHT fdSHT ["kinds"] (spSht K))
    (FT : Fun K "times" "times" s_times fT fdT) (bT : Binds K fdT ["one", "other"] []) (gT : mg "times" = some (.ref fT)) (GT : FnOk P w K mg base CX0 3 fT fdT ["one", "other"] (spTwo K (fun a b c d => a * c)))
    (FME : Fun K "mean" "mean" s_mean fME fdME) (bME : Binds K fdME ["life"] []) (gME : mg "mean" = some (.ref fME)) (GME : FnOk P w K mg base CX0 6 fME fdME ["life"] (spMean K))
    (FKL : Fun K "kind_life" "kind_life" s_kl fKL fdKL) (bKL : Binds K fdKL ["kinds", "kind"] []) (gKL : mg "kind_life" = some (.ref fKL)) (GKL : FnOk P w K mg base CX0 4 fKL fdKL ["kinds", "kind"] (spKl K))
    (FAD : Fun K "added" "added" s_added fAD fdAD) (bAD : Binds K fdAD ["told"] []) (gAD : mg "added" = some (.ref fAD)) (GAD : FnOk P w K mg base CX0 3 fAD fdAD ["told"] (spAdded K))
    (FO : Fun K "over" "over" s_over fO fdO) (bO : Binds K fdO ["one", "other"] []) (gO : mg "over" = some (.ref fO)) (GO : FnOk P w K mg base CX0 3 fO fdO ["one", "other"] (spOver0 K))
    (n_enumerate : mg "enumerate" = none) (n_tuple : mg "tuple" = none) : FnOk P w K mg base CX0 10 f fd ["kinds"] (spShs K) := by
  refine F.ok sc_shs (fun vs H Q E h => ?_) (fun cdv A outer s H vs Q E hr h => ?_)
  · obtain ⟨_, _, rfl, _⟩ := h
    rfl
  · obtain ⟨p, ks, rfl, hk, hok, hkl, hS, hP, q1, q0⟩ := h
    refine ⟨_, (pss_cons (ps_set (i := 1) sc_shs.nd rfl (.inl rfl) (pe_call GSHT hr (by rfl) gSHT FSHT.kp bSHT .nil pass0 (pa_cons (pv 0) pa_nil)))
      (pss_cons (ps_if (pt_cmpR op_eq (pe_ix ix_tup (pv 1) pe_int (fun _ _ => rfl)) pe_str (nomark _)) (pss_one (ps_ret pe_non)) pss_nil)
      (pss_cons (ps_setLc (i := 2) (own := [("kind", 4), ("weight", 5)]) (g := (gTup K 2 (gCons (gName 4) (gCons (gName 5) gNil)))) (tt := tYes) (te := (tCall (spTwo K (fun a b c d => a * c)) [] E0 (tCons (tVar 5) (tCons (tCall (spMean K) [] E0 (tCons (tCall (spKl K) [] E0 (tCons (tVar 0) (tCons (tVar 4) tNil))) tNil)) tNil)))) rfl sc_shs.nd rfl rfl (sw_true rfl rfl rfl (by decide +kernel)) (pi_eT (by rfl) n_enumerate (pa_cons (pe_ix ix_tup (pv 1) pe_int (fun _ _ => rfl)) pa_nil)) (blkOk_by (own := [("kind", 4), ("weight", 5)]) (N := N_shs) (sc := (defScope s_shs)) (by decide +kernel)) (fun _ _ _ _ _ => (pg_tup rfl (pgs_cons (pg_name (i := 4) sc_shs.nd rfl (.inl rfl)) (pgs_cons (pg_name (i := 5) sc_shs.nd rfl (.inl rfl)) pgs_nil)))) (fun _ _ _ _ _ => pts_nil) (fun _ _ _ _ _ => (pe_call GT (hr.mono (by decide)) (by rfl) gT FT.kp bT .nil pass0 (pa_cons (pv 5) (pa_cons (pe_call GME (hr.mono (by decide)) (by rfl) gME FME.kp bME .nil pass0 (pa_cons (pe_call GKL (hr.mono (by decide)) (by rfl) gKL FKL.kp bKL .nil pass0 (pa_cons (pv 0) (pa_cons (pv 4) pa_nil))) pa_nil)) pa_nil)))))
      (pss_cons (ps_set (i := 3) sc_shs.nd rfl (.inr rfl) (pe_call GAD (hr.mono (by decide)) (by rfl) gAD FAD.kp bAD .nil pass0 (pa_cons (pv 2) pa_nil)))
      (pss_one (ps_ret (pe_callTy call_tuple_of (by rfl) n_tuple (by decide +kernel) (pa_cons (pe_lc (own := [("span", 6)]) (g := (gName 6)) (tt := tYes) (te := (tCall (spOver0 K) [] E0 (tCons (tVar 6) (tCons (tVar 3) tNil)))) rfl sc_shs.nd (pi_list (pv 2)) (blkOk_by (own := [("span", 6)]) (N := N_shs) (sc := (defScope s_shs)) (by decide +kernel)) (fun _ _ _ _ _ => (pg_name (i := 6) sc_shs.nd rfl (.inl rfl))) (fun _ _ _ _ _ => pts_nil) (fun _ _ _ _ _ => (pe_call GO (hr.mono (by decide)) (by rfl) gO FO.kp bO .nil pass0 (pa_cons (pv 6) (pa_cons (pv 3) pa_nil))))) pa_nil)))))))), ?_⟩
    have hz : sizeLine = 16777216 := sizeLine_eq
    refine asg_go ?_
    refine ⟨_, rfl, ?_⟩
    refine tnil_go ?_
    refine ⟨p, ks, rfl, hk, hok, hkl, hS, fun h z pw pws H1 hh s1 hz1 hpw => ?_, fun z x y H1 hno s1 hz1 => ?_⟩
    · have hX := hP h hh
      obtain ⟨D, hD, sD, zw, zs⟩ := hX.sz
      refine gn_go ?_
      refine ⟨_, rfl, z, _, _, _, rfl, rfl, hz1, rfl, ?_⟩
      refine tC_go ?_
      refine ⟨rfl, _, rfl, ?_⟩
      rw [decide_eq_false (show ¬ V.str "share" = V.str "apart" from fun y => absurd (V.str.inj y) (by decide))]
      refine iteF ?_
      dsimp only [tNext]
      obtain ⟨ws, w1, w2⟩ := id hpw
      have hwl := w2.length
      rw [mkL_len] at hwl
      refine asg_go ?_
      refine ⟨_, rfl, z, _, _, _, rfl, rfl, hz1, rfl, ?_⟩
      refine tnil_go ?_
      refine ⟨pw, _, rfl, w1, ?_⟩
      refine lc_mkW (K := K) (walk_q (Sq := fun H xs => SqT K H pw xs) (k := 0) (xs := ws.map V.ref)) (spQ ks h) (by rw [List.length_map]; omega) (fun HE sE => sqT_same sE w1) (fun i v HE HE' R hi sE hY qr => ?_) (fun D2 H2 s2 hD2 => ?_)
      · obtain ⟨T, x, y, rfl, nT, rfl, ex, ey⟩ := hY
        dsimp only at ex ey
        cases Option.some.inj ex
        rw [List.length_map, hwl] at hi
        obtain ⟨a, ea, ha⟩ := w2.get (mkL_at hi)
        rw [List.getElem?_map, ea] at ey
        cases Option.some.inj ey
        have gT := same_new (o := HO.tup [.int (0 + (i : Int)), .ref a]) nT
        obtain ⟨ts, ets⟩ : ∃ ts, ks[i]? = some ts := ⟨_, List.getElem?_eq_getElem hi⟩
        have hm := List.mem_of_getElem? ets
        have kd := hok ts hm
        obtain ⟨P0, F0⟩ := kd.fit
        obtain ⟨T0, _, _, htt⟩ := kd.tot
        have hlen := kd.len
        obtain ⟨W, M, htot⟩ := hX.ml ts hm
        have emk : meanQ (LqR ts) (0, 1) = mkQ ks i := by
          unfold mkQ
          rw [ets]
          rfl
        refine ⟨T, _, rfl, SqT.of upd_same, rfl, _, _, rfl, _, _, rfl, rfl, rfl, ?_⟩
        refine ⟨_, rfl, ?_⟩
        refine ⟨_, rfl, _, rfl, ?_⟩
        refine tnil_go ?_
        refine ⟨p, ks, ts, i, P0, by show [V.ref p, V.int (0 + (i : Int))] = _; rw [Int.zero_add], kds_tk hk (s1.trans (sE.trans gT)), ets, F0.pos, F0.sm.mono (by decide), F0.sz, fun t ht => ?_, by omega, fun zl HG M0 sG hM1 hM2 hl => ?_⟩
        · obtain ⟨⟨a1, a2⟩, _⟩ := htt t ht
          exact ⟨a1, by omega⟩
        rw [mx_is hM1 hM2] at hl
        refine tnil_go ?_
        refine ⟨zl, LqR ts, (0, 1), W, rfl, hl, M, fun v H3 s3 hv => ?_⟩
        rcases hv with ⟨y, _⟩ | ⟨_, zm, rfl, hzm⟩
        · exact absurd htot y
        rw [emk] at hzm
        refine tnil_go ?_
        exact times_go (ha.tk (Tk.same (sE.trans (gT.trans (sG.trans s3))))) hzm ((zw i hi).smr hD sD (by decide)) (hX.sm i hi) fun r H4 s4 hr => qr r H4 (gT.trans (sG.trans (s3.trans s4))) hr
      rw [List.length_map, hwl] at hD2
      refine gn_go ?_
      refine asg_go ?_
      refine ⟨_, rfl, ?_⟩
      refine tnil_go ?_
      refine addL_go55 (K := K) (s := 600) (k := 400) hD2 hD sD zs (by omega) (by decide) (by decide) fun rt H3 s3 hrt => ?_
      have hot : SmR 3000 (rdq (sumTo ks.length (spQ ks h))) := (Sz.sum (k := 400) hD zs (by omega)).smr hD sD (by decide)
      refine gn_go ?_
      refine ret_go ?_
      obtain ⟨ss, u1, u2⟩ := id (hD2.same s3)
      have hsl := u2.length
      rw [mkL_len] at hsl
      refine ⟨_, rfl, D2, rfl, ⟨_, SqL.of u1⟩, ?_⟩
      refine lc_mkW (K := K) (walk_list (K := K) (a := D2) (xs := ss.map V.ref)) (fun k => spQ ks h k / sumTo ks.length (spQ ks h)) (by rw [List.length_map]; omega) (fun HE sE => SqL.of (sE _ _ u1)) (fun i v HE HE' R hi sE hY qr => ?_) (fun D4 H4 s4 hD4 => ?_)
      · obtain ⟨rfl, hv⟩ := hY
        rw [List.length_map, hsl] at hi
        obtain ⟨a, ea, ha⟩ := u2.get (mkL_at hi)
        rw [List.getElem?_map, ea] at hv
        cases Option.some.inj hv
        refine ⟨rfl, _, rfl, _, rfl, ?_⟩
        refine tnil_go ?_
        exact over_go (ha.tk (Tk.same sE)) (hrt.tk (Tk.same sE)) ((zs i hi).smr hD sD (by decide)) hot hX.pos qr
      rw [List.length_map, hsl] at hD4
      refine tnil_go ?_
      obtain ⟨vs4, x1, x2⟩ := hD4
      refine ⟨D4, _, rfl, .inl ⟨SqL.of x1, fun zz nz => ?_⟩⟩
      have g9 := same_new (o := HO.tup (vs4.map V.ref)) nz
      exact q1 h zz _ hh (s1.trans (s2.trans (s3.trans (s4.trans g9)))) ⟨vs4, SqT.of upd_same, x2.tk (Tk.same g9)⟩
    · refine gn_go ?_
      refine ⟨_, rfl, z, _, _, _, rfl, rfl, hz1, rfl, ?_⟩
      refine tC_go ?_
      refine ⟨rfl, _, rfl, ?_⟩
      rw [decide_eq_true rfl]
      refine iteT ?_
      refine ret_go ?_
      exact q0 H1 hno s1
end

end Fp

set_option Elab.async false
set_option linter.all false
set_option maxRecDepth 100000
set_option maxHeartbeats 4000000
set_option exponentiation.threshold 10000
namespace Fp
open PySem PySem.Spec PyProof.Rows L2
/-! ### sure kinds -/
abbrev s_ski : Stmt := topS 47
abbrev N_ski : List Str := ["_law_feed_here", "_law_size", "_law_kinds", "_law_k", "_law_following"]
theorem sc_ski : FnScope N_ski ["_law_feed_here"] (defScope s_ski) := ⟨rfl, rfl, rfl, by decide +kernel, rfl, by decide +kernel, by decide +kernel⟩
abbrev s_lrn : Stmt := topS 48
abbrev N_lrn : List Str := ["_law_kinds", "_law_first", "_law_here", "_law_turn", "_law_beats", "_law_now"]
theorem sc_lrn : FnScope N_lrn ["_law_kinds", "_law_first"] (defScope s_lrn) := ⟨rfl, rfl, rfl, by decide +kernel, rfl, by decide +kernel, by decide +kernel⟩
def one1 (h f : Nat) : List Tri := [(h, f, ((1 : Int), (1 : Int)))]
def sureK (hs fs : List Nat) : List (List Tri) := (hs.zip fs).map fun y => one1 y.1 y.2
structure Sure (n : Nat) (hs fs : List Nat) : Prop where
  n1 : 1 ≤ n
  n4 : n ≤ 4
  lh : hs.length = n
  lf : fs.length = n
  h3 : ∀ h ∈ hs, 1 ≤ h ∧ h ≤ 3
  fn : ∀ f ∈ fs, f < n
theorem Sure.len {n : Nat} {hs fs : List Nat} (s : Sure n hs fs) : (sureK hs fs).length = n := by
  unfold sureK
  rw [List.length_map, List.length_zip, s.lh, s.lf, Nat.min_self]
theorem Sure.at_ {n : Nat} {hs fs : List Nat} (s : Sure n hs fs) {i : Nat} (hi : i < n) : (sureK hs fs)[i]? = some (one1 (hs.getD i 0) (fs.getD i 0)) := by
  unfold sureK
  have h1 : i < hs.length := by rw [s.lh]; exact hi
  have h2 : i < fs.length := by rw [s.lf]; exact hi
  rw [List.getElem?_map, List.getElem?_eq_getElem (by rw [List.length_zip]; omega), List.getElem_zip, List.getD_eq_getElem?_getD, List.getElem?_eq_getElem h1, List.getD_eq_getElem?_getD, List.getElem?_eq_getElem h2]
  rfl
theorem Sure.hb {n : Nat} {hs fs : List Nat} (s : Sure n hs fs) {i : Nat} (hi : i < n) : 1 ≤ hs.getD i 0 ∧ hs.getD i 0 ≤ 3 := by
  have h1 : i < hs.length := by rw [s.lh]; exact hi
  rw [List.getD_eq_getElem?_getD, List.getElem?_eq_getElem h1]
  exact s.h3 _ (List.getElem_mem h1)
theorem Sure.fb {n : Nat} {hs fs : List Nat} (s : Sure n hs fs) {i : Nat} (hi : i < n) : fs.getD i 0 < n := by
  have h1 : i < fs.length := by rw [s.lf]; exact hi
  rw [List.getD_eq_getElem?_getD, List.getElem?_eq_getElem h1]
  exact s.fn _ (List.getElem_mem h1)
def itF (fs : List Nat) : Nat → Nat → Nat
  | 0, x => x
  | k + 1, x => fs.getD (itF fs k x) 0
/-- the beats of a round -/
def rdL (hs fs : List Nat) (here : Nat) : Nat → Nat → Nat → Option Nat
  | 0, _, _ => none
  | m + 1, now, beats => if now = here then some beats else rdL hs fs here m (fs.getD now 0) (beats + hs.getD now 0)
def rdR (hs fs : List Nat) (n first : Nat) : Option Nat := rdL hs fs (itF fs n first) 5 (fs.getD (itF fs n first) 0) (hs.getD (itF fs n first) 0)
section
variable {P : Program} {w : World} {K : PySem.W.Frag} {mg : Str → Option Value} {base : Heap} {aN aO : Addr}
def spSki (K : PySem.W.Frag) : Sp := fun vs H Q _ => ∃ (d c : Addr) (t : Int), vs = [.ref d] ∧ Feed H d c t ∧ t ≤ 800000 ∧
  ∀ (z : Addr) (n : Nat) (hs fs : List Nat) (t' : Int) (H' : Hp), Keep d H H' → Feed H' d c t' → t' ≤ t + 20 → Sure n hs fs → KdsA K H' z (sureK hs fs) → Q (.ref z) H'
theorem ok_ski {f fD : Addr} {fd fdD : FuncData} (F : Fun K "_law_sure_kinds" "_law_sure_kinds" s_ski f fd)
    (FD : Fun K "_law_draw" "_law_draw" s_draw fD fdD) (bD : Binds K fdD ["_law_feed_here", "_law_size"] []) (gD : mg "_law_draw" = some (.ref fD)) (GD : FnOk P w K mg base CX0 1 fD fdD ["_law_feed_here", "_law_size"] spDraw)
    (n_max : mg "max" = none) (n_range : mg "range" = none) (n_tuple : mg "tuple" = none) : FnOk P w K mg base CX0 2 f fd ["_law_feed_here"] (spSki K) := by
  refine F.ok sc_ski (fun vs H Q E h => ?_) (fun cdv A outer s H vs Q E hr h => ?_)
  · obtain ⟨_, _, _, rfl, _⟩ := h
    rfl
  · obtain ⟨d, c, t, rfl, f0, ht, q⟩ := h
    refine ⟨_, (pss_cons (ps_set (i := 1) sc_ski.nd rfl (.inl rfl) (pe_op op_add pe_int (pe_call GD hr (by rfl) gD FD.kp bD .nil pass0 (pa_cons (pv 0) (pa_cons pe_int pa_nil)))))
      (pss_cons (ps_set (i := 2) sc_ski.nd rfl (.inl rfl) (pe_lst pa_nil))
      (pss_cons (ps_for PassesOwn.never rfl (pi_range1 (by rfl) n_range (pa_cons (pv 1) pa_nil)) (pg_name (i := 3) sc_ski.nd rfl (.inl rfl)) (pss_cons (ps_set (i := 4) sc_ski.nd rfl (.inl rfl) (pe_ix ix_list (pe_lst (pa_cons (pe_op op_mod (pe_op op_add (pv 3) pe_int) (pv 1)) (pa_cons (pe_call GD hr (by rfl) gD FD.kp bD .nil pass0 (pa_cons (pv 0) (pa_cons (pv 1) pa_nil))) (pa_cons (pe_callB (call_max2 rfl) (by rfl) n_max (by decide +kernel) (pa_cons pe_int (pa_cons (pe_op op_sub (pv 3) pe_int) pa_nil))) pa_nil)))) (pe_call GD hr (by rfl) gD FD.kp bD .nil pass0 (pa_cons (pv 0) (pa_cons pe_int pa_nil))) (fun _ _ => rfl)))
      (pss_one (ps_expr (pe_bm PySem.F.plainAttrs_list PySem.F.slot_list_append PySem.F.type_list_append mt_append (pv 2) (pa_cons (pe_tup (pa_cons (pe_tup (pa_cons (pe_op op_add pe_int (pe_call GD hr (by rfl) gD FD.kp bD .nil pass0 (pa_cons (pv 0) (pa_cons pe_int pa_nil)))) (pa_cons (pv 4) (pa_cons (pe_tup (pa_cons pe_int (pa_cons pe_int pa_nil))) pa_nil)))) pa_nil)) pa_nil))))))
      (pss_one (ps_ret (pe_callTy call_tuple_of (by rfl) n_tuple (by decide +kernel) (pa_cons (pv 2) pa_nil))))))), ?_⟩
    refine asg_go ?_
    refine tC_go ?_
    refine ⟨_, rfl, d, c, 4, t, rfl, f0, by omega, by decide, by decide, fun r1 H1 r10 r11 k1 f1 => ?_⟩
    refine ⟨_, _, rfl, rfl, ?_⟩
    obtain ⟨n, hn⟩ : ∃ n : Nat, (1 : Int) + r1 = (n : Int) := ⟨(1 + r1).toNat, by omega⟩
    refine gn_go ?_
    refine asg_go ?_
    refine ⟨by show 0 ≤ sizeLine; decide, fun L nL => ?_⟩
    have e1 := same_new (o := HO.lst []) nL
    have hL0 : upd H1 L (.lst []) L = some (.lst (([] : List Addr).map V.ref)) := upd_same
    have f2 := f1.same e1
    have K1 := k1.trans (Keep.of_same (d := d) e1)
    have nL0 : H L = none := k1.none f1 nL
    generalize upd H1 L (.lst []) = H2 at *
    refine gn_go ?_
    refine ⟨_, rfl, ?_⟩
    refine tnil_go ?_
    refine ⟨_, rfl, by show -(2 ^ 62) ≤ (1 : Int) + r1; omega, by show (1 : Int) + r1 < 2 ^ 62; omega, ?_⟩
    have hnn : ((1 : Int) + r1).toNat = n := by omega
    show ∃ W, _
    refine for_range (lo := 0) (n := ((1 : Int) + r1).toNat) (fun i σ HB => ∃ (t' : Int) (rs : List Addr) (hs fs : List Nat) (z3 z4 : Option V), σ = [some (.ref d), some (.int (n : Int)), some (.ref L), z3, z4] ∧ Feed HB d c t' ∧ t' ≤ t + 1 + 4 * (i : Int) ∧ Keep d H HB ∧ HB L = some (.lst (rs.map V.ref)) ∧ hs.length = i ∧ fs.length = i ∧ (∀ h ∈ hs, 1 ≤ h ∧ h ≤ 3) ∧ (∀ f ∈ fs, f < n) ∧ Obs (KdA K) HB rs (sureK hs fs)) ⟨t + 1, [], [], [], none, none, by rw [← hn]; rfl, f2, by omega, K1, hL0, rfl, rfl, (fun h hh => by cases hh), (fun h hh => by cases hh), Obs.nil⟩ ?_ ?_
    · rintro i σ HB hi ⟨t', rs, hs, fs, z3, z4, rfl, fB, htB, KB, hLB, hhl, hfl, hh3, hfn, hO⟩
      rw [hnn] at hi
      have hol := hO.1
      have hsl : (sureK hs fs).length = i := by
        unfold sureK
        rw [List.length_map, List.length_zip, hhl, hfl, Nat.min_self]
      refine gn_go ?_
      refine asg_go ?_
      refine ⟨_, rfl, _, _, rfl, rfl, _, rfl, _, _, rfl, rfl, by omega, ?_⟩
      refine ⟨_, rfl, _, rfl, ?_⟩
      refine tnil_go ?_
      refine ⟨d, c, (n : Int), t', rfl, fB, by omega, by omega, by omega, fun r4 H4 r40 r41 k4 f4 => ?_⟩
      obtain ⟨a4, rfl⟩ := Int.eq_ofNat_of_zero_le r40
      refine ⟨_, rfl, _, _, rfl, rfl, ?_⟩
      refine tnil_go ?_
      refine ⟨_, _, rfl, ?_⟩
      refine tnil_go ?_
      refine ⟨by show 3 ≤ sizeLine; decide, fun m nm => ?_⟩
      obtain ⟨x1, ex1, hx1⟩ : ∃ x : Nat, ((0 : Int) + (i : Int) + 1) % (n : Int) = (x : Int) ∧ x < n := by
        refine ⟨(i + 1) % n, ?_, Nat.mod_lt _ (by omega)⟩
        rw [show (0 : Int) + (i : Int) + 1 = ((i + 1 : Nat) : Int) by omega]
        rfl
      obtain ⟨x3, ex3, hx3⟩ : ∃ x : Nat, (if ((0 : Int) + (i : Int) - 1) > 0 then ((0 : Int) + (i : Int) - 1) else 0) = (x : Int) ∧ x < n := by
        split
        · exact ⟨i - 1, by omega, by omega⟩
        · exact ⟨0, rfl, by omega⟩
      have e5 := same_new (o := HO.lst [.int (((0 : Int) + (i : Int) + 1) % (n : Int)), .int ((a4 : Nat) : Int), .int (if ((0 : Int) + (i : Int) - 1) > 0 then ((0 : Int) + (i : Int) - 1) else 0)]) nm
      have hm5 := upd_same (H := H4) (a := m) (o := HO.lst [.int (((0 : Int) + (i : Int) + 1) % (n : Int)), .int ((a4 : Nat) : Int), .int (if ((0 : Int) + (i : Int) - 1) > 0 then ((0 : Int) + (i : Int) - 1) else 0)])
      have f5 := f4.same e5
      refine ⟨_, rfl, d, c, 3, t' + 1, rfl, f5, by omega, by decide, by decide, fun r6 H6 r60 r61 k6 f6 => ?_⟩
      have hm6 := keep_at f5 k6 hm5 (fun _ z => nomatch z)
      obtain ⟨fo, efo, hfo⟩ : ∃ f : Nat, atI [V.int (((0 : Int) + (i : Int) + 1) % (n : Int)), V.int ((a4 : Nat) : Int), V.int (if ((0 : Int) + (i : Int) - 1) > 0 then ((0 : Int) + (i : Int) - 1) else 0)] r6 = some (V.int (f : Int)) ∧ f < n := by
        have hr : r6 = 0 ∨ r6 = 1 ∨ r6 = 2 := by omega
        rcases hr with rfl | rfl | rfl
        · exact ⟨x1, by rw [ex1]; rfl, hx1⟩
        · exact ⟨a4, rfl, by omega⟩
        · exact ⟨x3, by rw [ex3]; rfl, hx3⟩
      refine ⟨m, _, _, _, rfl, rfl, SqL.of hm6, efo, ?_⟩
      have K6 := KB.trans (k4.trans ((Keep.of_same e5).trans k6))
      have kB6 := k4.trans ((Keep.of_same (d := d) e5).trans k6)
      have hL6 := keep_at fB kB6 hLB (fun _ z => nomatch z)
      refine gn_go ?_
      refine ⟨_, rfl, .inl ⟨rfl, _, SqL.of hL6⟩, ?_⟩
      refine ⟨_, rfl, d, c, 3, t' + 1 + 1, rfl, f6, by omega, by decide, by decide, fun r7 H7 r70 r71 k7 f7 => ?_⟩
      refine ⟨_, _, rfl, rfl, ?_⟩
      obtain ⟨hh, ehh⟩ : ∃ h : Nat, (1 : Int) + r7 = (h : Int) := ⟨(1 + r7).toNat, by omega⟩
      refine ⟨_, rfl, ?_⟩
      refine ⟨by show 2 ≤ sizeLine; decide, fun o no => ?_⟩
      have g1 := same_new (o := HO.tup [.int 1, .int 1]) no
      refine tnil_go ?_
      refine ⟨by show 3 ≤ sizeLine; decide, fun u nu => ?_⟩
      have g2 := same_new (o := HO.tup [.int ((1 : Int) + r7), .int (fo : Int), .ref o]) nu
      refine tnil_go ?_
      refine ⟨by show 1 ≤ sizeLine; decide, fun v nv => ?_⟩
      have g3 := same_new (o := HO.tup [.ref u]) nv
      refine tnil_go ?_
      have kB7 := kB6.trans (k7.trans (Keep.of_same (d := d) (g1.trans (g2.trans g3))))
      have hL9 := keep_at fB kB7 hLB (fun _ z => nomatch z)
      have f9 := f7.same (g1.trans (g2.trans g3))
      refine ⟨L, _, _, rfl, rfl, hL9, by rw [List.length_map, hol, hsl]; exact Nat.lt_of_lt_of_le (show i < 5 by omega) (by decide), ?_⟩
      have hu : SqT K (upd (upd (upd H7 o (.tup [.int 1, .int 1])) u (.tup [.int ((1 : Int) + r7), .int (fo : Int), .ref o])) v (.tup [.ref u])) u [.int (hh : Int), .int (fo : Int), .ref o] := by
        rw [← ehh]
        exact SqT.of (g3 _ _ upd_same)
      have ho : RAt K (upd (upd (upd H7 o (.tup [.int 1, .int 1])) u (.tup [.int ((1 : Int) + r7), .int (fo : Int), .ref o])) v (.tup [.ref u])) o (1, 1) := SqT.of ((g2.trans g3) _ _ upd_same)
      have hv : KdA K (upd (upd (upd H7 o (.tup [.int 1, .int 1])) u (.tup [.int ((1 : Int) + r7), .int (fo : Int), .ref o])) v (.tup [.ref u])) v (one1 hh fo) := ⟨[u], SqT.of upd_same, Obs.one ⟨o, hu, ho⟩⟩
      generalize upd (upd (upd H7 o (.tup [.int 1, .int 1])) u (.tup [.int ((1 : Int) + r7), .int (fo : Int), .ref o])) v (.tup [.ref u]) = H9 at *
      have tkL : Tk K H9 (upd H9 L (.lst (rs.map V.ref ++ [.ref v]))) := tk_lst hL9
      have hsnoc : sureK (hs ++ [hh]) (fs ++ [fo]) = sureK hs fs ++ [one1 hh fo] := by
        unfold sureK
        rw [List.zip_append (by rw [hhl, hfl]), List.map_append]
        rfl
      refine ⟨t' + 1 + 1 + 1, rs ++ [v], hs ++ [hh], fs ++ [fo], _, _, rfl, f9.wr (f0.nd nL0) (f0.nc nL0), by omega, (KB.trans kB7).wr nL0, ?_, by rw [List.length_append, hhl]; rfl, by rw [List.length_append, hfl]; rfl, fun h hm => ?_, fun f hm => ?_, ?_⟩
      · rw [upd_same, List.map_append]
        rfl
      · rcases List.mem_append.mp hm with y | y
        · exact hh3 h y
        · rw [List.mem_singleton.mp y]
          omega
      · rcases List.mem_append.mp hm with y | y
        · exact hfn f y
        · rw [List.mem_singleton.mp y]
          exact hfo
      · rw [hsnoc]
        exact ((hO.tk kdA_stays (Tk.keep fB kB7)).append (Obs.one hv)).tk kdA_stays tkL
    · rintro σ HB ⟨t', rs, hs, fs, z3, z4, rfl, fB, htB, KB, hLB, hhl, hfl, hh3, hfn, hO⟩
      rw [hnn] at hhl hfl htB
      dsimp only
      refine ret_go ?_
      refine ⟨_, rfl, ?_⟩
      refine tnil_go ?_
      refine ⟨L, _, rfl, .inl ⟨SqL.of hLB, fun z nz => ?_⟩⟩
      have g9 := same_new (o := HO.tup (rs.map V.ref)) nz
      exact q z n hs fs t' _ (KB.trans (Keep.of_same g9)) (fB.same g9) (by omega) ⟨by omega, by omega, hhl, hfl, hh3, hfn⟩ ⟨rs, SqT.of upd_same, hO.tk kdA_stays (Tk.same g9)⟩
def spLrn (K : PySem.W.Frag) : Sp := fun vs H Q _ => ∃ (p : Addr) (n first L : Nat) (hs fs : List Nat), vs = [.ref p, .int (first : Int)] ∧ KdsA K H p (sureK hs fs) ∧ Sure n hs fs ∧ first < n ∧ rdR hs fs n first = some L ∧ Q (.int (L : Int)) H
theorem ok_lrn {f  : Addr} {fd  : FuncData} (F : Fun K "_law_round" "_law_round" s_lrn f fd)
    (n_len : mg "len" = none) (n_range : mg "range" = none) : FnOk P w K mg base CX0 1 f fd ["_law_kinds", "_law_first"] (spLrn K) := by
  refine F.ok sc_lrn (fun vs H Q E h => ?_) (fun cdv A outer s H vs Q E hr h => ?_)
  · obtain ⟨_, _, _, _, _, _, rfl, _⟩ := h
    rfl
  · obtain ⟨p, n, first, L, hs, fs, rfl, hk, S, hf, hr, q⟩ := h
    refine ⟨_, (pss_cons (ps_set (i := 2) sc_lrn.nd rfl (.inl rfl) (pv 1))
      (pss_cons (ps_for PassesOwn.never rfl (pi_range1 (by rfl) n_range (pa_cons (pe_callB call_len_seq (by rfl) n_len PySem.boot_len (pa_cons (pv 0) pa_nil)) pa_nil)) (pg_name (i := 3) sc_lrn.nd rfl (.inl rfl)) (pss_one (ps_set (i := 2) sc_lrn.nd rfl (.inl rfl) (pe_ix ix_tup (pe_ix ix_tup (pe_ix ix_tup (pv 0) (pv 2) (fun _ _ => rfl)) pe_int (fun _ _ => rfl)) pe_int (fun _ _ => rfl)))))
      (pss_cons (ps_set (i := 4) sc_lrn.nd rfl (.inl rfl) (pe_ix ix_tup (pe_ix ix_tup (pe_ix ix_tup (pv 0) (pv 2) (fun _ _ => rfl)) pe_int (fun _ _ => rfl)) pe_int (fun _ _ => rfl)))
      (pss_cons (ps_set (i := 5) sc_lrn.nd rfl (.inl rfl) (pe_ix ix_tup (pe_ix ix_tup (pe_ix ix_tup (pv 0) (pv 2) (fun _ _ => rfl)) pe_int (fun _ _ => rfl)) pe_int (fun _ _ => rfl)))
      (pss_cons (ps_while PassesOwn.never (pt_cmpR op_ne (pv 5) (pv 2) (nomark _)) (pss_cons (ps_set (i := 4) sc_lrn.nd rfl (.inl rfl) (pe_op op_add (pv 4) (pe_ix ix_tup (pe_ix ix_tup (pe_ix ix_tup (pv 0) (pv 5) (fun _ _ => rfl)) pe_int (fun _ _ => rfl)) pe_int (fun _ _ => rfl))))
      (pss_one (ps_set (i := 5) sc_lrn.nd rfl (.inl rfl) (pe_ix ix_tup (pe_ix ix_tup (pe_ix ix_tup (pv 0) (pv 5) (fun _ _ => rfl)) pe_int (fun _ _ => rfl)) pe_int (fun _ _ => rfl))))))
      (pss_one (ps_ret (pv 4)))))))), ?_⟩
    obtain ⟨rs, hp1, hp2⟩ := id hk
    have hrl := hp2.1
    rw [S.len] at hrl
    have n4 := S.n4
    have sl := S.len
    -- the first triple of a kind, its parts
    have tri : ∀ x, x < n → ∃ kp tp cp, (rs.map V.ref)[x]? = some (V.ref kp) ∧ SqT K H kp [.ref tp] ∧ SqT K H tp [.int ((hs.getD x 0 : Nat) : Int), .int ((fs.getD x 0 : Nat) : Int), .ref cp] := fun x hx => by
      obtain ⟨kp, e1, qs, h1, h2⟩ := hp2.get (S.at_ hx)
      obtain ⟨tp, e2, cp, h3, _⟩ := h2.get (i := 0) (y := (hs.getD x 0, fs.getD x 0, ((1 : Int), (1 : Int)))) rfl
      have hl := h2.1
      have : qs = [tp] := by
        match qs, hl, e2 with
        | [a], _, e2 => rw [Option.some.inj e2]
      rw [this] at h1
      exact ⟨kp, tp, cp, by rw [List.getElem?_map, e1]; rfl, h1, h3⟩
    refine asg_go ?_
    refine ⟨_, rfl, ?_⟩
    refine gn_go ?_
    refine ⟨_, rfl, ?_⟩
    refine tnil_go ?_
    refine ⟨p, _, rfl, .inr hp1, ?_⟩
    rw [List.length_map, hrl]
    refine tnil_go ?_
    refine ⟨_, rfl, by omega, by omega, ?_⟩
    rw [Int.toNat_natCast]
    have hit : ∀ i, itF fs i first < n := fun i => by
      induction i with
      | zero => exact hf
      | succ j ih => exact S.fb ih
    refine for_range (lo := 0) (n := n) (fun i σ HB => ∃ (z3 z4 z5 : Option V), σ = [some (.ref p), some (.int (first : Int)), some (.int ((itF fs i first : Nat) : Int)), z3, z4, z5] ∧ HB = H) ⟨none, none, none, rfl, rfl⟩ ?_ ?_
    · rintro i σ HB hi ⟨z3, z4, z5, rfl, rfl⟩
      obtain ⟨kp, tp, cp, g1, g2, g3⟩ := tri _ (hit i)
      refine gn_go ?_
      refine ⟨_, rfl, _, rfl, p, _, _, _, rfl, rfl, hp1, atI_nat g1, ?_⟩
      refine ⟨kp, _, _, .ref tp, rfl, rfl, g2, atI_nat (j := 0) rfl, ?_⟩
      refine ⟨tp, _, _, _, rfl, rfl, g3, atI_nat (j := 1) rfl, ?_⟩
      exact ⟨_, _, _, rfl, rfl⟩
    · rintro σ HB ⟨z3, z4, z5, rfl, rfl⟩
      dsimp only
      obtain ⟨kp, tp, cp, g1, g2, g3⟩ := tri _ (hit n)
      have hhere := hit n
      have hr2 : rdL hs fs (itF fs n first) 5 (fs.getD (itF fs n first) 0) (hs.getD (itF fs n first) 0) = some L := hr
      generalize itF fs n first = here at *
      refine asg_go ?_
      refine ⟨_, rfl, _, rfl, p, _, _, _, rfl, rfl, hp1, atI_nat g1, ?_⟩
      refine ⟨kp, _, _, .ref tp, rfl, rfl, g2, atI_nat (j := 0) rfl, ?_⟩
      refine ⟨tp, _, _, _, rfl, rfl, g3, atI_nat (j := 0) rfl, ?_⟩
      refine gn_go ?_
      refine asg_go ?_
      refine ⟨_, rfl, _, rfl, p, _, _, _, rfl, rfl, hp1, atI_nat g1, ?_⟩
      refine ⟨kp, _, _, .ref tp, rfl, rfl, g2, atI_nat (j := 0) rfl, ?_⟩
      refine ⟨tp, _, _, _, rfl, rfl, g3, atI_nat (j := 1) rfl, ?_⟩
      refine gn_go ?_
      refine ⟨fun m σ HC => ∃ (now beats : Nat) (z3 : Option V), σ = [some (.ref p), some (.int (first : Int)), some (.int (here : Int)), z3, some (.int (beats : Int)), some (.int (now : Int))] ∧ HC = HB ∧ now < n ∧ rdL hs fs here m now beats = some L, ⟨5, _, _, _, rfl, rfl, S.fb hhere, hr2⟩, ?_⟩
      rintro m σ HC ⟨now, beats, z3, rfl, rfl, hnow, hL⟩
      refine ⟨_, rfl, _, rfl, rfl, _, rfl, ?_⟩
      cases m with
      | zero => cases hL
      | succ m =>
        have hL2 : (if now = here then some beats else rdL hs fs here m (fs.getD now 0) (beats + hs.getD now 0)) = some L := hL
        by_cases c : now = here
        · rw [if_pos c] at hL2
          rw [show decide (V.int (now : Int) = V.int (here : Int)) = true from decide_eq_true (by rw [c])]
          rw [if_neg (by decide)]
          dsimp only
          refine ret_go ?_
          refine ⟨_, rfl, ?_⟩
          rw [Option.some.inj hL2]
          exact q
        · rw [if_neg c] at hL2
          rw [show decide (V.int (now : Int) = V.int (here : Int)) = false from decide_eq_false fun z => c (by have := V.int.inj z; omega)]
          rw [if_pos (by decide)]
          obtain ⟨kp, tp, cp, g1, g2, g3⟩ := tri _ hnow
          refine ⟨_, fun σ' H' h => ⟨m, Nat.lt_succ_self m, h⟩, ?_⟩
          refine asg_go ?_
          refine ⟨_, rfl, _, rfl, _, rfl, p, _, _, _, rfl, rfl, hp1, atI_nat g1, ?_⟩
          refine ⟨kp, _, _, .ref tp, rfl, rfl, g2, atI_nat (j := 0) rfl, ?_⟩
          refine ⟨tp, _, _, _, rfl, rfl, g3, atI_nat (j := 0) rfl, ?_⟩
          refine ⟨_, _, rfl, rfl, ?_⟩
          refine gn_go ?_
          refine ⟨_, rfl, _, rfl, p, _, _, _, rfl, rfl, hp1, atI_nat g1, ?_⟩
          refine ⟨kp, _, _, .ref tp, rfl, rfl, g2, atI_nat (j := 0) rfl, ?_⟩
          refine ⟨tp, _, _, _, rfl, rfl, g3, atI_nat (j := 1) rfl, ?_⟩
          exact ⟨_, _, _, rfl, rfl, S.fb hnow, hL2⟩
end

end Fp

set_option Elab.async false
set_option linter.all false
set_option maxRecDepth 100000
set_option maxHeartbeats 4000000
set_option exponentiation.threshold 10000
namespace Fp
open PySem PySem.Spec PyProof.Rows L2
/-! ### sure kinds: what stands -/
def stp (hs fs : List Nat) (x : Nat × Nat) : Nat × Nat := if x.2 + 1 = hs.getD x.1 0 then (fs.getD x.1 0, 0) else (x.1, x.2 + 1)
def cur (hs fs : List Nat) (first : Nat) : Nat → Nat × Nat
  | 0 => (first, 0)
  | b + 1 => stp hs fs (cur hs fs first b)
section
variable {n first : Nat} {hs fs : List Nat}
theorem cur_lt (S : Sure n hs fs) (hf : first < n) : ∀ b, (cur hs fs first b).1 < n ∧ (cur hs fs first b).2 < hs.getD (cur hs fs first b).1 0
  | 0 => ⟨hf, (S.hb hf).1⟩
  | b + 1 => by
    obtain ⟨i1, i2⟩ := cur_lt S hf b
    show (stp hs fs (cur hs fs first b)).1 < n ∧ _
    show _ ∧ (stp hs fs (cur hs fs first b)).2 < hs.getD (stp hs fs (cur hs fs first b)).1 0
    unfold stp
    by_cases c : (cur hs fs first b).2 + 1 = hs.getD (cur hs fs first b).1 0
    · rw [if_pos c]
      exact ⟨S.fb i1, (S.hb (S.fb i1)).1⟩
    · rw [if_neg c]
      exact ⟨i1, by show (cur hs fs first b).2 + 1 < hs.getD (cur hs fs first b).1 0; omega⟩
theorem cur_back : ∀ (b k a : Nat), cur hs fs first b = (k, a) → a ≤ b ∧ cur hs fs first (b - a) = (k, 0)
  | 0, k, a, h => by
    have h0 : (first, 0) = (k, a) := h
    cases h0
    exact ⟨Nat.le_refl _, rfl⟩
  | b + 1, k, a, h => by
    have h2 : stp hs fs (cur hs fs first b) = (k, a) := h
    unfold stp at h2
    by_cases c : (cur hs fs first b).2 + 1 = hs.getD (cur hs fs first b).1 0
    · rw [if_pos c] at h2
      have ha : a = 0 := (Prod.mk.inj h2).2.symm
      rw [ha] at h ⊢
      exact ⟨Nat.zero_le _, h⟩
    · rw [if_neg c] at h2
      obtain ⟨e1, e2⟩ := Prod.mk.inj h2
      have e3 : cur hs fs first b = (k, a - 1) := Prod.ext e1 (by show (cur hs fs first b).2 = a - 1; omega)
      obtain ⟨i1, i2⟩ := cur_back b k (a - 1) e3
      exact ⟨by omega, by rw [show b + 1 - a = b - (a - 1) by omega]; exact i2⟩
theorem cur_fwd {s k : Nat} (h : cur hs fs first s = (k, 0)) : ∀ d, d < hs.getD k 0 → cur hs fs first (s + d) = (k, d)
  | 0, _ => h
  | d + 1, hd => by
    have ih := cur_fwd h d (by omega)
    show stp hs fs (cur hs fs first (s + d)) = _
    rw [ih]
    unfold stp
    rw [if_neg (by show ¬ d + 1 = hs.getD k 0; omega)]
theorem cur_put (S : Sure n hs fs) {s k : Nat} (hk : k < n) (h : cur hs fs first s = (k, 0)) : cur hs fs first (s + hs.getD k 0) = (fs.getD k 0, 0) := by
  have h1 := (S.hb hk).1
  obtain ⟨d, hd⟩ : ∃ d, hs.getD k 0 = d + 1 := ⟨hs.getD k 0 - 1, by omega⟩
  have ih := cur_fwd h d (by omega)
  rw [hd]
  show stp hs fs (cur hs fs first (s + d)) = _
  rw [ih]
  unfold stp
  rw [if_pos (by show d + 1 = hs.getD k 0; omega)]
theorem moves_sure : ∀ (hs fs : List Nat) (k : Nat), hs.length = fs.length → movesFrom k (sureK hs fs) = (List.range hs.length).map fun i => (k + i, hs.getD i 0, fs.getD i 0, ((1 : Int), (1 : Int)))
  | [], [], k, _ => rfl
  | [], _ :: _, k, h => by cases h
  | _ :: _, [], k, h => by cases h
  | h :: hs, f :: fs, k, hl => by
    have ih := moves_sure hs fs (k + 1) (Nat.succ.inj hl)
    show [(k, h, f, ((1 : Int), (1 : Int)))] ++ movesFrom (k + 1) (sureK hs fs) = _
    rw [ih, List.length_cons, List.range_succ_eq_map, List.map_cons, List.map_map]
    show (k, h, f, ((1 : Int), (1 : Int))) :: _ = (k + 0, h, f, ((1 : Int), (1 : Int))) :: _
    congr 1
    refine List.map_congr_left fun i _ => ?_
    show (k + 1 + i, hs.getD i 0, fs.getD i 0, ((1 : Int), (1 : Int))) = (k + (i + 1), (h :: hs).getD (i + 1) 0, (f :: fs).getD (i + 1) 0, ((1 : Int), (1 : Int)))
    rw [show k + 1 + i = k + (i + 1) by omega]
    rfl
theorem sum_pick (p : Nat → Prop) [DecidablePred p] (k : Nat) : ∀ N, ((List.range N).map fun i => if i = k ∧ p i then (1 : Rat) else 0).sum = if k < N ∧ p k then 1 else 0
  | 0 => by
    show (0 : Rat) = _
    rw [if_neg fun z => absurd z.1 (Nat.not_lt_zero _)]
  | N + 1 => by
    rw [List.range_succ, List.map_append, List.map_cons, List.map_nil, sum_snoc, sum_pick p k N]
    by_cases c : N = k
    · by_cases d : p k
      · rw [if_neg (by omega), if_pos ⟨c, by rw [c]; exact d⟩, if_pos ⟨by omega, d⟩]
        grind
      · rw [if_neg (by omega), if_neg fun z => d (by rw [← c]; exact z.2), if_neg fun z => d z.2]
        grind
    · rw [if_neg (c := N = k ∧ p N) fun z => c z.1]
      by_cases d : k < N ∧ p k
      · rw [if_pos d, if_pos ⟨by omega, d.2⟩]
        grind
      · rw [if_neg d, if_neg fun z => d ⟨by omega, z.2⟩]
        grind
theorem sumTo_pick (k : Nat) (p : Prop) [Decidable p] : ∀ N, sumTo N (fun i => if i = k ∧ p then (1 : Rat) else 0) = if k < N ∧ p then 1 else 0
  | 0 => by
    show (0 : Rat) = _
    rw [if_neg fun z => absurd z.1 (Nat.not_lt_zero _)]
  | N + 1 => by
    rw [sumTo_succ, sumTo_pick k p N]
    by_cases c : N = k
    · by_cases d : p
      · rw [if_neg (by omega), if_pos ⟨c, d⟩, if_pos ⟨by omega, d⟩]
        grind
      · rw [if_neg (by omega), if_neg fun z => d z.2, if_neg fun z => d z.2]
        grind
    · rw [if_neg (c := N = k ∧ p) fun z => c z.1]
      by_cases d : k < N ∧ p
      · rw [if_pos d, if_pos ⟨by omega, d.2⟩]
        grind
      · rw [if_neg d, if_neg fun z => d ⟨by omega, z.2⟩]
        grind
theorem pr_sure (S : Sure n hs fs) (hf : first < n) (m : Nat) : ∀ j, prQ (movesFrom 0 (sureK hs fs)) first none m j = if cur hs fs first m = (j, 0) then 1 else 0 := by
  induction m using Nat.strongRecOn with
  | ind m ih =>
    intro j
    cases m with
    | zero =>
      rw [prQ_zero]
      by_cases c : j = first
      · rw [if_pos c, if_pos (by rw [c]; rfl)]
      · rw [if_neg c, if_neg (show ¬ cur hs fs first 0 = (j, 0) from fun z => c (Prod.mk.inj (show (first, 0) = (j, 0) from z)).1.symm)]
    | succ m =>
      rw [prQ_succ]
      have hl : hs.length = fs.length := by rw [S.lh, S.lf]
      conv => lhs; arg 1; arg 2; rw [moves_sure hs fs 0 hl]
      rw [List.map_map, S.lh]
      obtain ⟨c1, c2⟩ := cur_lt S hf m
      have key : ∀ i ∈ List.range n, ((fun y : Mv => if cnd none (m + 1) y j = true then qv y.2.2.2 * prQ (movesFrom 0 (sureK hs fs)) first none (m - (y.2.1 - 1)) y.1 else 0) ∘ fun i => (0 + i, hs.getD i 0, fs.getD i 0, ((1 : Int), (1 : Int)))) i = if i = (cur hs fs first m).1 ∧ ((cur hs fs first m).2 + 1 = hs.getD i 0 ∧ fs.getD i 0 = j) then (1 : Rat) else 0 := fun i hi => by
        have hi := List.mem_range.mp hi
        have hb := S.hb hi
        show (if cnd none (m + 1) (0 + i, hs.getD i 0, fs.getD i 0, ((1 : Int), (1 : Int))) j = true then qv ((1 : Int), (1 : Int)) * prQ (movesFrom 0 (sureK hs fs)) first none (m - (hs.getD i 0 - 1)) (0 + i) else 0) = _
        rw [Nat.zero_add, ih _ (by omega), qv_one, Rat.one_mul]
        have ec : cnd none (m + 1) (i, hs.getD i 0, fs.getD i 0, ((1 : Int), (1 : Int))) j = true ↔ fs.getD i 0 = j ∧ hs.getD i 0 ≤ m + 1 := by
          unfold cnd
          rw [decide_eq_true_eq]
          exact ⟨fun z => ⟨z.1, z.2.1⟩, fun z => ⟨z.1, z.2, .inr (fun y => nomatch y)⟩⟩
        by_cases cc : cnd none (m + 1) (i, hs.getD i 0, fs.getD i 0, ((1 : Int), (1 : Int))) j = true
        · rw [if_pos cc]
          obtain ⟨d1, d2⟩ := ec.mp cc
          by_cases ce : cur hs fs first (m - (hs.getD i 0 - 1)) = (i, 0)
          · have := cur_fwd ce (hs.getD i 0 - 1) (by omega)
            rw [show m - (hs.getD i 0 - 1) + (hs.getD i 0 - 1) = m by omega] at this
            rw [if_pos ce, if_pos ⟨by rw [this], by rw [this]; show hs.getD i 0 - 1 + 1 = _; omega, d1⟩]
          · rw [if_neg ce, if_neg fun z => ce ?_]
            have e1 : cur hs fs first m = (i, hs.getD i 0 - 1) := Prod.ext z.1.symm (by show (cur hs fs first m).2 = _; omega)
            exact (cur_back _ _ _ e1).2
        · rw [if_neg cc, if_neg fun z => cc (ec.mpr ⟨z.2.2, ?_⟩)]
          have e1 : cur hs fs first m = (i, hs.getD i 0 - 1) := Prod.ext z.1.symm (by show (cur hs fs first m).2 = _; omega)
          have := (cur_back _ _ _ e1).1
          omega
      rw [List.map_congr_left key, sum_pick (fun i => (cur hs fs first m).2 + 1 = hs.getD i 0 ∧ fs.getD i 0 = j)]
      have ec : (cur hs fs first (m + 1) = (j, 0)) ↔ ((cur hs fs first m).2 + 1 = hs.getD (cur hs fs first m).1 0 ∧ fs.getD (cur hs fs first m).1 0 = j) := by
        show stp hs fs (cur hs fs first m) = (j, 0) ↔ _
        unfold stp
        by_cases c : (cur hs fs first m).2 + 1 = hs.getD (cur hs fs first m).1 0
        · rw [if_pos c]
          exact ⟨fun z => ⟨c, (Prod.mk.inj z).1⟩, fun z => by rw [z.2]⟩
        · rw [if_neg c]
          exact ⟨fun z => absurd (Prod.mk.inj z).2 (Nat.succ_ne_zero _), fun z => absurd z.1 c⟩
      by_cases c : cur hs fs first (m + 1) = (j, 0)
      · rw [if_pos ⟨c1, ec.mp c⟩, if_pos c]
      · rw [if_neg fun z => c (ec.mpr z.2), if_neg c]
theorem last_one (h f a : Nat) : lastK (one1 h f) a = if a < h then 1 else 0 := by
  show (1 : Rat) - ((if h ≤ a then qv ((1 : Int), (1 : Int)) else 0) + 0) = _
  rw [qv_one]
  by_cases c : a < h
  · rw [if_neg (by omega), if_pos c]
    grind
  · rw [if_pos (by omega), if_neg c]
    grind
theorem st_sure (S : Sure n hs fs) (hf : first < n) (b : Nat) {j : Nat} (hj : j < n) : stKQ (sureK hs fs) first b j = if (cur hs fs first b).1 = j then 1 else 0 := by
  unfold stKQ
  rw [S.at_ hj]
  obtain ⟨c1, c2⟩ := cur_lt S hf b
  obtain ⟨b1, b2⟩ := cur_back (hs := hs) (fs := fs) (first := first) b (cur hs fs first b).1 (cur hs fs first b).2 rfl
  have key : ∀ m, m < b + 1 → prQ (movesFrom 0 (sureK hs fs)) first none m j * lastK ((some (one1 (hs.getD j 0) (fs.getD j 0))).getD []) (b - m) = if m = b - (cur hs fs first b).2 ∧ (cur hs fs first b).1 = j then (1 : Rat) else 0 := fun m hm => by
    rw [pr_sure S hf]
    show _ * lastK (one1 (hs.getD j 0) (fs.getD j 0)) (b - m) = _
    rw [last_one]
    by_cases c : cur hs fs first m = (j, 0)
    · by_cases d : b - m < hs.getD j 0
      · have e := cur_fwd c (b - m) d
        rw [show m + (b - m) = b by omega] at e
        rw [if_pos c, if_pos d, if_pos ⟨by rw [e]; show m = b - (b - m); omega, by rw [e]⟩]
        grind
      · have dn : ¬ (m = b - (cur hs fs first b).2 ∧ (cur hs fs first b).1 = j) := fun z => d (by
          have z2 := z.2
          rw [z2] at c2
          have z1 := z.1
          omega)
        rw [if_pos c, if_neg d, if_neg dn]
        grind
    · have cn : ¬ (m = b - (cur hs fs first b).2 ∧ (cur hs fs first b).1 = j) := fun z => c (by rw [z.1, b2, z.2])
      rw [if_neg c, if_neg cn]
      grind
  rw [sumTo_congr key, sumTo_pick]
  by_cases c : (cur hs fs first b).1 = j
  · rw [if_pos ⟨by omega, c⟩, if_pos c]
  · rw [if_neg fun z => c z.2, if_neg c]
end

end Fp

set_option Elab.async false
set_option linter.all false
set_option maxRecDepth 100000
set_option maxHeartbeats 4000000
set_option exponentiation.threshold 10000
namespace Fp
open PySem PySem.Spec PyProof.Rows L2
/-! ### sure kinds: a round -/
def cntN (f : Nat → Bool) : Nat → Nat
  | 0 => 0
  | m + 1 => cntN f m + if f m = true then 1 else 0
theorem cnt_add (f : Nat → Bool) (m : Nat) : ∀ k, cntN f (m + k) = cntN f m + cntN (fun i => f (m + i)) k
  | 0 => rfl
  | k + 1 => by
    show cntN f (m + k) + _ = cntN f m + (cntN (fun i => f (m + i)) k + _)
    rw [cnt_add f m k, Nat.add_assoc]
    rfl
theorem cnt_congr {f g : Nat → Bool} : ∀ {m : Nat}, (∀ i, i < m → f i = g i) → cntN f m = cntN g m
  | 0, _ => rfl
  | m + 1, h => by
    show cntN f m + _ = cntN g m + _
    rw [cnt_congr fun i hi => h i (by omega), h m (by omega)]
theorem cnt_const (b : Bool) : ∀ m, cntN (fun _ => b) m = if b = true then m else 0
  | 0 => by split <;> rfl
  | m + 1 => by
    show cntN (fun _ => b) m + (if b = true then 1 else 0) = _
    rw [cnt_const b m]
    split <;> omega
theorem cnt_sum (f : Nat → Bool) : ∀ m, sumTo m (fun i => if f i = true then (1 : Rat) else 0) = ((cntN f m : Nat) : Rat)
  | 0 => rfl
  | m + 1 => by
    show _ = ((cntN f m + (if f m = true then 1 else 0) : Nat) : Rat)
    rw [sumTo_succ, cnt_sum f m, Rat.natCast_add]
    split <;> rfl
def chn (fs : List Nat) (x : Nat) : Nat → List Nat
  | 0 => []
  | c + 1 => x :: chn fs (fs.getD x 0) c
def sumH (hs l : List Nat) : Nat := (l.map fun y => hs.getD y 0).sum
def sumJ (hs : List Nat) (j : Nat) (l : List Nat) : Nat := (l.map fun y => if y = j then hs.getD y 0 else 0).sum
theorem it_comm (fs : List Nat) : ∀ c x, itF fs c (fs.getD x 0) = itF fs (c + 1) x
  | 0, x => rfl
  | c + 1, x => by
    show fs.getD (itF fs c (fs.getD x 0)) 0 = fs.getD (itF fs (c + 1) x) 0
    rw [it_comm fs c x]
theorem chn_snoc (fs : List Nat) : ∀ c x, chn fs x (c + 1) = chn fs x c ++ [itF fs c x]
  | 0, x => rfl
  | c + 1, x => by
    show x :: chn fs (fs.getD x 0) (c + 1) = x :: (chn fs (fs.getD x 0) c ++ [itF fs (c + 1) x])
    rw [chn_snoc fs c, it_comm]
theorem sumH_cons (hs l : List Nat) (x : Nat) : sumH hs (x :: l) = hs.getD x 0 + sumH hs l := rfl
theorem sumH_snoc (hs l : List Nat) (x : Nat) : sumH hs (l ++ [x]) = sumH hs l + hs.getD x 0 := by
  unfold sumH
  rw [List.map_append, List.sum_append]
  rfl
section
variable {n first : Nat} {hs fs : List Nat}
def isK (hs fs : List Nat) (first j b : Nat) : Bool := decide ((cur hs fs first b).1 = j)
theorem block_is {s x j : Nat} (h : cur hs fs first s = (x, 0)) : cntN (fun i => isK hs fs first j (s + i)) (hs.getD x 0) = if x = j then hs.getD x 0 else 0 := by
  rw [cnt_congr (g := fun _ => decide (x = j)) fun i hi => ?_, cnt_const]
  · by_cases c : x = j
    · rw [if_pos (decide_eq_true c), if_pos c]
    · rw [if_neg (by rw [decide_eq_false c]; decide), if_neg c]
  · unfold isK
    rw [cur_fwd h i hi]
theorem chain_is (S : Sure n hs fs) (j : Nat) : ∀ (c s x : Nat), x < n → cur hs fs first s = (x, 0) → cntN (fun i => isK hs fs first j (s + i)) (sumH hs (chn fs x c)) = sumJ hs j (chn fs x c) ∧ cur hs fs first (s + sumH hs (chn fs x c)) = (itF fs c x, 0)
  | 0, s, x, hx, h => ⟨rfl, h⟩
  | c + 1, s, x, hx, h => by
    obtain ⟨i1, i2⟩ := chain_is S j c (s + hs.getD x 0) (fs.getD x 0) (S.fb hx) (cur_put S hx h)
    have e : sumH hs (chn fs x (c + 1)) = hs.getD x 0 + sumH hs (chn fs (fs.getD x 0) c) := rfl
    refine ⟨?_, ?_⟩
    · rw [e, cnt_add, block_is h]
      show _ + cntN (fun i => isK hs fs first j (s + (hs.getD x 0 + i))) _ = (if x = j then hs.getD x 0 else 0) + sumJ hs j (chn fs (fs.getD x 0) c)
      rw [← i1]
      congr 1
      exact cnt_congr fun i _ => by rw [Nat.add_assoc]
    · rw [e, ← Nat.add_assoc, i2, it_comm]
theorem cur_from {s L : Nat} (h : cur hs fs first (s + L) = cur hs fs first s) : ∀ d, cur hs fs first (s + d + L) = cur hs fs first (s + d)
  | 0 => h
  | d + 1 => by
    have ih := cur_from h d
    rw [show s + (d + 1) + L = s + d + L + 1 by omega]
    show stp hs fs (cur hs fs first (s + d + L)) = stp hs fs (cur hs fs first (s + d))
    rw [ih]
theorem cnt_shift {g : Nat → Bool} {L : Nat} (h : ∀ d, g (d + L) = g d) : ∀ b, cntN (fun i => g (b + i)) L = cntN g L
  | 0 => cnt_congr fun i _ => by rw [Nat.zero_add]
  | b + 1 => by
    have ih := cnt_shift h b
    have a1 := cnt_add (fun i => g (b + i)) 1 L
    have a2 : cntN (fun i => g (b + i)) (1 + L) = cntN (fun i => g (b + i)) L + if g (b + L) = true then 1 else 0 := by
      rw [Nat.add_comm]
      rfl
    have a3 : cntN (fun i => g (b + i)) 1 = if g b = true then 1 else 0 := by
      show 0 + (if g (b + 0) = true then 1 else 0) = _
      rw [Nat.zero_add]
      rfl
    have a4 : cntN (fun i => (fun i => g (b + i)) (1 + i)) L = cntN (fun i => g (b + 1 + i)) L := cnt_congr fun i _ => by
      show g (b + (1 + i)) = g (b + 1 + i)
      rw [Nat.add_assoc]
    rw [h b] at a2
    rw [a3, a4] at a1
    omega
theorem sumH_le (S : Sure n hs fs) : ∀ (c x : Nat), x < n → sumH hs (chn fs x c) ≤ 3 * c
  | 0, x, hx => Nat.le_refl _
  | c + 1, x, hx => by
    have ih := sumH_le S c (fs.getD x 0) (S.fb hx)
    have := (S.hb hx).2
    show hs.getD x 0 + sumH hs (chn fs (fs.getD x 0) c) ≤ _
    omega
theorem it_lt (S : Sure n hs fs) {x : Nat} (hx : x < n) : ∀ c, itF fs c x < n
  | 0 => hx
  | c + 1 => S.fb (it_lt S hx c)
theorem cnt_nine (S : Sure n hs fs) (hf : first < n) {c j : Nat} (hc : itF fs c (itF fs (n - 1) first) = itF fs (n - 1) first) : cntN (fun i => isK hs fs first j (9 + i)) (sumH hs (chn fs (itF fs (n - 1) first) c)) = sumJ hs j (chn fs (itF fs (n - 1) first) c) := by
  have hx := it_lt S hf (n - 1)
  have n4 := S.n4
  obtain ⟨_, t2⟩ := chain_is (first := first) S j (n - 1) 0 first hf rfl
  have ht := sumH_le S (n - 1) first hf
  rw [Nat.zero_add] at t2
  generalize sumH hs (chn fs first (n - 1)) = T at *
  obtain ⟨c1, c2⟩ := chain_is (first := first) S j c T _ hx t2
  rw [hc] at c2
  have per := cur_from (hs := hs) (fs := fs) (first := first) (c2.trans t2.symm)
  generalize sumH hs (chn fs (itF fs (n - 1) first) c) = L at *
  have h1 := cnt_shift (g := fun d => isK hs fs first j (T + d)) (L := L) (fun d => by
    show isK hs fs first j (T + (d + L)) = isK hs fs first j (T + d)
    unfold isK
    rw [← Nat.add_assoc, per d]) (9 - T)
  rw [c1] at h1
  rw [← h1]
  refine cnt_congr fun i _ => ?_
  show _ = isK hs fs first j (T + (9 - T + i))
  rw [show T + (9 - T + i) = 9 + i by omega]
theorem rd_gen {here c : Nat} (no : ∀ i, 0 < i → i < c → itF fs i here ≠ here) (ret : itF fs c here = here) : ∀ (k i m B : Nat), i + k = c → 1 ≤ i → k + 1 ≤ m → rdL hs fs here m (itF fs i here) B = some (B + sumH hs (chn fs (itF fs i here) k))
  | 0, i, m + 1, B, h1, h2, h3 => by
    have e : i = c := by omega
    show (if itF fs i here = here then some B else _) = _
    rw [if_pos (by rw [e]; exact ret)]
    rfl
  | k + 1, i, m + 1, B, h1, h2, h3 => by
    show (if itF fs i here = here then some B else rdL hs fs here m (fs.getD (itF fs i here) 0) (B + hs.getD (itF fs i here) 0)) = _
    rw [if_neg (no i (by omega) (by omega))]
    have ih := rd_gen no ret k (i + 1) m (B + hs.getD (itF fs i here) 0) (by omega) (by omega) (by omega)
    rw [show fs.getD (itF fs i here) 0 = itF fs (i + 1) here from rfl, ih]
    show some (B + hs.getD (itF fs i here) 0 + _) = some (B + (hs.getD (itF fs i here) 0 + _))
    rw [Nat.add_assoc]
    rfl
  | 0, _, 0, _, _, _, h3 => by omega
  | _ + 1, _, 0, _, _, _, h3 => by omega
theorem rd_is {x c : Nat} (hc : 1 ≤ c) (c4 : c ≤ 4) (no : ∀ i, 0 < i → i < c → itF fs i (fs.getD x 0) ≠ fs.getD x 0) (ret : itF fs c (fs.getD x 0) = fs.getD x 0) (hx : itF fs c x = x) : rdL hs fs (fs.getD x 0) 5 (fs.getD (fs.getD x 0) 0) (hs.getD (fs.getD x 0) 0) = some (sumH hs (chn fs x c)) := by
  have h := rd_gen (hs := hs) no ret (c - 1) 1 5 (hs.getD (fs.getD x 0) 0) (by omega) (Nat.le_refl _) (by omega)
  have e1 : sumH hs (chn fs (fs.getD x 0) c) = hs.getD (fs.getD x 0) 0 + sumH hs (chn fs (itF fs 1 (fs.getD x 0)) (c - 1)) := by
    obtain ⟨d, rfl⟩ : ∃ d, c = d + 1 := ⟨c - 1, by omega⟩
    rfl
  have e2 : hs.getD x 0 + sumH hs (chn fs (fs.getD x 0) c) = sumH hs (chn fs x c) + hs.getD x 0 := by
    have := congrArg (sumH hs) (chn_snoc fs c x)
    rw [sumH_snoc, hx] at this
    exact this
  rw [show fs.getD (fs.getD x 0) 0 = itF fs 1 (fs.getD x 0) from rfl, h]
  congr 1
  omega
theorem sumJ_count (hs : List Nat) (j : Nat) : ∀ l : List Nat, sumJ hs j l = l.count j * hs.getD j 0
  | [] => by
    show 0 = 0 * _
    rw [Nat.zero_mul]
  | y :: r => by
    show (if y = j then hs.getD y 0 else 0) + sumJ hs j r = _
    rw [sumJ_count hs j r, List.count_cons]
    by_cases c : y = j
    · rw [if_pos c, if_pos (by rw [c]; exact beq_self_eq_true j), c, Nat.add_mul, Nat.one_mul, Nat.add_comm]
    · rw [if_neg c, if_neg (by rw [beq_iff_eq]; exact c), Nat.add_zero, Nat.zero_add]
theorem sumH_count (hs : List Nat) (n : Nat) : ∀ l : List Nat, (∀ y ∈ l, y < n) → sumTo n (fun j => (((l.count j * hs.getD j 0 : Nat)) : Rat)) = ((sumH hs l : Nat) : Rat)
  | [], _ => by
    rw [sumTo_congr (g := fun _ => (0 : Rat)) fun j _ => by show (((0 * hs.getD j 0 : Nat)) : Rat) = 0; rw [Nat.zero_mul]; rfl]
    exact sumTo_nought n
  | y :: r, h => by
    have ih := sumH_count hs n r fun z hz => h z (List.mem_cons_of_mem _ hz)
    have hy := h y (List.mem_cons_self ..)
    have e : ∀ j, j < n → ((((y :: r).count j * hs.getD j 0 : Nat)) : Rat) = (((r.count j * hs.getD j 0 : Nat)) : Rat) + ((hs.getD y 0 : Nat) : Rat) * (if j = y ∧ True then (1 : Rat) else 0) := fun j _ => by
      rw [List.count_cons]
      by_cases c : y = j
      · rw [if_pos (by rw [c]; exact beq_self_eq_true j), if_pos ⟨c.symm, trivial⟩, Nat.add_mul, Nat.one_mul, Rat.natCast_add, c]
        grind
      · rw [if_neg (by rw [beq_iff_eq]; exact c), if_neg fun z => c z.1.symm, Nat.add_zero]
        grind
    rw [sumTo_congr e, sumTo_add, ih, ← sumTo_mul, sumTo_pick, if_pos ⟨hy, trivial⟩, sumH_cons, Rat.natCast_add]
    grind
end

end Fp

set_option Elab.async false
set_option linter.all false
set_option maxRecDepth 100000
set_option maxHeartbeats 4000000
set_option exponentiation.threshold 10000
namespace Fp
open PySem PySem.Spec PyProof.Rows L2
/-! ### sure kinds: flows -/
def matF (ψ : Nat → Nat) (i j : Nat) : Rat := if ψ i = j then 1 else 0
def redF (n : Nat) (ψ : Nat → Nat) (i : Nat) : Nat := if ψ i = n + 1 then ψ (n + 1) else ψ i
def sumN (n : Nat) (f : Nat → Nat) : Nat := ((List.range n).map f).sum
def partN : Nat → (Nat → Nat) → Nat → Nat
  | 0, _ => fun _ => 0
  | 1, _ => fun _ => 1
  | n + 2, ψ => fun j => if j = n + 1 then sumN (n + 1) (fun i => if ψ i = n + 1 then partN (n + 1) (redF n ψ) i else 0) else partN (n + 1) (redF n ψ) j
def okN : Nat → (Nat → Nat) → Bool
  | 0, _ => false
  | 1, _ => true
  | n + 2, ψ => decide (ψ (n + 1) < n + 1) && (((List.range (n + 1)).all fun i => decide (partN (n + 1) (redF n ψ) i ≤ 1000)) && okN (n + 1) (redF n ψ))
theorem sumN_cast (f : Nat → Nat) : ∀ n, ((sumN n f : Nat) : Rat) = sumTo n fun i => ((f i : Nat) : Rat)
  | 0 => rfl
  | n + 1 => by
    rw [sumTo_succ, ← sumN_cast f n, ← Rat.natCast_add]
    unfold sumN
    rw [List.range_succ, List.map_append, List.sum_append]
    rfl
theorem sz_nat {m : Nat} (h : m ≤ 1000) : Sz 1 400 ((m : Nat) : Rat) := by
  have e : ((m : Nat) : Rat) = (((m : Nat) : Int) : Rat) := rfl
  have h2 : (((m : Nat) : Int) : Rat) ≤ ((1000 : Int) : Rat) := Rat.intCast_le_intCast.mpr (by omega)
  have h3 : ((0 : Int) : Rat) ≤ (((m : Nat) : Int) : Rat) := Rat.intCast_le_intCast.mpr (by omega)
  have h4 : ((1000 : Int) : Rat) ≤ (2 : Rat) ^ 400 := by decide +kernel
  have h5 : ((0 : Int) : Rat) = 0 := rfl
  refine ⟨⟨((m : Nat) : Int), ?_⟩, ?_, ?_⟩
  · rw [e]
    show _ = _ / ((1 : Int) : Rat)
    rw [show ((1 : Int) : Rat) = 1 from rfl]
    grind
  · rw [e]
    have := two_pos 400
    grind
  · rw [e]
    exact Rat.le_trans h2 h4
theorem sz_01 {p : Prop} [Decidable p] : Sz 1 400 (if p then (1 : Rat) else 0) := by
  split
  · exact sz_nat (m := 1) (by decide)
  · exact sz_nat (m := 0) (by decide)
theorem part_is : ∀ (n : Nat) (ψ : Nat → Nat) (f : Nat → Nat → Rat), (∀ i j, i < n → j < n → f i j = matF ψ i j) → okN n ψ = true → PtOk n f ∧ ∀ j, j < n → partF n f j = ((partN n ψ j : Nat) : Rat)
  | 0, ψ, f, _, h => by cases h
  | 1, ψ, f, _, _ => ⟨trivial, fun j _ => rfl⟩
  | n + 2, ψ, f, hf, h => by
    unfold okN at h
    rw [Bool.and_eq_true, Bool.and_eq_true, decide_eq_true_eq] at h
    obtain ⟨h1, h2, h3⟩ := h
    have on : onQ n f = 1 := by
      unfold onQ
      rw [sumTo_congr (g := fun j => if j = ψ (n + 1) ∧ True then (1 : Rat) else 0) fun j hj => ?_, sumTo_pick, if_pos ⟨h1, trivial⟩]
      rw [hf (n + 1) j (by omega) (by omega)]
      unfold matF
      by_cases c : ψ (n + 1) = j
      · rw [if_pos c, if_pos ⟨c.symm, trivial⟩]
      · rw [if_neg c, if_neg fun z => c z.1.symm]
    have of_ : ∀ i, i < n + 1 → ofQ n f i = if ψ i = n + 1 then 1 else 0 := fun i hi => by
      unfold ofQ
      rw [on, hf i (n + 1) (by omega) (by omega)]
      unfold matF
      grind
    have g_ : ∀ i j, i < n + 1 → j < n + 1 → gQ n f i j = matF (redF n ψ) i j := fun i j hi hj => by
      unfold gQ
      rw [of_ i hi, hf i j (by omega) (by omega), hf (n + 1) j (by omega) (by omega)]
      unfold matF redF
      by_cases c : ψ i = n + 1
      · rw [if_pos c, if_pos c, if_neg (c := ψ i = j) (by omega)]
        grind
      · rw [if_neg c, if_neg c]
        grind
    obtain ⟨i1, i2⟩ := part_is (n + 1) (redF n ψ) (gQ n f) g_ h3
    have pb : ∀ i, i < n + 1 → partN (n + 1) (redF n ψ) i ≤ 1000 := fun i hi => of_decide_eq_true (List.all_eq_true.mp h2 i (List.mem_range.mpr hi))
    refine ⟨⟨⟨1, by decide, by unfold Sm; decide, fun i j hi hj => ?_, fun i hi => ?_, fun i hi => ?_⟩, by rw [on]; decide, i1⟩, fun j hj => ?_⟩
    · rw [hf i j hi hj]
      exact sz_01
    · rw [of_ i hi]
      exact sz_01
    · rw [i2 i hi]
      exact sz_nat (pb i hi)
    · show (if j = n + 1 then sumTo (n + 1) (fun i => partF (n + 1) (gQ n f) i * ofQ n f i) else partF (n + 1) (gQ n f) j) = (((if j = n + 1 then sumN (n + 1) (fun i => if ψ i = n + 1 then partN (n + 1) (redF n ψ) i else 0) else partN (n + 1) (redF n ψ) j) : Nat) : Rat)
      by_cases c : j = n + 1
      · rw [if_pos c, if_pos c, sumN_cast]
        refine sumTo_congr fun i hi => ?_
        rw [of_ i hi, i2 i hi]
        by_cases d : ψ i = n + 1
        · rw [if_pos d, if_pos d]
          grind
        · rw [if_neg d, if_neg d]
          show _ * (0 : Rat) = 0
          grind
      · rw [if_neg c, if_neg c]
        exact i2 j (by omega)
theorem ord_inj_all : ((List.range 5).all fun m => (List.range m).all fun h => (List.range m).all fun j => decide ((ordL m h).idxOf ((ordL m h).getD j 0) = j)) = true := by decide +kernel
theorem ord_inj {m h j : Nat} (hm : m ≤ 4) (hh : h < m) (hj : j < m) : (ordL m h).idxOf ((ordL m h).getD j 0) = j := by
  have a := List.all_eq_true.mp ord_inj_all m (List.mem_range.mpr (by omega))
  have a := List.all_eq_true.mp a h (List.mem_range.mpr hh)
  exact of_decide_eq_true (List.all_eq_true.mp a j (List.mem_range.mpr hj))
def psF (n home : Nat) (fs : List Nat) (i : Nat) : Nat := (ordL n home).idxOf (fs.getD ((ordL n home).getD i 0) 0)
section
variable {n first : Nat} {hs fs : List Nat}
theorem cQ_sure (S : Sure n hs fs) {i : Nat} (hi : i < n) (j : Nat) : cQ (sureK hs fs) i j = if fs.getD i 0 = j then 1 else 0 := by
  unfold cQ
  rw [S.at_ hi]
  show (if fs.getD i 0 = j then qv ((1 : Int), (1 : Int)) else 0) + 0 = _
  rw [qv_one]
  split <;> grind
theorem fl_sure (S : Sure n hs fs) {home : Nat} (hh : home < n) : ∀ i j, i < n → j < n → flQ n home (cQ (sureK hs fs)) i j = matF (psF n home fs) i j := fun i j hi hj => by
  have n4 := S.n4
  have O := ord_ok n4 hh
  have gi := O.gt i hi
  unfold flQ
  rw [cQ_sure S gi]
  unfold matF psF
  have fb := S.fb gi
  generalize fs.getD ((ordL n home).getD i 0) 0 = k at *
  by_cases c : k = (ordL n home).getD j 0
  · rw [if_pos c, if_pos (by rw [c]; exact ord_inj n4 hh hj)]
  · rw [if_neg c, if_neg fun z => c ?_]
    have h1 := O.at_ k fb
    rw [z] at h1
    rw [List.getD_eq_getElem?_getD, h1]
    rfl
theorem led_sure (S : Sure n hs fs) : ledQ (sureK hs fs) = fs.map fun f => [f] := by
  have sl := S.len
  unfold ledQ chRows
  rw [List.map_map]
  refine List.ext_getElem (by rw [List.length_map, List.length_map, sl, S.lf]) fun i h1 h2 => ?_
  rw [List.length_map, sl] at h1
  rw [List.getElem_map, List.getElem_map]
  have e1 : (sureK hs fs)[i]'(by omega) = one1 (hs.getD i 0) (fs.getD i 0) := by
    have := S.at_ h1
    rw [List.getElem?_eq_getElem (by omega)] at this
    exact Option.some.inj this
  have e2 : fs[i]'(by rw [S.lf]; exact h1) = fs.getD i 0 := by
    rw [List.getD_eq_getElem?_getD, List.getElem?_eq_getElem (by rw [S.lf]; exact h1)]
    rfl
  show ledB (mkL (sureK hs fs).length (cnQ ((sureK hs fs)[i]'_))) = [fs[i]'_]
  rw [e1, sl, e2]
  have fb := S.fb h1
  generalize fs.getD i 0 = f at *
  unfold ledB
  rw [mkL_len]
  have hp : ∀ j ∈ List.range n, decide (0 < ((mkL n (cnQ (one1 (hs.getD i 0) f))).getD j (0, 1)).1) = decide (j = f) := fun j hj => by
    have hj := List.mem_range.mp hj
    rw [List.getD_eq_getElem?_getD, mkL_at hj]
    show decide (0 < (rdq ((if f = j then qv ((1 : Int), (1 : Int)) else 0) + 0)).1) = _
    by_cases c : f = j
    · rw [if_pos c, qv_one, show decide (j = f) = true from decide_eq_true c.symm]
      decide +kernel
    · rw [if_neg c, show decide (j = f) = false from decide_eq_false fun z => c z.symm]
      decide +kernel
  rw [List.filter_congr hp]
  have key : ∀ N, (List.range N).filter (fun j => decide (j = f)) = if f < N then [f] else [] := fun N => by
    induction N with
    | zero => rfl
    | succ m ih =>
      rw [List.range_succ, List.filter_append, ih]
      by_cases c : f < m
      · rw [if_pos c, if_pos (by omega), List.filter_cons, if_neg (by rw [decide_eq_true_eq]; omega)]
        rfl
      · by_cases d : m = f
        · rw [if_neg c, if_pos (by omega), List.filter_cons, if_pos (decide_eq_true d), d]
          rfl
        · rw [if_neg c, if_neg (by omega), List.filter_cons, if_neg (by rw [decide_eq_true_eq]; exact d)]
          rfl
  rw [key, if_pos fb]
end

end Fp

set_option Elab.async false
set_option linter.all false
set_option maxRecDepth 100000
set_option maxHeartbeats 4000000
set_option exponentiation.threshold 10000
namespace Fp
open PySem PySem.Spec PyProof.Rows L2
/-! ### sure kinds: all of them -/
def cyF (fs : List Nat) (y : Nat) : Nat := if itF fs 1 y = y then 1 else if itF fs 2 y = y then 2 else if itF fs 3 y = y then 3 else 4
def xF (n : Nat) (fs : List Nat) (first : Nat) : Nat := itF fs (n - 1) first
def cF (n : Nat) (fs : List Nat) (first : Nat) : Nat := cyF fs (fs.getD (xF n fs first) 0)
def ldL (fs : List Nat) : List (List Nat) := fs.map fun f => [f]
def chkF (n : Nat) (fs : List Nat) (first : Nat) : Bool := decide (itF fs (cF n fs first) (fs.getD (xF n fs first) 0) = fs.getD (xF n fs first) 0) && (((List.range (cF n fs first)).all fun i => decide (i = 0) || decide (itF fs i (fs.getD (xF n fs first) 0) ≠ fs.getD (xF n fs first) 0)) && decide (itF fs (cF n fs first) (xF n fs first) = xF n fs first))
def goodB (n : Nat) (fs : List Nat) (h : Nat) : Bool := decide (((whL (ldL fs) 8 [h]).getD []).length = n)
def chkW (n : Nat) (fs : List Nat) (h first : Nat) : Bool := ((List.range n).all fun k => decide (partN n (psF n h fs) ((ordL n h).idxOf k) = (chn fs (xF n fs first) (cF n fs first)).count k)) && decide (sumN n (partN n (psF n h fs)) = cF n fs first)
def chkH (n : Nat) (fs : List Nat) (h : Nat) : Bool := okN n (psF n h fs) && (((List.range n).all fun j => decide (partN n (psF n h fs) j ≤ 1000)) && (List.range n).all (chkW n fs h))
def aptB (ls : List (List Nat)) : Bool := ((List.range ls.length).all fun k => (rcL ls 9 0 [k]).isSome) && (List.range ls.length).any fun a => (List.range ls.length).any (disQ ls a)
def chk (n : Nat) (fs : List Nat) : Bool := ((List.range n).all fun h => (whL (ldL fs) 8 [h]).isSome) && (((List.range n).all fun h => !(goodB n fs h && (List.range h).all fun j => !goodB n fs j) || chkH n fs h) && (((List.range n).all (chkF n fs)) && ((List.range n).any (goodB n fs) || aptB (ldL fs))))
def allL (n : Nat) : Nat → List (List Nat)
  | 0 => [[]]
  | k + 1 => (allL n k).flatMap fun l => (List.range n).map fun x => x :: l
theorem mem_allL {n : Nat} : ∀ {l : List Nat}, (∀ x ∈ l, x < n) → l ∈ allL n l.length
  | [], _ => List.mem_singleton.mpr rfl
  | x :: r, h => by
    have ih := mem_allL (n := n) (l := r) fun y hy => h y (List.mem_cons_of_mem _ hy)
    show x :: r ∈ (allL n r.length).flatMap fun l => (List.range n).map fun x => x :: l
    exact List.mem_flatMap.mpr ⟨r, ih, List.mem_map.mpr ⟨x, List.mem_range.mpr (h x (List.mem_cons_self ..)), rfl⟩⟩
theorem chk1 : (allL 1 1).all (chk 1) = true := by decide +kernel
theorem chk2 : (allL 2 2).all (chk 2) = true := by decide +kernel
theorem chk3 : (allL 3 3).all (chk 3) = true := by decide +kernel
theorem chk4 : (allL 4 4).all (chk 4) = true := by decide +kernel
section
variable {n : Nat} {hs fs : List Nat}
theorem chk_sure (S : Sure n hs fs) : chk n fs = true := by
  have h := mem_allL (n := n) (l := fs) S.fn
  rw [S.lf] at h
  have h1 := S.n1
  have h4 := S.n4
  match n, h1, h4, h with
  | 1, _, _, h => exact List.all_eq_true.mp chk1 _ h
  | 2, _, _, h => exact List.all_eq_true.mp chk2 _ h
  | 3, _, _, h => exact List.all_eq_true.mp chk3 _ h
  | 4, _, _, h => exact List.all_eq_true.mp chk4 _ h
theorem cF_le (fs : List Nat) (first : Nat) : 1 ≤ cF n fs first ∧ cF n fs first ≤ 4 := by
  unfold cF cyF
  split
  · omega
  · split
    · omega
    · split <;> omega
structure Fst (n : Nat) (fs : List Nat) (first : Nat) : Prop where
  ret : itF fs (cF n fs first) (fs.getD (xF n fs first) 0) = fs.getD (xF n fs first) 0
  no : ∀ i, 0 < i → i < cF n fs first → itF fs i (fs.getD (xF n fs first) 0) ≠ fs.getD (xF n fs first) 0
  x : itF fs (cF n fs first) (xF n fs first) = xF n fs first
theorem fst_sure (S : Sure n hs fs) {first : Nat} (hf : first < n) : Fst n fs first := by
  have h := chk_sure S
  unfold chk at h
  rw [Bool.and_eq_true, Bool.and_eq_true, Bool.and_eq_true] at h
  have h1 := List.all_eq_true.mp h.2.2.1 first (List.mem_range.mpr hf)
  unfold chkF at h1
  rw [Bool.and_eq_true, Bool.and_eq_true, decide_eq_true_eq, decide_eq_true_eq] at h1
  refine ⟨h1.1, fun i h0 hi => ?_, h1.2.2⟩
  have := List.all_eq_true.mp h1.2.1 i (List.mem_range.mpr hi)
  rw [Bool.or_eq_true, decide_eq_true_eq, decide_eq_true_eq] at this
  rcases this with z | z
  · omega
  · exact z
theorem good_iff (S : Sure n hs fs) (h : Nat) : goodH (sureK hs fs) h ↔ goodB n fs h = true := by
  unfold goodH goodB
  rw [led_sure S, S.len, decide_eq_true_eq]
  exact Iff.rfl
structure Hm (n : Nat) (fs : List Nat) (h : Nat) : Prop where
  ok : okN n (psF n h fs) = true
  le : ∀ j, j < n → partN n (psF n h fs) j ≤ 1000
  w : ∀ first, first < n → (∀ k, k < n → partN n (psF n h fs) ((ordL n h).idxOf k) = (chn fs (xF n fs first) (cF n fs first)).count k) ∧ sumN n (partN n (psF n h fs)) = cF n fs first
theorem hm_sure (S : Sure n hs fs) {h : Nat} (hh : isHome (sureK hs fs) h) : h < n ∧ Hm n fs h := by
  obtain ⟨a1, a2, a3⟩ := hh
  rw [S.len] at a1
  have hc := chk_sure S
  unfold chk at hc
  rw [Bool.and_eq_true, Bool.and_eq_true, Bool.and_eq_true] at hc
  have h1 := List.all_eq_true.mp hc.2.1 h (List.mem_range.mpr a1)
  have g1 : (goodB n fs h && (List.range h).all fun j => !goodB n fs j) = true := by
    rw [Bool.and_eq_true, List.all_eq_true]
    refine ⟨(good_iff S h).mp a2, fun j hj => ?_⟩
    have := a3 j (List.mem_range.mp hj)
    cases e : goodB n fs j with
    | false => rfl
    | true => exact absurd ((good_iff S j).mpr e) this
  rw [g1] at h1
  have h2 : chkH n fs h = true := h1
  unfold chkH at h2
  rw [Bool.and_eq_true, Bool.and_eq_true] at h2
  refine ⟨a1, h2.1, fun j hj => of_decide_eq_true (List.all_eq_true.mp h2.2.1 j (List.mem_range.mpr hj)), fun first hf => ?_⟩
  have h3 := List.all_eq_true.mp h2.2.2 first (List.mem_range.mpr hf)
  unfold chkW at h3
  rw [Bool.and_eq_true, decide_eq_true_eq] at h3
  exact ⟨fun k hk => of_decide_eq_true (List.all_eq_true.mp h3.1 k (List.mem_range.mpr hk)), h3.2⟩
end

end Fp

set_option Elab.async false
set_option linter.all false
set_option maxRecDepth 100000
set_option maxHeartbeats 4000000
set_option exponentiation.threshold 10000
namespace Fp
open PySem PySem.Spec PyProof.Rows L2
/-! ### sure kinds: what shares need -/
theorem kw_one {m h f : Nat} (h1 : 1 ≤ h) (h3 : h ≤ 3) (hf : f < m) : KdW m (one1 h f) := by
  refine ⟨by show 1 ≤ 24; decide, 1, by decide, by decide, fun t ht => ?_⟩
  have e : t = (h, f, ((1 : Int), (1 : Int))) := List.mem_singleton.mp ht
  rw [e]
  exact ⟨⟨h1, by show h ≤ 6; omega⟩, hf, 1, by decide, by decide, by show ((1 : Int), (1 : Int)) = low2 1 1; decide⟩
def lrow (h : Nat) : List RT := List.replicate (h - 1) (0, 1) ++ [(1, 1)]
theorem lq_one {h f : Nat} (h1 : 1 ≤ h) (h3 : h ≤ 3) : LqR (one1 h f) = lrow h := by
  have e : LqR (one1 h f) = LqR (one1 h 0) := rfl
  rw [e]
  match h, h1, h3 with
  | 1, _, _ => decide +kernel
  | 2, _, _ => decide +kernel
  | 3, _, _ => decide +kernel
theorem lrow_mem {h : Nat} : ∀ x ∈ lrow h, x = (0, 1) ∨ x = (1, 1) := fun x hx => by
  rcases List.mem_append.mp hx with z | z
  · exact .inl (List.mem_replicate.mp z).2
  · exact .inr (List.mem_singleton.mp z)
theorem ml_one {h : Nat} (h1 : 1 ≤ h) (h3 : h ≤ 3) : ML (lrow h) (0, 1) 1 ∧ rowQ (lrow h) + behQ (lrow h) (0, 1) = 1 ∧ meanQ (lrow h) (0, 1) = ((h : Nat) : Rat) := by
  have sm1 : ∀ x ∈ lrow h, SmR 20 x := fun x hx => by
    rcases lrow_mem x hx with rfl | rfl
    · exact nought_sm (by decide)
    · exact ⟨⟨by decide, by decide⟩, by unfold Sm; decide, by unfold Sm; decide⟩
  refine ⟨⟨⟨sm1, ⟨nought_sm (by decide), by decide, by decide⟩, ?_, by decide, by decide⟩, ?_, fun z => ?_, ⟨by decide, by unfold Sm; decide, fun x hx => ?_⟩, fun x hx => ?_, by decide⟩, ?_⟩
  · unfold lrow
    rw [List.length_append, List.length_replicate]
    show h - 1 + 1 ≤ 14
    omega
  · unfold lrow
    rw [List.length_append, List.length_replicate]
    show h - 1 + 1 ≤ 13
    omega
  · rfl
  · rcases lrow_mem x hx with rfl | rfl
    · exact Int.dvd_refl _
    · exact Int.dvd_refl _
  · rcases lrow_mem x hx with rfl | rfl
    · decide +kernel
    · decide +kernel
  · match h, h1, h3 with
    | 1, _, _ => decide +kernel
    | 2, _, _ => decide +kernel
    | 3, _, _ => decide +kernel
theorem sz_fr {c m : Nat} (hc : 0 < c) (hm : m ≤ 1000) : Sz (c : Int) 400 (((m : Nat) : Rat) / ((c : Nat) : Rat)) := by
  have e1 : ((m : Nat) : Rat) = (((m : Nat) : Int) : Rat) := rfl
  have e2 : ((c : Nat) : Rat) = (((c : Nat) : Int) : Rat) := rfl
  have h := sz_nat hm
  have hc1 : ((1 : Int) : Rat) ≤ (((c : Nat) : Int) : Rat) := Rat.intCast_le_intCast.mpr (by omega)
  have hm0 : ((0 : Int) : Rat) ≤ (((m : Nat) : Int) : Rat) := Rat.intCast_le_intCast.mpr (by omega)
  have hi : (0 : Rat) < (((c : Nat) : Int) : Rat) := Rat.intCast_pos.mpr (by omega)
  have hv : (0 : Rat) ≤ ((((c : Nat) : Int) : Rat))⁻¹ := Rat.le_of_lt (Rat.inv_pos.mpr hi)
  have hn := Rat.ne_of_gt hi
  have hv1 : ((((c : Nat) : Int) : Rat))⁻¹ ≤ 1 := by
    have a : ((((c : Nat) : Int) : Rat))⁻¹ * (((c : Nat) : Int) : Rat) = 1 := Rat.inv_mul_cancel _ hn
    have b := Rat.mul_le_mul_of_nonneg_left hc1 hv
    rw [a] at b
    have : ((((c : Nat) : Int) : Rat))⁻¹ * ((1 : Int) : Rat) = ((((c : Nat) : Int) : Rat))⁻¹ := Rat.mul_one _
    rw [this] at b
    exact b
  have q0 : (0 : Rat) ≤ (((m : Nat) : Int) : Rat) * ((((c : Nat) : Int) : Rat))⁻¹ := Rat.mul_nonneg hm0 hv
  have q1 : (((m : Nat) : Int) : Rat) * ((((c : Nat) : Int) : Rat))⁻¹ ≤ (((m : Nat) : Int) : Rat) * 1 := Rat.mul_le_mul_of_nonneg_left hv1 hm0
  rw [e1] at h
  rw [e1, e2, Rat.div_def]
  refine ⟨⟨(m : Int), by rw [Rat.div_def]⟩, ?_, ?_⟩
  · have := two_pos 400
    grind
  · have := h.hi
    rw [Rat.mul_one] at q1
    exact Rat.le_trans q1 this
section
variable {n first : Nat} {hs fs : List Nat}
theorem kd_sure (S : Sure n hs fs) : ∀ ts ∈ sureK hs fs, KdW (sureK hs fs).length ts := fun ts hts => by
  rw [S.len]
  obtain ⟨i, hi, rfl⟩ := List.mem_iff_getElem.mp hts
  have hi2 : i < n := by rw [S.len] at hi; exact hi
  have e : (sureK hs fs)[i] = one1 (hs.getD i 0) (fs.getD i 0) := by
    have := S.at_ hi2
    rw [List.getElem?_eq_getElem hi] at this
    exact Option.some.inj this
  rw [e]
  exact kw_one (S.hb hi2).1 (S.hb hi2).2 (S.fb hi2)
theorem wt_sure (S : Sure n hs fs) {h : Nat} (hh : isHome (sureK hs fs) h) : WtOk n h (cQ (sureK hs fs)) := by
  obtain ⟨h0, H⟩ := hm_sure S hh
  obtain ⟨p1, p2⟩ := part_is n (psF n h fs) _ (fl_sure S h0) H.ok
  have n1 := S.n1
  refine ⟨S.n4, h0, p1, ⟨1, by decide, by unfold Sm; decide, fun j hj => by rw [p2 j hj]; exact sz_nat (H.le j hj)⟩, ?_⟩
  unfold totF
  rw [sumTo_congr p2, ← sumN_cast, (H.w 0 (by omega)).2]
  have := (cF_le (n := n) fs 0).1
  exact Rat.natCast_pos.mpr (by omega)
theorem wt_val (S : Sure n hs fs) {h : Nat} (hh : isHome (sureK hs fs) h) (hf : first < n) {k : Nat} (hk : k < n) : wtQ n h (cQ (sureK hs fs)) k = (((chn fs (xF n fs first) (cF n fs first)).count k : Nat) : Rat) / ((cF n fs first : Nat) : Rat) := by
  obtain ⟨h0, H⟩ := hm_sure S hh
  obtain ⟨p1, p2⟩ := part_is n (psF n h fs) _ (fl_sure S h0) H.ok
  have il := (ord_ok S.n4 h0).lt k hk
  obtain ⟨w1, w2⟩ := H.w first hf
  unfold wtQ totF
  rw [sumTo_congr p2, ← sumN_cast, w2, p2 _ il, w1 k hk]
theorem sh_sure (S : Sure n hs fs) : ShOk (sureK hs fs) := by
  have hc := chk_sure S
  unfold chk at hc
  rw [Bool.and_eq_true, Bool.and_eq_true, Bool.and_eq_true] at hc
  have hl := S.len
  have n4 := S.n4
  refine ⟨fun h hh => ?_, fun h hh => ?_, fun hno => ?_, ?_⟩
  · rw [hl] at hh
    rw [led_sure S]
    exact List.all_eq_true.mp hc.1 h (List.mem_range.mpr hh)
  · rw [hl]
    exact wt_sure S hh
  · rw [hl] at hno
    have h2 := hc.2.2.2
    rw [Bool.or_eq_true] at h2
    rcases h2 with z | z
    · obtain ⟨h, h1, h2⟩ := List.any_eq_true.mp z
      exact absurd ((good_iff S h).mpr h2) (hno h (List.mem_range.mp h1))
    · rw [led_sure S]
      unfold aptB at z
      rw [Bool.and_eq_true] at z
      exact ⟨fun k hk => List.all_eq_true.mp z.1 k (List.mem_range.mpr hk), z.2⟩
  · rw [led_sure S]
    refine ⟨by rw [List.length_map, S.lf]; omega, fun l hl => ?_⟩
    obtain ⟨f, _, rfl⟩ := List.mem_map.mp hl
    show 1 ≤ 8
    decide
theorem mk_sure (S : Sure n hs fs) {k : Nat} (hk : k < n) : mkQ (sureK hs fs) k = ((hs.getD k 0 : Nat) : Rat) := by
  obtain ⟨h1, h3⟩ := S.hb hk
  unfold mkQ
  rw [S.at_ hk]
  show meanQ (LqR (one1 (hs.getD k 0) (fs.getD k 0))) (0, 1) = _
  rw [lq_one h1 h3]
  exact (ml_one h1 h3).2.2
theorem chn_len (fs : List Nat) : ∀ c x, (chn fs x c).length = c
  | 0, _ => rfl
  | c + 1, x => congrArg Nat.succ (chn_len fs c _)
theorem chn_lt (S : Sure n hs fs) : ∀ (c x : Nat), x < n → ∀ y ∈ chn fs x c, y < n
  | 0, x, hx, y, h => by cases h
  | c + 1, x, hx, y, h => by
    rcases List.mem_cons.mp h with z | z
    · rw [z]
      exact hx
    · exact chn_lt S c _ (S.fb hx) y z
/-- the kinds of a round, its beats -/
def ndL (n : Nat) (fs : List Nat) (first : Nat) : List Nat := chn fs (xF n fs first) (cF n fs first)
theorem sp_val (S : Sure n hs fs) {h : Nat} (hh : isHome (sureK hs fs) h) (hf : first < n) {k : Nat} (hk : k < n) : spQ (sureK hs fs) h k = ((((ndL n fs first).count k * hs.getD k 0 : Nat)) : Rat) / ((cF n fs first : Nat) : Rat) := by
  unfold spQ
  rw [S.len, wt_val S hh hf hk, mk_sure S hk, Rat.natCast_mul]
  unfold ndL
  rw [Rat.div_def, Rat.div_def]
  grind
theorem sp_sum (S : Sure n hs fs) {h : Nat} (hh : isHome (sureK hs fs) h) (hf : first < n) : sumTo n (spQ (sureK hs fs) h) = ((sumH hs (ndL n fs first) : Nat) : Rat) / ((cF n fs first : Nat) : Rat) := by
  rw [sumTo_congr (g := fun k => (((cF n fs first : Nat) : Rat))⁻¹ * ((((ndL n fs first).count k * hs.getD k 0 : Nat)) : Rat)) fun k hk => by rw [sp_val S hh hf hk, Rat.div_def, Rat.mul_comm], ← sumTo_mul, sumH_count hs n (ndL n fs first) (chn_lt S _ _ (it_lt S hf (n - 1))), Rat.div_def, Rat.mul_comm]
theorem L_pos (S : Sure n hs fs) (hf : first < n) : 1 ≤ sumH hs (ndL n fs first) ∧ sumH hs (ndL n fs first) ≤ 12 := by
  have hx := it_lt S hf (n - 1)
  obtain ⟨c1, c4⟩ := cF_le (n := n) fs first
  have h1 := sumH_le S (cF n fs first) _ hx
  refine ⟨?_, by unfold ndL xF; omega⟩
  unfold ndL xF
  obtain ⟨d, hd⟩ : ∃ d, cF n fs first = d + 1 := ⟨cF n fs first - 1, by omega⟩
  rw [hd]
  have := (S.hb hx).1
  show 1 ≤ hs.getD (itF fs (n - 1) first) 0 + _
  omega
theorem spok_sure (S : Sure n hs fs) {h : Nat} (hh : isHome (sureK hs fs) h) : SpOk (sureK hs fs) h := by
  have n1 := S.n1
  have hl := S.len
  obtain ⟨c1, c4⟩ := cF_le (n := n) fs 0
  have hcnt : ∀ k, (ndL n fs 0).count k ≤ 4 := fun k => by
    have := List.count_le_length (a := k) (l := ndL n fs 0)
    unfold ndL at *
    rw [chn_len] at this
    omega
  refine ⟨⟨(cF n fs 0 : Int), by omega, by unfold Sm; omega, fun k hk => ?_, fun k hk => ?_⟩, fun ts hts => ?_, fun k hk => ?_, ?_⟩
  · rw [hl] at hk ⊢
    rw [wt_val S hh (show 0 < n by omega) hk]
    exact sz_fr (by omega) (by have := hcnt k; unfold ndL at this; omega)
  · rw [hl] at hk
    rw [sp_val S hh (show 0 < n by omega) hk]
    have := hcnt k
    have h3 := (S.hb hk).2
    exact sz_fr (by omega) (Nat.le_trans (Nat.mul_le_mul this h3) (by decide))
  · obtain ⟨i, hi, rfl⟩ := List.mem_iff_getElem.mp hts
    have hi2 : i < n := by rw [hl] at hi; exact hi
    have e : (sureK hs fs)[i] = one1 (hs.getD i 0) (fs.getD i 0) := by
      have := S.at_ hi2
      rw [List.getElem?_eq_getElem hi] at this
      exact Option.some.inj this
    obtain ⟨h1, h3⟩ := S.hb hi2
    rw [e, lq_one h1 h3]
    exact ⟨1, (ml_one h1 h3).1, (ml_one h1 h3).2.1⟩
  · rw [hl] at hk
    rw [mk_sure S hk]
    obtain ⟨h1, h3⟩ := S.hb hk
    exact (sz_nat (m := hs.getD k 0) (by omega)).smr (s := 1) (by decide) (by unfold Sm; decide) (by decide)
  · rw [hl, sp_sum S hh (show 0 < n by omega), Rat.div_def]
    have l1 := (L_pos S (show 0 < n by omega)).1
    exact Rat.mul_pos (Rat.natCast_pos.mpr (by omega)) (Rat.inv_pos.mpr (Rat.natCast_pos.mpr (by omega)))
theorem rd_sure (S : Sure n hs fs) (hf : first < n) : rdR hs fs n first = some (sumH hs (ndL n fs first)) := by
  have F := fst_sure S hf
  obtain ⟨c1, c4⟩ := cF_le (n := n) fs first
  have n1 := S.n1
  have e : itF fs n first = fs.getD (xF n fs first) 0 := by
    obtain ⟨m, rfl⟩ : ∃ m, n = m + 1 := ⟨n - 1, by omega⟩
    rfl
  unfold rdR
  rw [e]
  exact rd_is c1 c4 F.no F.ret F.x
/-- how often each kind stands in a round, and what is its share -/
theorem found_sure (S : Sure n hs fs) (hf : first < n) {j : Nat} (hj : j < n) : sumTo (sumH hs (ndL n fs first)) (fun i => stKQ (sureK hs fs) first (9 + i) j) = ((((ndL n fs first).count j * hs.getD j 0 : Nat)) : Rat) := by
  have F := fst_sure S hf
  rw [sumTo_congr (g := fun i => if isK hs fs first j (9 + i) = true then (1 : Rat) else 0) fun i _ => ?_, cnt_sum (fun i => isK hs fs first j (9 + i))]
  · have := cnt_nine (j := j) S hf F.x
    unfold ndL at *
    rw [show xF n fs first = itF fs (n - 1) first from rfl] at *
    rw [this, sumJ_count]
  · rw [st_sure S hf _ hj]
    unfold isK
    by_cases c : (cur hs fs first (9 + i)).1 = j
    · rw [if_pos c, if_pos (decide_eq_true c)]
    · rw [if_neg c, if_neg (by rw [decide_eq_false c]; decide)]
theorem share_sure (S : Sure n hs fs) (hf : first < n) {h : Nat} (hh : isHome (sureK hs fs) h) {j : Nat} (hj : j < n) : sumTo (sumH hs (ndL n fs first)) (fun i => stKQ (sureK hs fs) first (9 + i) j) * (1 / ((sumH hs (ndL n fs first) : Nat) : Rat)) = spQ (sureK hs fs) h j / sumTo (sureK hs fs).length (spQ (sureK hs fs) h) := by
  rw [found_sure S hf hj, S.len, sp_val S hh hf hj, sp_sum S hh hf]
  obtain ⟨c1, _⟩ := cF_le (n := n) fs first
  have l1 := (L_pos S hf).1
  have hc : ((cF n fs first : Nat) : Rat) ≠ 0 := Rat.ne_of_gt (Rat.natCast_pos.mpr (by omega))
  have hL : ((sumH hs (ndL n fs first) : Nat) : Rat) ≠ 0 := Rat.ne_of_gt (Rat.natCast_pos.mpr (by omega))
  grind
end

end Fp

set_option Elab.async false
set_option linter.all false
set_option maxRecDepth 100000
set_option maxHeartbeats 4000000
set_option exponentiation.threshold 10000
namespace Fp
open PySem PySem.Spec PyProof.Rows L2
/-! ### what the law asks of sure kinds -/
abbrev s_rgt : Stmt := topS 49
abbrev N_rgt : List Str := ["_law_kinds", "_law_first", "_law_due", "_law_beats", "_law_rows", "_law_row", "_law_found", "_law_beat", "_law_kind"]
theorem sc_rgt : FnScope N_rgt ["_law_kinds", "_law_first", "_law_due"] (defScope s_rgt) := ⟨rfl, rfl, rfl, by decide +kernel, rfl, by decide +kernel, by decide +kernel⟩
def scp0_rgt (b : List Stmt) (d : Scope) : Scope := match b with
  | (_ :: _ :: _ :: (.Assign _ (.ListComp _ _ sc _) _) :: _) => sc
  | _ => d
theorem rowD_shapedL (xs : List RT) : SeqAt.shaped (.list (rowD xs)) = true := by
  unfold SeqAt.shaped
  have h1 : PyData.canLay0 (.list (rowD xs)) = true := rowD_lay xs
  have h2 : (PyData.list (rowD xs)).depth ≤ 64 := by
    show PyData.depthAll (rowD xs) + 1 ≤ 64
    have := rowD_depth xs
    omega
  rw [h1, decide_eq_true h2]
  rfl
theorem eqv_rowL (xs : List RT) : PyData.eqv (.list (rowD xs)) (.list (rowD xs)) = true := SeqAt.eqv_refl _ (rowD_lay xs)
theorem neL_go {K : PySem.W.Frag} {H : Hp} {p r : Addr} {xs : List RT} {Q : VK} (h1 : LsM K H p xs) (h2 : LsM K H r xs) (h : Q (.bl false) H) : rNeD K (.ref p) (.ref r) H Q := by
  refine ⟨_, _, h1.dp, h2.dp, rowD_shapedL xs, rowD_shapedL xs, ?_⟩
  rw [eqv_rowL]
  exact h
theorem two_sorted : ∀ zl : List (List Int), (∀ y ∈ zl, y = [0, 1] ∨ y = [1, 1]) → zl.Pairwise (fun x y => ltW y x = false) → zl = List.replicate (zl.count [0, 1]) [0, 1] ++ List.replicate (zl.count [1, 1]) [1, 1]
  | [], _, _ => rfl
  | y :: r, h, hp => by
    obtain ⟨h1, h2⟩ := List.pairwise_cons.mp hp
    have ih := two_sorted r (fun z hz => h z (List.mem_cons_of_mem _ hz)) h2
    rcases h y (List.mem_cons_self ..) with e | e
    · rw [e, List.count_cons, List.count_cons, if_pos (by decide), if_neg (by decide), List.replicate_succ, List.cons_append]
      exact congrArg (List.cons [0, 1]) ih
    · have hno : r.count [0, 1] = 0 := List.count_eq_zero.mpr fun hm => by
        have := h1 _ hm
        rw [e] at this
        exact absurd this (by decide)
      rw [hno] at ih
      rw [e, List.count_cons, List.count_cons, if_neg (by decide), if_pos (by decide), hno]
      show _ = List.replicate (r.count [1, 1] + 1) [1, 1]
      rw [List.replicate_succ, ← List.nil_append (List.replicate (r.count [1, 1]) [1, 1])]
      exact congrArg (List.cons [1, 1]) ih
def wlF (n k : Nat) : List (List Int) := (List.range n).map fun j => if k = j then [1, 1] else [0, 1]
theorem wl_all : ((List.range 5).all fun n => (List.range n).all fun k => decide ((wlF n k).count [0, 1] = n - 1) && decide ((wlF n k).count [1, 1] = 1)) = true := by decide +kernel
def srt (n : Nat) : List RT := List.replicate (n - 1) (0, 1) ++ [(1, 1)]
def prI2 (x : RT) : List Int := [x.1, x.2]
theorem sorted_is {n k : Nat} (h4 : n ≤ 4) (hk : k < n) {zl : List (List Int)} (hm : zl.Perm (wlF n k)) (hp : zl.Pairwise fun x y => ltW y x = false) : zl = (srt n).map prI2 := by
  have h := List.all_eq_true.mp wl_all n (List.mem_range.mpr (by omega))
  have h := List.all_eq_true.mp h k (List.mem_range.mpr hk)
  rw [Bool.and_eq_true, decide_eq_true_eq, decide_eq_true_eq] at h
  have hz := two_sorted zl (fun y hy => by
    obtain ⟨j, _, e⟩ := List.mem_map.mp (hm.mem_iff.mp hy)
    by_cases c : k = j
    · rw [if_pos c] at e
      exact .inr e.symm
    · rw [if_neg c] at e
      exact .inl e.symm) hp
  rw [hm.count_eq, hm.count_eq, h.1, h.2] at hz
  rw [hz]
  unfold srt
  rw [List.map_append, List.map_replicate]
  rfl
theorem rs_of {K : PySem.W.Frag} {H : Hp} : ∀ {qs : List Addr} {xs : List RT}, qs.length = xs.length → (∀ (i : Nat) (r : Addr) (x : RT), qs[i]? = some r → xs[i]? = some x → RAt K H r x) → RsAt K H qs xs
  | [], [], _, _ => .nil
  | [], _ :: _, h, _ => by cases h
  | _ :: _, [], h, _ => by cases h
  | r :: qs, x :: xs, h, g => .cons (g 0 r x rfl rfl) (rs_of (Nat.succ.inj h) fun i q y a b => g (i + 1) q y a b)
theorem found_le {n first : Nat} {hs fs : List Nat} (S : Sure n hs fs) (hf : first < n) {j : Nat} (hj : j < n) : ∃ m : Nat, m ≤ 12 ∧ sumTo (sumH hs (ndL n fs first)) (fun i => stKQ (sureK hs fs) first (9 + i) j) = ((m : Nat) : Rat) := by
  refine ⟨_, ?_, found_sure S hf hj⟩
  have h1 := List.count_le_length (a := j) (l := ndL n fs first)
  have h2 := (cF_le (n := n) fs first).2
  unfold ndL at h1 ⊢
  rw [chn_len] at h1
  exact Nat.mul_le_mul (Nat.le_trans h1 h2) (S.hb hj).2
def shV (ks : List (List Tri)) (h k : Nat) : Rat := spQ ks h k / sumTo ks.length (spQ ks h)
section
variable {P : Program} {w : World} {K : PySem.W.Frag} {mg : Str → Option Value} {base : Heap} {aN aO : Addr}
def DueV (K : PySem.W.Frag) (H : Hp) (ks : List (List Tri)) (v : V) : Prop := v = .non ∨ ∃ h z, v = .ref z ∧ isHome ks h ∧ RowAt K H z (mkL ks.length (shV ks h))
def spRgt (K : PySem.W.Frag) : Sp := fun vs H Q _ => ∃ (p : Addr) (n first : Nat) (hs fs : List Nat) (v : V), vs = [.ref p, .int (first : Int), v] ∧ KdsA K H p (sureK hs fs) ∧ Sure n hs fs ∧ first < n ∧ DueV K H (sureK hs fs) v ∧ ∀ H', Same H H' → Q (.bl true) H'
theorem ok_rgt {f fLRN fKS fLT fLAL : Addr} {fd fdLRN fdKS fdLT fdLAL : FuncData} (F : Fun K "_law_right" "_law_right" s_rgt f fd)
    (FLRN : Fun K "_law_round" "_law_round" s_lrn fLRN fdLRN) (bLRN : Binds K fdLRN ["_law_kinds", "_law_first"] []) (gLRN : mg "_law_round" = some (.ref fLRN)) (GLRN : FnOk P w K mg base CX0 1 fLRN fdLRN ["_law_kinds", "_law_first"] (spLrn K))
    (FKS : Fun K "kind_stands" "kind_stands" s_ks fKS fdKS) (bKS : Binds K fdKS ["kinds", "first", "beat"] []) (gKS : mg "kind_stands" = some (.ref fKS)) (GKS : FnOk P w K mg base CX0 6 fKS fdKS ["kinds", "first", "beat"] (spKs K))
    (FLT : Fun K "_law_by" "_law_by" s_lby fLT fdLT) (bLT : Binds K fdLT ["_law_one", "_law_other"] []) (gLT : mg "_law_by" = some (.ref fLT)) (GLT : FnOk P w K mg base CX0 2 fLT fdLT ["_law_one", "_law_other"] (spTwo K (fun a b c d => a * c)))
    (FLAL : Fun K "_law_all" "_law_all" s_lall fLAL fdLAL) (bLAL : Binds K fdLAL ["_law_numbers"] []) (gLAL : mg "_law_all" = some (.ref fLAL)) (GLAL : FnOk P w K mg base CX0 3 fLAL fdLAL ["_law_numbers"] (spLall K))
    (n_len : mg "len" = none) (n_range : mg "range" = none) (n_repr : mg "repr" = none) (n_sorted : mg "sorted" = none) (n_tuple : mg "tuple" = none) : FnG P w K mg base CX0 11 f fd ["_law_kinds", "_law_first", "_law_due"] (spRgt K) := by
  refine okG F sc_rgt (fun vs H Q E h => ?_) (fun cdv A outer s H vs Q E hq hr h => ?_)
  · obtain ⟨_, _, _, _, _, _, rfl, _⟩ := h
    rfl
  · obtain ⟨p, n, first, hs, fs, v, rfl, hk, S, hf, hv, q⟩ := h
    refine ⟨_, (pss_cons (ps_set (i := 3) sc_rgt.nd rfl (.inr rfl) (pe_call GLRN (hr.mono (by decide)) (by rfl) gLRN FLRN.kp bLRN .nil pass0 (pa_cons (pv 0) (pa_cons (pv 1) pa_nil))))
      (pss_cons (ps_set (i := 4) sc_rgt.nd rfl (.inr rfl) (pe_lc (own := [("_law_beat", 7)]) (g := (gName 7)) (tt := tYes) (te := (tCall (spKs K) [] E0 (tCons (tVar 0) (tCons (tVar 1) (tCons (tVar 7) tNil))))) rfl sc_rgt.nd (pi_range2 (by rfl) n_range (pa_cons pe_int (pa_cons (pe_op op_add pe_int (pv 3)) pa_nil))) (blkOk_by (own := [("_law_beat", 7)]) (N := N_rgt) (sc := (defScope s_rgt)) (by decide +kernel)) (fun _ _ _ _ _ => (pg_name (i := 7) sc_rgt.nd rfl (.inl rfl))) (fun _ _ _ _ _ => pts_nil) (fun _ _ _ _ _ => (pe_call GKS (hr.mono (by decide)) (by rfl) gKS FKS.kp bKS .nil pass0 (pa_cons (pv 0) (pa_cons (pv 1) (pa_cons (pv 7) pa_nil)))))))
      (pss_cons (ps_for PassesOwn.never rfl (pi_list (pv 4)) (pg_name (i := 5) sc_rgt.nd rfl (.inl rfl)) (pss_one (ps_if (pt_cmpR (op_neD hr.units) (pe_callB (cr_sortedY hr.units) (by rfl) n_sorted (by decide +kernel) (pa_cons (pv 5) pa_nil)) (pe_op op_cat (pe_op op_rep (pe_lst (pa_cons (pe_tup (pa_cons pe_int (pa_cons pe_int pa_nil))) pa_nil)) (pe_op op_sub (pe_callB call_len_seq (by rfl) n_len PySem.boot_len (pa_cons (pv 0) pa_nil)) pe_int)) (pe_lst (pa_cons (pe_tup (pa_cons pe_int (pa_cons pe_int pa_nil))) pa_nil))) (nomark _)) (pss_one (ps_ret pe_bl)) pss_nil)))
      (pss_cons (ps_setLc (i := 6) (own := [("_law_kind", 8)]) (g := (gName 8)) (tt := tYes) (te := (tCall (spTwo K (fun a b c d => a * c)) [] E0 (tCons (tCall (spLall K) [] E0 (tCons (tLc (iList K (tVar 4)) (gName 5) tYes (tOp (rIxT K) (tVar 5) (tVar 8)) [5]) tNil)) (tCons (tTup (tCons (tC (.int 1)) (tCons (tVar 3) tNil))) tNil)))) rfl sc_rgt.nd rfl rfl (sw_true rfl rfl rfl (by decide +kernel)) (pi_range1 (by rfl) n_range (pa_cons (pe_callB call_len_seq (by rfl) n_len PySem.boot_len (pa_cons (pv 0) pa_nil)) pa_nil)) (blkOk_by (own := [("_law_kind", 8)]) (N := N_rgt) (sc := (defScope s_rgt)) (by decide +kernel)) (fun _ _ _ _ _ => (pg_name (i := 8) sc_rgt.nd rfl (.inr rfl))) (fun _ _ _ _ _ => pts_nil) (fun _ _ _ _ _ => (pe_call GLT (hr.mono (by decide)) (by rfl) gLT FLT.kp bLT .nil pass0 (pa_cons (pe_call GLAL (hr.mono (by decide)) (by rfl) gLAL FLAL.kp bLAL .nil pass0 (pa_cons (pe_lc (own := [("_law_row", 5)]) (g := (gName 5)) (tt := tYes) (te := (tOp (rIxT K) (tVar 5) (tVar 8))) rfl sc_rgt.nd (pi_list (pv 4)) (blkOk_by (own := [("_law_row", 5)]) (N := N_rgt) (sc := (relS (scp0_rgt (defBody s_rgt) (defScope s_rgt)) (defScope s_rgt))) (by decide +kernel)) (fun _ _ _ _ _ => (pg_name (i := 5) sc_rgt.nd rfl (.inl rfl))) (fun _ _ _ _ _ => pts_nil) (fun _ _ _ _ _ => (pe_ix ix_tup (pv 5) (pv 8) (fun _ _ => rfl)))) pa_nil)) (pa_cons (pe_tup (pa_cons pe_int (pa_cons (pv 3) pa_nil))) pa_nil)))))
      (pss_one (ps_ret (pe_or (pe_cmpR op_isN (pv 2) pe_non (nomark _)) (pe_one (pe_cmpR op_eq (pe_callB (call_reprD hq hr) (by rfl) n_repr (by decide +kernel) (pa_cons (pe_callTy call_tuple_of (by rfl) n_tuple (by decide +kernel) (pa_cons (pv 6) pa_nil)) pa_nil)) (pe_callB (call_reprD hq hr) (by rfl) n_repr (by decide +kernel) (pa_cons (pv 2) pa_nil)) (nomark _)))))))))), ?_⟩
    have hz : sizeLine = 16777216 := sizeLine_eq
    obtain ⟨rs, hp1, hp2⟩ := id hk
    have hrl := hp2.1
    have hl := S.len
    have n1 := S.n1
    have n4 := S.n4
    obtain ⟨l1, l12⟩ := L_pos S hf
    have hrd := rd_sure S hf
    have hsh := fun h hh j hj => share_sure S hf (h := h) hh (j := j) hj
    have hst := fun b j hj => st_sure S hf b (j := j) hj
    have hcu := fun b => (cur_lt S hf b).1
    have hle := fun j hj => found_le S hf (j := j) hj
    generalize sumH hs (ndL n fs first) = L at *
    refine asg_go ?_
    refine ⟨_, rfl, _, rfl, ?_⟩
    refine tnil_go ?_
    refine ⟨p, n, first, L, hs, fs, rfl, hk, S, hf, hrd, ?_⟩
    refine gn_go ?_
    refine asg_go ?_
    refine ⟨_, rfl, _, _, rfl, rfl, ?_⟩
    refine tnil_go ?_
    refine ⟨9, 9 + (L : Int), rfl, ⟨by decide, by decide, by omega, by omega⟩, ?_⟩
    have eL : ((9 : Int) + (L : Int) - 9).toNat = L := by omega
    rw [eL]
    refine lc_ols (At := fun H p xs => RowAt K H p xs) rowA_stays (walk_range (lo := 9) (n := L)) (fun i => mkL (sureK hs fs).length (stKQ (sureK hs fs) first (9 + i))) (by omega) (fun _ _ => trivial) (fun i x HE HE' R hi sE hY qr => ?_) (fun D H1 s1 hD => ?_)
    · obtain ⟨rfl, rfl⟩ := hY
      obtain ⟨P0, M⟩ := kinds_okW (ks := sureK hs fs) ⟨by rw [hl]; exact n4, kd_sure S⟩
      refine ⟨rfl, ?_⟩
      refine ⟨_, rfl, _, rfl, _, rfl, ?_⟩
      refine tnil_go ?_
      refine ⟨p, sureK hs fs, first, 9 + i, P0, ?_, kds_tk hk sE, M, ⟨by rw [hl]; exact n4, kd_sure S⟩, by omega, fun z H' s' hz => qr z H' s' hz⟩
      show [V.ref p, V.int (first : Int), V.int (9 + (i : Int))] = [V.ref p, V.int (first : Int), V.int ((9 + i : Nat) : Int)]
      rfl
    obtain ⟨ds, d1, d2⟩ := hD
    have hdl := d2.1
    rw [List.length_map, List.length_range] at hdl
    have hrow : ∀ i, i < L → ∃ r, ds[i]? = some r ∧ RowAt K H1 r (mkL n (stKQ (sureK hs fs) first (9 + i))) := fun i hi => by
      obtain ⟨r, e1, e2⟩ := d2.get (i := i) (y := mkL (sureK hs fs).length (stKQ (sureK hs fs) first (9 + i))) (by rw [List.getElem?_map, List.getElem?_range hi]; rfl)
      rw [hl] at e2
      exact ⟨r, e1, e2⟩
    refine gn_go ?_
    refine ⟨_, rfl, D, rfl, ⟨_, SqL.of d1⟩, ?_⟩
    refine for_list (K := K) (a := D) (xs := ds.map V.ref) (fun i σ HB => ∃ (z5 z6 z7 z8 : Option V), σ = [some (.ref p), some (.int (first : Int)), some v, some (.int (L : Int)), some (.ref D), z5, z6, z7, z8] ∧ Same H1 HB) ⟨none, none, none, none, rfl, Same.refl _⟩ ?_ ?_ ?_
    · rintro i σ HB _ ⟨_, _, _, _, rfl, sB⟩
      exact SqL.of (sB _ _ d1)
    · rintro i y σ HB hy ⟨z5, z6, z7, z8, rfl, sB⟩
      have hi : i < L := by
        have := (List.getElem?_eq_some_iff.mp hy).1
        rw [List.length_map, hdl] at this
        exact this
      obtain ⟨r, er, hr⟩ := hrow i hi
      rw [List.getElem?_map, er] at hy
      cases Option.some.inj hy
      have hk9 := hcu (9 + i)
      have hq : ∀ j, j < n → rdq (stKQ (sureK hs fs) first (9 + i) j) = if (cur hs fs first (9 + i)).1 = j then (1, 1) else (0, 1) := fun j hj => by
        rw [hst (9 + i) j hj]
        split
        · decide +kernel
        · decide +kernel
      generalize (cur hs fs first (9 + i)).1 = k at *
      obtain ⟨as, a1, a2⟩ := RowAt.tk hr (Tk.same (K := K) sB)
      have hal := a2.length
      rw [mkL_len] at hal
      have hwl : (wlF n k).length = n := by
        unfold wlF
        rw [List.length_map, List.length_range]
      refine gn_go ?_
      refine ⟨_, rfl, ?_⟩
      refine tnil_go ?_
      refine ⟨r, as, wlF n k, rfl, a1, by rw [hal, hwl], fun j a y h1 h2 => ?_, fun qs zl Z hm hpw hql hqa nZ => ?_⟩
      · have hj : j < n := by
          have := (List.getElem?_eq_some_iff.mp h2).1
          omega
        obtain ⟨a', e1, e2⟩ := a2.get (mkL_at hj)
        rw [h1] at e1
        cases Option.some.inj e1
        unfold wlF at h2
        rw [List.getElem?_map, List.getElem?_range hj] at h2
        have h2 : (if k = j then ([1, 1] : List Int) else [0, 1]) = y := Option.some.inj h2
        rw [hq j hj] at e2
        by_cases c : k = j
        · rw [if_pos c] at e2 h2
          rw [← h2]
          exact e2
        · rw [if_neg c] at e2 h2
          rw [← h2]
          exact e2
      have ez := sorted_is n4 hk9 hm hpw
      have eZ := same_new (o := HO.lst (qs.map V.ref)) nZ
      have hZ : LsM K (upd HB Z (.lst (qs.map V.ref))) Z (srt n) := by
        refine ⟨qs, upd_same, rs_of ?_ fun i q x h1 h2 => ?_⟩
        · rw [hql, ez, List.length_map]
        · have := hqa i q (prI2 x) h1 (by rw [ez, List.getElem?_map, h2]; rfl)
          exact RAt.tk this (Tk.same eZ)
      have S1 := sB.trans eZ
      generalize upd HB Z (.lst (qs.map V.ref)) = H3 at *
      refine ⟨by show 2 ≤ sizeLine; decide, fun b1 nb1 => ?_⟩
      have e4 := same_new (o := HO.tup [.int 0, .int 1]) nb1
      refine tnil_go ?_
      refine ⟨by show 1 ≤ sizeLine; decide, fun b2 nb2 => ?_⟩
      have e5 := same_new (o := HO.lst [.ref b1]) nb2
      have S5 := S1.trans (e4.trans e5)
      refine ⟨_, rfl, ?_⟩
      refine tnil_go ?_
      refine ⟨p, _, rfl, .inr (sqT_same (s1.trans S5) hp1), ?_⟩
      refine ⟨_, _, rfl, rfl, ?_⟩
      have en : (((rs.map V.ref).length : Nat) : Int) - 1 = ((n - 1 : Nat) : Int) := by
        rw [List.length_map, hrl, hl]
        omega
      show rRep (V.ref b2) (V.int ((((rs.map V.ref).length : Nat) : Int) - 1)) _ _
      rw [en]
      have h1' : RAt K (upd (upd H3 b1 (.tup [.int 0, .int 1])) b2 (.lst [.ref b1])) b1 (0, 1) := SqT.of (e5 _ _ upd_same)
      refine rep_ls upd_same h1' (by omega) fun x5 H5 s5 hx5 => ?_
      refine ⟨by show 2 ≤ sizeLine; decide, fun b6 nb6 => ?_⟩
      have e6 := same_new (o := HO.tup [.int 1, .int 1]) nb6
      refine tnil_go ?_
      refine ⟨by show 1 ≤ sizeLine; decide, fun b7 nb7 => ?_⟩
      have e7 := same_new (o := HO.lst [.ref b6]) nb7
      have h7 : LsM K (upd (upd H5 b6 (.tup [.int 1, .int 1])) b7 (.lst [.ref b6])) b7 [(1, 1)] := ⟨[b6], upd_same, .cons (SqT.of (e7 _ _ upd_same)) .nil⟩
      refine cat_ls (hx5.same (e6.trans e7)) h7 (by rw [List.length_replicate]; show n - 1 + 1 ≤ 900; omega) fun x8 H8 s8 hx8 => ?_
      have S8 := (e4.trans e5).trans (s5.trans ((e6.trans e7).trans s8))
      refine neL_go (hZ.same S8) hx8 ?_
      refine ⟨_, rfl, ?_⟩
      refine iteF ?_
      exact ⟨_, _, _, _, rfl, S1.trans S8⟩
    · rintro σ HB ⟨z5, z6, z7, z8, rfl, sB⟩
      dsimp only
      refine asg_go ?_
      refine ⟨_, rfl, ?_⟩
      refine tnil_go ?_
      refine ⟨p, _, rfl, .inr (sqT_same (s1.trans sB) hp1), ?_⟩
      rw [List.length_map, hrl, hl]
      refine tnil_go ?_
      refine ⟨_, rfl, by omega, by omega, ?_⟩
      rw [Int.toNat_natCast]
      have szq : ∀ b j, j < n → Sz 1 400 (stKQ (sureK hs fs) first b j) := fun b j hj => by
        rw [hst b j hj]
        exact sz_01
      refine lc_mkW (K := K) (walk_range (lo := 0) (n := n)) (fun j => sumTo L (fun i => stKQ (sureK hs fs) first (9 + i) j) * (1 / ((L : Nat) : Rat))) (by omega) (fun _ _ => trivial) (fun j x HE HE' R hj sE hY qr => ?_) (fun F H3 s3 hF => ?_)
      · obtain ⟨rfl, rfl⟩ := hY
        refine ⟨rfl, ?_⟩
        refine ⟨_, rfl, D, rfl, ⟨_, SqL.of ((sB.trans sE) _ _ d1)⟩, ?_⟩
        refine lc_mkW (K := K) (walk_list (K := K) (a := D) (xs := ds.map V.ref)) (fun i => stKQ (sureK hs fs) first (9 + i) j) (by rw [List.length_map]; omega) (fun HF sF => SqL.of ((sB.trans (sE.trans sF)) _ _ d1)) (fun i y HF HF' R2 hi sF hY2 qr2 => ?_) (fun G H4 s4 hG => ?_)
        · obtain ⟨rfl, hy⟩ := hY2
          rw [List.length_map, hdl] at hi
          obtain ⟨r, er, hr⟩ := hrow i hi
          rw [List.getElem?_map, er] at hy
          cases Option.some.inj hy
          obtain ⟨as, a1, a2⟩ := RowAt.tk hr (Tk.same (K := K) (sB.trans (sE.trans sF)))
          obtain ⟨a, ea, ha⟩ := a2.get (mkL_at hj)
          refine ⟨rfl, ?_⟩
          refine ⟨_, rfl, _, rfl, r, _, _, _, rfl, rfl, a1, at_of (show (0 : Int) + (j : Int) = ((j : Nat) : Int) by omega) (by rw [List.getElem?_map, ea]; rfl), ?_⟩
          exact qr2 a _ (Same.refl _) ha
        rw [List.length_map, hdl] at hG
        refine tnil_go ?_
        refine ⟨G, L, 1, 400, 1, _, rfl, hG, by decide, by unfold Sm; decide, fun i _ => szq _ j hj, by omega, by decide, fun r5 H5 s5 hr5 => ?_⟩
        refine ⟨_, rfl, ?_⟩
        refine tnil_go ?_
        refine ⟨by show 2 ≤ sizeLine; decide, fun b nb => ?_⟩
        have eb := same_new (o := HO.tup [.int 1, .int (L : Int)]) nb
        have red1 : Red ((1 : Int), (L : Int)) := ⟨by show (0 : Int) < (L : Int); omega, by show Int.gcd 1 (L : Int) = 1; exact Int.one_gcd⟩
        have ed : ((1 : Int), (L : Int)) = rdq (1 / ((L : Nat) : Rat)) := is_rdq red1 rfl
        have hb : RAt K (upd H5 b (.tup [.int 1, .int (L : Int)])) b (rdq (1 / ((L : Nat) : Rat))) := by
          rw [← ed]
          exact SqT.of upd_same
        refine tnil_go ?_
        refine times_go (hr5.tk (Tk.same eb)) hb ((Sz.sum (P := 1) (k := 400) (by decide) (fun i _ => szq (9 + i) j hj) (by omega)).smr (s := 1) (by decide) (by unfold Sm; decide) (by decide)) (by rw [← ed]; exact ⟨red1, (show Sm 10 (1 : Int) by unfold Sm; decide).mono (by decide), Sm.mono (n := 10) (by unfold Sm; omega) (by decide)⟩) fun r6 H6 s6 hr6 => qr r6 H6 (s4.trans (s5.trans (eb.trans s6))) hr6
      refine gn_go ?_
      refine ret_go ?_
      have S3 := s1.trans (sB.trans s3)
      refine ⟨_, rfl, rfl, ?_⟩
      refine ⟨_, rfl, ?_⟩
      rcases hv with rfl | ⟨h, z, rfl, hh, hz1⟩
      · rw [decide_eq_true rfl, if_pos rfl]
        exact q _ S3
      rw [decide_eq_false (show ¬ V.ref z = V.non from fun y => nomatch y), if_neg (by decide)]
      obtain ⟨fs1, f1, f2⟩ := hF
      have eX : mkL (sureK hs fs).length (shV (sureK hs fs) h) = mkL n fun j => sumTo L (fun i => stKQ (sureK hs fs) first (9 + i) j) * (1 / ((L : Nat) : Rat)) := by
        rw [hl]
        exact mkL_congr fun j hj => (hsh h hh j hj).symm
      rw [eX] at hz1
      have hsw : Shows (.tuple (rowD (mkL n fun j => sumTo L (fun i => stKQ (sureK hs fs) first (9 + i) j) * (1 / ((L : Nat) : Rat))))) := mkL_rowD_sh (by omega) fun j hj => by
        obtain ⟨m, hm, em⟩ := hle j hj
        have e9 : sumTo L (fun i => stKQ (sureK hs fs) first (9 + i) j) * (1 / ((L : Nat) : Rat)) = ((m : Nat) : Rat) / ((L : Nat) : Rat) := by
          rw [em, Rat.div_def, Rat.div_def]
          grind
        rw [e9]
        exact (sz_fr (c := L) (m := m) (by omega) (by omega)).smr (s := 4) (by omega) (by unfold Sm; omega) (by decide)
      refine ⟨_, rfl, ?_⟩
      refine tnil_go ?_
      refine ⟨F, _, rfl, .inl ⟨SqL.of f1, fun t nt => ?_⟩⟩
      have et := same_new (o := HO.tup (fs1.map V.ref)) nt
      refine tnil_go ?_
      refine ⟨t, _, rfl, RowAt.dp ⟨fs1, SqT.of upd_same, f2.tk (Tk.same et)⟩, hsw, ?_⟩
      refine ⟨_, rfl, ?_⟩
      refine tnil_go ?_
      refine ⟨z, _, rfl, (hz1.tk (Tk.same (S3.trans et))).dp, hsw, ?_⟩
      refine ⟨rfl, ?_⟩
      rw [decide_eq_true rfl]
      exact q _ (S3.trans et)
end

end Fp

set_option Elab.async false
set_option linter.all false
set_option maxRecDepth 100000
set_option maxHeartbeats 4000000
set_option exponentiation.threshold 10000
namespace Fp
open PySem PySem.Spec PyProof.Rows L2
/-! ### the law: sure kinds -/
abbrev s_law : Stmt := topS 50
abbrev N_law : List Str := ["_law_script", "_law_feed_here", "_law_k", "_law_kinds", "_law_due", "_law_first"]
theorem sc_law : FnScope N_law ["_law_script"] (defScope s_law) := ⟨rfl, rfl, rfl, by decide +kernel, rfl, by decide +kernel, by decide +kernel⟩
theorem KdsA.same65 {K : PySem.W.Frag} {H H' : Hp} {p : Addr} {ks : List (List Tri)} (h : KdsA K H p ks) (s : Same H H') : KdsA K H' p ks := kdsA_stays _ _ _ _ (Tk.same s) h
theorem KdsA.keep65 {K : PySem.W.Frag} {H H' : Hp} {d c : Addr} {t : Int} {p : Addr} {ks : List (List Tri)} (h : KdsA K H p ks) (f : Feed H d c t) (k : Keep d H H') : KdsA K H' p ks := kdsA_stays _ _ _ _ (Tk.keep f k) h
section
variable {P : Program} {w : World} {K : PySem.W.Frag} {mg : Str → Option Value} {base : Heap} {aN aO : Addr}
theorem no_false {H : Hp} {p : Addr} {n : Nat} {Q : VK} (h : H p = some (.lst ((List.range n).map fun _ => V.bl true))) (q : Q (.bl false) H) : rIn K false (.bl false) (.ref p) H Q := by
  refine ⟨p, _, rfl, .inl (SqL.of h), rfl, ?_, ?_⟩
  · rw [List.all_map]
    exact List.all_eq_true.mpr fun _ _ => rfl
  · have e : inV (.bl false) ((List.range n).map fun _ => V.bl true) = false := by
      unfold inV
      rw [List.any_map]
      exact List.any_eq_false.mpr fun _ _ h => by cases h
    rw [if_neg (by decide), e]
    exact q
theorem DueV.tk {H H' : Hp} {ks : List (List Tri)} {v : V} (h : DueV K H ks v) (s : Same H H') : DueV K H' ks v := by
  rcases h with h | ⟨a, z, h1, h2, h3⟩
  · exact .inl h
  · exact .inr ⟨a, z, h1, h2, h3.tk (Tk.same s)⟩
def noH (ks : List (List Tri)) : Prop := ∀ h, h < ks.length → ¬ goodH ks h
theorem isH_not {ks : List (List Tri)} {h : Nat} (g : isHome ks h) : ¬ noH ks := fun n => n h g.1 g.2.1
theorem shs_due {H : Hp} {Q : VK} {p : Addr} {n : Nat} {hs fs : List Nat} (S : Sure n hs fs) (hk : KdsA K H p (sureK hs fs)) (q : ∀ v H', Same H H' → DueV K H' (sureK hs fs) v → (v = V.non ↔ noH (sureK hs fs)) → Q v H') : spShs K [.ref p] H Q E0 := by
  have n4 := S.n4
  refine ⟨p, sureK hs fs, rfl, hk, kd_sure S, by rw [S.len]; omega, sh_sure S, fun h hh => spok_sure S hh, fun h z H' hh s hz => ?_, fun H' hno s => ?_⟩
  · exact q _ _ s (.inr ⟨h, z, rfl, hh, hz⟩) ⟨fun y => (nomatch y), fun y => absurd y (isH_not hh)⟩
  · exact q _ _ s (.inl rfl) ⟨fun _ => hno, fun _ => rfl⟩
theorem sht_due {H : Hp} {Q : VK} {p : Addr} {n : Nat} {hs fs : List Nat} (S : Sure n hs fs) (hk : KdsA K H p (sureK hs fs)) (q : ∀ z b x H', Same H H' → SqT K H' z (.str b :: x) → (b = "apart" ↔ noH (sureK hs fs)) → Q (.ref z) H') : spSht K [.ref p] H Q E0 := by
  have n4 := S.n4
  refine ⟨p, sureK hs fs, rfl, hk, kd_sure S, by rw [S.len]; omega, sh_sure S, fun h z pw pws H' hh s hz _ => ?_, fun z x y H' hno s hz => ?_⟩
  · exact q _ _ _ _ s hz ⟨fun y => absurd y (by decide), fun y => absurd y (isH_not hh)⟩
  · exact q _ _ _ _ s hz ⟨fun _ => hno, fun _ => rfl⟩
theorem ok_law {f fE fSKI fSHS fSHT fRGT : Addr} {fd fdE fdSKI fdSHS fdSHT fdRGT : FuncData} (F : Fun K "law" "law" s_law f fd)
    (FE : Fun K "_law_feed" "_law_feed" s_feed fE fdE) (bE : Binds K fdE ["_law_script"] []) (gE : mg "_law_feed" = some (.ref fE)) (GE : FnOk P w K mg base CX0 1 fE fdE ["_law_script"] (spFeed K))
    (FSKI : Fun K "_law_sure_kinds" "_law_sure_kinds" s_ski fSKI fdSKI) (bSKI : Binds K fdSKI ["_law_feed_here"] []) (gSKI : mg "_law_sure_kinds" = some (.ref fSKI)) (GSKI : FnOk P w K mg base CX0 2 fSKI fdSKI ["_law_feed_here"] (spSki K))
    (FSHS : Fun K "shares" "shares" s_shs fSHS fdSHS) (bSHS : Binds K fdSHS ["kinds"] []) (gSHS : mg "shares" = some (.ref fSHS)) (GSHS : FnOk P w K mg base CX0 10 fSHS fdSHS ["kinds"] (spShs K))
    (FSHT : Fun K "share_told" "share_told" s_sht fSHT fdSHT) (bSHT : Binds K fdSHT ["kinds"] []) (gSHT : mg "share_told" = some (.ref fSHT)) (GSHT : FnOk P w K mg base CX0 9 fSHT fdSHT ["kinds"] (spSht K))
    (FRGT : Fun K "_law_right" "_law_right" s_rgt fRGT fdRGT) (bRGT : Binds K fdRGT ["_law_kinds", "_law_first", "_law_due"] []) (gRGT : mg "_law_right" = some (.ref fRGT)) (GRGT : FnG P w K mg base CX0 11 fRGT fdRGT ["_law_kinds", "_law_first", "_law_due"] (spRgt K))
    (n_len : mg "len" = none) (n_range : mg "range" = none) : FnG P w K mg base CX0 12 f fd ["_law_script"] (spLaw K) := by
  refine okG F sc_law (fun vs H Q E h => ?_) (fun cdv A outer s H vs Q E hq hr h => ?_)
  · obtain ⟨_, _, rfl, _⟩ := h
    rfl
  · obtain ⟨a0, ns, rfl, hS, q⟩ := h
    refine ⟨_, (pss_cons (ps_set (i := 1) sc_law.nd rfl (.inl rfl) (pe_call GE (hr.mono (by decide)) (by rfl) gE FE.kp bE .nil pass0 (pa_cons (pv 0) pa_nil)))
      (pss_cons (ps_for PassesOwn.never rfl (pi_range1 (by rfl) n_range (pa_cons pe_int pa_nil)) (pg_name (i := 2) sc_law.nd rfl (.inl rfl)) (pss_cons (ps_set (i := 3) sc_law.nd rfl (.inr rfl) (pe_call GSKI (hr.mono (by decide)) (by rfl) gSKI FSKI.kp bSKI .nil pass0 (pa_cons (pv 1) pa_nil)))
      (pss_cons (ps_set (i := 4) sc_law.nd rfl (.inr rfl) (pe_call GSHS (hr.mono (by decide)) (by rfl) gSHS FSHS.kp bSHS .nil pass0 (pa_cons (pv 3) pa_nil)))
      (pss_cons (ps_if (pt_cmpR op_ne (pe_cmpR op_isN (pv 4) pe_non (nomark _)) (pe_cmpR op_eq (pe_ix ix_tup (pe_call GSHT (hr.mono (by decide)) (by rfl) gSHT FSHT.kp bSHT .nil pass0 (pa_cons (pv 3) pa_nil)) pe_int (fun _ _ => rfl)) pe_str (nomark _)) (nomark _)) (pss_one (ps_ret pe_bl)) pss_nil)
      (pss_one (ps_if (pt_cmpR op_in_seq pe_bl (pe_lc (own := [("_law_first", 5)]) (g := (gName 5)) (tt := tYes) (te := (tCallG (spRgt K) E0 (tCons (tVar 3) (tCons (tVar 5) (tCons (tVar 4) tNil))))) rfl sc_law.nd (pi_range1 (by rfl) n_range (pa_cons (pe_callB call_len_seq (by rfl) n_len PySem.boot_len (pa_cons (pv 3) pa_nil)) pa_nil)) (blkOk_by (own := [("_law_first", 5)]) (N := N_law) (sc := (defScope s_law)) (by decide +kernel)) (fun _ _ _ _ _ => (pg_name (i := 5) sc_law.nd rfl (.inl rfl))) (fun _ _ _ _ _ => pts_nil) (fun _ _ _ _ _ => (pe_callG GRGT hq hr (by rfl) gRGT FRGT.kp bRGT pass0 (pa_cons (pv 3) (pa_cons (pv 5) (pa_cons (pv 4) pa_nil)))))) rfl) (pss_one (ps_ret pe_bl)) pss_nil))))))
      (pss_one (ps_ret pe_bl)))), ?_⟩
    refine asg_go ?_
    refine ⟨_, rfl, a0, ns, rfl, hS, fun d c H1 s1 f1 => ?_⟩
    refine gn_go ?_
    refine ⟨2, rfl, by decide, by decide, ?_⟩
    refine for_range (lo := 0) (n := (2 : Int).toNat) (fun i σ HB => ∃ (z2 z3 z4 z5 : Option V) (t : Int), σ = [some (.ref a0), some (.ref d), z2, z3, z4, z5] ∧ Feed HB d c t ∧ t ≤ 100 * (i : Int)) ⟨none, none, none, none, 0, rfl, f1, by omega⟩ ?_ ?_
    · rintro i σ HB hi ⟨z2, z3, z4, z5, t, rfl, fB, htB⟩
      have hi2 : i < 2 := hi
      refine gn_go ?_
      refine asg_go ?_
      refine ⟨_, rfl, d, c, t, rfl, fB, by omega, fun z n hs fs t' H2 k2 f2 ht2 S hk => ?_⟩
      have hl := S.len
      have n1 := S.n1
      have n4 := S.n4
      refine gn_go ?_
      refine asg_go ?_
      have hkd := kd_sure S
      have hsh := sh_sure S
      have h4 : (sureK hs fs).length ≤ 4 := by omega
      refine ⟨_, rfl, ?_⟩
      refine tnil_go ?_
      refine shs_due S hk fun v H3 s3 hv iv => ?_
      refine gn_go ?_
      have hk3 := hk.same65 s3
      have ap : ∀ (b : Str) (H4 : Hp) (R : VK), (b = "apart" ↔ noH (sureK hs fs)) → R (.bl false) H4 → rNe (V.bl (decide (v = V.non))) (V.bl (decide (V.str b = V.str "apart"))) H4 R := fun b H4 R ib r => by
        have e : decide (v = V.non) = decide (V.str b = V.str "apart") := by
          rw [Bool.eq_iff_iff, decide_eq_true_eq, decide_eq_true_eq, iv, ← ib]
          exact ⟨fun y => congrArg V.str y, fun y => V.str.inj y⟩
        rw [e]
        refine ⟨rfl, ?_⟩
        rw [decide_eq_true rfl]
        exact r
      refine ⟨_, rfl, ?_⟩
      refine tC_go ?_
      refine ⟨rfl, ?_⟩
      refine ⟨_, rfl, ?_⟩
      refine tnil_go ?_
      refine sht_due S hk3 fun z1 b x1 H4 s4 hz1 ib => ?_
      refine tC_go ?_
      refine ⟨z1, _, _, _, rfl, rfl, hz1, atI_nat (j := 0) rfl, ?_⟩
      refine tC_go ?_
      refine ⟨rfl, ?_⟩
      refine ap b H4 _ ib ?_
      refine ⟨_, rfl, ?_⟩
      refine iteF ?_
      dsimp only [tNext]
      have hk4 := hk3.same65 s4
      have hv4 := hv.tk s4
      obtain ⟨rs, hp1, hp2⟩ := id hk4
      have hrl := hp2.1
      refine ⟨_, rfl, z, _, rfl, .inr hp1, ?_⟩
      rw [List.length_map, hrl, hl]
      refine tnil_go ?_
      refine ⟨_, rfl, by omega, by omega, ?_⟩
      rw [Int.toNat_natCast]
      refine lc_valG (walk_range (lo := 0) (n := n)) (fun _ => .bl true) (by omega) (fun _ _ => trivial) (fun j x HE HE' R hj sE hY qr => ?_) (fun D H5 s5 hD => ?_)
      · obtain ⟨rfl, rfl⟩ := hY
        refine ⟨rfl, ?_⟩
        refine ⟨_, rfl, _, rfl, _, rfl, ?_⟩
        refine tnil_go ?_
        refine ⟨z, n, j, hs, fs, v, ?_, hk4.same65 sE, S, hj, hv4.tk sE, qr⟩
        show [V.ref z, V.int (0 + (j : Int)), v] = _
        rw [Int.zero_add]
      refine no_false hD ?_
      refine ⟨_, rfl, ?_⟩
      refine iteF ?_
      exact ⟨_, _, _, _, t', rfl, f2.same (s3.trans (s4.trans s5)), by omega⟩
    · rintro σ HB ⟨z2, z3, z4, z5, t, rfl, fB, htB⟩
      exact q _
end

end Fp

set_option Elab.async false
set_option linter.all false
set_option maxRecDepth 100000
set_option maxHeartbeats 4000000
set_option exponentiation.threshold 10000
namespace Fp
open PySem PySem.Spec PyProof.Rows L2
theorem all_mk {l : PySem.W.OpenLaw} {w : World} {K : PySem.W.Frag} {h : Heap} {mg : Str → Option Value} {fa fC fR fPL fM fT fO fOB fAD fBR fCT fLS fMI fWN fCN fKL fME fMO fLED fSHT fWHO fAPT fREA fWTS fPTS fSHS fKS fPR fE fD fL fLA2 fLT fLAL fSKI fLRN fRGT fZ a_NOUGHT a_ONE : Addr} (X : K.In h) (G : h.Ns mainGlobals mg) (hfa : mg "law" = some (.ref fa))
    {odC anC : Option Addr} {slC : Array (Option Value)} {ocC kVC dcC pmC cdC ctC : Value}
    {odR anR : Option Addr} {slR : Array (Option Value)} {ocR kVR dcR pmR cdR ctR : Value}
    {odPL anPL : Option Addr} {slPL : Array (Option Value)} {ocPL kVPL dcPL pmPL cdPL ctPL : Value}
    {odM anM : Option Addr} {slM : Array (Option Value)} {ocM kVM dcM pmM cdM ctM : Value}
    {odT anT : Option Addr} {slT : Array (Option Value)} {ocT kVT dcT pmT cdT ctT : Value}
    {odO anO : Option Addr} {slO : Array (Option Value)} {ocO kVO dcO pmO cdO ctO : Value}
    {odOB anOB : Option Addr} {slOB : Array (Option Value)} {ocOB kVOB dcOB pmOB cdOB ctOB : Value}
    {odAD anAD : Option Addr} {slAD : Array (Option Value)} {ocAD kVAD dcAD pmAD cdAD ctAD : Value}
    {odBR anBR : Option Addr} {slBR : Array (Option Value)} {ocBR kVBR dcBR pmBR cdBR ctBR : Value}
    {odCT anCT : Option Addr} {slCT : Array (Option Value)} {ocCT kVCT dcCT pmCT cdCT ctCT : Value}
    {odLS anLS : Option Addr} {slLS : Array (Option Value)} {ocLS kVLS dcLS pmLS cdLS ctLS : Value}
    {odMI anMI : Option Addr} {slMI : Array (Option Value)} {ocMI kVMI dcMI pmMI cdMI ctMI : Value}
    {odWN anWN : Option Addr} {slWN : Array (Option Value)} {ocWN kVWN dcWN pmWN cdWN ctWN : Value}
    {odCN anCN : Option Addr} {slCN : Array (Option Value)} {ocCN kVCN dcCN pmCN cdCN ctCN : Value}
    {odKL anKL : Option Addr} {slKL : Array (Option Value)} {ocKL kVKL dcKL pmKL cdKL ctKL : Value}
    {odME anME : Option Addr} {slME : Array (Option Value)} {ocME kVME dcME pmME cdME ctME : Value}
    {odMO anMO : Option Addr} {slMO : Array (Option Value)} {ocMO kVMO dcMO pmMO cdMO ctMO : Value}
    {odLED anLED : Option Addr} {slLED : Array (Option Value)} {ocLED kVLED dcLED pmLED cdLED ctLED : Value}
    {odSHT anSHT : Option Addr} {slSHT : Array (Option Value)} {ocSHT kVSHT dcSHT pmSHT cdSHT ctSHT : Value}
    {odWHO anWHO : Option Addr} {slWHO : Array (Option Value)} {ocWHO kVWHO dcWHO pmWHO cdWHO ctWHO : Value}
    {odAPT anAPT : Option Addr} {slAPT : Array (Option Value)} {ocAPT kVAPT dcAPT pmAPT cdAPT ctAPT : Value}
    {odREA anREA : Option Addr} {slREA : Array (Option Value)} {ocREA kVREA dcREA pmREA cdREA ctREA : Value}
    {odWTS anWTS : Option Addr} {slWTS : Array (Option Value)} {ocWTS kVWTS dcWTS pmWTS cdWTS ctWTS : Value}
    {odPTS anPTS : Option Addr} {slPTS : Array (Option Value)} {ocPTS kVPTS dcPTS pmPTS cdPTS ctPTS : Value}
    {odSHS anSHS : Option Addr} {slSHS : Array (Option Value)} {ocSHS kVSHS dcSHS pmSHS cdSHS ctSHS : Value}
    {odKS anKS : Option Addr} {slKS : Array (Option Value)} {ocKS kVKS dcKS pmKS cdKS ctKS : Value}
    {odPR anPR : Option Addr} {slPR : Array (Option Value)} {ocPR kVPR dcPR pmPR cdPR ctPR : Value}
    {odE anE : Option Addr} {slE : Array (Option Value)} {ocE kVE dcE pmE cdE ctE : Value}
    {odD anD : Option Addr} {slD : Array (Option Value)} {ocD kVD dcD pmD cdD ctD : Value}
    {odL anL : Option Addr} {slL : Array (Option Value)} {ocL kVL dcL pmL cdL ctL : Value}
    {odLA2 anLA2 : Option Addr} {slLA2 : Array (Option Value)} {ocLA2 kVLA2 dcLA2 pmLA2 cdLA2 ctLA2 : Value}
    {odLT anLT : Option Addr} {slLT : Array (Option Value)} {ocLT kVLT dcLT pmLT cdLT ctLT : Value}
    {odLAL anLAL : Option Addr} {slLAL : Array (Option Value)} {ocLAL kVLAL dcLAL pmLAL cdLAL ctLAL : Value}
    {odSKI anSKI : Option Addr} {slSKI : Array (Option Value)} {ocSKI kVSKI dcSKI pmSKI cdSKI ctSKI : Value}
    {odLRN anLRN : Option Addr} {slLRN : Array (Option Value)} {ocLRN kVLRN dcLRN pmLRN cdLRN ctLRN : Value}
    {odRGT anRGT : Option Addr} {slRGT : Array (Option Value)} {ocRGT kVRGT dcRGT pmRGT cdRGT ctRGT : Value}
    {odZ anZ : Option Addr} {slZ : Array (Option Value)} {ocZ kVZ dcZ pmZ cdZ ctZ : Value}
    {od_NOUGHT : Option Addr} {n_NOUGHTx : Nat} {sl_NOUGHT : Array (Option Value)} {t0_NOUGHT t1_NOUGHT : Tok}
    {od_ONE : Option Addr} {n_ONEx : Nat} {sl_ONE : Array (Option Value)} {t0_ONE t1_ONE : Tok}
    (aC : PySem.W.nsIn K mainGlobals "common_divisor" = some (some (.ref fC))) (lC : K.lookup fC = some ⟨ocC, odC, .func (PySem.W.fnOf "common_divisor" "common_divisor" (defArgs s_cd) (defBody s_cd) (defScope s_cd) .none kVC dcC pmC anC cdC ctC), slC⟩) (cC : PySem.W.codeIn K cdC "common_divisor" = true) (kC : PySem.W.keepIn K (.ref fC) = true)
    (aR : PySem.W.nsIn K mainGlobals "ratio" = some (some (.ref fR))) (lR : K.lookup fR = some ⟨ocR, odR, .func (PySem.W.fnOf "ratio" "ratio" (defArgs s_ratio) (defBody s_ratio) (defScope s_ratio) .none kVR dcR pmR anR cdR ctR), slR⟩) (cR : PySem.W.codeIn K cdR "ratio" = true) (kR : PySem.W.keepIn K (.ref fR) = true)
    (aPL : PySem.W.nsIn K mainGlobals "plus" = some (some (.ref fPL))) (lPL : K.lookup fPL = some ⟨ocPL, odPL, .func (PySem.W.fnOf "plus" "plus" (defArgs s_plus) (defBody s_plus) (defScope s_plus) .none kVPL dcPL pmPL anPL cdPL ctPL), slPL⟩) (cPL : PySem.W.codeIn K cdPL "plus" = true) (kPL : PySem.W.keepIn K (.ref fPL) = true)
    (aM : PySem.W.nsIn K mainGlobals "minus" = some (some (.ref fM))) (lM : K.lookup fM = some ⟨ocM, odM, .func (PySem.W.fnOf "minus" "minus" (defArgs s_minus) (defBody s_minus) (defScope s_minus) .none kVM dcM pmM anM cdM ctM), slM⟩) (cM : PySem.W.codeIn K cdM "minus" = true) (kM : PySem.W.keepIn K (.ref fM) = true)
    (aT : PySem.W.nsIn K mainGlobals "times" = some (some (.ref fT))) (lT : K.lookup fT = some ⟨ocT, odT, .func (PySem.W.fnOf "times" "times" (defArgs s_times) (defBody s_times) (defScope s_times) .none kVT dcT pmT anT cdT ctT), slT⟩) (cT : PySem.W.codeIn K cdT "times" = true) (kT : PySem.W.keepIn K (.ref fT) = true)
    (aO : PySem.W.nsIn K mainGlobals "over" = some (some (.ref fO))) (lO : K.lookup fO = some ⟨ocO, odO, .func (PySem.W.fnOf "over" "over" (defArgs s_over) (defBody s_over) (defScope s_over) .none kVO dcO pmO anO cdO ctO), slO⟩) (cO : PySem.W.codeIn K cdO "over" = true) (kO : PySem.W.keepIn K (.ref fO) = true)
    (aOB : PySem.W.nsIn K mainGlobals "on_one_bottom" = some (some (.ref fOB))) (lOB : K.lookup fOB = some ⟨ocOB, odOB, .func (PySem.W.fnOf "on_one_bottom" "on_one_bottom" (defArgs s_oob) (defBody s_oob) (defScope s_oob) .none kVOB dcOB pmOB anOB cdOB ctOB), slOB⟩) (cOB : PySem.W.codeIn K cdOB "on_one_bottom" = true) (kOB : PySem.W.keepIn K (.ref fOB) = true)
    (aAD : PySem.W.nsIn K mainGlobals "added" = some (some (.ref fAD))) (lAD : K.lookup fAD = some ⟨ocAD, odAD, .func (PySem.W.fnOf "added" "added" (defArgs s_added) (defBody s_added) (defScope s_added) .none kVAD dcAD pmAD anAD cdAD ctAD), slAD⟩) (cAD : PySem.W.codeIn K cdAD "added" = true) (kAD : PySem.W.keepIn K (.ref fAD) = true)
    (aBR : PySem.W.nsIn K mainGlobals "behind_row" = some (some (.ref fBR))) (lBR : K.lookup fBR = some ⟨ocBR, odBR, .func (PySem.W.fnOf "behind_row" "behind_row" (defArgs s_behind) (defBody s_behind) (defScope s_behind) .none kVBR dcBR pmBR anBR cdBR ctBR), slBR⟩) (cBR : PySem.W.codeIn K cdBR "behind_row" = true) (kBR : PySem.W.keepIn K (.ref fBR) = true)
    (aCT : PySem.W.nsIn K mainGlobals "chances_to" = some (some (.ref fCT))) (lCT : K.lookup fCT = some ⟨ocCT, odCT, .func (PySem.W.fnOf "chances_to" "chances_to" (defArgs s_chto) (defBody s_chto) (defScope s_chto) .none kVCT dcCT pmCT anCT cdCT ctCT), slCT⟩) (cCT : PySem.W.codeIn K cdCT "chances_to" = true) (kCT : PySem.W.keepIn K (.ref fCT) = true)
    (aLS : PySem.W.nsIn K mainGlobals "lastings_to" = some (some (.ref fLS))) (lLS : K.lookup fLS = some ⟨ocLS, odLS, .func (PySem.W.fnOf "lastings_to" "lastings_to" (defArgs s_ls) (defBody s_ls) (defScope s_ls) .none kVLS dcLS pmLS anLS cdLS ctLS), slLS⟩) (cLS : PySem.W.codeIn K cdLS "lastings_to" = true) (kLS : PySem.W.keepIn K (.ref fLS) = true)
    (aMI : PySem.W.nsIn K mainGlobals "miss" = some (some (.ref fMI))) (lMI : K.lookup fMI = some ⟨ocMI, odMI, .func (PySem.W.fnOf "miss" "miss" (defArgs s_miss) (defBody s_miss) (defScope s_miss) .none kVMI dcMI pmMI anMI cdMI ctMI), slMI⟩) (cMI : PySem.W.codeIn K cdMI "miss" = true) (kMI : PySem.W.keepIn K (.ref fMI) = true)
    (aWN : PySem.W.nsIn K mainGlobals "without_noughts" = some (some (.ref fWN))) (lWN : K.lookup fWN = some ⟨ocWN, odWN, .func (PySem.W.fnOf "without_noughts" "without_noughts" (defArgs s_wn) (defBody s_wn) (defScope s_wn) .none kVWN dcWN pmWN anWN cdWN ctWN), slWN⟩) (cWN : PySem.W.codeIn K cdWN "without_noughts" = true) (kWN : PySem.W.keepIn K (.ref fWN) = true)
    (aCN : PySem.W.nsIn K mainGlobals "chain" = some (some (.ref fCN))) (lCN : K.lookup fCN = some ⟨ocCN, odCN, .func (PySem.W.fnOf "chain" "chain" (defArgs s_cn) (defBody s_cn) (defScope s_cn) .none kVCN dcCN pmCN anCN cdCN ctCN), slCN⟩) (cCN : PySem.W.codeIn K cdCN "chain" = true) (kCN : PySem.W.keepIn K (.ref fCN) = true)
    (aKL : PySem.W.nsIn K mainGlobals "kind_life" = some (some (.ref fKL))) (lKL : K.lookup fKL = some ⟨ocKL, odKL, .func (PySem.W.fnOf "kind_life" "kind_life" (defArgs s_kl) (defBody s_kl) (defScope s_kl) .none kVKL dcKL pmKL anKL cdKL ctKL), slKL⟩) (cKL : PySem.W.codeIn K cdKL "kind_life" = true) (kKL : PySem.W.keepIn K (.ref fKL) = true)
    (aME : PySem.W.nsIn K mainGlobals "mean" = some (some (.ref fME))) (lME : K.lookup fME = some ⟨ocME, odME, .func (PySem.W.fnOf "mean" "mean" (defArgs s_mean) (defBody s_mean) (defScope s_mean) .none kVME dcME pmME anME cdME ctME), slME⟩) (cME : PySem.W.codeIn K cdME "mean" = true) (kME : PySem.W.keepIn K (.ref fME) = true)
    (aMO : PySem.W.nsIn K mainGlobals "moments_behind" = some (some (.ref fMO))) (lMO : K.lookup fMO = some ⟨ocMO, odMO, .func (PySem.W.fnOf "moments_behind" "moments_behind" (defArgs s_mom) (defBody s_mom) (defScope s_mom) .none kVMO dcMO pmMO anMO cdMO ctMO), slMO⟩) (cMO : PySem.W.codeIn K cdMO "moments_behind" = true) (kMO : PySem.W.keepIn K (.ref fMO) = true)
    (aLED : PySem.W.nsIn K mainGlobals "led_to" = some (some (.ref fLED))) (lLED : K.lookup fLED = some ⟨ocLED, odLED, .func (PySem.W.fnOf "led_to" "led_to" (defArgs s_led) (defBody s_led) (defScope s_led) .none kVLED dcLED pmLED anLED cdLED ctLED), slLED⟩) (cLED : PySem.W.codeIn K cdLED "led_to" = true) (kLED : PySem.W.keepIn K (.ref fLED) = true)
    (aSHT : PySem.W.nsIn K mainGlobals "share_told" = some (some (.ref fSHT))) (lSHT : K.lookup fSHT = some ⟨ocSHT, odSHT, .func (PySem.W.fnOf "share_told" "share_told" (defArgs s_sht) (defBody s_sht) (defScope s_sht) .none kVSHT dcSHT pmSHT anSHT cdSHT ctSHT), slSHT⟩) (cSHT : PySem.W.codeIn K cdSHT "share_told" = true) (kSHT : PySem.W.keepIn K (.ref fSHT) = true)
    (aWHO : PySem.W.nsIn K mainGlobals "ways_home" = some (some (.ref fWHO))) (lWHO : K.lookup fWHO = some ⟨ocWHO, odWHO, .func (PySem.W.fnOf "ways_home" "ways_home" (defArgs s_who) (defBody s_who) (defScope s_who) .none kVWHO dcWHO pmWHO anWHO cdWHO ctWHO), slWHO⟩) (cWHO : PySem.W.codeIn K cdWHO "ways_home" = true) (kWHO : PySem.W.keepIn K (.ref fWHO) = true)
    (aAPT : PySem.W.nsIn K mainGlobals "apart_told" = some (some (.ref fAPT))) (lAPT : K.lookup fAPT = some ⟨ocAPT, odAPT, .func (PySem.W.fnOf "apart_told" "apart_told" (defArgs s_apt) (defBody s_apt) (defScope s_apt) .none kVAPT dcAPT pmAPT anAPT cdAPT ctAPT), slAPT⟩) (cAPT : PySem.W.codeIn K cdAPT "apart_told" = true) (kAPT : PySem.W.keepIn K (.ref fAPT) = true)
    (aREA : PySem.W.nsIn K mainGlobals "reach" = some (some (.ref fREA))) (lREA : K.lookup fREA = some ⟨ocREA, odREA, .func (PySem.W.fnOf "reach" "reach" (defArgs s_rea) (defBody s_rea) (defScope s_rea) .none kVREA dcREA pmREA anREA cdREA ctREA), slREA⟩) (cREA : PySem.W.codeIn K cdREA "reach" = true) (kREA : PySem.W.keepIn K (.ref fREA) = true)
    (aWTS : PySem.W.nsIn K mainGlobals "weights_of" = some (some (.ref fWTS))) (lWTS : K.lookup fWTS = some ⟨ocWTS, odWTS, .func (PySem.W.fnOf "weights_of" "weights_of" (defArgs s_wts) (defBody s_wts) (defScope s_wts) .none kVWTS dcWTS pmWTS anWTS cdWTS ctWTS), slWTS⟩) (cWTS : PySem.W.codeIn K cdWTS "weights_of" = true) (kWTS : PySem.W.keepIn K (.ref fWTS) = true)
    (aPTS : PySem.W.nsIn K mainGlobals "parts_of" = some (some (.ref fPTS))) (lPTS : K.lookup fPTS = some ⟨ocPTS, odPTS, .func (PySem.W.fnOf "parts_of" "parts_of" (defArgs s_pts) (defBody s_pts) (defScope s_pts) .none kVPTS dcPTS pmPTS anPTS cdPTS ctPTS), slPTS⟩) (cPTS : PySem.W.codeIn K cdPTS "parts_of" = true) (kPTS : PySem.W.keepIn K (.ref fPTS) = true)
    (aSHS : PySem.W.nsIn K mainGlobals "shares" = some (some (.ref fSHS))) (lSHS : K.lookup fSHS = some ⟨ocSHS, odSHS, .func (PySem.W.fnOf "shares" "shares" (defArgs s_shs) (defBody s_shs) (defScope s_shs) .none kVSHS dcSHS pmSHS anSHS cdSHS ctSHS), slSHS⟩) (cSHS : PySem.W.codeIn K cdSHS "shares" = true) (kSHS : PySem.W.keepIn K (.ref fSHS) = true)
    (aKS : PySem.W.nsIn K mainGlobals "kind_stands" = some (some (.ref fKS))) (lKS : K.lookup fKS = some ⟨ocKS, odKS, .func (PySem.W.fnOf "kind_stands" "kind_stands" (defArgs s_ks) (defBody s_ks) (defScope s_ks) .none kVKS dcKS pmKS anKS cdKS ctKS), slKS⟩) (cKS : PySem.W.codeIn K cdKS "kind_stands" = true) (kKS : PySem.W.keepIn K (.ref fKS) = true)
    (aPR : PySem.W.nsIn K mainGlobals "put_rows" = some (some (.ref fPR))) (lPR : K.lookup fPR = some ⟨ocPR, odPR, .func (PySem.W.fnOf "put_rows" "put_rows" (defArgs s_pr) (defBody s_pr) (defScope s_pr) .none kVPR dcPR pmPR anPR cdPR ctPR), slPR⟩) (cPR : PySem.W.codeIn K cdPR "put_rows" = true) (kPR : PySem.W.keepIn K (.ref fPR) = true)
    (aE : PySem.W.nsIn K mainGlobals "_law_feed" = some (some (.ref fE))) (lE : K.lookup fE = some ⟨ocE, odE, .func (PySem.W.fnOf "_law_feed" "_law_feed" (defArgs s_feed) (defBody s_feed) (defScope s_feed) .none kVE dcE pmE anE cdE ctE), slE⟩) (cE : PySem.W.codeIn K cdE "_law_feed" = true) (kE : PySem.W.keepIn K (.ref fE) = true)
    (aD : PySem.W.nsIn K mainGlobals "_law_draw" = some (some (.ref fD))) (lD : K.lookup fD = some ⟨ocD, odD, .func (PySem.W.fnOf "_law_draw" "_law_draw" (defArgs s_draw) (defBody s_draw) (defScope s_draw) .none kVD dcD pmD anD cdD ctD), slD⟩) (cD : PySem.W.codeIn K cdD "_law_draw" = true) (kD : PySem.W.keepIn K (.ref fD) = true)
    (aL : PySem.W.nsIn K mainGlobals "_law_lowest" = some (some (.ref fL))) (lL : K.lookup fL = some ⟨ocL, odL, .func (PySem.W.fnOf "_law_lowest" "_law_lowest" (defArgs s_lowest) (defBody s_lowest) (defScope s_lowest) .none kVL dcL pmL anL cdL ctL), slL⟩) (cL : PySem.W.codeIn K cdL "_law_lowest" = true) (kL : PySem.W.keepIn K (.ref fL) = true)
    (aLA2 : PySem.W.nsIn K mainGlobals "_law_add" = some (some (.ref fLA2))) (lLA2 : K.lookup fLA2 = some ⟨ocLA2, odLA2, .func (PySem.W.fnOf "_law_add" "_law_add" (defArgs s_la2) (defBody s_la2) (defScope s_la2) .none kVLA2 dcLA2 pmLA2 anLA2 cdLA2 ctLA2), slLA2⟩) (cLA2 : PySem.W.codeIn K cdLA2 "_law_add" = true) (kLA2 : PySem.W.keepIn K (.ref fLA2) = true)
    (aLT : PySem.W.nsIn K mainGlobals "_law_by" = some (some (.ref fLT))) (lLT : K.lookup fLT = some ⟨ocLT, odLT, .func (PySem.W.fnOf "_law_by" "_law_by" (defArgs s_lby) (defBody s_lby) (defScope s_lby) .none kVLT dcLT pmLT anLT cdLT ctLT), slLT⟩) (cLT : PySem.W.codeIn K cdLT "_law_by" = true) (kLT : PySem.W.keepIn K (.ref fLT) = true)
    (aLAL : PySem.W.nsIn K mainGlobals "_law_all" = some (some (.ref fLAL))) (lLAL : K.lookup fLAL = some ⟨ocLAL, odLAL, .func (PySem.W.fnOf "_law_all" "_law_all" (defArgs s_lall) (defBody s_lall) (defScope s_lall) .none kVLAL dcLAL pmLAL anLAL cdLAL ctLAL), slLAL⟩) (cLAL : PySem.W.codeIn K cdLAL "_law_all" = true) (kLAL : PySem.W.keepIn K (.ref fLAL) = true)
    (aSKI : PySem.W.nsIn K mainGlobals "_law_sure_kinds" = some (some (.ref fSKI))) (lSKI : K.lookup fSKI = some ⟨ocSKI, odSKI, .func (PySem.W.fnOf "_law_sure_kinds" "_law_sure_kinds" (defArgs s_ski) (defBody s_ski) (defScope s_ski) .none kVSKI dcSKI pmSKI anSKI cdSKI ctSKI), slSKI⟩) (cSKI : PySem.W.codeIn K cdSKI "_law_sure_kinds" = true) (kSKI : PySem.W.keepIn K (.ref fSKI) = true)
    (aLRN : PySem.W.nsIn K mainGlobals "_law_round" = some (some (.ref fLRN))) (lLRN : K.lookup fLRN = some ⟨ocLRN, odLRN, .func (PySem.W.fnOf "_law_round" "_law_round" (defArgs s_lrn) (defBody s_lrn) (defScope s_lrn) .none kVLRN dcLRN pmLRN anLRN cdLRN ctLRN), slLRN⟩) (cLRN : PySem.W.codeIn K cdLRN "_law_round" = true) (kLRN : PySem.W.keepIn K (.ref fLRN) = true)
    (aRGT : PySem.W.nsIn K mainGlobals "_law_right" = some (some (.ref fRGT))) (lRGT : K.lookup fRGT = some ⟨ocRGT, odRGT, .func (PySem.W.fnOf "_law_right" "_law_right" (defArgs s_rgt) (defBody s_rgt) (defScope s_rgt) .none kVRGT dcRGT pmRGT anRGT cdRGT ctRGT), slRGT⟩) (cRGT : PySem.W.codeIn K cdRGT "_law_right" = true) (kRGT : PySem.W.keepIn K (.ref fRGT) = true)
    (aZ : PySem.W.nsIn K mainGlobals "law" = some (some (.ref fZ))) (lZ : K.lookup fZ = some ⟨ocZ, odZ, .func (PySem.W.fnOf "law" "law" (defArgs s_law) (defBody s_law) (defScope s_law) .none kVZ dcZ pmZ anZ cdZ ctZ), slZ⟩) (cZ : PySem.W.codeIn K cdZ "law" = true) (kZ : PySem.W.keepIn K (.ref fZ) = true)
    (g_NOUGHT : PySem.W.nsIn K mainGlobals "NOUGHT" = some (some (.ref a_NOUGHT))) (l_NOUGHT : K.lookup a_NOUGHT = some ⟨.type "tuple", od_NOUGHT, .seq #[.int 0 t0_NOUGHT, .int 1 t1_NOUGHT] n_NOUGHTx, sl_NOUGHT⟩)
    (g_ONE : PySem.W.nsIn K mainGlobals "ONE" = some (some (.ref a_ONE))) (l_ONE : K.lookup a_ONE = some ⟨.type "tuple", od_ONE, .seq #[.int 1 t0_ONE, .int 1 t1_ONE] n_ONEx, sl_ONE⟩)
    (z_abs : PySem.W.nsIn K mainGlobals "abs" = some none)
    (z_any : PySem.W.nsIn K mainGlobals "any" = some none)
    (z_enumerate : PySem.W.nsIn K mainGlobals "enumerate" = some none)
    (z_len : PySem.W.nsIn K mainGlobals "len" = some none)
    (z_list : PySem.W.nsIn K mainGlobals "list" = some none)
    (z_max : PySem.W.nsIn K mainGlobals "max" = some none)
    (z_range : PySem.W.nsIn K mainGlobals "range" = some none)
    (z_repr : PySem.W.nsIn K mainGlobals "repr" = some none)
    (z_sorted : PySem.W.nsIn K mainGlobals "sorted" = some none)
    (z_sum : PySem.W.nsIn K mainGlobals "sum" = some none)
    (z_tuple : PySem.W.nsIn K mainGlobals "tuple" = some none)
    (z_zip : PySem.W.nsIn K mainGlobals "zip" = some none)
    : ∃ fd : FuncData, (∀ (s : Shared) (v : Value), BindsTo s fd ⟨[v], []⟩ [("_law_script", v)]) ∧ ∀ base : Heap, K.In base → base.Ns mainGlobals mg → FnG l.prog w K mg base CX0 12 fa fd ["_law_script"] (spLaw K) := by
  have e := hfa.symm.trans (PySem.W.mg_of X G aZ)
  cases e
  have FC := fun_mk (st := s_cd) lC cC kC
  have bC := FC.binds (ps := ["one", "other"]) fun _ _ _ _ _ _ us hl => match us, hl with | [_, _], _ => rfl
  have gC := PySem.W.mg_of X G aC
  have FR := fun_mk (st := s_ratio) lR cR kR
  have bR := FR.binds (ps := ["top", "bottom"]) fun _ _ _ _ _ _ us hl => match us, hl with | [_, _], _ => rfl
  have gR := PySem.W.mg_of X G aR
  have FPL := fun_mk (st := s_plus) lPL cPL kPL
  have bPL := FPL.binds (ps := ["one", "other"]) fun _ _ _ _ _ _ us hl => match us, hl with | [_, _], _ => rfl
  have gPL := PySem.W.mg_of X G aPL
  have FM := fun_mk (st := s_minus) lM cM kM
  have bM := FM.binds (ps := ["one", "other"]) fun _ _ _ _ _ _ us hl => match us, hl with | [_, _], _ => rfl
  have gM := PySem.W.mg_of X G aM
  have FT := fun_mk (st := s_times) lT cT kT
  have bT := FT.binds (ps := ["one", "other"]) fun _ _ _ _ _ _ us hl => match us, hl with | [_, _], _ => rfl
  have gT := PySem.W.mg_of X G aT
  have FO := fun_mk (st := s_over) lO cO kO
  have bO := FO.binds (ps := ["one", "other"]) fun _ _ _ _ _ _ us hl => match us, hl with | [_, _], _ => rfl
  have gO := PySem.W.mg_of X G aO
  have FOB := fun_mk (st := s_oob) lOB cOB kOB
  have bOB := FOB.binds (ps := ["told"]) fun _ _ _ _ _ _ us hl => match us, hl with | [_], _ => rfl
  have gOB := PySem.W.mg_of X G aOB
  have FAD := fun_mk (st := s_added) lAD cAD kAD
  have bAD := FAD.binds (ps := ["told"]) fun _ _ _ _ _ _ us hl => match us, hl with | [_], _ => rfl
  have gAD := PySem.W.mg_of X G aAD
  have FBR := fun_mk (st := s_behind) lBR cBR kBR
  have bBR := FBR.binds (ps := ["life"]) fun _ _ _ _ _ _ us hl => match us, hl with | [_], _ => rfl
  have gBR := PySem.W.mg_of X G aBR
  have FCT := fun_mk (st := s_chto) lCT cCT kCT
  have bCT := FCT.binds (ps := ["life", "most"]) fun _ _ _ _ _ _ us hl => match us, hl with | [_, _], _ => rfl
  have gCT := PySem.W.mg_of X G aCT
  have FLS := fun_mk (st := s_ls) lLS cLS kLS
  have bLS := FLS.binds (ps := ["life", "most"]) fun _ _ _ _ _ _ us hl => match us, hl with | [_, _], _ => rfl
  have gLS := PySem.W.mg_of X G aLS
  have FMI := fun_mk (st := s_miss) lMI cMI kMI
  have bMI := FMI.binds (ps := ["life"]) fun _ _ _ _ _ _ us hl => match us, hl with | [_], _ => rfl
  have gMI := PySem.W.mg_of X G aMI
  have FWN := fun_mk (st := s_wn) lWN cWN kWN
  have bWN := FWN.binds (ps := ["row"]) fun _ _ _ _ _ _ us hl => match us, hl with | [_], _ => rfl
  have gWN := PySem.W.mg_of X G aWN
  have FCN := fun_mk (st := s_cn) lCN cCN kCN
  have bCN := FCN.binds (ps := ["kinds"]) fun _ _ _ _ _ _ us hl => match us, hl with | [_], _ => rfl
  have gCN := PySem.W.mg_of X G aCN
  have FKL := fun_mk (st := s_kl) lKL cKL kKL
  have bKL := FKL.binds (ps := ["kinds", "kind"]) fun _ _ _ _ _ _ us hl => match us, hl with | [_, _], _ => rfl
  have gKL := PySem.W.mg_of X G aKL
  have FME := fun_mk (st := s_mean) lME cME kME
  have bME := FME.binds (ps := ["life"]) fun _ _ _ _ _ _ us hl => match us, hl with | [_], _ => rfl
  have gME := PySem.W.mg_of X G aME
  have FMO := fun_mk (st := s_mom) lMO cMO kMO
  have bMO := FMO.binds (ps := ["life"]) fun _ _ _ _ _ _ us hl => match us, hl with | [_], _ => rfl
  have gMO := PySem.W.mg_of X G aMO
  have FLED := fun_mk (st := s_led) lLED cLED kLED
  have bLED := FLED.binds (ps := ["kinds"]) fun _ _ _ _ _ _ us hl => match us, hl with | [_], _ => rfl
  have gLED := PySem.W.mg_of X G aLED
  have FSHT := fun_mk (st := s_sht) lSHT cSHT kSHT
  have bSHT := FSHT.binds (ps := ["kinds"]) fun _ _ _ _ _ _ us hl => match us, hl with | [_], _ => rfl
  have gSHT := PySem.W.mg_of X G aSHT
  have FWHO := fun_mk (st := s_who) lWHO cWHO kWHO
  have bWHO := FWHO.binds (ps := ["leads", "home"]) fun _ _ _ _ _ _ us hl => match us, hl with | [_, _], _ => rfl
  have gWHO := PySem.W.mg_of X G aWHO
  have FAPT := fun_mk (st := s_apt) lAPT cAPT kAPT
  have bAPT := FAPT.binds (ps := ["leads"]) fun _ _ _ _ _ _ us hl => match us, hl with | [_], _ => rfl
  have gAPT := PySem.W.mg_of X G aAPT
  have FREA := fun_mk (st := s_rea) lREA cREA kREA
  have bREA := FREA.binds (ps := ["leads", "kind"]) fun _ _ _ _ _ _ us hl => match us, hl with | [_, _], _ => rfl
  have gREA := PySem.W.mg_of X G aREA
  have FWTS := fun_mk (st := s_wts) lWTS cWTS kWTS
  have bWTS := FWTS.binds (ps := ["chances", "home"]) fun _ _ _ _ _ _ us hl => match us, hl with | [_, _], _ => rfl
  have gWTS := PySem.W.mg_of X G aWTS
  have FPTS := fun_mk (st := s_pts) lPTS cPTS kPTS
  have bPTS := FPTS.binds (ps := ["flows"]) fun _ _ _ _ _ _ us hl => match us, hl with | [_], _ => rfl
  have gPTS := PySem.W.mg_of X G aPTS
  have FSHS := fun_mk (st := s_shs) lSHS cSHS kSHS
  have bSHS := FSHS.binds (ps := ["kinds"]) fun _ _ _ _ _ _ us hl => match us, hl with | [_], _ => rfl
  have gSHS := PySem.W.mg_of X G aSHS
  have FKS := fun_mk (st := s_ks) lKS cKS kKS
  have bKS := FKS.binds (ps := ["kinds", "first", "beat"]) fun _ _ _ _ _ _ us hl => match us, hl with | [_, _, _], _ => rfl
  have gKS := PySem.W.mg_of X G aKS
  have FPR := fun_mk (st := s_pr) lPR cPR kPR
  have bPR := FPR.binds (ps := ["kinds", "first", "most", "shut"]) fun _ _ _ _ _ _ us hl => match us, hl with | [_, _, _, _], _ => rfl
  have gPR := PySem.W.mg_of X G aPR
  have FE := fun_mk (st := s_feed) lE cE kE
  have bE := FE.binds (ps := ["_law_script"]) fun _ _ _ _ _ _ us hl => match us, hl with | [_], _ => rfl
  have gE := PySem.W.mg_of X G aE
  have FD := fun_mk (st := s_draw) lD cD kD
  have bD := FD.binds (ps := ["_law_feed_here", "_law_size"]) fun _ _ _ _ _ _ us hl => match us, hl with | [_, _], _ => rfl
  have gD := PySem.W.mg_of X G aD
  have FL := fun_mk (st := s_lowest) lL cL kL
  have bL := FL.binds (ps := ["_law_top", "_law_bottom"]) fun _ _ _ _ _ _ us hl => match us, hl with | [_, _], _ => rfl
  have gL := PySem.W.mg_of X G aL
  have FLA2 := fun_mk (st := s_la2) lLA2 cLA2 kLA2
  have bLA2 := FLA2.binds (ps := ["_law_one", "_law_other"]) fun _ _ _ _ _ _ us hl => match us, hl with | [_, _], _ => rfl
  have gLA2 := PySem.W.mg_of X G aLA2
  have FLT := fun_mk (st := s_lby) lLT cLT kLT
  have bLT := FLT.binds (ps := ["_law_one", "_law_other"]) fun _ _ _ _ _ _ us hl => match us, hl with | [_, _], _ => rfl
  have gLT := PySem.W.mg_of X G aLT
  have FLAL := fun_mk (st := s_lall) lLAL cLAL kLAL
  have bLAL := FLAL.binds (ps := ["_law_numbers"]) fun _ _ _ _ _ _ us hl => match us, hl with | [_], _ => rfl
  have gLAL := PySem.W.mg_of X G aLAL
  have FSKI := fun_mk (st := s_ski) lSKI cSKI kSKI
  have bSKI := FSKI.binds (ps := ["_law_feed_here"]) fun _ _ _ _ _ _ us hl => match us, hl with | [_], _ => rfl
  have gSKI := PySem.W.mg_of X G aSKI
  have FLRN := fun_mk (st := s_lrn) lLRN cLRN kLRN
  have bLRN := FLRN.binds (ps := ["_law_kinds", "_law_first"]) fun _ _ _ _ _ _ us hl => match us, hl with | [_, _], _ => rfl
  have gLRN := PySem.W.mg_of X G aLRN
  have FRGT := fun_mk (st := s_rgt) lRGT cRGT kRGT
  have bRGT := FRGT.binds (ps := ["_law_kinds", "_law_first", "_law_due"]) fun _ _ _ _ _ _ us hl => match us, hl with | [_, _, _], _ => rfl
  have gRGT := PySem.W.mg_of X G aRGT
  have FZ := fun_mk (st := s_law) lZ cZ kZ
  have bZ := FZ.binds (ps := ["_law_script"]) fun _ _ _ _ _ _ us hl => match us, hl with | [_], _ => rfl
  have gZ := PySem.W.mg_of X G aZ
  have n_abs := PySem.W.mg_none_of X G z_abs
  have n_any := PySem.W.mg_none_of X G z_any
  have n_enumerate := PySem.W.mg_none_of X G z_enumerate
  have n_len := PySem.W.mg_none_of X G z_len
  have n_list := PySem.W.mg_none_of X G z_list
  have n_max := PySem.W.mg_none_of X G z_max
  have n_range := PySem.W.mg_none_of X G z_range
  have n_repr := PySem.W.mg_none_of X G z_repr
  have n_sorted := PySem.W.mg_none_of X G z_sorted
  have n_sum := PySem.W.mg_none_of X G z_sum
  have n_tuple := PySem.W.mg_none_of X G z_tuple
  have n_zip := PySem.W.mg_none_of X G z_zip
  have m_NOUGHT := PySem.W.mg_of X G g_NOUGHT
  have r_NOUGHT : ∀ H, RAt K H a_NOUGHT (0, 1) := fun H => .inr ⟨_, _, _, l_NOUGHT, rfl, rfl, by show 2 ≤ sizeLine; decide, .cons ⟨_, rfl⟩ (.cons ⟨_, rfl⟩ .nil)⟩
  have m_ONE := PySem.W.mg_of X G g_ONE
  have r_ONE : ∀ H, RAt K H a_ONE (1, 1) := fun H => .inr ⟨_, _, _, l_ONE, rfl, rfl, by show 2 ≤ sizeLine; decide, .cons ⟨_, rfl⟩ (.cons ⟨_, rfl⟩ .nil)⟩
  refine ⟨PySem.W.fnOf "law" "law" (defArgs s_law) (defBody s_law) (defScope s_law) .none kVZ dcZ pmZ anZ cdZ ctZ, fun s v => .of_eq rfl, fun base _ _ => ?_⟩
  have C : Consts K mg a_NOUGHT a_ONE := ⟨m_NOUGHT, m_ONE, r_NOUGHT, r_ONE⟩
  have GWN : FnOk l.prog w K mg base CX0 1 fWN _ ["row"] (spWn K) := ok_wn FWN C n_len
  have GWHO := ok_who (P := l.prog) (w := w) (base := base) FWHO n_len n_range n_tuple
  have GREA := ok_rea (P := l.prog) (w := w) (base := base) FREA n_len n_sorted n_tuple
  have GE : FnOk l.prog w K mg base CX0 1 fE _ ["_law_script"] (spFeed K) := ok_feed FE n_list
  have GD : FnOk l.prog w K mg base CX0 1 fD _ ["_law_feed_here", "_law_size"] spDraw := ok_draw FD n_len
  have GC : FnOk l.prog w K mg base CX0 1 fC _ ["one", "other"] spCd := ok_cd (k := 0) FC n_abs
  have GL : FnOk l.prog w K mg base CX0 1 fL _ ["_law_top", "_law_bottom"] spLow := ok_lowest FL n_abs
  have GLRN := ok_lrn (P := l.prog) (w := w) (base := base) FLRN n_len n_range
  have GR := ok_ratio (P := l.prog) (w := w) (base := base) FR FC bC gC n_abs
  have GOB := ok_oob (P := l.prog) (w := w) (base := base) FOB FC bC gC n_abs
  have GOT := ok_oobT (P := l.prog) (w := w) (base := base) FOB FC bC gC n_abs
  have GAPT := ok_apt FAPT FREA bREA gREA GREA n_any n_len n_range
  have GLA2 := ok_la2 FLA2 FL bL gL GL
  have GLT := ok_lby FLT FL bL gL GL
  have GSKI := ok_ski FSKI FD bD gD GD n_max n_range n_tuple
  have GPL := ok_plus FPL FR bR gR GR
  have GM := ok_minus FM FR bR gR GR
  have GT := ok_times FT FR bR gR GR
  have GO := ok_over FO FR bR gR GR
  have GAD := ok_added FAD FOB bOB gOB GOB FR bR gR GR n_sum
  have GAT := ok_addedT FAD FOB bOB gOB GOT FR bR gR GR n_sum
  have GPR := ok_pr FPR FOB bOB gOB GOB FR bR gR GR n_enumerate n_len n_range n_zip
  have GLAL := ok_lall FLAL FLA2 bLA2 gLA2 GLA2
  have GBR := ok_behind FBR C FO bO gO GO FT bT gT GT FM bM gM GM
  have GCT := ok_chto FCT C.n FT bT gT GT n_len n_list
  have GCN := ok_cn FCN C FPL bPL gPL GPL n_len n_tuple
  have GKL := ok_kl FKL C FPL bPL gPL GPL FWN bWN gWN GWN n_max n_tuple
  have GLS := ok_ls FLS C FOB bOB gOB GOB FCT bCT gCT GCT FR bR gR GR
  have GMI := ok_miss FMI C FBR bBR gBR GBR FAD bAD gAD GAD FM bM gM GM
  have GMO := ok_mom FMO C FM bM gM GM FBR bBR gBR GBR FO bO gO GO FT bT gT GT FPL bPL gPL GPL
  have GLED := ok_led FLED FCN bCN gCN GCN n_enumerate
  have GME := ok_mean FME C FMI bMI gMI GMI FT bT gT GT FMO bMO gMO GMO FAD bAD gAD GAD n_enumerate n_len
  have GKS := ok_ks FKS FPR bPR gPR GPR FLS bLS gLS GLS FKL bKL gKL GKL FAD bAD gAD GAD FT bT gT GT n_len n_range n_tuple n_zip
  have GPTS : FnOk l.prog w K mg base CX0 7 fPTS _ _ (spPts K 4) := ok_ptss (P := l.prog) (w := w) (base := base) (fun n ih => ok_pts FPTS C FAD bAD gAD GAD FO bO gO GO FPL bPL gPL GPL FT bT gT GT FPTS bPTS gPTS ih n_len n_zip) 4
  have GWTS := ok_wts FWTS FPTS bPTS gPTS GPTS FAD bAD gAD GAD FO bO gO GO n_len n_range n_tuple
  have GSHT := ok_sht FSHT FLED bLED gLED GLED FWHO bWHO gWHO GWHO FWTS bWTS gWTS GWTS FCN bCN gCN GCN FAPT bAPT gAPT GAPT n_len n_range
  have GSHS := ok_shs FSHS FSHT bSHT gSHT GSHT FT bT gT GT FME bME gME GME FKL bKL gKL GKL FAD bAD gAD GAD FO bO gO GO n_enumerate n_tuple
  have GRGT := ok_rgt FRGT FLRN bLRN gLRN GLRN FKS bKS gKS GKS FLT bLT gLT GLT FLAL bLAL gLAL GLAL n_len n_range n_repr n_sorted n_tuple
  exact ok_law FZ FE bE gE GE FSKI bSKI gSKI GSKI FSHS bSHS gSHS GSHS FSHT bSHT gSHT GSHT FRGT bRGT gRGT GRGT n_len n_range
end Fp
open PySem PySem.W PyProof.Rows
set_option maxHeartbeats 0 in
theorem PySem.Challenge.cw_freshparts_k65_whole_kinds_stand_as_shar_holds : PySem.Challenge.rw_freshparts_k65_whole_kinds_stand_as_shar.Holds := by
  w_on; o_law; k_head; (case hw => w_witness2)
  k_fill
  refine Fp.walkG (l := PySem.Challenge.rw_freshparts_k65_whole_kinds_stand_as_shar) (n := 63) (lv := 12) (x := "_law_script") (sp := fun w => Fp.spLaw _) rfl (by decide) rfl ⟨rfl, by decide, by decide⟩ (fun w h Y => PySem.W.kIn_of Y) ?F (fun _ _ a ns hl _ hS => ⟨a, ns, rfl, hS, fun _ => rfl⟩)
  case F =>
    intro w mg fa h KX G hmg
    refine' Fp.all_mk KX G hmg ?aC ?lC ?cC ?kC ?aR ?lR ?cR ?kR ?aPL ?lPL ?cPL ?kPL ?aM ?lM ?cM ?kM ?aT ?lT ?cT ?kT ?aO ?lO ?cO ?kO ?aOB ?lOB ?cOB ?kOB ?aAD ?lAD ?cAD ?kAD ?aBR ?lBR ?cBR ?kBR ?aCT ?lCT ?cCT ?kCT ?aLS ?lLS ?cLS ?kLS ?aMI ?lMI ?cMI ?kMI ?aWN ?lWN ?cWN ?kWN ?aCN ?lCN ?cCN ?kCN ?aKL ?lKL ?cKL ?kKL ?aME ?lME ?cME ?kME ?aMO ?lMO ?cMO ?kMO ?aLED ?lLED ?cLED ?kLED ?aSHT ?lSHT ?cSHT ?kSHT ?aWHO ?lWHO ?cWHO ?kWHO ?aAPT ?lAPT ?cAPT ?kAPT ?aREA ?lREA ?cREA ?kREA ?aWTS ?lWTS ?cWTS ?kWTS ?aPTS ?lPTS ?cPTS ?kPTS ?aSHS ?lSHS ?cSHS ?kSHS ?aKS ?lKS ?cKS ?kKS ?aPR ?lPR ?cPR ?kPR ?aE ?lE ?cE ?kE ?aD ?lD ?cD ?kD ?aL ?lL ?cL ?kL ?aLA2 ?lLA2 ?cLA2 ?kLA2 ?aLT ?lLT ?cLT ?kLT ?aLAL ?lLAL ?cLAL ?kLAL ?aSKI ?lSKI ?cSKI ?kSKI ?aLRN ?lLRN ?cLRN ?kLRN ?aRGT ?lRGT ?cRGT ?kRGT ?aZ ?lZ ?cZ ?kZ ?g_NOUGHT ?l_NOUGHT ?g_ONE ?l_ONE ?z_abs ?z_any ?z_enumerate ?z_len ?z_list ?z_max ?z_range ?z_repr ?z_sorted ?z_sum ?z_tuple ?z_zip
    (case aC => first | k_is | rfl); (case lC => first | k_is | rfl); (case cC => first | k_is | rfl); (case kC => first | k_is | rfl); (case aR => first | k_is | rfl); (case lR => first | k_is | rfl)
    (case cR => first | k_is | rfl); (case kR => first | k_is | rfl); (case aPL => first | k_is | rfl); (case lPL => first | k_is | rfl); (case cPL => first | k_is | rfl); (case kPL => first | k_is | rfl)
    (case aM => first | k_is | rfl); (case lM => first | k_is | rfl); (case cM => first | k_is | rfl); (case kM => first | k_is | rfl); (case aT => first | k_is | rfl); (case lT => first | k_is | rfl)
    (case cT => first | k_is | rfl); (case kT => first | k_is | rfl); (case aO => first | k_is | rfl); (case lO => first | k_is | rfl); (case cO => first | k_is | rfl); (case kO => first | k_is | rfl)
    (case aOB => first | k_is | rfl); (case lOB => first | k_is | rfl); (case cOB => first | k_is | rfl); (case kOB => first | k_is | rfl); (case aAD => first | k_is | rfl); (case lAD => first | k_is | rfl)
    (case cAD => first | k_is | rfl); (case kAD => first | k_is | rfl); (case aBR => first | k_is | rfl); (case lBR => first | k_is | rfl); (case cBR => first | k_is | rfl); (case kBR => first | k_is | rfl)
    (case aCT => first | k_is | rfl); (case lCT => first | k_is | rfl); (case cCT => first | k_is | rfl); (case kCT => first | k_is | rfl); (case aLS => first | k_is | rfl); (case lLS => first | k_is | rfl)
    (case cLS => first | k_is | rfl); (case kLS => first | k_is | rfl); (case aMI => first | k_is | rfl); (case lMI => first | k_is | rfl); (case cMI => first | k_is | rfl); (case kMI => first | k_is | rfl)
    (case aWN => first | k_is | rfl); (case lWN => first | k_is | rfl); (case cWN => first | k_is | rfl); (case kWN => first | k_is | rfl); (case aCN => first | k_is | rfl); (case lCN => first | k_is | rfl)
    (case cCN => first | k_is | rfl); (case kCN => first | k_is | rfl); (case aKL => first | k_is | rfl); (case lKL => first | k_is | rfl); (case cKL => first | k_is | rfl); (case kKL => first | k_is | rfl)
    (case aME => first | k_is | rfl); (case lME => first | k_is | rfl); (case cME => first | k_is | rfl); (case kME => first | k_is | rfl); (case aMO => first | k_is | rfl); (case lMO => first | k_is | rfl)
    (case cMO => first | k_is | rfl); (case kMO => first | k_is | rfl); (case aLED => first | k_is | rfl); (case lLED => first | k_is | rfl); (case cLED => first | k_is | rfl); (case kLED => first | k_is | rfl)
    (case aSHT => first | k_is | rfl); (case lSHT => first | k_is | rfl); (case cSHT => first | k_is | rfl); (case kSHT => first | k_is | rfl); (case aWHO => first | k_is | rfl); (case lWHO => first | k_is | rfl)
    (case cWHO => first | k_is | rfl); (case kWHO => first | k_is | rfl); (case aAPT => first | k_is | rfl); (case lAPT => first | k_is | rfl); (case cAPT => first | k_is | rfl); (case kAPT => first | k_is | rfl)
    (case aREA => first | k_is | rfl); (case lREA => first | k_is | rfl); (case cREA => first | k_is | rfl); (case kREA => first | k_is | rfl); (case aWTS => first | k_is | rfl); (case lWTS => first | k_is | rfl)
    (case cWTS => first | k_is | rfl); (case kWTS => first | k_is | rfl); (case aPTS => first | k_is | rfl); (case lPTS => first | k_is | rfl); (case cPTS => first | k_is | rfl); (case kPTS => first | k_is | rfl)
    (case aSHS => first | k_is | rfl); (case lSHS => first | k_is | rfl); (case cSHS => first | k_is | rfl); (case kSHS => first | k_is | rfl); (case aKS => first | k_is | rfl); (case lKS => first | k_is | rfl)
    (case cKS => first | k_is | rfl); (case kKS => first | k_is | rfl); (case aPR => first | k_is | rfl); (case lPR => first | k_is | rfl); (case cPR => first | k_is | rfl); (case kPR => first | k_is | rfl)
    (case aE => first | k_is | rfl); (case lE => first | k_is | rfl); (case cE => first | k_is | rfl); (case kE => first | k_is | rfl); (case aD => first | k_is | rfl); (case lD => first | k_is | rfl)
    (case cD => first | k_is | rfl); (case kD => first | k_is | rfl); (case aL => first | k_is | rfl); (case lL => first | k_is | rfl); (case cL => first | k_is | rfl); (case kL => first | k_is | rfl)
    (case aLA2 => first | k_is | rfl); (case lLA2 => first | k_is | rfl); (case cLA2 => first | k_is | rfl); (case kLA2 => first | k_is | rfl); (case aLT => first | k_is | rfl); (case lLT => first | k_is | rfl)
    (case cLT => first | k_is | rfl); (case kLT => first | k_is | rfl); (case aLAL => first | k_is | rfl); (case lLAL => first | k_is | rfl); (case cLAL => first | k_is | rfl); (case kLAL => first | k_is | rfl)
    (case aSKI => first | k_is | rfl); (case lSKI => first | k_is | rfl); (case cSKI => first | k_is | rfl); (case kSKI => first | k_is | rfl); (case aLRN => first | k_is | rfl); (case lLRN => first | k_is | rfl)
    (case cLRN => first | k_is | rfl); (case kLRN => first | k_is | rfl); (case aRGT => first | k_is | rfl); (case lRGT => first | k_is | rfl); (case cRGT => first | k_is | rfl); (case kRGT => first | k_is | rfl)
    (case aZ => first | k_is | rfl); (case lZ => first | k_is | rfl); (case cZ => first | k_is | rfl); (case kZ => first | k_is | rfl); (case g_NOUGHT => first | k_is | rfl); (case l_NOUGHT => first | k_is | rfl)
    (case g_ONE => first | k_is | rfl); (case l_ONE => first | k_is | rfl); (case z_abs => first | k_is | rfl); (case z_any => first | k_is | rfl); (case z_enumerate => first | k_is | rfl); (case z_len => first | k_is | rfl)
    (case z_list => first | k_is | rfl); (case z_max => first | k_is | rfl); (case z_range => first | k_is | rfl); (case z_repr => first | k_is | rfl); (case z_sorted => first | k_is | rfl); (case z_sum => first | k_is | rfl)
    (case z_tuple => first | k_is | rfl); (case z_zip => first | k_is | rfl)
