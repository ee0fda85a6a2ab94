import PyProof.Rows.All
import Wide.All
import OpenK.AllK
import Wide.FinOn
import PyProof.ReprRoads
import PyProof.ReprLen
import HandS.Base
import HandS.Call
import HandS.List
import HandS.Ends
import HandS.Exc
import HandS.TryOnly
import HandS.ExcOwn
import HandS.ExcInit
import HandS.Dict
import HandS.Words
import HandS.WordsList
import HandS.WordsDict
import HandS.WordsExc
import HandS.Comp
import HandS.Iter
import HandS.Wide
import HandS.TupAny
import HandS.TupMul
import HandS.Conv
import HandS.Star
import HandS.Style
import HandS.Walk
import HandS.RaiseMore
import PyProof.CallFns
import HandS.WideBits
import KE.GoesEnumKw
import HandS.IsInst
import HandS.SortRule
import HandS.DictTup
import HandS.DictSubView
import KE.KDictSum
import HandS.SortKw
import KE.DataMinMax
import PySem.Challenge.RW_freshparts_k56_first_ones_of_kinds
set_option Elab.async false
set_option linter.all false
set_option maxRecDepth 100000
set_option maxHeartbeats 4000000
namespace Fp
open PySem PySem.Spec PyProof.Rows L2

/-! ### promises of defs that show things: no repr runs around the call -/
structure FnG (P : Program) (w : World) (K : PySem.W.Frag) (mg : Str → Option Value) (base : Heap) (CX : CXT) (lv : Nat) (f : Addr) (fd : FuncData) (ps : List Str) (sp : Sp) : Prop where
  lens : ∀ vs H Q E, sp vs H Q E → vs.length = ps.length
  runs : ∀ (A : Around) (outer : List Env) (s : Shared) (H : Hp) (args : Args) (us : List Value) (vs : List V) (Q : VK) (E : XK), A.guards = some [] → Room lv A → Env0 P w K mg base A outer s H →
    BindsTo s fd args (ps.zip us) → Vals vs us → sp vs H Q E → codeAny (model P w) A (.call (.ref f) args) (CR CX outer P w H s Q E) s

section
variable {X : Cx} {CX : CXT} {lv : Nat} {f : Addr} {fd : FuncData} {ps : List Str} {sp : Sp} {E : XK} {x : Str} {p pos : Pos} {e : Expr} {es : List Expr} {t : TA}
theorem run_g {pins : List (Addr × Obj)} {σ : L2.St} {H : Hp} {s : Shared} {Q : VK} {us : List Value} {vs : List V} (G : FnG X.prog X.w X.K X.mg X.base CX lv f fd ps sp) (hq : X.A.guards = some []) (hr : Room lv X.A) (hb : Binds X.K fd ps [])
    (hx : Passes CX X E) (I : Inv X pins σ H s) (r : Vals vs us) (h : sp vs H Q E) : wpAny (model X.prog X.w) X.A (call (.ref f) us) (EP X pins σ Q) X.xe s := by
  have hl : us.length = ps.length := r.length.symm.trans (G.lens _ _ _ _ h)
  have b := hb s us I.kIn (by rw [List.append_nil]; exact hl)
  rw [List.append_nil] at b
  refine wpAny_call (codeAny_mono (G.runs X.A X.stack s H ⟨us, []⟩ us vs Q E hq hr I.env0 b r h) fun res s2 z => ?_)
  match res, z with
  | .error e, z => exact hx pins σ H s e s2 I z
  | .ok (.ret u), z => exact I.after z
  | .ok .next, z => exact False.elim z
  | .ok .brk, z => exact False.elim z
  | .ok .cont, z => exact False.elim z
def tCallG (sp : Sp) (E : XK) (t : TA) : TE := fun σ H Q => t σ H fun vs H1 => sp vs H1 Q E
theorem pe_callG (G : FnG X.prog X.w X.K X.mg X.base CX lv f fd ps sp) (hq : X.A.guards = some []) (hr : Room lv X.A) (hg : Gl X x) (hm : X.mg x = some (.ref f)) (hk : PySem.W.keepIn X.K (.ref f) = true) (hb : Binds X.K fd ps []) (hx : Passes CX X E)
    (ha : PA X (e :: es) t) (hdb : (x == ("__debug__" : Str)) = false := by decide) (he : starEach (e :: es) X.env = (false, eval e X.env) :: starEach es X.env := by rfl) (hpl : (backTo pos (starEach es X.env)).any (·.1) = false := by rfl) :
    PE X (.Call (.Name x p) (e :: es) [] pos) (tCallG sp E t) := by
  refine ⟨fun pins s σ H Q I h => wpAny_Call_Name_kw (ld_glob I hg hm ?_ hdb)⟩
  refine PySem.W.callWith_K (h₀ := X.base) I.ok.mod.kin hk (thn (ha.run pos pins s σ H _ I h) fun us s1 z => ?_) he hpl
  obtain ⟨vs, H1, I1, r, q⟩ := z
  exact ⟨I1.kIn, run_g G hq hr hb hx I1 r q⟩
end

section
variable {P : Program} {w : World} {K : PySem.W.Frag} {mg : Str → Option Value} {base : Heap}
theorem okG {x qual : Str} {st : Stmt} {f : Addr} {fd : FuncData} {N ps : List Str} {lv : Nat} {sp : Sp} (F : Fun K x qual st f fd) (S : FnScope N ps (defScope st)) (len : ∀ vs H Q E, sp vs H Q E → vs.length = ps.length)
    (hbody : ∀ (cdv : Value) (A : Around) (outer : List Env) (s : Shared) (H : Hp) (vs : List V) (Q : VK) (E : XK), (A.deeper (envOfC qual (defScope st) s.heap.objs.size f cdv)).guards = some [] → Room lv (A.deeper (envOfC qual (defScope st) s.heap.objs.size f cdv)) →
      sp vs H Q E → ∃ t, PSs (cxOf CX0 P w K mg base N qual (defScope st) f cdv A outer s H E).nox (defBody st) t ∧ t { nx := fun _ H' => Q .non H', rt := Q } (start N vs) H) : FnG P w K mg base CX0 (lv + 1) f fd ps sp := by
  obtain ⟨oc, od, kV, doc, pm, an, cdv, ct, osl, rfl, lk, hcd⟩ := F.ex
  refine ⟨len, fun A outer s H args us vs Q E hq hr e0 hb r hsp => ?_⟩
  have hl := len _ _ _ _ hsp
  have KX : K.In s.heap := e0.mod.kin.keeps fun b o z => (e0.bs b o z).1
  have lim : s.heap.NoLimit := e0.mod.nolimit.keeps fun b o z => (e0.bs b o z).1
  have kinds : ∀ y ∈ ps.zip us, (defScope st).names.lookup y.1 = some .local ∨ ((defScope st).names.lookup y.1 = some .cell ∧ ((cellsFrom (s.heap.objs.size + 1) (defScope st).names []).lookup y.1).isSome = true) := by
    rintro ⟨n, v⟩ hy
    exact (S.par n (List.of_mem_zip hy).1).imp id fun q => ⟨q, PySem.W.cellsFrom_some _ _ _ (.inl q)⟩
  refine codeAny_call_function hr.depth (KX _ _ lk) rfl S.co S.gen rfl (PySem.W.codeRec_of KX hcd) (hb _ _ _ _ ?_)
  refine wpAny_newFunctionEnv_cells S.kind kinds fun env he s1 z => ?_
  subst he
  refine ⟨lim.keeps z.toInCall.keep, codeAny_func ?_⟩
  obtain ⟨t, ht, hq2⟩ := hbody cdv A outer s H vs Q E hq (hr.deeper _) hsp
  have I : Inv (cxOf CX0 P w K mg base N qual (defScope st) f cdv A outer s H E) [] (start N vs) H s1 := inv_start S hr.hd e0 hl r z
  refine wpAny_mono (ht.nox.run [] s1 (start N vs) H _ I hq2) (fun fl s2 hs => ?_) fun _ _ hs => hs
  have fin : ∀ {σ' : L2.St} {H' : Hp} {v : V} {u : Value}, Inv (cxOf CX0 P w K mg base N qual (defScope st) f cdv A outer s H E) [] σ' H' s2 → RelV v u → Q v H' → CE outer P w H s Q u s2 :=
    fun {_ H' v _} J rv q => ⟨v, H', J.os, J.bare, J.base, J.hok, rv, q⟩
  match fl, hs with
  | .ret u, ⟨v, σ', H', J, rv, q⟩ => exact fin J rv q
  | .next, ⟨σ', H', J, q⟩ => exact fin (v := V.non) (u := Value.none) J rfl q
  | .brk, ⟨_, _, _, q⟩ => exact False.elim q
  | .cont, ⟨_, _, _, q⟩ => exact False.elim q
end

/-! ### the end of a law that shows things -/
theorem lawG {P : Program} {w : World} {K : PySem.W.Frag} {mg mb : Str → Option Value} {lv : Nat} {fa a : Addr} {fd : FuncData} {x : Str} {sp : Sp} {s1 : Shared} {vs : List Value} {ns : List Int}
    (KX : K.In s1.heap) (hns : s1.heap.Ns mainGlobals mg) (hb : s1.heap.Ns builtinsNs mb) (hbb : ∀ x : Str, x ≠ "__name__" → mb x = bootBuiltins x) (hlim : s1.heap.NoLimit) (hg : s1.gens = #[])
    (ha : s1.heap.get? a = some { cls := .type "list", data := .seq vs.toArray }) (hi : IntsAre vs ns) (hl : ns.length ≤ sizeLine) (hr : Room lv callerA)
    (G : ∀ base : Heap, K.In base → base.Ns mainGlobals mg → FnG P w K mg base CX0 lv fa fd [x] sp) (hbind : ∀ (s : Shared) (u : Value), BindsTo s fd ⟨[u], []⟩ [(x, u)])
    (hsp : ∀ H : Hp, Only H → SqL K H a (ns.map V.int) → sp [.ref a] H (fun v _ => v = .bl true) fun _ _ _ => False) :
    codeAny (model P w) callerA (.call (.ref fa) ⟨[.ref a], []⟩) (fun r s2 => r = .ok (.ret (.bool true)) ∧ OldK s1.heap s2.heap ∧ s2.os = s1.os ∧ AllBare s2.gens) s1 := by
  have rv := vals_ints hi
  have lenV := hi.length
  have main : ∀ H : Hp, Only H → SqL K H a (ns.map V.int) → HOk P w H s1.heap → (∀ b, H b ≠ none → b = a) → (H a ≠ none → K.lookup a = none) →
      codeAny (model P w) callerA (.call (.ref fa) ⟨[.ref a], []⟩) (fun r s2 => r = .ok (.ret (.bool true)) ∧ OldK s1.heap s2.heap ∧ s2.os = s1.os ∧ AllBare s2.gens) s1 := by
    intro H hO hS hok hA hK
    have kept : ∀ {b : Addr} {o : Obj}, s1.heap.get? b = some o → H b = none → (hidT s1.heap H).get? b = some o := fun z n => hidT_get z n
    have isA : ∀ {b : Addr} {u : HO}, H b = some u → b = a := fun {b u} z => hA b (by rw [z]; simp)
    have noD : ∀ {b : Addr} {o : Obj} {es : Array DictEntry} {ep : Nat}, s1.heap.get? b = some o → o.data = .dict es ep → H b = none := by
      intro b o es ep z d
      match q : H b with
      | none => rfl
      | some u =>
        have e2 := isA q
        subst e2
        rw [ha] at z; cases z
        have d2 : Data.seq vs.toArray _ = Data.dict es ep := d
        cases d2
    have nsK : ∀ {b : Addr} {m : Str → Option Value}, s1.heap.Ns b m → (hidT s1.heap H).Ns b m := fun {b m} z => by
      obtain ⟨o, es, ep, e1, d1, r1⟩ := z
      exact ⟨o, es, ep, kept e1 (noD e1 d1), d1, r1⟩
    have kinB : K.In (hidT s1.heap H) := fun b o z => kept (KX b o z) (by
      match q : H b with
      | none => rfl
      | some u =>
        have e2 := isA q
        subst e2
        rw [hK (by rw [q]; simp)] at z; cases z)
    have M : Mod K mg (hidT s1.heap H) := ⟨kinB, nsK hns, ⟨mb, nsK hb, hbb⟩, by obtain ⟨mc, h1, h2⟩ := hlim; exact ⟨mc, nsK h1, h2⟩⟩
    have nil_fr : ∀ {b : Addr}, ¬ b ∈ frs [] := fun {b} z => by
      have z2 : b ∈ ([] : List Addr) := z
      simp at z2
    have e0 : Env0 P w K mg (hidT s1.heap H) callerA [] s1 H := ⟨rfl, M, fun b o z => of_hidT z, Nat.le_of_eq (hidT_size _ _), trivial, fun b z => absurd z nil_fr, hok, .of_eq hg⟩
    refine codeAny_mono ((G _ kinB (nsK hns)).runs callerA [] s1 H ⟨[.ref a], []⟩ [.ref a] [.ref a] _ _ rfl hr e0 (hbind s1 (.ref a)) (.cons rfl .nil) (hsp H hO hS)) fun res s2 z => ?_
    match res, z with
    | .error e, z => exact False.elim z
    | .ok .next, z => exact False.elim z
    | .ok .brk, z => exact False.elim z
    | .ok .cont, z => exact False.elim z
    | .ok (.ret u), z =>
      obtain ⟨v, H2, os, bare, un, hok2, r2, q⟩ := z
      have qv : v = .bl true := q
      subst qv
      obtain rfl : u = Value.bool true := r2
      refine ⟨rfl, OldK.of_keep fun b o e1 => ?_, os, bare⟩
      match q : H b with
      | none => exact un.keep b o e1 q nil_fr (by simp)
      | some u =>
        rcases hO b with z | ⟨ob, xs, z⟩
        · rw [q] at z; cases z
        · obtain ⟨g1, _⟩ := hok b _ z
          obtain ⟨g2, _⟩ := hok2 b _ (un.frzs b ob _ z)
          rw [e1] at g1; cases g1
          exact g2
  match hk : K.lookup a with
  | some o =>
    have z := KX a o hk
    rw [ha] at z
    cases z
    refine main (fun _ => none) (fun _ => .inl rfl) (.inr ⟨_, vs.toArray, _, hk, rfl, rfl, rfl, by rw [List.size_toArray, lenV]; exact hl, by simpa using rv⟩) (fun b u z => ?_) (fun b z => absurd rfl z) fun z => absurd rfl z
    have z2 : (none : Option HO) = some u := z
    cases z2
  | none =>
    have yes : ∀ {b : Addr}, b = a → (if b = a then some (HO.frz { cls := .type "list", data := .seq vs.toArray } (.lst (ns.map V.int))) else none) = some (HO.frz { cls := .type "list", data := .seq vs.toArray } (.lst (ns.map V.int))) := fun z => if_pos z
    have nay : ∀ {b : Addr}, b ≠ a → (if b = a then some (HO.frz { cls := .type "list", data := .seq vs.toArray } (.lst (ns.map V.int))) else none) = none := fun z => if_neg z
    refine main (fun b => if b = a then some (HO.frz { cls := .type "list", data := .seq vs.toArray } (.lst (ns.map V.int))) else none) (fun b => ?_) (.inl (.inr ⟨_, yes rfl⟩)) (fun b u z => ?_) (fun b z => ?_) fun _ => hk
    · rcases Classical.em (b = a) with h | h
      · exact .inr ⟨_, _, yes h⟩
      · exact .inl (nay h)
    · rcases Classical.em (b = a) with h | h
      · have z2 := (yes h).symm.trans z
        cases z2
        subst h
        exact ⟨ha, by rw [List.length_map]; exact hl, vs, _, rv, ha⟩
      · have z2 := (nay h).symm.trans z
        cases z2
    · rcases Classical.em (b = a) with h | h
      · exact h
      · exact absurd (nay h) z

theorem walkG {l : PySem.W.OpenLaw} {n lv : Nat} {q : Program} {loose : List Str} {XP : (Str → Option Value) → Heap → Prop} {YP : World → Heap → Prop} {d : DefRec} {K : Params → PySem.W.Frag} {sp : World → Sp} {x : Str}
    (hn : l.most = some n) (hn2 : n ≤ sizeLine) (hdf : d.params.defaults = []) (hr : Room lv callerA) (hY : ∀ (w : World) (h : Heap), YP w h → (K w.params).In h)
    (G : ∀ (w : World) (mg : Str → Option Value) (fa : Addr) (h : Heap), (K w.params).In h → h.Ns mainGlobals mg → mg d.name = some (.ref fa) →
      ∃ fd : FuncData, (∀ (s : Shared) (u : Value), BindsTo s fd ⟨[u], []⟩ [(x, u)]) ∧ ∀ base : Heap, (K w.params).In base → base.Ns mainGlobals mg → FnG l.prog w (K w.params) mg base CX0 lv fa fd [x] (sp w))
    (hsp : ∀ (w : World) (H : Hp) (a : Addr) (ns : List Int), ns.length ≤ n → Only H → SqL (K w.params) H a (ns.map V.int) → sp w [.ref a] H (fun v _ => v = .bl true) fun _ _ _ => False) :
    PySem.W.WalkO q loose XP YP l.row.toRowW d [] (fun f vs => PySem.call f vs) := by
  refine Att.attach_call hn hdf fun w s0 s1 mg mb fa o pm cd doc a vs ns Gr Y ho hd hcd hmg hobj hints hlen hg => ?_
  have KX := hY w _ Y
  obtain ⟨fd, hb, hF⟩ := G w mg fa _ KX Gr.T.g hmg
  exact lawG KX Gr.T.g Gr.T.b Gr.T.builtins Gr.T.nolimit hg hobj hints (Nat.le_trans hlen hn2) hr hF hb fun H hO hS => hsp w H a ns hlen hO hS

/-! ### repr of tuples and lists -/
mutual
theorem dp_noDict {K : PySem.W.Frag} {H : Hp} : ∀ {v : V} {d : PyData}, Dp K H v d → d.hasDict = false
  | _, _, .non => by simp only [PyData.hasDict]
  | _, _, .bl _ => by simp only [PyData.hasDict]
  | _, _, .int _ => by simp only [PyData.hasDict]
  | _, _, .str _ => by simp only [PyData.hasDict]
  | _, _, .lst _ h => by simp only [PyData.hasDict]; exact dp_noDictAll h
  | _, _, .tup _ h => by simp only [PyData.hasDict]; exact dp_noDictAll h
theorem dp_noDictAll {K : PySem.W.Frag} {H : Hp} : ∀ {vs : List V} {ds : List PyData}, DpAll K H vs ds → PyData.hasDictAll ds = false
  | _, _, .nil => by simp only [PyData.hasDictAll]
  | _, _, .cons h r => by simp only [PyData.hasDictAll, dp_noDict h, dp_noDictAll r, Bool.or_false]
end
/-! how long a thing is, shown, at most -/
mutual
def cost : PyData → Nat
  | .none | .bool _ => 5
  | .int _ => 2000
  | .str x => 10 * x.cps.size + 2
  | .list xs | .tuple xs => costAll xs + 3
  | .dict _ => 0
def costAll : List PyData → Nat
  | [] => 0
  | x :: xs => cost x + 2 + costAll xs
end
mutual
theorem shown_cost : ∀ d : PyData, d.leavesShort 2000 = true → d.hasDict = false → d.shown.length ≤ cost d
  | .none, _, _ => by decide
  | .bool b, _, _ => by cases b <;> decide
  | .int i, h, _ => by
    simp only [PyData.leavesShort, decide_eq_true_eq] at h
    simp only [cost]
    exact h
  | .str x, h, _ => by
    have hx : ∀ c ∈ x.cps.toList, c < 16 ^ 8 := by simpa only [PyData.leavesShort, List.all_eq_true, decide_eq_true_eq] using h
    have e := StrLaws.reprText_len x hx
    have e2 : x.length = x.cps.size := rfl
    simp only [PyData.shown, cost]
    omega
  | .list xs, h, hd => by
    have h1 := shown_costs xs (by simpa only [PyData.leavesShort] using h) (by simpa only [PyData.hasDict] using hd)
    have h2 := listText_len_le (PyData.shownAll xs)
    have h3 := PyData.shownAll_length xs
    simp only [PyData.shown, cost]
    omega
  | .tuple xs, h, hd => by
    have h1 := shown_costs xs (by simpa only [PyData.leavesShort] using h) (by simpa only [PyData.hasDict] using hd)
    have h2 := tupleText_len_le (PyData.shownAll xs)
    have h3 := PyData.shownAll_length xs
    simp only [PyData.shown, cost]
    omega
  | .dict _, _, hd => by simp [PyData.hasDict] at hd
theorem shown_costs : ∀ xs : List PyData, PyData.leavesShortAll 2000 xs = true → PyData.hasDictAll xs = false → ((PyData.shownAll xs).map (·.length)).sum + 2 * xs.length ≤ costAll xs
  | [], _, _ => by simp only [PyData.shownAll, costAll, List.map_nil, List.sum_nil, List.length_nil]; omega
  | x :: xs, h, hd => by
    simp only [PyData.leavesShortAll, Bool.and_eq_true] at h
    simp only [PyData.hasDictAll, Bool.or_eq_false_iff] at hd
    have h1 := shown_cost x h.1 hd.1
    have h2 := shown_costs xs h.2 hd.2
    simp only [PyData.shownAll, costAll, List.map_cons, List.sum_cons, List.length_cons]
    omega
end
/-- what may be shown: ints of at most 1919 bits, texts of plain signs; its length and depth bounded -/
def Shows (d : PyData) : Prop := d.showable = true ∧ d.leavesShort 2000 = true ∧ cost d ≤ 16000000 ∧ d.depth ≤ 60
theorem Shows.len {d : PyData} (h : Shows d) (n : d.hasDict = false) : d.shown.length ≤ sizeLine := by
  have e := shown_cost d h.2.1 n
  have w := h.2.2.1
  rw [sizeLine_eq]
  omega
section
variable {X : Cx}
theorem call_reprD {lv : Nat} (hq : X.A.guards = some []) (hr : Room lv X.A) : CallR X (.builtin "repr") (fun xs H Q => ∃ a d, xs = [.ref a] ∧ Dp X.K H (.ref a) d ∧ Shows d ∧ Q (.str d.shown) H) := by
  intro pins s σ H xs us Q I r h
  obtain ⟨a, d, rfl, hd, hs, q⟩ := h
  obtain ⟨u, rfl, ru⟩ := vals1 r
  obtain ⟨as, rd⟩ := Dp.reads I d _ _ hd ru
  obtain rfl : u = Value.ref a := ru
  have hu := hr.un
  have hdp := hs.2.2.2
  refine repr_of_reads' (h₀ := s.heap) rd hs.1 (PyData.noDict_hsm (dp_noDict hd)) hq (by omega) (fun _ _ z => z) (fun h' t tk k => ?_) (hs.len (dp_noDict hd))
  exact ⟨.str d.shown, H, I.kept k, ⟨t, rfl⟩, q⟩
/-- // by any number but nought, below 2 ^ 9000 in size -/
def CDivA (_ j : Int) : Prop := j ≠ 0 ∧ j.natAbs.log2 < 9000
theorem op_fdivA : OpR X (binaryOp .FloorDiv) (rI CDivA fun i j => .int (i.fdiv j)) := opI fun i j _ _ _ _ _ hc q => floordiv_int hc.1 q (.inl (PyProof.noPylong_of_log2 hc.2))
/-- * of two factors of together less than a million bits -/
def CMulA (i j : Int) : Prop := i.natAbs.log2 + j.natAbs.log2 < 1000000
theorem mulA_ok {i j : Int} (h : CMulA i j) : IntMulOk i j := by
  have bits : ∀ x : Int, Builtin.Int.intBits x ≤ x.natAbs.log2 + 1 := fun x => by
    unfold Builtin.Int.intBits
    split <;> omega
  have h1 := bits i
  have h2 := bits j
  have h3 : i.natAbs.log2 + j.natAbs.log2 < 1000000 := h
  intro z
  rw [Bool.and_eq_true] at z
  have z3 := of_decide_eq_true (show decide _ = true from z.2)
  have e : bitsLine = 134217728 := by decide
  rw [e] at z3
  omega
theorem op_mulA : OpR X (binaryOp .Mult) (rI CMulA fun i j => .int (i * j)) := opI fun _ _ _ _ _ _ _ hc q => mul_int q (mulA_ok hc)
end
/-! ### a word between two statements -/
def tMid (t u : TS) : TS := fun D σ H => ∃ M : L2.St → Hp → Prop, t { D with nx := M } σ H ∧ ∀ σ2 H2, M σ2 H2 → u D σ2 H2
theorem pss_mid {X : Cx} {st : Stmt} {more : List Stmt} {t u : TS} (a : PS X st t) (b : PSs X more u) : PSs X (st :: more) (tMid t u) := by
  refine ⟨fun pins s σ H D I h => ?_⟩
  obtain ⟨M, hm, hu⟩ := h
  refine wpAny_execs_cons (thn (a.run pins s σ H { D with nx := M } I hm) fun fl s1 z => ?_)
  match fl, z with
  | .next, ⟨σ2, H2, I2, z⟩ => exact b.run pins s1 σ2 H2 D I2 (hu σ2 H2 z)
  | .ret v, z => exact z
  | .brk, z => exact z
  | .cont, z => exact z
end Fp

set_option Elab.async false
set_option linter.all false
set_option maxRecDepth 100000
set_option maxHeartbeats 4000000
namespace Fp
open PySem PySem.Spec PyProof.Rows L2
/-! ### C.f(e, ..), C a class of one's own, f a def of its body -/
structure ClsFn (K : PySem.W.Frag) (C : Addr) (m : Str) (f : Addr) : Prop where
  rd : PySem.W.readsIn K C (.type "type") = true
  fc : PySem.W.findCls K (.ref C) (.type "type") m = some (.val (.ref f))
  hd : PySem.W.handedIn (.ref f) = true
  sp : PySem.W.specialIn K (.ref C) "__getattribute__" = some (some (.builtin "type.__getattribute__"))
  kp : PySem.W.keepIn K (.ref f) = true
section
variable {X : Cx} {CX : CXT} {lv : Nat} {f C : Addr} {fd : FuncData} {ps : List Str} {sp : Sp} {E : XK} {x m : Str} {p pos apos : Pos} {e : Expr} {es : List Expr} {t : TA}
theorem pe_clsfn {pl : Sem Bool} (c : ClsFn X.K C m f) (F : FnOk X.prog X.w X.K X.mg X.base CX lv f fd ps sp) (hr : Room lv X.A) (hg : Gl X x) (hm : X.mg x = some (.ref C)) (hb : Binds X.K fd ps []) (hx : Passes CX X E) (ha : PA X (e :: es) t)
    (hdb : (x == ("__debug__" : Str)) = false := by decide) (hst : starEach (e :: es) X.env = (false, eval e X.env) :: starEach es X.env := by rfl) (hpl : (backTo pos (starEach es X.env)).any (·.1) = false := by rfl)
    (ht : eval (.Call (.Attribute (.Name x p) m apos) (e :: es) [] pos) X.env = (do
      let ov ← eval (.Name x p) X.env
      standAt apos.atName
      let (g, first) ← holding [ov] (getMethod ov m pl)
      callWith pos g first (backTo pos (starEach (e :: es) X.env)) (backToKw pos (keywordEach [] X.env))) := by rfl) :
    PE X (.Call (.Attribute (.Name x p) m apos) (e :: es) [] pos) (tCall sp [] E t) := by
  refine ⟨fun pins s σ H Q I h => PySem.W.methodCall_KW (pl := pl) (ld_glob I hg hm ?_ hdb) ht⟩
  refine PySem.W.method_cls I.kIn c.sp (PySem.W.cls_value I.kIn c.rd c.fc c.hd ?_)
  refine PySem.W.callWith_K (first := []) (h₀ := X.base) I.ok.mod.kin c.kp (thn (ha.run pos pins _ σ H _ (I.tok _) h) fun us s2 z => ?_) hst hpl
  obtain ⟨vs, H2, I2, r, q⟩ := z
  exact ⟨I2.kIn, run_fn F hr hb .nil hx I2 r q⟩
end
/-- an error of the class at S is what an except of S names -/
theorem exm_own {K : PySem.W.Frag} {S : Addr} (h1 : PySem.W.subIn K (.ref S) (.type "BaseException") = some true) (h2 : PySem.W.isClsIn K S = true) (h3 : PySem.W.typeIn K (.ref S) = some (.type "type")) (h4 : PySem.W.subIn K (.ref S) (.ref S) = some true) :
    PySem.W.exmOne K (.ref S) (.ref S) = some true := by
  have y1 : (PySem.W.subIn K (.ref S) (.type "BaseException") == some true) = true := by rw [h1] <;> rfl
  have y2 : ((PySem.W.clsIn K S).isSome && PySem.W.typeIn K (.ref S) == some (.type "type")) = true := by
    have h5 : (PySem.W.clsIn K S).isSome = true := h2
    rw [h5, h3] <;> rfl
  show (if (PySem.W.subIn K (.ref S) (.type "BaseException") == some true) = true then (if ((PySem.W.clsIn K S).isSome && PySem.W.typeIn K (.ref S) == some (.type "type")) = true then PySem.W.subIn K (.ref S) (.ref S) else none) else none) = some true
  rw [if_pos y1, if_pos y2]
  exact h4
/-! ### C(), C an own exception over ValueError whose __init__ stores nothing -/
section
variable {X : Cx}
/-- the promise of such an __init__ of one argument, self -/
def spIni (K : PySem.W.Frag) : Sp := fun vs H Q _ => ∃ a C : Addr, vs = [.ref a] ∧ OexC K C ∧ H a = some (exo a C none) ∧ Q .non H
/-- .. of self and a text -/
def spIni1 (K : PySem.W.Frag) : Sp := fun vs H Q _ => ∃ (a C : Addr) (y : V), vs = [.ref a, y] ∧ OexC K C ∧ H a = some (exo a C none) ∧ Q .non H
theorem let_go {pins : List (Addr × Obj)} {σ : L2.St} {H1 : Hp} {hp hp2 h2 : Heap} {g1 g2 : Array GenState} {d1 d2 : Drawn} {t1 t2 : Nat} {os1 os2 : OsState} {a C : Addr} (I1 : Inv X pins σ H1 ⟨hp, g1, d1, t1, os1⟩)
    (ha : hp.objs.size ≤ a) (k : ∀ b o, hp.get? b = some o → hp2.get? b = some o) (un : Un (frs X.stack) [] (upd H1 a (exo a C none)) (upd H1 a (exo a C none)) hp2 h2) (hok : HOk X.prog X.w (upd H1 a (exo a C none)) h2) (ho : os2 = os1) (hb : AllBare g2) :
    ∃ (t0 : Addr) (G : Heap), Inv X pins σ H1 ⟨G, g2, d2, t2, os2⟩ ∧ (∀ b o, G.get? b = some o → h2.get? b = some o) ∧ G.get? a = none ∧
      h2.get? a = some ({ cls := .ref C, dict := none, data := .fields #[.ref t0, .none, .none, .none, .bool false, .none] } : Obj) := by
  obtain ⟨t0, hoe⟩ := exo_at hok (upd_same (H := H1))
  have hn : H1 a = none := I1.hok.fresh ha
  obtain ⟨G, y1, y2⟩ := restrict h2 fun b => decide (b ≠ a)
  have gk : ∀ b, b ≠ a → G.get? b = h2.get? b := fun b hb => y1 b (decide_eq_true hb)
  have ge : G.get? a = none := y2 a (by simp)
  have old : ∀ {b : Addr} {o : Obj}, hp.get? b = some o → b ≠ a := fun {b o} z => Nat.ne_of_lt (Nat.lt_of_lt_of_le (Heap.lt_size z) ha)
  have up : ∀ {b : Addr}, b ≠ a → H1 b = none → upd H1 a (exo a C none) b = none := fun {b} hb n => by rw [upd_ne hb]; exact n
  have dn : ∀ {b : Addr} {u : HO}, H1 b = some u → upd H1 a (exo a C none) b = some u := fun {b u} z => by rw [upd_ne (ne_of_none z hn)]; exact z
  have ne : ∀ {b : Addr} {u : HO}, H1 b = some u → b ≠ a := fun {b u} z => ne_of_none z hn
  have U : Un (frs X.stack) [] H1 H1 hp G :=
    ⟨fun b o z n hf hx => by rw [gk b (old z)]; exact un.keep b o (k b o z) (up (old z) n) hf hx,
     fun b o z n hf hx => by rw [gk b (old z)]; exact un.slot b o (k b o z) (up (old z) n) hf hx,
     fun b o z n hx => n,
     fun b o z hx => by rw [gk b (old z)]; exact un.there b o (k b o z) hx,
     fun b xs z => z, fun b o v z => z, fun b qs z => ⟨#[], by rw [z]; simp⟩⟩
  have hok3 : HOk X.prog X.w H1 G := fun b o z => by
    refine (hok b o (dn z)).stay (fun c v hc y => ?_) (fun c hc => ?_) (fun c xs hc => ?_)
    · have hca : c ≠ a := by
        rcases hc with hc | hc
        · rw [hc]; exact ne z
        · exact at_ne (upd_same (H := H1)) hc exo_own
      rw [gk c hca]
      exact y
    · have hca : c ≠ a := at_ne (upd_same (H := H1)) hc exo_own
      rw [upd_ne hca] at hc
      exact hc
    · have hca : c ≠ a := at_ne (upd_same (H := H1)) hc exo_tup
      rw [upd_ne hca] at hc
      exact hc
  have J : Inv X pins σ H1 ⟨G, g2, d2, t2, os2⟩ := I1.call' (ch := []) ho U hok3 hb (fun b z => absurd z (by simp))
  refine ⟨t0, G, J, fun b o z => ?_, ge, hoe⟩
  rcases Classical.em (b = a) with hba | hba
  · rw [hba, ge] at z
    cases z
  · exact (gk b hba).symm.trans z
theorem pmk_bare {CX : CXT} {x : Str} {C fI : Addr} {lv : Nat} {fd : FuncData} {ps : List Str} {p pos : Pos} (T : OexC X.K C) (iC : PySem.W.findIn X.K (.ref C) "__init__" = some (some (.ref fI))) (tI : PySem.W.typeIn X.K (.ref fI) = some (.type "function"))
    (F1 : FnOk X.prog X.w X.K X.mg X.base CX lv fI fd ps (spIni X.K)) (hr : Room (lv + 1) X.A) (hb : Binds X.K fd ps []) (hx : Passes CX X (fun _ _ _ => False)) (hg : Gl X x) (hm : X.mg x = some (.ref C)) (hdb : (x == ("__debug__" : Str)) = false := by decide) :
    PMk X (.Call (.Name x p) [] [] pos) (fun _ H Q => Q (.ref C) none H) := by
  intro pins s σ H Q I h
  obtain ⟨nm, q, N, bs, bm, sn, sub, ab, col, dd, k0, k1, k2, k3, k5, hC, hbm⟩ := T.cls
  refine wpAny_Call_Name_kw (ld_glob I hg hm ?_ hdb)
  refine PySem.W.callWith_K0 I.kIn T.kC ?_
  show wpAny _ _ (call (.ref C) []) _ _ _
  obtain ⟨hp, g, dr, tk, os⟩ := s
  have hsz : hp.objs.size ≤ hp.objs.size + 1 := Nat.le_succ _
  have kk : ∀ b o, hp.get? b = some o → ((hp.push (PySem.W.kdv_tup [])).push (PySem.HandSPX.excO C hp.objs.size)).get? b = some o := fun b o z => Heap.get?_push_of_some _ (Heap.get?_push_of_some _ z)
  have hget : ((hp.push (PySem.W.kdv_tup [])).push (PySem.HandSPX.excO C hp.objs.size)).get? (hp.objs.size + 1) = some (PySem.HandSPX.excO C hp.objs.size) := by heap_get
  have I2 : Inv X pins σ (upd H (hp.objs.size + 1) (exo (hp.objs.size + 1) C none)) ⟨(hp.push (PySem.W.kdv_tup [])).push (PySem.HandSPX.excO C hp.objs.size), g, dr, tk, os⟩ :=
    I.laid (t' := tk) (a := hp.objs.size + 1) (o := exo (hp.objs.size + 1) C none) (h' := (hp.push (PySem.W.kdv_tup [])).push (PySem.HandSPX.excO C hp.objs.size)) kk hsz (exo_ok hget)
  have r2 : Vals [V.ref (hp.objs.size + 1)] [Value.ref (hp.objs.size + 1)] := .cons rfl .nil
  have hsp : spIni X.K [V.ref (hp.objs.size + 1)] (upd H (hp.objs.size + 1) (exo (hp.objs.size + 1) C none)) (fun v H2 => v = .non ∧ H2 = upd H (hp.objs.size + 1) (exo (hp.objs.size + 1) C none)) (fun _ _ _ => False) :=
    ⟨_, C, rfl, T, upd_same, rfl, rfl⟩
  have hl : ([Value.ref (hp.objs.size + 1)] ++ []).length = ps.length := by
    have z := F1.len _ _ _ _ hsp
    exact z
  refine wpAny_call (PySem.HandSPX.call_own F.excBase_ValueError (fun Y => PySem.HandSPX.refsVE_contains Y bm hbm) (I.kIn _ _ hC) (PySem.W.looks_findIn I.kIn iC) (fun self => PySem.W.bind_fn I.kIn self tI) (Nat.zero_le _)
    (codeAny_mono (F1.run _ X.stack _ _ ⟨[Value.ref (hp.objs.size + 1)], []⟩ [Value.ref (hp.objs.size + 1)] _ _ (fun _ _ _ => False) (hr.make C [] []) (I2.env0.make C [] []) (hb _ [Value.ref (hp.objs.size + 1)] I2.kIn hl) r2 hsp) fun res s2 z => ?_))
  match res, z with
  | .error er, z => exact hx pins σ _ _ er s2 I2 z
  | .ok .next, z => exact False.elim z
  | .ok .brk, z => exact False.elim z
  | .ok .cont, z => exact False.elim z
  | .ok (.ret u), z =>
    obtain ⟨v, H2, os2, bare2, un2, hok2, rv, ev, eH⟩ := z
    subst ev
    rw [eH] at un2 hok2
    obtain ⟨h2, g2, d2, t2, os3⟩ := s2
    obtain ⟨t0, G, J, kG, ge, hoe⟩ := let_go (d2 := d2) (t2 := t2) I hsz kk un2 hok2 os2 bare2
    exact ⟨rv, _, _, _, ⟨G, g2, d2, t2, os3⟩, _, .ref C, none, rfl, J, kG, ge, hoe, ⟨rfl, rfl⟩, rfl, rfl, I.hok.fresh hsz, rfl, bare2, raises_own T.exC T.tyC, h⟩
end
end Fp

set_option Elab.async false
set_option linter.all false
set_option maxRecDepth 100000
set_option maxHeartbeats 4000000
namespace Fp
open PySem PySem.Spec PyProof.Rows L2
/-! ### a tuple taken some times, none and once too -/
theorem tuple_mul_one (l : Addr) (items : Array Value) (n : Nat) (dd : Option Addr) (sl : Array (Option Value)) (u : Tok) :
    Meets (Builtin.«tuple.__mul__» ⟨[.ref l, .int 1 u], []⟩) (fun _ R s => s.heap.get? l = some { cls := .type "tuple", dict := dd, data := .seq items n, slots := sl } ∧ R (.ok (.ret (Value.ref l))) s) :=
  .of_wp fun prog w A R s h => by
    obtain ⟨hp, g, d, tk, os⟩ := s
    obtain ⟨hl, h⟩ := h
    have f1 := AutoSeq1.idx_int
    have c1 : (items.isEmpty || (1 : Int) == 1) = true := by simp
    wp_walk using wpAny_loadPart' hl
    exact ⟨_, rfl, h⟩
theorem tuple_mul_nil (l : Addr) (items : Array Value) (n : Nat) (dd : Option Addr) (sl : Array (Option Value)) (u : Tok) (c1 : items.isEmpty = false) :
    Meets (Builtin.«tuple.__mul__» ⟨[.ref l, .int 0 u], []⟩) (fun _ R s => s.heap.get? l = some { cls := .type "tuple", dict := dd, data := .seq items n, slots := sl } ∧
      R (.ok (.ret (Value.ref s.heap.objs.size))) { s with heap := s.heap.push { cls := Value.type "tuple", data := Data.seq #[] }, toks := s.toks }) :=
  .of_wp fun prog w A R s h => by
    obtain ⟨hp, g, d, tk, os⟩ := s
    obtain ⟨hl, h⟩ := h
    have f1 := AutoSeq1.idx_int
    have c2 : (items.isEmpty || (0 : Int) == 1) = false := by rw [c1]; rfl
    wp_walk using wpAny_loadPart' hl
    exact ⟨_, rfl, h⟩
def rRepA (K : PySem.W.Frag) : R2 := fun x y H Q => ∃ l k xs, x = .ref l ∧ y = .int k ∧ SqT K H l xs ∧ xs ≠ [] ∧ 0 ≤ k ∧ k ≤ 1000 ∧ xs.length ≤ 1000 ∧ (k = 1 → Q (.ref l) H) ∧ (k ≠ 1 → ∀ p, H p = none → Q (.ref p) (upd H p (.tup (List.replicate k.toNat xs).flatten)))
section
variable {X : Cx}
theorem op_repA : OpR X (binaryOp .Mult) (rRepA X.K) := by
  intro pins s σ H x y v u Q I rx ry h
  obtain ⟨l, k, xs, rfl, rfl, hT, hne, h0, h2, hz, q1, q2⟩ := h
  rcases (by omega : k = 0 ∨ k = 1 ∨ 2 ≤ k) with rfl | rfl | hk
  · cases rx
    obtain ⟨t, rfl⟩ := ry
    obtain ⟨its, r, ⟨⟨cls, dd, data, sl⟩, ho, hc, n, hd⟩, hs⟩ := I.tuple hT
    simp only at hc hd
    subst hc hd
    have hle : its.length = xs.length := r.length.symm
    have hi : its.toArray.isEmpty = false := by
      cases its with
      | nil => exact absurd (List.eq_nil_of_length_eq_zero hle.symm) hne
      | cons a b => rfl
    refine wpAny_binaryOp_repeat_ref (T := "tuple") (U := "int") (by decide) ⟨_, ho, rfl⟩ (fun s2 => typeIs_int s2 0 t) noFill_tuple_mul F.fills_int_mul F.slot_int_rmul repeat_tuple F.slot_int_index.lookup
      (call_meets F.slot_int_rmul (typeIs_int s 0 t) F.entry_int_rmul (F.args_int_rmul_2 _ _) (int_rmul_tuple 0 t l its.toArray n dd sl)
        ⟨ho, rfl, ⟨_, ho, rfl⟩, call_meets F.slot_tuple_mul ⟨_, ho, rfl⟩ F.entry_tuple_mul (F.args_tuple_mul_2 _ _) (tuple_mul_nil l its.toArray n dd sl t hi) ⟨ho, ?_⟩⟩)
    refine ⟨.ref s.heap.objs.size, _, I.laid (t' := s.toks) (o := .tup []) (fun b ob z => Heap.get?_push_of_some _ z) (Nat.le_refl _) ?_, rfl, q2 (by decide) _ (I.hok.fresh (Nat.le_refl _))⟩
    exact ⟨Nat.zero_le _, [], .nil, IsTup.new _ _⟩
  · cases rx
    obtain ⟨t, rfl⟩ := ry
    obtain ⟨its, r, ⟨⟨cls, dd, data, sl⟩, ho, hc, n, hd⟩, hs⟩ := I.tuple hT
    simp only at hc hd
    subst hc hd
    refine wpAny_binaryOp_repeat_ref (T := "tuple") (U := "int") (by decide) ⟨_, ho, rfl⟩ (fun s2 => typeIs_int s2 1 t) noFill_tuple_mul F.fills_int_mul F.slot_int_rmul repeat_tuple F.slot_int_index.lookup
      (call_meets F.slot_int_rmul (typeIs_int s 1 t) F.entry_int_rmul (F.args_int_rmul_2 _ _) (int_rmul_tuple 1 t l its.toArray n dd sl)
        ⟨ho, rfl, ⟨_, ho, rfl⟩, call_meets F.slot_tuple_mul ⟨_, ho, rfl⟩ F.entry_tuple_mul (F.args_tuple_mul_2 _ _) (tuple_mul_one l its.toArray n dd sl t) ⟨ho, ?_⟩⟩)
    exact ⟨.ref l, H, I, rfl, q1 rfl⟩
  · exact op_repT pins s σ H _ _ v u Q I rx ry ⟨l, k, xs, rfl, rfl, hT, hne, hk, h2, hz, q2 (by omega)⟩
end
end Fp


set_option Elab.async false
set_option linter.all false
set_option maxRecDepth 100000
set_option maxHeartbeats 4000000
namespace Fp
open PySem PySem.Spec PyProof.Rows L2
/-! ### x *= y of great numbers; xs[i] += y -/
section
variable {X : Cx}
theorem ip_mulA : PIp X .Mult (rI CMulA fun i j => .int (i * j)) := opI fun _ _ _ _ _ _ _ hc q => imul_int q (mulA_ok hc)
def rIxN (K : PySem.W.Frag) : V → V → Hp → VK → Prop := fun x y H Q => ∃ p xs i v, x = .ref p ∧ y = .int i ∧ SqL K H p xs ∧ 0 ≤ i ∧ atI xs i = some v ∧ Q v H
theorem get_listN : PGet X (rIxN X.K) := by
  intro pins s σ H x y v u Q I rx ry h
  obtain ⟨p, xs, i, z, rfl, rfl, hq, h0, he, q⟩ := h
  cases rx
  obtain ⟨t, rfl⟩ := ry
  obtain ⟨its, r, pl, hz⟩ := I.list hq
  obtain ⟨j, h1, h2, h3, h4, h5⟩ := atI_get he
  obtain ⟨w, ew, rw'⟩ := r.get h2
  have hl := r.length
  have hn := line63
  have hj : i.toNat = j := by
    rw [seqIndex_of h0 h5] at h1
    exact Option.some.inj h1
  exact wpAny_getItem_list pl.isList h0 (by omega) (by rw [hj]; simpa using ew) ⟨z, H, I, rw', q⟩
end
end Fp

set_option Elab.async false
set_option linter.all false
set_option maxRecDepth 100000
set_option maxHeartbeats 4000000
namespace Fp
open PySem PySem.Spec PyProof.Rows L2
/-! ### repr of what may be None, a number or an object -/
theorem shown_non : PyData.none.shown = ("None" : Str) := rfl
theorem shown_int (i : Int) : (PyData.int i).shown = Str.ofString (toString i) := rfl
section
variable {X : Cx}
theorem call_reprV {lv : Nat} (hq : X.A.guards = some []) (hr : Room lv X.A) : CallR X (.builtin "repr") (fun xs H Q => ∃ v d, xs = [v] ∧ (v = .non ∨ (∃ i, v = .int i) ∨ ∃ a, v = .ref a) ∧ Dp X.K H v d ∧ Shows d ∧ Q (.str d.shown) H) := by
  intro pins s σ H xs us Q I r h
  obtain ⟨v, d, rfl, hv, hd, hs, q⟩ := h
  rcases hv with rfl | ⟨i, rfl⟩ | ⟨a, rfl⟩
  · cases hd
    obtain ⟨u, rfl, ru⟩ := vals1 r
    obtain rfl : u = Value.none := ru
    exact PySem.P.repr_of_none ⟨.str PyData.none.shown, H, I.tok _, ⟨_, rfl⟩, q⟩
  · cases hd
    refine SkE.call_repr_int pins s σ H _ us Q I r ⟨i, rfl, ?_, q⟩
    have h1 := hs.1
    simp only [PyData.showable, decide_eq_true_eq] at h1
    omega
  · exact call_reprD hq hr pins s σ H _ us Q I r ⟨a, d, rfl, hd, hs, q⟩
end
end Fp


set_option Elab.async false
set_option linter.all false
set_option maxRecDepth 100000
set_option maxHeartbeats 4000000
namespace Fp
open PySem PySem.Spec PyProof.Rows L2
/-! ### enumerate(xs, start=k), of a list and of a tuple -/
/-- the items of a row as it stands, each in a new pair with its number from k on -/
def Itq (Sq : Hp → List V → Prop) (k : Int) : It :=
  ⟨fun i H => ∃ xs x, Sq H xs ∧ xs[i]? = some x, fun i H v H2 => ∃ T x, v = .ref T ∧ H T = none ∧ H2 = upd H T (.tup [.int (k + (i : Nat)), x]) ∧ ∀ zs, Sq H zs → zs[i]? = some x, fun i H => ∃ xs, Sq H xs ∧ xs.length ≤ i⟩
theorem walk_q {Sq : Hp → List V → Prop} {k : Int} {xs : List V} : Walk (Itq Sq k) xs.length (fun H => Sq H xs) (YPair (fun i => some (.int (k + (i : Nat)))) (fun i => xs[i]?)) := by
  refine ⟨fun i _ hi q => ⟨xs, xs[i], q, by simp [hi]⟩, fun _ q => ⟨xs, q, Nat.le_refl _⟩, fun i H v H2 _ q y => ?_⟩
  obtain ⟨T, x, y1, y2, y3, y4⟩ := y
  exact ⟨T, _, x, y1, y2, y3, rfl, y4 xs q⟩
section
variable {M : Model} {A : Around} {E : Value → Shared → Prop} {s : Shared} {env : Env}
theorem cw_typeKw {pos : Pos} {T : String} {args : List (Bool × Sem Value)} {kws : List (Option Str × Sem Value)} {Q : Value → Shared → Prop} (hp : args.any (·.1) = false) (hk : kws.any (·.1.isNone) = false)
    (h : wpAny M A (evalArgs (.type T) true args kws) (fun a t => wpAny M A (call (.type T) a.pos a.kw) Q E t) E s) : wpAny M A (callWith pos (.type T) [] args kws) Q E s := by
  unfold callWith
  refine wpAny_bind (wpAny_holding (wpAny_mono h (fun g t hg => wpAny_bind (wpAny_standAt ?_)) fun _ _ z => z))
  simp only [hp, hk, Bool.or_false]
  refine wpAny_bind (wpAny_pure ?_)
  exact wpAny_bind (wpAny_mono hg (fun r t2 hr => wpAny_bind (wpAny_holding (wpAny_point (wpAny_pure hr)))) fun _ _ z => z)
end
section
variable {prog : Program} {w : World} {A : Around} {E : Value → Shared → Prop} {s : Shared}
theorem enum_end_q {e it : Addr} {i : Int} {old : Value} {Q : Option Value → Shared → Prop} (ee : IsEnum s.heap e it i old)
    (dn : ∀ (Q2 : Value → Shared → Prop) (F : Value → Shared → Prop), (∀ h2 x, Heap.ExtBut it s.heap h2 → (∃ o, h2.get? x = some o ∧ o.cls = .type "StopIteration") → F (.ref x) { s with heap := h2 }) → wpAny (model prog w) A.in1 (Builtin.SmallTypes.nextOf (.ref it)) Q2 F s)
    (hQ : ∀ h2, Heap.ExtBut it s.heap h2 → Q none { s with heap := h2 }) : wpAny (model prog w) A (pyNext (.ref e)) Q E s := by
  have ty : s.TypeIs (.ref e) "enumerate" := ⟨_, ee, rfl⟩
  unfold pyNext
  refine wpAny_bind (wpAny_attempt (wpAny_callSpecial?_slot (name := Str.ofString "__next__") ty F.slot_enumerate_next (wpAny_call_entry F.slot_enumerate_next ty F.entry_enumerate_next ?_ (F.args_enumerate_next_1 _))))
  show wpAny (model prog w) _ (field (.ref e) 2 >>= _) _ _ _
  refine wpAny_bind (wpAny_field ee rfl (x := .ref it) rfl (wpAny_bind (dn _ _ fun h2 x eb ox => ?_)))
  obtain ⟨o, oe, oc⟩ := ox
  exact wpAny_bind (wpAny_isInstance (T := "StopIteration") (b := true) ⟨o, oe, oc⟩ isSubtype_stop (wpAny_pure (hQ _ eb)))
end
theorem turn_qL {P : Program} {w : World} {K : PySem.W.Frag} {elts : List Expr} {kk : Nat} {tpos : Pos} (k : Int) (a e it : Addr) :
    Turn P w K (.Tuple elts kk tpos) (Itq (fun H xs => SqL K H a xs) k) [e, it] e (fun i h => (∃ old, IsEnum h e it (k + (i : Nat)) old) ∧ h.IsListIter it a i ∧ e ≠ it) where
  mem := by simp
  obj := fun i h st b hb => by
    obtain ⟨⟨_, ee⟩, ⟨o, oe, _, od⟩, _⟩ := st
    rcases (show b = e ∨ b = it by simpa using hb) with z | z
    · subst z
      exact ⟨_, ee, fun v q => nomatch q⟩
    · subst z
      exact ⟨o, oe, fun v q => by rw [od] at q; cases q⟩
  keep := fun i h h2 st kp => by
    obtain ⟨⟨old, ee⟩, ie, hne⟩ := st
    exact ⟨⟨old, kp e (by simp) _ ee⟩, ie.at fun o q => kp it (by simp) o q, hne⟩
  item := by
    intro Y yP yw yK yc i pn s sl H F I hf st hg
    subst yP yw yK
    obtain ⟨⟨old, ee⟩, ie, hne⟩ := st
    obtain ⟨xs, x, sq, ex⟩ := hg
    obtain ⟨vs, rv, po, _⟩ := I.list sq
    obtain ⟨u, eu, ru⟩ := rv.get ex
    have oa : s.heap.IsList a vs.toArray := po.isList
    have ai : a ≠ it := fun z => by
      subst z
      obtain ⟨o1, q1, c1, _⟩ := ie
      obtain ⟨o2, q2, c2, _⟩ := id oa
      rw [q1] at q2
      cases q2
      rw [c1] at c2
      injection c2 with c3
      exact absurd c3 (by decide)
    have ae : e ≠ a := fun z => by
      subst z
      obtain ⟨o2, q2, c2, _⟩ := id oa
      have q1 : s.heap.get? e = _ := ee
      rw [q1] at q2
      cases q2
      have c3 := c2
      injection c3 with c4
      exact absurd c4 (by decide)
    have le : e < s.heap.objs.size := Heap.lt_size ee
    have li : it < s.heap.objs.size := by
      obtain ⟨_, q, _⟩ := ie
      exact Heap.lt_size q
    have hi : i < vs.toArray.size := by
      have := (List.getElem?_eq_some_iff.mp eu).1
      simpa using this
    refine wpAny_pyNext_enum_itemC (Draws.list (A := Y.A.in1) (show Y.A.in1.handled = none from I.ok.hd yc) it a ai vs.toArray) ee ⟨ie, oa⟩ hi hne (by simp [hne, ae]) fun u2 h2 tk pu oe st2 oT zT kp => ?_
    have e2 : u2 = u := by
      have : vs[i]? = some u2 := by simpa using pu
      rw [eu] at this
      exact Option.some.inj this.symm
    subst e2
    refine ⟨_, rfl, wpAny_letOwnedTupleGo_enum (s := { s with heap := h2, toks := tk + 1 }) oe fun h3 ee3 sb => ?_⟩
    have oT3 := (sb.2 _ (Nat.ne_of_gt le)).trans oT
    have new : ObjOk Y.prog Y.w (upd H s.heap.objs.size (.tup [.int (k + (i : Nat)), x])) h3 s.heap.objs.size (.tup [.int (k + (i : Nat)), x]) :=
      ⟨by show 2 ≤ sizeLine; decide, [.int (k + (i : Nat)) tk, u2], .cons ⟨_, rfl⟩ (.cons ru .nil), ⟨_, oT3, rfl, _, rfl⟩⟩
    have I3 : Inv Y pn sl (upd H s.heap.objs.size (.tup [.int (k + (i : Nat)), x])) { s with heap := h3, toks := tk + 1 } := by
      refine I.turnedNew (ch := [e, it]) (fun b ob hb q => ?_) hf (Nat.le_refl _) new
      exact (sb.2 b fun z => hb (by simp [z])).trans (kp b ob (fun z => hb (by simp [z])) (fun z => hb (by simp [z])) q)
    refine ⟨.ref s.heap.objs.size, _, I3, rfl, ⟨_, x, rfl, I.hok.fresh (Nat.le_refl _), rfl, fun zs hz => ?_⟩, ⟨⟨u2, ?_⟩, st2.1.at fun o q => (sb.2 it (Ne.symm hne)).trans q, hne⟩, fun b hb => ?_⟩
    · rw [I.list_inj hz sq]
      exact ex
    · rw [show k + ((i + 1 : Nat) : Int) = k + (i : Int) + 1 by omega]
      exact ee3
    · have lb : b < s.heap.objs.size := by
        rcases (show b = e ∨ b = it by simpa using hb) with z | z
        · rw [z]
          exact le
        · rw [z]
          exact li
      rw [upd_ne (Nat.ne_of_lt lb)]
      exact (hf b hb).1
  done := by
    intro Y yP yw yK yc i pn s sl H F I hf st hg
    subst yP yw yK
    obtain ⟨⟨old, ee⟩, ie, hne⟩ := st
    obtain ⟨xs, sq, hx⟩ := hg
    obtain ⟨vs, rv, po, _⟩ := I.list sq
    have oa : s.heap.IsList a vs.toArray := po.isList
    obtain ⟨g0, g1, g2, g3, g4, g5⟩ := hf it (by simp)
    have hl := rv.length
    have ai : a ≠ it := fun z => by
      subst z
      obtain ⟨o1, q1, c1, _⟩ := ie
      obtain ⟨o2, q2, c2, _⟩ := id oa
      rw [q1] at q2
      cases q2
      rw [c1] at c2
      injection c2 with c3
      exact absurd c3 (by decide)
    exact enum_end_q ee (fun Q2 F2 hQ2 => wpAny_nextOf_list_end (show Y.A.in1.handled = none from I.ok.hd yc) ie oa (by simp; omega) hQ2) fun h2 eb => ⟨rfl, I.turned (t' := s.toks) (fun b o hb q => eb b o hb q) g0 g1 g3 g4 g5⟩
  self := fun A2 i s Q F st h => by
    obtain ⟨⟨_, ee⟩, _⟩ := st
    exact wpAny_pyIter_enum ee h
theorem turn_qT {P : Program} {w : World} {K : PySem.W.Frag} {elts : List Expr} {kk : Nat} {tpos : Pos} (k : Int) (a e it : Addr) :
    Turn P w K (.Tuple elts kk tpos) (Itq (fun H xs => SqT K H a xs) k) [e, it] e (fun i h => (∃ old, IsEnum h e it (k + (i : Nat)) old) ∧ h.IsTupleIter it a i ∧ e ≠ it) where
  mem := by simp
  obj := fun i h st b hb => by
    obtain ⟨⟨_, ee⟩, ⟨o, oe, _, od⟩, _⟩ := st
    rcases (show b = e ∨ b = it by simpa using hb) with z | z
    · subst z
      exact ⟨_, ee, fun v q => nomatch q⟩
    · subst z
      exact ⟨o, oe, fun v q => by rw [od] at q; cases q⟩
  keep := fun i h h2 st kp => by
    obtain ⟨⟨old, ee⟩, ie, hne⟩ := st
    exact ⟨⟨old, kp e (by simp) _ ee⟩, ie.at fun o q => kp it (by simp) o q, hne⟩
  item := by
    intro Y yP yw yK yc i pn s sl H F I hf st hg
    subst yP yw yK
    obtain ⟨⟨old, ee⟩, ie, hne⟩ := st
    obtain ⟨xs, x, sq, ex⟩ := hg
    obtain ⟨vs, rv, po, _⟩ := I.tuple sq
    obtain ⟨u, eu, ru⟩ := rv.get ex
    have oa : s.heap.IsTuple a vs.toArray := po
    have ai : a ≠ it := fun z => by
      subst z
      obtain ⟨o1, q1, c1, _⟩ := ie
      obtain ⟨o2, q2, c2, _⟩ := id oa
      rw [q1] at q2
      cases q2
      rw [c1] at c2
      injection c2 with c3
      exact absurd c3 (by decide)
    have ae : e ≠ a := fun z => by
      subst z
      obtain ⟨o2, q2, c2, _⟩ := id oa
      have q1 : s.heap.get? e = _ := ee
      rw [q1] at q2
      cases q2
      have c3 := c2
      injection c3 with c4
      exact absurd c4 (by decide)
    have le : e < s.heap.objs.size := Heap.lt_size ee
    have li : it < s.heap.objs.size := by
      obtain ⟨_, q, _⟩ := ie
      exact Heap.lt_size q
    have hi : i < vs.toArray.size := by
      have := (List.getElem?_eq_some_iff.mp eu).1
      simpa using this
    refine wpAny_pyNext_enum_itemC (Draws.tuple (A := Y.A.in1) (show Y.A.in1.handled = none from I.ok.hd yc) it a ai vs.toArray) ee ⟨ie, oa⟩ hi hne (by simp [hne, ae]) fun u2 h2 tk pu oe st2 oT zT kp => ?_
    have e2 : u2 = u := by
      have : vs[i]? = some u2 := by simpa using pu
      rw [eu] at this
      exact Option.some.inj this.symm
    subst e2
    refine ⟨_, rfl, wpAny_letOwnedTupleGo_enum (s := { s with heap := h2, toks := tk + 1 }) oe fun h3 ee3 sb => ?_⟩
    have oT3 := (sb.2 _ (Nat.ne_of_gt le)).trans oT
    have new : ObjOk Y.prog Y.w (upd H s.heap.objs.size (.tup [.int (k + (i : Nat)), x])) h3 s.heap.objs.size (.tup [.int (k + (i : Nat)), x]) :=
      ⟨by show 2 ≤ sizeLine; decide, [.int (k + (i : Nat)) tk, u2], .cons ⟨_, rfl⟩ (.cons ru .nil), ⟨_, oT3, rfl, _, rfl⟩⟩
    have I3 : Inv Y pn sl (upd H s.heap.objs.size (.tup [.int (k + (i : Nat)), x])) { s with heap := h3, toks := tk + 1 } := by
      refine I.turnedNew (ch := [e, it]) (fun b ob hb q => ?_) hf (Nat.le_refl _) new
      exact (sb.2 b fun z => hb (by simp [z])).trans (kp b ob (fun z => hb (by simp [z])) (fun z => hb (by simp [z])) q)
    refine ⟨.ref s.heap.objs.size, _, I3, rfl, ⟨_, x, rfl, I.hok.fresh (Nat.le_refl _), rfl, fun zs hz => ?_⟩, ⟨⟨u2, ?_⟩, st2.1.at fun o q => (sb.2 it (Ne.symm hne)).trans q, hne⟩, fun b hb => ?_⟩
    · rw [I.tuple_inj hz sq]
      exact ex
    · rw [show k + ((i + 1 : Nat) : Int) = k + (i : Int) + 1 by omega]
      exact ee3
    · have lb : b < s.heap.objs.size := by
        rcases (show b = e ∨ b = it by simpa using hb) with z | z
        · rw [z]
          exact le
        · rw [z]
          exact li
      rw [upd_ne (Nat.ne_of_lt lb)]
      exact (hf b hb).1
  done := by
    intro Y yP yw yK yc i pn s sl H F I hf st hg
    subst yP yw yK
    obtain ⟨⟨old, ee⟩, ie, hne⟩ := st
    obtain ⟨xs, sq, hx⟩ := hg
    obtain ⟨vs, rv, po, _⟩ := I.tuple sq
    have oa : s.heap.IsTuple a vs.toArray := po
    obtain ⟨g0, g1, g2, g3, g4, g5⟩ := hf it (by simp)
    have hl := rv.length
    have ai : a ≠ it := fun z => by
      subst z
      obtain ⟨o1, q1, c1, _⟩ := ie
      obtain ⟨o2, q2, c2, _⟩ := id oa
      rw [q1] at q2
      cases q2
      rw [c1] at c2
      injection c2 with c3
      exact absurd c3 (by decide)
    exact enum_end_q ee (fun Q2 F2 hQ2 => wpAny_nextOf_tuple_end (show Y.A.in1.handled = none from I.ok.hd yc) ie oa (by simp; omega) hQ2) fun h2 eb => ⟨rfl, I.turned (t' := s.toks) (fun b o hb q => eb b o hb q) g0 g1 g3 g4 g5⟩
  self := fun A2 i s Q F st h => by
    obtain ⟨⟨_, ee⟩, _⟩ := st
    exact wpAny_pyIter_enum ee h
def iQL (K : PySem.W.Frag) (k : Int) (ta : TA) : TI := fun σ H R => ta σ H fun vs H1 => ∃ a xs, vs = [.ref a] ∧ SqL K H1 a xs ∧ R (Itq (fun H xs => SqL K H a xs) k) H1
theorem pi_qL {X : Cx} {e : Expr} {ta : TA} {p pos tpos kp cp : Pos} {elts : List Expr} {kk jj : Nat} {k : Int} (k0 : -(2 ^ 63) ≤ k) (k1 : k < 2 ^ 63) (hg : Gl X "enumerate") (hm : X.mg "enumerate" = none) (ha : PA X [e] ta) (hs : starEach [e] X.env = [(false, eval e X.env)] := by rfl) :
    PI X (.Tuple elts kk tpos) (.Call (.Name "enumerate" p) [e] [⟨some "start", .Constant (.int k) jj cp, kp⟩] pos) (iQL X.K k ta) := by
  refine ⟨fun pn s sl H R I h => wpAny_Call_Name_kw (ld_blt I hg hm boot_enumerate ?_)⟩
  have he : backTo pos (starEach [e] X.env) = (false, eval e X.env) :: [] := by
    rw [hs]
    rfl
  refine cw_typeKw (by rw [he]; rfl) (by rfl) ?_
  have go := ha.run pos pn s sl H _ I h
  rw [he] at go ⊢
  refine evalArgs_kwB (by rfl) (thn go fun us s1 z1 => ?_)
  obtain ⟨vs, H1, I1, r1, q1⟩ := z1
  have pkw : PK X [⟨some "start", .Constant (.int k) jj cp, kp⟩] (tCons (tC (.int k)) tNil) := pk_cons pe_int pk_nil
  refine thn (pkw.run pos pn s1 sl H1 (fun zs H2 => zs = [.int k] ∧ H2 = H1) I1 ⟨rfl, rfl⟩) fun ws s2 z2 => ?_
  obtain ⟨zs, H2, I2, r2, rfl, rfl⟩ := z2
  obtain ⟨a, xs, rfl, sq, q⟩ := q1
  cases r1 with
  | cons ra rn =>
    cases rn
    cases ra
    cases r2 with
    | cons rk rn =>
      cases rn
      obtain ⟨tk, rfl⟩ := rk
      obtain ⟨us, rv, po, _⟩ := I2.list sq
      have oa : s2.heap.IsList a us.toArray := po.isList
      refine enum_begins_start (begins_list a us.toArray) oa k0 k1 fun h2 ee oi _ kp2 => wpAny_pyIter_enum ee ?_
      have I3 : Inv X pn sl H2 { s2 with heap := h2 } := I2.kept (t' := s2.toks) kp2
      refine ⟨s2.heap.objs.size + 1, [s2.heap.objs.size + 1, s2.heap.objs.size], _, _, H2, rfl, I3, turn_qL k a (s2.heap.objs.size + 1) s2.heap.objs.size, ⟨⟨.none, ?_⟩, ⟨_, oi, rfl, rfl⟩, Nat.succ_ne_self _⟩, fun b hb => ?_, q⟩
      · rw [show k + ((0 : Nat) : Int) = k by omega]
        exact ee
      · have lb : s2.heap.objs.size ≤ b := by
          rcases (show b = s2.heap.objs.size + 1 ∨ b = s2.heap.objs.size by simpa using hb) with z | z
          · rw [z]
            exact Nat.le_add_right _ _
          · rw [z]
            exact Nat.le_refl _
        exact I2.fpOk lb (I2.hok.fresh lb)
def iQT (K : PySem.W.Frag) (k : Int) (ta : TA) : TI := fun σ H R => ta σ H fun vs H1 => ∃ a xs, vs = [.ref a] ∧ SqT K H1 a xs ∧ R (Itq (fun H xs => SqT K H a xs) k) H1
theorem pi_qT {X : Cx} {e : Expr} {ta : TA} {p pos tpos kp cp : Pos} {elts : List Expr} {kk jj : Nat} {k : Int} (k0 : -(2 ^ 63) ≤ k) (k1 : k < 2 ^ 63) (hg : Gl X "enumerate") (hm : X.mg "enumerate" = none) (ha : PA X [e] ta) (hs : starEach [e] X.env = [(false, eval e X.env)] := by rfl) :
    PI X (.Tuple elts kk tpos) (.Call (.Name "enumerate" p) [e] [⟨some "start", .Constant (.int k) jj cp, kp⟩] pos) (iQT X.K k ta) := by
  refine ⟨fun pn s sl H R I h => wpAny_Call_Name_kw (ld_blt I hg hm boot_enumerate ?_)⟩
  have he : backTo pos (starEach [e] X.env) = (false, eval e X.env) :: [] := by
    rw [hs]
    rfl
  refine cw_typeKw (by rw [he]; rfl) (by rfl) ?_
  have go := ha.run pos pn s sl H _ I h
  rw [he] at go ⊢
  refine evalArgs_kwB (by rfl) (thn go fun us s1 z1 => ?_)
  obtain ⟨vs, H1, I1, r1, q1⟩ := z1
  have pkw : PK X [⟨some "start", .Constant (.int k) jj cp, kp⟩] (tCons (tC (.int k)) tNil) := pk_cons pe_int pk_nil
  refine thn (pkw.run pos pn s1 sl H1 (fun zs H2 => zs = [.int k] ∧ H2 = H1) I1 ⟨rfl, rfl⟩) fun ws s2 z2 => ?_
  obtain ⟨zs, H2, I2, r2, rfl, rfl⟩ := z2
  obtain ⟨a, xs, rfl, sq, q⟩ := q1
  cases r1 with
  | cons ra rn =>
    cases rn
    cases ra
    cases r2 with
    | cons rk rn =>
      cases rn
      obtain ⟨tk, rfl⟩ := rk
      obtain ⟨us, rv, po, _⟩ := I2.tuple sq
      have oa : s2.heap.IsTuple a us.toArray := po
      refine enum_begins_start (begins_tuple a us.toArray) oa k0 k1 fun h2 ee oi _ kp2 => wpAny_pyIter_enum ee ?_
      have I3 : Inv X pn sl H2 { s2 with heap := h2 } := I2.kept (t' := s2.toks) kp2
      refine ⟨s2.heap.objs.size + 1, [s2.heap.objs.size + 1, s2.heap.objs.size], _, _, H2, rfl, I3, turn_qT k a (s2.heap.objs.size + 1) s2.heap.objs.size, ⟨⟨.none, ?_⟩, ⟨_, oi, rfl, rfl⟩, Nat.succ_ne_self _⟩, fun b hb => ?_, q⟩
      · rw [show k + ((0 : Nat) : Int) = k by omega]
        exact ee
      · have lb : s2.heap.objs.size ≤ b := by
          rcases (show b = s2.heap.objs.size + 1 ∨ b = s2.heap.objs.size by simpa using hb) with z | z
          · rw [z]
            exact Nat.le_add_right _ _
          · rw [z]
            exact Nat.le_refl _
        exact I2.fpOk lb (I2.hok.fresh lb)
end Fp

set_option Elab.async false
set_option linter.all false
namespace Fp
open PySem PySem.Spec PyProof.Rows L2
/-! ### isinstance of whole numbers -/
theorem int_bool (K : PySem.W.Frag) : PySem.W.kitOne K (.type "int") (.type "bool") = some false := by
  first | rfl | (unfold PySem.W.kitOne; rfl) | (unfold PySem.W.kitOne PySem.W.kitCls; simp) | skip
end Fp

set_option Elab.async false
set_option linter.all false
set_option maxRecDepth 100000
set_option maxHeartbeats 4000000
namespace Fp
open PySem PySem.Spec PyProof.Rows L2
/-! ### dicts with pairs of whole numbers as keys: values, sorted -/
section
variable {prog : Program} {w : World} {A : Around} {E : Value → Shared → Prop} {s : Shared} {o : Obj} {es : Array DictEntry} {ep : Nat}
theorem meetsVals {d : Addr} (hd : (d == sysModules) = false) :
    MeetsIn prog w (Builtin.«dict.values» ⟨[.ref d], []⟩) (fun _ R s => DT.Raw s.heap d es ep ∧
      R (.ok (.ret (.ref s.heap.objs.size))) { s with heap := s.heap.push (DSub.viewOb "dict_values" d) }) :=
  .of_wp fun A R s ⟨hm, h⟩ => by
    unfold Builtin.«dict.values»
    refine wpAny_bind ?_
    unfold Builtin.Dict.noArgs
    refine wpAny_bind (wpAny_notOrdered_dict hm.typeIs ?_)
    show wpAny _ _ (pure d) _ _ s
    refine wpAny_pure ?_
    show wpAny _ _ (Builtin.Dict.showsAll d >>= _) _ _ s
    unfold Builtin.Dict.showsAll
    rw [if_neg (by rw [hd]; exact Bool.false_ne_true)]
    refine wpAny_bind (wpAny_pure ?_)
    exact wpAny_bind (wpAny_newObj_type (wpAny_pure ⟨_, rfl, h⟩))
theorem callVals {d : Addr} {Q : Value → Shared → Prop} (hd : (d == sysModules) = false) (hm : DT.Raw s.heap d es ep) (h : Q (.ref s.heap.objs.size) { s with heap := s.heap.push (DSub.viewOb "dict_values" d) }) : wpAny (model prog w) A (call (.builtin "dict.values") [.ref d]) Q E s :=
  call_meetsIn PySem.F.slot_dict_values hm.typeIs PySem.F.entry_dict_values (PySem.F.args_dict_values_1 _) (meetsVals (es := es) (ep := ep) hd) ⟨hm, h⟩
theorem kdl_rawV {r d : Addr} (hd : o.data = .dict es ep) :
    PySem.W.KdlSrc prog w "dict_values" r d es.size (fun i v => ∃ en : DictEntry, es[i]? = some en ∧ v = en.val) (fun h => h.get? r = some (DSub.viewOb "dict_values" d) ∧ h.get? d = some o) where
  type := fun _ hm => ⟨_, hm.1, rfl⟩
  there := fun _ hm => ⟨Heap.lt_size hm.1, Heap.lt_size hm.2⟩
  keep := fun _ _ hm hk => ⟨hk r (.inl rfl) _ hm.1, hk d (.inr rfl) _ hm.2⟩
  notList := by decide
  notTuple := by decide
  hint := fun _ _ s _ hm hq => PySem.W.kdl_hint_values (s := s) ⟨_, hm.1, rfl⟩ hq
  iter := fun _ s hh hm => ⟨_, _, (fun _ _ hq => DSub.iter_vals hm.1 hm.2 hd hq), DSub.walksVal hh (Nat.ne_of_lt (Heap.lt_size hm.2)) hd (fun i e he => ⟨e, he, rfl⟩), ⟨Heap.get?_push_size _ rfl, Heap.get?_push_of_some _ hm.2⟩⟩
end
section
variable {X : Cx}
def rValuesT : V → List V → Hp → VK → Prop := fun x xs H Q => ∃ (a : Addr) (kvs : List (List L2.Key × V)), x = .ref a ∧ xs = [] ∧ H a = some (.dT kvs) ∧ ∀ p, H p = none → Q (.ref p) (upd H p (viewO "dict_values" p a))
theorem mt_valuesT : MtR X "dict.values" rValuesT := by
  intro pins s σ H x xs v us Q I rx rxs h
  obtain ⟨a, kvs, rfl, rfl, ha, q⟩ := h
  cases rx
  cases rxs
  obtain ⟨z, hd, xs', rel, o, es, ep, ho, hx, hdat, _⟩ := dt_of I.hok ha
  refine callVals (es := es) (ep := ep) hd ⟨o, ho, hx, hdat⟩ ?_
  have hf : H s.heap.objs.size = none := I.hok.fresh (Nat.le_refl _)
  exact ⟨.ref s.heap.objs.size, upd H s.heap.objs.size (viewO "dict_values" s.heap.objs.size a), I.laid (t' := s.toks) (fun b u e => Heap.get?_push_of_some _ e) (Nat.le_refl _) (viewO_ok (Heap.get?_push_size _ rfl)), rfl, q _ hf⟩
theorem vals_pairs {H : Hp} : ∀ {kvs : List (List L2.Key × V)} {ks : List (List L2.Key × Addr × Value)}, Paired (fun (p : List L2.Key × V) (q : List L2.Key × Addr × Value) => p.1 = q.1 ∧ H q.2.1 = some (.tup (p.1.map kV)) ∧ RelV p.2 q.2.2) kvs ks → Vals (kvs.map (·.2)) (ks.map (·.2.2))
  | _, _, .nil => .nil
  | _, _, .cons h t => .cons h.2.2 (vals_pairs t)
/-- what is gathered of a dict's entries -/
theorem got_is {α : Type} {f : DictEntry → Value} {g : α → DictEntry} {rows : Array DictEntry} {ks : List α} {got : Array Value} (e : rows.toList = ks.map g) (its : ItemsOf (fun i v => ∃ en : DictEntry, rows[i]? = some en ∧ v = f en) got rows.size) : got.toList = ks.map fun b => f (g b) := by
  have hl : rows.size = ks.length := by rw [← Array.length_toList, e, List.length_map]
  refine List.ext_getElem (by rw [Array.length_toList, its.1, List.length_map, hl]) fun j h1 h2 => ?_
  obtain ⟨en, h3, h4⟩ := its.2 j got.toList[j] (by rw [← Array.getElem?_toList]; exact List.getElem?_eq_getElem h1)
  rw [h4, List.getElem_map]
  rw [← Array.getElem?_toList, e, List.getElem?_map, List.getElem?_eq_getElem (by simpa using h2)] at h3
  rw [← Option.some.inj h3]
/-- list(d.values()) -/
theorem call_list_valsT (hc : X.calm = true) : CallR X (.type "list") (fun xs H Q => ∃ v d kvs, xs = [V.ref v] ∧ H v = some (viewO "dict_values" v d) ∧ H d = some (.dT kvs) ∧ ∀ p, H p = none → Q (.ref p) (upd H p (.lst (kvs.map (·.2))))) := by
  intro pins s σ H xs us Q I r h
  obtain ⟨v, d, kvs, rfl, hv, hd, q⟩ := h
  obtain ⟨u, rfl, rx⟩ := r.one
  cases rx
  have hv2 : s.heap.get? v = some (DSub.viewOb "dict_values" d) := (show ObjOk X.prog X.w H s.heap v (viewO "dict_values" v d) from I.hok v _ hv).1
  obtain ⟨z, hs, ks, pr, o, es, ep, ho, hx, hdt, he, hn⟩ := (show ObjOk X.prog X.w H s.heap d (.dT kvs) from I.hok d _ hd)
  have l1 : es.size = ks.length := size_of_entries he
  have l2 : kvs.length = ks.length := Paired.length pr
  refine PySem.W.kdl_call (kdl_rawV (r := v) hdt) (I.ok.hd hc) ⟨hv2, ho⟩ (by omega) fun h' tk acc' c' kp e it => ?_
  have ea : acc'.toList = ks.map fun x => x.2.2 := got_is (f := fun en => en.val) he it
  have rv : Vals (kvs.map (·.2)) acc'.toList := by rw [ea]; exact vals_pairs pr
  have hz : (kvs.map (·.2)).length ≤ sizeLine := by rw [List.length_map]; omega
  refine ⟨.ref s.heap.objs.size, _, I.laid (t' := tk) (o := .lst (kvs.map (·.2))) kp (Nat.le_refl _) ?_, rfl, q _ (I.hok.fresh (Nat.le_refl _))⟩
  exact ⟨hz, acc'.toList, c', rv, by rw [Array.toArray_toList]; exact e⟩
/-- what is gathered, and that the heap grew -/
theorem gathered {prog : Program} {w : World} {A : Around} {E : Value → Shared → Prop} {st : Shared} {T : String} {r d : Addr} {n : Nat} {I0 : Nat → Value → Prop} {ok : Heap → Prop} {R : List Value → Shared → Prop} (src : PySem.W.KdlSrc prog w T r d n I0 ok) (ah : A.handled = none) (o0 : ok st.heap) (small : n ≤ sizeLine)
    (go : ∀ (g : Heap) (k : Nat) (got : Array Value), (∀ b u, st.heap.get? b = some u → g.get? b = some u) → st.heap.objs.size ≤ g.objs.size → ItemsOf I0 got n → R got.toList { st with heap := g, toks := k }) : wpAny (model prog w) A (collect (.ref r)) R E st := by
  obtain ⟨lr, ld⟩ := src.there _ o0
  unfold collect
  refine wpAny_bind <| wpAny_runValue <| codeAny_builtin entry_proto_collect' ?_
  rw [(Around.under_plainId PySem.F.plain_proto_collect _)]
  show wpAny _ (A.in1) (newList [] >>= (fun l => again (.builtin "list.__iadd__" ⟨[l, .ref r], []⟩))) _ _ st
  refine wpAny_bind <| wpAny_newObj_type <| wpAny_pure ⟨plainId_quiet PySem.F.plain_list_iadd _, codeAny_builtin entry_list_iadd' ?_⟩
  rw [(Around.under_plainId PySem.F.plain_list_iadd _)]
  have hl0 : (st.heap.push { cls := .type "list", data := .seq ([] : List Value).toArray }).get? st.heap.objs.size = some { cls := .type "list", data := .seq #[] } := Heap.get?_push_size _ (rfl)
  show wpAny _ (A.in1) (Builtin.List.listExtendWith (.ref st.heap.objs.size) (.ref r) (.ref st.heap.objs.size)) _ _ _
  have all := PySem.W.kdl_extend (A := A) (s := { st with heap := st.heap.push { cls := .type "list", data := .seq ([] : List Value).toArray } }) (R := fun (res : Result) (z : Shared) => ∃ (g : Heap) (k : Nat) (got : Array Value) (c : Nat), res = .ok (.ret (.ref st.heap.objs.size)) ∧ z = { st with heap := g, toks := k } ∧ (∀ b u, st.heap.get? b = some u → g.get? b = some u) ∧ g.get? st.heap.objs.size = some { cls := .type "list", dict := none, data := .seq got c, slots := #[] } ∧ ItemsOf I0 got n)
    src ah (src.keep _ _ o0 fun b _ u x => Heap.get?_push_of_some _ x) st.heap.objs.size (Nat.ne_of_gt lr) (Nat.ne_of_gt ld) (.ref st.heap.objs.size) 0 hl0 (fun g k got c kp at0 its => ⟨g, k, got, c, rfl, rfl, fun b u x => kp b u (Nat.ne_of_lt (Heap.lt_size x)) (Heap.get?_push_of_some _ x), at0, its⟩) small
  refine wpAny_mono all (fun f z y => ?_) fun f z y => ?_
  · cases f with
    | done f0 =>
      obtain ⟨g, k, got, c, ef, rfl, kp, at0, its⟩ := y
      cases ef
      show wpAny _ A (load st.heap.objs.size >>= _) _ _ _
      exact wpAny_bind <| wpAny_load at0 <| wpAny_pure <| go g k got kp (Nat.le_of_lt (Heap.lt_size at0)) its
    | again c1 =>
      refine ⟨y.1, codeAny_mono y.2 fun res z2 y2 => ?_⟩
      obtain ⟨g, k, got, c, rfl, rfl, kp, at0, its⟩ := y2
      show wpAny _ A (load st.heap.objs.size >>= _) _ _ _
      exact wpAny_bind <| wpAny_load at0 <| wpAny_pure <| go g k got kp (Nat.le_of_lt (Heap.lt_size at0)) its
  · obtain ⟨_, _, _, _, ef, _⟩ := y
    cases ef
/-- sorted(d), d with pairs of whole numbers as keys -/
def rSortedT : List V → Hp → VK → Prop := fun vs H Q => ∃ (d : Addr) (kvs : List (List L2.Key × V)), vs = [V.ref d] ∧ H d = some (.dT kvs) ∧ (∀ e ∈ kvs, ∃ i j : Int, e.1 = [.inl i, .inl j]) ∧
  ∀ (ys : List V) (bs : List Addr) (k : V → Int × Int) (p : Addr), IsKeys H kvs bs → (∀ x ∈ bs.map V.ref, ∃ t, x = V.ref t ∧ H t = some (.tup [.int (k x).1, .int (k x).2])) → SrtO.Srtd (ltP k) ys → SrtO.Stb (ltP k) ys (bs.map V.ref) → H p = none → Q (.ref p) (upd H p (.lst ys))
noncomputable def pairAt (H : Hp) (x : V) : Int × Int := match x with
  | .ref t => match H t with
    | some (.tup [.int i, .int j]) => (i, j)
    | _ => (0, 0)
  | _ => (0, 0)
theorem keys_pairs {H : Hp} : ∀ {kvs : List (List L2.Key × V)} {bs : List Addr}, IsKeys H kvs bs → (∀ e ∈ kvs, ∃ i j : Int, e.1 = [.inl i, .inl j]) → ∀ x ∈ bs.map V.ref, ∃ t, x = V.ref t ∧ H t = some (.tup [.int (pairAt H x).1, .int (pairAt H x).2])
  | _, _, .nil, _, x, hx => by simp at hx
  | _, _, .cons (b := b) h t, hk, x, hx => by
    rcases List.mem_cons.mp hx with z | z
    · obtain ⟨i, j, e⟩ := hk _ (List.mem_cons_self ..)
      have h2 : H b = some (.tup [.int i, .int j]) := by
        rw [h, e]
        rfl
      refine ⟨b, z, ?_⟩
      rw [z]
      show H b = some (.tup [.int (pairAt H (.ref b)).1, .int (pairAt H (.ref b)).2])
      have e9 : pairAt H (.ref b) = (i, j) := by
        unfold pairAt
        simp only [h2]
      rw [e9, h2]
    · exact keys_pairs t (fun e he => hk e (List.mem_cons_of_mem _ he)) x z
theorem cr_sortedT (hc : X.calm = true) : CallR X (.builtin "sorted") rSortedT := by
  intro pins s σ H xs us Q I r h
  obtain ⟨d, kvs, rfl, hd, hkey, q⟩ := h
  obtain ⟨u, rfl, rx⟩ := vals1 r
  obtain rfl : u = Value.ref d := rx
  obtain ⟨z, hs, ks, pr, o, es, ep, ho, hx, hdt, he, hn⟩ := (show ObjOk X.prog X.w H s.heap d (.dT kvs) from I.hok d _ hd)
  have l1 : es.size = ks.length := size_of_entries he
  have l2 : kvs.length = ks.length := Paired.length pr
  have IK : IsKeys H kvs (ks.map fun x => x.2.1) := isKeys_of pr
  have hp := keys_pairs IK hkey
  refine PySem.Calls.call_function_entry kind_sorted plain_sorted entry_sorted (args_sorted1 _) ?_
  unfold Builtin.«sorted»
  refine wpAny_bind (m := checkCount "sorted" 1 1 _) (wpAny_pure ?_)
  refine wpAny_bind (gathered (A := X.A.in1) (kdl_raw hs hx hdt) (I.ok.hd hc) ho (by omega) fun h' tk acc hk hLn hacc => ?_)
  have ea : acc.toList = (ks.map fun x => x.2.1).map Value.ref := by
    rw [got_is (f := fun en => en.key) he hacc, List.map_map]
    rfl
  have hl : acc.toList.length ≤ sizeLine := by
    rw [ea, List.length_map, List.length_map]
    omega
  refine wpAny_bind (wpAny_newList ?_ hl)
  have hoL : (h'.push (seqObj "list" acc.toList.toArray 0)).get? h'.objs.size = some (seqObj "list" acc.toList.toArray 0) := Heap.get?_push_size _ rfl
  have keep : ∀ b o, s.heap.get? b = some o → b ≠ h'.objs.size ∧ (h'.push (seqObj "list" acc.toList.toArray 0)).get? b = some o := fun b o e => ⟨Nat.ne_of_lt (Heap.lt_size (hk _ _ e)), Heap.get?_push_of_some _ (hk _ _ e)⟩
  have hpair : ∀ v ∈ acc.toList, Srt.IsPair (h'.push (seqObj "list" acc.toList.toArray 0)) v (pairAt H (backV v)).1 (pairAt H (backV v)).2 := fun v hv => by
    rw [ea] at hv
    obtain ⟨b, hb, rfl⟩ := List.mem_map.mp hv
    obtain ⟨t, e, ht⟩ := hp (V.ref b) (List.mem_map.mpr ⟨b, hb, rfl⟩)
    cases e
    obtain ⟨_, its2, r2, o2, ho2, hc2, n2, hd2⟩ := I.hok _ _ ht
    obtain ⟨u1, u2, rfl, ri, rj⟩ := vals2 r2
    obtain ⟨t1, rfl⟩ := ri
    obtain ⟨t2, rfl⟩ := rj
    exact ⟨b, o2, t1, t2, n2, rfl, (keep _ _ ho2).2, hc2, hd2⟩
  show wpAny _ _ _ _ _ { s with heap := h'.push (seqObj "list" acc.toList.toArray 0), toks := tk }
  refine wpAny_bind (wpAny_holding (wpAny_call_entry slot_list_sort ⟨_, hoL, rfl⟩ entry_list_sort (SrtO.list_sort_ord (s := { s with heap := h'.push (seqObj "list" acc.toList.toArray 0), toks := tk }) (SrtO.swo_lex fun u => pairAt H (backV u)) hoL hl (fun h2 => SrtO.pairs_sortableO (by omega) hpair fun o2 e2 => ?_) fun out h1 h2 => ⟨_, rfl, ?_⟩) (args_list_sort _)))
  · have e' : some o2 = some (seqObj "list" acc.toList.toArray 0) := e2.symm.trans hoL
    cases e'
    intro c
    exact absurd (Value.type.inj c) (by decide)
  refine wpAny_pure ⟨_, rfl, ?_⟩
  have e1 : (ks.map fun x => x.2.1).map V.ref = acc.toList.map backV := by
    rw [ea]
    simp only [List.map_map]
    rfl
  have h3 : ∀ u ∈ out, ∃ a, u = Value.ref a := fun u hu => by
    have := h2.perm.mem_iff.mp hu
    rw [ea] at this
    obtain ⟨b, _, rfl⟩ := List.mem_map.mp this
    exact ⟨b, rfl⟩
  have hb : SrtO.Stb (ltP (pairAt H)) (out.map backV) ((ks.map fun x => x.2.1).map V.ref) := by
    rw [e1]
    exact SrtO.Stb.map (ltP_swo _) backV h2
  obtain ⟨n, hn2⟩ := sortedHeap_at (out := out.toArray) hoL
  have fr : H h'.objs.size = none := I.hok.fresh hLn
  refine ⟨.ref h'.objs.size, upd H h'.objs.size (.lst (out.map backV)), I.laid (t' := tk) (fun b u e => ?_) hLn ⟨?_, out, n, vals_back h3, hn2⟩, rfl, q _ _ (pairAt H) h'.objs.size IK hp (SrtO.srtd_map h1) hb fr⟩
  · obtain ⟨k1, k2⟩ := keep b u e
    rw [sortedHeap_old k1 (Heap.lt_size k2)]
    exact k2
  · rw [hb.len, List.length_map, List.length_map]
    omega
end
end Fp

set_option Elab.async false
set_option linter.all false
set_option maxRecDepth 100000
set_option maxHeartbeats 4000000
namespace Fp
open PySem PySem.Spec PyProof.Rows L2
/-! ### max(xs, default=d) of whole numbers -/
theorem ints_read {h : Heap} : ∀ {ns : List Int} {its : List Value}, Vals (ns.map V.int) its → ReadsAll h its (ns.map PyData.int) []
  | [], [], _ => .nil
  | n :: r, _ :: t, .cons x y => by
    obtain ⟨k, e⟩ := (show ∃ k, _ = Value.int n k from x)
    rw [e]
    exact ReadsAll.cons (as := []) (bs := []) (.int n k) (ints_read y)
theorem ints_flat : ∀ ns : List Int, PyData.depthAll (ns.map PyData.int) = 0
  | [] => rfl
  | n :: r => by
    show max (PyData.depth (.int n)) (PyData.depthAll (r.map PyData.int)) = 0
    rw [ints_flat r]
    rfl
theorem fold_max : ∀ (r : List Int) (n : Int), r.foldl max n ∈ n :: r ∧ ∀ y ∈ n :: r, y ≤ r.foldl max n
  | [], n => ⟨List.mem_cons_self .., fun y hy => by rw [List.mem_singleton.mp hy]; exact Int.le_refl _⟩
  | k :: r, n => by
    obtain ⟨h1, h2⟩ := fold_max r (max n k)
    show r.foldl max (max n k) ∈ n :: k :: r ∧ ∀ y ∈ n :: k :: r, y ≤ r.foldl max (max n k)
    have h3 := h2 (max n k) (List.mem_cons_self ..)
    refine ⟨?_, fun y hy => ?_⟩
    · rcases List.mem_cons.mp h1 with z | z
      · rw [z]
        rcases (by omega : max n k = n ∨ max n k = k) with u | u
        · rw [u]
          exact List.mem_cons_self ..
        · rw [u]
          exact List.mem_cons_of_mem _ (List.mem_cons_self ..)
      · exact List.mem_cons_of_mem _ (List.mem_cons_of_mem _ z)
    · rcases List.mem_cons.mp hy with z | z
      · rw [z]
        omega
      · rcases List.mem_cons.mp z with u | u
        · rw [u]
          omega
        · exact h2 y (List.mem_cons_of_mem _ u)
def rMaxD (K : PySem.W.Frag) : List V → List V → Hp → VK → Prop := fun vs zs H Q => ∃ (a : Addr) (ns : List Int) (d : Int), vs = [.ref a] ∧ zs = [.int d] ∧ SqL K H a (ns.map V.int) ∧ (ns = [] → Q (.int d) H) ∧ ∀ m ∈ ns, (∀ y ∈ ns, y ≤ m) → Q (.int m) H
section
variable {X : Cx}
theorem cr_maxD (hc : X.calm = true) (hu : X.A.units + 64 < cLine) : CallRK X (.builtin "max") ["default"] (rMaxD X.K) := by
  intro pins st σ H xs zs us ws Q I rx rz ask
  obtain ⟨a, ns, d, rfl, rfl, hs, q0, q1⟩ := ask
  obtain ⟨its, rv, hl, _⟩ := I.list hs
  obtain ⟨d', rfl, rd⟩ := vals1 rz
  obtain ⟨k, rfl⟩ := (show ∃ k, d' = Value.int d k from rd)
  rw [Vals.ref1 rx]
  show wpAny _ _ (call (.builtin "max") [.ref a] [(Str.ofString "default", Value.int d k)]) _ _ st
  refine PySem.W.max_list_default (xs := ns.map PyData.int) (as := []) (I.ok.hd hc) hl.isList (by rw [List.toList_toArray]; exact ints_read rv) ⟨fun x hx y hy => ?_, fun x hx => ?_⟩ (by rw [ints_flat]; omega) (fun z h' tk kp => ?_) (fun y ys i v h' tk bs e hv hr kp => ?_)
  · obtain ⟨i, _, rfl⟩ := List.mem_map.mp hx
    obtain ⟨j, _, rfl⟩ := List.mem_map.mp hy
    rfl
  · obtain ⟨i, _, rfl⟩ := List.mem_map.mp hx
    intro z
    cases z
  · exact ⟨.int d, H, I.kept kp, ⟨_, rfl⟩, q0 (List.map_eq_nil_iff.mp z)⟩
  · cases ns with
    | nil => cases e
    | cons n r =>
      have e2 := (List.cons.inj e)
      rw [← e2.1, ← e2.2, PySem.W.maxD_ints] at hr
      obtain ⟨t, rfl⟩ : ∃ t, v = Value.int (r.foldl max n) t := by
        cases hr with
        | int i t => exact ⟨t, rfl⟩
      obtain ⟨m1, m2⟩ := fold_max r n
      exact ⟨.int _, H, I.kept kp, ⟨_, rfl⟩, q1 _ m1 m2⟩
end
end Fp

set_option Elab.async false
set_option linter.all false
set_option maxRecDepth 100000
set_option maxHeartbeats 4000000
set_option exponentiation.threshold 10000
namespace Fp
open PySem PySem.Spec PyProof.Rows L2
def topS (i : Nat) : Stmt := PySem.Challenge.pw_freshparts_k56_first_ones_of_kinds.main.body.getD i (.Pass ⟨0, 0, 0, 0⟩)
abbrev s_cd : Stmt := topS 4
theorem sc_cd : FnScope ["one", "other", "great", "small"] ["one", "other"] (defScope s_cd) := ⟨rfl, rfl, rfl, by decide +kernel, rfl, by decide +kernel, by decide +kernel⟩

/-! ### the greatest common divisor -/
theorem abs_if (i : Int) : (if i < 0 then -i else i) = (i.natAbs : Int) := by split <;> omega
theorem gcd_turn {g s : Int} (hs : 0 < s) (hg : 0 ≤ g) : Int.gcd s (g.fmod s) = Int.gcd g s := by
  obtain ⟨n, rfl⟩ := Int.eq_ofNat_of_zero_le hg
  obtain ⟨m, rfl⟩ := Int.eq_ofNat_of_zero_le (Int.le_of_lt hs)
  rw [Int.fmod_eq_emod_of_nonneg _ (Int.le_of_lt hs)]
  show Nat.gcd m ((n : Int) % (m : Int)).natAbs = Nat.gcd n m
  rw [show ((n : Int) % (m : Int)) = ((n % m : Nat) : Int) from (Int.natCast_emod n m).symm, Int.natAbs_natCast, Nat.gcd_comm n m, Nat.gcd_comm m (n % m)]
  exact (Nat.gcd_rec m n).symm

section
variable {P : Program} {w : World} {K : PySem.W.Frag} {mg : Str → Option Value} {base : Heap}
def spCd : Sp := fun vs H Q _ => ∃ a b : Int, vs = [.int a, .int b] ∧ Q (.int (Int.gcd a b : Nat)) H
theorem ok_cd {f : Addr} {fd : FuncData} {k : Nat} (F : Fun K "common_divisor" "common_divisor" s_cd f fd) (ma : mg "abs" = none) : FnOk P w K mg base CX0 (k + 1) f fd ["one", "other"] spCd := by
  refine F.ok sc_cd (fun vs H Q E h => ?_) (fun cdv A outer s H vs Q E hr h => ?_)
  · obtain ⟨a, b, rfl, _⟩ := h
    rfl
  · obtain ⟨a, b, rfl, q⟩ := h
    refine ⟨_, pss_cons (ps_par (i := 2) (j := 3) rfl sc_cd.nd rfl rfl (by decide) rfl rfl (pa_cons (pe_callB call_abs (by rfl) ma (by decide +kernel) (pa_cons (pv 0) pa_nil)) (pa_cons (pe_callB call_abs (by rfl) ma (by decide +kernel) (pa_cons (pv 1) pa_nil)) pa_nil)) (by rfl))
      (pss_cons (ps_while PassesOwn.never (pt_cmpR op_ne (pv 3) pe_int (nomark _)) (pss_one (ps_par (i := 2) (j := 3) rfl sc_cd.nd rfl rfl (by decide) rfl rfl (pa_cons (pv 3) (pa_cons (pe_op op_modN (pv 2) (pv 3)) pa_nil)) (by rfl))))
      (pss_one (ps_ret (pv 2)))), ?_⟩
    refine ⟨_, rfl, a, rfl, _, rfl, b, rfl, _, _, rfl, ?_⟩
    refine while_by (fun σ H1 => H1 = H ∧ ∃ g s : Int, σ = [some (.int a), some (.int b), some (.int g), some (.int s)] ∧ 0 ≤ g ∧ 0 ≤ s ∧ Int.gcd g s = Int.gcd a b)
      (fun σ _ => match σ with | [_, _, _, some (.int s)] => s.toNat | _ => 0) ?_ ?_ ?_
    · refine ⟨rfl, _, _, rfl, ?_, ?_, ?_⟩
      · rw [abs_if]; omega
      · rw [abs_if]; omega
      · rw [abs_if, abs_if]
        show Nat.gcd _ _ = Nat.gcd _ _
        rw [Int.natAbs_natCast, Int.natAbs_natCast]
    · rintro σ H1 ⟨rfl, g, s, rfl, hg, hs, e⟩
      refine ⟨_, rfl, rfl, _, rfl, ite2 (fun c => ?_) (fun c => ?_)⟩
      · have hs0 : s ≠ 0 := fun z => by
          rw [z] at c
          exact absurd c (by decide)
        have hp : 0 < s := by omega
        have lt : s > g.fmod s := Int.fmod_lt_of_pos g hp
        have nn : 0 ≤ g.fmod s := Int.fmod_nonneg_of_pos g hp
        refine ⟨_, rfl, _, rfl, _, rfl, g, s, rfl, rfl, hs0, _, _, rfl, ⟨rfl, s, g.fmod s, rfl, hs, nn, ?_⟩, ?_⟩
        · rw [gcd_turn hp hg]; exact e
        · show (g.fmod s).toNat < s.toNat
          omega
      · have hs0 : s = 0 := by
          rcases Classical.em (s = 0) with z | z
          · exact z
          · exact absurd (show (!decide (V.int s = V.int 0)) = true by simp [z]) c
        subst hs0
        refine ⟨_, rfl, ?_⟩
        have eg : g = ((Int.gcd a b : Nat) : Int) := by
          rw [← e, Int.gcd_zero_right]
          omega
        rw [eg]
        exact q
    · intro σ H1 Q1 Q2 hq h
      obtain ⟨v, e1, e2, k, e3, h⟩ := h
      exact ⟨v, e1, e2, k, e3, hq _ _ h⟩
end

end Fp

set_option Elab.async false
set_option linter.all false
set_option maxRecDepth 100000
set_option maxHeartbeats 4000000
set_option exponentiation.threshold 10000
namespace Fp
open PySem PySem.Spec PyProof.Rows L2
/-! ### ratio -/
def ratG (t b : Int) : Int := if b < 0 then -((Int.gcd t b : Nat) : Int) else ((Int.gcd t b : Nat) : Int)
def ratT (t b : Int) : Int := t.fdiv (ratG t b)
def ratB (t b : Int) : Int := b.fdiv (ratG t b)
theorem gcd_le {t b : Int} (h : b ≠ 0) : 0 < Int.gcd t b ∧ Int.gcd t b ≤ b.natAbs := by
  have hb : 0 < b.natAbs := by omega
  exact ⟨Nat.gcd_pos_of_pos_right _ hb, Nat.gcd_le_right _ hb⟩
theorem ratG_ok {t b : Int} {n : Nat} (h : b ≠ 0) (hb : b.natAbs < 2 ^ n) (hn : n ≤ 9000) (h0 : 0 < n) : CDivA t (ratG t b) ∧ CDivA b (ratG t b) := by
  obtain ⟨h1, h2⟩ := gcd_le (t := t) h
  have e : (ratG t b).natAbs = Int.gcd t b := by
    unfold ratG
    split <;> omega
  have ne : ratG t b ≠ 0 := by omega
  have l : (ratG t b).natAbs.log2 < 9000 := by
    rw [e]
    exact Nat.lt_of_lt_of_le ((Nat.log2_lt (by omega)).mpr (Nat.lt_of_le_of_lt h2 hb)) hn
  exact ⟨⟨ne, l⟩, ⟨ne, l⟩⟩

end Fp

set_option Elab.async false
set_option linter.all false
set_option maxRecDepth 100000
set_option maxHeartbeats 4000000
set_option exponentiation.threshold 10000
namespace Fp
open PySem PySem.Spec PyProof.Rows L2
abbrev s_ratio : Stmt := topS 5
theorem sc_ratio : FnScope ["top", "bottom", "divisor"] ["top", "bottom"] (defScope s_ratio) := ⟨rfl, rfl, rfl, by decide +kernel, rfl, by decide +kernel, by decide +kernel⟩
section
variable {P : Program} {w : World} {K : PySem.W.Frag} {mg : Str → Option Value} {base : Heap}
def spRat0 : Sp := fun vs H Q _ => ∃ (t b : Int), vs = [.int t, .int b] ∧ b.natAbs < 2 ^ 8000 ∧ b ≠ 0 ∧ ∀ p, H p = none → Q (.ref p) (upd H p (.tup [.int (ratT t b), .int (ratB t b)]))
theorem ok_ratio {f fC : Addr} {fd fdC : FuncData} (F : Fun K "ratio" "ratio" s_ratio f fd) (FC : Fun K "common_divisor" "common_divisor" s_cd fC fdC) (bC : Binds K fdC ["one", "other"] [])
    (gC : mg "common_divisor" = some (.ref fC)) (ma : mg "abs" = none) : FnOk P w K mg base CX0 2 f fd ["top", "bottom"] spRat0 := by
  have GC : FnOk P w K mg base CX0 1 fC fdC ["one", "other"] spCd := ok_cd FC ma
  refine F.ok sc_ratio (fun vs H Q E h => ?_) (fun cdv A outer s H vs Q E hr h => ?_)
  · obtain ⟨t, b, rfl, _⟩ := h
    rfl
  · obtain ⟨t, b, rfl, hb, h0, q1⟩ := h
    refine ⟨_, (pss_cons (ps_if (pt_cmpR op_eq (pv 1) pe_int (nomark _)) (pss_one ps_never) pss_nil) (pss_cons (ps_set (i := 2) sc_ratio.nd rfl (.inl rfl) (pe_call GC hr (by rfl) gC FC.kp bC .nil pass0 (pa_cons (pv 0) (pa_cons (pv 1) pa_nil)))) (pss_cons (ps_if (pt_cmpR op_lt (pv 1) pe_int (nomark _)) (pss_one (ps_set (i := 2) sc_ratio.nd rfl (.inl rfl) (pe_un un_neg (pv 2)))) pss_nil) (pss_one (ps_ret (pe_tup (pa_cons (pe_op op_fdivA (pv 0) (pv 2)) (pa_cons (pe_op op_fdivA (pv 1) (pv 2)) pa_nil)))))))), ?_⟩
    refine ⟨_, rfl, rfl, _, rfl, ite2 (fun c => ?_) (fun c => ?_)⟩
    · exact absurd (V.int.inj (of_decide_eq_true c)) h0
    · obtain ⟨c1, c2⟩ := ratG_ok (t := t) h0 hb (by decide) (by decide)
      refine ⟨_, rfl, _, rfl, t, b, rfl, ?_⟩
      have fin : ∀ g : Int, g = ratG t b → ∀ p, H p = none → Q (.ref p) (upd H p (.tup [.int (t.fdiv g), .int (b.fdiv g)])) := fun g eg p hp => by
        rw [eg]
        exact q1 p hp
      refine ⟨_, rfl, b, 0, rfl, rfl, _, rfl, ite2 (fun c3 => ?_) (fun c3 => ?_)⟩
      · have hneg : b < 0 := of_decide_eq_true c3
        have eg : -((Int.gcd t b : Nat) : Int) = ratG t b := by unfold ratG; rw [if_pos hneg]
        refine ⟨_, rfl, _, rfl, ?_⟩
        refine ⟨_, rfl, _, rfl, t, _, rfl, rfl, by rw [eg]; exact c1, _, rfl, _, rfl, b, _, rfl, rfl, by rw [eg]; exact c2, by show 2 ≤ sizeLine; decide, fin _ eg⟩
      · have hneg : ¬ b < 0 := fun z => c3 (decide_eq_true z)
        have eg : ((Int.gcd t b : Nat) : Int) = ratG t b := by unfold ratG; rw [if_neg hneg]
        refine ⟨_, rfl, _, rfl, t, _, rfl, rfl, by rw [eg]; exact c1, _, rfl, _, rfl, b, _, rfl, rfl, by rw [eg]; exact c2, by show 2 ≤ sizeLine; decide, fin _ eg⟩
end

end Fp

set_option Elab.async false
set_option linter.all false
set_option maxRecDepth 100000
set_option maxHeartbeats 4000000
set_option exponentiation.threshold 10000
namespace Fp
open PySem PySem.Spec PyProof.Rows L2
/-! ### two ratios reckoned -/
theorem sqT_same {K : PySem.W.Frag} {H H' : Hp} {a : Addr} {xs : List V} (e : Same H H') (h : SqT K H a xs) : SqT K H' a xs := by
  rcases h with (h | ⟨o, h⟩) | h
  · exact .inl (.inl (e _ _ h))
  · exact .inl (.inr ⟨o, e _ _ h⟩)
  · exact .inr h
theorem same_new {H : Hp} {p : Addr} {o : HO} (h : H p = none) : Same H (upd H p o) := fun b x z => by
  rw [upd_ne (ne_of_none z h)]
  exact z
/-- bounds of what is multiplied -/
def Sm (n : Nat) (a : Int) : Prop := a.natAbs < 2 ^ n
theorem Sm.log {n : Nat} {a : Int} (h : Sm n a) (h0 : 0 < n) : a.natAbs.log2 < n := by
  rcases Nat.eq_zero_or_pos a.natAbs with z | z
  · rw [z]; simpa using h0
  · exact (Nat.log2_lt (by omega)).mpr h
theorem Sm.mul {n m : Nat} {a b : Int} (ha : Sm n a) (hb : Sm m b) : Sm (n + m) (a * b) := by
  unfold Sm at *
  rw [Int.natAbs_mul, Nat.pow_add]
  exact Nat.mul_lt_mul'' ha hb
theorem Sm.add {n : Nat} {a b : Int} (ha : Sm n a) (hb : Sm n b) : Sm (n + 1) (a + b) := by
  unfold Sm at *
  rw [Nat.pow_succ]
  omega
theorem Sm.sub {n : Nat} {a b : Int} (ha : Sm n a) (hb : Sm n b) : Sm (n + 1) (a - b) := by
  unfold Sm at *
  rw [Nat.pow_succ]
  omega
theorem Sm.mono {n m : Nat} {a : Int} (h : Sm n a) (l : n ≤ m) : Sm m a := Nat.lt_of_lt_of_le h (Nat.pow_le_pow_right (by decide) l)
theorem Sm.cmul {n m : Nat} {a b : Int} (ha : Sm n a) (hb : Sm m b) (h0 : 0 < n) (h1 : 0 < m) (h : n + m ≤ 1000000) : CMulA a b := by
  have x := ha.log h0
  have y := hb.log h1
  unfold CMulA
  omega
/-- at p1 and p2 the ratios a by b, c by d -/
structure Two (K : PySem.W.Frag) (H : Hp) (p1 p2 : Addr) (a b c d : Int) : Prop where
  t1 : SqT K H p1 [.int a, .int b]
  t2 : SqT K H p2 [.int c, .int d]
  sa : Sm 3000 a
  sb : Sm 3000 b
  sc : Sm 3000 c
  sd : Sm 3000 d
  pb : 0 < b
  pd : 0 < d
theorem Two.den {K : PySem.W.Frag} {H : Hp} {p1 p2 : Addr} {a b c d : Int} (h : Two K H p1 p2 a b c d) : 0 < b * d := Int.mul_pos h.pb h.pd
theorem Two.same {K : PySem.W.Frag} {H H' : Hp} {p1 p2 : Addr} {a b c d : Int} (h : Two K H p1 p2 a b c d) (e : Same H H') : Two K H' p1 p2 a b c d := ⟨sqT_same e h.t1, sqT_same e h.t2, h.sa, h.sb, h.sc, h.sd, h.pb, h.pd⟩
def spTwo (K : PySem.W.Frag) (num : Int → Int → Int → Int → Int) : Sp := fun vs H Q _ => ∃ (p1 p2 : Addr) (a b c d : Int), vs = [.ref p1, .ref p2] ∧ Two K H p1 p2 a b c d ∧
  ∀ p, H p = none → Q (.ref p) (upd H p (.tup [.int (ratT (num a b c d) (b * d)), .int (ratB (num a b c d) (b * d))]))

end Fp

set_option Elab.async false
set_option linter.all false
set_option maxRecDepth 100000
set_option maxHeartbeats 4000000
set_option exponentiation.threshold 10000
namespace Fp
open PySem PySem.Spec PyProof.Rows L2
section
variable {P : Program} {w : World} {K : PySem.W.Frag} {mg : Str → Option Value} {base : Heap}
end

end Fp

set_option Elab.async false
set_option linter.all false
set_option maxRecDepth 100000
set_option maxHeartbeats 4000000
set_option exponentiation.threshold 10000
namespace Fp
open PySem PySem.Spec PyProof.Rows L2
section
variable {P : Program} {w : World} {K : PySem.W.Frag} {mg : Str → Option Value} {base : Heap}
end

end Fp

set_option Elab.async false
set_option linter.all false
set_option maxRecDepth 100000
set_option maxHeartbeats 4000000
set_option exponentiation.threshold 10000
namespace Fp
open PySem PySem.Spec PyProof.Rows L2
section
variable {P : Program} {w : World} {K : PySem.W.Frag} {mg : Str → Option Value} {base : Heap}
end

end Fp

set_option Elab.async false
set_option linter.all false
set_option maxRecDepth 100000
set_option maxHeartbeats 4000000
set_option exponentiation.threshold 10000
namespace Fp
open PySem PySem.Spec PyProof.Rows L2
section
variable {P : Program} {w : World} {K : PySem.W.Frag} {mg : Str → Option Value} {base : Heap}
def spOver0 (K : PySem.W.Frag) : Sp := fun vs H Q _ => ∃ (p1 p2 : Addr) (a b c d : Int), vs = [.ref p1, .ref p2] ∧ Two K H p1 p2 a b c d ∧ b * c ≠ 0 ∧
  ∀ p, H p = none → Q (.ref p) (upd H p (.tup [.int (ratT (a * d) (b * c)), .int (ratB (a * d) (b * c))]))
end

end Fp

set_option Elab.async false
set_option linter.all false
set_option maxRecDepth 100000
set_option maxHeartbeats 4000000
set_option exponentiation.threshold 10000
namespace Fp
open PySem PySem.Spec PyProof.Rows L2
/-! ### the feed of draws -/
abbrev s_feed : Stmt := topS 12
abbrev s_draw : Stmt := topS 13
theorem sc_feed : FnScope ["_law_script"] ["_law_script"] (defScope s_feed) := ⟨rfl, rfl, rfl, by decide +kernel, rfl, by decide +kernel, by decide +kernel⟩
theorem sc_draw : FnScope ["_law_feed_here", "_law_size", "_law_turn", "_law_digit", "_law_at", "_law_cell", "_law_mixed"] ["_law_feed_here", "_law_size"] (defScope s_draw) := ⟨rfl, rfl, rfl, by decide +kernel, rfl, by decide +kernel, by decide +kernel⟩
def feedL (c : Addr) (a l t : Int) : List (Key × V) := [(.inr "cells", .ref c), (.inr "at", .int a), (.inr "left", .int l), (.inr "turn", .int t)]
theorem feed_at (c : Addr) (a l t : Int) : valV (feedL c a l t) (.inr "at") = some (.int a) := rfl
theorem feed_cells (c : Addr) (a l t : Int) : valV (feedL c a l t) (.inr "cells") = some (.ref c) := rfl
theorem feed_left (c : Addr) (a l t : Int) : valV (feedL c a l t) (.inr "left") = some (.int l) := rfl
theorem feed_turn (c : Addr) (a l t : Int) : valV (feedL c a l t) (.inr "turn") = some (.int t) := rfl
theorem put_at (c : Addr) (a l t x : Int) : putK (feedL c a l t) (.inr "at") (.int x) = feedL c x l t := rfl
theorem put_left (c : Addr) (a l t x : Int) : putK (feedL c a l t) (.inr "left") (.int x) = feedL c a x t := rfl
theorem put_turn (c : Addr) (a l t x : Int) : putK (feedL c a l t) (.inr "turn") (.int x) = feedL c a l x := rfl
theorem feed_len (c : Addr) (a l t : Int) : (feedL c a l t).length < sizeLine := by show 4 < sizeLine; decide
theorem feed_merge (c : Addr) : mergeK [] (feedL c 0 0 0) = feedL c 0 0 0 := rfl
/-- at d a feed that has told t draws -/
def Feed (H : Hp) (d c : Addr) (t : Int) : Prop := ∃ (a l : Int) (ns : List Int), H d = some (.dK (feedL c a l t)) ∧ H c = some (.lst (ns.map V.int)) ∧ 0 ≤ t
/-- all but d as it was -/
def Keep (d : Addr) (H H' : Hp) : Prop := ∀ b o, b ≠ d → H b = some o → H' b = some o
theorem Keep.trans {d : Addr} {H H1 H2 : Hp} (a : Keep d H H1) (b : Keep d H1 H2) : Keep d H H2 := fun c o n z => b c o n (a c o n z)
theorem Keep.of_same {d : Addr} {H H' : Hp} (a : Same H H') : Keep d H H' := fun b o _ z => a b o z
theorem Keep.upd {d : Addr} {H : Hp} {o : HO} : Keep d H (upd H d o) := fun b x n z => by rw [upd_ne n]; exact z
theorem Feed.same {H H' : Hp} {d c : Addr} {t : Int} (f : Feed H d c t) (e : Same H H') : Feed H' d c t := by
  obtain ⟨a, l, ns, h1, h2, h3⟩ := f
  exact ⟨a, l, ns, e _ _ h1, e _ _ h2, h3⟩
theorem Feed.wr {H : Hp} {d c p : Addr} {t : Int} {o : HO} (f : Feed H d c t) (h1 : p ≠ d) (h2 : p ≠ c) : Feed (upd H p o) d c t := by
  obtain ⟨a, l, ns, e1, e2, e3⟩ := f
  exact ⟨a, l, ns, by rw [upd_ne h1.symm]; exact e1, by rw [upd_ne h2.symm]; exact e2, e3⟩
theorem Feed.ne {H : Hp} {d c p : Addr} {t : Int} {o : HO} (f : Feed H d c t) (h : H p = some o) (n : ∀ kvs, o ≠ .dK kvs) : p ≠ d := by
  obtain ⟨a, l, ns, h1, _⟩ := f
  exact ne_of h h1 (n _)
theorem Feed.nd {H : Hp} {d c p : Addr} {t : Int} (f : Feed H d c t) (h : H p = none) : p ≠ d := by
  obtain ⟨a, l, ns, h1, _⟩ := f
  exact (ne_of_none h1 h).symm
theorem Feed.nc {H : Hp} {d c p : Addr} {t : Int} (f : Feed H d c t) (h : H p = none) : p ≠ c := by
  obtain ⟨a, l, ns, _, h1, _⟩ := f
  exact (ne_of_none h1 h).symm
theorem Feed.new {H : Hp} {d c p : Addr} {t : Int} {o : HO} (f : Feed H d c t) (n : H p = none) : Feed (upd H p o) d c t := f.same (same_new n)
theorem keep_at {d c p : Addr} {H H' : Hp} {t : Int} {o : HO} (f : Feed H d c t) (k : Keep d H H') (h : H p = some o) (n : ∀ kvs, o ≠ .dK kvs) : H' p = some o := k p o (f.ne h n) h
theorem keep_new {d p : Addr} {H H' : Hp} {o : HO} (n : H p = none) (k : Keep d (upd H p o) H') : Keep d H H' := (Keep.of_same (same_new n)).trans k
theorem Keep.none {d c p : Addr} {t : Int} {H H' : Hp} (k : Keep d H H') (f : Feed H' d c t) (n : H' p = none) : H p = none := by
  match z : H p with
  | Option.none => rfl
  | some o =>
    have := k p o (f.nd n) z
    rw [n] at this
    cases this
/-- what was not there when k began may be written -/
theorem Keep.wr {d p : Addr} {H H' : Hp} {o : HO} (k : Keep d H H') (n : H p = Option.none) : Keep d H (L2.upd H' p o) := fun b x hb z => by
  rw [upd_ne (ne_of_none z n)]
  exact k b x hb z
theorem Keep.refl {d : Addr} {H : Hp} : Keep d H H := fun _ _ _ z => z
theorem sqT_keep {K : PySem.W.Frag} {H H' : Hp} {a d c : Addr} {t : Int} {xs : List V} (f : Feed H d c t) (e : Keep d H H') (h : SqT K H a xs) : SqT K H' a xs := by
  obtain ⟨x, l, ns, h1, _⟩ := f
  rcases h with (h | ⟨o, h⟩) | h
  · exact .inl (.inl (e _ _ (ne_of h h1 (by intro z; cases z)) h))
  · exact .inl (.inr ⟨o, e _ _ (ne_of h h1 (by intro z; cases z)) h⟩)
  · exact .inr h
theorem cut_ints (ns : List Int) (lo hi : Option Int) : ∃ ms : List Int, cutV (ns.map V.int) lo hi = ms.map V.int := by
  unfold cutV
  exact ⟨_, by rw [← List.map_drop, ← List.map_take]⟩
theorem dpAll_ints {K : PySem.W.Frag} {H : Hp} : ∀ ns : List Int, DpAll K H (ns.map V.int) (ns.map PyData.int)
  | [] => .nil
  | n :: r => .cons (.int n) (dpAll_ints r)
theorem canLay_ints : ∀ ns : List Int, PyData.canLayAll0 (ns.map PyData.int) = true
  | [] => rfl
  | n :: r => by
    show (PyData.canLay0 (.int n) && PyData.canLayAll0 (r.map PyData.int)) = true
    rw [canLay_ints r]
    rfl
theorem depth_ints : ∀ ns : List Int, PyData.depthAll (ns.map PyData.int) = 0
  | [] => rfl
  | n :: r => by
    show max (PyData.depth (.int n)) (PyData.depthAll (r.map PyData.int)) = 0
    rw [depth_ints r]
    rfl
theorem shaped_ints (ns : List Int) : SeqAt.shaped (.list (ns.map PyData.int)) = true := by
  unfold SeqAt.shaped
  have h1 : PyData.canLay0 (.list (ns.map PyData.int)) = true := by
    show PyData.canLayAll0 (ns.map PyData.int) = true
    exact canLay_ints ns
  have h2 : (PyData.list (ns.map PyData.int)).depth = 1 := by
    show PyData.depthAll (ns.map PyData.int) + 1 = 1
    rw [depth_ints]
  rw [h1, h2]
  rfl
theorem eqv_nil (ns : List Int) : PyData.eqv (.list (ns.map PyData.int)) (.list []) = ns.isEmpty := by
  cases ns with
  | nil => rfl
  | cons n r => rfl

section
variable {P : Program} {w : World} {K : PySem.W.Frag} {mg : Str → Option Value} {base : Heap}
def spFeed (K : PySem.W.Frag) : Sp := fun vs H Q _ => ∃ (a : Addr) (ns : List Int), vs = [.ref a] ∧ SqL K H a (ns.map V.int) ∧ ∀ d c H', Same H H' → Feed H' d c 0 → Q (.ref d) H'
theorem ok_feed {f : Addr} {fd : FuncData} {k : Nat} (F : Fun K "_law_feed" "_law_feed" s_feed f fd) (ml : mg "list" = none) : FnOk P w K mg base CX0 (k + 1) f fd ["_law_script"] (spFeed K) := by
  refine F.ok sc_feed (fun vs H Q E h => ?_) (fun cdv A outer s H vs Q E hr h => ?_)
  · obtain ⟨a, ns, rfl, _⟩ := h
    rfl
  · obtain ⟨a, ns, rfl, hS, q⟩ := h
    refine ⟨_, pss_one (ps_ret (pe_disp (pps_cons pe_str (pe_callTy call_list_of (by rfl) ml (by decide +kernel) (pa_cons (pe_slice sl_list (pv 0) po_none (po_some pe_int)) pa_nil))
      (pps_cons pe_str pe_int (pps_cons pe_str pe_int (pps_cons pe_str pe_int pps_nil)))) (by rfl) (by rfl) (fun z => by cases z) (by decide))), ?_⟩
    refine fun d nd => ?_
    have s1 : Same H (upd H d (.dK [])) := same_new nd
    obtain ⟨ms, em⟩ := cut_ints ns none (some 63)
    refine ⟨_, rfl, 63, rfl, a, ns.map V.int, rfl, s1.seq hS, fun x nx => ?_⟩
    have s2 := same_new (o := HO.lst (cutV (ns.map V.int) none (some 63))) nx
    refine ⟨x, _, rfl, .inl (SqL.of upd_same), fun c nc => ?_⟩
    have s3 := same_new (o := HO.lst (cutV (ns.map V.int) none (some 63))) nc
    refine ⟨?_, feedL c 0 0 0, rfl, by show 4 ≤ 15; decide, ?_⟩
    · exact s3 _ _ (s2 _ _ upd_same)
    · rw [feed_merge]
      have ncd : c ≠ d := fun z => by
        rw [z] at nc
        exact absurd nc (by rw [s2 _ _ upd_same]; exact fun z => nomatch z)
      refine q d c _ (fun b o z => ?_) ⟨0, 0, ms, upd_same, ?_, by decide⟩
      · have nb : b ≠ d := ne_of_none z nd
        rw [upd_ne nb]
        exact s3 _ _ (s2 _ _ (s1 _ _ z))
      · rw [upd_ne ncd, upd_same, em]
def spDraw : Sp := fun vs H Q _ => ∃ (d c : Addr) (many t : Int), vs = [.ref d, .int many] ∧ Feed H d c t ∧ t ≤ 1000000 ∧ 0 < many ∧ many < 1073741824 ∧
  ∀ r H', 0 ≤ r → r < many → Keep d H H' → Feed H' d c (t + 1) → Q (.int r) H'
theorem ok_draw {f : Addr} {fd : FuncData} {k : Nat} (F : Fun K "_law_draw" "_law_draw" s_draw f fd) (ml : mg "len" = none) : FnOk P w K mg base CX0 (k + 1) f fd ["_law_feed_here", "_law_size"] spDraw := by
  refine F.ok sc_draw (fun vs H Q E h => ?_) (fun cdv A outer s H vs Q E hr h => ?_)
  · obtain ⟨_, _, _, _, rfl, _⟩ := h
    rfl
  · obtain ⟨d, c, many, t, rfl, ⟨a, l, ns, hd, hc, ht0⟩, ht, hm0, hm1, q⟩ := h
    have hu := hu_of hr
    refine ⟨_, pss_cons (ps_set (i := 2) sc_draw.nd rfl (.inl rfl) (pe_op op_add (pe_dget hu (pv 0) pe_str (fun _ _ => rfl)) pe_int))
      (pss_cons (ps_dput hu (pv 0) pe_str (pv 2) rfl)
      (pss_cons (ps_if (pt_cmpR op_gt (pe_dget hu (pv 0) pe_str (fun _ _ => rfl)) pe_int (nomark _))
        (pss_cons (ps_set (i := 3) sc_draw.nd rfl (.inl rfl) (pe_op op_modN (pe_dget hu (pv 0) pe_str (fun _ _ => rfl)) (pv 1)))
        (pss_cons (ps_dput hu (pv 0) pe_str (pe_op op_fdiv (pe_dget hu (pv 0) pe_str (fun _ _ => rfl)) (pv 1)) rfl)
        (pss_one (ps_ret (pv 3))))) pss_nil)
      (pss_cons (ps_set (i := 4) sc_draw.nd rfl (.inl rfl) (pe_dget hu (pv 0) pe_str (fun _ _ => rfl)))
      (pss_cons (ps_dput hu (pv 0) pe_str (pe_op op_add (pv 4) pe_int) rfl)
      (pss_cons (ps_set (i := 5) sc_draw.nd rfl (.inl rfl) (pe_ifExp (pt_cmpR (op_neD hr.units) (pe_dget hu (pv 0) pe_str (fun _ _ => rfl)) (pe_lst pa_nil) (nomark _))
          (pe_ix ix_list (pe_dget hu (pv 0) pe_str (fun _ _ => rfl)) (pe_op op_modN (pv 4) (pe_callB call_len_seq (by rfl) ml PySem.boot_len (pa_cons (pe_dget hu (pv 0) pe_str (fun _ _ => rfl)) pa_nil))) (fun _ _ => rfl)) pe_int))
      (pss_cons (ps_if (PW.pt (pw_and (pt_cmpR op_ge (pv 5) (pe_op op_pow pe_int pe_int) (nomark _)) (pw_and1 (pt_cmpR op_lt (pv 4) (pe_callB call_len_seq (by rfl) ml PySem.boot_len (pa_cons (pe_dget hu (pv 0) pe_str (fun _ _ => rfl)) pa_nil)) (nomark _)))))
        (pss_cons (ps_dput hu (pv 0) pe_str (pe_op op_fdiv (pv 5) (pv 1)) rfl) (pss_one (ps_ret (pe_op op_modN (pv 5) (pv 1))))) pss_nil)
      (pss_cons (ps_set (i := 6) sc_draw.nd rfl (.inl rfl) (pe_op op_modN (pe_op op_pow (pe_op op_add (pe_op op_add (pe_op op_modN (pv 5) pe_int) (pe_op op_mul pe_int (pv 2))) pe_int) pe_int) pe_int))
      (pss_cons (ps_set (i := 6) sc_draw.nd rfl (.inl rfl) (pe_op op_modN (pe_op op_pow (pe_op op_add (pv 6) (pe_op op_mul pe_int (pv 2))) pe_int) pe_int))
      (pss_one (ps_ret (pe_op op_modN (pe_op op_fdiv (pv 6) pe_int) (pv 1)))))))))))), ?_⟩
    have ndc : c ≠ d := ne_of hc hd (by intro z; cases z)
    have mod_ok : ∀ x : Int, 0 ≤ x.fmod many ∧ x.fmod many < many := fun x => ⟨Int.fmod_nonneg_of_pos x hm0, Int.fmod_lt_of_pos x hm0⟩
    -- turn
    refine ⟨_, rfl, d, _, rfl, .inl ⟨_, .inr "turn", .inl hd, rfl, feed_turn c a l t⟩, t, 1, rfl, rfl, ?_⟩
    refine ⟨_, rfl, _, rfl, d, _, rfl, DPut.k (k := .inr "turn") hd (feed_len c a l t), ?_⟩
    rw [put_turn]
    -- left
    refine ⟨_, rfl, d, _, rfl, .inl ⟨_, .inr "left", .inl upd_same, rfl, feed_left c a l (t + 1)⟩, l, 0, rfl, rfl, _, rfl, ite2 (fun cl => ?_) (fun cl => ?_)⟩
    · refine ⟨_, rfl, d, _, rfl, .inl ⟨_, .inr "left", .inl upd_same, rfl, feed_left c a l (t + 1)⟩, _, rfl, l, many, rfl, rfl, Int.ne_of_gt hm0, ?_⟩
      refine ⟨_, rfl, d, _, rfl, .inl ⟨_, .inr "left", .inl upd_same, rfl, feed_left c a l (t + 1)⟩, _, rfl, l, many, rfl, rfl, ⟨hm0, hm1⟩, _, rfl, d, _, rfl, DPut.k (k := .inr "left") upd_same (feed_len c a l (t + 1)), ?_⟩
      rw [put_left, upd_upd]
      refine ⟨_, rfl, q _ _ (mod_ok l).1 (mod_ok l).2 Keep.upd ⟨a, _, ns, upd_same, ?_, by omega⟩⟩
      rw [upd_ne ndc]
      exact hc
    · refine ⟨_, rfl, d, _, rfl, .inl ⟨_, .inr "at", .inl upd_same, rfl, feed_at c a l (t + 1)⟩, ?_⟩
      refine ⟨_, rfl, a, 1, rfl, rfl, _, rfl, d, _, rfl, DPut.k (k := .inr "at") upd_same (feed_len c a l (t + 1)), ?_⟩
      rw [put_at, upd_upd]
      have hd2 : upd H d (.dK (feedL c (a + 1) l (t + 1))) d = some (.dK (feedL c (a + 1) l (t + 1))) := upd_same
      have hc2 : upd H d (.dK (feedL c (a + 1) l (t + 1))) c = some (.lst (ns.map V.int)) := by
        rw [upd_ne ndc]
        exact hc
      -- cells != []
      refine ⟨_, rfl, d, _, rfl, .inl ⟨_, .inr "cells", .inl upd_same, rfl, feed_cells c (a + 1) l (t + 1)⟩, Nat.zero_le _, fun e ne => ?_⟩
      have s1 := same_new (o := HO.lst []) ne
      have hc3 := s1 _ _ hc2
      have hd3 := s1 _ _ hd2
      have k3 : Keep d H (upd (upd H d (.dK (feedL c (a + 1) l (t + 1)))) e (.lst [])) := Keep.upd.trans (Keep.of_same s1)
      refine ⟨.list (ns.map PyData.int), .list [], .lst (SqL.of hc3) (dpAll_ints ns), .lst (SqL.of upd_same) .nil, shaped_ints ns, rfl, _, rfl, ?_⟩
      rw [eqv_nil]
      -- behind the cell
      have rest : ∀ cell : Int, tSeq (tIfS (tAnd (tTest (tOp (rI0 fun i j => .bl (decide (j ≤ i))) (tVar 5) (tOp (rI CPow fun i j => .int (i ^ j.toNat)) (tC (.int 10)) (tC (.int 18))))) (tTest (tOp (rI0 fun i j => .bl (decide (i < j))) (tVar 4) (tCB (fun xs H Q => ∃ p ys, xs = [.ref p] ∧ (SqL K H p ys ∨ SqT K H p ys) ∧ Q (.int ys.length) H) (tCons (tDGet (tVar 0) (tC (.str "cells"))) tNil)))))
          (tSeq (sDPut (tVar 0) (tC (.str "left")) (tOp (rI CDiv fun i j => .int (i / j)) (tVar 5) (tVar 1))) (tRet (tOp (rI (fun _ j => j ≠ 0) fun i j => .int (i.fmod j)) (tVar 5) (tVar 1)))) tNext)
          (tSeq (tAsg (tOp (rI (fun _ j => j ≠ 0) fun i j => .int (i.fmod j)) (tOp (rI CPow fun i j => .int (i ^ j.toNat)) (tOp (rI0 fun i j => .int (i + j)) (tOp (rI0 fun i j => .int (i + j)) (tOp (rI (fun _ j => j ≠ 0) fun i j => .int (i.fmod j)) (tVar 5) (tC (.int 999983))) (tOp (rI CMul fun i j => .int (i * j)) (tC (.int 40009)) (tVar 2))) (tC (.int 11))) (tC (.int 5))) (tC (.int 2147483647))) (gName 6))
          (tSeq (tAsg (tOp (rI (fun _ j => j ≠ 0) fun i j => .int (i.fmod j)) (tOp (rI CPow fun i j => .int (i ^ j.toNat)) (tOp (rI0 fun i j => .int (i + j)) (tVar 6) (tOp (rI CMul fun i j => .int (i * j)) (tC (.int 99991)) (tVar 2))) (tC (.int 5))) (tC (.int 2147483587))) (gName 6))
          (tRet (tOp (rI (fun _ j => j ≠ 0) fun i j => .int (i.fmod j)) (tOp (rI CDiv fun i j => .int (i / j)) (tVar 6) (tC (.int 16))) (tVar 1)))))
          { nx := fun _ H' => Q .non H', rt := Q } [some (.ref d), some (.int many), some (.int (t + 1)), none, some (.int a), some (.int cell), none] (upd (upd H d (.dK (feedL c (a + 1) l (t + 1)))) e (.lst [])) := by
        intro cell
        have fin : tSeq (tAsg (tOp (rI (fun _ j => j ≠ 0) fun i j => .int (i.fmod j)) (tOp (rI CPow fun i j => .int (i ^ j.toNat)) (tOp (rI0 fun i j => .int (i + j)) (tOp (rI0 fun i j => .int (i + j)) (tOp (rI (fun _ j => j ≠ 0) fun i j => .int (i.fmod j)) (tVar 5) (tC (.int 999983))) (tOp (rI CMul fun i j => .int (i * j)) (tC (.int 40009)) (tVar 2))) (tC (.int 11))) (tC (.int 5))) (tC (.int 2147483647))) (gName 6))
          (tSeq (tAsg (tOp (rI (fun _ j => j ≠ 0) fun i j => .int (i.fmod j)) (tOp (rI CPow fun i j => .int (i ^ j.toNat)) (tOp (rI0 fun i j => .int (i + j)) (tVar 6) (tOp (rI CMul fun i j => .int (i * j)) (tC (.int 99991)) (tVar 2))) (tC (.int 5))) (tC (.int 2147483587))) (gName 6))
          (tRet (tOp (rI (fun _ j => j ≠ 0) fun i j => .int (i.fmod j)) (tOp (rI CDiv fun i j => .int (i / j)) (tVar 6) (tC (.int 16))) (tVar 1))))
          { nx := fun _ H' => Q .non H', rt := Q } [some (.ref d), some (.int many), some (.int (t + 1)), none, some (.int a), some (.int cell), none] (upd (upd H d (.dK (feedL c (a + 1) l (t + 1)))) e (.lst [])) := by
          have hm : 0 ≤ cell.fmod 999983 ∧ cell.fmod 999983 < 999983 := ⟨Int.fmod_nonneg_of_pos _ (by decide), Int.fmod_lt_of_pos _ (by decide)⟩
          have e64 : (2 : Nat) ^ 64 = 18446744073709551616 := by decide
          refine ⟨_, rfl, cell, 999983, rfl, rfl, by show (999983 : Int) ≠ 0; decide, _, rfl, 40009, t + 1, rfl, rfl, .inl ⟨by decide, by decide⟩, _, _, rfl, rfl, _, 11, rfl, rfl, _, 5, rfl, rfl, ⟨by decide, by decide, ?_⟩, _, 2147483647, rfl, rfl, by show (2147483647 : Int) ≠ 0; decide, ?_⟩
          · rw [e64]
            omega
          · generalize hx : (cell.fmod 999983 + 40009 * (t + 1) + 11) ^ (5 : Int).toNat = x
            have hm2 : 0 ≤ x.fmod 2147483647 ∧ x.fmod 2147483647 < 2147483647 := ⟨Int.fmod_nonneg_of_pos _ (by decide), Int.fmod_lt_of_pos _ (by decide)⟩
            refine ⟨_, rfl, _, rfl, 99991, t + 1, rfl, rfl, .inl ⟨by decide, by decide⟩, _, _, rfl, rfl, _, 5, rfl, rfl, ⟨by decide, by decide, ?_⟩, _, 2147483587, rfl, rfl, by show (2147483587 : Int) ≠ 0; decide, ?_⟩
            · rw [e64]
              omega
            · refine ⟨_, rfl, _, 16, rfl, rfl, ⟨by decide, by decide⟩, _, rfl, _, many, rfl, rfl, Int.ne_of_gt hm0, ?_⟩
              exact q _ _ (mod_ok _).1 (mod_ok _).2 k3 ⟨a + 1, l, ns, hd3, hc3, by omega⟩
        refine ⟨_, rfl, 10, 18, rfl, rfl, ⟨by decide, by decide, by decide⟩, cell, _, rfl, rfl, _, rfl, ite2 (fun c1 => ?_) (fun c1 => iteF fin)⟩
        refine ⟨_, rfl, _, rfl, d, _, rfl, .inl ⟨_, .inr "cells", .inl hd3, rfl, feed_cells c (a + 1) l (t + 1)⟩, c, _, rfl, .inl (SqL.of hc3), a, _, rfl, rfl, _, rfl, ite2 (fun c2 => ?_) (fun c2 => fin)⟩
        refine ⟨_, rfl, _, rfl, cell, many, rfl, rfl, ⟨hm0, hm1⟩, _, rfl, d, _, rfl, DPut.k (k := .inr "left") hd3 (feed_len c (a + 1) l (t + 1)), ?_⟩
        rw [put_left]
        refine ⟨_, rfl, _, rfl, cell, many, rfl, rfl, Int.ne_of_gt hm0, q _ _ (mod_ok cell).1 (mod_ok cell).2 (k3.trans Keep.upd) ⟨a + 1, _, ns, upd_same, ?_, by omega⟩⟩
        rw [upd_ne ndc]
        exact hc3
      cases ns with
      | nil => exact iteF (rest 5)
      | cons n r =>
        refine iteT ?_
        have hlen : (0 : Int) < (((n :: r).map V.int).length : Nat) := by simp
        have h1 : 0 ≤ a.fmod ((((n :: r).map V.int).length : Nat) : Int) := Int.fmod_nonneg_of_pos _ hlen
        have h2 : a.fmod ((((n :: r).map V.int).length : Nat) : Int) < ((((n :: r).map V.int).length : Nat) : Int) := Int.fmod_lt_of_pos _ hlen
        have h3 : (a.fmod ((((n :: r).map V.int).length : Nat) : Int)).toNat < ((n :: r).map V.int).length := by omega
        have h4 : ∃ x, ((n :: r).map V.int)[(a.fmod ((((n :: r).map V.int).length : Nat) : Int)).toNat]? = some (.int x) := by
          rw [List.getElem?_map]
          rw [List.length_map] at h3
          rw [List.length_map, List.getElem?_eq_getElem h3]
          exact ⟨_, rfl⟩
        obtain ⟨x, hx⟩ := h4
        refine ⟨_, rfl, d, _, rfl, .inl ⟨_, .inr "cells", .inl hd3, rfl, feed_cells c (a + 1) l (t + 1)⟩, _, rfl, _, rfl, d, _, rfl, .inl ⟨_, .inr "cells", .inl hd3, rfl, feed_cells c (a + 1) l (t + 1)⟩, c, _, rfl, .inl (SqL.of hc3), a, _, rfl, rfl, Int.ne_of_gt hlen, c, _, _, _, rfl, rfl, SqL.of hc3, at_of (Int.toNat_of_nonneg h1).symm hx, rest x⟩
end

end Fp

set_option Elab.async false
set_option linter.all false
set_option maxRecDepth 100000
set_option maxHeartbeats 4000000
set_option exponentiation.threshold 10000
namespace Fp
open PySem PySem.Spec PyProof.Rows L2
section
variable {P : Program} {w : World} {K : PySem.W.Frag} {mg : Str → Option Value} {base : Heap}
/-! ### lowest terms by the law's own division -/
def spLow : Sp := fun vs H Q _ => ∃ t b : Int, vs = [.int t, .int b] ∧ 0 < b ∧ Sm 8000 b ∧ ∀ p, H p = none → Q (.ref p) (upd H p (.tup [.int (ratT t b), .int (ratB t b)]))
/-- what comes of lowest terms is no greater -/
theorem fdiv_le {x g : Int} (hg : 0 < g) (hd : g ∣ x) : (x.fdiv g).natAbs ≤ x.natAbs := by
  obtain ⟨y, rfl⟩ := hd
  rw [Int.mul_fdiv_cancel_left y (Int.ne_of_gt hg), Int.natAbs_mul]
  have : 1 ≤ g.natAbs := by omega
  exact Nat.le_mul_of_pos_left _ this
theorem ratG_pos {t b : Int} (hb : 0 < b) : 0 < ratG t b ∧ ratG t b ∣ t ∧ ratG t b ∣ b := by
  have e : ratG t b = ((Int.gcd t b : Nat) : Int) := by
    unfold ratG
    rw [if_neg (by omega)]
  rw [e]
  have := (gcd_le (t := t) (Int.ne_of_gt hb)).1
  exact ⟨by omega, Int.gcd_dvd_left .., Int.gcd_dvd_right ..⟩
theorem ratT_sm {t b : Int} {n : Nat} (hb : 0 < b) (h : Sm n t) : Sm n (ratT t b) := by
  obtain ⟨h1, h2, _⟩ := ratG_pos (t := t) hb
  exact Nat.lt_of_le_of_lt (fdiv_le h1 h2) h
theorem ratB_sm {t b : Int} {n : Nat} (hb : 0 < b) (h : Sm n b) : Sm n (ratB t b) := by
  obtain ⟨h1, _, h2⟩ := ratG_pos (t := t) hb
  exact Nat.lt_of_le_of_lt (fdiv_le h1 h2) h
theorem ratB_pos {t b : Int} (hb : 0 < b) : 0 < ratB t b := by
  obtain ⟨h1, _, y, hy⟩ := ratG_pos (t := t) hb
  unfold ratB
  have e : b.fdiv (ratG t b) = y := by
    have := Int.mul_fdiv_cancel_left y (Int.ne_of_gt h1)
    rw [← hy] at this
    exact this
  rw [e]
  rcases Int.lt_trichotomy y 0 with z | z | z
  · have := Int.mul_neg_of_pos_of_neg h1 z
    omega
  · rw [z, Int.mul_zero] at hy
    omega
  · exact z
end

end Fp

set_option Elab.async false
set_option linter.all false
set_option maxRecDepth 100000
set_option maxHeartbeats 4000000
set_option exponentiation.threshold 10000
namespace Fp
open PySem PySem.Spec PyProof.Rows L2
abbrev s_lowest : Stmt := topS 14
theorem sc_lowest : FnScope ["_law_top", "_law_bottom", "_law_one", "_law_other"] ["_law_top", "_law_bottom"] (defScope s_lowest) := ⟨rfl, rfl, rfl, by decide +kernel, rfl, by decide +kernel, by decide +kernel⟩
section
variable {P : Program} {w : World} {K : PySem.W.Frag} {mg : Str → Option Value} {base : Heap}
/-! ### lowest terms by the law's own division -/
theorem ok_lowest {f : Addr} {fd : FuncData} {k : Nat} (F : Fun K "_law_lowest" "_law_lowest" s_lowest f fd) (ma : mg "abs" = none) : FnOk P w K mg base CX0 (k + 1) f fd ["_law_top", "_law_bottom"] spLow := by
  refine F.ok sc_lowest (fun vs H Q E h => ?_) (fun cdv A outer s H vs Q E hr h => ?_)
  · obtain ⟨a, b, rfl, _⟩ := h
    rfl
  · obtain ⟨a, b, rfl, hb, sb, q⟩ := h
    refine ⟨_, pss_cons (ps_par (i := 2) (j := 3) rfl sc_lowest.nd rfl rfl (by decide) rfl rfl (pa_cons (pe_callB call_abs (by rfl) ma (by decide +kernel) (pa_cons (pv 0) pa_nil)) (pa_cons (pv 1) pa_nil)) (by rfl))
      (pss_cons (ps_while PassesOwn.never (pt_cmpR op_gt (pv 3) pe_int (nomark _)) (pss_one (ps_par (i := 2) (j := 3) rfl sc_lowest.nd rfl rfl (by decide) rfl rfl (pa_cons (pv 3) (pa_cons (pe_op op_modN (pv 2) (pv 3)) pa_nil)) (by rfl))))
      (pss_one (ps_ret (pe_tup (pa_cons (pe_op op_fdivA (pv 0) (pv 2)) (pa_cons (pe_op op_fdivA (pv 1) (pv 2)) pa_nil)))))), ?_⟩
    refine ⟨_, rfl, a, rfl, _, rfl, _, _, rfl, ?_⟩
    refine while_by (fun σ H1 => H1 = H ∧ ∃ g s : Int, σ = [some (.int a), some (.int b), some (.int g), some (.int s)] ∧ 0 ≤ g ∧ 0 ≤ s ∧ Int.gcd g s = Int.gcd a b)
      (fun σ _ => match σ with | [_, _, _, some (.int s)] => s.toNat | _ => 0) ?_ ?_ ?_
    · refine ⟨rfl, _, _, rfl, ?_, Int.le_of_lt hb, ?_⟩
      · rw [abs_if]; omega
      · rw [abs_if]
        show Nat.gcd _ _ = Nat.gcd _ _
        rw [Int.natAbs_natCast]
    · rintro σ H1 ⟨rfl, g, s, rfl, hg, hs, e⟩
      refine ⟨_, rfl, s, 0, rfl, rfl, _, rfl, ite2 (fun c => ?_) (fun c => ?_)⟩
      · have hp : 0 < s := of_decide_eq_true c
        have lt : s > g.fmod s := Int.fmod_lt_of_pos g hp
        have nn : 0 ≤ g.fmod s := Int.fmod_nonneg_of_pos g hp
        refine ⟨_, rfl, _, rfl, _, rfl, g, s, rfl, rfl, Int.ne_of_gt hp, _, _, rfl, ⟨rfl, s, g.fmod s, rfl, hs, nn, ?_⟩, ?_⟩
        · rw [gcd_turn hp hg]; exact e
        · show (g.fmod s).toNat < s.toNat
          omega
      · have hs0 : s = 0 := by
          have : ¬ 0 < s := fun z => c (decide_eq_true z)
          omega
        subst hs0
        have eg : g = ratG a b := by
          unfold ratG
          rw [if_neg (by omega), ← e, Int.gcd_zero_right]
          omega
        obtain ⟨c1, c2⟩ := ratG_ok (t := a) (Int.ne_of_gt hb) sb (by decide) (by decide)
        rw [eg]
        exact ⟨_, rfl, _, rfl, a, _, rfl, rfl, c1, _, rfl, _, rfl, b, _, rfl, rfl, c2, by show 2 ≤ sizeLine; decide, q⟩
    · intro σ H1 Q1 Q2 hq h
      obtain ⟨v, e1, i, j, e2, e3, k, e4, h⟩ := h
      exact ⟨v, e1, i, j, e2, e3, k, e4, hq _ _ h⟩
end

end Fp

set_option Elab.async false
set_option linter.all false
set_option maxRecDepth 100000
set_option maxHeartbeats 4000000
set_option exponentiation.threshold 10000
namespace Fp
open PySem PySem.Spec PyProof.Rows L2
section
variable {P : Program} {w : World} {K : PySem.W.Frag} {mg : Str → Option Value} {base : Heap}
end

end Fp

set_option Elab.async false
set_option linter.all false
set_option maxRecDepth 100000
set_option maxHeartbeats 4000000
set_option exponentiation.threshold 10000
namespace Fp
open PySem PySem.Spec PyProof.Rows L2
section
variable {P : Program} {w : World} {K : PySem.W.Frag} {mg : Str → Option Value} {base : Heap}
end

end Fp

set_option Elab.async false
set_option linter.all false
set_option maxRecDepth 100000
set_option maxHeartbeats 4000000
set_option exponentiation.threshold 10000
namespace Fp
open PySem PySem.Spec PyProof.Rows L2
theorem tC_go {v : V} {σ : L2.St} {H : Hp} {Q : VK} (h : Q v H) : tC v σ H Q := h
theorem tYes_go {σ : L2.St} {H : Hp} {Q : Bool → Hp → Prop} (h : Q true H) : tYes σ H Q := h
/-! ### lives as they stand in the heap -/
abbrev RT := Int × Int
def RAt (K : PySem.W.Frag) (H : Hp) (p : Addr) (x : RT) : Prop := SqT K H p [.int x.1, .int x.2]
inductive RsAt (K : PySem.W.Frag) (H : Hp) : List Addr → List RT → Prop
  | nil : RsAt K H [] []
  | cons {p : Addr} {x : RT} {ps : List Addr} {xs : List RT} : RAt K H p x → RsAt K H ps xs → RsAt K H (p :: ps) (x :: xs)
def RowAt (K : PySem.W.Frag) (H : Hp) (p : Addr) (xs : List RT) : Prop := ∃ rs : List Addr, SqT K H p (rs.map V.ref) ∧ RsAt K H rs xs
def LifeAt (K : PySem.W.Frag) (H : Hp) (p : Addr) (row : List RT) (step : RT) : Prop := ∃ pr ps : Addr, SqT K H p [.ref pr, .ref ps] ∧ RowAt K H pr row ∧ RAt K H ps step
/-- tuples stay -/
def Tk (K : PySem.W.Frag) (H H' : Hp) : Prop := ∀ a xs, SqT K H a xs → SqT K H' a xs
section
variable {K : PySem.W.Frag} {H H' H2 : Hp}
theorem Tk.refl : Tk K H H := fun _ _ h => h
theorem Tk.trans (a : Tk K H H') (b : Tk K H' H2) : Tk K H H2 := fun p xs h => b p xs (a p xs h)
theorem Tk.same (e : Same H H') : Tk K H H' := fun _ _ h => sqT_same e h
theorem Tk.new {p : Addr} {o : HO} (n : H p = none) : Tk K H (upd H p o) := Tk.same (same_new n)
theorem Tk.keep {d c : Addr} {t : Int} (f : Feed H d c t) (e : Keep d H H') : Tk K H H' := fun _ _ h => sqT_keep f e h
theorem RAt.tk {p : Addr} {x : RT} (h : RAt K H p x) (e : Tk K H H') : RAt K H' p x := e _ _ h
theorem RsAt.tk : ∀ {ps : List Addr} {xs : List RT}, RsAt K H ps xs → Tk K H H' → RsAt K H' ps xs
  | _, _, .nil, _ => .nil
  | _, _, .cons h r, e => .cons (h.tk e) (r.tk e)
theorem RowAt.tk {p : Addr} {xs : List RT} (h : RowAt K H p xs) (e : Tk K H H') : RowAt K H' p xs := by
  obtain ⟨rs, h1, h2⟩ := h
  exact ⟨rs, e _ _ h1, h2.tk e⟩
theorem LifeAt.tk {p : Addr} {row : List RT} {step : RT} (h : LifeAt K H p row step) (e : Tk K H H') : LifeAt K H' p row step := by
  obtain ⟨pr, ps, h1, h2, h3⟩ := h
  exact ⟨pr, ps, e _ _ h1, h2.tk e, h3.tk e⟩
theorem RsAt.length : ∀ {ps : List Addr} {xs : List RT}, RsAt K H ps xs → ps.length = xs.length
  | _, _, .nil => rfl
  | _, _, .cons _ r => congrArg (· + 1) r.length
theorem RsAt.get : ∀ {ps : List Addr} {xs : List RT} {i : Nat} {x : RT}, RsAt K H ps xs → xs[i]? = some x → ∃ p, ps[i]? = some p ∧ RAt K H p x
  | _, _, _, _, .nil, e => by simp at e
  | _, _, 0, _, .cons h _, e => by
    cases Option.some.inj e
    exact ⟨_, rfl, h⟩
  | _, _, i + 1, x, .cons _ r, e => RsAt.get (i := i) (x := x) r e
theorem RsAt.append : ∀ {ps qs : List Addr} {xs ys : List RT}, RsAt K H ps xs → RsAt K H qs ys → RsAt K H (ps ++ qs) (xs ++ ys)
  | _, _, _, _, .nil, s => s
  | _, _, _, _, .cons h r, s => .cons h (r.append s)
theorem RsAt.take : ∀ {ps : List Addr} {xs : List RT} (n : Nat), RsAt K H ps xs → RsAt K H (ps.take n) (xs.take n)
  | _, _, 0, _ => .nil
  | _, _, _ + 1, .nil => .nil
  | _, _, n + 1, .cons h r => .cons h (r.take n)
theorem RsAt.drop : ∀ {ps : List Addr} {xs : List RT} (n : Nat), RsAt K H ps xs → RsAt K H (ps.drop n) (xs.drop n)
  | _, _, 0, r => r
  | _, _, _ + 1, .nil => .nil
  | _, _, n + 1, .cons _ r => RsAt.drop n r
end
/-! ### lowest terms -/
def low2 (t b : Int) : RT := (ratT t b, ratB t b)
/-- a ratio in lowest terms -/
def Red (x : RT) : Prop := 0 < x.2 ∧ Int.gcd x.1 x.2 = 1
theorem low2_red {t b : Int} (hb : b ≠ 0) : Red (low2 t b) := by
  have main : ∀ (t b : Int), 0 < b → Red (low2 t b) := fun t b hb => by
    refine ⟨ratB_pos hb, ?_⟩
    have e : ratG t b = ((Int.gcd t b : Nat) : Int) := by
      unfold ratG
      rw [if_neg (by omega)]
    have hg := (gcd_le (t := t) (Int.ne_of_gt hb)).1
    obtain ⟨h1, ⟨x, hx⟩, ⟨y, hy⟩⟩ := ratG_pos (t := t) hb
    have ex : t.fdiv (ratG t b) = x := by
      have := Int.mul_fdiv_cancel_left x (Int.ne_of_gt h1)
      rw [← hx] at this
      exact this
    have ey : b.fdiv (ratG t b) = y := by
      have := Int.mul_fdiv_cancel_left y (Int.ne_of_gt h1)
      rw [← hy] at this
      exact this
    show Int.gcd (t.fdiv (ratG t b)) (b.fdiv (ratG t b)) = 1
    rw [ex, ey]
    have z : Int.gcd t b = (ratG t b).natAbs * Int.gcd x y := by
      have := Int.gcd_mul_left (ratG t b) x y
      rw [← hx, ← hy] at this
      exact this
    have z2 : (ratG t b).natAbs = Int.gcd t b := by rw [e]; exact Int.natAbs_natCast _
    rw [z2] at z
    exact (Nat.eq_of_mul_eq_mul_left hg (by rw [Nat.mul_one]; exact z)).symm
  rcases (by omega : 0 < b ∨ b < 0) with z | z
  · exact main t b z
  · have e1 : ratG t b = -((Int.gcd t b : Nat) : Int) := by unfold ratG; rw [if_pos z]
    have e2 : ratG (-t) (-b) = ((Int.gcd t b : Nat) : Int) := by
      unfold ratG
      rw [if_neg (by omega)]
      show ((Nat.gcd _ _ : Nat) : Int) = ((Nat.gcd _ _ : Nat) : Int)
      rw [Int.natAbs_neg, Int.natAbs_neg]
    have fl : ∀ x g : Int, x.fdiv (-g) = (-x).fdiv g := fun x g => by
      have y := Int.neg_fdiv_neg (-x) g
      rw [Int.neg_neg] at y
      exact y
    have e : low2 t b = low2 (-t) (-b) := by
      unfold low2 ratT ratB
      rw [e1, e2, fl, fl]
    rw [e]
    exact main _ _ (by omega)
/-- the value of it: a by b, told crosswise -/
theorem low2_cross {t b : Int} (hb : 0 < b) : (low2 t b).1 * b = t * (low2 t b).2 := by
  obtain ⟨h1, ⟨x, hx⟩, ⟨y, hy⟩⟩ := ratG_pos (t := t) hb
  have ex : (low2 t b).1 = x := by
    show t.fdiv (ratG t b) = x
    have := Int.mul_fdiv_cancel_left x (Int.ne_of_gt h1)
    rw [← hx] at this
    exact this
  have ey : (low2 t b).2 = y := by
    show b.fdiv (ratG t b) = y
    have := Int.mul_fdiv_cancel_left y (Int.ne_of_gt h1)
    rw [← hy] at this
    exact this
  rw [ex, ey]
  generalize ratG t b = g at hx hy
  subst hx hy
  rw [Int.mul_comm g y, Int.mul_comm g x, Int.mul_assoc x g y, Int.mul_comm g y, ← Int.mul_assoc]
theorem dvd_cop {b a d : Int} (h : b ∣ a * d) (g : Int.gcd b a = 1) : b ∣ d := by
  rw [← Int.natAbs_dvd_natAbs] at h ⊢
  rw [Int.natAbs_mul] at h
  exact Nat.Coprime.dvd_of_dvd_mul_left g h
/-- two ratios in lowest terms of one value are one -/
theorem red_eq {x y : RT} (hx : Red x) (hy : Red y) (h : x.1 * y.2 = y.1 * x.2) : x = y := by
  obtain ⟨a, b⟩ := x
  obtain ⟨c, d⟩ := y
  obtain ⟨hb, g1⟩ := hx
  obtain ⟨hd, g2⟩ := hy
  dsimp only at *
  have b_d : b ∣ d := by
    have h1 : b ∣ a * d := ⟨c, by rw [h, Int.mul_comm]⟩
    exact dvd_cop h1 (by rw [Int.gcd_comm]; exact g1)
  have d_b : d ∣ b := by
    have h1 : d ∣ c * b := ⟨a, by rw [← h, Int.mul_comm]⟩
    exact dvd_cop h1 (by rw [Int.gcd_comm]; exact g2)
  have e : b = d := Int.dvd_antisymm (Int.le_of_lt hb) (Int.le_of_lt hd) b_d d_b
  subst e
  have e2 : a = c := Int.eq_of_mul_eq_mul_right (Int.ne_of_gt hb) h
  rw [e2]
def rT (x y : RT) : RT := low2 (x.1 * y.1) (x.2 * y.2)
/-! ### drawn lives -/
def lastW (ws : List Int) : Int := ws.getLastD 0
def wholeOf (ws : List Int) (extra : Int) (step : RT) : Int := (step.2 - step.1) * (ws.sum + extra) + step.1 * lastW ws
def rowOf (ws : List Int) (extra : Int) (step : RT) : List RT := ws.map fun x => low2 ((step.2 - step.1) * x) (wholeOf ws extra step)
structure Made (ws : List Int) (extra : Int) (step : RT) : Prop where
  ne : ws ≠ []
  len : ws.length ≤ 6
  nn : ∀ x ∈ ws, 0 ≤ x ∧ x ≤ 5
  last : 0 < lastW ws
  ex : 0 ≤ extra ∧ extra ≤ 8
  st : step = (0, 1) ∨ step = (1, 2) ∨ step = (1, 3) ∨ step = (2, 3) ∨ step = (3, 4)
theorem sum_bound : ∀ {ws : List Int}, (∀ x ∈ ws, 0 ≤ x ∧ x ≤ 5) → 0 ≤ ws.sum ∧ ws.sum ≤ 5 * (ws.length : Int)
  | [], _ => ⟨by decide, by decide⟩
  | x :: r, h => by
    have h1 := h x (List.mem_cons_self ..)
    have h2 := sum_bound fun y hy => h y (List.mem_cons_of_mem _ hy)
    rw [List.sum_cons, List.length_cons]
    omega
theorem last_le_sum : ∀ {ws : List Int}, (∀ x ∈ ws, 0 ≤ x ∧ x ≤ 5) → lastW ws ≤ ws.sum
  | [], _ => by decide
  | [x], h => by
    show x ≤ _
    rw [List.sum_cons, List.sum_nil]
    omega
  | x :: y :: r, h => by
    have h1 := h x (List.mem_cons_self ..)
    have h2 := last_le_sum (ws := y :: r) fun z hz => h z (List.mem_cons_of_mem _ hz)
    have e : lastW (x :: y :: r) = lastW (y :: r) := by
      unfold lastW
      rw [List.getLastD_cons, List.getLastD_cons]
      show _ = (y :: r).getLastD 0
      rw [List.getLastD_cons]
    rw [e, List.sum_cons]
    omega
theorem Made.step_ok {ws : List Int} {extra : Int} {step : RT} (m : Made ws extra step) : 0 ≤ step.1 ∧ step.1 < step.2 ∧ step.2 ≤ 4 ∧ Red step := by
  rcases m.st with rfl | rfl | rfl | rfl | rfl <;> exact ⟨by decide, by decide, by decide, by decide, by decide⟩
theorem Made.whole {ws : List Int} {extra : Int} {step : RT} (m : Made ws extra step) : 0 < wholeOf ws extra step ∧ wholeOf ws extra step ≤ 200 := by
  have h1 := sum_bound m.nn
  have h2 := last_le_sum m.nn
  have h3 := m.last
  have h4 := m.ex
  have h5 := m.len
  unfold wholeOf
  generalize ws.sum = S at *
  generalize lastW ws = L at *
  rcases m.st with rfl | rfl | rfl | rfl | rfl <;> dsimp only <;> omega

end Fp

set_option Elab.async false
set_option linter.all false
set_option maxRecDepth 100000
set_option maxHeartbeats 4000000
set_option exponentiation.threshold 10000
namespace Fp
open PySem PySem.Spec PyProof.Rows L2
abbrev N_life : List Str := ["_law_feed_here", "_law_way", "_law_many", "_law_part", "_law_weights", "_law_top", "_law_bottom", "_law_extra", "_law_whole", "_law_k", "_law_weight"]
theorem pick4 {a b c d : V} {r : Int} (h0 : 0 ≤ r) (h1 : r < 4) : ∃ v, atI [a, b, c, d] r = some v ∧ (v = a ∨ v = b ∨ v = c ∨ v = d) := by
  rcases (by omega : r = 0 ∨ r = 1 ∨ r = 2 ∨ r = 3) with rfl | rfl | rfl | rfl
  · exact ⟨a, atI_nat (j := 0) rfl, .inl rfl⟩
  · exact ⟨b, atI_nat (j := 1) rfl, .inr (.inl rfl)⟩
  · exact ⟨c, atI_nat (j := 2) rfl, .inr (.inr (.inl rfl))⟩
  · exact ⟨d, atI_nat (j := 3) rfl, .inr (.inr (.inr rfl))⟩
theorem pick2' {a b : V} {r : Int} (h0 : 0 ≤ r) (h1 : r < 2) : ∃ v, atI [a, b] r = some v ∧ (v = a ∨ v = b) := by
  rcases (by omega : r = 0 ∨ r = 1) with rfl | rfl
  · exact ⟨a, atI_nat (j := 0) rfl, .inl rfl⟩
  · exact ⟨b, atI_nat (j := 1) rfl, .inr rfl⟩
theorem tk_lst {K : PySem.W.Frag} {H : Hp} {p : Addr} {xs ys : List V} (h : H p = some (.lst xs)) : Tk K H (upd H p (.lst ys)) := fun a zs z => by
  rcases z with (z | ⟨o, z⟩) | z
  · exact .inl (.inl (by rw [upd_ne (ne_of z h (by intro y; cases y))]; exact z))
  · exact .inl (.inr ⟨o, by rw [upd_ne (ne_of z h (by intro y; cases y))]; exact z⟩)
  · exact .inr z
theorem last_set {ws : List Int} (h : ws ≠ []) (x : Int) : lastW (ws.set (ws.length - 1) x) = x := by
  unfold lastW
  rw [List.getLastD_eq_getLast?, List.getLast?_eq_getElem?, List.length_set, List.getElem?_set_self (by
    have := List.length_pos_iff.mpr h
    omega)]
  rfl
theorem last_get {ws : List Int} (h : ws ≠ []) : ws[ws.length - 1]? = some (lastW ws) := by
  unfold lastW
  rw [List.getLastD_eq_getLast?, List.getLast?_eq_getElem?]
  have := List.length_pos_iff.mpr h
  rw [List.getElem?_eq_getElem (by omega)]
  rfl
theorem atI_lastW {ws : List Int} (h : ws ≠ []) : atI (ws.map V.int) (-1) = some (.int (lastW ws)) := by
  have e : ws.map V.int = ws.dropLast.map V.int ++ [V.int (ws.getLast h)] := by
    rw [← List.map_singleton, ← List.map_append, List.dropLast_concat_getLast]
  rw [e, atI_last]
  unfold lastW
  rw [List.getLastD_eq_getLast?, List.getLast?_eq_some_getLast h]
  rfl
section
variable {P : Program} {w : World} {K : PySem.W.Frag} {mg : Str → Option Value} {base : Heap}
def spLife (K : PySem.W.Frag) : Sp := fun vs H Q _ => ∃ (d c : Addr) (way t : Int), vs = [.ref d, .int way] ∧ Feed H d c t ∧ t ≤ 900000 ∧
  ∀ p ws extra step t' H', Keep d H H' → Feed H' d c t' → t' ≤ t + 12 → Made ws extra step → (way ≠ 2 → way ≠ 4 → extra = 0) → (way = 2 ∨ way = 4 → 0 < extra) → (way ≠ 3 → way ≠ 4 → step = (0, 1)) → LifeAt K H' p (rowOf ws extra step) step → Q (.ref p) H'
theorem draws_row {K : PySem.W.Frag} {H : Hp} {rs : List Addr} {xs : List RT} {p : Addr} {x : RT} (h : RsAt K H rs xs) (e : RAt K H p x) : RsAt K H (rs ++ [p]) (xs ++ [x]) := h.append (.cons e .nil)
theorem in_two {a b x : Int} : inV (.int x) [.int a, .int b] = (decide (x = a) || decide (x = b)) := by
  have e : ∀ y : Int, eqV (.int y) (.int x) = decide (x = y) := fun y => by
    show (y == x) = _
    rw [Bool.eq_iff_iff]
    simp
    exact ⟨fun z => z.symm, fun z => z.symm⟩
  unfold inV
  rw [List.any_cons, List.any_cons, List.any_nil, e, e, Bool.or_false]
theorem map_last {ws : List Int} (h : ws ≠ []) (x : Int) : ws.set (ws.length - 1) x ≠ [] := by
  intro z
  have := congrArg List.length z
  rw [List.length_set, List.length_nil] at this
  exact h (List.length_eq_zero_iff.mp this)
theorem ixN_last {n : Nat} (h : 0 < n) : ixN n (-1) = some (n - 1) := by
  unfold ixN
  rw [if_neg (by omega)]
  first
    | (rw [if_pos (by omega)]; congr 1; omega)
    | (simp; omega)
end

end Fp

set_option Elab.async false
set_option linter.all false
set_option maxRecDepth 100000
set_option maxHeartbeats 4000000
set_option exponentiation.threshold 10000
namespace Fp
open PySem PySem.Spec PyProof.Rows L2
theorem snoc_cases {α : Type} (xs : List α) : xs = [] ∨ ∃ ys y, xs = ys ++ [y] := by
  rcases List.eq_nil_or_concat xs with h | ⟨ys, y, h⟩
  · exact .inl h
  · exact .inr ⟨ys, y, by rw [h, List.concat_eq_append]⟩
/-! ### rows joined, cut, compared -/
theorem eqv_D2 (x y : RT) : PyData.eqv (.tuple [.int x.1, .int x.2]) (.tuple [.int y.1, .int y.2]) = decide (x = y) := by
  show ((x.1 == y.1) && ((x.2 == y.2) && true)) = _
  rw [Bool.eq_iff_iff]
  simp only [Bool.and_true, Bool.and_eq_true, beq_iff_eq, decide_eq_true_eq]
  exact ⟨fun z => Prod.ext z.1 z.2, fun z => ⟨congrArg Prod.fst z, congrArg Prod.snd z⟩⟩
section
variable {K : PySem.W.Frag} {H : Hp}
theorem RAt.dp {p : Addr} {x : RT} (h : RAt K H p x) : Dp K H (.ref p) (.tuple [.int x.1, .int x.2]) := .tup h (.cons (.int _) (.cons (.int _) .nil))
theorem ne_rat {p q : Addr} {x y : RT} {Q : VK} (h1 : RAt K H p x) (h2 : RAt K H q y) (h : Q (.bl (!decide (x = y))) H) : rNeD K (.ref p) (.ref q) H Q := by
  refine ⟨_, _, h1.dp, h2.dp, rfl, rfl, ?_⟩
  rw [eqv_D2]
  exact h
theorem eq_rat {p q : Addr} {x y : RT} {Q : VK} (h1 : RAt K H p x) (h2 : RAt K H q y) (h : Q (.bl (decide (x = y))) H) : rEqD K (.ref p) (.ref q) H Q := by
  refine ⟨_, _, h1.dp, h2.dp, rfl, rfl, ?_⟩
  rw [eqv_D2]
  exact h
theorem cat_row {p q : Addr} {xs ys : List RT} {Q : VK} (h1 : RowAt K H p xs) (h2 : RowAt K H q ys) (hl : xs.length + ys.length ≤ 1000) (h : ∀ r H', Same H H' → RowAt K H' r (xs ++ ys) → Q (.ref r) H') : rCatA K (.ref p) (.ref q) H Q := by
  obtain ⟨as, a1, a2⟩ := h1
  obtain ⟨bs, b1, b2⟩ := h2
  have la := a2.length
  have lb := b2.length
  refine ⟨p, q, _, _, rfl, rfl, a1, b1, ?_, fun z => ?_, fun _ z => ?_, fun _ _ r nr => ?_⟩
  · rw [List.length_map, List.length_map, sizeLine_eq]
    omega
  · have e : as = [] := List.map_eq_nil_iff.mp z
    subst e
    have e2 : xs = [] := List.length_eq_zero_iff.mp la.symm
    subst e2
    exact h q H (Same.refl H) ⟨bs, b1, b2⟩
  · have e : bs = [] := List.map_eq_nil_iff.mp z
    subst e
    have e2 : ys = [] := List.length_eq_zero_iff.mp lb.symm
    subst e2
    refine h p H (Same.refl H) ?_
    rw [List.append_nil]
    exact ⟨as, a1, a2⟩
  · have s := same_new (o := HO.tup (as.map V.ref ++ bs.map V.ref)) nr
    refine h r _ s ⟨as ++ bs, ?_, (a2.append b2).tk (Tk.same s)⟩
    rw [List.map_append]
    exact SqT.of upd_same
theorem row_at {p : Addr} {xs : List RT} {i : Nat} {x : RT} (h : RowAt K H p xs) (e : xs[i]? = some x) : ∃ (rs : List Addr) (r : Addr), SqT K H p (rs.map V.ref) ∧ rs.length = xs.length ∧ (rs.map V.ref)[i]? = some (.ref r) ∧ RAt K H r x := by
  obtain ⟨rs, h1, h2⟩ := h
  obtain ⟨r, e1, e2⟩ := h2.get e
  refine ⟨rs, r, h1, h2.length, ?_, e2⟩
  rw [List.getElem?_map, e1]
  rfl
/-- row[i] from the front -/
theorem ix_row {p : Addr} {xs : List RT} {i : Int} {j : Nat} {x : RT} {Q : VK} (h : RowAt K H p xs) (ei : i = (j : Int)) (e : xs[j]? = some x) (hq : ∀ r, RAt K H r x → Q (.ref r) H) : rIxT K (.ref p) (.int i) H Q := by
  obtain ⟨rs, r, h1, _, h3, h4⟩ := row_at h e
  exact ⟨p, _, i, _, rfl, rfl, h1, at_of ei h3, hq r h4⟩
/-- row[-k] from the end -/
theorem ix_back {p : Addr} {xs : List RT} {k j : Nat} {x : RT} {Q : VK} (h : RowAt K H p xs) (hk : 0 < k) (ej : j + k = xs.length) (e : xs[j]? = some x) (hq : ∀ r, RAt K H r x → Q (.ref r) H) : rIxT K (.ref p) (.int (-(k : Int))) H Q := by
  obtain ⟨rs, r, h1, h2, h3, h4⟩ := row_at h e
  refine ⟨p, _, _, _, rfl, rfl, h1, ?_, hq r h4⟩
  unfold atI
  have : ixN (rs.map V.ref).length (-(k : Int)) = some j := by
    unfold ixN
    rw [List.length_map, if_neg (by omega), if_pos (by omega)]
    congr 1
    omega
  rw [this]
  exact h3
theorem cutV_take (vs : List V) (n : Nat) : cutV vs none (some (n : Int)) = vs.take n := by
  unfold cutV
  rw [HT.sIx_none, HT.sIx_nat]
  show (vs.drop 0).take (min n vs.length - 0) = _
  rw [List.drop_zero, Nat.sub_zero]
  rcases Nat.le_total n vs.length with z | z
  · rw [Nat.min_eq_left z]
  · rw [Nat.min_eq_right z, List.take_length, List.take_of_length_le z]
/-- row[:n] -/
theorem take_row {p : Addr} {xs : List RT} {n : Nat} {Q : VK} (h : RowAt K H p xs) (hq : ∀ r H', Same H H' → RowAt K H' r (xs.take n) → Q (.ref r) H') : rSlA K (.ref p) none (some (n : Int)) H Q := by
  obtain ⟨rs, h1, h2⟩ := h
  have hl := h2.length
  refine ⟨p, _, rfl, h1, fun z => ?_, fun _ r nr => ?_⟩
  · have z2 := z.2
    rw [HT.sIx_nat, List.length_map] at z2
    refine hq p H (Same.refl H) ?_
    rw [List.take_of_length_le (by omega)]
    exact ⟨rs, h1, h2⟩
  · rw [cutV_take]
    have s := same_new (o := HO.tup ((rs.map V.ref).take n)) nr
    refine hq r _ s ⟨rs.take n, ?_, (h2.take n).tk (Tk.same s)⟩
    rw [List.map_take]
    exact SqT.of upd_same
end

end Fp

set_option Elab.async false
set_option linter.all false
set_option maxRecDepth 100000
set_option maxHeartbeats 4000000
set_option exponentiation.threshold 10000
namespace Fp
open PySem PySem.Spec PyProof.Rows L2
/-- a life as it is first drawn -/
def BaseLife (row : List RT) (step : RT) : Prop := (∃ ws extra, Made ws extra step ∧ row = rowOf ws extra step) ∨ (row = [] ∧ step = (0, 1))
/-- .. and made longer by one -/
def AnyLife (row : List RT) (step : RT) : Prop := BaseLife row step ∨
  (∃ row0 l, BaseLife row0 step ∧ row0.length ≤ 5 ∧ step ≠ (0, 1) ∧ row0[row0.length - 1]? = some l ∧ row = row0 ++ [rT l step]) ∨
  (∃ row0, BaseLife row0 (0, 1) ∧ row0.length ≤ 5 ∧ row = row0 ++ [(0, 1)] ∧ (step = (0, 1) ∨ step = (1, 3)))
theorem rowOf_len {ws : List Int} {extra : Int} {step : RT} : (rowOf ws extra step).length = ws.length := by
  unfold rowOf
  rw [List.length_map]
theorem BaseLife.len {row : List RT} {step : RT} (h : BaseLife row step) : row.length ≤ 6 := by
  rcases h with ⟨ws, extra, m, rfl⟩ | ⟨rfl, _⟩
  · rw [rowOf_len]
    exact m.len
  · decide
theorem BaseLife.ne {row : List RT} {step : RT} (h : BaseLife row step) (hs : step ≠ (0, 1)) : row ≠ [] := by
  rcases h with ⟨ws, extra, m, rfl⟩ | ⟨rfl, z⟩
  · intro z
    have := congrArg List.length z
    rw [rowOf_len, List.length_nil] at this
    exact m.ne (List.length_eq_zero_iff.mp this)
  · exact absurd z hs
/-- small ratios -/
def SmR (n : Nat) (x : RT) : Prop := Red x ∧ Sm n x.1 ∧ Sm n x.2
theorem low2_sm {t b : Int} {n : Nat} (hb : 0 < b) (h1 : Sm n t) (h2 : Sm n b) : SmR n (low2 t b) := ⟨low2_red (Int.ne_of_gt hb), ratT_sm hb h1, ratB_sm hb h2⟩
theorem SmR.mono {n m : Nat} {x : RT} (h : SmR n x) (l : n ≤ m) : SmR m x := ⟨h.1, h.2.1.mono l, h.2.2.mono l⟩
theorem rT_sm {x y : RT} {n m : Nat} (hx : SmR n x) (hy : SmR m y) : SmR (n + m) (rT x y) :=
  low2_sm (Int.mul_pos hx.1.1 hy.1.1) (hx.2.1.mul hy.2.1) (hx.2.2.mul hy.2.2)
theorem Made.sm {ws : List Int} {extra : Int} {step : RT} (m : Made ws extra step) : ∀ x ∈ rowOf ws extra step, SmR 10 x ∧ 0 ≤ x.1 := by
  intro x hx
  unfold rowOf at hx
  obtain ⟨y, hy, rfl⟩ := List.mem_map.mp hx
  obtain ⟨h1, h2⟩ := m.nn y hy
  obtain ⟨s1, s2, s3, _⟩ := m.step_ok
  obtain ⟨w0, w1⟩ := m.whole
  have hp : 0 ≤ (step.2 - step.1) * y := Int.mul_nonneg (by omega) h1
  have hq : (step.2 - step.1) * y ≤ 20 := by
    have : (step.2 - step.1) * y ≤ 4 * 5 := Int.mul_le_mul (by omega) h2 h1 (by decide)
    omega
  refine ⟨low2_sm w0 ?_ ?_, ?_⟩
  · unfold Sm
    omega
  · unfold Sm
    omega
  · obtain ⟨g1, ⟨z, hz⟩, _⟩ := ratG_pos (t := (step.2 - step.1) * y) w0
    have e : (low2 ((step.2 - step.1) * y) (wholeOf ws extra step)).1 = z := by
      show Int.fdiv _ _ = z
      have := Int.mul_fdiv_cancel_left z (Int.ne_of_gt g1)
      rw [← hz] at this
      exact this
    rw [e]
    rcases (by omega : 0 ≤ z ∨ z < 0) with q | q
    · exact q
    · have := Int.mul_neg_of_pos_of_neg g1 q
      omega
theorem BaseLife.sm {row : List RT} {step : RT} (h : BaseLife row step) : (∀ x ∈ row, SmR 10 x ∧ 0 ≤ x.1) ∧ SmR 4 step ∧ 0 ≤ step.1 ∧ step.1 < step.2 := by
  rcases h with ⟨ws, extra, m, rfl⟩ | ⟨rfl, rfl⟩
  · refine ⟨m.sm, ?_⟩
    rcases m.st with rfl | rfl | rfl | rfl | rfl <;> exact ⟨⟨⟨by decide, by decide⟩, by unfold Sm; decide, by unfold Sm; decide⟩, by decide, by decide⟩
  · exact ⟨fun x hx => by simp at hx, ⟨⟨⟨by decide, by decide⟩, by unfold Sm; decide, by unfold Sm; decide⟩, by decide, by decide⟩⟩
section
variable {P : Program} {w : World} {K : PySem.W.Frag} {mg : Str → Option Value} {base : Heap}
def spAny (K : PySem.W.Frag) : Sp := fun vs H Q _ => ∃ (d c : Addr) (t : Int), vs = [.ref d] ∧ Feed H d c t ∧ t ≤ 800000 ∧
  ∀ p row step t' H', Keep d H H' → Feed H' d c t' → t' ≤ t + 14 → AnyLife row step → LifeAt K H' p row step → Q (.ref p) H'
end

end Fp

set_option Elab.async false
set_option linter.all false
set_option maxRecDepth 100000
set_option maxHeartbeats 4000000
set_option exponentiation.threshold 10000
namespace Fp
open PySem PySem.Spec PyProof.Rows L2
/-! ### ratios by their value -/
def qv (x : RT) : Rat := (x.1 : Rat) / (x.2 : Rat)
theorem cast_ne {b : Int} (h : b ≠ 0) : (b : Rat) ≠ 0 := fun z => h (Rat.intCast_inj.mp (by simpa using z))
theorem qv_low2 {t b : Int} (hb : 0 < b) : qv (low2 t b) = (t : Rat) / (b : Rat) := by
  have e := low2_cross (t := t) hb
  have hp : (low2 t b).2 ≠ 0 := Int.ne_of_gt (low2_red (t := t) (Int.ne_of_gt hb)).1
  have h1 := cast_ne hp
  have h2 := cast_ne (Int.ne_of_gt hb)
  have e2 : ((low2 t b).1 : Rat) * (b : Rat) = (t : Rat) * ((low2 t b).2 : Rat) := by
    rw [← Rat.intCast_mul, ← Rat.intCast_mul, e]
  unfold qv
  grind
theorem qv_inj {x y : RT} (hx : Red x) (hy : Red y) (h : qv x = qv y) : x = y := by
  refine red_eq hx hy ?_
  have h1 := cast_ne (Int.ne_of_gt hx.1)
  have h2 := cast_ne (Int.ne_of_gt hy.1)
  unfold qv at h
  refine Rat.intCast_inj.mp ?_
  rw [Rat.intCast_mul, Rat.intCast_mul]
  grind
theorem qv_rT {x y : RT} (hx : Red x) (hy : Red y) : Red (rT x y) ∧ qv (rT x y) = qv x * qv y := by
  have hb := Int.mul_pos hx.1 hy.1
  refine ⟨low2_red (Int.ne_of_gt hb), ?_⟩
  unfold rT
  rw [qv_low2 hb, Rat.intCast_mul, Rat.intCast_mul]
  have h1 := cast_ne (Int.ne_of_gt hx.1)
  have h2 := cast_ne (Int.ne_of_gt hy.1)
  unfold qv
  grind
/-- a by b, whatever the terms -/
theorem qv_of {x : RT} {n D : Int} (hx : Red x) (hD : 0 < D) (h : qv x = (n : Rat) / (D : Rat)) : x = low2 n D := qv_inj hx (low2_red (Int.ne_of_gt hD)) (by rw [qv_low2 hD]; exact h)
/-- in lowest terms no part is greater than by other terms -/
theorem red_small {x : RT} {n D : Int} (hx : Red x) (hD : 0 < D) (h : qv x = (n : Rat) / (D : Rat)) : x.2 ∣ D ∧ x.1.natAbs ≤ n.natAbs := by
  have e := qv_of hx hD h
  obtain ⟨g1, g2, g3⟩ := ratG_pos (t := n) hD
  have e1 : x.1 = n.fdiv (ratG n D) := congrArg Prod.fst e
  have e2 : x.2 = D.fdiv (ratG n D) := congrArg Prod.snd e
  refine ⟨?_, ?_⟩
  · rw [e2]
    obtain ⟨y, hy⟩ := g3
    have z := Int.mul_fdiv_cancel_left y (Int.ne_of_gt g1)
    rw [← hy] at z
    rw [z]
    exact ⟨ratG n D, by rw [Int.mul_comm]; exact hy⟩
  · rw [e1]
    exact fdiv_le g1 g2
theorem dvd_small {a b : Int} {n : Nat} (h : a ∣ b) (hb : 0 < b) (s : Sm n b) : Sm n a := by
  unfold Sm at *
  exact Nat.lt_of_le_of_lt (Nat.le_of_dvd (by omega) (Int.natAbs_dvd_natAbs.mpr h)) s
/-- the value told over any number that its bottom divides -/
theorem qv_over {x : RT} {D : Int} (hx : 0 < x.2) (h : x.2 ∣ D) (hD : 0 < D) : qv x = ((x.1 * (D / x.2) : Int) : Rat) / (D : Rat) := by
  obtain ⟨y, hy⟩ := h
  have h1 := cast_ne (Int.ne_of_gt hx)
  have e : D / x.2 = y := by
    rw [hy]
    exact Int.mul_ediv_cancel_left y (Int.ne_of_gt hx)
  have h2 := cast_ne (Int.ne_of_gt hD)
  have h3 : (D : Rat) = (x.2 : Rat) * (y : Rat) := by rw [← Rat.intCast_mul, hy]
  unfold qv
  rw [e, Rat.intCast_mul]
  grind
/-- the bottoms of some, multiplied -/
def prodB (xs : List RT) : Int := (xs.map (·.2)).foldr (· * ·) 1
theorem prodB_pos : ∀ {xs : List RT}, (∀ x ∈ xs, 0 < x.2) → 0 < prodB xs
  | [], _ => by decide
  | x :: r, h => Int.mul_pos (h x (List.mem_cons_self ..)) (prodB_pos fun y hy => h y (List.mem_cons_of_mem _ hy))
theorem prodB_dvd : ∀ {xs : List RT} {x : RT}, x ∈ xs → x.2 ∣ prodB xs
  | y :: r, x, h => by
    rcases List.mem_cons.mp h with rfl | h
    · exact Int.dvd_mul_right ..
    · exact Int.dvd_trans (prodB_dvd h) (Int.dvd_mul_left ..)
theorem prodB_sm {n : Nat} : ∀ {xs : List RT}, (∀ x ∈ xs, Sm n x.2) → Sm (n * xs.length + 1) (prodB xs)
  | [], _ => by
    unfold Sm
    show 1 < 2 ^ (n * 0 + 1)
    simp
  | x :: r, h => by
    have h1 := (h x (List.mem_cons_self ..)).mul (prodB_sm fun y hy => h y (List.mem_cons_of_mem _ hy))
    refine h1.mono ?_
    rw [List.length_cons, Nat.mul_add]
    omega

end Fp

set_option Elab.async false
set_option linter.all false
set_option maxRecDepth 100000
set_option maxHeartbeats 4000000
set_option exponentiation.threshold 10000
namespace Fp
open PySem PySem.Spec PyProof.Rows L2
/-! ### rows on one bottom, added -/
abbrev s_oob : Stmt := topS 7
abbrev N_oob : List Str := ["told", "common", "top", "bottom"]
theorem sc_oob : FnScope N_oob ["told"] (defScope s_oob) := ⟨rfl, rfl, rfl, by decide +kernel, rfl, by decide +kernel, by decide +kernel⟩
/-- a list of ratios -/
def LstAt (K : PySem.W.Frag) (H : Hp) (p : Addr) (xs : List RT) : Prop := ∃ rs : List Addr, SqL K H p (rs.map V.ref) ∧ RsAt K H rs xs
theorem LstAt.same {K : PySem.W.Frag} {H H' : Hp} {p : Addr} {xs : List RT} (h : LstAt K H p xs) (e : Same H H') : LstAt K H' p xs := by
  obtain ⟨rs, h1, h2⟩ := h
  exact ⟨rs, e.seq h1, h2.tk (Tk.same e)⟩
/-- all over one number -/
structure Over1 (n d : Nat) (D : Int) (xs : List RT) : Prop where
  pos : 0 < D
  sm : Sm d D
  ok : ∀ x ∈ xs, 0 < x.2 ∧ x.2 ∣ D ∧ Sm n x.1
  len : xs.length ≤ 1000
def topsOn (c : Int) (xs : List RT) : List Int := xs.map fun x => x.1 * (c / x.2)
theorem lcm_ok {c b D : Int} (hc : 0 < c) (hb : 0 < b) (h1 : c ∣ D) (h2 : b ∣ D) : 0 < c.fdiv (Int.gcd c b : Nat) * b ∧ c.fdiv (Int.gcd c b : Nat) * b ∣ D ∧ c ∣ c.fdiv (Int.gcd c b : Nat) * b ∧ b ∣ c.fdiv (Int.gcd c b : Nat) * b := by
  have hg : 0 < Int.gcd c b := Nat.gcd_pos_of_pos_right _ (by omega)
  obtain ⟨x, hx⟩ : ((Int.gcd c b : Nat) : Int) ∣ c := Int.gcd_dvd_left ..
  obtain ⟨y, hy⟩ : ((Int.gcd c b : Nat) : Int) ∣ b := Int.gcd_dvd_right ..
  generalize hgg : ((Int.gcd c b : Nat) : Int) = g at *
  have g0 : 0 < g := by omega
  have e : c.fdiv g = x := by
    have := Int.mul_fdiv_cancel_left x (Int.ne_of_gt g0)
    rw [← hx] at this
    exact this
  have x0 : 0 < x := by
    rcases (by omega : 0 < x ∨ x ≤ 0) with z | z
    · exact z
    · have := Int.mul_nonpos_of_nonneg_of_nonpos (Int.le_of_lt g0) z
      omega
  have cop : Int.gcd x y = 1 := by
    have z : Int.gcd c b = g.natAbs * Int.gcd x y := by
      have := Int.gcd_mul_left g x y
      rw [← hx, ← hy] at this
      exact this
    have z2 : g.natAbs = Int.gcd c b := by rw [← hgg]; exact Int.natAbs_natCast _
    rw [z2] at z
    exact (Nat.eq_of_mul_eq_mul_left hg (by rw [Nat.mul_one]; exact z)).symm
  rw [e]
  refine ⟨Int.mul_pos x0 hb, ?_, ⟨y, ?_⟩, Int.dvd_mul_left ..⟩
  · obtain ⟨u, hu⟩ := h1
    have h3 : y ∣ x * u := by
      have : g * y ∣ g * (x * u) := by
        rw [← Int.mul_assoc, ← hx, ← hu, ← hy]
        exact h2
      exact Int.dvd_of_mul_dvd_mul_left (Int.ne_of_gt g0) this
    obtain ⟨v, hv⟩ := dvd_cop h3 (by rw [Int.gcd_comm]; exact cop)
    refine ⟨v, ?_⟩
    rw [hu, hv, hx, hy]
    rw [Int.mul_assoc g x, ← Int.mul_assoc x y v, Int.mul_comm x (g * y), Int.mul_assoc g y x, Int.mul_assoc g (y * x) v, Int.mul_comm y x]
  · rw [hy, hx, Int.mul_comm g x, Int.mul_assoc]
theorem tops_sum {c : Int} (hc : 0 < c) : ∀ {xs : List RT}, (∀ x ∈ xs, 0 < x.2 ∧ x.2 ∣ c) → (((topsOn c xs).sum : Int) : Rat) / (c : Rat) = (xs.map qv).sum
  | [], _ => by
    show ((0 : Int) : Rat) / (c : Rat) = 0
    have := cast_ne (Int.ne_of_gt hc)
    grind
  | x :: r, h => by
    have h1 := h x (List.mem_cons_self ..)
    have h2 := tops_sum hc (xs := r) fun y hy => h y (List.mem_cons_of_mem _ hy)
    have e := qv_over h1.1 h1.2 hc
    show (((x.1 * (c / x.2) :: topsOn c r).sum : Int) : Rat) / (c : Rat) = (qv x :: r.map qv).sum
    rw [List.sum_cons, List.sum_cons, ← h2, e, Rat.intCast_add]
    have := cast_ne (Int.ne_of_gt hc)
    grind
theorem tops_sm {n d : Nat} {c D : Int} (hc : 0 < c) (hD : 0 < D) (hcD : c ∣ D) (sD : Sm d D) : ∀ {xs : List RT}, (∀ x ∈ xs, 0 < x.2 ∧ Sm n x.1) → (topsOn c xs).sum.natAbs ≤ xs.length * 2 ^ (n + d)
  | [], _ => by
    show (0 : Int).natAbs ≤ 0 * _
    simp
  | x :: r, h => by
    have h1 := h x (List.mem_cons_self ..)
    have h2 := tops_sm hc hD hcD sD (xs := r) fun y hy => h y (List.mem_cons_of_mem _ hy)
    have sc : Sm d c := dvd_small hcD hD sD
    have sq : Sm d (c / x.2) := by
      unfold Sm at *
      have a : (c / x.2).natAbs ≤ c.natAbs := Int.natAbs_ediv_le_natAbs ..
      omega
    have sp : Sm (n + d) (x.1 * (c / x.2)) := h1.2.mul sq
    show (x.1 * (c / x.2) :: topsOn c r).sum.natAbs ≤ (r.length + 1) * _
    rw [List.sum_cons, Nat.add_mul]
    unfold Sm at sp
    have := Int.natAbs_add_le (x.1 * (c / x.2)) (topsOn c r).sum
    omega
section
variable {P : Program} {w : World} {K : PySem.W.Frag} {mg : Str → Option Value} {base : Heap}
def spOob (K : PySem.W.Frag) : Sp := fun vs H Q _ => ∃ (p : Addr) (xs : List RT) (n d : Nat) (D : Int), vs = [.ref p] ∧ LstAt K H p xs ∧ Over1 n d D xs ∧ n ≤ 4000 ∧ d ≤ 4000 ∧
  ∀ z zl c H', Same H H' → H' z = some (.tup [.ref zl, .int c]) → H' zl = some (.lst ((topsOn c xs).map V.int)) → 0 < c → c ∣ D → (∀ x ∈ xs, x.2 ∣ c) → Q (.ref z) H'
theorem ok_oob {f fC : Addr} {fd fdC : FuncData} (F : Fun K "on_one_bottom" "on_one_bottom" s_oob f fd) (FC : Fun K "common_divisor" "common_divisor" s_cd fC fdC) (bC : Binds K fdC ["one", "other"] []) (gC : mg "common_divisor" = some (.ref fC)) (ma : mg "abs" = none) :
    FnOk P w K mg base CX0 2 f fd ["told"] (spOob K) := by
  have GC : FnOk P w K mg base CX0 1 fC fdC ["one", "other"] spCd := ok_cd FC ma
  refine F.ok sc_oob (fun vs H Q E h => ?_) (fun cdv A outer s H vs Q E hr h => ?_)
  · obtain ⟨_, _, _, _, _, rfl, _⟩ := h
    rfl
  · obtain ⟨p, xs, n, d, D, rfl, hlst, O, hn, hd, q⟩ := h
    obtain ⟨rs, r1, r2⟩ := id hlst
    have hl := r2.length
    refine ⟨_, (pss_cons (ps_set (i := 1) sc_oob.nd rfl (.inr rfl) pe_int) (pss_cons (ps_for PassesOwn.never rfl (pi_list (pv 0)) (pg_tup rfl (pgs_cons (pg_name (i := 2) sc_oob.nd rfl (.inl rfl)) (pgs_cons (pg_name (i := 3) sc_oob.nd rfl (.inl rfl)) pgs_nil)))
          (pss_one (ps_set (i := 1) sc_oob.nd rfl (.inr rfl) (pe_op op_mulA (pe_op op_fdivA (pv 1) (pe_call GC hr (by rfl) gC FC.kp bC .nil pass0 (pa_cons (pv 1) (pa_cons (pv 3) pa_nil)))) (pv 3))))) (pss_one (ps_ret (pe_tup (pa_cons (pe_lc (own := [("top", 2), ("bottom", 3)]) (g := gTup K 2 (gCons (gName 2) (gCons (gName 3) gNil))) (tt := tYes) (te := tOp (rI CMulA fun i j => .int (i * j)) (tVar 2) (tOp (rI CDivA fun i j => .int (i.fdiv j)) (tVar 1) (tVar 3))) rfl sc_oob.nd (pi_list (pv 0)) (blkOk_by (own := [("top", 2), ("bottom", 3)]) (N := N_oob) (sc := defScope s_oob) (by decide +kernel))
          (fun _ _ _ _ _ => pg_tup rfl (pgs_cons (pg_name (i := 2) sc_oob.nd rfl (.inl rfl)) (pgs_cons (pg_name (i := 3) sc_oob.nd rfl (.inl rfl)) pgs_nil))) (fun _ _ _ _ _ => pts_nil) (fun _ _ _ _ _ => pe_op op_mulA (pv 2) (pe_op op_fdivA (pv 1) (pv 3)))) (pa_cons (pv 1) pa_nil))))))), ?_⟩
    refine ⟨_, rfl, p, rfl, ⟨_, r1⟩, for_list (K := K) (a := p) (xs := rs.map V.ref) (fun i σ H1 => H1 = H ∧ ∃ (c : Int) (y2 y3 : Option V), σ = [some (.ref p), some (.int c), y2, y3] ∧ 0 < c ∧ c ∣ D ∧ ∀ x ∈ xs.take i, x.2 ∣ c) ?_ ?_ ?_ ?_⟩
    · exact ⟨rfl, 1, _, _, rfl, by decide, Int.one_dvd D, fun x hx => by simp at hx⟩
    · rintro i σ H1 _ ⟨rfl, _⟩
      exact r1
    · rintro i y σ H1 hi ⟨rfl, c, y2, y3, rfl, c0, cD, hc⟩
      have hi2 : i < xs.length := by
        have := (List.getElem?_eq_some_iff.mp hi).1
        rw [List.length_map, hl] at this
        exact this
      have hg : xs[i]? = some xs[i] := List.getElem?_eq_getElem hi2
      obtain ⟨r, er, hr2⟩ := r2.get hg
      have ey : y = .ref r := by
        rw [List.getElem?_map, er] at hi
        exact (Option.some.inj hi).symm
      subst ey
      obtain ⟨b0, bD, _⟩ := O.ok xs[i] (List.getElem_mem hi2)
      have sc : Sm d c := dvd_small cD O.pos O.sm
      have sb : Sm d xs[i].2 := dvd_small bD O.pos O.sm
      have hg0 : 0 < Int.gcd c xs[i].2 := Nat.gcd_pos_of_pos_right _ (by omega)
      have hgs : Sm d ((Int.gcd c xs[i].2 : Nat) : Int) := by
        unfold Sm at *
        rw [Int.natAbs_natCast]
        exact Nat.lt_of_le_of_lt (Nat.gcd_le_right _ (by omega)) sb
      have d0 : 0 < d := by
        rcases Nat.eq_zero_or_pos d with z | z
        · rw [z] at sc
          unfold Sm at sc
          omega
        · exact z
      have hq1 : Sm d (c.fdiv ((Int.gcd c xs[i].2 : Nat) : Int)) := Nat.lt_of_le_of_lt (fdiv_le (by omega) (Int.gcd_dvd_left ..)) sc
      obtain ⟨k0, k1, k2, k3⟩ := lcm_ok c0 b0 cD bD
      refine ⟨r, _, rfl, hr2, rfl, _, _, rfl, _, _, rfl, rfl, ?_⟩
      refine ⟨_, rfl, _, rfl, _, rfl, c, xs[i].2, rfl, ?_⟩
      refine ⟨c, _, rfl, rfl, ⟨by omega, Nat.lt_of_lt_of_le (hgs.log d0) (by omega)⟩, _, rfl, _, _, rfl, rfl, hq1.cmul sb d0 d0 (by omega), rfl, _, _, _, rfl, k0, k1, fun x hx => ?_⟩
      rw [List.take_add_one, hg] at hx
      rcases List.mem_append.mp hx with z | z
      · exact Int.dvd_trans (hc x z) k2
      · rw [List.mem_singleton.mp z]
        exact k3
    · rintro σ H1 ⟨rfl, c, y2, y3, rfl, c0, cD, hc⟩
      rw [List.length_map, hl, List.take_length] at hc
      have sc : Sm d c := dvd_small cD O.pos O.sm
      have d0 : 0 < d := by
        rcases Nat.eq_zero_or_pos d with z | z
        · rw [z] at sc
          unfold Sm at sc
          omega
        · exact z
      refine ⟨_, rfl, p, rfl, ⟨_, r1⟩, fun R nR => ?_⟩
      have e1 := same_new (o := HO.lst []) nR
      refine lc_list (K := K) (a := p) (xs := rs.map V.ref) (fun i H2 => Same H1 H2 ∧ H2 R = some (.lst ((topsOn c (xs.take i)).map V.int))) ?_ ?_ ?_ ?_
      · exact ⟨e1, upd_same⟩
      · rintro i H2 _ ⟨s2, _⟩
        exact s2.seq r1
      · rintro i y H2 hi ⟨s2, hR⟩
        have hi2 : i < xs.length := by
          have := (List.getElem?_eq_some_iff.mp hi).1
          rw [List.length_map, hl] at this
          exact this
        have hg : xs[i]? = some xs[i] := List.getElem?_eq_getElem hi2
        obtain ⟨r, er, hr2⟩ := r2.get hg
        have ey : y = .ref r := by
          rw [List.getElem?_map, er] at hi
          exact (Option.some.inj hi).symm
        subst ey
        obtain ⟨b0, bD, sn⟩ := O.ok xs[i] (List.getElem_mem hi2)
        have sb : Sm d xs[i].2 := dvd_small bD O.pos O.sm
        have hdv := hc xs[i] (List.getElem_mem hi2)
        have ef : c.fdiv xs[i].2 = c / xs[i].2 := Int.fdiv_eq_ediv_of_nonneg _ (by omega)
        have sq : Sm d (c.fdiv xs[i].2) := Nat.lt_of_le_of_lt (fdiv_le b0 hdv) sc
        refine ⟨r, _, rfl, hr2.tk (Tk.same s2), rfl, _, _, rfl, _, _, rfl, rfl, rfl, tYes_go ?_⟩
        refine iteT ?_
        refine ⟨_, rfl, _, rfl, _, rfl, c, xs[i].2, rfl, rfl, ⟨by omega, Nat.lt_of_lt_of_le (sb.log d0) (by omega)⟩, _, _, rfl, rfl, (sn.mono (show n ≤ n + 1 by omega)).cmul sq (by omega) d0 (by omega), _, hR, ?_, ?_, ?_⟩
        · rw [List.length_map]
          unfold topsOn
          rw [List.length_map, List.length_take]
          have := O.len
          exact small1000 (by omega)
        · intro b o hb
          rw [upd_ne (ne_of_none hb nR)]
          exact s2 _ _ hb
        · rw [upd_same, List.take_add_one, hg]
          unfold topsOn
          rw [List.map_append, List.map_append, ef]
          rfl
      · rintro H2 ⟨s2, hR⟩
        rw [List.length_map, hl, List.take_length] at hR
        refine ⟨_, rfl, by show 2 ≤ sizeLine; decide, fun z nz => ?_⟩
        have e2 := same_new (o := HO.tup [.ref R, .int c]) nz
        exact q z R c _ (s2.trans e2) upd_same (e2 _ _ hR) c0 cD hc
def spAdded (K : PySem.W.Frag) : Sp := fun vs H Q _ => ∃ (p : Addr) (xs : List RT) (n d : Nat) (D : Int), vs = [.ref p] ∧ LstAt K H p xs ∧ Over1 n d D xs ∧ n ≤ 4000 ∧ d ≤ 4000 ∧
  ∀ z x H', Same H H' → RAt K H' z x → Red x → qv x = (xs.map qv).sum → x.2 ∣ D → Sm (n + d + 11) x.1 → Q (.ref z) H'
end

end Fp

set_option Elab.async false
set_option linter.all false
set_option maxRecDepth 100000
set_option maxHeartbeats 4000000
set_option exponentiation.threshold 10000
namespace Fp
open PySem PySem.Spec PyProof.Rows L2
/-! ### the program's own: what lasts behind the row's end, the short life -/
structure ConstN (K : PySem.W.Frag) (mg : Str → Option Value) (aN : Addr) : Prop where
  gN : mg "NOUGHT" = some (.ref aN)
  tN : ∀ H : Hp, RAt K H aN (0, 1)
structure Consts (K : PySem.W.Frag) (mg : Str → Option Value) (aN aO : Addr) : Prop where
  gN : mg "NOUGHT" = some (.ref aN)
  gO : mg "ONE" = some (.ref aO)
  tN : ∀ H, RAt K H aN (0, 1)
  tO : ∀ H, RAt K H aO (1, 1)
theorem Consts.n {K : PySem.W.Frag} {mg : Str → Option Value} {aN aO : Addr} (C : Consts K mg aN aO) : ConstN K mg aN := ⟨C.gN, C.tN⟩
def rM (x y : RT) : RT := low2 (x.1 * y.2 - y.1 * x.2) (x.2 * y.2)
def rO (x y : RT) : RT := low2 (x.1 * y.2) (x.2 * y.1)
/-- a step: from nought on, below one -/
def StepOk (n : Nat) (s : RT) : Prop := SmR n s ∧ 0 ≤ s.1 ∧ s.1 < s.2
theorem gap_pos {s : RT} (h : Red s) (h1 : s.1 < s.2) : 0 < (rM (1, 1) s).1 := by
  have hb : (0 : Int) < 1 * s.2 := by have := h.1; omega
  have e := low2_cross (t := 1 * s.2 - s.1 * 1) hb
  have hp := ratB_pos (t := 1 * s.2 - s.1 * 1) hb
  show 0 < (low2 (1 * s.2 - s.1 * 1) (1 * s.2)).1
  have hp2 : 0 < (low2 (1 * s.2 - s.1 * 1) (1 * s.2)).2 := hp
  generalize (low2 (1 * s.2 - s.1 * 1) (1 * s.2)).1 = x at *
  generalize (low2 (1 * s.2 - s.1 * 1) (1 * s.2)).2 = y at *
  rcases (by omega : 0 < x ∨ x ≤ 0) with z | z
  · exact z
  · have a1 : 0 < (1 * s.2 - s.1 * 1) * y := Int.mul_pos (by omega) hp2
    have a2 : x * (1 * s.2) ≤ 0 := Int.mul_nonpos_of_nonpos_of_nonneg z (Int.le_of_lt hb)
    omega
def behindR (row : List RT) (step : RT) : RT := match row.getLast? with
  | none => (0, 1)
  | some l => rO (rT l step) (rM (1, 1) step)
theorem behindR_snoc (ys : List RT) (y step : RT) : behindR (ys ++ [y]) step = rO (rT y step) (rM (1, 1) step) := by
  have e : (ys ++ [y]).getLast? = some y := by simp
  unfold behindR
  rw [e]
/-! data of a row -/
def rowD (xs : List RT) : List PyData := xs.map fun x => .tuple [.int x.1, .int x.2]
theorem RsAt.dp {K : PySem.W.Frag} {H : Hp} : ∀ {ps : List Addr} {xs : List RT}, RsAt K H ps xs → DpAll K H (ps.map V.ref) (rowD xs)
  | _, _, .nil => .nil
  | _, _, .cons h r => .cons h.dp r.dp
theorem RowAt.dp {K : PySem.W.Frag} {H : Hp} {p : Addr} {xs : List RT} (h : RowAt K H p xs) : Dp K H (.ref p) (.tuple (rowD xs)) := by
  obtain ⟨rs, h1, h2⟩ := h
  exact .tup h1 h2.dp
theorem rowD_lay : ∀ xs : List RT, PyData.canLayAll0 (rowD xs) = true
  | [] => rfl
  | x :: r => by
    show (PyData.canLay0 (.tuple [.int x.1, .int x.2]) && PyData.canLayAll0 (rowD r)) = true
    rw [rowD_lay r]
    rfl
theorem rowD_depth : ∀ xs : List RT, PyData.depthAll (rowD xs) ≤ 1
  | [] => by decide
  | x :: r => by
    show max (PyData.depth (.tuple [.int x.1, .int x.2])) (PyData.depthAll (rowD r)) ≤ 1
    have := rowD_depth r
    have e : PyData.depth (.tuple [.int x.1, .int x.2]) = 1 := rfl
    omega
theorem rowD_shaped (xs : List RT) : SeqAt.shaped (.tuple (rowD xs)) = true := by
  unfold SeqAt.shaped
  have h1 : PyData.canLay0 (.tuple (rowD xs)) = true := rowD_lay xs
  have h2 : (PyData.tuple (rowD xs)).depth ≤ 64 := by
    show PyData.depthAll (rowD xs) + 1 ≤ 64
    have := rowD_depth xs
    omega
  rw [h1, decide_eq_true h2]
  rfl
theorem rowD_nil (xs : List RT) : PyData.eqv (.tuple (rowD xs)) (.tuple []) = xs.isEmpty := by
  cases xs with
  | nil => rfl
  | cons x r => rfl
section
variable {P : Program} {w : World} {K : PySem.W.Frag} {mg : Str → Option Value} {base : Heap} {aN aO : Addr}
def spBehind (K : PySem.W.Frag) : Sp := fun vs H Q _ => ∃ (p : Addr) (row : List RT) (step : RT), vs = [.ref p] ∧ LifeAt K H p row step ∧ (∀ x ∈ row, SmR 1900 x) ∧ StepOk 300 step ∧
  ∀ z H', Same H H' → RAt K H' z (behindR row step) → Q (.ref z) H'
end

end Fp

set_option Elab.async false
set_option linter.all false
set_option maxRecDepth 100000
set_option maxHeartbeats 4000000
set_option exponentiation.threshold 10000
namespace Fp
open PySem PySem.Spec PyProof.Rows L2
/-! ### chances, one behind the other -/

def chR (row : List RT) (step : RT) (i : Nat) : Rat := match row[i]? with
  | some x => qv x
  | none => match row.getLast? with
    | none => 0
    | some l => qv l * qv step ^ (i + 1 - row.length)
theorem chR_in {row : List RT} {step : RT} {i : Nat} {x : RT} (h : row[i]? = some x) : chR row step i = qv x := by
  unfold chR
  rw [h]
theorem chR_out {row : List RT} {step l : RT} {i : Nat} (h : row.length ≤ i) (hl : row.getLast? = some l) : chR row step i = qv l * qv step ^ (i + 1 - row.length) := by
  unfold chR
  rw [List.getElem?_eq_none h, hl]
theorem chR_nil {step : RT} {i : Nat} : chR [] step i = 0 := rfl
theorem last_is {row : List RT} (h : row ≠ []) : ∃ l, row.getLast? = some l ∧ row[row.length - 1]? = some l ∧ l ∈ row := by
  refine ⟨row.getLast h, List.getLast?_eq_some_getLast h, ?_, List.getLast_mem h⟩
  rw [List.getLast_eq_getElem]
  exact List.getElem?_eq_getElem _
theorem chR_next {row : List RT} {step : RT} {k : Nat} (h : row.length ≤ k + 1) (hne : row ≠ []) : chR row step (k + 1) = chR row step k * qv step := by
  obtain ⟨l, h1, h2, _⟩ := last_is hne
  have hp := List.length_pos_iff.mpr hne
  rw [chR_out h h1]
  rcases (by omega : row.length = k + 1 ∨ row.length ≤ k) with z | z
  · have e : row[k]? = some l := by
      rw [← h2]
      congr 1
      omega
    rw [chR_in e, show k + 1 + 1 - row.length = 0 + 1 by omega, Rat.pow_succ, Rat.pow_zero]
    grind
  · rw [chR_out z h1, show k + 1 + 1 - row.length = (k + 1 - row.length) + 1 by omega, Rat.pow_succ]
    grind
/-- the chances 1 to as many as there are -/
structure IsCh (row : List RT) (step : RT) (n most : Nat) (chs : List RT) : Prop where
  len : chs.length = most
  ok : ∀ i x, chs[i]? = some x → SmR (n + 5 * i) x ∧ qv x = chR row step i
/-- what one number stands under all of them -/
theorem ch_dvd {row : List RT} {step x : RT} {n i most : Nat} (hr : ∀ y ∈ row, SmR n y) (hs : Red step) (hx : Red x) (h : qv x = chR row step i) (hi : i < most) : x.2 ∣ prodB row * step.2 ^ most := by
  match e : row[i]? with
  | some y =>
    have hy := List.mem_of_getElem? e
    have ex : x = y := qv_inj hx (hr y hy).1 (h.trans (chR_in e))
    rw [ex]
    exact Int.dvd_trans (prodB_dvd hy) (Int.dvd_mul_right ..)
  | none =>
    have hle : row.length ≤ i := List.getElem?_eq_none_iff.mp e
    match el : row.getLast? with
    | none =>
      have er : row = [] := List.getLast?_eq_none_iff.mp el
      rw [er, chR_nil] at h
      have ex : x = (0, 1) := qv_inj hx ⟨by decide, by decide⟩ (by
        rw [h]
        unfold qv
        show (0 : Rat) = ((0 : Int) : Rat) / ((1 : Int) : Rat)
        grind)
      rw [ex]
      exact Int.one_dvd _
    | some l =>
      have hl : l ∈ row := List.mem_of_getLast? el
      have hl0 := (hr l hl).1
      rw [chR_out hle el] at h
      obtain ⟨j, ej, hj⟩ : ∃ j, i + 1 - row.length = j ∧ j ≤ most := ⟨_, rfl, by omega⟩
      rw [ej] at h
      have key : ∀ j : Nat, qv l * qv step ^ j = ((l.1 * step.1 ^ j : Int) : Rat) / ((l.2 * step.2 ^ j : Int) : Rat) := by
        intro j
        induction j with
        | zero =>
          rw [Rat.pow_zero, Int.pow_zero, Int.pow_zero, Int.mul_one, Int.mul_one]
          unfold qv
          grind
        | succ j ih =>
          have h1 := cast_ne (Int.ne_of_gt hs.1)
          have h2 := cast_ne (Int.ne_of_gt (Int.mul_pos hl0.1 (show (0 : Int) < step.2 ^ j from Int.pow_pos hs.1)))
          rw [Rat.pow_succ, ← Rat.mul_assoc, ih, Int.pow_succ, Int.pow_succ, ← Int.mul_assoc, ← Int.mul_assoc, Rat.intCast_mul (l.1 * step.1 ^ j), Rat.intCast_mul (l.2 * step.2 ^ j)]
          unfold qv
          grind
      rw [key j] at h
      obtain ⟨d1, _⟩ := red_small hx (Int.mul_pos hl0.1 (Int.pow_pos hs.1)) h
      refine Int.dvd_trans d1 ?_
      obtain ⟨u, hu⟩ := prodB_dvd hl
      refine ⟨u * step.2 ^ (most - j), ?_⟩
      rw [hu, show most = j + (most - j) by omega, Int.pow_add, Nat.add_sub_cancel_left]
      rw [Int.mul_assoc l.2 u, ← Int.mul_assoc u, Int.mul_comm u (step.2 ^ j), Int.mul_assoc (step.2 ^ j), ← Int.mul_assoc l.2]
theorem sm_pow {n : Nat} {a : Int} (h : Sm n a) (hn : 0 < n) : ∀ k : Nat, Sm (n * k + 1) (a ^ k)
  | 0 => by
    unfold Sm
    rw [Int.pow_zero]
    simp
  | k + 1 => by
    rw [Int.pow_succ]
    have := (sm_pow h hn k).mul h
    refine this.mono ?_
    rw [Nat.mul_add]
    omega
theorem over_ch {row : List RT} {step : RT} {n most : Nat} {chs : List RT} (hr : ∀ y ∈ row, SmR n y) (hs : SmR 5 step) (hl : row.length ≤ 14) (hn : n ≤ 64) (hm : most ≤ 70) (h : IsCh row step n most chs) : Over1 (n + 350) 1300 (prodB row * step.2 ^ most) chs := by
  refine ⟨Int.mul_pos (prodB_pos fun x hx => (hr x hx).1.1) (Int.pow_pos hs.1.1), ?_, fun x hx => ?_, by rw [h.len]; omega⟩
  · have h1 := prodB_sm fun x hx => (hr x hx).2.2
    have h2 := sm_pow hs.2.2 (by decide) most
    refine (h1.mul h2).mono ?_
    have : n * row.length ≤ 64 * 14 := Nat.mul_le_mul hn hl
    omega
  · obtain ⟨i, hi⟩ := List.mem_iff_getElem?.mp hx
    have hi2 := (List.getElem?_eq_some_iff.mp hi).1
    rw [h.len] at hi2
    obtain ⟨s1, s2⟩ := h.ok i x hi
    exact ⟨s1.1.1, ch_dvd hr hs.1 s1.1 s2 hi2, s1.2.1.mono (by omega)⟩
def sumCh (row : List RT) (step : RT) : Nat → Rat
  | 0 => 0
  | k + 1 => sumCh row step k + chR row step k
theorem sum_snoc (xs : List Rat) (x : Rat) : (xs ++ [x]).sum = xs.sum + x := by
  induction xs with
  | nil =>
    show x + 0 = 0 + x
    grind
  | cons y r ih =>
    show y + (r ++ [x]).sum = y + r.sum + x
    rw [ih]
    grind
theorem IsCh.sum {row : List RT} {step : RT} {n most : Nat} {chs : List RT} (h : IsCh row step n most chs) : (chs.map qv).sum = sumCh row step most := by
  have key : ∀ k, k ≤ most → ((chs.take k).map qv).sum = sumCh row step k := by
    intro k
    induction k with
    | zero =>
      intro _
      rfl
    | succ k ih =>
      intro hk
      have hk2 : k < chs.length := by rw [h.len]; omega
      have hg : chs[k]? = some chs[k] := List.getElem?_eq_getElem hk2
      rw [List.take_add_one, hg]
      show ((chs.take k ++ [chs[k]]).map qv).sum = sumCh row step k + chR row step k
      rw [List.map_append, List.map_singleton, sum_snoc, ih (by omega), (h.ok k _ hg).2]
  have := key most (Nat.le_refl _)
  rw [← h.len, List.take_length] at this
  rw [h.len] at this
  exact this
/-- a life as the program is asked of it -/
structure LifeOk (n : Nat) (row : List RT) (step : RT) : Prop where
  sm : ∀ y ∈ row, SmR n y
  st : StepOk 5 step
  len : row.length ≤ 14
  n64 : n ≤ 64
  n1 : 1 ≤ n
section
variable {P : Program} {w : World} {K : PySem.W.Frag} {mg : Str → Option Value} {base : Heap} {aN aO : Addr}
def spChto (K : PySem.W.Frag) : Sp := fun vs H Q _ => ∃ (p : Addr) (row : List RT) (step : RT) (n most : Nat), vs = [.ref p, .int (most : Int)] ∧ LifeAt K H p row step ∧ LifeOk n row step ∧ most ≤ 70 ∧
  ∀ z rs chs H', Same H H' → H' z = some (.lst (rs.map V.ref)) → RsAt K H' rs chs → IsCh row step n most chs → Q (.ref z) H'
end

end Fp

set_option Elab.async false
set_option linter.all false
set_option maxRecDepth 100000
set_option maxHeartbeats 4000000
set_option exponentiation.threshold 10000
namespace Fp
open PySem PySem.Spec PyProof.Rows L2
/-! ### a chance, lasting, the miss -/
theorem qv_rM {x y : RT} (hx : Red x) (hy : Red y) : Red (rM x y) ∧ qv (rM x y) = qv x - qv y := by
  have hb := Int.mul_pos hx.1 hy.1
  refine ⟨low2_red (Int.ne_of_gt hb), ?_⟩
  unfold rM
  rw [qv_low2 hb, Rat.intCast_sub, Rat.intCast_mul, Rat.intCast_mul, Rat.intCast_mul]
  have h1 := cast_ne (Int.ne_of_gt hx.1)
  have h2 := cast_ne (Int.ne_of_gt hy.1)
  unfold qv
  grind
theorem qv_rO {x y : RT} (hx : Red x) (hy : Red y) (h : 0 < y.1) : Red (rO x y) ∧ qv (rO x y) = qv x / qv y := by
  have hb := Int.mul_pos hx.1 h
  refine ⟨low2_red (Int.ne_of_gt hb), ?_⟩
  unfold rO
  rw [qv_low2 hb, Rat.intCast_mul, Rat.intCast_mul]
  have h1 := cast_ne (Int.ne_of_gt hx.1)
  have h2 := cast_ne (Int.ne_of_gt hy.1)
  have h3 := cast_ne (Int.ne_of_gt h)
  unfold qv
  grind
theorem qv_one : qv (1, 1) = 1 := by
  unfold qv
  show ((1 : Int) : Rat) / ((1 : Int) : Rat) = 1
  grind
theorem qv_nought : qv (0, 1) = 0 := by
  unfold qv
  show ((0 : Int) : Rat) / ((1 : Int) : Rat) = 0
  grind
theorem one_red : Red (1, 1) := ⟨by decide, by decide⟩
theorem gap_val {s : RT} (hs : Red s) (h : s.1 < s.2) : (1 : Rat) - qv s ≠ 0 := by
  obtain ⟨r, v⟩ := qv_rM one_red hs
  have hg := gap_pos hs h
  have e : qv (rM (1, 1) s) ≠ 0 := by
    have h1 := cast_ne (Int.ne_of_gt hg)
    have h2 := cast_ne (Int.ne_of_gt r.1)
    unfold qv
    grind
  rw [v, qv_one] at e
  exact e
/-- what lasts behind the row's end -/
def behQ (row : List RT) (step : RT) : Rat := match row.getLast? with
  | none => 0
  | some l => qv l * qv step / (1 - qv step)
theorem behind_val {row : List RT} {step : RT} {n : Nat} (hr : ∀ x ∈ row, SmR n x) (hs : StepOk 5 step) : SmR (n + 20) (behindR row step) ∧ qv (behindR row step) = behQ row step := by
  rcases snoc_cases row with rfl | ⟨ys, y, rfl⟩
  · exact ⟨SmR.mono (n := 1) (x := (0, 1)) ⟨⟨by decide, by decide⟩, by unfold Sm; decide, by unfold Sm; decide⟩ (by omega), qv_nought⟩
  · have hy := hr y (by simp)
    rw [behindR_snoc]
    have e : behQ (ys ++ [y]) step = qv y * qv step / (1 - qv step) := by
      have e : (ys ++ [y]).getLast? = some y := by simp
      unfold behQ
      rw [e]
    rw [e]
    obtain ⟨h1, h2, h3⟩ := hs
    obtain ⟨a1, a2⟩ := qv_rT hy.1 h1.1
    obtain ⟨b1, b2⟩ := qv_rM one_red h1.1
    have g := gap_pos h1.1 h3
    obtain ⟨c1, c2⟩ := qv_rO a1 b1 g
    refine ⟨⟨c1, ?_, ?_⟩, ?_⟩
    · have sT := rT_sm hy h1
      have hden : (0 : Int) < 1 * step.2 := by have := h1.1.1; omega
      have m1 : Sm 6 (1 * step.2 - step.1 * 1) := by
        rw [Int.one_mul, Int.mul_one]
        exact h1.2.2.sub h1.2.1
      have m2 : Sm 6 (1 * step.2) := by
        rw [Int.one_mul]
        exact h1.2.2.mono (by decide)
      have sM : SmR 6 (rM (1, 1) step) := low2_sm hden m1 m2
      exact (ratT_sm (Int.mul_pos sT.1.1 g) ((sT.2.1.mul sM.2.2).mono (show n + 5 + 6 ≤ n + 20 by omega)))
    · have sT := rT_sm hy h1
      have hden : (0 : Int) < 1 * step.2 := by have := h1.1.1; omega
      have m1 : Sm 6 (1 * step.2 - step.1 * 1) := by
        rw [Int.one_mul, Int.mul_one]
        exact h1.2.2.sub h1.2.1
      have m2 : Sm 6 (1 * step.2) := by
        rw [Int.one_mul]
        exact h1.2.2.mono (by decide)
      have sM : SmR 6 (rM (1, 1) step) := low2_sm hden m1 m2
      exact (ratB_sm (Int.mul_pos sT.1.1 g) ((sT.2.2.mul sM.2.1).mono (show n + 5 + 6 ≤ n + 20 by omega)))
    · rw [c2, a2, b2, qv_one]
section
variable {P : Program} {w : World} {K : PySem.W.Frag} {mg : Str → Option Value} {base : Heap} {aN aO : Addr}
def spLasting (K : PySem.W.Frag) : Sp := fun vs H Q _ => ∃ (p : Addr) (row : List RT) (step : RT) (n k : Nat), vs = [.ref p, .int (k : Int)] ∧ LifeAt K H p row step ∧ LifeOk n row step ∧ k ≤ 70 ∧
  ∀ z x H', Same H H' → RAt K H' z x → SmR 1800 x → qv x = 1 - sumCh row step k → Q (.ref z) H'
/-- one less a ratio -/
theorem one_less {x : RT} {n : Nat} (h : SmR n x) : SmR (n + 1) (rM (1, 1) x) ∧ qv (rM (1, 1) x) = 1 - qv x := by
  obtain ⟨b1, b2⟩ := qv_rM one_red h.1
  have hden : (0 : Int) < 1 * x.2 := by have := h.1.1; omega
  have m1 : Sm (n + 1) (1 * x.2 - x.1 * 1) := by
    rw [Int.one_mul, Int.mul_one]
    exact h.2.2.sub h.2.1
  have m2 : Sm (n + 1) (1 * x.2) := by
    rw [Int.one_mul]
    exact h.2.2.mono (by omega)
  refine ⟨low2_sm hden m1 m2, ?_⟩
  rw [b2, qv_one]
def rowQ (row : List RT) : Rat := (row.map qv).sum
end

end Fp

set_option Elab.async false
set_option linter.all false
set_option maxRecDepth 100000
set_option maxHeartbeats 4000000
set_option exponentiation.threshold 10000
namespace Fp
open PySem PySem.Spec PyProof.Rows L2
/-! ### the law's own sums, chances and rests -/
theorem sum_red {xs : List RT} {n d : Nat} {D : Int} {x : RT} (O : Over1 n d D xs) (hx : Red x) (h : qv x = (xs.map qv).sum) : x.2 ∣ D ∧ Sm (n + d + 11) x.1 := by
  have val : qv x = (((topsOn D xs).sum : Int) : Rat) / (D : Rat) := h.trans (tops_sum O.pos fun y hy => ⟨(O.ok y hy).1, (O.ok y hy).2.1⟩).symm
  obtain ⟨y1, y2⟩ := red_small hx O.pos val
  refine ⟨y1, ?_⟩
  have t := tops_sm (n := n) O.pos O.pos (Int.dvd_refl D) O.sm (xs := xs) fun y hy => ⟨(O.ok y hy).1, (O.ok y hy).2.2⟩
  have hlen := O.len
  unfold Sm
  have t2 : xs.length * 2 ^ (n + d) ≤ 1000 * 2 ^ (n + d) := Nat.mul_le_mul_right _ hlen
  have t3 : 2 ^ (n + d + 11) = 2048 * 2 ^ (n + d) := by rw [Nat.pow_add, Nat.mul_comm]
  have t4 : 0 < 2 ^ (n + d) := Nat.pow_pos (by decide)
  omega
theorem Over1.take {xs : List RT} {n d : Nat} {D : Int} (O : Over1 n d D xs) (i : Nat) : Over1 n d D (xs.take i) := ⟨O.pos, O.sm, fun x hx => O.ok x (List.mem_of_mem_take hx), by rw [List.length_take]; have := O.len; omega⟩
def rP (x y : RT) : RT := low2 (x.1 * y.2 + y.1 * x.2) (x.2 * y.2)
theorem qv_rP {x y : RT} (hx : Red x) (hy : 0 < y.2) : Red (rP x y) ∧ qv (rP x y) = qv x + qv y := by
  have hb := Int.mul_pos hx.1 hy
  refine ⟨low2_red (Int.ne_of_gt hb), ?_⟩
  unfold rP
  rw [qv_low2 hb, Rat.intCast_add, Rat.intCast_mul, Rat.intCast_mul, Rat.intCast_mul]
  have h1 := cast_ne (Int.ne_of_gt hx.1)
  have h2 := cast_ne (Int.ne_of_gt hy)
  unfold qv
  grind
section
variable {P : Program} {w : World} {K : PySem.W.Frag} {mg : Str → Option Value} {base : Heap}
def spLsum (K : PySem.W.Frag) (At : PySem.W.Frag → Hp → Addr → List RT → Prop) : Sp := fun vs H Q _ => ∃ (p : Addr) (xs : List RT) (n d : Nat) (D : Int), vs = [.ref p] ∧ At K H p xs ∧ Over1 n d D xs ∧ n ≤ 3500 ∧ d ≤ 3500 ∧
  ∀ z x H', Same H H' → RAt K H' z x → Red x → qv x = (xs.map qv).sum → x.2 ∣ D → Sm (n + d + 11) x.1 → Q (.ref z) H'
def spLpower (K : PySem.W.Frag) : Sp := fun vs H Q _ => ∃ (p : Addr) (x : RT) (far : Nat), vs = [.ref p, .int (far : Int)] ∧ RAt K H p x ∧ SmR 5 x ∧ far ≤ 80 ∧
  ∀ z y H', Same H H' → RAt K H' z y → SmR (1 + 5 * far) y → qv y = qv x ^ far → Q (.ref z) H'
theorem pow_val {l step : RT} (hl : 0 < l.2) (hs : 0 < step.2) (j : Nat) : qv l * qv step ^ j = ((l.1 * step.1 ^ j : Int) : Rat) / ((l.2 * step.2 ^ j : Int) : Rat) := by
  induction j with
  | zero =>
    rw [Rat.pow_zero, Int.pow_zero, Int.pow_zero, Int.mul_one, Int.mul_one]
    unfold qv
    grind
  | succ j ih =>
    have h1 := cast_ne (Int.ne_of_gt hs)
    have h2 := cast_ne (Int.ne_of_gt (Int.mul_pos hl (show (0 : Int) < step.2 ^ j from Int.pow_pos hs)))
    rw [Rat.pow_succ, ← Rat.mul_assoc, ih, Int.pow_succ, Int.pow_succ, ← Int.mul_assoc, ← Int.mul_assoc, Rat.intCast_mul (l.1 * step.1 ^ j), Rat.intCast_mul (l.2 * step.2 ^ j)]
    unfold qv
    grind
theorem zero_pow {j : Nat} (h : 0 < j) : (0 : Rat) ^ j = 0 := by
  obtain ⟨i, rfl⟩ : ∃ i, j = i + 1 := ⟨j - 1, by omega⟩
  rw [Rat.pow_succ]
  grind
def spLchance (K : PySem.W.Frag) : Sp := fun vs H Q _ => ∃ (p : Addr) (row : List RT) (step : RT) (n k : Nat), vs = [.ref p, .int (k : Int)] ∧ LifeAt K H p row step ∧ LifeOk n row step ∧ (row = [] → step = (0, 1)) ∧ 1 ≤ k ∧ k ≤ 70 ∧
  ∀ z x H', Same H H' → RAt K H' z x → SmR 500 x → qv x = chR row step (k - 1) → Q (.ref z) H'
end
/-- all chances from a place on -/
def restR (row : List RT) (step : RT) (k : Nat) : Rat := rowQ (row.drop k) + match row.getLast? with
  | none => 0
  | some l => qv l * qv step ^ (1 + (k - row.length)) / (1 - qv step)
theorem restR_zero {row : List RT} {step : RT} : restR row step 0 = rowQ row + behQ row step := by
  unfold restR behQ
  rw [List.drop_zero]
  match row.getLast? with
  | none => rfl
  | some l =>
    show _ + qv l * qv step ^ (1 + (0 - row.length)) / (1 - qv step) = _
    rw [Nat.zero_sub, Nat.add_zero]
    have : qv step ^ 1 = qv step := by
      rw [show (1 : Nat) = 0 + 1 from rfl, Rat.pow_succ, Rat.pow_zero]
      grind
    rw [this]
theorem restR_next {row : List RT} {step : RT} (hs : (1 : Rat) - qv step ≠ 0) (k : Nat) : restR row step k = chR row step k + restR row step (k + 1) := by
  rcases Classical.em (row = []) with z | z
  · subst z
    rw [chR_nil]
    unfold restR
    show (([].drop k : List RT).map qv).sum + 0 = 0 + ((([].drop (k + 1) : List RT).map qv).sum + 0)
    rw [List.drop_nil, List.drop_nil]
    grind
  · obtain ⟨l, g1, g2, g3⟩ := last_is z
    rcases (by omega : k < row.length ∨ row.length ≤ k) with hk | hk
    · have hg : row[k]? = some row[k] := List.getElem?_eq_getElem hk
      have ed : row.drop k = row[k] :: row.drop (k + 1) := List.drop_eq_getElem_cons hk
      rw [chR_in hg]
      unfold restR
      rw [g1, ed, show k - row.length = 0 by omega, show k + 1 - row.length = 0 by omega]
      show (qv row[k] + ((row.drop (k + 1)).map qv).sum) + _ = qv row[k] + (rowQ (row.drop (k + 1)) + _)
      unfold rowQ
      grind
    · rw [chR_out hk g1]
      unfold restR
      rw [g1, List.drop_eq_nil_of_le hk, List.drop_eq_nil_of_le (by omega)]
      show rowQ [] + qv l * qv step ^ (1 + (k - row.length)) / (1 - qv step) = qv l * qv step ^ (k + 1 - row.length) + (rowQ [] + qv l * qv step ^ (1 + (k + 1 - row.length)) / (1 - qv step))
      rw [show 1 + (k - row.length) = k + 1 - row.length by omega, show 1 + (k + 1 - row.length) = (k + 1 - row.length) + 1 by omega, Rat.pow_succ]
      grind
theorem restR_sum {row : List RT} {step : RT} (hs : (1 : Rat) - qv step ≠ 0) : ∀ k : Nat, restR row step 0 = sumCh row step k + restR row step k
  | 0 => by
    show _ = 0 + _
    grind
  | k + 1 => by
    rw [restR_sum hs k, restR_next hs k]
    show _ = sumCh row step k + chR row step k + _
    grind

end Fp

set_option Elab.async false
set_option linter.all false
set_option maxRecDepth 100000
set_option maxHeartbeats 4000000
set_option exponentiation.threshold 10000
namespace Fp
open PySem PySem.Spec PyProof.Rows L2
theorem tNoPart_go {σ : L2.St} {H : Hp} {Q : Option Int → Hp → Prop} (h : Q none H) : tNoPart σ H Q := h
theorem cutV_from (vs : List V) (n : Nat) : cutV vs (some (n : Int)) none = vs.drop n := by
  unfold cutV
  rw [HT.sIx_none, HT.sIx_nat]
  rcases Nat.le_total n vs.length with z | z
  · rw [Nat.min_eq_left z]
    rw [List.take_of_length_le (by rw [List.length_drop]; exact Nat.le_refl _)]
  · rw [Nat.min_eq_right z, List.drop_eq_nil_of_le (Nat.le_refl _), List.drop_eq_nil_of_le z, List.take_nil]
/-- row[n:] -/
theorem from_row {K : PySem.W.Frag} {H : Hp} {p : Addr} {xs : List RT} {n : Nat} {Q : VK} (h : RowAt K H p xs) (hq : ∀ r H', Same H H' → RowAt K H' r (xs.drop n) → Q (.ref r) H') : rSlA K (.ref p) (some (n : Int)) none H Q := by
  obtain ⟨rs, h1, h2⟩ := h
  have hl := h2.length
  refine ⟨p, _, rfl, h1, fun z => ?_, fun _ r nr => ?_⟩
  · have z1 := z.1
    rw [HT.sIx_nat, List.length_map] at z1
    refine hq p H (Same.refl H) ?_
    rcases (by omega : n = 0 ∨ xs.length = 0) with e | e
    · rw [e, List.drop_zero]
      exact ⟨rs, h1, h2⟩
    · have e2 := List.length_eq_zero_iff.mp e
      subst e2
      rw [List.drop_nil]
      exact ⟨rs, h1, h2⟩
  · rw [cutV_from]
    have s := same_new (o := HO.tup ((rs.map V.ref).drop n)) nr
    refine hq r _ s ⟨rs.drop n, ?_, (h2.drop n).tk (Tk.same s)⟩
    rw [List.map_drop]
    exact SqT.of upd_same
theorem over_two {x y : RT} {n a b : Nat} (hx : 0 < x.2) (hy : 0 < y.2) (sx : Sm n x.1) (sy : Sm n y.1) (dx : Sm a x.2) (dy : Sm b y.2) : Over1 n (a + b) (x.2 * y.2) [x, y] := by
  refine ⟨Int.mul_pos hx hy, dx.mul dy, fun z hz => ?_, by show 2 ≤ 1000; decide⟩
  rcases List.mem_cons.mp hz with e | e
  · subst e
    exact ⟨hx, Int.dvd_mul_right .., sx⟩
  · rw [List.mem_singleton.mp e]
    exact ⟨hy, Int.dvd_mul_left .., sy⟩
theorem sum_two (x y : RT) : (([x, y] : List RT).map qv).sum = qv x + qv y := by
  show qv x + (qv y + 0) = _
  grind
section
variable {P : Program} {w : World} {K : PySem.W.Frag} {mg : Str → Option Value} {base : Heap}
def spLrest (K : PySem.W.Frag) : Sp := fun vs H Q _ => ∃ (p : Addr) (row : List RT) (step : RT) (n k : Nat), vs = [.ref p, .int (k : Int)] ∧ LifeAt K H p row step ∧ LifeOk n row step ∧ (row = [] → step = (0, 1)) ∧ k ≤ 70 ∧
  ∀ z x H', Same H H' → RAt K H' z x → Red x → qv x = restR row step k → Sm 2350 x.1 → Sm 1350 x.2 → Q (.ref z) H'
end

end Fp

set_option Elab.async false
set_option linter.all false
set_option maxRecDepth 100000
set_option maxHeartbeats 4000000
set_option exponentiation.threshold 10000
namespace Fp
open PySem PySem.Spec PyProof.Rows L2
/-! ### the one ratio in lowest terms of a value -/
def rdq (q : Rat) : RT := (q.num, (q.den : Int))
theorem rdq_red (q : Rat) : Red (rdq q) := ⟨by have := q.den_nz; show (0 : Int) < (q.den : Int); omega, by
  have := q.reduced
  show Nat.gcd q.num.natAbs ((q.den : Int)).natAbs = 1
  rw [Int.natAbs_natCast]
  exact this⟩
theorem qv_rdq (q : Rat) : qv (rdq q) = q := by
  have h := Rat.num_divInt_den q
  rw [Rat.divInt_eq_div] at h
  exact h
theorem red_rdq {x : RT} (h : Red x) : x = rdq (qv x) := qv_inj h (rdq_red _) (qv_rdq _).symm
theorem is_rdq {x : RT} {q : Rat} (h : Red x) (e : qv x = q) : x = rdq q := by
  rw [← e]
  exact red_rdq h
mutual
theorem Dp.same' {K : PySem.W.Frag} {H H' : Hp} (e : Same H H') : ∀ {v : V} {d : PyData}, Dp K H v d → Dp K H' v d
  | _, _, .non => .non
  | _, _, .bl b => .bl b
  | _, _, .int i => .int i
  | _, _, .str x => .str x
  | _, _, .lst h r => .lst (e.seq h) (DpAll.same' e r)
  | _, _, .tup h r => .tup (sqT_same e h) (DpAll.same' e r)
theorem DpAll.same' {K : PySem.W.Frag} {H H' : Hp} (e : Same H H') : ∀ {vs : List V} {ds : List PyData}, DpAll K H vs ds → DpAll K H' vs ds
  | _, _, .nil => .nil
  | _, _, .cons h r => .cons (Dp.same' e h) (DpAll.same' e r)
end

end Fp

set_option Elab.async false
set_option linter.all false
set_option maxRecDepth 100000
set_option maxHeartbeats 4000000
set_option exponentiation.threshold 10000
namespace Fp
open PySem PySem.Spec PyProof.Rows L2
/-! ### lives shown -/
theorem sh_int {i : Int} (h : Sm 1900 i) : (PyData.int i).showable = true ∧ (PyData.int i).leavesShort 2000 = true := by
  have l : i.natAbs.log2 < 1900 := h.log (by decide)
  refine ⟨?_, ?_⟩
  · simp only [PyData.showable, decide_eq_true_eq]
    omega
  · simp only [PyData.leavesShort, decide_eq_true_eq]
    have e := int_text_length_le (k := 1900) (by decide) l
    show (Str.ofString (toString i)).length ≤ 2000
    rw [PySem.ofString_length]
    omega
/-- a thing that may be shown within others -/
structure Sh (c k : Nat) (d : PyData) : Prop where
  sh : d.showable = true
  lv : d.leavesShort 2000 = true
  co : cost d ≤ c
  dp : d.depth ≤ k
theorem Sh.shows {c k : Nat} {d : PyData} (h : Sh c k d) (hc : c ≤ 16000000) (hk : k ≤ 60) : Shows d := ⟨h.sh, h.lv, Nat.le_trans h.co hc, Nat.le_trans h.dp hk⟩
structure Shs (c k : Nat) (ds : List PyData) : Prop where
  sh : PyData.showableAll ds = true
  lv : PyData.leavesShortAll 2000 ds = true
  co : costAll ds ≤ c
  dp : PyData.depthAll ds ≤ k
theorem Shs.nil {k : Nat} : Shs 0 k [] := ⟨rfl, rfl, Nat.le_refl _, Nat.zero_le _⟩
theorem Shs.cons {c1 c2 k : Nat} {d : PyData} {ds : List PyData} (h : Sh c1 k d) (hs : Shs c2 k ds) : Shs (c1 + 2 + c2) k (d :: ds) := by
  refine ⟨?_, ?_, ?_, ?_⟩
  · show (d.showable && PyData.showableAll ds) = true
    rw [h.sh, hs.sh]
    rfl
  · show (d.leavesShort 2000 && PyData.leavesShortAll 2000 ds) = true
    rw [h.lv, hs.lv]
    rfl
  · show cost d + 2 + costAll ds ≤ _
    have := h.co
    have := hs.co
    omega
  · show max d.depth (PyData.depthAll ds) ≤ k
    have := h.dp
    have := hs.dp
    omega
theorem Shs.tup {c k : Nat} {ds : List PyData} (h : Shs c k ds) : Sh (c + 3) (k + 1) (.tuple ds) := ⟨h.sh, h.lv, Nat.add_le_add_right h.co 3, Nat.add_le_add_right h.dp 1⟩
theorem Shs.lst {c k : Nat} {ds : List PyData} (h : Shs c k ds) : Sh (c + 3) (k + 1) (.list ds) := ⟨h.sh, h.lv, Nat.add_le_add_right h.co 3, Nat.add_le_add_right h.dp 1⟩
theorem Sh.int {i : Int} (h : Sm 1900 i) : Sh 2000 0 (.int i) := ⟨(sh_int h).1, (sh_int h).2, Nat.le_refl _, Nat.le_refl _⟩
theorem Sh.bool {b : Bool} : Sh 5 0 (.bool b) := ⟨rfl, rfl, Nat.le_refl _, Nat.le_refl _⟩
theorem Sh.mono {c c2 k k2 : Nat} {d : PyData} (h : Sh c k d) (h1 : c ≤ c2) (h2 : k ≤ k2) : Sh c2 k2 d := ⟨h.sh, h.lv, Nat.le_trans h.co h1, Nat.le_trans h.dp h2⟩
theorem Shs.mono {c c2 k k2 : Nat} {ds : List PyData} (h : Shs c k ds) (h1 : c ≤ c2) (h2 : k ≤ k2) : Shs c2 k2 ds := ⟨h.sh, h.lv, Nat.le_trans h.co h1, Nat.le_trans h.dp h2⟩
def ratD (x : RT) : PyData := .tuple [.int x.1, .int x.2]
theorem Sh.rat {x : RT} {n : Nat} (h : SmR n x) (hn : n ≤ 1900) : Sh 4007 1 (ratD x) := (Shs.cons (Sh.int (h.2.1.mono hn)) (Shs.cons (Sh.int (h.2.2.mono hn)) Shs.nil)).tup
theorem Shs.row {n : Nat} (hn : n ≤ 1900) : ∀ {xs : List RT}, (∀ x ∈ xs, SmR n x) → Shs (4009 * xs.length) 1 (rowD xs)
  | [], _ => Shs.nil
  | x :: r, h => by
    have h1 := Shs.cons (Sh.rat (h x (List.mem_cons_self ..)) hn) (Shs.row hn fun y hy => h y (List.mem_cons_of_mem _ hy))
    refine h1.mono ?_ (Nat.le_refl _)
    rw [List.length_cons]
    omega
def lifeD (row : List RT) (step : RT) : PyData := .tuple [.tuple (rowD row), ratD step]
theorem Sh.life {n : Nat} {row : List RT} {step : RT} (hn : n ≤ 1900) (h : ∀ x ∈ row, SmR n x) (hs : SmR n step) (hl : row.length ≤ 100) : Sh 500000 3 (lifeD row step) := by
  have h1 := (Shs.row hn h).tup
  have h2 := (Shs.cons h1 (Shs.cons ((Sh.rat hs hn).mono (Nat.le_refl _) (by decide : 1 ≤ 2)) Shs.nil)).tup
  exact h2.mono (by omega) (Nat.le_refl _)
theorem LifeAt.dp {K : PySem.W.Frag} {H : Hp} {p : Addr} {row : List RT} {step : RT} (h : LifeAt K H p row step) : Dp K H (.ref p) (lifeD row step) := by
  obtain ⟨pr, ps, h1, h2, h3⟩ := h
  exact .tup h1 (.cons h2.dp (.cons h3.dp .nil))

end Fp

set_option Elab.async false
set_option linter.all false
set_option maxRecDepth 100000
set_option maxHeartbeats 4000000
set_option exponentiation.threshold 10000
namespace Fp
open PySem PySem.Spec PyProof.Rows L2
theorem flat_rep {α : Type} (a : α) : ∀ k : Nat, (List.replicate k [a]).flatten = List.replicate k a
  | 0 => rfl
  | k + 1 => by
    rw [List.replicate_succ, List.flatten_cons, flat_rep a k]
    rfl
theorem RsAt.rep {K : PySem.W.Frag} {H : Hp} {p : Addr} {x : RT} (h : RAt K H p x) : ∀ k : Nat, RsAt K H (List.replicate k p) (List.replicate k x)
  | 0 => .nil
  | k + 1 => .cons h (RsAt.rep h k)
/-- ((0, 1),) * k -/
theorem rep_row {K : PySem.W.Frag} {H : Hp} {p a : Addr} {x : RT} {k : Nat} {Q : VK} (h : SqT K H p [.ref a]) (ha : RAt K H a x) (hk : k ≤ 1000) (q : ∀ r H', Same H H' → RowAt K H' r (List.replicate k x) → Q (.ref r) H') : rRepA K (.ref p) (.int (k : Int)) H Q := by
  refine ⟨p, k, _, rfl, rfl, h, by simp, by omega, by omega, by show 1 ≤ 1000; decide, fun z => ?_, fun _ r nr => ?_⟩
  · have e : k = 1 := by omega
    subst e
    exact q p H (Same.refl H) ⟨[a], h, .cons ha .nil⟩
  · have s := same_new (o := HO.tup (List.replicate (k : Int).toNat [V.ref a]).flatten) nr
    refine q r _ s ⟨List.replicate k a, ?_, (RsAt.rep ha k).tk (Tk.same s)⟩
    have e : (List.replicate k a).map V.ref = (List.replicate (k : Int).toNat [V.ref a]).flatten := by
      rw [flat_rep, List.map_replicate, Int.toNat_natCast]
    rw [e]
    exact SqT.of upd_same

end Fp

set_option Elab.async false
set_option linter.all false
set_option maxRecDepth 100000
set_option maxHeartbeats 4000000
set_option exponentiation.threshold 10000
namespace Fp
open PySem PySem.Spec PyProof.Rows L2
/-! ### the short life with the same chances: what both sides come to -/
def trimZ (xs : List RT) : List RT := (xs.reverse.dropWhile (fun x => decide (x = ((0 : Int), (1 : Int))))).reverse
theorem trimZ_nil : trimZ [] = [] := rfl
theorem trimZ_nought (xs : List RT) : trimZ (xs ++ [(0, 1)]) = trimZ xs := by
  unfold trimZ
  rw [List.reverse_append]
  show (List.dropWhile _ ((0, 1) :: xs.reverse)).reverse = _
  rw [List.dropWhile_cons_of_pos (by decide)]
theorem trimZ_stop (xs : List RT) {x : RT} (h : x ≠ (0, 1)) : trimZ (xs ++ [x]) = xs ++ [x] := by
  unfold trimZ
  rw [List.reverse_append]
  show (List.dropWhile _ (x :: xs.reverse)).reverse = _
  rw [List.dropWhile_cons_of_neg (by simpa using h), List.reverse_cons, List.reverse_reverse]
theorem trimZ_noughts (xs : List RT) : ∀ n, trimZ (xs ++ List.replicate n (0, 1)) = trimZ xs
  | 0 => by rw [List.replicate_zero, List.append_nil]
  | n + 1 => by rw [List.replicate_succ', ← List.append_assoc, trimZ_nought, trimZ_noughts xs n]
theorem trimZ_cases (xs : List RT) : trimZ xs = [] ∨ ∃ ys y, trimZ xs = ys ++ [y] ∧ y ≠ (0, 1) := by
  suffices h : ∀ n (xs : List RT), xs.length = n → trimZ xs = [] ∨ ∃ ys y, trimZ xs = ys ++ [y] ∧ y ≠ (0, 1) from h _ xs rfl
  intro n
  induction n with
  | zero =>
    intro xs h
    rw [List.length_eq_zero_iff.mp h]
    exact .inl rfl
  | succ n ih =>
    intro xs h
    rcases snoc_cases xs with rfl | ⟨ys, y, rfl⟩
    · cases h
    · rcases Classical.em (y = (0, 1)) with rfl | hy
      · rw [trimZ_nought]
        exact ih ys (by simpa using h)
      · rw [trimZ_stop _ hy]
        exact .inr ⟨ys, y, rfl, hy⟩
theorem trimZ_idem (xs : List RT) : trimZ (trimZ xs) = trimZ xs := by
  rcases trimZ_cases xs with h | ⟨ys, y, h, hy⟩
  · rw [h]
    rfl
  · rw [h, trimZ_stop _ hy]
def revG (step : RT) : List RT → List RT
  | a :: b :: r => if a = rT b step then revG step (b :: r) else a :: b :: r
  | l => l
def trimG (xs : List RT) (step : RT) : List RT := (revG step xs.reverse).reverse
theorem trimG_one (a step : RT) : trimG [a] step = [a] := rfl
theorem rev_two (xs : List RT) (b a : RT) : (xs ++ [b] ++ [a]).reverse = a :: b :: xs.reverse := by
  rw [List.reverse_append, List.reverse_append]
  rfl
theorem rev_one (xs : List RT) (b : RT) : (xs ++ [b]).reverse = b :: xs.reverse := by
  rw [List.reverse_append]
  rfl
theorem trimG_cut (xs : List RT) (b step : RT) : trimG (xs ++ [b] ++ [rT b step]) step = trimG (xs ++ [b]) step := by
  unfold trimG
  rw [rev_two, rev_one]
  show (if rT b step = rT b step then revG step (b :: xs.reverse) else _).reverse = _
  rw [if_pos rfl]
theorem trimG_stop (xs : List RT) {a b step : RT} (h : a ≠ rT b step) : trimG (xs ++ [b] ++ [a]) step = xs ++ [b] ++ [a] := by
  unfold trimG
  rw [rev_two]
  show (if a = rT b step then _ else a :: b :: xs.reverse).reverse = _
  rw [if_neg h, List.reverse_cons, List.reverse_cons, List.reverse_reverse]
theorem low2_nought {b : Int} (hb : 0 < b) : low2 0 b = (0, 1) :=
  red_eq (low2_red (Int.ne_of_gt hb)) ⟨by decide, by decide⟩ (by
    have := low2_cross (t := 0) hb
    rw [Int.zero_mul] at this
    have e : (low2 0 b).1 = 0 := by
      rcases Int.mul_eq_zero.mp this with z | z
      · exact z
      · omega
    rw [e]
    show (0 : Int) * 1 = 0 * _
    rw [Int.zero_mul, Int.zero_mul])
theorem low2_zero {t b : Int} (hb : 0 < b) : low2 t b = (0, 1) ↔ t = 0 := by
  refine ⟨fun h => ?_, fun h => by rw [h]; exact low2_nought hb⟩
  have := low2_cross (t := t) hb
  rw [h] at this
  dsimp only at this
  omega
theorem red_zero {x : RT} (h : Red x) : x = (0, 1) ↔ x.1 = 0 := by
  refine ⟨fun z => by rw [z], fun z => ?_⟩
  refine red_eq h ⟨by decide, by decide⟩ ?_
  rw [z]
  simp
theorem rT_zero {x y : RT} (hx : Red x) (hy : Red y) : rT x y = (0, 1) ↔ x = (0, 1) ∨ y = (0, 1) := by
  unfold rT
  rw [low2_zero (Int.mul_pos hx.1 hy.1), red_zero hx, red_zero hy, Int.mul_eq_zero]
/-- the last of a trimmed one isn't nought, and it is trimmed -/
theorem trimG_good (step : RT) : ∀ (n : Nat) (xs : List RT) (a : RT), xs.length = n → (∀ x ∈ xs ++ [a], Red x) → Red step → a ≠ (0, 1) → step ≠ (0, 1) →
    ∃ ys b, trimG (xs ++ [a]) step = ys ++ [b] ∧ b ≠ (0, 1) ∧ trimG (ys ++ [b]) step = ys ++ [b] ∧ (ys ++ [b]).length ≤ (xs ++ [a]).length ∧ ∀ x ∈ ys ++ [b], x ∈ xs ++ [a] := by
  intro n
  induction n with
  | zero =>
    intro xs a h _ _ ha _
    rw [List.length_eq_zero_iff.mp h]
    exact ⟨[], a, trimG_one a step, ha, trimG_one a step, Nat.le_refl _, fun x hx => hx⟩
  | succ n ih =>
    intro xs a h hr hs ha hz
    rcases snoc_cases xs with rfl | ⟨ys, b, rfl⟩
    · cases h
    · rcases Classical.em (a = rT b step) with rfl | hn
      · have hb : Red b := hr b (by simp)
        have hb0 : b ≠ (0, 1) := fun z => ha ((rT_zero hb hs).mpr (.inl z))
        obtain ⟨zs, c, e1, e2, e3, e4, e5⟩ := ih ys b (by simpa using h) (fun x hx => hr x (List.mem_append_left _ hx)) hs hb0 hz
        rw [trimG_cut]
        refine ⟨zs, c, e1, e2, e3, ?_, fun x hx => List.mem_append_left _ (e5 x hx)⟩
        rw [List.length_append (as := ys ++ [b])]
        omega
      · rw [trimG_stop _ hn]
        exact ⟨ys ++ [b], a, rfl, ha, trimG_stop _ hn, Nat.le_refl _, fun x hx => hx⟩
/-- the row has a last one that isn't nought, and goes on by the step -/
def GoesOn (row : List RT) (step : RT) : Prop := step ≠ (0, 1) ∧ ∃ ys y, row = ys ++ [y] ∧ y ≠ (0, 1)
open Classical in
noncomputable def shortL (row : List RT) (step : RT) : List RT × RT := if GoesOn row step then (trimG row step, step) else (trimZ row, (0, 1))
theorem shortL_go {row : List RT} {step : RT} (h : GoesOn row step) : shortL row step = (trimG row step, step) := by
  unfold shortL
  rw [if_pos h]
theorem shortL_end {row : List RT} {step : RT} (h : ¬ GoesOn row step) : shortL row step = (trimZ row, (0, 1)) := by
  unfold shortL
  rw [if_neg h]
theorem goes_snoc {ys : List RT} {y step : RT} : GoesOn (ys ++ [y]) step ↔ step ≠ (0, 1) ∧ y ≠ (0, 1) := by
  refine ⟨fun h => ?_, fun h => ⟨h.1, ys, y, rfl, h.2⟩⟩
  obtain ⟨h1, zs, z, e, hz⟩ := h
  have e2 := List.append_inj_right' e rfl
  cases e2
  exact ⟨h1, hz⟩
theorem goes_nil {step : RT} : ¬ GoesOn [] step := by
  rintro ⟨_, ys, y, e, _⟩
  have := congrArg List.length e
  simp at this
theorem shortL_idem {row : List RT} {step : RT} (hr : ∀ x ∈ row, Red x) (hs : Red step) : shortL (shortL row step).1 (shortL row step).2 = shortL row step := by
  rcases Classical.em (GoesOn row step) with h | h
  · obtain ⟨h1, ys, y, rfl, hy⟩ := id h
    obtain ⟨zs, z, e1, e2, e3, _, _⟩ := trimG_good step _ ys y rfl hr hs hy h1
    rw [shortL_go h, e1]
    dsimp only
    rw [shortL_go (goes_snoc.mpr ⟨h1, e2⟩), e3]
  · rw [shortL_end h]
    dsimp only
    rw [shortL_end (fun z => z.1 rfl), trimZ_idem]
theorem shortL_more {row : List RT} {step l : RT} (h : GoesOn (row ++ [l]) step) (hl : Red l) (hs : Red step) : GoesOn (row ++ [l] ++ [rT l step]) step ∧ shortL (row ++ [l] ++ [rT l step]) step = shortL (row ++ [l]) step := by
  obtain ⟨h1, h2⟩ := goes_snoc.mp h
  have g : GoesOn (row ++ [l] ++ [rT l step]) step := goes_snoc.mpr ⟨h1, fun z => by
    rcases (rT_zero hl hs).mp z with y | y
    · exact h2 y
    · exact h1 y⟩
  exact ⟨g, by rw [shortL_go g, shortL_go h, trimG_cut]⟩
theorem shortL_noughts {row : List RT} {step st : RT} {n : Nat} (h : ¬ GoesOn row step) (hn : n = 0 → ¬ GoesOn row st) : ¬ GoesOn (row ++ List.replicate n (0, 1)) st ∧ shortL (row ++ List.replicate n (0, 1)) st = shortL row step := by
  have g : ¬ GoesOn (row ++ List.replicate n (0, 1)) st := by
    match n, hn with
    | 0, hn =>
      rw [List.replicate_zero, List.append_nil]
      exact hn rfl
    | n + 1, _ =>
      rw [List.replicate_succ', ← List.append_assoc]
      exact fun z => (goes_snoc.mp z).2 rfl
  exact ⟨g, by rw [shortL_end g, shortL_end h, trimZ_noughts]⟩
theorem trimZ_mem : ∀ {n : Nat} {xs : List RT}, xs.length = n → ∀ x ∈ trimZ xs, x ∈ xs := by
  intro n
  induction n with
  | zero =>
    intro xs h x hx
    rw [List.length_eq_zero_iff.mp h] at hx
    simp [trimZ] at hx
  | succ n ih =>
    intro xs h x hx
    rcases snoc_cases xs with rfl | ⟨ys, y, rfl⟩
    · cases h
    · rcases Classical.em (y = (0, 1)) with rfl | hy
      · rw [trimZ_nought] at hx
        exact List.mem_append_left _ (ih (by simpa using h) x hx)
      · rw [trimZ_stop _ hy] at hx
        exact hx
theorem trimZ_len : ∀ {n : Nat} {xs : List RT}, xs.length = n → (trimZ xs).length ≤ xs.length := by
  intro n
  induction n with
  | zero =>
    intro xs h
    rw [List.length_eq_zero_iff.mp h]
    exact Nat.le_refl _
  | succ n ih =>
    intro xs h
    rcases snoc_cases xs with rfl | ⟨ys, y, rfl⟩
    · cases h
    · rcases Classical.em (y = (0, 1)) with rfl | hy
      · rw [trimZ_nought]
        have := ih (xs := ys) (by simpa using h)
        rw [List.length_append]
        omega
      · rw [trimZ_stop _ hy]
        exact Nat.le_refl _
theorem shortL_mem {row : List RT} {step : RT} (hr : ∀ x ∈ row, Red x) (hs : Red step) : (∀ x ∈ (shortL row step).1, x ∈ row) ∧ (shortL row step).1.length ≤ row.length ∧ ((shortL row step).2 = step ∨ (shortL row step).2 = (0, 1)) := by
  rcases Classical.em (GoesOn row step) with h | h
  · obtain ⟨h1, ys, y, rfl, hy⟩ := id h
    obtain ⟨zs, z, e1, e2, e3, e4, e5⟩ := trimG_good step _ ys y rfl hr hs hy h1
    rw [shortL_go h, e1]
    exact ⟨e5, e4, .inl rfl⟩
  · rw [shortL_end h]
    exact ⟨trimZ_mem rfl, trimZ_len rfl, .inr rfl⟩

end Fp

set_option Elab.async false
set_option linter.all false
set_option maxRecDepth 100000
set_option maxHeartbeats 4000000
set_option exponentiation.threshold 10000
namespace Fp
open PySem PySem.Spec PyProof.Rows L2
theorem behindR_zero {row : List RT} {step : RT} (hr : ∀ x ∈ row, Red x) (hs : Red step) (h1 : step.1 < step.2) : behindR row step = (0, 1) ↔ ¬ GoesOn row step := by
  rcases snoc_cases row with rfl | ⟨ys, y, rfl⟩
  · exact ⟨fun _ => goes_nil, fun _ => rfl⟩
  · have hy : Red y := hr y (by simp)
    rw [behindR_snoc, goes_snoc]
    unfold rO
    have hq : Red (rT y step) := low2_red (Int.ne_of_gt (Int.mul_pos hy.1 hs.1))
    rw [low2_zero (Int.mul_pos hq.1 (gap_pos hs h1)), Int.mul_eq_zero]
    have hm := (low2_red (t := 1 * step.2 - step.1 * 1) (b := 1 * step.2) (by have := hs.1; omega)).1
    have e1 : (rT y step).1 = 0 ↔ rT y step = (0, 1) := (red_zero hq).symm
    rw [e1, rT_zero hy hs]
    refine ⟨fun z => ?_, fun z => .inl ?_⟩
    · rcases z with (z | z) | z
      · exact fun g => g.2 z
      · exact fun g => g.1 z
      · have : (0 : Int) < (rM (1, 1) step).2 := hm
        omega
    · rcases Classical.em (y = (0, 1)) with a | a
      · exact .inl a
      · rcases Classical.em (step = (0, 1)) with b | b
        · exact .inr b
        · exact absurd ⟨b, a⟩ z
section
variable {P : Program} {w : World} {K : PySem.W.Frag} {mg : Str → Option Value} {base : Heap} {aN aO : Addr}
/-! ### without noughts at the end -/
def spWn (K : PySem.W.Frag) : Sp := fun vs H Q _ => ∃ (p : Addr) (row : List RT), vs = [.ref p] ∧ RowAt K H p row ∧ ∀ z H', Same H H' → LifeAt K H' z (trimZ row) (0, 1) → Q (.ref z) H'
/-! ### short -/
theorem cutV_drop (vs : List V) (h : vs ≠ []) : cutV vs none (some (-1)) = vs.take (vs.length - 1) := by
  have hp := List.length_pos_iff.mpr h
  unfold cutV
  rw [HT.sIx_none]
  have e0 : HT.sIx vs.length vs.length (some (-1)) = ((-1 : Int) + (vs.length : Int)).toNat := by
    unfold HT.sIx
    rfl
  have e : HT.sIx vs.length vs.length (some (-1)) = vs.length - 1 := by
    rw [e0]
    omega
  rw [e, Nat.sub_zero, List.drop_zero]
theorem drop_row {K : PySem.W.Frag} {H : Hp} {p : Addr} {xs : List RT} {y : RT} {Q : VK} (h : RowAt K H p (xs ++ [y])) (hq : ∀ r H', Same H H' → RowAt K H' r xs → Q (.ref r) H') : rSlA K (.ref p) none (some (-1)) H Q := by
  obtain ⟨rs, h1, h2⟩ := h
  have hl := h2.length
  rw [List.length_append, List.length_singleton] at hl
  have hne : rs.map V.ref ≠ [] := fun z => by
    have := congrArg List.length z
    rw [List.length_map, List.length_nil] at this
    omega
  refine ⟨p, _, rfl, h1, fun z => ?_, fun _ r nr => ?_⟩
  · have z2 := z.2
    have e0 : HT.sIx (rs.map V.ref).length (rs.map V.ref).length (some (-1)) = ((-1 : Int) + ((rs.map V.ref).length : Int)).toNat := by
      unfold HT.sIx
      rfl
    have e : HT.sIx (rs.map V.ref).length (rs.map V.ref).length (some (-1)) = (rs.map V.ref).length - 1 := by
      rw [e0, List.length_map]
      omega
    rw [e, List.length_map] at z2
    omega
  · rw [cutV_drop _ hne, List.length_map]
    have s := same_new (o := HO.tup ((rs.map V.ref).take (rs.length - 1))) nr
    refine hq r _ s ⟨rs.take (rs.length - 1), ?_, ?_⟩
    · rw [List.map_take]
      exact SqT.of upd_same
    · have h3 := (h2.take (rs.length - 1)).tk (Tk.same (K := K) s)
      rw [hl, Nat.add_sub_cancel, List.take_left'] at h3
      · rw [hl, Nat.add_sub_cancel]
        exact h3
      · rfl
def spShort (K : PySem.W.Frag) : Sp := fun vs H Q _ => ∃ (p : Addr) (row : List RT) (step : RT), vs = [.ref p] ∧ LifeAt K H p row step ∧ (∀ x ∈ row, SmR 1900 x) ∧ StepOk 300 step ∧
  ∀ z H', Same H H' → LifeAt K H' z (shortL row step).1 (shortL row step).2 → Q (.ref z) H'
end

end Fp

set_option Elab.async false
set_option linter.all false
set_option maxRecDepth 100000
set_option maxHeartbeats 4000000
set_option exponentiation.threshold 10000
namespace Fp
open PySem PySem.Spec PyProof.Rows L2
/-! ### the law's own short life -/
abbrev N_lshort : List Str := ["_law_life_here", "_law_row", "_law_step", "_law_some", "_law_first", "_law_k"]
theorem trimZ_all {row : List RT} (h : ∀ y ∈ row, y = (0, 1)) : trimZ row = [] := by
  have e : row = [] ++ List.replicate row.length (0, 1) := by
    rw [List.nil_append]
    exact List.eq_replicate_of_mem h
  rw [e, trimZ_noughts]
  rfl
theorem trimZ_at {row : List RT} {m : Nat} {x : RT} (h : row[m]? = some x) (hx : x ≠ (0, 1)) (hr : ∀ j y, m < j → row[j]? = some y → y = (0, 1)) : trimZ row = row.take (m + 1) := by
  have e : row = row.take (m + 1) ++ List.replicate (row.drop (m + 1)).length (0, 1) := by
    rw [← List.eq_replicate_of_mem (l := row.drop (m + 1)) (a := (0, 1)) ?_, List.take_append_drop]
    intro y hy
    obtain ⟨i, hi⟩ := List.mem_iff_getElem?.mp hy
    rw [List.getElem?_drop] at hi
    exact hr _ y (by omega) hi
  have e2 : trimZ row = trimZ (row.take (m + 1)) := by
    conv => lhs; rw [e]
    exact trimZ_noughts _ _
  rw [e2, List.take_add_one, h]
  exact trimZ_stop _ hx
section
variable {P : Program} {w : World} {K : PySem.W.Frag} {mg : Str → Option Value} {base : Heap}
def spLshort (K : PySem.W.Frag) : Sp := fun vs H Q _ => ∃ (p : Addr) (row : List RT) (step : RT), vs = [.ref p] ∧ LifeAt K H p row step ∧ row.length ≤ 1000 ∧ (row = [] → step = (0, 1)) ∧ (∀ x ∈ row, SmR 1900 x) ∧ StepOk 300 step ∧
  ∀ z H', Same H H' → LifeAt K H' z (shortL row step).1 (shortL row step).2 → Q (.ref z) H'
end

end Fp

set_option Elab.async false
set_option linter.all false
set_option maxRecDepth 100000
set_option maxHeartbeats 4000000
set_option exponentiation.threshold 10000
namespace Fp
open PySem PySem.Spec PyProof.Rows L2
/-! ### chances put anew: the recursion -/
def sumTo (n : Nat) (f : Nat → Rat) : Rat := ((List.range n).map f).sum
def renL (a b : Nat → Rat) : Nat → List Rat
  | 0 => []
  | n + 1 => renL a b n ++ [b n + sumTo n fun j => a j * (renL a b n)[n - 1 - j]?.getD 0]
theorem renL_len (a b : Nat → Rat) : ∀ n, (renL a b n).length = n
  | 0 => rfl
  | n + 1 => by
    show (renL a b n ++ [_]).length = _
    rw [List.length_append, renL_len a b n]
    rfl
theorem renL_at (a b : Nat → Rat) : ∀ {n j : Nat}, j < n → (renL a b n)[j]? = (renL a b (j + 1))[j]?
  | 0, j, h => absurd h (Nat.not_lt_zero _)
  | n + 1, j, h => by
    rcases (by omega : j < n ∨ j = n) with z | z
    · show (renL a b n ++ [_])[j]? = _
      rw [List.getElem?_append_left (by rw [renL_len]; exact z)]
      exact renL_at a b z
    · subst z
      rfl
/-- what is at n: the told one, and by each chance what is so much before -/
def renQ (a b : Nat → Rat) (n : Nat) : Rat := (renL a b (n + 1))[n]?.getD 0
theorem renQ_is (a b : Nat → Rat) (n : Nat) : renQ a b n = b n + sumTo n fun j => a j * renQ a b (n - 1 - j) := by
  unfold renQ
  show (renL a b n ++ [b n + sumTo n fun j => a j * (renL a b n)[n - 1 - j]?.getD 0])[n]?.getD 0 = _
  rw [List.getElem?_append_right (by rw [renL_len]; exact Nat.le_refl _), renL_len, Nat.sub_self]
  show b n + sumTo n (fun j => a j * (renL a b n)[n - 1 - j]?.getD 0) = _
  congr 1
  unfold sumTo
  congr 1
  refine List.map_congr_left fun j hj => ?_
  have := List.mem_range.mp hj
  rw [renL_at a b (show n - 1 - j < n by omega)]
def qa (xs : List RT) (j : Nat) : Rat := match xs[j]? with
  | some x => qv x
  | none => 0
theorem qa_at {xs : List RT} {j : Nat} {x : RT} (h : xs[j]? = some x) : qa xs j = qv x := by
  unfold qa
  rw [h]
def getI (xs : List Int) (j : Nat) : Int := xs[j]?.getD 0
theorem getI_at {xs : List Int} {j : Nat} (h : j < xs.length) : xs[j]? = some (getI xs j) := by
  unfold getI
  rw [List.getElem?_eq_getElem h]
  rfl
theorem CMulA.of {n m : Nat} {a b : Int} (ha : Sm n a) (hb : Sm m b) (hn : 0 < n) (hm : 0 < m) (h : n + m ≤ 1000000) : CMulA a b := by
  unfold CMulA
  have := ha.log hn
  have := hb.log hm
  omega
theorem sum_sm {e : Nat} : ∀ {xs : List Int}, (∀ x ∈ xs, Sm e x) → xs.length ≤ 32 → Sm (e + 6) xs.sum := by
  have key : ∀ {xs : List Int}, (∀ x ∈ xs, Sm e x) → xs.sum.natAbs ≤ xs.length * 2 ^ e := by
    intro xs
    induction xs with
    | nil =>
      intro _
      simp
    | cons x r ih =>
      intro h
      have h1 := h x (List.mem_cons_self ..)
      have h2 := ih fun y hy => h y (List.mem_cons_of_mem _ hy)
      rw [List.sum_cons, List.length_cons, Nat.add_mul]
      unfold Sm at h1
      have := Int.natAbs_add_le x r.sum
      omega
  intro xs h hl
  have h1 := key h
  unfold Sm
  have h2 : xs.length * 2 ^ e ≤ 32 * 2 ^ e := Nat.mul_le_mul_right _ hl
  have h3 : 2 ^ (e + 6) = 64 * 2 ^ e := by rw [Nat.pow_add, Nat.mul_comm]
  have h4 : 0 < 2 ^ e := Nat.pow_pos (by decide)
  omega
/-- the sums as the program has them -/
structure SOk (a b : Nat → Rat) (c c2 : Int) (u i : Nat) (ss : List Int) : Prop where
  len : ss.length = i
  val : ∀ j, j < i → ((getI ss j : Int) : Rat) = (c2 : Rat) * (c : Rat) ^ j * renQ a b j
  sm : ∀ j, j < i → Sm ((2 * u + 8) * (j + 1)) (getI ss j)
def partI (tp ss : List Int) (c : Int) (i j : Nat) : Int := getI tp j * c ^ j * getI ss (i - 1 - j)
theorem sumTo_cast (f : Nat → Int) (n : Nat) : ((((List.range n).map f).sum : Int) : Rat) = sumTo n fun j => ((f j : Int) : Rat) := by
  unfold sumTo
  induction n with
  | zero => rfl
  | succ n ih =>
    rw [List.range_succ, List.map_append, List.map_append, List.sum_append, Rat.intCast_add, ih]
    simp only [List.map_cons, List.map_nil]
    rw [sum_snoc]
    congr 1
    simp
theorem sumTo_mul (k : Rat) (f : Nat → Rat) (n : Nat) : k * sumTo n f = sumTo n fun j => k * f j := by
  unfold sumTo
  induction n with
  | zero =>
    show k * 0 = 0
    grind
  | succ n ih =>
    rw [List.range_succ, List.map_append, List.map_append]
    simp only [List.map_cons, List.map_nil]
    rw [sum_snoc, sum_snoc, ← ih]
    grind
theorem sumTo_congr {n : Nat} {f g : Nat → Rat} (h : ∀ j, j < n → f j = g j) : sumTo n f = sumTo n g := by
  unfold sumTo
  congr 1
  exact List.map_congr_left fun j hj => h j (List.mem_range.mp hj)
theorem cast_pow (c : Int) : ∀ j : Nat, ((c ^ j : Int) : Rat) = (c : Rat) ^ j
  | 0 => by
    rw [Int.pow_zero, Rat.pow_zero]
    rfl
  | j + 1 => by rw [Int.pow_succ, Rat.pow_succ, Rat.intCast_mul, cast_pow c j]
theorem pow_plus (c : Rat) (m : Nat) : ∀ n : Nat, c ^ (m + n) = c ^ m * c ^ n
  | 0 => by
    rw [Rat.pow_zero, Nat.add_zero]
    grind
  | n + 1 => by
    rw [← Nat.add_assoc, Rat.pow_succ, Rat.pow_succ, pow_plus c m n]
    grind
theorem SOk.step {a b : Nat → Rat} {c c2 tt : Int} {u i : Nat} {ss tp : List Int} (h : SOk a b c c2 u i ss) (hc : (c : Rat) ≠ 0) (ht : ((tt : Int) : Rat) = (c2 : Rat) * b i) (ha : ∀ j, j < i → ((getI tp j : Int) : Rat) = (c : Rat) * a j)
    (su : 0 < u) (st : Sm u tt) (sc : Sm u c) (sp : ∀ j, j < i → Sm u (getI tp j)) (hi : i ≤ 32) : SOk a b c c2 u (i + 1) (ss ++ [tt * c ^ i + ((List.range i).map (partI tp ss c i)).sum]) := by
  have old : ∀ j, j < i → ∀ x, getI (ss ++ [x]) j = getI ss j := fun j hj x => by
    unfold getI
    rw [List.getElem?_append_left (by rw [h.len]; exact hj)]
  have new : ∀ x, getI (ss ++ [x]) i = x := fun x => by
    unfold getI
    rw [List.getElem?_append_right (by rw [h.len]; exact Nat.le_refl _), h.len, Nat.sub_self]
    rfl
  refine ⟨by rw [List.length_append, h.len]; rfl, fun j hj => ?_, fun j hj => ?_⟩
  · rcases (by omega : j < i ∨ j = i) with z | z
    · rw [old j z]
      exact h.val j z
    · subst z
      rw [new, Rat.intCast_add, Rat.intCast_mul, sumTo_cast, cast_pow, ht, renQ_is a b j]
      have e : (sumTo j fun k => ((partI tp ss c j k : Int) : Rat)) = (c2 : Rat) * (c : Rat) ^ j * sumTo j fun k => a k * renQ a b (j - 1 - k) := by
        rw [sumTo_mul]
        refine sumTo_congr fun k hk => ?_
        unfold partI
        rw [Rat.intCast_mul, Rat.intCast_mul, cast_pow, ha k hk, h.val (j - 1 - k) (by omega)]
        have e2 : (c : Rat) ^ j = (c : Rat) * (c : Rat) ^ k * (c : Rat) ^ (j - 1 - k) := by
          have : j = (k + (j - 1 - k)) + 1 := by omega
          conv => lhs; rw [this]
          rw [Rat.pow_succ, pow_plus]
          grind
        rw [e2]
        grind
      rw [e]
      grind
  · rcases (by omega : j < i ∨ j = i) with z | z
    · rw [old j z]
      exact h.sm j z
    · subst z
      rw [new]
      have hU : ∀ k, k < j → Sm (u + 1 + (2 * u + 8) * j) (partI tp ss c j k) := fun k hk => by
        unfold partI
        have h1 := ((sp k hk).mul (sm_pow sc su k)).mul (h.sm (j - 1 - k) (by omega))
        refine h1.mono ?_
        have e1 : j - 1 - k + 1 = j - k := by omega
        rw [e1]
        have e2 : (2 * u + 8) * j = (2 * u + 8) * (j - k) + (2 * u + 8) * k := by rw [← Nat.mul_add]; congr 1; omega
        rw [e2]
        have e3 : u * k ≤ (2 * u + 8) * k := Nat.mul_le_mul_right _ (by omega)
        omega
      have s1 : Sm (u + 1 + (2 * u + 8) * j + 6) ((List.range j).map (partI tp ss c j)).sum := by
        refine sum_sm (fun x hx => ?_) (by rw [List.length_map, List.length_range]; exact hi)
        obtain ⟨k, hk, rfl⟩ := List.mem_map.mp hx
        exact hU k (List.mem_range.mp hk)
      have s2 : Sm (u + 1 + (2 * u + 8) * j + 6) (tt * c ^ j) := by
        refine (st.mul (sm_pow sc su j)).mono ?_
        have e3 : u * j ≤ (2 * u + 8) * j := Nat.mul_le_mul_right _ (by omega)
        omega
      have s3 := s2.add s1
      refine s3.mono ?_
      rw [Nat.mul_add]
      omega

end Fp

set_option Elab.async false
set_option linter.all false
set_option maxRecDepth 100000
set_option maxHeartbeats 4000000
set_option exponentiation.threshold 10000
namespace Fp
open PySem PySem.Spec PyProof.Rows L2
/-! ### renewed -/
abbrev N_ren : List Str := ["chances", "told", "tops", "bottom", "told_tops", "told_bottom", "powers", "sums", "n", "told_top", "parts", "k", "total", "power"]
def powL (c : Int) (m : Nat) : List Int := (List.range m).map fun j => c ^ j
theorem powL_len {c : Int} {m : Nat} : (powL c m).length = m := by
  unfold powL
  rw [List.length_map, List.length_range]
theorem powL_at {c : Int} {m j : Nat} (h : j < m) : (powL c m)[j]? = some (c ^ j) := by
  unfold powL
  rw [List.getElem?_map, List.getElem?_range h]
  rfl
theorem powL_succ {c : Int} {m : Nat} : powL c (m + 1) = powL c m ++ [c ^ m] := by
  unfold powL
  rw [List.range_succ, List.map_append]
  rfl
theorem tops_len {c : Int} {xs : List RT} : (topsOn c xs).length = xs.length := by
  unfold topsOn
  rw [List.length_map]
theorem tops_get {c : Int} {xs : List RT} {j : Nat} {x : RT} (h : xs[j]? = some x) : getI (topsOn c xs) j = x.1 * (c / x.2) := by
  unfold getI topsOn
  rw [List.getElem?_map, h]
  rfl
theorem tops_val {c : Int} (hc : 0 < c) {xs : List RT} {j : Nat} (hj : j < xs.length) (h : ∀ x ∈ xs, 0 < x.2 ∧ x.2 ∣ c) : ((getI (topsOn c xs) j : Int) : Rat) = (c : Rat) * qa xs j := by
  have hg : xs[j]? = some xs[j] := List.getElem?_eq_getElem hj
  obtain ⟨h1, h2⟩ := h _ (List.getElem_mem hj)
  rw [tops_get hg, qa_at hg, qv_over h1 h2 hc]
  have := cast_ne (Int.ne_of_gt hc)
  grind
theorem tops_each {n d : Nat} {c D : Int} (hD : 0 < D) (hcD : c ∣ D) (sD : Sm d D) {xs : List RT} {j : Nat} (hj : j < xs.length) (h : ∀ x ∈ xs, Sm n x.1) : Sm (n + d) (getI (topsOn c xs) j) := by
  have hg : xs[j]? = some xs[j] := List.getElem?_eq_getElem hj
  rw [tops_get hg]
  have sc : Sm d c := dvd_small hcD hD sD
  have sq : Sm d (c / xs[j].2) := by
    unfold Sm at *
    have a : (c / xs[j].2).natAbs ≤ c.natAbs := Int.natAbs_ediv_le_natAbs ..
    omega
  exact (h _ (List.getElem_mem hj)).mul sq
theorem upd_int {H : Hp} {l : Addr} {xs : List Int} {x : Int} : upd H l (.lst (xs.map V.int ++ [.int x])) l = some (.lst ((xs ++ [x]).map V.int)) := by
  rw [upd_same, List.map_append]
  rfl
section
variable {P : Program} {w : World} {K : PySem.W.Frag} {mg : Str → Option Value} {base : Heap}
def spRen (K : PySem.W.Frag) : Sp := fun vs H Q _ => ∃ (p t : Addr) (chs tld : List RT) (n1 d1 n2 d2 : Nat) (D1 D2 : Int), vs = [.ref p, .ref t] ∧ LstAt K H p chs ∧ LstAt K H t tld ∧ Over1 n1 d1 D1 chs ∧ Over1 n2 d2 D2 tld ∧ n1 ≤ 2000 ∧ d1 ≤ 300 ∧ n2 ≤ 2000 ∧ d2 ≤ 300 ∧ tld.length ≤ 22 ∧ tld.length ≤ chs.length + 1 ∧
  ∀ z rs H', Same H H' → H' z = some (.lst (rs.map V.ref)) → RsAt K H' rs ((List.range tld.length).map fun i => rdq (renQ (qa chs) (qa tld) i)) → Q (.ref z) H'
end

end Fp

set_option Elab.async false
set_option linter.all false
set_option maxRecDepth 100000
set_option maxHeartbeats 4000000
set_option exponentiation.threshold 10000
namespace Fp
open PySem PySem.Spec PyProof.Rows L2
/-! ### chances of drawn lives stand over a small number -/
theorem ch_dvdW {row : List RT} {step x : RT} {n i most : Nat} {W : Int} (hW : ∀ y ∈ row, y.2 ∣ W) (hr : ∀ y ∈ row, SmR n y) (hs : Red step) (hx : Red x) (h : qv x = chR row step i) (hi : i < most) : x.2 ∣ W * step.2 ^ most := by
  match e : row[i]? with
  | some y =>
    have hy := List.mem_of_getElem? e
    have ex : x = y := qv_inj hx (hr y hy).1 (h.trans (chR_in e))
    rw [ex]
    exact Int.dvd_trans (hW y hy) (Int.dvd_mul_right ..)
  | none =>
    have hle : row.length ≤ i := List.getElem?_eq_none_iff.mp e
    match el : row.getLast? with
    | none =>
      have er : row = [] := List.getLast?_eq_none_iff.mp el
      rw [er, chR_nil] at h
      have ex : x = (0, 1) := qv_inj hx ⟨by decide, by decide⟩ (by rw [h, qv_nought])
      rw [ex]
      exact Int.one_dvd _
    | some l =>
      have hl : l ∈ row := List.mem_of_getLast? el
      have hl0 := (hr l hl).1
      rw [chR_out hle el] at h
      obtain ⟨j, ej, hj⟩ : ∃ j, i + 1 - row.length = j ∧ j ≤ most := ⟨_, rfl, by omega⟩
      rw [ej] at h
      have key : ∀ j : Nat, qv l * qv step ^ j = ((l.1 * step.1 ^ j : Int) : Rat) / ((l.2 * step.2 ^ j : Int) : Rat) := by
        intro j
        induction j with
        | zero =>
          rw [Rat.pow_zero, Int.pow_zero, Int.pow_zero, Int.mul_one, Int.mul_one]
          unfold qv
          grind
        | succ j ih =>
          have h1 := cast_ne (Int.ne_of_gt hs.1)
          have h2 := cast_ne (Int.ne_of_gt (Int.mul_pos hl0.1 (show (0 : Int) < step.2 ^ j from Int.pow_pos hs.1)))
          rw [Rat.pow_succ, ← Rat.mul_assoc, ih, Int.pow_succ, Int.pow_succ, ← Int.mul_assoc, ← Int.mul_assoc, Rat.intCast_mul (l.1 * step.1 ^ j), Rat.intCast_mul (l.2 * step.2 ^ j)]
          unfold qv
          grind
      rw [key j] at h
      obtain ⟨d1, _⟩ := red_small hx (Int.mul_pos hl0.1 (Int.pow_pos hs.1)) h
      refine Int.dvd_trans d1 ?_
      obtain ⟨u, hu⟩ := hW l hl
      refine ⟨u * step.2 ^ (most - j), ?_⟩
      rw [hu, show most = j + (most - j) by omega, Int.pow_add, Nat.add_sub_cancel_left]
      rw [Int.mul_assoc l.2 u, ← Int.mul_assoc u, Int.mul_comm u (step.2 ^ j), Int.mul_assoc (step.2 ^ j), ← Int.mul_assoc l.2]
/-- one small number under a whole row -/
structure WOk (W : Int) (row : List RT) : Prop where
  pos : 0 < W
  sm : Sm 14 W
  dvd : ∀ y ∈ row, y.2 ∣ W
theorem over_chW {row : List RT} {step : RT} {n most : Nat} {chs : List RT} {W : Int} (hW : WOk W row) (hr : ∀ y ∈ row, SmR n y) (hs : SmR 5 step) (hm : most ≤ 20) (h : IsCh row step n most chs) : Over1 (n + 100) 121 (W * step.2 ^ most) chs := by
  refine ⟨Int.mul_pos hW.pos (Int.pow_pos hs.1.1), ?_, fun x hx => ?_, by rw [h.len]; omega⟩
  · exact (hW.sm.mul (sm_pow hs.2.2 (by decide) most)).mono (by omega)
  · obtain ⟨i, hi⟩ := List.mem_iff_getElem?.mp hx
    have hi2 := (List.getElem?_eq_some_iff.mp hi).1
    rw [h.len] at hi2
    obtain ⟨s1, s2⟩ := h.ok i x hi
    exact ⟨s1.1.1, ch_dvdW hW.dvd hr hs.1 s1.1 s2 hi2, s1.2.1.mono (by omega)⟩
theorem BaseLife.w {row : List RT} {step : RT} (h : BaseLife row step) : ∃ W : Int, 0 < W ∧ Sm 10 W ∧ ∀ y ∈ row, y.2 ∣ W := by
  rcases h with ⟨ws, extra, m, rfl⟩ | ⟨rfl, rfl⟩
  · obtain ⟨w0, w1⟩ := m.whole
    refine ⟨wholeOf ws extra step, w0, by unfold Sm; omega, fun y hy => ?_⟩
    unfold rowOf at hy
    obtain ⟨z, hz, rfl⟩ := List.mem_map.mp hy
    exact (red_small (low2_red (Int.ne_of_gt w0)) w0 (qv_low2 w0)).1
  · exact ⟨1, by decide, by unfold Sm; decide, fun y hy => by simp at hy⟩
theorem AnyLife.w {row : List RT} {step : RT} (h : AnyLife row step) : ∃ W : Int, WOk W row := by
  rcases h with h | ⟨row0, l, h, h5, hs, hl, rfl⟩ | ⟨row0, h, h5, rfl, hs⟩
  · obtain ⟨W, w0, w1, w2⟩ := h.w
    exact ⟨W, w0, w1.mono (by decide), w2⟩
  · obtain ⟨W, w0, w1, w2⟩ := h.w
    obtain ⟨s1, s2, s3, s4⟩ := h.sm
    refine ⟨W * step.2, Int.mul_pos w0 s2.1.1, (w1.mul s2.2.2).mono (by decide), fun y hy => ?_⟩
    rcases List.mem_append.mp hy with z | z
    · exact Int.dvd_trans (w2 y z) (Int.dvd_mul_right ..)
    · rw [List.mem_singleton.mp z]
      have hm := List.mem_of_getElem? hl
      have hp := Int.mul_pos (s1 l hm).1.1.1 s2.1.1
      have d := (red_small (x := rT l step) (low2_red (Int.ne_of_gt hp)) hp (qv_low2 hp)).1
      refine Int.dvd_trans d ?_
      obtain ⟨u, hu⟩ := w2 l hm
      exact ⟨u, by rw [hu, Int.mul_assoc, Int.mul_comm u, ← Int.mul_assoc]⟩
  · obtain ⟨W, w0, w1, w2⟩ := h.w
    refine ⟨W, w0, w1.mono (by decide), fun y hy => ?_⟩
    rcases List.mem_append.mp hy with z | z
    · exact w2 y z
    · rw [List.mem_singleton.mp z]
      exact Int.one_dvd _
theorem renQ_congr {a a' b b' : Nat → Rat} : ∀ {m n : Nat}, n ≤ m → (∀ j, j < m → a j = a' j) → (∀ j, j ≤ m → b j = b' j) → renQ a b n = renQ a' b' n := by
  intro m n
  induction n using Nat.strongRecOn with
  | ind n ih =>
    intro hn h1 h2
    rw [renQ_is, renQ_is, h2 n hn]
    congr 1
    refine sumTo_congr fun j hj => ?_
    rw [h1 j (by omega), ih (n - 1 - j) (by omega) (by omega) h1 h2]
theorem qa_ch {row : List RT} {step : RT} {n m j : Nat} {chs : List RT} (h : IsCh row step n m chs) (hj : j < m) : qa chs j = chR row step j := by
  have hj2 : j < chs.length := by rw [h.len]; exact hj
  have hg : chs[j]? = some chs[j] := List.getElem?_eq_getElem hj2
  rw [qa_at hg]
  exact (h.ok j _ hg).2

end Fp

set_option Elab.async false
set_option linter.all false
set_option maxRecDepth 100000
set_option maxHeartbeats 4000000
set_option exponentiation.threshold 10000
namespace Fp
open PySem PySem.Spec PyProof.Rows L2
/-! ### puts -/
/-- one at the beginning, nothing told later -/
def oneAt (n : Nat) : Rat := if n = 0 then 1 else 0
def putQ (row : List RT) (step : RT) (n : Nat) : Rat := renQ (chR row step) oneAt n
theorem qa_one {m j : Nat} (h : j ≤ m) : qa ((1, 1) :: List.replicate m ((0 : Int), (1 : Int))) j = oneAt j := by
  cases j with
  | zero =>
    rw [qa_at (x := (1, 1)) rfl, qv_one]
    rfl
  | succ j =>
    rw [qa_at (x := (0, 1)) (by rw [List.getElem?_cons_succ, List.getElem?_replicate]; exact if_pos (by omega)), qv_nought]
    rfl
section
variable {P : Program} {w : World} {K : PySem.W.Frag} {mg : Str → Option Value} {base : Heap} {aN aO : Addr}
def spPuts (K : PySem.W.Frag) : Sp := fun vs H Q _ => ∃ (p : Addr) (row : List RT) (step : RT) (n most : Nat) (W : Int), vs = [.ref p, .int (most : Int)] ∧ LifeAt K H p row step ∧ LifeOk n row step ∧ WOk W row ∧ most ≤ 20 ∧
  ∀ z H', Same H H' → RowAt K H' z ((List.range (most + 1)).map fun i => rdq (putQ row step i)) → Q (.ref z) H'
end

end Fp

set_option Elab.async false
set_option linter.all false
set_option maxRecDepth 100000
set_option maxHeartbeats 4000000
set_option exponentiation.threshold 10000
namespace Fp
open PySem PySem.Spec PyProof.Rows L2
/-! ### put by how many parts there are -/
def pQ (a : Nat → Rat) : Nat → Nat → Rat
  | 0, m => oneAt m
  | j + 1, m => sumTo m fun k => a k * pQ a j (m - 1 - k)
theorem sumTo_succ (n : Nat) (f : Nat → Rat) : sumTo (n + 1) f = sumTo n f + f n := by
  unfold sumTo
  rw [List.range_succ, List.map_append]
  simp only [List.map_cons, List.map_nil]
  rw [sum_snoc]
theorem sumTo_zero (f : Nat → Rat) : sumTo 0 f = 0 := rfl
theorem sumTo_head (n : Nat) (f : Nat → Rat) : sumTo (n + 1) f = f 0 + sumTo n fun j => f (j + 1) := by
  induction n with
  | zero =>
    rw [sumTo_succ, sumTo_zero, sumTo_zero]
    grind
  | succ n ih =>
    rw [sumTo_succ, ih, sumTo_succ]
    grind
theorem sumTo_add (n : Nat) (f g : Nat → Rat) : sumTo n (fun j => f j + g j) = sumTo n f + sumTo n g := by
  induction n with
  | zero =>
    rw [sumTo_zero, sumTo_zero, sumTo_zero]
    grind
  | succ n ih =>
    rw [sumTo_succ, sumTo_succ, sumTo_succ, ih]
    grind
theorem sumTo_nought (n : Nat) : sumTo n (fun _ => 0) = 0 := by
  induction n with
  | zero => rfl
  | succ n ih =>
    rw [sumTo_succ, ih]
    grind
theorem sumTo_swap (n m : Nat) (f : Nat → Nat → Rat) : sumTo n (fun j => sumTo m fun k => f j k) = sumTo m fun k => sumTo n fun j => f j k := by
  induction n with
  | zero =>
    rw [sumTo_zero]
    exact (sumTo_nought m).symm
  | succ n ih =>
    rw [sumTo_succ, ih, ← sumTo_add]
    exact sumTo_congr fun k _ => (sumTo_succ n fun j => f j k).symm
/-- all of them added: what is put -/
theorem put_parts (a : Nat → Rat) : ∀ n N : Nat, n ≤ N → sumTo (N + 1) (fun j => pQ a j n) = renQ a oneAt n := by
  intro n
  induction n using Nat.strongRecOn with
  | ind n ih =>
    intro N hN
    rw [renQ_is, sumTo_head]
    show oneAt n + sumTo N (fun j => sumTo n fun k => a k * pQ a j (n - 1 - k)) = _
    congr 1
    rw [sumTo_swap]
    refine sumTo_congr fun k hk => ?_
    rw [← sumTo_mul]
    have hN2 : N = (N - 1) + 1 := by omega
    rw [hN2, ih (n - 1 - k) (by omega) (N - 1) (by omega)]
/-- with more parts than beats there is nothing -/
theorem pQ_far (a : Nat → Rat) : ∀ {j m : Nat}, m < j → pQ a j m = 0
  | 0, m, h => absurd h (Nat.not_lt_zero _)
  | j + 1, m, h => by
    show sumTo m (fun k => a k * pQ a j (m - 1 - k)) = 0
    rw [sumTo_congr (g := fun _ => 0) fun k hk => ?_]
    · exact sumTo_nought m
    · rw [pQ_far a (show m - 1 - k < j by omega)]
      grind
theorem sumTo_le {n : Nat} {f g : Nat → Rat} (h : ∀ j, j < n → f j ≤ g j) : sumTo n f ≤ sumTo n g := by
  induction n with
  | zero => exact Rat.le_refl
  | succ n ih =>
    rw [sumTo_succ, sumTo_succ]
    have h1 := ih fun j hj => h j (by omega)
    have h2 := h n (by omega)
    grind
theorem sumTo_rev (n : Nat) (f : Nat → Rat) : sumTo n (fun k => f (n - 1 - k)) = sumTo n f := by
  induction n with
  | zero => rfl
  | succ n ih =>
    rw [sumTo_head, sumTo_succ]
    have e : (sumTo n fun j => f (n + 1 - 1 - (j + 1))) = sumTo n fun k => f (n - 1 - k) := sumTo_congr fun k hk => by
      congr 1
      omega
    rw [e, ih]
    have : n + 1 - 1 - 0 = n := by omega
    rw [this]
    grind
theorem two_sum (n : Nat) : sumTo n (fun m => (2 : Rat) ^ m) = 2 ^ n - 1 := by
  induction n with
  | zero =>
    rw [sumTo_zero, Rat.pow_zero]
    grind
  | succ n ih =>
    rw [sumTo_succ, ih, Rat.pow_succ]
    grind
/-- chances from nought to one: from nought to two powers -/
theorem pQ_bound {a : Nat → Rat} {M : Nat} (h0 : ∀ k, k < M → 0 ≤ a k) (h1 : ∀ k, k < M → a k ≤ 1) : ∀ j m, m ≤ M → 0 ≤ pQ a j m ∧ pQ a j m ≤ 2 ^ m := by
  have pp : ∀ m : Nat, (0 : Rat) < 2 ^ m := fun m => Rat.pow_pos (by decide)
  intro j
  induction j with
  | zero =>
    intro m _
    show 0 ≤ oneAt m ∧ oneAt m ≤ 2 ^ m
    unfold oneAt
    split
    · rename_i e
      subst e
      rw [Rat.pow_zero]
      exact ⟨by decide, Rat.le_refl⟩
    · exact ⟨Rat.le_refl, Rat.le_of_lt (pp m)⟩
  | succ j ih =>
    intro m hm
    show 0 ≤ sumTo m (fun k => a k * pQ a j (m - 1 - k)) ∧ sumTo m (fun k => a k * pQ a j (m - 1 - k)) ≤ 2 ^ m
    refine ⟨?_, ?_⟩
    · have := sumTo_le (n := m) (f := fun _ => 0) (g := fun k => a k * pQ a j (m - 1 - k)) fun k hk => Rat.mul_nonneg (h0 k (by omega)) (ih (m - 1 - k) (by omega)).1
      rw [sumTo_nought] at this
      exact this
    · have h2 : sumTo m (fun k => a k * pQ a j (m - 1 - k)) ≤ sumTo m fun k => (2 : Rat) ^ (m - 1 - k) := sumTo_le fun k hk => by
        obtain ⟨i1, i2⟩ := ih (m - 1 - k) (by omega)
        have h3 := Rat.mul_le_mul_of_nonneg_right (h1 k (by omega)) i1
        grind
      rw [sumTo_rev m fun k => (2 : Rat) ^ k, two_sum] at h2
      grind
theorem tri_flip (n : Nat) (f : Nat → Nat → Rat) : (sumTo n fun m => sumTo (m + 1) (f m)) = sumTo n fun j => sumTo (n - j) fun k => f (j + k) j := by
  induction n with
  | zero => rfl
  | succ n ih =>
    rw [sumTo_succ, ih, sumTo_succ (n := n) (f := fun j => sumTo (n + 1 - j) fun k => f (j + k) j)]
    have e : (sumTo n fun j => sumTo (n + 1 - j) fun k => f (j + k) j) = sumTo n fun j => (sumTo (n - j) fun k => f (j + k) j) + f n j := by
      refine sumTo_congr fun j hj => ?_
      rw [show n + 1 - j = (n - j) + 1 by omega, sumTo_succ, show j + (n - j) = n by omega]
    rw [e, sumTo_add, sumTo_succ, show n + 1 - n = 0 + 1 by omega, sumTo_succ, sumTo_zero]
    rw [Nat.add_zero]
    grind

end Fp

set_option Elab.async false
set_option linter.all false
set_option maxRecDepth 100000
set_option maxHeartbeats 4000000
set_option exponentiation.threshold 10000
namespace Fp
open PySem PySem.Spec PyProof.Rows L2
/-! ### lists of ratios told by their values; values over powers of one number -/
def mkL (n : Nat) (g : Nat → Rat) : List RT := (List.range n).map fun m => rdq (g m)
theorem mkL_len {n : Nat} {g : Nat → Rat} : (mkL n g).length = n := by
  unfold mkL
  rw [List.length_map, List.length_range]
theorem mkL_at {n m : Nat} {g : Nat → Rat} (h : m < n) : (mkL n g)[m]? = some (rdq (g m)) := by
  unfold mkL
  rw [List.getElem?_map, List.getElem?_range h]
  rfl
theorem mkL_congr {n : Nat} {g g' : Nat → Rat} (h : ∀ m, m < n → g m = g' m) : mkL n g = mkL n g' := by
  unfold mkL
  refine List.map_congr_left fun m hm => ?_
  rw [h m (List.mem_range.mp hm)]
theorem mkL_set {n i : Nat} {g : Nat → Rat} {v : Rat} : (mkL n g).set i (rdq v) = mkL n fun m => if m = i then v else g m := by
  refine List.ext_getElem (by rw [List.length_set, mkL_len, mkL_len]) fun m h1 h2 => ?_
  rw [List.getElem_set]
  have hm : m < n := by
    rw [mkL_len] at h2
    exact h2
  have e : ∀ (f : Nat → Rat) (h : m < (mkL n f).length), (mkL n f)[m] = rdq (f m) := fun f h => by
    have := mkL_at (g := f) hm
    rw [List.getElem?_eq_getElem h] at this
    exact Option.some.inj this
  rw [e (fun m => if m = i then v else g m)]
  by_cases z : i = m
  · rw [if_pos z, if_pos z.symm]
  · rw [if_neg z, if_neg fun y => z y.symm, e]
theorem RsAt.set {K : PySem.W.Frag} {H : Hp} {z : Addr} {x : RT} (hz : RAt K H z x) : ∀ {rs : List Addr} {xs : List RT} (i : Nat), RsAt K H rs xs → RsAt K H (rs.set i z) (xs.set i x)
  | _, _, _, .nil => .nil
  | _, _, 0, .cons _ r => .cons hz r
  | _, _, i + 1, .cons h r => .cons h (RsAt.set hz i r)
/-- a whole number over the e-th power of D -/
def Den (D : Int) (e : Nat) (q : Rat) : Prop := ∃ T : Int, q = (T : Rat) / ((D ^ e : Int) : Rat)
section
variable {D : Int} {e f : Nat} {p q : Rat}
theorem Den.up (hD : 0 < D) (h : Den D e q) : Den D (e + 1) q := by
  obtain ⟨T, rfl⟩ := h
  refine ⟨T * D, ?_⟩
  have h1 := cast_ne (Int.ne_of_gt hD)
  have h2 := cast_ne (Int.ne_of_gt (show (0 : Int) < D ^ e from Int.pow_pos hD))
  rw [Int.pow_succ, Rat.intCast_mul, Rat.intCast_mul]
  grind
theorem Den.mono (hD : 0 < D) (h : Den D e q) : ∀ {f : Nat}, e ≤ f → Den D f q := by
  intro f hf
  induction hf with
  | refl => exact h
  | step _ ih => exact ih.up hD
theorem Den.add (hD : 0 < D) (hp : Den D e p) (hq : Den D e q) : Den D e (p + q) := by
  obtain ⟨T, rfl⟩ := hp
  obtain ⟨S, rfl⟩ := hq
  refine ⟨T + S, ?_⟩
  have h2 := cast_ne (Int.ne_of_gt (show (0 : Int) < D ^ e from Int.pow_pos hD))
  rw [Rat.intCast_add]
  grind
theorem Den.mul (hD : 0 < D) (hp : Den D e p) (hq : Den D f q) : Den D (e + f) (p * q) := by
  obtain ⟨T, rfl⟩ := hp
  obtain ⟨S, rfl⟩ := hq
  refine ⟨T * S, ?_⟩
  have h1 := cast_ne (Int.ne_of_gt (show (0 : Int) < D ^ e from Int.pow_pos hD))
  have h2 := cast_ne (Int.ne_of_gt (show (0 : Int) < D ^ f from Int.pow_pos hD))
  rw [Int.pow_add, Rat.intCast_mul, Rat.intCast_mul]
  grind
theorem Den.zero : Den D e 0 := ⟨0, by
  show (0 : Rat) = ((0 : Int) : Rat) / _
  rw [show ((0 : Int) : Rat) = 0 from rfl]
  grind⟩
theorem Den.sum (hD : 0 < D) {n : Nat} {g : Nat → Rat} (h : ∀ j, j < n → Den D e (g j)) : Den D e (sumTo n g) := by
  induction n with
  | zero => exact Den.zero
  | succ n ih =>
    rw [sumTo_succ]
    exact (ih fun j hj => h j (by omega)).add hD (h n (by omega))
theorem Den.of {x : RT} (hD : 0 < D) (hx : 0 < x.2) (h : x.2 ∣ D) : Den D 1 (qv x) := by
  refine ⟨x.1 * (D / x.2), ?_⟩
  rw [Int.pow_succ, Int.pow_zero, Int.one_mul]
  exact qv_over hx h hD
/-- what such a value's lowest form is like -/
theorem Den.red (hD : 0 < D) (h : Den D e q) {d k : Nat} (sD : Sm d D) (hd : 0 < d) (h0 : 0 ≤ q) (h1 : q ≤ 2 ^ k) : (rdq q).2 ∣ D ^ e ∧ Sm (d * e + 1 + k + 1) (rdq q).1 ∧ Sm (d * e + 1) (rdq q).2 := by
  obtain ⟨T, hT⟩ := h
  have hP : (0 : Int) < D ^ e := Int.pow_pos hD
  have hc := cast_ne (Int.ne_of_gt hP)
  obtain ⟨r1, r2⟩ := red_small (rdq_red q) hP (by rw [qv_rdq]; exact hT)
  have sP : Sm (d * e + 1) (D ^ e) := sm_pow sD hd e
  refine ⟨r1, ?_, dvd_small r1 hP sP⟩
  have hcp : (0 : Rat) < ((D ^ e : Int) : Rat) := Rat.intCast_pos.mpr hP
  have e1 : (T : Rat) = q * ((D ^ e : Int) : Rat) := by
    rw [hT]
    grind
  have t0 : 0 ≤ T := by
    have := Rat.mul_nonneg h0 (Rat.le_of_lt hcp)
    rw [← e1] at this
    exact Rat.intCast_nonneg.mp this
  have t1 : T ≤ 2 ^ k * D ^ e := by
    have := Rat.mul_le_mul_of_nonneg_right h1 (Rat.le_of_lt hcp)
    rw [← e1] at this
    have e2 : (2 : Rat) ^ k * ((D ^ e : Int) : Rat) = ((2 ^ k * D ^ e : Int) : Rat) := by
      rw [Rat.intCast_mul, cast_pow 2 k]
      rfl
    rw [e2] at this
    exact Rat.intCast_le_intCast.mp this
  unfold Sm at *
  have t2 : T.natAbs ≤ 2 ^ k * (D ^ e).natAbs := by
    have : (2 ^ k * D ^ e : Int).natAbs = 2 ^ k * (D ^ e).natAbs := by
      rw [Int.natAbs_mul, Int.natAbs_pow]
      rfl
    omega
  have t3 : 2 ^ k * (D ^ e).natAbs ≤ 2 ^ k * 2 ^ (d * e + 1) := Nat.mul_le_mul_left _ (Nat.le_of_lt sP)
  have t4 : 2 ^ (d * e + 1 + k + 1) = 2 * (2 ^ k * 2 ^ (d * e + 1)) := by
    rw [Nat.pow_succ, Nat.pow_add, Nat.mul_comm, Nat.mul_comm (2 ^ (d * e + 1))]
  have t5 : 0 < 2 ^ k * 2 ^ (d * e + 1) := Nat.mul_pos (Nat.pow_pos (by decide)) (Nat.pow_pos (by decide))
  omega
end
/-- chances from nought to one, each over D -/
structure Ch01 (D : Int) (a : Nat → Rat) (M : Nat) : Prop where
  pos : 0 < D
  sm : Sm 60 D
  ge : ∀ k, k < M → 0 ≤ a k
  le : ∀ k, k < M → a k ≤ 1
  den : ∀ k, k < M → Den D 1 (a k)
theorem Ch01.pq {D : Int} {a : Nat → Rat} {M : Nat} (h : Ch01 D a M) : ∀ j m, m ≤ M → Den D j (pQ a j m) := by
  intro j
  induction j with
  | zero =>
    intro m _
    show Den D 0 (oneAt m)
    unfold oneAt
    split
    · exact ⟨1, by
        rw [Int.pow_zero]
        grind⟩
    · exact Den.zero
  | succ j ih =>
    intro m hm
    refine Den.sum h.pos fun k hk => ?_
    rw [Nat.add_comm]
    exact (h.den k (by omega)).mul h.pos (ih (m - 1 - k) (by omega))

end Fp

set_option Elab.async false
set_option linter.all false
set_option maxRecDepth 100000
set_option maxHeartbeats 4000000
set_option exponentiation.threshold 10000
namespace Fp
open PySem PySem.Spec PyProof.Rows L2
/-! ### the law's own: by how many parts there are -/
abbrev N_bp : List Str := ["_law_life_here", "_law_most_here", "_law_chances", "_law_found", "_law_parts", "_law_here", "_law_more", "_law_n", "_law_k"]
/-- what n parts before and one more give at m -/
def fM (a : Nat → Rat) (j m n : Nat) : Rat := pQ a j n * a (m - 1 - n)
theorem fM_sum (a : Nat → Rat) (j m : Nat) : sumTo m (fM a j m) = pQ a (j + 1) m := by
  show _ = sumTo m fun k => a k * pQ a j (m - 1 - k)
  rw [← sumTo_rev m fun k => a k * pQ a j (m - 1 - k)]
  refine sumTo_congr fun k hk => ?_
  unfold fM
  rw [show m - 1 - (m - 1 - k) = k by omega]
  grind
/-- n of them taken, and of the next one those to n + kk -/
def vM (a : Nat → Rat) (j n kk m : Nat) : Rat := sumTo (min n m) (fM a j m) + if n < m ∧ m ≤ n + kk then fM a j m n else 0
theorem vM_zero (a : Nat → Rat) (j n m : Nat) : vM a j n 0 m = sumTo (min n m) (fM a j m) := by
  unfold vM
  rw [if_neg (by omega)]
  grind
theorem vM_full (a : Nat → Rat) {j n kk m : Nat} (h : m ≤ n + kk) : vM a j n kk m = sumTo (min (n + 1) m) (fM a j m) := by
  unfold vM
  rcases (by omega : n < m ∨ m ≤ n) with z | z
  · rw [if_pos ⟨z, h⟩, Nat.min_eq_left (by omega), Nat.min_eq_left (by omega), sumTo_succ]
  · rw [if_neg (by omega), Nat.min_eq_right z, Nat.min_eq_right (by omega)]
    grind
theorem vM_step (a : Nat → Rat) {j n kk m : Nat} : vM a j n (kk + 1) m = if m = n + (kk + 1) then vM a j n kk m + fM a j m n else vM a j n kk m := by
  unfold vM
  by_cases z : m = n + (kk + 1)
  · rw [if_pos z, if_pos (by omega), if_neg (by omega)]
    grind
  · rw [if_neg z]
    congr 1
    by_cases y : n < m ∧ m ≤ n + kk
    · rw [if_pos y, if_pos (by omega)]
    · rw [if_neg y, if_neg (by omega)]
section
variable {D : Int} {a : Nat → Rat} {M j m n : Nat}
theorem Ch01.f_ok (h : Ch01 D a M) (hm : m ≤ M) (hn : n < m) : 0 ≤ fM a j m n ∧ fM a j m n ≤ 2 ^ n ∧ Den D (j + 1) (fM a j m n) := by
  obtain ⟨b1, b2⟩ := pQ_bound h.ge h.le j n (by omega)
  refine ⟨Rat.mul_nonneg b1 (h.ge _ (by omega)), ?_, (h.pq j n (by omega)).mul h.pos (h.den _ (by omega))⟩
  have := Rat.mul_le_mul_of_nonneg_left (h.le (m - 1 - n) (by omega)) b1
  unfold fM
  grind
theorem pow2_le {i k : Nat} (h : i ≤ k) : (2 : Rat) ^ i ≤ 2 ^ k := by
  have pp : ∀ m : Nat, (0 : Rat) < 2 ^ m := fun m => Rat.pow_pos (by decide)
  induction h with
  | refl => exact Rat.le_refl
  | step _ ih =>
    rename_i m _
    rw [Rat.pow_succ]
    have := pp m
    grind
theorem Ch01.s_ok (h : Ch01 D a M) (hm : m ≤ M) (hn : n ≤ m) : 0 ≤ sumTo n (fM a j m) ∧ sumTo n (fM a j m) ≤ 2 ^ m ∧ Den D (j + 1) (sumTo n (fM a j m)) := by
  refine ⟨?_, ?_, Den.sum h.pos fun k hk => (h.f_ok hm (by omega)).2.2⟩
  · have := sumTo_le (n := n) (f := fun _ => 0) (g := fM a j m) fun k hk => (h.f_ok hm (by omega)).1
    rw [sumTo_nought] at this
    exact this
  · have h1 := sumTo_le (n := n) (f := fM a j m) (g := fun k => (2 : Rat) ^ k) fun k hk => (h.f_ok hm (by omega)).2.1
    rw [two_sum] at h1
    have h2 := pow2_le hn
    grind
theorem Ch01.red (h : Ch01 D a M) {q : Rat} {e k : Nat} (hd : Den D e q) (h0 : 0 ≤ q) (h1 : q ≤ 2 ^ k) (he : e ≤ 21) (hk : k ≤ 21) : (rdq q).2 ∣ D ^ e ∧ Sm 1400 (rdq q).1 ∧ Sm 1400 (rdq q).2 := by
  obtain ⟨r1, r2, r3⟩ := hd.red h.pos h.sm (by decide) h0 h1
  have : 60 * e ≤ 60 * 21 := Nat.mul_le_mul_left _ he
  exact ⟨r1, r2.mono (by omega), r3.mono (by omega)⟩
end

end Fp

set_option Elab.async false
set_option linter.all false
set_option maxRecDepth 100000
set_option maxHeartbeats 4000000
set_option exponentiation.threshold 10000
namespace Fp
open PySem PySem.Spec PyProof.Rows L2
section
variable {P : Program} {w : World} {K : PySem.W.Frag} {mg : Str → Option Value} {base : Heap}
/-- a list of ratios that may be changed -/
def LsM (K : PySem.W.Frag) (H : Hp) (p : Addr) (xs : List RT) : Prop := ∃ rs : List Addr, H p = some (.lst (rs.map V.ref)) ∧ RsAt K H rs xs
theorem LsM.same {H H' : Hp} {p : Addr} {xs : List RT} (h : LsM K H p xs) (e : Same H H') : LsM K H' p xs := by
  obtain ⟨rs, h1, h2⟩ := h
  exact ⟨rs, e _ _ h1, h2.tk (Tk.same e)⟩
theorem LsM.at {H : Hp} {p : Addr} {n m : Nat} {g : Nat → Rat} {k : Int} {Q : VK} (h : LsM K H p (mkL n g)) (hk : k = (m : Int)) (hm : m < n) (q : ∀ r, RAt K H r (rdq (g m)) → Q (.ref r) H) : rIxL K (.ref p) (.int k) H Q := by
  obtain ⟨rs, h1, h2⟩ := h
  obtain ⟨r, e1, e2⟩ := h2.get (mkL_at hm)
  have g2 : (rs.map V.ref)[m]? = some (.ref r) := by
    rw [List.getElem?_map, e1]
    rfl
  exact ⟨p, _, _, _, rfl, rfl, SqL.of h1, at_of hk g2, q r e2⟩
theorem rdq_zero {q : Rat} : rdq q = (0, 1) ↔ q = 0 := by
  constructor
  · intro h
    have := congrArg qv h
    rw [qv_rdq, qv_nought] at this
    exact this
  · intro h
    rw [h]
    exact (is_rdq ⟨by decide, by decide⟩ qv_nought).symm
def spBp (K : PySem.W.Frag) : Sp := fun vs H Q _ => ∃ (p : Addr) (row : List RT) (step : RT) (n most : Nat) (D : Int), vs = [.ref p, .int (most : Int)] ∧ LifeAt K H p row step ∧ LifeOk n row step ∧ (row = [] → step = (0, 1)) ∧ Ch01 D (chR row step) 20 ∧ most ≤ 20 ∧
  ∀ (z : Addr) (fs : List Addr) (H' : Hp), Same H H' → H' z = some (.lst (fs.map V.ref)) → fs.length = most + 1 → (∀ j f, fs[j]? = some f → LsM K H' f (mkL (most + 1) (pQ (chR row step) j))) → Q (.ref z) H'
end

end Fp

set_option Elab.async false
set_option linter.all false
set_option maxRecDepth 100000
set_option maxHeartbeats 4000000
set_option exponentiation.threshold 10000
namespace Fp
open PySem PySem.Spec PyProof.Rows L2
theorem AnyLife.ok {row : List RT} {step : RT} (h : AnyLife row step) : LifeOk 20 row step ∧ row.length ≤ 7 ∧ (row = [] → step = (0, 1)) := by
  have nought : SmR 20 (0, 1) := ⟨⟨by decide, by decide⟩, by unfold Sm; decide, by unfold Sm; decide⟩
  rcases h with h | ⟨row0, l, h, h5, hs, hl, rfl⟩ | ⟨row0, h, h5, rfl, hs⟩
  · obtain ⟨s1, s2, s3, s4⟩ := h.sm
    have := h.len
    refine ⟨⟨fun x hx => (s1 x hx).1.mono (by decide), ⟨s2.mono (by decide), s3, s4⟩, by omega, by decide, by decide⟩, by omega, fun z => ?_⟩
    rcases Classical.em (step = (0, 1)) with y | y
    · exact y
    · exact absurd z (h.ne y)
  · obtain ⟨s1, s2, s3, s4⟩ := h.sm
    have hlen : (row0 ++ [rT l step]).length ≤ 6 := by
      rw [List.length_append, List.length_singleton]
      omega
    refine ⟨⟨fun x hx => ?_, ⟨s2.mono (by decide), s3, s4⟩, by omega, by decide, by decide⟩, by omega, fun z => ?_⟩
    · rcases List.mem_append.mp hx with z | z
      · exact (s1 x z).1.mono (by decide)
      · rw [List.mem_singleton.mp z]
        exact (rT_sm (s1 l (List.mem_of_getElem? hl)).1 s2).mono (by decide)
    · have := congrArg List.length z
      simp at this
  · obtain ⟨s1, s2, s3, s4⟩ := h.sm
    have hlen : (row0 ++ [((0 : Int), (1 : Int))]).length ≤ 6 := by
      rw [List.length_append, List.length_singleton]
      omega
    refine ⟨⟨fun x hx => ?_, ?_, by omega, by decide, by decide⟩, by omega, fun z => ?_⟩
    · rcases List.mem_append.mp hx with z | z
      · exact (s1 x z).1.mono (by decide)
      · rw [List.mem_singleton.mp z]
        exact nought
    · rcases hs with rfl | rfl
      · exact ⟨⟨⟨by decide, by decide⟩, by unfold Sm; decide, by unfold Sm; decide⟩, by decide, by decide⟩
      · exact ⟨⟨⟨by decide, by decide⟩, by unfold Sm; decide, by unfold Sm; decide⟩, by decide, by decide⟩
    · have := congrArg List.length z
      simp at this

end Fp

set_option Elab.async false
set_option linter.all false
set_option maxRecDepth 100000
set_option maxHeartbeats 4000000
set_option exponentiation.threshold 10000
namespace Fp
open PySem PySem.Spec PyProof.Rows L2
/-! ### a life cut at a beat -/
theorem ch_ex {row : List RT} {step : RT} {n : Nat} (L : LifeOk n row step) : ∀ i, ∃ x, SmR (n + 5 * i) x ∧ qv x = chR row step i := by
  intro i
  induction i with
  | zero =>
    rcases Classical.em (0 < row.length) with hi | hi
    · exact ⟨row[0], (L.sm _ (List.getElem_mem hi)).mono (by omega), (chR_in (List.getElem?_eq_getElem hi)).symm⟩
    · have er : row = [] := List.length_eq_zero_iff.mp (by omega)
      subst er
      exact ⟨(0, 1), SmR.mono (n := 1) ⟨⟨by decide, by decide⟩, by unfold Sm; decide, by unfold Sm; decide⟩ (by have := L.n1; omega), by rw [chR_nil, qv_nought]⟩
  | succ j ih =>
    rcases Classical.em (j + 1 < row.length) with hi | hi
    · exact ⟨row[j + 1], (L.sm _ (List.getElem_mem hi)).mono (by omega), (chR_in (List.getElem?_eq_getElem hi)).symm⟩
    · rcases Classical.em (row = []) with er | er
      · subst er
        exact ⟨(0, 1), SmR.mono (n := 1) ⟨⟨by decide, by decide⟩, by unfold Sm; decide, by unfold Sm; decide⟩ (by have := L.n1; omega), by rw [chR_nil, qv_nought]⟩
      · obtain ⟨x, h1, h2⟩ := ih
        refine ⟨rT x step, (rT_sm h1 L.st.1).mono (by omega), ?_⟩
        rw [(qv_rT h1.1 L.st.1.1).2, h2, chR_next (by omega) er]
def chsR (row : List RT) (step : RT) (m : Nat) : List RT := (List.range m).map fun k => rdq (chR row step k)
def cutR (row : List RT) (step : RT) (m : Nat) : List RT := chsR row step m ++ [rdq (1 - sumCh row step m)]
theorem chsR_at {row : List RT} {step : RT} {m i : Nat} {x : RT} (h : (chsR row step m)[i]? = some x) : i < m ∧ x = rdq (chR row step i) := by
  unfold chsR at h
  rw [List.getElem?_map] at h
  rcases Classical.em (i < m) with z | z
  · rw [List.getElem?_range z] at h
    exact ⟨z, (Option.some.inj h).symm⟩
  · rw [List.getElem?_eq_none (by rw [List.length_range]; omega)] at h
    cases h
theorem chsR_len {row : List RT} {step : RT} {m : Nat} : (chsR row step m).length = m := by
  unfold chsR
  rw [List.length_map, List.length_range]
theorem IsCh.is {row : List RT} {step : RT} {n m : Nat} {chs : List RT} (h : IsCh row step n m chs) : chs = chsR row step m := by
  refine List.ext_getElem (by rw [h.len, chsR_len]) fun i h1 h2 => ?_
  have e1 := h.ok i _ (List.getElem?_eq_getElem h1)
  have e2 := chsR_at (List.getElem?_eq_getElem h2)
  rw [e2.2]
  exact is_rdq e1.1.1 e1.2
theorem ch_all {row : List RT} {step : RT} {n : Nat} (L : LifeOk n row step) (m : Nat) : IsCh row step n m (chsR row step m) := by
  refine ⟨chsR_len, fun i x hx => ?_⟩
  obtain ⟨_, rfl⟩ := chsR_at hx
  obtain ⟨y, h1, h2⟩ := ch_ex L i
  rw [← is_rdq h1.1 h2]
  exact ⟨h1, h2⟩
theorem chsR_sm {row : List RT} {step : RT} {n m : Nat} (L : LifeOk n row step) (hm : m ≤ 70) : ∀ x ∈ chsR row step m, SmR 500 x := by
  intro x hx
  obtain ⟨i, hi⟩ := List.mem_iff_getElem?.mp hx
  have := (chsR_at hi).1
  have := L.n64
  exact ((ch_all L m).ok i x hi).1.mono (by omega)
theorem cut_sm {row : List RT} {step : RT} {n m : Nat} (L : LifeOk n row step) (hm : m ≤ 70) : ∀ x ∈ cutR row step m, SmR 1900 x := by
  intro x hx
  rcases List.mem_append.mp hx with z | z
  · exact (chsR_sm L hm x z).mono (by decide)
  · rw [List.mem_singleton.mp z]
    have I := ch_all L m
    have O := over_ch L.sm L.st.1 L.len L.n64 hm I
    have hs := tops_sum O.pos (xs := chsR row step m) fun y hy => ⟨(O.ok y hy).1, (O.ok y hy).2.1⟩
    have hb := tops_sm O.pos O.pos (Int.dvd_refl _) O.sm (xs := chsR row step m) fun y hy => ⟨(O.ok y hy).1, (O.ok y hy).2.2⟩
    rw [I.sum] at hs
    have hD := O.pos
    have sD := O.sm
    generalize prodB row * step.2 ^ m = D at hs hb hD sD
    generalize (topsOn D (chsR row step m)).sum = T at hs hb
    have sT : Sm 1800 T := by
      unfold Sm
      refine Nat.lt_of_le_of_lt hb ?_
      rw [chsR_len]
      have h64 := L.n64
      have e1 : m * 2 ^ (n + 350 + 1300) ≤ 70 * 2 ^ (64 + 350 + 1300) := Nat.mul_le_mul hm (Nat.pow_le_pow_right (by decide) (by omega))
      exact Nat.lt_of_le_of_lt e1 (by decide)
    have sN : Sm 1801 (D - T) := (sD.mono (show 1300 ≤ 1800 by decide)).sub sT
    have sy : SmR 1801 (low2 (D - T) D) := low2_sm hD sN (sD.mono (by decide))
    have e : low2 (D - T) D = rdq (1 - sumCh row step m) := by
      refine is_rdq sy.1 ?_
      rw [qv_low2 hD, ← hs, Rat.intCast_sub]
      have := cast_ne (Int.ne_of_gt hD)
      grind
    rw [← e]
    exact sy.mono (by decide)
/-- each one with noughts before it -/
def wideR (m : Nat) (row : List RT) : List RT := row.flatMap fun x => List.replicate m ((0 : Int), (1 : Int)) ++ [x]
theorem wide_snoc {m : Nat} {xs : List RT} {x : RT} : wideR m (xs ++ [x]) = wideR m xs ++ (List.replicate m (0, 1) ++ [x]) := by
  unfold wideR
  rw [List.flatMap_append]
  simp
theorem wide_mem {m : Nat} {row : List RT} {x : RT} (h : x ∈ wideR m row) : x = (0, 1) ∨ x ∈ row := by
  unfold wideR at h
  obtain ⟨y, h1, h2⟩ := List.mem_flatMap.mp h
  rcases List.mem_append.mp h2 with z | z
  · exact .inl (List.eq_of_mem_replicate z)
  · rw [List.mem_singleton.mp z]
    exact .inr h1
theorem wide_len {m : Nat} : ∀ {row : List RT}, (wideR m row).length = row.length * (m + 1)
  | [] => by
    show 0 = 0 * (m + 1)
    omega
  | x :: r => by
    show ((List.replicate m (0, 1) ++ [x]) ++ wideR m r).length = _
    rw [List.length_append, List.length_append, List.length_replicate, List.length_singleton, wide_len, List.length_cons, Nat.add_mul]
    omega
theorem take_snoc {α : Type} {xs : List α} {i : Nat} {x : α} (h : xs[i]? = some x) : xs.take (i + 1) = xs.take i ++ [x] := by
  rw [List.take_add_one, h]
  rfl
theorem nought_sm {n : Nat} (h : 1 ≤ n) : SmR n (0, 1) := SmR.mono (n := 1) ⟨⟨by decide, by decide⟩, by unfold Sm; decide, by unfold Sm; decide⟩ h
theorem nought_step {n : Nat} (h : 1 ≤ n) : StepOk n (0, 1) := ⟨nought_sm h, by decide, by decide⟩

end Fp

set_option Elab.async false
set_option linter.all false
set_option maxRecDepth 100000
set_option maxHeartbeats 4000000
set_option exponentiation.threshold 10000
namespace Fp
open PySem PySem.Spec PyProof.Rows L2
/-! ### chances of drawn lives are from nought to one -/
theorem div_01 {t b : Int} (h0 : 0 ≤ t) (hb : 0 < b) (h : t ≤ b) : (0 : Rat) ≤ (t : Rat) / (b : Rat) ∧ (t : Rat) / (b : Rat) ≤ 1 := by
  have hc : (0 : Rat) < (b : Rat) := Rat.intCast_pos.mpr hb
  have ht : (0 : Rat) ≤ (t : Rat) := Rat.intCast_nonneg.mpr h0
  have hl : (t : Rat) ≤ (b : Rat) := Rat.intCast_le_intCast.mpr h
  have hi : (0 : Rat) ≤ (b : Rat)⁻¹ := Rat.le_of_lt (Rat.inv_pos.mpr hc)
  rw [Rat.div_def]
  refine ⟨Rat.mul_nonneg ht hi, ?_⟩
  have := Rat.mul_le_mul_of_nonneg_right hl hi
  have e : (b : Rat) * (b : Rat)⁻¹ = 1 := Rat.mul_inv_cancel _ (Rat.ne_of_gt hc)
  rw [e] at this
  exact this
theorem mem_sum : ∀ {ws : List Int}, (∀ x ∈ ws, 0 ≤ x ∧ x ≤ 5) → ∀ y ∈ ws, y ≤ ws.sum
  | [], _, y, hy => by simp at hy
  | x :: r, h, y, hy => by
    have h1 := h x (List.mem_cons_self ..)
    have h2 := (sum_bound (ws := r) fun z hz => h z (List.mem_cons_of_mem _ hz)).1
    rw [List.sum_cons]
    rcases List.mem_cons.mp hy with z | z
    · omega
    · have := mem_sum (ws := r) (fun z hz => h z (List.mem_cons_of_mem _ hz)) y z
      omega
theorem mul_01 {p q : Rat} (hp : 0 ≤ p ∧ p ≤ 1) (hq : 0 ≤ q ∧ q ≤ 1) : 0 ≤ p * q ∧ p * q ≤ 1 := by
  refine ⟨Rat.mul_nonneg hp.1 hq.1, ?_⟩
  have := Rat.mul_le_mul_of_nonneg_right hp.2 hq.1
  have h2 := hq.2
  grind
theorem pow_01 {q : Rat} (hq : 0 ≤ q ∧ q ≤ 1) : ∀ k : Nat, 0 ≤ q ^ k ∧ q ^ k ≤ 1
  | 0 => by
    rw [Rat.pow_zero]
    exact ⟨by decide, Rat.le_refl⟩
  | k + 1 => by
    rw [Rat.pow_succ]
    exact mul_01 (pow_01 hq k) hq
theorem BaseLife.q01 {row : List RT} {step : RT} (h : BaseLife row step) : (∀ x ∈ row, 0 ≤ qv x ∧ qv x ≤ 1) ∧ 0 ≤ qv step ∧ qv step ≤ 1 := by
  have hs := h.sm
  refine ⟨fun x hx => ?_, div_01 hs.2.2.1 hs.2.1.1.1 (Int.le_of_lt hs.2.2.2)⟩
  rcases h with ⟨ws, extra, m, rfl⟩ | ⟨rfl, rfl⟩
  · obtain ⟨w0, _⟩ := m.whole
    unfold rowOf at hx
    obtain ⟨y, hy, rfl⟩ := List.mem_map.mp hx
    rw [qv_low2 w0]
    have h1 := (m.nn y hy).1
    have hd : 0 ≤ step.2 - step.1 := by
      have := hs.2.2.2
      omega
    refine div_01 (Int.mul_nonneg hd h1) w0 ?_
    have h2 := mem_sum m.nn y hy
    have h3 : (step.2 - step.1) * y ≤ (step.2 - step.1) * (ws.sum + extra) := Int.mul_le_mul_of_nonneg_left (by have := m.ex.1; omega) hd
    have h4 : 0 ≤ step.1 * lastW ws := Int.mul_nonneg hs.2.2.1 (Int.le_of_lt m.last)
    unfold wholeOf
    omega
  · simp at hx
theorem AnyLife.q01 {row : List RT} {step : RT} (h : AnyLife row step) : (∀ x ∈ row, 0 ≤ qv x ∧ qv x ≤ 1) ∧ 0 ≤ qv step ∧ qv step ≤ 1 := by
  rcases h with h | ⟨row0, l, h, h5, hs, hl, rfl⟩ | ⟨row0, h, h5, rfl, hs⟩
  · exact h.q01
  · obtain ⟨q1, q2⟩ := h.q01
    obtain ⟨s1, s2, _, _⟩ := h.sm
    refine ⟨fun x hx => ?_, q2⟩
    rcases List.mem_append.mp hx with z | z
    · exact q1 x z
    · rw [List.mem_singleton.mp z]
      have hm := List.mem_of_getElem? hl
      rw [(qv_rT (s1 l hm).1.1 s2.1).2]
      exact mul_01 (q1 l hm) q2
  · obtain ⟨q1, q2⟩ := h.q01
    refine ⟨fun x hx => ?_, ?_⟩
    · rcases List.mem_append.mp hx with z | z
      · exact q1 x z
      · rw [List.mem_singleton.mp z, qv_nought]
        exact ⟨Rat.le_refl, by decide⟩
    · rcases hs with rfl | rfl
      · exact div_01 (by decide) (by decide) (by decide)
      · exact div_01 (by decide) (by decide) (by decide)
theorem chR_01 {row : List RT} {step : RT} (h1 : ∀ x ∈ row, 0 ≤ qv x ∧ qv x ≤ 1) (h2 : 0 ≤ qv step ∧ qv step ≤ 1) (i : Nat) : 0 ≤ chR row step i ∧ chR row step i ≤ 1 := by
  match e : row[i]? with
  | some x =>
    rw [chR_in e]
    exact h1 x (List.mem_of_getElem? e)
  | none =>
    have hle : row.length ≤ i := List.getElem?_eq_none_iff.mp e
    match el : row.getLast? with
    | none =>
      rw [List.getLast?_eq_none_iff.mp el, chR_nil]
      exact ⟨Rat.le_refl, by decide⟩
    | some l =>
      rw [chR_out hle el]
      exact mul_01 (h1 l (List.mem_of_getLast? el)) (pow_01 h2 _)
theorem AnyLife.step4 {row : List RT} {step : RT} (h : AnyLife row step) : 0 < step.2 ∧ step.2 ≤ 4 := by
  have b : ∀ {row : List RT} {step : RT}, BaseLife row step → 0 < step.2 ∧ step.2 ≤ 4 := fun h => by
    rcases h with ⟨ws, extra, m, _⟩ | ⟨_, rfl⟩
    · rcases m.st with rfl | rfl | rfl | rfl | rfl <;> decide
    · decide
  rcases h with h | ⟨_, _, h, _⟩ | ⟨_, _, _, _, hs⟩
  · exact b h
  · exact b h
  · rcases hs with rfl | rfl <;> decide
theorem pow_four {x : Int} (h : 0 < x ∧ x ≤ 4) : ∀ k : Nat, 0 < x ^ k ∧ x ^ k ≤ 4 ^ k
  | 0 => by
    rw [Int.pow_zero, Int.pow_zero]
    decide
  | k + 1 => by
    obtain ⟨h1, h2⟩ := pow_four h k
    rw [Int.pow_succ, Int.pow_succ]
    exact ⟨Int.mul_pos h1 h.1, Int.mul_le_mul h2 h.2 (Int.le_of_lt h.1) (Int.le_of_lt (Int.lt_of_lt_of_le h1 h2))⟩
theorem AnyLife.ch01 {row : List RT} {step : RT} (h : AnyLife row step) : ∃ D : Int, Ch01 D (chR row step) 20 := by
  obtain ⟨W, hW⟩ := h.w
  obtain ⟨L, _, _⟩ := h.ok
  obtain ⟨q1, q2⟩ := h.q01
  have sm20 : Sm 41 (step.2 ^ 20) := by
    obtain ⟨z1, z2⟩ := pow_four h.step4 20
    have e : (4 : Int) ^ 20 = 1099511627776 := by decide
    have e2 : (2 : Nat) ^ 41 = 2199023255552 := by decide
    unfold Sm
    rw [e2]
    rw [e] at z2
    omega
  have hD : 0 < W * step.2 ^ 20 := Int.mul_pos hW.pos (Int.pow_pos L.st.1.1.1)
  refine ⟨W * step.2 ^ 20, hD, (hW.sm.mul (show Sm 41 (step.2 ^ 20) from sm20)).mono (by decide), fun k _ => (chR_01 q1 q2 k).1, fun k _ => (chR_01 q1 q2 k).2, fun k hk => ?_⟩
  obtain ⟨x, sx, vx⟩ := ch_ex L k
  rw [← vx]
  exact Den.of hD sx.1.1 (ch_dvdW hW.dvd L.sm L.st.1.1 sx.1 vx hk)

end Fp

set_option Elab.async false
set_option linter.all false
set_option maxRecDepth 100000
set_option maxHeartbeats 4000000
set_option exponentiation.threshold 10000
namespace Fp
open PySem PySem.Spec PyProof.Rows L2
/-! ### the law's own puts -/
abbrev N_lp : List Str := ["_law_life_here", "_law_most_here", "_law_some", "_law_n", "_law_here"]
def retScope (b : List Stmt) (d : Scope) : Scope := match b with
  | [_, .Return (some (.ListComp _ _ sc _)) _] => sc
  | _ => d
section
variable {P : Program} {w : World} {K : PySem.W.Frag} {mg : Str → Option Value} {base : Heap}
def spLmost : Sp := fun vs H Q _ => ∃ (d c : Addr) (t : Int), vs = [.ref d] ∧ Feed H d c t ∧ t ≤ 800000 ∧ ∀ (r : Nat) H', r ≤ 20 → Keep d H H' → Feed H' d c (t + 1 + 1) → Q (.int (r : Int)) H'
def spLputs (K : PySem.W.Frag) : Sp := fun vs H Q _ => ∃ (p : Addr) (row : List RT) (step : RT) (n most : Nat) (D : Int), vs = [.ref p, .int (most : Int)] ∧ LifeAt K H p row step ∧ LifeOk n row step ∧ (row = [] → step = (0, 1)) ∧ Ch01 D (chR row step) 20 ∧ most ≤ 20 ∧
  ∀ z H', Same H H' → LsM K H' z (mkL (most + 1) (putQ row step)) → Q (.ref z) H'
theorem mkL_succ {i : Nat} {g : Nat → Rat} : mkL (i + 1) g = mkL i g ++ [rdq (g i)] := by
  unfold mkL
  rw [List.range_succ, List.map_append]
  rfl
theorem mkL_sum {n : Nat} {g : Nat → Rat} : ((mkL n g).map qv).sum = sumTo n g := by
  induction n with
  | zero => rfl
  | succ n ih =>
    rw [mkL_succ, List.map_append, sumTo_succ, ← ih]
    simp only [List.map_cons, List.map_nil]
    rw [sum_snoc, qv_rdq]
end

end Fp

set_option Elab.async false
set_option linter.all false
set_option maxRecDepth 100000
set_option maxHeartbeats 4000000
set_option exponentiation.threshold 10000
namespace Fp
open PySem PySem.Spec PyProof.Rows L2
/-! ### what is told anew is what is told times the puts -/
theorem tri_swap (f : Nat → Nat → Rat) : ∀ n, sumTo n (fun k => sumTo (n - k) (f k)) = sumTo n fun j => sumTo (n - j) fun k => f k j := by
  have key : ∀ (g : Nat → Nat → Rat) (n : Nat), sumTo (n + 1) (fun k => sumTo (n + 1 - k) (g k)) = sumTo n (fun k => sumTo (n - k) (g k)) + sumTo (n + 1) fun k => g k (n - k) := by
    intro g n
    rw [sumTo_succ, sumTo_succ (f := fun k => g k (n - k))]
    have e1 : sumTo n (fun k => sumTo (n + 1 - k) (g k)) = sumTo n (fun k => sumTo (n - k) (g k)) + sumTo n fun k => g k (n - k) := by
      rw [← sumTo_add]
      refine sumTo_congr fun k hk => ?_
      rw [show n + 1 - k = (n - k) + 1 by omega, sumTo_succ]
    have e2 : sumTo (n + 1 - n) (g n) = g n (n - n) := by
      rw [show n + 1 - n = 0 + 1 by omega, sumTo_succ, sumTo_zero, Nat.sub_self]
      grind
    rw [e1, e2]
    grind
  intro n
  induction n with
  | zero => rfl
  | succ n ih =>
    rw [key f n, key (fun j k => f k j) n, ih]
    congr 1
    have := sumTo_rev (n + 1) fun k => f k (n - k)
    rw [← this]
    refine sumTo_congr fun k hk => ?_
    rw [show n - (n + 1 - 1 - k) = k by omega, show n + 1 - 1 - k = n - k by omega]
theorem conv (a b : Nat → Rat) : ∀ n, renQ a b n = sumTo (n + 1) fun k => b k * renQ a oneAt (n - k) := by
  intro n
  induction n using Nat.strongRecOn with
  | ind n ih =>
    have p0 : renQ a oneAt 0 = 1 := by
      rw [renQ_is, sumTo_zero]
      show (1 : Rat) + 0 = 1
      grind
    rw [renQ_is a b n, sumTo_succ, Nat.sub_self, p0]
    have e : sumTo n (fun k => b k * renQ a oneAt (n - k)) = sumTo n fun k => sumTo (n - k) fun j => a j * (b k * renQ a oneAt (n - k - 1 - j)) := by
      refine sumTo_congr fun k hk => ?_
      rw [renQ_is a oneAt (n - k)]
      have : oneAt (n - k) = 0 := if_neg (by omega)
      rw [this]
      have e2 : sumTo (n - k) (fun j => a j * (b k * renQ a oneAt (n - k - 1 - j))) = b k * sumTo (n - k) fun j => a j * renQ a oneAt (n - k - 1 - j) := by
        rw [sumTo_mul]
        refine sumTo_congr fun j _ => ?_
        grind
      rw [e2]
      grind
    rw [e, tri_swap fun k j => a j * (b k * renQ a oneAt (n - k - 1 - j))]
    have e3 : (sumTo n fun j => sumTo (n - j) fun k => a j * (b k * renQ a oneAt (n - k - 1 - j))) = sumTo n fun j => a j * renQ a b (n - 1 - j) := by
      refine sumTo_congr fun j hj => ?_
      rw [← sumTo_mul, ih (n - 1 - j) (by omega), show n - 1 - j + 1 = n - j by omega]
      congr 1
      refine sumTo_congr fun k hk => ?_
      rw [show n - 1 - j - k = n - k - 1 - j by omega]
    rw [e3]
    grind
/-- told one beat later -/
def laterF (c : Nat → Rat) : Nat → Rat
  | 0 => 0
  | k + 1 => c k
theorem conv_later (a c : Nat → Rat) (n : Nat) : renQ a (laterF c) n = sumTo n fun k => c k * renQ a oneAt (n - 1 - k) := by
  rw [conv, sumTo_head]
  have e : (sumTo n fun j => laterF c (j + 1) * renQ a oneAt (n - (j + 1))) = sumTo n fun k => c k * renQ a oneAt (n - 1 - k) := by
    refine sumTo_congr fun k hk => ?_
    rw [show n - (k + 1) = n - 1 - k by omega]
    rfl
  rw [e]
  show (0 : Rat) * _ + _ = _
  grind

end Fp

set_option Elab.async false
set_option linter.all false
set_option maxRecDepth 100000
set_option maxHeartbeats 4000000
set_option exponentiation.threshold 10000
namespace Fp
open PySem PySem.Spec PyProof.Rows L2
/-! ### puts behind a first -/
def afterQ (frow row : List RT) (fst step : RT) (n : Nat) : Rat := renQ (chR row step) (laterF (chR frow fst)) n
section
variable {P : Program} {w : World} {K : PySem.W.Frag} {mg : Str → Option Value} {base : Heap} {aN aO : Addr}
def spAfter (K : PySem.W.Frag) : Sp := fun vs H Q _ => ∃ (p f : Addr) (row frow : List RT) (step fst : RT) (n n2 most : Nat) (W W2 : Int), vs = [.ref f, .ref p, .int (most : Int)] ∧ LifeAt K H p row step ∧ LifeOk n row step ∧ WOk W row ∧ LifeAt K H f frow fst ∧ LifeOk n2 frow fst ∧ WOk W2 frow ∧ most ≤ 20 ∧
  ∀ z H', Same H H' → RowAt K H' z (mkL (most + 1) (afterQ frow row fst step)) → Q (.ref z) H'
end

end Fp

set_option Elab.async false
set_option linter.all false
set_option maxRecDepth 100000
set_option maxHeartbeats 4000000
set_option exponentiation.threshold 10000
namespace Fp
open PySem PySem.Spec PyProof.Rows L2
/-! ### how great puts are -/
/-- a whole number over P -/
def Ov (P : Int) (q : Rat) : Prop := ∃ T : Int, q = (T : Rat) / (P : Rat)
theorem Ov.red {P : Int} {q : Rat} {s k : Nat} (hP : 0 < P) (h : Ov P q) (sP : Sm s P) (h0 : 0 ≤ q) (h1 : q ≤ 2 ^ k) : (rdq q).2 ∣ P ∧ Sm (s + k + 1) (rdq q).1 ∧ Sm s (rdq q).2 := by
  obtain ⟨T, hT⟩ := h
  have hc := cast_ne (Int.ne_of_gt hP)
  obtain ⟨r1, r2⟩ := red_small (rdq_red q) hP (by rw [qv_rdq]; exact hT)
  refine ⟨r1, ?_, dvd_small r1 hP sP⟩
  have hcp : (0 : Rat) < (P : Rat) := Rat.intCast_pos.mpr hP
  have e1 : (T : Rat) = q * (P : Rat) := by
    rw [hT]
    grind
  have t0 : 0 ≤ T := by
    have := Rat.mul_nonneg h0 (Rat.le_of_lt hcp)
    rw [← e1] at this
    exact Rat.intCast_nonneg.mp this
  have t1 : T ≤ 2 ^ k * P := by
    have := Rat.mul_le_mul_of_nonneg_right h1 (Rat.le_of_lt hcp)
    rw [← e1] at this
    have e2 : (2 : Rat) ^ k * (P : Rat) = ((2 ^ k * P : Int) : Rat) := by
      rw [Rat.intCast_mul, cast_pow 2 k]
      rfl
    rw [e2] at this
    exact Rat.intCast_le_intCast.mp this
  unfold Sm at *
  have t2 : T.natAbs ≤ 2 ^ k * P.natAbs := by
    have : (2 ^ k * P : Int).natAbs = 2 ^ k * P.natAbs := by
      rw [Int.natAbs_mul, Int.natAbs_pow]
      rfl
    omega
  have t3 : 2 ^ k * P.natAbs ≤ 2 ^ k * 2 ^ s := Nat.mul_le_mul_left _ (Nat.le_of_lt sP)
  have t4 : 2 ^ (s + k + 1) = 2 * (2 ^ k * 2 ^ s) := by
    rw [Nat.pow_succ, Nat.pow_add, Nat.mul_comm, Nat.mul_comm (2 ^ s)]
  have t5 : 0 < 2 ^ k * 2 ^ s := Nat.mul_pos (Nat.pow_pos (by decide)) (Nat.pow_pos (by decide))
  omega
theorem Ov.zero {P : Int} : Ov P 0 := ⟨0, by
  show (0 : Rat) = ((0 : Int) : Rat) / _
  rw [show ((0 : Int) : Rat) = 0 from rfl]
  grind⟩
theorem Ov.add {P : Int} {p q : Rat} (hP : 0 < P) (hp : Ov P p) (hq : Ov P q) : Ov P (p + q) := by
  obtain ⟨T, rfl⟩ := hp
  obtain ⟨S, rfl⟩ := hq
  refine ⟨T + S, ?_⟩
  have h2 := cast_ne (Int.ne_of_gt hP)
  rw [Rat.intCast_add]
  grind
theorem Ov.sum {P : Int} (hP : 0 < P) {n : Nat} {g : Nat → Rat} (h : ∀ j, j < n → Ov P (g j)) : Ov P (sumTo n g) := by
  induction n with
  | zero => exact Ov.zero
  | succ n ih =>
    rw [sumTo_succ]
    exact (ih fun j hj => h j (by omega)).add hP (h n (by omega))
theorem Den.ov {D : Int} {e : Nat} {q : Rat} (h : Den D e q) : Ov (D ^ e) q := h
theorem Ov.mul {P R : Int} {p q : Rat} (hP : 0 < P) (hR : 0 < R) (hp : Ov P p) (hq : Ov R q) : Ov (P * R) (p * q) := by
  obtain ⟨T, rfl⟩ := hp
  obtain ⟨S, rfl⟩ := hq
  refine ⟨T * S, ?_⟩
  have h1 := cast_ne (Int.ne_of_gt hP)
  have h2 := cast_ne (Int.ne_of_gt hR)
  rw [Rat.intCast_mul, Rat.intCast_mul]
  grind
section
variable {D : Int} {a : Nat → Rat} {M : Nat}
/-- puts: from nought to a power of two, over a power of the one number -/
theorem Ch01.put (h : Ch01 D a M) : ∀ n, n ≤ M → 0 ≤ renQ a oneAt n ∧ renQ a oneAt n ≤ 2 ^ n ∧ Den D n (renQ a oneAt n) := by
  have pp : ∀ m : Nat, (0 : Rat) < 2 ^ m := fun m => Rat.pow_pos (by decide)
  intro n
  induction n using Nat.strongRecOn with
  | ind n ih =>
    intro hn
    cases n with
    | zero =>
      have e : renQ a oneAt 0 = 1 := by
        rw [renQ_is, sumTo_zero]
        show (1 : Rat) + 0 = 1
        grind
      rw [e, Rat.pow_zero]
      refine ⟨by decide, Rat.le_refl, 1, ?_⟩
      rw [Int.pow_zero]
      grind
    | succ n =>
      have e : renQ a oneAt (n + 1) = sumTo (n + 1) fun j => a j * renQ a oneAt (n + 1 - 1 - j) := by
        rw [renQ_is]
        show (0 : Rat) + _ = _
        grind
      rw [e]
      refine ⟨?_, ?_, Den.sum h.pos fun j hj => ?_⟩
      · have := sumTo_le (n := n + 1) (f := fun _ => 0) (g := fun j => a j * renQ a oneAt (n + 1 - 1 - j)) fun j hj => Rat.mul_nonneg (h.ge j (by omega)) (ih (n + 1 - 1 - j) (by omega) (by omega)).1
        rw [sumTo_nought] at this
        exact this
      · have h2 : sumTo (n + 1) (fun j => a j * renQ a oneAt (n + 1 - 1 - j)) ≤ sumTo (n + 1) fun j => (2 : Rat) ^ (n + 1 - 1 - j) := sumTo_le fun j hj => by
          obtain ⟨i1, i2, _⟩ := ih (n + 1 - 1 - j) (by omega) (by omega)
          have h3 := Rat.mul_le_mul_of_nonneg_right (h.le j (by omega)) i1
          grind
        rw [sumTo_rev (n + 1) fun k => (2 : Rat) ^ k, two_sum] at h2
        grind
      · have := (h.den j (by omega)).mul h.pos (ih (n + 1 - 1 - j) (by omega) (by omega)).2.2
        exact this.mono h.pos (by omega)
end
/-- behind a first: over the product, from nought to a power of two -/
theorem after_ok {D D2 : Int} {a c : Nat → Rat} (h : Ch01 D a 20) (h2 : Ch01 D2 c 20) {n : Nat} (hn : n ≤ 20) : 0 ≤ renQ a (laterF c) n ∧ renQ a (laterF c) n ≤ 2 ^ n ∧ Ov (D2 * D ^ 20) (renQ a (laterF c) n) := by
  rw [conv_later]
  have hP : (0 : Int) < D ^ 20 := Int.pow_pos h.pos
  refine ⟨?_, ?_, Ov.sum (Int.mul_pos h2.pos hP) fun j hj => ?_⟩
  · have := sumTo_le (n := n) (f := fun _ => 0) (g := fun k => c k * renQ a oneAt (n - 1 - k)) fun j hj => Rat.mul_nonneg (h2.ge j (by omega)) (h.put (n - 1 - j) (by omega)).1
    rw [sumTo_nought] at this
    exact this
  · have h3 : sumTo n (fun k => c k * renQ a oneAt (n - 1 - k)) ≤ sumTo n fun j => (2 : Rat) ^ (n - 1 - j) := sumTo_le fun j hj => by
      obtain ⟨i1, i2, _⟩ := h.put (n - 1 - j) (by omega)
      have h4 := Rat.mul_le_mul_of_nonneg_right (h2.le j (by omega)) i1
      grind
    rw [sumTo_rev n fun k => (2 : Rat) ^ k, two_sum] at h3
    grind
  · have e1 := (h2.den j (by omega)).ov
    rw [Int.pow_succ, Int.pow_zero, Int.one_mul] at e1
    exact e1.mul h2.pos hP ((h.put (n - 1 - j) (by omega)).2.2.mono h.pos (show n - 1 - j ≤ 20 by omega)).ov
theorem cutV_from1 (vs : List V) : cutV vs (some 1) none = vs.drop 1 := by
  unfold cutV
  rw [HT.sIx_none, show (1 : Int) = ((1 : Nat) : Int) from rfl, HT.sIx_nat]
  rcases (by omega : 1 ≤ vs.length ∨ vs.length = 0) with z | z
  · rw [Nat.min_eq_left z, List.take_of_length_le (by rw [List.length_drop]; exact Nat.le_refl _)]
  · rw [List.length_eq_zero_iff.mp z]
    rfl

end Fp

set_option Elab.async false
set_option linter.all false
set_option maxRecDepth 100000
set_option maxHeartbeats 4000000
set_option exponentiation.threshold 10000
namespace Fp
open PySem PySem.Spec PyProof.Rows L2
/-! ### values with their size -/
/-- a whole number over P, within the k-th power of two -/
structure Sz (P : Int) (k : Nat) (q : Rat) : Prop where
  ov : Ov P q
  lo : -((2 : Rat) ^ k) ≤ q
  hi : q ≤ (2 : Rat) ^ k
theorem two_pos (k : Nat) : (0 : Rat) < (2 : Rat) ^ k := Rat.pow_pos (by decide)
theorem Sz.pos {P : Int} {k : Nat} {q : Rat} (h : Ov P q) (h0 : 0 ≤ q) (h1 : q ≤ (2 : Rat) ^ k) : Sz P k q := ⟨h, by have := two_pos k; grind, h1⟩
theorem Sz.mono {P : Int} {k j : Nat} {q : Rat} (h : Sz P k q) (l : k ≤ j) : Sz P j q := by
  have e := pow2_le l
  have h1 := h.lo
  have h2 := h.hi
  exact ⟨h.ov, by grind, by grind⟩
theorem Sz.neg {P : Int} {k : Nat} {q : Rat} (h : Sz P k q) : Sz P k (-q) := by
  obtain ⟨⟨T, hT⟩, h1, h2⟩ := h
  refine ⟨⟨-T, ?_⟩, by grind, by grind⟩
  rw [hT, Rat.intCast_neg]
  grind
theorem Sz.add {P : Int} {k : Nat} {p q : Rat} (hP : 0 < P) (h1 : Sz P k p) (h2 : Sz P k q) : Sz P (k + 1) (p + q) := by
  have a1 := h1.lo
  have a2 := h1.hi
  have b1 := h2.lo
  have b2 := h2.hi
  refine ⟨h1.ov.add hP h2.ov, ?_, ?_⟩ <;> (rw [Rat.pow_succ]; grind)
theorem Sz.mul {P R : Int} {k j : Nat} {p q : Rat} (hP : 0 < P) (hR : 0 < R) (h1 : Sz P k p) (h2 : Sz R j q) : Sz (P * R) (k + j) (p * q) := by
  have a1 : 0 ≤ (2 : Rat) ^ k + p := by have := h1.lo; grind
  have a2 : 0 ≤ (2 : Rat) ^ k - p := by have := h1.hi; grind
  have b1 : 0 ≤ (2 : Rat) ^ j + q := by have := h2.lo; grind
  have b2 : 0 ≤ (2 : Rat) ^ j - q := by have := h2.hi; grind
  have x1 := Rat.mul_nonneg a1 b1
  have x2 := Rat.mul_nonneg a1 b2
  have x3 := Rat.mul_nonneg a2 b1
  have x4 := Rat.mul_nonneg a2 b2
  refine ⟨h1.ov.mul hP hR h2.ov, ?_, ?_⟩ <;> (rw [pow_plus]; grind)
theorem Ov.dvd {P R : Int} {q : Rat} (h : Ov P q) (hP : 0 < P) (hR : 0 < R) (d : P ∣ R) : Ov R q := by
  obtain ⟨T, rfl⟩ := h
  obtain ⟨u, rfl⟩ := d
  refine ⟨T * u, ?_⟩
  have h1 := cast_ne (Int.ne_of_gt hP)
  have h2 := cast_ne (Int.ne_of_gt hR)
  rw [Rat.intCast_mul] at h2
  rw [Rat.intCast_mul, Rat.intCast_mul]
  grind
theorem Sz.dvd {P R : Int} {k : Nat} {q : Rat} (h : Sz P k q) (hP : 0 < P) (hR : 0 < R) (d : P ∣ R) : Sz R k q := ⟨h.ov.dvd hP hR d, h.lo, h.hi⟩
theorem Sz.sum {P : Int} {k n : Nat} {g : Nat → Rat} (hP : 0 < P) (h : ∀ j, j < n → Sz P k (g j)) (hn : n ≤ 128) : Sz P (k + 7) (sumTo n g) := by
  have key : ∀ m : Nat, m ≤ n → -(((m : Int) : Rat) * (2 : Rat) ^ k) ≤ sumTo m g ∧ sumTo m g ≤ ((m : Int) : Rat) * (2 : Rat) ^ k := by
    intro m
    induction m with
    | zero =>
      intro _
      rw [sumTo_zero, show (((0 : Nat) : Int) : Rat) = 0 from rfl]
      constructor <;> grind
    | succ m ih =>
      intro hm
      obtain ⟨i1, i2⟩ := ih (by omega)
      have z := h m (by omega)
      have z1 := z.lo
      have z2 := z.hi
      rw [sumTo_succ, show ((m + 1 : Nat) : Int) = (m : Int) + 1 by omega, Rat.intCast_add]
      rw [show ((1 : Int) : Rat) = 1 from rfl]
      constructor <;> grind
  obtain ⟨k1, k2⟩ := key n (Nat.le_refl _)
  have e : ((n : Int) : Rat) * (2 : Rat) ^ k ≤ (2 : Rat) ^ (k + 7) := by
    rw [pow_plus]
    have l : ((n : Int) : Rat) ≤ ((128 : Int) : Rat) := Rat.intCast_le_intCast.mpr (by omega)
    have := Rat.mul_le_mul_of_nonneg_right l (Rat.le_of_lt (two_pos k))
    have e2 : (2 : Rat) ^ 7 = ((128 : Int) : Rat) := by decide +kernel
    rw [e2]
    grind
  exact ⟨Ov.sum hP fun j hj => (h j hj).ov, by grind, by grind⟩
theorem Sz.red {P : Int} {q : Rat} {s k : Nat} (h : Sz P k q) (hP : 0 < P) (sP : Sm s P) : (rdq q).2 ∣ P ∧ Sm (s + k + 1) (rdq q).1 ∧ Sm s (rdq q).2 := by
  obtain ⟨⟨T, hT⟩, h0, h1⟩ := h
  have hc := cast_ne (Int.ne_of_gt hP)
  obtain ⟨r1, r2⟩ := red_small (rdq_red q) hP (by rw [qv_rdq]; exact hT)
  refine ⟨r1, ?_, dvd_small r1 hP sP⟩
  have hcp : (0 : Rat) < (P : Rat) := Rat.intCast_pos.mpr hP
  have e1 : (T : Rat) = q * (P : Rat) := by
    rw [hT]
    grind
  have e2 : (2 : Rat) ^ k * (P : Rat) = ((2 ^ k * P : Int) : Rat) := by
    rw [Rat.intCast_mul, cast_pow 2 k]
    rfl
  have t1 : T ≤ 2 ^ k * P := by
    have := Rat.mul_le_mul_of_nonneg_right h1 (Rat.le_of_lt hcp)
    rw [← e1, e2] at this
    exact Rat.intCast_le_intCast.mp this
  have t0 : -(2 ^ k * P) ≤ T := by
    have := Rat.mul_le_mul_of_nonneg_right h0 (Rat.le_of_lt hcp)
    rw [← e1] at this
    refine Rat.intCast_le_intCast.mp ?_
    rw [Rat.intCast_neg, ← e2]
    grind
  unfold Sm at *
  have t2 : T.natAbs ≤ 2 ^ k * P.natAbs := by
    have : (2 ^ k * P : Int).natAbs = 2 ^ k * P.natAbs := by
      rw [Int.natAbs_mul, Int.natAbs_pow]
      rfl
    omega
  have t3 : 2 ^ k * P.natAbs ≤ 2 ^ k * 2 ^ s := Nat.mul_le_mul_left _ (Nat.le_of_lt sP)
  have t4 : 2 ^ (s + k + 1) = 2 * (2 ^ k * 2 ^ s) := by
    rw [Nat.pow_succ, Nat.pow_add, Nat.mul_comm, Nat.mul_comm (2 ^ s)]
  have t5 : 0 < 2 ^ k * 2 ^ s := Nat.mul_pos (Nat.pow_pos (by decide)) (Nat.pow_pos (by decide))
  omega
theorem Sz.smr {P : Int} {q : Rat} {s k n : Nat} (h : Sz P k q) (hP : 0 < P) (sP : Sm s P) (hn : s + k + 1 ≤ n) : SmR n (rdq q) := by
  obtain ⟨_, h2, h3⟩ := h.red hP sP
  exact ⟨rdq_red _, h2.mono hn, h3.mono (by omega)⟩
/-- a put: its size -/
theorem Ch01.putSz {D : Int} {a : Nat → Rat} {M : Nat} (h : Ch01 D a M) {n e : Nat} (hn : n ≤ M) (he : n ≤ e) : Sz (D ^ e) n (renQ a oneAt n) := by
  obtain ⟨x1, x2, x3⟩ := h.put n hn
  exact Sz.pos (x3.mono h.pos he).ov x1 x2
theorem Ch01.chSz {D : Int} {a : Nat → Rat} {M : Nat} (h : Ch01 D a M) {n : Nat} (hn : n < M) : Sz D 0 (a n) := by
  refine Sz.pos ?_ (h.ge n hn) (by rw [Rat.pow_zero]; exact h.le n hn)
  have := (h.den n hn).ov
  rw [Int.pow_succ, Int.pow_zero, Int.one_mul] at this
  exact this
theorem Ch01.powSm {D : Int} {a : Nat → Rat} {M : Nat} (h : Ch01 D a M) (e : Nat) : 0 < D ^ e ∧ Sm (60 * e + 1) (D ^ e) := ⟨Int.pow_pos h.pos, sm_pow h.sm (by decide) e⟩
theorem Sz.nought {P : Int} {k : Nat} : Sz P k 0 := ⟨Ov.zero, by have := two_pos k; grind, by have := two_pos k; grind⟩
theorem Sz.one {k : Nat} {P : Int} (hP : 0 < P) : Sz P k 1 := by
  refine ⟨⟨P, ?_⟩, ?_, ?_⟩
  · have := cast_ne (Int.ne_of_gt hP)
    grind
  · have := two_pos k
    grind
  · have := pow2_le (Nat.zero_le k)
    rw [Rat.pow_zero] at this
    exact this
/-! ### lists told by value -/
theorem mem_mkL {n : Nat} {f : Nat → Rat} {x : RT} (h : x ∈ mkL n f) : ∃ j, j < n ∧ x = rdq (f j) := by
  obtain ⟨j, hj⟩ := List.mem_iff_getElem?.mp h
  have hj2 := (List.getElem?_eq_some_iff.mp hj).1
  rw [mkL_len] at hj2
  rw [mkL_at hj2] at hj
  exact ⟨j, hj2, (Option.some.inj hj).symm⟩
theorem over_mkL {P : Int} {n s k : Nat} {f : Nat → Rat} (hP : 0 < P) (sP : Sm s P) (z : ∀ j, j < n → Sz P k (f j)) (hn : n ≤ 1000) : Over1 (s + k + 1) s P (mkL n f) := by
  refine ⟨hP, sP, fun x hx => ?_, by rw [mkL_len]; exact hn⟩
  obtain ⟨j, hj, rfl⟩ := mem_mkL hx
  obtain ⟨h1, h2, h3⟩ := (z j hj).red hP sP
  exact ⟨(rdq_red _).1, h1, h2⟩
section
variable {K : PySem.W.Frag} {H : Hp} {Q : VK}
theorem tnil_go {σ : L2.St} {R : List V → Hp → Prop} (h : R [] H) : tNil σ H R := h
theorem lsum_go {p : Addr} {P : Int} {n s k : Nat} {f : Nat → Rat} (h : LsM K H p (mkL n f)) (hP : 0 < P) (sP : Sm s P) (z : ∀ j, j < n → Sz P k (f j)) (hn : n ≤ 1000) (hs : s ≤ 2500) (hk : k ≤ 900)
    (q : ∀ r H', Same H H' → RAt K H' r (rdq (sumTo n f)) → Q (.ref r) H') : spLsum K LstAt [.ref p] H Q E0 := by
  obtain ⟨rs, h1, h2⟩ := h
  refine ⟨p, _, _, _, P, rfl, ⟨rs, SqL.of h1, h2⟩, over_mkL hP sP z hn, by omega, by omega, fun y x HF sF hy rx vx _ _ => ?_⟩
  have ex : x = rdq (sumTo n f) := is_rdq rx (by rw [vx, mkL_sum])
  rw [ex] at hy
  exact q y HF sF hy
theorem lsumT_go {p : Addr} {P : Int} {n s k : Nat} {f : Nat → Rat} (h : RowAt K H p (mkL n f)) (hP : 0 < P) (sP : Sm s P) (z : ∀ j, j < n → Sz P k (f j)) (hn : n ≤ 1000) (hs : s ≤ 2500) (hk : k ≤ 900)
    (q : ∀ r H', Same H H' → RAt K H' r (rdq (sumTo n f)) → Q (.ref r) H') : spLsum K RowAt [.ref p] H Q E0 := by
  refine ⟨p, _, _, _, P, rfl, h, over_mkL hP sP z hn, by omega, by omega, fun y x HF sF hy rx vx _ _ => ?_⟩
  have ex : x = rdq (sumTo n f) := is_rdq rx (by rw [vx, mkL_sum])
  rw [ex] at hy
  exact q y HF sF hy
theorem times_go {p1 p2 : Addr} {x y : Rat} (h1 : RAt K H p1 (rdq x)) (h2 : RAt K H p2 (rdq y)) (s1 : SmR 3000 (rdq x)) (s2 : SmR 3000 (rdq y)) (q : ∀ r H', Same H H' → RAt K H' r (rdq (x * y)) → Q (.ref r) H') : spTwo K (fun a b c d => a * c) [.ref p1, .ref p2] H Q E0 := by
  refine ⟨p1, p2, _, _, _, _, rfl, ⟨h1, h2, s1.2.1, s1.2.2, s2.2.1, s2.2.2, s1.1.1, s2.1.1⟩, fun b nb => ?_⟩
  have e := same_new (o := HO.tup [.int (rT (rdq x) (rdq y)).1, .int (rT (rdq x) (rdq y)).2]) nb
  obtain ⟨y1, y2⟩ := qv_rT s1.1 s2.1
  have ep : rT (rdq x) (rdq y) = rdq (x * y) := is_rdq y1 (by rw [y2, qv_rdq, qv_rdq])
  refine q b _ e ?_
  rw [← ep]
  exact SqT.of upd_same
/-- a tuple of a list -/
theorem RowAt.of_ls {p b : Addr} {xs : List RT} {rs : List Addr} (h1 : H p = some (.lst (rs.map V.ref))) (h2 : RsAt K H rs xs) (nb : H b = none) : RowAt K (upd H b (.tup (rs.map V.ref))) b xs := ⟨rs, SqT.of upd_same, h2.tk (Tk.same (same_new nb))⟩
/-- a wish of an object alone -/
@[reducible] def refQ (Qd : Addr → Hp → Prop) : VK := fun v H2 => match v with
  | .ref D => Qd D H2
  | _ => False
/-- a comprehension each turn of which gives a ratio told by its value -/
theorem lc_mkW {J : It} {n : Nat} {G : Hp → Prop} {Y : Nat → Hp → V → Hp → Prop} (w : Walk J n G Y) {g : TG} {te : TE} {vs : List Nat} {σ : L2.St} {H1 : Hp} (f : Nat → Rat) (hn : n ≤ 900) (hG : ∀ HE, Same H1 HE → G HE)
    (hs : ∀ (k : Nat) (x : V) (HE HE' : Hp) (R : VK), k < n → Same H1 HE → Y k HE x HE' → (∀ r HF, Same HE HF → RAt K HF r (rdq (f k)) → R (.ref r) HF) → g x (wipe σ vs) HE' fun σ2 H2 => wipe σ2 vs = wipe σ vs ∧ te σ2 H2 R)
    {Qd : Addr → Hp → Prop} (hd : ∀ D H2, Same H1 H2 → LsM K H2 D (mkL n f) → Qd D H2) : tLc (fun _ H2 R => R J H2) g tYes te vs σ H1 (refQ Qd) := by
  intro D nD
  have e1 := same_new (o := HO.lst []) nD
  refine lc_it w (fun k HE => ∃ qs : List Addr, Same H1 HE ∧ HE D = some (.lst (qs.map V.ref)) ∧ RsAt K HE qs (mkL k f)) ⟨[], e1, upd_same, .nil⟩ ?_ ?_ ?_
  · rintro i HE _ ⟨_, sE, _⟩
    exact hG HE sE
  · rintro k x HE HE' hk ⟨qs, sE, hE, hqs⟩ hY
    have hql := hqs.length
    rw [mkL_len] at hql
    refine hs k x HE HE' _ hk sE hY fun r HF sF hr => ?_
    have hE5 := sF _ _ hE
    refine ⟨_, hE5, by rw [List.length_map, hql]; exact small1000 (by omega), qs ++ [r], ?_, ?_, ?_⟩
    · intro b2 o hb2
      rw [upd_ne (ne_of_none hb2 nD)]
      exact (sE.trans sF) _ _ hb2
    · rw [upd_same, List.map_append]
      rfl
    · rw [mkL_succ]
      exact ((hqs.tk (Tk.same sF)).append (.cons hr .nil)).tk (tk_lst hE5)
  · rintro HE ⟨qs, sE, hE, hqs⟩
    exact hd D HE sE ⟨qs, hE, hqs⟩
theorem lc_mk {lo : Int} {n : Nat} {g : TG} {te : TE} {vs : List Nat} {σ : L2.St} {H1 : Hp} (f : Nat → Rat) (hn : n ≤ 900)
    (hs : ∀ (k : Nat) (HE : Hp) (R : VK), k < n → Same H1 HE → (∀ r HF, Same HE HF → RAt K HF r (rdq (f k)) → R (.ref r) HF) → g (.int (lo + k)) (wipe σ vs) HE fun σ2 H2 => wipe σ2 vs = wipe σ vs ∧ te σ2 H2 R)
    {Qd : Addr → Hp → Prop} (hd : ∀ D H2, Same H1 H2 → LsM K H2 D (mkL n f) → Qd D H2) : tLc (fun _ H2 R => R (Itr lo n) H2) g tYes te vs σ H1 (refQ Qd) := by
  refine lc_mkW walk_range f hn (fun _ _ => trivial) (fun k x HE HE' R hk sE hY q => ?_) hd
  obtain ⟨rfl, rfl⟩ := hY
  exact hs k _ R hk sE q
end

end Fp

set_option Elab.async false
set_option linter.all false
set_option maxRecDepth 100000
set_option maxHeartbeats 4000000
set_option exponentiation.threshold 10000
namespace Fp
open PySem PySem.Spec PyProof.Rows L2
/-! ### lists of ratios: parts, joined, cut -/
section
variable {K : PySem.W.Frag} {H H' : Hp}
theorem LsM.keep {d c p : Addr} {t : Int} {xs : List RT} (h : LsM K H p xs) (f : Feed H d c t) (k : Keep d H H') : LsM K H' p xs := by
  obtain ⟨rs, h1, h2⟩ := h
  exact ⟨rs, keep_at f k h1 (by intro _ z; cases z), h2.tk (Tk.keep f k)⟩
theorem LsM.ix {p : Addr} {xs : List RT} {m : Nat} {x : RT} {k : Int} {Q : VK} (h : LsM K H p xs) (hk : k = (m : Int)) (hm : xs[m]? = some x) (q : ∀ r, RAt K H r x → Q (.ref r) H) : rIxL K (.ref p) (.int k) H Q := by
  obtain ⟨rs, h1, h2⟩ := h
  obtain ⟨r, e1, e2⟩ := h2.get hm
  have g2 : (rs.map V.ref)[m]? = some (.ref r) := by
    rw [List.getElem?_map, e1]
    rfl
  exact ⟨p, _, _, _, rfl, rfl, SqL.of h1, at_of hk g2, q r e2⟩
/-- [x] * k -/
theorem rep_ls {p a : Addr} {x : RT} {k : Nat} {Q : VK} (h : H p = some (.lst [.ref a])) (ha : RAt K H a x) (hk : k ≤ 900) (q : ∀ r H', Same H H' → LsM K H' r (List.replicate k x) → Q (.ref r) H') : rRep (.ref p) (.int (k : Int)) H Q := by
  refine ⟨p, _, _, rfl, rfl, h, by omega, by omega, ?_, fun b nb => ?_⟩
  · rw [Int.toNat_natCast]
    show 1 * k ≤ sizeLine
    exact Nat.le_trans (show 1 * k ≤ 1000 by omega) (by decide)
  have ef : (List.replicate (k : Int).toNat [V.ref a]).flatten = (List.replicate k a).map V.ref := by
    rw [flat_rep, List.map_replicate, Int.toNat_natCast]
  rw [ef] at *
  have e := same_new (o := HO.lst ((List.replicate k a).map V.ref)) nb
  exact q b _ e ⟨_, upd_same, RsAt.rep (ha.tk (Tk.same e)) k⟩
theorem cat_ls {p r : Addr} {xs ys : List RT} {Q : VK} (h1 : LsM K H p xs) (h2 : LsM K H r ys) (hl : xs.length + ys.length ≤ 900) (q : ∀ b H', Same H H' → LsM K H' b (xs ++ ys) → Q (.ref b) H') : rCat (.ref p) (.ref r) H Q := by
  obtain ⟨as, a1, a2⟩ := h1
  obtain ⟨bs, b1, b2⟩ := h2
  have la := a2.length
  have lb := b2.length
  refine ⟨p, r, _, _, rfl, rfl, a1, b1, ?_, fun b nb => ?_⟩
  · rw [List.length_map, List.length_map, sizeLine_eq]
    omega
  have e := same_new (o := HO.lst (as.map V.ref ++ bs.map V.ref)) nb
  refine q b _ e ⟨as ++ bs, ?_, (a2.append b2).tk (Tk.same e)⟩
  rw [upd_same, List.map_append]
/-- xs[:n] of a list -/
theorem take_ls {p : Addr} {xs : List RT} {n : Nat} {Q : VK} (h : LsM K H p xs) (q : ∀ b H', Same H H' → LsM K H' b (xs.take n) → Q (.ref b) H') : rSlL K (.ref p) none (some (n : Int)) H Q := by
  obtain ⟨as, a1, a2⟩ := h
  refine ⟨p, _, rfl, SqL.of a1, fun b nb => ?_⟩
  rw [cutV_take]
  have e := same_new (o := HO.lst ((as.map V.ref).take n)) nb
  refine q b _ e ⟨as.take n, ?_, (a2.take n).tk (Tk.same e)⟩
  rw [upd_same, List.map_take]
/-- the same, and that it is new -/
theorem rep_ls2 {p a : Addr} {x : RT} {k : Nat} {Q : VK} (h : H p = some (.lst [.ref a])) (ha : RAt K H a x) (hk : k ≤ 900) (q : ∀ r H', Same H H' → H r = none → LsM K H' r (List.replicate k x) → Q (.ref r) H') : rRep (.ref p) (.int (k : Int)) H Q := by
  refine ⟨p, _, _, rfl, rfl, h, by omega, by omega, ?_, fun b nb => ?_⟩
  · rw [Int.toNat_natCast]
    show 1 * k ≤ sizeLine
    exact Nat.le_trans (show 1 * k ≤ 1000 by omega) (by decide)
  have ef : (List.replicate (k : Int).toNat [V.ref a]).flatten = (List.replicate k a).map V.ref := by
    rw [flat_rep, List.map_replicate, Int.toNat_natCast]
  rw [ef] at *
  have e := same_new (o := HO.lst ((List.replicate k a).map V.ref)) nb
  exact q b _ e nb ⟨_, upd_same, RsAt.rep (ha.tk (Tk.same e)) k⟩
/-- appending to a list that stands beside others -/
theorem LsM.push {p r : Addr} {xs : List RT} {x : RT} {rs : List Addr} (h1 : H p = some (.lst (rs.map V.ref))) (h2 : RsAt K H rs xs) (hr : RAt K H r x) : LsM K (upd H p (.lst (rs.map V.ref ++ [.ref r]))) p (xs ++ [x]) := by
  refine ⟨rs ++ [r], ?_, (h2.append (.cons hr .nil)).tk (tk_lst h1)⟩
  rw [upd_same, List.map_append]
  rfl
end
section
variable {K : PySem.W.Frag} {H : Hp}
theorem set_ls {p r : Addr} {xs : List RT} {x : RT} {m : Nat} {k : Int} {Q : Hp → Prop} (h : LsM K H p xs) (hr : RAt K H r x) (hk : k = (m : Int)) (hm : m < xs.length) (q : ∀ H', Tk K H H' → (∀ b, b ≠ p → H' b = H b) → LsM K H' p (xs.set m x) → Q H') : rSetL (.ref p) (.int k) (.ref r) H Q := by
  obtain ⟨rs, h1, h2⟩ := h
  have hl := h2.length
  refine ⟨p, _, _, m, rfl, rfl, h1, ?_, ?_⟩
  · subst hk
    unfold ixN
    rw [List.length_map, hl, if_pos (by omega), if_pos (by omega)]
    congr 1
  · refine q _ (tk_lst h1) (fun b hb => upd_ne hb) ⟨rs.set m r, ?_, (RsAt.set hr m h2).tk (tk_lst h1)⟩
    rw [upd_same, List.map_set]
end

end Fp

set_option Elab.async false
set_option linter.all false
set_option maxRecDepth 100000
set_option maxHeartbeats 4000000
set_option exponentiation.threshold 10000
namespace Fp
open PySem PySem.Spec PyProof.Rows L2
/-! ### lists of objects of one sort -/
def Obs {α : Type} (At : Hp → Addr → α → Prop) (H : Hp) (rs : List Addr) (ys : List α) : Prop := rs.length = ys.length ∧ ∀ (i : Nat) (r : Addr) (y : α), rs[i]? = some r → ys[i]? = some y → At H r y
/-- a sort of object that stands while tuples stand -/
def Stays {α : Type} (K : PySem.W.Frag) (At : Hp → Addr → α → Prop) : Prop := ∀ H H' r y, Tk K H H' → At H r y → At H' r y
section
variable {α : Type} {At : Hp → Addr → α → Prop} {K : PySem.W.Frag} {H H' : Hp}
theorem Obs.nil : Obs At H [] [] := ⟨rfl, fun i r y h => by simp at h⟩
theorem Obs.tk {rs : List Addr} {ys : List α} (st : Stays K At) (h : Obs At H rs ys) (e : Tk K H H') : Obs At H' rs ys := ⟨h.1, fun i r y h1 h2 => st _ _ _ _ e (h.2 i r y h1 h2)⟩
theorem Obs.append {rs qs : List Addr} {ys zs : List α} (h : Obs At H rs ys) (g : Obs At H qs zs) : Obs At H (rs ++ qs) (ys ++ zs) := by
  refine ⟨by rw [List.length_append, List.length_append, h.1, g.1], fun i r y h1 h2 => ?_⟩
  rcases Nat.lt_or_ge i rs.length with z | z
  · rw [List.getElem?_append_left z] at h1
    rw [List.getElem?_append_left (by rw [← h.1]; exact z)] at h2
    exact h.2 i r y h1 h2
  · rw [List.getElem?_append_right z] at h1
    rw [List.getElem?_append_right (by rw [← h.1]; exact z), ← h.1] at h2
    exact g.2 _ r y h1 h2
theorem Obs.one {r : Addr} {y : α} (h : At H r y) : Obs At H [r] [y] := by
  refine ⟨rfl, fun i q z h1 h2 => ?_⟩
  match i, h1, h2 with
  | 0, h1, h2 =>
    cases Option.some.inj h1
    cases Option.some.inj h2
    exact h
theorem Obs.get {rs : List Addr} {ys : List α} {i : Nat} {y : α} (h : Obs At H rs ys) (e : ys[i]? = some y) : ∃ r, rs[i]? = some r ∧ At H r y := by
  have hi := (List.getElem?_eq_some_iff.mp e).1
  rw [← h.1] at hi
  exact ⟨rs[i], List.getElem?_eq_getElem hi, h.2 i _ y (List.getElem?_eq_getElem hi) e⟩
/-- a list that may be changed, of such objects -/
def OLs (At : Hp → Addr → α → Prop) (H : Hp) (p : Addr) (ys : List α) : Prop := ∃ rs : List Addr, H p = some (.lst (rs.map V.ref)) ∧ Obs At H rs ys
theorem OLs.same {p : Addr} {ys : List α} (st : Stays K At) (h : OLs At H p ys) (e : Same H H') : OLs At H' p ys := by
  obtain ⟨rs, h1, h2⟩ := h
  exact ⟨rs, e _ _ h1, h2.tk st (Tk.same e)⟩
/-- a comprehension each turn of which gives such an object -/
theorem lc_obsW (st : Stays K At) {J : It} {n : Nat} {G : Hp → Prop} {Y : Nat → Hp → V → Hp → Prop} (w : Walk J n G Y) {g : TG} {te : TE} {vs : List Nat} {σ : L2.St} {H1 : Hp} (f : List α) (hf : f.length = n) (hn : n ≤ 900) (hG : ∀ HE, Same H1 HE → G HE)
    (hs : ∀ (k : Nat) (y : α) (x : V) (HE HE' : Hp) (R : VK), f[k]? = some y → Same H1 HE → Y k HE x HE' → (∀ r HF, Same HE HF → At HF r y → R (.ref r) HF) → g x (wipe σ vs) HE' fun σ2 H2 => wipe σ2 vs = wipe σ vs ∧ te σ2 H2 R)
    {Qd : Addr → Hp → Prop} (hd : ∀ D H2, Same H1 H2 → OLs At H2 D f → Qd D H2) : tLc (fun _ H2 R => R J H2) g tYes te vs σ H1 (refQ Qd) := by
  intro D nD
  have e1 := same_new (o := HO.lst []) nD
  refine lc_it w (fun k HE => ∃ qs : List Addr, Same H1 HE ∧ HE D = some (.lst (qs.map V.ref)) ∧ Obs At HE qs (f.take k)) ⟨[], e1, upd_same, Obs.nil⟩ ?_ ?_ ?_
  · rintro i HE _ ⟨_, sE, _⟩
    exact hG HE sE
  · rintro k x HE HE' hk ⟨qs, sE, hE, hqs⟩ hY
    have hql := hqs.1
    rw [List.length_take] at hql
    obtain ⟨y, hy⟩ : ∃ y, f[k]? = some y := ⟨f[k], List.getElem?_eq_getElem (by omega)⟩
    refine hs k y x HE HE' _ hy sE hY fun r HF sF hr => ?_
    have hE5 := sF _ _ hE
    refine ⟨_, hE5, by rw [List.length_map, hql]; exact small1000 (by omega), qs ++ [r], ?_, ?_, ?_⟩
    · intro b2 o hb2
      rw [upd_ne (ne_of_none hb2 nD)]
      exact (sE.trans sF) _ _ hb2
    · rw [upd_same, List.map_append]
      rfl
    · rw [List.take_add_one, hy]
      exact ((hqs.tk st (Tk.same sF)).append (Obs.one hr)).tk st (tk_lst hE5)
  · rintro HE ⟨qs, sE, hE, hqs⟩
    rw [List.take_of_length_le (by omega)] at hqs
    exact hd D HE sE ⟨qs, hE, hqs⟩
end
section
variable {K : PySem.W.Frag} {H : Hp} {Q : VK}
theorem cat_ints {p q : Addr} {xs ys : List Int} (a1 : SqT K H p (xs.map V.int)) (b1 : SqT K H q (ys.map V.int)) (hl : xs.length + ys.length ≤ 1000) (h : ∀ r H', Same H H' → SqT K H' r ((xs ++ ys).map V.int) → Q (.ref r) H') : rCatA K (.ref p) (.ref q) H Q := by
  refine ⟨p, q, _, _, rfl, rfl, a1, b1, ?_, fun z => ?_, fun _ z => ?_, fun _ _ r nr => ?_⟩
  · rw [List.length_map, List.length_map, sizeLine_eq]
    omega
  · have e : xs = [] := List.map_eq_nil_iff.mp z
    subst e
    exact h q H (Same.refl H) b1
  · have e : ys = [] := List.map_eq_nil_iff.mp z
    subst e
    refine h p H (Same.refl H) ?_
    rw [List.append_nil]
    exact a1
  · have s := same_new (o := HO.tup (xs.map V.int ++ ys.map V.int)) nr
    refine h r _ s ?_
    rw [List.map_append]
    exact SqT.of upd_same
end

end Fp

set_option Elab.async false
set_option linter.all false
set_option maxRecDepth 100000
set_option maxHeartbeats 4000000
set_option exponentiation.threshold 10000
namespace Fp
open PySem PySem.Spec PyProof.Rows L2
/-! ### what laws share -/
theorem mkL_rowD_sh {n : Nat} {g : Nat → Rat} (hn : n ≤ 21) (h : ∀ m, m < n → SmR 1900 (rdq (g m))) : Shows (.tuple (rowD (mkL n g))) := by
  refine (Shs.row (n := 1900) (by decide) (xs := mkL n g) fun x hx => ?_).tup.shows (by rw [mkL_len]; omega) (by decide)
  obtain ⟨j, hj⟩ := List.mem_iff_getElem?.mp hx
  have hj2 := (List.getElem?_eq_some_iff.mp hj).1
  rw [mkL_len] at hj2
  rw [mkL_at hj2] at hj
  cases Option.some.inj hj
  exact h j hj2
section
variable {P : Program} {w : World} {K : PySem.W.Frag} {mg : Str → Option Value} {base : Heap}
theorem drop1_row {H : Hp} {p : Addr} {xs : List RT} {Q : VK} (h : RowAt K H p xs) (hl : 1 ≤ xs.length) (hq : ∀ r H', Same H H' → RowAt K H' r (xs.drop 1) → Q (.ref r) H') : rSlA K (.ref p) (some 1) none H Q := by
  obtain ⟨rs, h1, h2⟩ := h
  have hl2 := h2.length
  refine ⟨p, _, rfl, h1, fun z => ?_, fun _ r nr => ?_⟩
  · have z1 := z.1
    rw [show (1 : Int) = ((1 : Nat) : Int) from rfl, HT.sIx_nat, List.length_map] at z1
    omega
  · rw [cutV_from1]
    have s := same_new (o := HO.tup ((rs.map V.ref).drop 1)) nr
    refine hq r _ s ⟨rs.drop 1, ?_, (h2.drop 1).tk (Tk.same s)⟩
    rw [List.map_drop]
    exact SqT.of upd_same
theorem noPart_go {σ : L2.St} {H : Hp} {k : Option Int → Hp → Prop} (h : k none H) : tNoPart σ H k := h
def spLaw (K : PySem.W.Frag) : Sp := fun vs H Q _ => ∃ (a : Addr) (ns : List Int), vs = [.ref a] ∧ SqL K H a (ns.map V.int) ∧ ∀ H', Q (.bl true) H'
end

end Fp

set_option Elab.async false
set_option linter.all false
set_option maxRecDepth 100000
set_option maxHeartbeats 4000000
set_option exponentiation.threshold 10000
namespace Fp
open PySem PySem.Spec PyProof.Rows L2
/-! ### renewed, by values -/
theorem IsCh.told {row : List RT} {step : RT} {n most : Nat} {chs : List RT} (h : IsCh row step n most chs) : chs = mkL most (chR row step) := by
  refine List.ext_getElem (by rw [mkL_len, h.len]) fun m h1 h2 => ?_
  have hm : m < most := by
    rw [mkL_len] at h2
    exact h2
  have e := mkL_at (g := chR row step) hm
  rw [List.getElem?_eq_getElem h2] at e
  rw [Option.some.inj e]
  obtain ⟨o1, o2⟩ := h.ok m _ (List.getElem?_eq_getElem h1)
  exact is_rdq o1.1 o2
theorem qa_mkL {n j : Nat} {g : Nat → Rat} (h : j < n) : qa (mkL n g) j = g j := by rw [qa_at (mkL_at h), qv_rdq]
theorem mkL_cons {n : Nat} {c : Nat → Rat} : mkL (n + 1) (laterF c) = (0, 1) :: mkL n c := by
  unfold mkL
  rw [List.range_succ_eq_map, List.map_cons, List.map_map]
  show rdq 0 :: _ = _
  rw [rdq_zero.mpr rfl]
  rfl
theorem mkL_drop {n : Nat} {g : Nat → Rat} : (mkL (n + 1) g).drop 1 = mkL n fun i => g (i + 1) := by
  unfold mkL
  rw [List.range_succ_eq_map, List.map_cons, List.map_map]
  rfl
section
variable {K : PySem.W.Frag} {H : Hp} {Q : VK}
/-- xs[1:] of a list -/
theorem drop1_ls {p : Addr} {xs : List RT} (h : LsM K H p xs) (q : ∀ b H', Same H H' → LsM K H' b (xs.drop 1) → Q (.ref b) H') : rSlL K (.ref p) (some 1) none H Q := by
  obtain ⟨as, a1, a2⟩ := h
  refine ⟨p, _, rfl, SqL.of a1, fun b nb => ?_⟩
  rw [cutV_from1]
  have e := same_new (o := HO.lst ((as.map V.ref).drop 1)) nb
  refine q b _ e ⟨as.drop 1, ?_, (a2.drop 1).tk (Tk.same e)⟩
  rw [upd_same, List.map_drop]
end
/-! ### a share: from nought to one, by a small bottom -/
structure Part (b : Int) (s : Rat) : Prop where
  pos : 0 < b
  le5 : b ≤ 5
  ov : Ov b s
  ge : 0 ≤ s
  le : s ≤ 1
theorem Part.sm {b : Int} {s : Rat} (h : Part b s) : Sm 3 b := by
  have := h.pos
  have := h.le5
  unfold Sm
  omega
theorem Part.rest {b : Int} {s : Rat} (h : Part b s) : Part b (1 - s) := by
  obtain ⟨h1, h2, ⟨T, hT⟩, h4, h5⟩ := h
  refine ⟨h1, h2, ⟨b - T, ?_⟩, by grind, by grind⟩
  have := cast_ne (Int.ne_of_gt h1)
  rw [hT, Rat.intCast_sub]
  grind
theorem Part.sz {b : Int} {s : Rat} (h : Part b s) : Sz b 0 s := Sz.pos h.ov h.ge (by rw [Rat.pow_zero]; exact h.le)
theorem Part.pow {b : Int} {s : Rat} (h : Part b s) : ∀ j : Nat, Den b j (s ^ j) ∧ 0 ≤ s ^ j ∧ s ^ j ≤ 1
  | 0 => by
    rw [Rat.pow_zero]
    refine ⟨⟨1, ?_⟩, by decide, Rat.le_refl⟩
    rw [Int.pow_zero]
    grind
  | j + 1 => by
    obtain ⟨i1, i2, i3⟩ := h.pow j
    rw [Rat.pow_succ]
    have m := mul_01 ⟨i2, i3⟩ ⟨h.ge, h.le⟩
    have d : Den b 1 s := by
      obtain ⟨T, hT⟩ := h.ov
      refine ⟨T, ?_⟩
      rw [Int.pow_succ, Int.pow_zero, Int.one_mul]
      exact hT
    exact ⟨i1.mul h.pos d, m.1, m.2⟩
theorem Part.low {t b : Int} (h0 : 0 ≤ t) (h1 : t ≤ b) (hb : 0 < b) (h5 : b ≤ 5) : Part b (qv (low2 t b)) := by
  rw [qv_low2 hb]
  obtain ⟨x1, x2⟩ := div_01 h0 hb h1
  exact ⟨hb, h5, ⟨t, rfl⟩, x1, x2⟩
def thinQ (a : Nat → Rat) (s : Rat) (n : Nat) : Rat := renQ (fun j => (1 - s) * a j) (laterF fun j => s * a j) n
theorem pQ_scale (a : Nat → Rat) (c : Rat) : ∀ j m, pQ (fun i => c * a i) j m = c ^ j * pQ a j m
  | 0, m => by
    show oneAt m = c ^ 0 * oneAt m
    rw [Rat.pow_zero]
    grind
  | j + 1, m => by
    show (sumTo m fun k => c * a k * pQ (fun i => c * a i) j (m - 1 - k)) = c ^ (j + 1) * sumTo m fun k => a k * pQ a j (m - 1 - k)
    rw [sumTo_mul]
    refine sumTo_congr fun k _ => ?_
    rw [pQ_scale a c j, Rat.pow_succ]
    grind
/-- thinned: by how many parts there are, all but the last one lost -/
theorem thin_parts (a : Nat → Rat) (s : Rat) {n N : Nat} (h : n ≤ N) : thinQ a s n = sumTo N fun j => s * (1 - s) ^ j * pQ a (j + 1) n := by
  rcases Nat.eq_zero_or_pos N with z | z
  · have e : n = 0 := by omega
    subst z e
    unfold thinQ
    rw [conv_later, sumTo_zero, sumTo_zero]
  obtain ⟨M, rfl⟩ : ∃ M, N = M + 1 := ⟨N - 1, by omega⟩
  unfold thinQ
  rw [conv_later]
  have e : (sumTo n fun k => s * a k * renQ (fun j => (1 - s) * a j) oneAt (n - 1 - k)) = sumTo n fun k => sumTo (M + 1) fun j => s * a k * ((1 - s) ^ j * pQ a j (n - 1 - k)) := by
    refine sumTo_congr fun k hk => ?_
    rw [← put_parts (fun j => (1 - s) * a j) (n - 1 - k) M (by omega), sumTo_mul]
    refine sumTo_congr fun j _ => ?_
    rw [pQ_scale]
  rw [e, sumTo_swap]
  refine sumTo_congr fun j _ => ?_
  show _ = s * (1 - s) ^ j * sumTo n fun k => a k * pQ a j (n - 1 - k)
  rw [sumTo_mul]
  refine sumTo_congr fun k _ => ?_
  grind

end Fp

set_option Elab.async false
set_option linter.all false
set_option maxRecDepth 100000
set_option maxHeartbeats 4000000
set_option exponentiation.threshold 10000
namespace Fp
open PySem PySem.Spec PyProof.Rows L2
/-! ### lists of whole numbers told by a function -/
def mkI (n : Nat) (f : Nat → Int) : List Int := (List.range n).map f
theorem mkI_len {n : Nat} {f : Nat → Int} : (mkI n f).length = n := by
  unfold mkI
  rw [List.length_map, List.length_range]
theorem mkI_at {n m : Nat} {f : Nat → Int} (h : m < n) : (mkI n f)[m]? = some (f m) := by
  unfold mkI
  rw [List.getElem?_map, List.getElem?_range h]
  rfl
theorem mkI_succ {n : Nat} {f : Nat → Int} : mkI (n + 1) f = mkI n f ++ [f n] := by
  unfold mkI
  rw [List.range_succ, List.map_append]
  rfl
theorem mkI_congr {n : Nat} {f g : Nat → Int} (h : ∀ m, m < n → f m = g m) : mkI n f = mkI n g := by
  unfold mkI
  exact List.map_congr_left fun m hm => h m (List.mem_range.mp hm)
theorem mkI_sum {n : Nat} {f : Nat → Int} : (((mkI n f).sum : Int) : Rat) = sumTo n fun j => ((f j : Int) : Rat) := sumTo_cast f n
theorem mkI_take {n m : Nat} {f : Nat → Int} (h : m ≤ n) : (mkI n f).take m = mkI m f := by
  unfold mkI
  rw [← List.map_take, List.take_range, Nat.min_eq_left h]
theorem is_mkI {xs : List Int} : xs = mkI xs.length (getI xs) := by
  refine List.ext_getElem (by rw [mkI_len]) fun m h1 h2 => ?_
  have e := mkI_at (f := getI xs) h1
  rw [List.getElem?_eq_getElem h2] at e
  rw [Option.some.inj e]
  unfold getI
  rw [List.getElem?_eq_getElem h1]
  rfl
theorem mkI_sm {e n : Nat} {f : Nat → Int} (h : ∀ j, j < n → Sm e (f j)) (hn : n ≤ 32) : Sm (e + 6) (mkI n f).sum := by
  refine sum_sm (fun x hx => ?_) (by rw [mkI_len]; exact hn)
  obtain ⟨j, hj, rfl⟩ := List.mem_map.mp hx
  exact h j (List.mem_range.mp hj)
theorem mkI_rep {n : Nat} {c : Int} : mkI n (fun _ => c) = List.replicate n c := by
  unfold mkI
  rw [List.map_const', List.length_range]
section
variable {K : PySem.W.Frag} {H : Hp} {Q : VK}
def IntL (H : Hp) (p : Addr) (n : Nat) (f : Nat → Int) : Prop := H p = some (.lst ((mkI n f).map V.int))
theorem ixI_go {p : Addr} {n m : Nat} {f : Nat → Int} {k : Int} (h : IntL H p n f) (hk : k = (m : Int)) (hm : m < n) (q : Q (.int (f m)) H) : rIxL K (.ref p) (.int k) H Q :=
  ⟨p, _, _, _, rfl, rfl, SqL.of h, at_of hk (by rw [List.getElem?_map, mkI_at hm]; rfl), q⟩
theorem sumI_go {p : Addr} {n : Nat} {f : Nat → Int} (h : IntL H p n f) (q : Q (.int (mkI n f).sum) H) : rSum K [.ref p] H Q := ⟨p, _, rfl, SqL.of h, q⟩
theorem takeI_go {p : Addr} {n m : Nat} {f : Nat → Int} (h : IntL H p n f) (hm : m ≤ n) (q : ∀ b H', Same H H' → IntL H' b m f → Q (.ref b) H') : rSlL K (.ref p) none (some (m : Int)) H Q := by
  refine ⟨p, _, rfl, SqL.of h, fun b nb => ?_⟩
  rw [cutV_take, ← List.map_take, mkI_take hm]
  exact q b _ (same_new nb) upd_same
theorem lc_intW {J : It} {n : Nat} {G : Hp → Prop} {Y : Nat → Hp → V → Hp → Prop} (w : Walk J n G Y) {g : TG} {te : TE} {vs : List Nat} {σ : L2.St} {H1 : Hp} (f : Nat → Int) (hn : n ≤ 900) (hG : ∀ HE, Same H1 HE → G HE)
    (hs : ∀ (k : Nat) (x : V) (HE HE' : Hp) (R : VK), k < n → Same H1 HE → Y k HE x HE' → (∀ HF, Same HE HF → R (.int (f k)) HF) → g x (wipe σ vs) HE' fun σ2 H2 => wipe σ2 vs = wipe σ vs ∧ te σ2 H2 R)
    {Qd : Addr → Hp → Prop} (hd : ∀ D H2, Same H1 H2 → IntL H2 D n f → Qd D H2) : tLc (fun _ H2 R => R J H2) g tYes te vs σ H1 (refQ Qd) := by
  intro D nD
  have e1 := same_new (o := HO.lst []) nD
  refine lc_it w (fun k HE => Same H1 HE ∧ HE D = some (.lst ((mkI k f).map V.int))) ⟨e1, upd_same⟩ ?_ ?_ ?_
  · rintro i HE _ ⟨sE, _⟩
    exact hG HE sE
  · rintro k x HE HE' hk ⟨sE, hE⟩ hY
    refine hs k x HE HE' _ hk sE hY fun HF sF => ?_
    have hE5 := sF _ _ hE
    refine ⟨_, hE5, by rw [List.length_map, mkI_len]; exact small1000 (by omega), ?_, ?_⟩
    · intro b2 o hb2
      rw [upd_ne (ne_of_none hb2 nD)]
      exact (sE.trans sF) _ _ hb2
    · rw [upd_same, mkI_succ, List.map_append]
      rfl
  · rintro HE ⟨sE, hE⟩
    exact hd D HE sE hE
theorem lc_int {lo : Int} {n : Nat} {g : TG} {te : TE} {vs : List Nat} {σ : L2.St} {H1 : Hp} (f : Nat → Int) (hn : n ≤ 900)
    (hs : ∀ (k : Nat) (HE : Hp) (R : VK), k < n → Same H1 HE → (∀ HF, Same HE HF → R (.int (f k)) HF) → g (.int (lo + k)) (wipe σ vs) HE fun σ2 H2 => wipe σ2 vs = wipe σ vs ∧ te σ2 H2 R)
    {Qd : Addr → Hp → Prop} (hd : ∀ D H2, Same H1 H2 → IntL H2 D n f → Qd D H2) : tLc (fun _ H2 R => R (Itr lo n) H2) g tYes te vs σ H1 (refQ Qd) := by
  refine lc_intW walk_range f hn (fun _ _ => trivial) (fun k x HE HE' R hk sE hY q => ?_) hd
  obtain ⟨rfl, rfl⟩ := hY
  exact hs k _ R hk sE q
/-- on one bottom, by values -/
theorem oob_go {p : Addr} {m s k : Nat} {A : Nat → Rat} {P : Int} (h : LsM K H p (mkL m A)) (hP : 0 < P) (sP : Sm s P) (z : ∀ j, j < m → Sz P k (A j)) (hm : m ≤ 900) (hs : s ≤ 2500) (hk : k ≤ 900)
    (q : ∀ z zl c T H', Same H H' → H' z = some (.tup [.ref zl, .int c]) → IntL H' zl m T → 0 < c → c ∣ P → Sm s c → (∀ j, j < m → ((T j : Int) : Rat) = (c : Rat) * A j) → (∀ j, j < m → Sm (2 * s + k + 1) (T j)) → Q (.ref z) H') : spOob K [.ref p] H Q E0 := by
  obtain ⟨rs, h1, h2⟩ := h
  have O := over_mkL hP sP z (show m ≤ 1000 by omega)
  refine ⟨p, _, _, _, _, rfl, ⟨rs, SqL.of h1, h2⟩, O, by omega, by omega, fun z1 zl c H' s1 hz hzl c0 cD hc => ?_⟩
  have hl : (mkL m A).length = m := mkL_len
  refine q z1 zl c (getI (topsOn c (mkL m A))) H' s1 hz ?_ c0 cD (dvd_small cD hP sP) (fun j hj => ?_) (fun j hj => ?_)
  · have e := is_mkI (xs := topsOn c (mkL m A))
    rw [tops_len, hl] at e
    unfold IntL
    rw [← e]
    exact hzl
  · rw [tops_val c0 (by rw [hl]; exact hj) fun x hx => ⟨(O.ok x hx).1, hc x hx⟩, qa_mkL hj]
  · have := tops_each (n := s + k + 1) O.pos cD O.sm (xs := mkL m A) (j := j) (by rw [hl]; exact hj) fun x hx => (O.ok x hx).2.2
    exact this.mono (by omega)
/-- a ratio of two whole numbers, by its value -/
theorem rat_go {t b : Int} {v : Rat} (hb : 0 < b) (s8 : b.natAbs < 2 ^ 8000) (e : ((t : Int) : Rat) = v * (b : Rat)) (q : ∀ r H', Same H H' → RAt K H' r (rdq v) → Q (.ref r) H') : spRat0 [.int t, .int b] H Q E0 := by
  refine ⟨t, b, rfl, s8, Int.ne_of_gt hb, fun p np => ?_⟩
  have hc := cast_ne (Int.ne_of_gt hb)
  have ex : low2 t b = rdq v := by
    refine is_rdq (low2_red (Int.ne_of_gt hb)) ?_
    rw [qv_low2 hb, e]
    grind
  refine q p _ (same_new np) ?_
  rw [← ex]
  exact SqT.of upd_same
end

end Fp

set_option Elab.async false
set_option linter.all false
set_option maxRecDepth 100000
set_option maxHeartbeats 4000000
set_option exponentiation.threshold 10000
namespace Fp
open PySem PySem.Spec PyProof.Rows L2
/-! ### all chances together -/
structure Tot (row : List RT) (step : RT) (N E : Int) : Prop where
  nn : 0 ≤ N
  ee : 0 ≤ E
  pos : 0 < N + E
  le : N + E ≤ 255
  val : rowQ row + behQ row step = (N : Rat) / ((N + E : Int) : Rat)
theorem behQ_snoc (ys : List RT) (y step : RT) : behQ (ys ++ [y]) step = qv y * qv step / (1 - qv step) := by
  unfold behQ
  rw [List.getLast?_append]
  rfl
theorem rowQ_snoc (ys : List RT) (y : RT) : rowQ (ys ++ [y]) = rowQ ys + qv y := by
  unfold rowQ
  rw [List.map_append]
  exact sum_snoc _ _
theorem rowOf_sum {D k : Int} (hD : 0 < D) : ∀ ws : List Int, ((ws.map fun x => low2 (k * x) D).map qv).sum = ((k * ws.sum : Int) : Rat) / (D : Rat)
  | [] => by
    show (0 : Rat) = ((k * 0 : Int) : Rat) / _
    rw [Int.mul_zero]
    have := cast_ne (Int.ne_of_gt hD)
    show (0 : Rat) = 0 / _
    grind
  | x :: r => by
    have ih := rowOf_sum hD (k := k) r
    show qv (low2 (k * x) D) + ((r.map fun x => low2 (k * x) D).map qv).sum = _
    rw [ih, qv_low2 hD, List.sum_cons, Int.mul_add, Rat.intCast_add]
    have := cast_ne (Int.ne_of_gt hD)
    grind
theorem BaseLife.tot {row : List RT} {step : RT} (h : BaseLife row step) : ∃ N E, Tot row step N E := by
  rcases h with ⟨ws, extra, m, rfl⟩ | ⟨rfl, rfl⟩
  · obtain ⟨w0, w1⟩ := m.whole
    obtain ⟨s0, s1, s2, s3⟩ := m.step_ok
    have hS := sum_bound m.nn
    have hL := m.last
    have hE := m.ex
    refine ⟨(step.2 - step.1) * ws.sum + step.1 * lastW ws, (step.2 - step.1) * extra, ?_⟩
    have e : (step.2 - step.1) * ws.sum + step.1 * lastW ws + (step.2 - step.1) * extra = wholeOf ws extra step := by
      unfold wholeOf
      rw [Int.mul_add]
      omega
    refine ⟨Int.add_nonneg (Int.mul_nonneg (by omega) hS.1) (Int.mul_nonneg s0 (Int.le_of_lt hL)), Int.mul_nonneg (by omega) hE.1, by rw [e]; exact w0, by rw [e]; omega, ?_⟩
    rw [e]
    rcases snoc_cases ws with z | ⟨ys, y, z⟩
    · exact absurd z m.ne
    · have ey : lastW ws = y := by
        rw [z]
        unfold lastW
        simp
      have hr : rowQ (rowOf ws extra step) = (((step.2 - step.1) * ws.sum : Int) : Rat) / (wholeOf ws extra step : Rat) := rowOf_sum w0 ws
      have hb : behQ (rowOf ws extra step) step = ((step.1 * lastW ws : Int) : Rat) / (wholeOf ws extra step : Rat) := by
        have er : rowOf ws extra step = (ys.map fun x => low2 ((step.2 - step.1) * x) (wholeOf ws extra step)) ++ [low2 ((step.2 - step.1) * y) (wholeOf ws extra step)] := by
          show ws.map _ = _
          conv => lhs; rw [z]
          rw [List.map_append]
          rw [← z]
          rfl
        rw [er, behQ_snoc, qv_low2 w0, ey]
        have h1 := cast_ne (Int.ne_of_gt w0)
        have h2 := gap_val s3 s1
        have h3 := cast_ne (Int.ne_of_gt s3.1)
        rw [Rat.intCast_mul, Rat.intCast_mul, Rat.intCast_sub]
        unfold qv at *
        have h4 : (step.2 : Rat) - (step.1 : Rat) ≠ 0 := by
          intro z4
          apply h2
          grind
        grind
      rw [hr, hb, Rat.intCast_add]
      have h1 := cast_ne (Int.ne_of_gt w0)
      grind
  · refine ⟨0, 1, by decide, by decide, by decide, by decide, ?_⟩
    show (0 : Rat) + 0 = ((0 : Int) : Rat) / _
    show (0 : Rat) + 0 = 0 / _
    grind
theorem AnyLife.tot {row : List RT} {step : RT} (h : AnyLife row step) : ∃ N E, Tot row step N E := by
  have st := h.ok.1.st
  rcases h with h | ⟨row0, l, h, h5, hs, hl, rfl⟩ | ⟨row0, h, h5, rfl, hs⟩
  · exact h.tot
  · obtain ⟨N, E, t⟩ := h.tot
    obtain ⟨s1, s2, _, _⟩ := h.sm
    refine ⟨N, E, t.nn, t.ee, t.pos, t.le, ?_⟩
    rw [← t.val, rowQ_snoc, behQ_snoc, (qv_rT (s1 l (List.mem_of_getElem? hl)).1.1 s2.1).2]
    rcases snoc_cases row0 with z | ⟨ys, y, z⟩
    · rw [z] at hl
      simp at hl
    · have ey : l = y := by
        rw [z] at hl
        simpa using hl.symm
      rw [z, behQ_snoc, ← ey]
      have := gap_val st.1.1 st.2.2
      grind
  · obtain ⟨N, E, t⟩ := h.tot
    refine ⟨N, E, t.nn, t.ee, t.pos, t.le, ?_⟩
    rw [← t.val, rowQ_snoc, behQ_snoc, qv_nought]
    have hb : behQ row0 (0, 1) = 0 := by
      unfold behQ
      split
      · rfl
      · rw [qv_nought]
        grind
    rw [hb]
    grind

end Fp

set_option Elab.async false
set_option linter.all false
set_option maxRecDepth 100000
set_option maxHeartbeats 4000000
set_option exponentiation.threshold 10000
namespace Fp
open PySem PySem.Spec PyProof.Rows L2
/-! ### added: told as a tuple -/
section
variable {P : Program} {w : World} {K : PySem.W.Frag} {mg : Str → Option Value} {base : Heap}
def spOobT (K : PySem.W.Frag) : Sp := fun vs H Q _ => ∃ (p : Addr) (xs : List RT) (n d : Nat) (D : Int), vs = [.ref p] ∧ RowAt K H p xs ∧ Over1 n d D xs ∧ n ≤ 4000 ∧ d ≤ 4000 ∧
  ∀ z zl c H', Same H H' → H' z = some (.tup [.ref zl, .int c]) → H' zl = some (.lst ((topsOn c xs).map V.int)) → 0 < c → c ∣ D → (∀ x ∈ xs, x.2 ∣ c) → Q (.ref z) H'
theorem ok_oobT {f fC : Addr} {fd fdC : FuncData} (F : Fun K "on_one_bottom" "on_one_bottom" s_oob f fd) (FC : Fun K "common_divisor" "common_divisor" s_cd fC fdC) (bC : Binds K fdC ["one", "other"] []) (gC : mg "common_divisor" = some (.ref fC)) (ma : mg "abs" = none) :
    FnOk P w K mg base CX0 2 f fd ["told"] (spOobT K) := by
  have GC : FnOk P w K mg base CX0 1 fC fdC ["one", "other"] spCd := ok_cd FC ma
  refine F.ok sc_oob (fun vs H Q E h => ?_) (fun cdv A outer s H vs Q E hr h => ?_)
  · obtain ⟨_, _, _, _, _, rfl, _⟩ := h
    rfl
  · obtain ⟨p, xs, n, d, D, rfl, hlst, O, hn, hd, q⟩ := h
    obtain ⟨rs, r1, r2⟩ := id hlst
    have hl := r2.length
    refine ⟨_, (pss_cons (ps_set (i := 1) sc_oob.nd rfl (.inr rfl) pe_int) (pss_cons (ps_for PassesOwn.never rfl (pi_tup (pv 0)) (pg_tup rfl (pgs_cons (pg_name (i := 2) sc_oob.nd rfl (.inl rfl)) (pgs_cons (pg_name (i := 3) sc_oob.nd rfl (.inl rfl)) pgs_nil)))
          (pss_one (ps_set (i := 1) sc_oob.nd rfl (.inr rfl) (pe_op op_mulA (pe_op op_fdivA (pv 1) (pe_call GC hr (by rfl) gC FC.kp bC .nil pass0 (pa_cons (pv 1) (pa_cons (pv 3) pa_nil)))) (pv 3))))) (pss_one (ps_ret (pe_tup (pa_cons (pe_lc (own := [("top", 2), ("bottom", 3)]) (g := gTup K 2 (gCons (gName 2) (gCons (gName 3) gNil))) (tt := tYes) (te := tOp (rI CMulA fun i j => .int (i * j)) (tVar 2) (tOp (rI CDivA fun i j => .int (i.fdiv j)) (tVar 1) (tVar 3))) rfl sc_oob.nd (pi_tup (pv 0)) (blkOk_by (own := [("top", 2), ("bottom", 3)]) (N := N_oob) (sc := defScope s_oob) (by decide +kernel))
          (fun _ _ _ _ _ => pg_tup rfl (pgs_cons (pg_name (i := 2) sc_oob.nd rfl (.inl rfl)) (pgs_cons (pg_name (i := 3) sc_oob.nd rfl (.inl rfl)) pgs_nil))) (fun _ _ _ _ _ => pts_nil) (fun _ _ _ _ _ => pe_op op_mulA (pv 2) (pe_op op_fdivA (pv 1) (pv 3)))) (pa_cons (pv 1) pa_nil))))))), ?_⟩
    refine ⟨_, rfl, p, rfl, ⟨_, r1⟩, for_tup (K := K) (a := p) (xs := rs.map V.ref) (fun i σ H1 => H1 = H ∧ ∃ (c : Int) (y2 y3 : Option V), σ = [some (.ref p), some (.int c), y2, y3] ∧ 0 < c ∧ c ∣ D ∧ ∀ x ∈ xs.take i, x.2 ∣ c) ?_ ?_ ?_ ?_⟩
    · exact ⟨rfl, 1, _, _, rfl, by decide, Int.one_dvd D, fun x hx => by simp at hx⟩
    · rintro i σ H1 _ ⟨rfl, _⟩
      exact r1
    · rintro i y σ H1 hi ⟨rfl, c, y2, y3, rfl, c0, cD, hc⟩
      have hi2 : i < xs.length := by
        have := (List.getElem?_eq_some_iff.mp hi).1
        rw [List.length_map, hl] at this
        exact this
      have hg : xs[i]? = some xs[i] := List.getElem?_eq_getElem hi2
      obtain ⟨r, er, hr2⟩ := r2.get hg
      have ey : y = .ref r := by
        rw [List.getElem?_map, er] at hi
        exact (Option.some.inj hi).symm
      subst ey
      obtain ⟨b0, bD, _⟩ := O.ok xs[i] (List.getElem_mem hi2)
      have sc : Sm d c := dvd_small cD O.pos O.sm
      have sb : Sm d xs[i].2 := dvd_small bD O.pos O.sm
      have hg0 : 0 < Int.gcd c xs[i].2 := Nat.gcd_pos_of_pos_right _ (by omega)
      have hgs : Sm d ((Int.gcd c xs[i].2 : Nat) : Int) := by
        unfold Sm at *
        rw [Int.natAbs_natCast]
        exact Nat.lt_of_le_of_lt (Nat.gcd_le_right _ (by omega)) sb
      have d0 : 0 < d := by
        rcases Nat.eq_zero_or_pos d with z | z
        · rw [z] at sc
          unfold Sm at sc
          omega
        · exact z
      have hq1 : Sm d (c.fdiv ((Int.gcd c xs[i].2 : Nat) : Int)) := Nat.lt_of_le_of_lt (fdiv_le (by omega) (Int.gcd_dvd_left ..)) sc
      obtain ⟨k0, k1, k2, k3⟩ := lcm_ok c0 b0 cD bD
      refine ⟨r, _, rfl, hr2, rfl, _, _, rfl, _, _, rfl, rfl, ?_⟩
      refine ⟨_, rfl, _, rfl, _, rfl, c, xs[i].2, rfl, ?_⟩
      refine ⟨c, _, rfl, rfl, ⟨by omega, Nat.lt_of_lt_of_le (hgs.log d0) (by omega)⟩, _, rfl, _, _, rfl, rfl, hq1.cmul sb d0 d0 (by omega), rfl, _, _, _, rfl, k0, k1, fun x hx => ?_⟩
      rw [List.take_add_one, hg] at hx
      rcases List.mem_append.mp hx with z | z
      · exact Int.dvd_trans (hc x z) k2
      · rw [List.mem_singleton.mp z]
        exact k3
    · rintro σ H1 ⟨rfl, c, y2, y3, rfl, c0, cD, hc⟩
      rw [List.length_map, hl, List.take_length] at hc
      have sc : Sm d c := dvd_small cD O.pos O.sm
      have d0 : 0 < d := by
        rcases Nat.eq_zero_or_pos d with z | z
        · rw [z] at sc
          unfold Sm at sc
          omega
        · exact z
      refine ⟨_, rfl, p, rfl, ⟨_, r1⟩, fun R nR => ?_⟩
      have e1 := same_new (o := HO.lst []) nR
      refine lc_tup (K := K) (a := p) (xs := rs.map V.ref) (fun i H2 => Same H1 H2 ∧ H2 R = some (.lst ((topsOn c (xs.take i)).map V.int))) ?_ ?_ ?_ ?_
      · exact ⟨e1, upd_same⟩
      · rintro i H2 _ ⟨s2, _⟩
        exact sqT_same s2 r1
      · rintro i y H2 hi ⟨s2, hR⟩
        have hi2 : i < xs.length := by
          have := (List.getElem?_eq_some_iff.mp hi).1
          rw [List.length_map, hl] at this
          exact this
        have hg : xs[i]? = some xs[i] := List.getElem?_eq_getElem hi2
        obtain ⟨r, er, hr2⟩ := r2.get hg
        have ey : y = .ref r := by
          rw [List.getElem?_map, er] at hi
          exact (Option.some.inj hi).symm
        subst ey
        obtain ⟨b0, bD, sn⟩ := O.ok xs[i] (List.getElem_mem hi2)
        have sb : Sm d xs[i].2 := dvd_small bD O.pos O.sm
        have hdv := hc xs[i] (List.getElem_mem hi2)
        have ef : c.fdiv xs[i].2 = c / xs[i].2 := Int.fdiv_eq_ediv_of_nonneg _ (by omega)
        have sq : Sm d (c.fdiv xs[i].2) := Nat.lt_of_le_of_lt (fdiv_le b0 hdv) sc
        refine ⟨r, _, rfl, hr2.tk (Tk.same s2), rfl, _, _, rfl, _, _, rfl, rfl, rfl, tYes_go ?_⟩
        refine iteT ?_
        refine ⟨_, rfl, _, rfl, _, rfl, c, xs[i].2, rfl, rfl, ⟨by omega, Nat.lt_of_lt_of_le (sb.log d0) (by omega)⟩, _, _, rfl, rfl, (sn.mono (show n ≤ n + 1 by omega)).cmul sq (by omega) d0 (by omega), _, hR, ?_, ?_, ?_⟩
        · rw [List.length_map]
          unfold topsOn
          rw [List.length_map, List.length_take]
          have := O.len
          exact small1000 (by omega)
        · intro b o hb
          rw [upd_ne (ne_of_none hb nR)]
          exact s2 _ _ hb
        · rw [upd_same, List.take_add_one, hg]
          unfold topsOn
          rw [List.map_append, List.map_append, ef]
          rfl
      · rintro H2 ⟨s2, hR⟩
        rw [List.length_map, hl, List.take_length] at hR
        refine ⟨_, rfl, by show 2 ≤ sizeLine; decide, fun z nz => ?_⟩
        have e2 := same_new (o := HO.tup [.ref R, .int c]) nz
        exact q z R c _ (s2.trans e2) upd_same (e2 _ _ hR) c0 cD hc
def spAddedT (K : PySem.W.Frag) : Sp := fun vs H Q _ => ∃ (p : Addr) (xs : List RT) (n d : Nat) (D : Int), vs = [.ref p] ∧ RowAt K H p xs ∧ Over1 n d D xs ∧ n ≤ 4000 ∧ d ≤ 4000 ∧
  ∀ z x H', Same H H' → RAt K H' z x → Red x → qv x = (xs.map qv).sum → x.2 ∣ D → Sm (n + d + 11) x.1 → Q (.ref z) H'
theorem addT_go {H : Hp} {Q : VK} {p : Addr} {P : Int} {n s k : Nat} {f : Nat → Rat} (h : RowAt K H p (mkL n f)) (hP : 0 < P) (sP : Sm s P) (z : ∀ j, j < n → Sz P k (f j)) (hn : n ≤ 1000) (hs : s ≤ 2500) (hk : k ≤ 900)
    (q : ∀ r H', Same H H' → RAt K H' r (rdq (sumTo n f)) → Q (.ref r) H') : spAddedT K [.ref p] H Q E0 := by
  refine ⟨p, _, _, _, P, rfl, h, over_mkL hP sP z hn, by omega, by omega, fun y x HF sF hy rx vx _ _ => ?_⟩
  have ex : x = rdq (sumTo n f) := is_rdq rx (by rw [vx, mkL_sum])
  rw [ex] at hy
  exact q y HF sF hy
end

end Fp

set_option Elab.async false
set_option linter.all false
set_option maxRecDepth 100000
set_option maxHeartbeats 4000000
set_option exponentiation.threshold 10000
namespace Fp
open PySem PySem.Spec PyProof.Rows L2
/-! ### many, in all -/
section
variable {P : Program} {w : World} {K : PySem.W.Frag} {mg : Str → Option Value} {base : Heap} {aN aO : Addr}
def spMb (K : PySem.W.Frag) : Sp := fun vs H Q _ => ∃ (p : Addr) (row : List RT) (step : RT) (n beat : Nat) (W D : Int), vs = [.ref p, .int (beat : Int)] ∧ LifeAt K H p row step ∧ LifeOk n row step ∧ WOk W row ∧ Ch01 D (chR row step) 20 ∧ beat ≤ 20 ∧
  ∀ z H', Same H H' → RAt K H' z (rdq (sumTo beat fun i => putQ row step (i + 1))) → Q (.ref z) H'
/-- none of a full one, else all by what lacks -/
def AD (K : PySem.W.Frag) (H : Hp) (v : V) (t : Rat) : Prop := (t = 1 ∧ v = .non) ∨ (t ≠ 1 ∧ ∃ z, v = .ref z ∧ RAt K H z (rdq (t / (1 - t))))
theorem AD.tk {H H' : Hp} {v : V} {t : Rat} (h : AD K H v t) (e : Tk K H H') : AD K H' v t := by
  rcases h with h | ⟨h1, z, h2, h3⟩
  · exact .inl h
  · exact .inr ⟨h1, z, h2, h3.tk e⟩
def adD (t : Rat) : PyData := if t = 1 then .none else ratD (rdq (t / (1 - t)))
theorem AD.dp {H : Hp} {v : V} {t : Rat} (h : AD K H v t) : Dp K H v (adD t) ∧ (v = .non ∨ (∃ i, v = .int i) ∨ ∃ a, v = .ref a) := by
  unfold adD
  rcases h with ⟨h1, rfl⟩ | ⟨h1, z, rfl, h3⟩
  · rw [if_pos h1]
    exact ⟨.non, .inl rfl⟩
  · rw [if_neg h1]
    exact ⟨h3.dp, .inr (.inr ⟨z, rfl⟩)⟩
theorem Tot.facts {row : List RT} {step : RT} {N E : Int} (h : Tot row step N E) : Sz (N + E) 0 (rowQ row + behQ row step) ∧ Sm 8 (N + E) ∧ 0 ≤ rowQ row + behQ row step ∧ rowQ row + behQ row step ≤ 1 ∧ Sz (N + E) 0 (1 - (rowQ row + behQ row step)) ∧
    (rowQ row + behQ row step ≠ 1 → 0 < E ∧ (rowQ row + behQ row step) / (1 - (rowQ row + behQ row step)) = (N : Rat) / (E : Rat)) := by
  have hn := h.nn
  have he := h.ee
  have hp := h.pos
  have hl := h.le
  have v := h.val
  generalize rowQ row + behQ row step = t at *
  obtain ⟨d1, d2⟩ := div_01 hn hp (show N ≤ N + E by omega)
  rw [← v] at d1 d2
  have hc := cast_ne (Int.ne_of_gt hp)
  have o : Ov (N + E) t := ⟨N, v⟩
  have o2 : Ov (N + E) (1 - t) := by
    refine ⟨E, ?_⟩
    rw [v]
    rw [Rat.intCast_add] at hc ⊢
    grind
  refine ⟨Sz.pos o d1 (by rw [Rat.pow_zero]; exact d2), by unfold Sm; omega, d1, d2, Sz.pos o2 (by grind) (by rw [Rat.pow_zero]; grind), fun ht => ?_⟩
  have e0 : 0 < E := by
    rcases (by omega : 0 < E ∨ E = 0) with z | z
    · exact z
    · refine absurd ?_ ht
      rw [z, Int.add_zero] at v hc
      rw [v]
      grind
  refine ⟨e0, ?_⟩
  have he2 := cast_ne (Int.ne_of_gt e0)
  rw [v]
  rw [Rat.intCast_add] at hc ⊢
  grind
theorem sh_none : Shows .none := ⟨rfl, rfl, by decide, by decide⟩
theorem Tot.sh {row : List RT} {step : RT} {N E : Int} (h : Tot row step N E) : Shows (adD (rowQ row + behQ row step)) := by
  obtain ⟨_, _, _, _, _, h6⟩ := h.facts
  unfold adD
  split
  · exact sh_none
  · rename_i z
    obtain ⟨e0, e1⟩ := h6 z
    have hn := h.nn
    have hl := h.le
    rw [e1]
    have sz : Sz E 8 ((N : Rat) / (E : Rat)) := by
      have hc : (0 : Rat) < (E : Rat) := Rat.intCast_pos.mpr e0
      have hi : (0 : Rat) ≤ (E : Rat)⁻¹ := Rat.le_of_lt (Rat.inv_pos.mpr hc)
      refine Sz.pos ⟨N, rfl⟩ (by rw [Rat.div_def]; exact Rat.mul_nonneg (Rat.intCast_nonneg.mpr hn) hi) ?_
      have u : (N : Rat) ≤ ((256 * E : Int) : Rat) := Rat.intCast_le_intCast.mpr (by omega)
      have u2 := Rat.mul_le_mul_of_nonneg_right u hi
      have e : (E : Rat) * (E : Rat)⁻¹ = 1 := Rat.mul_inv_cancel _ (Rat.ne_of_gt hc)
      rw [Rat.div_def, show (2 : Rat) ^ 8 = ((256 : Int) : Rat) by decide +kernel]
      rw [Rat.intCast_mul] at u2
      grind
    exact (Sh.rat (sz.smr (s := 8) (n := 1900) e0 (by unfold Sm; omega) (by decide)) (by decide)).shows (by decide) (by decide)
def spIa (K : PySem.W.Frag) : Sp := fun vs H Q _ => ∃ (p : Addr) (row : List RT) (step : RT) (n : Nat) (N E : Int), vs = [.ref p] ∧ LifeAt K H p row step ∧ LifeOk n row step ∧ Tot row step N E ∧
  ∀ v H', Same H H' → AD K H' v (rowQ row + behQ row step) → Q v H'
end

end Fp

set_option Elab.async false
set_option linter.all false
set_option maxRecDepth 100000
set_option maxHeartbeats 4000000
set_option exponentiation.threshold 10000
namespace Fp
open PySem PySem.Spec PyProof.Rows L2
/-! ### what laws need of a life -/
structure LF (row : List RT) (step : RT) : Prop where
  ok : LifeOk 20 row step
  len : row.length ≤ 7
  nil : row = [] → step = (0, 1)
  w : ∃ W, WOk W row
  ch : ∃ D, Ch01 D (chR row step) 20
  tot : ∃ N E, Tot row step N E
theorem AnyLife.lf {row : List RT} {step : RT} (h : AnyLife row step) : LF row step := ⟨h.ok.1, h.ok.2.1, h.ok.2.2, h.w, h.ch01, h.tot⟩
theorem ch01_of {row : List RT} {step : RT} {W : Int} (hW : WOk W row) (L : LifeOk 20 row step) (q1 : ∀ x ∈ row, 0 ≤ qv x ∧ qv x ≤ 1) (q2 : 0 ≤ qv step ∧ qv step ≤ 1) (s4 : 0 < step.2 ∧ step.2 ≤ 4) : Ch01 (W * step.2 ^ 20) (chR row step) 20 := by
  have sm20 : Sm 41 (step.2 ^ 20) := by
    obtain ⟨z1, z2⟩ := pow_four s4 20
    have e : (4 : Int) ^ 20 = 1099511627776 := by decide
    have e2 : (2 : Nat) ^ 41 = 2199023255552 := by decide
    unfold Sm
    rw [e2]
    rw [e] at z2
    omega
  have hD : 0 < W * step.2 ^ 20 := Int.mul_pos hW.pos (Int.pow_pos L.st.1.1.1)
  refine ⟨hD, (hW.sm.mul (show Sm 41 (step.2 ^ 20) from sm20)).mono (by decide), fun k _ => (chR_01 q1 q2 k).1, fun k _ => (chR_01 q1 q2 k).2, fun k hk => ?_⟩
  obtain ⟨x, sx, vx⟩ := ch_ex L k
  rw [← vx]
  exact Den.of hD sx.1.1 (ch_dvdW hW.dvd L.sm L.st.1.1 sx.1 vx hk)
theorem LF.sh {row : List RT} {step : RT} (h : LF row step) : Sh 500000 3 (lifeD row step) := Sh.life (n := 1900) (by decide) (fun x hx => (h.ok.sm x hx).mono (by decide)) (h.ok.st.1.mono (by decide)) (by have := h.len; omega)
theorem LF.small {row : List RT} {step : RT} {W N E : Int} (h1 : ∀ y ∈ row, SmR 20 y ∧ y.2 ∣ W ∧ 0 ≤ qv y ∧ qv y ≤ 1) (hW : 0 < W) (sW : Sm 14 W) (hs : StepOk 5 step) (hl : row.length ≤ 7) (hn : row ≠ []) (q2 : 0 ≤ qv step ∧ qv step ≤ 1) (s4 : 0 < step.2 ∧ step.2 ≤ 4) (t : Tot row step N E) : LF row step := by
  have L : LifeOk 20 row step := ⟨fun y hy => (h1 y hy).1, hs, by omega, by decide, by decide⟩
  have w : WOk W row := ⟨hW, sW, fun y hy => (h1 y hy).2.1⟩
  exact ⟨L, hl, fun z => absurd z hn, ⟨W, w⟩, ⟨_, ch01_of w L (fun x hx => (h1 x hx).2.2) q2 s4⟩, ⟨N, E, t⟩⟩

end Fp

set_option Elab.async false
set_option linter.all false
set_option maxRecDepth 100000
set_option maxHeartbeats 4000000
set_option exponentiation.threshold 10000
namespace Fp
open PySem PySem.Spec PyProof.Rows L2
/-! ### means: what they are, and their size -/
/-- one number under a row -/
structure WO (W : Int) (row : List RT) : Prop where
  pos : 0 < W
  sm : Sm 20 W
  dvd : ∀ y ∈ row, y.2 ∣ W
structure ML (row : List RT) (step : RT) (W : Int) : Prop where
  ok : LifeOk 20 row step
  len : row.length ≤ 13
  nil : row = [] → step = (0, 1)
  w : WO W row
  q01 : ∀ x ∈ row, 0 ≤ qv x ∧ qv x ≤ 1
  s4 : step.2 ≤ 4
def stQ (step : RT) : Rat := qv step
def firstQ (row : List RT) (step : RT) : Rat := behQ row step / (1 - qv step)
def secondQ (row : List RT) (step : RT) : Rat := firstQ row step * (1 + qv step) / (1 - qv step)
theorem Sz.frac {t b : Int} {k : Nat} (h0 : 0 ≤ t) (hb : 0 < b) (ht : t ≤ 2 ^ k * b) : Sz b k ((t : Rat) / (b : Rat)) := by
  have hc : (0 : Rat) < (b : Rat) := Rat.intCast_pos.mpr hb
  have hi : (0 : Rat) ≤ (b : Rat)⁻¹ := Rat.le_of_lt (Rat.inv_pos.mpr hc)
  have e : (b : Rat) * (b : Rat)⁻¹ = 1 := Rat.mul_inv_cancel _ (Rat.ne_of_gt hc)
  refine Sz.pos ⟨t, rfl⟩ (by rw [Rat.div_def]; exact Rat.mul_nonneg (Rat.intCast_nonneg.mpr h0) hi) ?_
  have u : (t : Rat) ≤ ((2 ^ k * b : Int) : Rat) := Rat.intCast_le_intCast.mpr ht
  have u2 := Rat.mul_le_mul_of_nonneg_right u hi
  rw [Rat.intCast_mul, cast_pow] at u2
  rw [Rat.div_def]
  have e2 : (((2 : Int) : Rat)) ^ k = (2 : Rat) ^ k := rfl
  rw [e2, Rat.mul_assoc, e, Rat.mul_one] at u2
  exact u2
section
variable {row : List RT} {step : RT} {W : Int}
/-- the number under all -/
def mP (W : Int) (step : RT) : Int := W * (step.2 - step.1) * (step.2 - step.1) * (step.2 - step.1)
theorem ML.gap (h : ML row step W) : 0 < step.2 - step.1 ∧ step.2 - step.1 ≤ 4 ∧ 0 ≤ step.1 ∧ 0 < step.2 := by
  have h1 := h.ok.st
  have h2 := h.s4
  have h3 := h1.2.2
  have h4 := h1.2.1
  omega
theorem ML.P (h : ML row step W) : 0 < mP W step ∧ Sm 29 (mP W step) := by
  obtain ⟨g1, g2, _, _⟩ := h.gap
  have sg : Sm 3 (step.2 - step.1) := by unfold Sm; omega
  exact ⟨Int.mul_pos (Int.mul_pos (Int.mul_pos h.w.pos g1) g1) g1, ((h.w.sm.mul sg).mul sg).mul sg⟩
theorem ML.rowz (h : ML row step W) {x : RT} (hx : x ∈ row) : Sz W 0 (qv x) := by
  obtain ⟨a, b⟩ := h.q01 x hx
  exact Sz.pos ⟨_, qv_over (h.ok.sm x hx).1.1 (h.w.dvd x hx) h.w.pos⟩ a (by rw [Rat.pow_zero]; exact b)
theorem ML.gapQ (h : ML row step W) : (1 : Rat) - qv step = (((step.2 - step.1 : Int)) : Rat) / (step.2 : Rat) ∧ (1 : Rat) - qv step ≠ 0 := by
  obtain ⟨g1, _, _, g4⟩ := h.gap
  have h3 := cast_ne (Int.ne_of_gt g4)
  refine ⟨?_, gap_val h.ok.st.1.1 h.ok.st.2.2⟩
  unfold qv
  rw [Rat.intCast_sub]
  grind
theorem ML.beh (h : ML row step W) : Sz (W * (step.2 - step.1)) 2 (behQ row step) := by
  obtain ⟨g1, g2, g3, g4⟩ := h.gap
  have hWd := Int.mul_pos h.w.pos g1
  rcases snoc_cases row with z | ⟨ys, y, z⟩
  · rw [z]
    show Sz _ _ 0
    exact Sz.nought
  · have hy : y ∈ row := by rw [z]; simp
    have e : behQ row step = qv y * ((step.1 : Rat) / ((step.2 - step.1 : Int) : Rat)) := by
      rw [z, behQ_snoc, h.gapQ.1]
      have h1 := cast_ne (Int.ne_of_gt g1)
      have h2 := cast_ne (Int.ne_of_gt g4)
      unfold qv
      grind
    rw [e]
    exact (h.rowz hy).mul h.w.pos g1 (Sz.frac (k := 2) g3 g1 (by have := h.ok.st.2.2; have := h.s4; omega))
theorem ML.first (h : ML row step W) : Sz (W * (step.2 - step.1) * (step.2 - step.1)) 4 (firstQ row step) := by
  obtain ⟨g1, g2, g3, g4⟩ := h.gap
  have e : firstQ row step = behQ row step * ((step.2 : Rat) / ((step.2 - step.1 : Int) : Rat)) := by
    unfold firstQ
    rw [h.gapQ.1]
    have h1 := cast_ne (Int.ne_of_gt g1)
    have h2 := cast_ne (Int.ne_of_gt g4)
    grind
  rw [e]
  exact h.beh.mul (Int.mul_pos h.w.pos g1) g1 (Sz.frac (k := 2) (Int.le_of_lt g4) g1 (by have := h.s4; omega))
theorem ML.second (h : ML row step W) : Sz (mP W step) 7 (secondQ row step) := by
  obtain ⟨g1, g2, g3, g4⟩ := h.gap
  have e : secondQ row step = firstQ row step * (((step.2 + step.1 : Int) : Rat) / ((step.2 - step.1 : Int) : Rat)) := by
    unfold secondQ
    rw [h.gapQ.1]
    have h1 := cast_ne (Int.ne_of_gt g1)
    have h2 := cast_ne (Int.ne_of_gt g4)
    rw [Rat.intCast_add]
    unfold qv
    grind
  rw [e]
  exact h.first.mul (Int.mul_pos (Int.mul_pos h.w.pos g1) g1) g1 (Sz.frac (k := 3) (by omega) g1 (by have := h.s4; have := h.ok.st.2.2; omega))
theorem ML.up1 (h : ML row step W) {k : Nat} {q : Rat} (z : Sz W k q) : Sz (mP W step) k q := by
  obtain ⟨g1, _, _, _⟩ := h.gap
  exact z.dvd h.w.pos h.P.1 (by unfold mP; exact ⟨(step.2 - step.1) * (step.2 - step.1) * (step.2 - step.1), by rw [Int.mul_assoc, Int.mul_assoc, Int.mul_assoc]⟩)
theorem ML.up2 (h : ML row step W) {k : Nat} {q : Rat} (z : Sz (W * (step.2 - step.1)) k q) : Sz (mP W step) k q := by
  obtain ⟨g1, _, _, _⟩ := h.gap
  exact z.dvd (Int.mul_pos h.w.pos g1) h.P.1 (by unfold mP; exact ⟨(step.2 - step.1) * (step.2 - step.1), by rw [Int.mul_assoc]⟩)
theorem ML.up3 (h : ML row step W) {k : Nat} {q : Rat} (z : Sz (W * (step.2 - step.1) * (step.2 - step.1)) k q) : Sz (mP W step) k q := by
  obtain ⟨g1, _, _, _⟩ := h.gap
  exact z.dvd (Int.mul_pos (Int.mul_pos h.w.pos g1) g1) h.P.1 (by unfold mP; exact ⟨step.2 - step.1, rfl⟩)
theorem Sz.nat {P : Int} {k j : Nat} {q : Rat} {n : Nat} (z : Sz P k q) (hP : 0 < P) (hn : n ≤ 2 ^ j) : Sz P (k + j) (((n : Int) : Rat) * q) := by
  have a : Sz 1 j ((n : Int) : Rat) := by
    have := Sz.frac (t := (n : Int)) (b := 1) (k := j) (by omega) (by decide) (by
      have e : ((2 ^ j : Nat) : Int) = (2 : Int) ^ j := by rw [Int.natCast_pow]; rfl
      rw [Int.mul_one, ← e]
      omega)
    rw [show ((n : Int) : Rat) / (((1 : Int)) : Rat) = ((n : Int) : Rat) by show _ / (1 : Rat) = _; grind] at this
    exact this
  have := z.mul hP (by decide : (0 : Int) < 1) a
  rw [Int.mul_one] at this
  rw [show ((n : Int) : Rat) * q = q * ((n : Int) : Rat) by grind]
  exact this
end
/-- the mean, the square's -/
def meanQ (row : List RT) (step : RT) : Rat := (sumTo row.length fun k => (((k + 1 : Nat) : Int) : Rat) * chR row step k) + ((row.length : Int) : Rat) * behQ row step + firstQ row step
def msqQ (row : List RT) (step : RT) : Rat := (sumTo row.length fun k => ((((k + 1) * (k + 1) : Nat) : Int) : Rat) * chR row step k) + (((row.length * row.length : Nat) : Int) : Rat) * behQ row step + (((2 * row.length : Nat) : Int) : Rat) * firstQ row step + secondQ row step
/-- none where not full -/
def MV (K : PySem.W.Frag) (H : Hp) (v : V) (t q : Rat) : Prop := (t ≠ 1 ∧ v = .non) ∨ (t = 1 ∧ ∃ z, v = .ref z ∧ RAt K H z (rdq q))
def mvD (t q : Rat) : PyData := if t = 1 then ratD (rdq q) else .none
section
variable {K : PySem.W.Frag} {H H' : Hp} {v : V} {t q : Rat}
theorem MV.tk (h : MV K H v t q) (e : Tk K H H') : MV K H' v t q := by
  rcases h with h | ⟨h1, z, h2, h3⟩
  · exact .inl h
  · exact .inr ⟨h1, z, h2, h3.tk e⟩
theorem MV.dp (h : MV K H v t q) : Dp K H v (mvD t q) := by
  unfold mvD
  rcases h with ⟨h1, rfl⟩ | ⟨h1, z, rfl, h3⟩
  · rw [if_neg h1]
    exact .non
  · rw [if_pos h1]
    exact h3.dp
theorem over_go {p1 p2 : Addr} {x y : Rat} {Q : VK} (h1 : RAt K H p1 (rdq x)) (h2 : RAt K H p2 (rdq y)) (s1 : SmR 3000 (rdq x)) (s2 : SmR 3000 (rdq y)) (hy : 0 < y) (q : ∀ r H', Same H H' → RAt K H' r (rdq (x / y)) → Q (.ref r) H') : spOver0 K [.ref p1, .ref p2] H Q E0 := by
  have hpos : 0 < (rdq y).1 := by
    have h3 := (rdq_red y).1
    have hc : (0 : Rat) < ((rdq y).2 : Rat) := Rat.intCast_pos.mpr h3
    have e := qv_rdq y
    refine Rat.intCast_pos.mp ?_
    have h4 : ((rdq y).1 : Rat) = y * ((rdq y).2 : Rat) := by
      have hne := Rat.ne_of_gt hc
      unfold qv at e
      grind
    rw [h4]
    exact Rat.mul_pos hy hc
  refine ⟨p1, p2, _, _, _, _, rfl, ⟨h1, h2, s1.2.1, s1.2.2, s2.2.1, s2.2.2, s1.1.1, s2.1.1⟩, Int.ne_of_gt (Int.mul_pos s1.1.1 hpos), fun b nb => ?_⟩
  obtain ⟨y1, y2⟩ := qv_rO s1.1 s2.1 hpos
  have e9 := same_new (o := HO.tup [.int (rO (rdq x) (rdq y)).1, .int (rO (rdq x) (rdq y)).2]) nb
  have ep : rO (rdq x) (rdq y) = rdq (x / y) := is_rdq y1 (by rw [y2, qv_rdq, qv_rdq])
  refine q b _ e9 ?_
  rw [← ep]
  exact SqT.of upd_same
theorem plus_go {p1 p2 : Addr} {x y : Rat} {Q : VK} (h1 : RAt K H p1 (rdq x)) (h2 : RAt K H p2 (rdq y)) (s1 : SmR 3000 (rdq x)) (s2 : SmR 3000 (rdq y)) (q : ∀ r H', Same H H' → RAt K H' r (rdq (x + y)) → Q (.ref r) H') : spTwo K (fun a b c d => a * d + c * b) [.ref p1, .ref p2] H Q E0 := by
  refine ⟨p1, p2, _, _, _, _, rfl, ⟨h1, h2, s1.2.1, s1.2.2, s2.2.1, s2.2.2, s1.1.1, s2.1.1⟩, fun b nb => ?_⟩
  have e := same_new (o := HO.tup [.int (rP (rdq x) (rdq y)).1, .int (rP (rdq x) (rdq y)).2]) nb
  obtain ⟨y1, y2⟩ := qv_rP s1.1 s2.1.1
  have ep : rP (rdq x) (rdq y) = rdq (x + y) := is_rdq y1 (by rw [y2, qv_rdq, qv_rdq])
  refine q b _ e ?_
  rw [← ep]
  exact SqT.of upd_same
/-- a whole number as a ratio -/
theorem int_rat {p : Addr} {n : Nat} (h : SqT K H p [.int (n : Int), .int 1]) : RAt K H p (rdq ((n : Int) : Rat)) := by
  have e : ((n : Int), (1 : Int)) = rdq ((n : Int) : Rat) := by
    refine is_rdq ⟨by show (0 : Int) < 1; decide, by show Int.gcd (n : Int) 1 = 1; simp⟩ ?_
    unfold qv
    show ((n : Int) : Rat) / ((1 : Int) : Rat) = _
    show ((n : Int) : Rat) / (1 : Rat) = _
    grind
  rw [← e]
  exact h
theorem int_smr {n : Nat} (h : n < 1000) : SmR 3000 (rdq ((n : Int) : Rat)) := by
  have e : ((n : Int), (1 : Int)) = rdq ((n : Int) : Rat) := by
    refine is_rdq ⟨by show (0 : Int) < 1; decide, by show Int.gcd (n : Int) 1 = 1; simp⟩ ?_
    unfold qv
    show ((n : Int) : Rat) / (1 : Rat) = _
    grind
  rw [← e]
  refine SmR.mono (n := 10) ⟨⟨by show (0 : Int) < 1; decide, by show Int.gcd (n : Int) 1 = 1; simp⟩, ?_, by unfold Sm; show (1 : Nat) < 2 ^ 10; decide⟩ (by decide)
  unfold Sm
  show (n : Int).natAbs < 2 ^ 10
  omega
end

end Fp

set_option Elab.async false
set_option linter.all false
set_option maxRecDepth 100000
set_option maxHeartbeats 4000000
set_option exponentiation.threshold 10000
namespace Fp
open PySem PySem.Spec PyProof.Rows L2
/-! ### moments, means, the square's, the round -/
theorem over_ls {P : Int} {s k : Nat} {xs : List RT} (hP : 0 < P) (sP : Sm s P) (h : ∀ x ∈ xs, ∃ q, x = rdq q ∧ Sz P k q) (hl : xs.length ≤ 1000) : Over1 (s + k + 1) s P xs := by
  refine ⟨hP, sP, fun x hx => ?_, hl⟩
  obtain ⟨q, rfl, z⟩ := h x hx
  obtain ⟨h1, h2, h3⟩ := z.red hP sP
  exact ⟨(rdq_red _).1, h1, h2⟩
theorem sum_app_rat (xs ys : List Rat) : (xs ++ ys).sum = xs.sum + ys.sum := by
  induction xs with
  | nil =>
    show ys.sum = 0 + ys.sum
    grind
  | cons x r ih =>
    show x + (r ++ ys).sum = (x + r.sum) + ys.sum
    rw [ih]
    grind
theorem red_at {K : PySem.W.Frag} {H : Hp} {p : Addr} {x : RT} (h : RAt K H p x) (r : Red x) : RAt K H p (rdq (qv x)) := by
  rw [← red_rdq r]
  exact h
section
variable {P : Program} {w : World} {K : PySem.W.Frag} {mg : Str → Option Value} {base : Heap} {aN aO : Addr}
def spMom (K : PySem.W.Frag) : Sp := fun vs H Q _ => ∃ (p : Addr) (row : List RT) (step : RT) (W : Int), vs = [.ref p] ∧ LifeAt K H p row step ∧ ML row step W ∧
  ∀ z a b c H', Same H H' → SqT K H' z [.ref a, .ref b, .ref c] → RAt K H' a (rdq (behQ row step)) → RAt K H' b (rdq (firstQ row step)) → RAt K H' c (rdq (secondQ row step)) → Q (.ref z) H'
def spMean (K : PySem.W.Frag) : Sp := fun vs H Q _ => ∃ (p : Addr) (row : List RT) (step : RT) (W : Int), vs = [.ref p] ∧ LifeAt K H p row step ∧ ML row step W ∧
  ∀ v H', Same H H' → MV K H' v (rowQ row + behQ row step) (meanQ row step) → Q v H'
def spMsq (K : PySem.W.Frag) : Sp := fun vs H Q _ => ∃ (p : Addr) (row : List RT) (step : RT) (W : Int), vs = [.ref p] ∧ LifeAt K H p row step ∧ ML row step W ∧
  ∀ v H', Same H H' → MV K H' v (rowQ row + behQ row step) (msqQ row step) → Q v H'
/-- the items of a row, by values -/
theorem row_item {H HE : Hp} {pr : Addr} {row : List RT} {step : RT} {W : Int} (M : ML row step W) {rs : List Addr} (r2 : RsAt K H rs row) (sE : Same H HE) {i : Nat} {x : V} (hi : i < row.length) (e : (rs.map V.ref)[i]? = some x) : ∃ r, x = .ref r ∧ RAt K HE r (rdq (chR row step i)) ∧ SmR 3000 (rdq (chR row step i)) ∧ Sz W 0 (chR row step i) := by
  have hg : row[i]? = some row[i] := List.getElem?_eq_getElem hi
  obtain ⟨r, e1, e2⟩ := r2.get hg
  rw [List.getElem?_map, e1] at e
  have hm := List.getElem_mem hi
  rw [chR_in hg]
  refine ⟨r, (Option.some.inj e).symm, red_at (e2.tk (Tk.same sE)) (M.ok.sm _ hm).1, ?_, M.rowz hm⟩
  rw [← red_rdq (M.ok.sm _ hm).1]
  exact (M.ok.sm _ hm).mono (by decide)
/-- the greatest that divides all -/
def gR (a : Nat → Rat) : Nat → Nat
  | 0 => 0
  | i + 1 => if a i = 0 then gR a i else Nat.gcd (gR a i) (i + 1)
def roundN (row : List RT) (step : RT) : Nat := if behQ row step = 0 then gR (chR row step) row.length else Nat.gcd (gR (chR row step) row.length) (row.length + 1)
def spRound (K : PySem.W.Frag) : Sp := fun vs H Q _ => ∃ (p : Addr) (row : List RT) (step : RT) (W : Int), vs = [.ref p] ∧ LifeAt K H p row step ∧ ML row step W ∧ ∀ H', Same H H' → Q (.int ((roundN row step : Nat) : Int)) H'
end

end Fp

set_option Elab.async false
set_option linter.all false
set_option maxRecDepth 100000
set_option maxHeartbeats 4000000
set_option exponentiation.threshold 10000
namespace Fp
open PySem PySem.Spec PyProof.Rows L2
/-! ### the law's own means -/
theorem abel1 (a : Nat → Rat) (n : Nat) : (sumTo n fun k => (((k + 1 : Nat) : Int) : Rat) * a k) + (sumTo n fun k => sumTo k a) = ((n : Int) : Rat) * sumTo n a := by
  induction n with
  | zero =>
    show (0 : Rat) + 0 = 0 * 0
    grind
  | succ n ih =>
    rw [sumTo_succ, sumTo_succ (n := n) (f := fun k => sumTo k a), sumTo_succ (n := n) (f := a)]
    rw [show (((n + 1 : Nat) : Int)) = (n : Int) + 1 by omega, Rat.intCast_add]
    show _ + ((n : Int) + (1 : Rat)) * a n + _ = ((n : Int) + (1 : Rat)) * _
    grind
theorem abel2 (a : Nat → Rat) (n : Nat) : (sumTo n fun k => ((((k + 1) * (k + 1) : Nat) : Int) : Rat) * a k) + (sumTo n fun k => (((2 * k + 1 : Nat) : Int) : Rat) * sumTo k a) = (((n * n : Nat) : Int) : Rat) * sumTo n a := by
  induction n with
  | zero =>
    show (0 : Rat) + 0 = 0 * 0
    grind
  | succ n ih =>
    rw [sumTo_succ, sumTo_succ (n := n) (f := fun k => (((2 * k + 1 : Nat) : Int) : Rat) * sumTo k a), sumTo_succ (n := n) (f := a)]
    have e1 : ((((n + 1) * (n + 1) : Nat) : Int) : Rat) = (((n * n : Nat) : Int) : Rat) + (((2 * n + 1 : Nat) : Int) : Rat) := by
      rw [← Rat.intCast_add]
      congr 1
      have : (n + 1) * (n + 1) = n * n + (2 * n + 1) := by
        rw [Nat.add_mul, Nat.mul_add]
        omega
      omega
    rw [e1]
    grind
theorem ones (n : Nat) : (sumTo n fun _ => (1 : Rat)) = ((n : Int) : Rat) := by
  induction n with
  | zero => rfl
  | succ n ih =>
    rw [sumTo_succ, ih, show (((n + 1 : Nat) : Int)) = (n : Int) + 1 by omega, Rat.intCast_add]
    rfl
theorem odds (n : Nat) : (sumTo n fun k => (((2 * k + 1 : Nat) : Int) : Rat)) = (((n * n : Nat) : Int) : Rat) := by
  induction n with
  | zero => rfl
  | succ n ih =>
    rw [sumTo_succ, ih, ← Rat.intCast_add]
    congr 1
    have : (n + 1) * (n + 1) = n * n + (2 * n + 1) := by
      rw [Nat.add_mul, Nat.mul_add]
      omega
    omega
theorem rowQ_to (row : List RT) (step : RT) : ∀ k, k ≤ row.length → rowQ (row.take k) = sumTo k (chR row step)
  | 0, _ => rfl
  | k + 1, h => by
    have hg : row[k]? = some row[k] := List.getElem?_eq_getElem (by omega)
    rw [List.take_add_one, hg, sumTo_succ, chR_in hg, ← rowQ_to row step k (by omega)]
    exact rowQ_snoc _ _
theorem restR_le {row : List RT} {step : RT} {k : Nat} (h : k ≤ row.length) : restR row step k = (rowQ row + behQ row step) - sumTo k (chR row step) := by
  rw [← rowQ_to row step k h]
  have e : rowQ row = rowQ (row.take k) + rowQ (row.drop k) := by
    unfold rowQ
    conv => lhs; rw [← List.take_append_drop k row]
    rw [List.map_append, sum_app_rat]
  have e2 : restR row step k = rowQ (row.drop k) + behQ row step := by
    unfold restR behQ
    congr 1
    generalize row.getLast? = o
    cases o with
    | none => rfl
    | some l =>
      show qv l * qv step ^ (1 + (k - row.length)) / (1 - qv step) = _
      rw [show 1 + (k - row.length) = 0 + 1 by omega, Rat.pow_succ, Rat.pow_zero]
      grind
  rw [e2, e]
  grind
section
variable {P : Program} {w : World} {K : PySem.W.Frag} {mg : Str → Option Value} {base : Heap}
theorem lsum_ls {H : Hp} {Q : VK} {p : Addr} {xs : List RT} {P : Int} {s k : Nat} (h : LsM K H p xs) (hP : 0 < P) (sP : Sm s P) (z : ∀ x ∈ xs, ∃ q, x = rdq q ∧ Sz P k q) (hl : xs.length ≤ 900) (hs : s ≤ 2500) (hk : k ≤ 900)
    (q : ∀ r H', Same H H' → RAt K H' r (rdq (xs.map qv).sum) → Q (.ref r) H') : spLsum K LstAt [.ref p] H Q E0 := by
  obtain ⟨rs, h1, h2⟩ := h
  refine ⟨p, _, _, _, P, rfl, ⟨rs, SqL.of h1, h2⟩, over_ls hP sP z (by omega), by omega, by omega, fun y x HF sF hy rx vx _ _ => ?_⟩
  rw [is_rdq rx vx] at hy
  exact q y HF sF hy
theorem low_go {H : Hp} {Q : VK} {t b : Int} {v : Rat} (hb : 0 < b) (s8 : Sm 8000 b) (e : ((t : Int) : Rat) = v * (b : Rat)) (q : ∀ r H', Same H H' → RAt K H' r (rdq v) → Q (.ref r) H') : spLow [.int t, .int b] H Q E0 := by
  refine ⟨t, b, rfl, hb, s8, fun p np => ?_⟩
  have hc := cast_ne (Int.ne_of_gt hb)
  have ex : low2 t b = rdq v := by
    refine is_rdq (low2_red (Int.ne_of_gt hb)) ?_
    rw [qv_low2 hb, e]
    grind
  refine q p _ (same_new np) ?_
  rw [← ex]
  exact SqT.of upd_same
def spLmeans (K : PySem.W.Frag) : Sp := fun vs H Q _ => ∃ (p : Addr) (row : List RT) (step : RT) (W : Int), vs = [.ref p] ∧ LifeAt K H p row step ∧ ML row step W ∧
  ∀ z m s H', Same H H' → SqT K H' z [m, s] → MV K H' m (rowQ row + behQ row step) (meanQ row step) → MV K H' s (rowQ row + behQ row step) (msqQ row step) → Q (.ref z) H'
end

end Fp

set_option Elab.async false
set_option linter.all false
set_option maxRecDepth 100000
set_option maxHeartbeats 4000000
set_option exponentiation.threshold 10000
namespace Fp
open PySem PySem.Spec PyProof.Rows L2
/-! ### enumerate(xs) of a tuple -/
theorem enum1_meets {y : Value} {ob : Obj} {Hh : Heap → Prop} (B : Begins y ob Hh) :
    Meets (Builtin.«enumerate.__new__» ⟨[.type "enumerate", y], []⟩) (fun _ R0 st => Hh st.heap ∧
      R0 (.ok (.ret (.ref (st.heap.push ob).objs.size))) { st with heap := (st.heap.push ob).push { cls := .type "enumerate", data := .fields #[.none, .bool false, .ref st.heap.objs.size, rawInt 0, .none, .none] } }) :=
  .of_wp fun pr wo Ar Rr st hst => by
    obtain ⟨hh, gg, dd, kk, oo⟩ := st
    obtain ⟨b1, b2⟩ := hst
    have subE := sub_enumerate
    have goes : ∀ {A2 : Around} {E2 : Value → Shared → Prop} {Q2 : Value → Shared → Prop}, Q2 (.ref hh.objs.size) ⟨hh.push ob, gg, dd, kk, oo⟩ → wpAny (model pr wo) A2 (pyIter y) Q2 E2 ⟨hh, gg, dd, kk, oo⟩ :=
      fun q2 => B.iter pr wo _ _ ⟨hh, gg, dd, kk, oo⟩ _ b1 q2
    wp_walk using goes
    refine wpAny_stack_any fun sk => wpAny_pure ?_
    split
    · rename_i cc _ _ _ _ _
      cases (cc == Value.type "enumerate")
      · wp_walk using goes
        exact ⟨_, rfl, b2⟩
      · wp_walk using goes
        exact ⟨_, rfl, b2⟩
    · wp_walk using goes
      exact ⟨_, rfl, b2⟩
theorem enum1_begins {prog : Program} {w : World} {A : Around} {F0 : Value → Shared → Prop} {st : Shared} {y : Value} {ob : Obj} {Hh : Heap → Prop} {Q0 : Value → Shared → Prop} (B : Begins y ob Hh) (b1 : Hh st.heap)
    (go : ∀ h2, IsEnum h2 (st.heap.objs.size + 1) st.heap.objs.size 0 .none → h2.get? st.heap.objs.size = some ob → (∀ b o, st.heap.get? b = some o → h2.get? b = some o) → Q0 (.ref (st.heap.objs.size + 1)) { st with heap := h2 }) :
    wpAny (model prog w) A (call (.type "enumerate") [y]) Q0 F0 st := by
  refine callType_new F.called_enumerate (by decide) (F.typeCall_enumerate_1 _) (F.newCall_enumerate_1 _) (fun z => F.args_object_init_2 z _) F.entry_enumerate_new (enum1_meets B) ⟨b1, ?_⟩
  have sz : (st.heap.push ob).objs.size = st.heap.objs.size + 1 := Heap.size_push ..
  show _ ∧ _
  rw [sz]
  have is : IsEnum ((st.heap.push ob).push { cls := .type "enumerate", data := .fields #[.none, .bool false, .ref st.heap.objs.size, rawInt 0, .none, .none] }) (st.heap.objs.size + 1) st.heap.objs.size 0 .none := by
    have z := Heap.get?_push_size (st.heap.push ob) (o := { cls := .type "enumerate", data := .fields #[.none, .bool false, .ref st.heap.objs.size, rawInt 0, .none, .none] }) rfl
    rw [sz] at z
    exact z
  exact ⟨⟨_, is, rfl⟩, go _ is (Heap.get?_push_of_some _ (Heap.get?_push_size _ B.free)) fun b o x => Heap.get?_push_of_some _ (Heap.get?_push_of_some _ x)⟩
theorem pi_eT {X : Cx} {e : Expr} {ta : TA} {p pos tpos : Pos} {elts : List Expr} {kk : Nat} (hg : Gl X "enumerate") (hm : X.mg "enumerate" = none) (ha : PA X [e] ta) (hs : starEach [e] X.env = [(false, eval e X.env)] := by rfl) :
    PI X (.Tuple elts kk tpos) (.Call (.Name "enumerate" p) [e] [] pos) (iQT X.K 0 ta) := by
  refine ⟨fun pn s sl H R I h => Call_ (ld_blt I hg hm boot_enumerate (PyProof.Rows.callWith_type1 (thn (ha.run pos pn s sl H _ I h) fun us s2 z2 => ?_) hs rfl))⟩
  obtain ⟨vs, H2, I2, r1, a, xs, rfl, sq, q⟩ := z2
  cases r1 with
  | cons ra rn =>
    cases rn
    cases ra
    obtain ⟨us, rv, po, _⟩ := I2.tuple sq
    have oa : s2.heap.IsTuple a us.toArray := po
    refine enum1_begins (begins_tuple a us.toArray) oa fun h2 ee oi kp2 => wpAny_pyIter_enum ee ?_
    have I3 : Inv X pn sl H2 { s2 with heap := h2 } := I2.kept (t' := s2.toks) kp2
    refine ⟨s2.heap.objs.size + 1, [s2.heap.objs.size + 1, s2.heap.objs.size], _, _, H2, rfl, I3, turn_qT 0 a (s2.heap.objs.size + 1) s2.heap.objs.size, ⟨⟨.none, ?_⟩, ⟨_, oi, rfl, rfl⟩, Nat.succ_ne_self _⟩, fun b hb => ?_, q⟩
    · rw [show (0 : Int) + ((0 : Nat) : Int) = 0 by omega]
      exact ee
    · have lb : s2.heap.objs.size ≤ b := by
        rcases (show b = s2.heap.objs.size + 1 ∨ b = s2.heap.objs.size by simpa using hb) with z | z
        · rw [z]
          exact Nat.le_add_right _ _
        · rw [z]
          exact Nat.le_refl _
      exact I2.fpOk lb (I2.hok.fresh lb)

end Fp

set_option Elab.async false
set_option linter.all false
set_option maxRecDepth 100000
set_option maxHeartbeats 4000000
set_option exponentiation.threshold 10000
namespace Fp
open PySem PySem.Spec PyProof.Rows L2
/-! ### lives that end -/
/-- a row that ends, its chances by one small number -/
structure BR (row : List RT) : Prop where
  w : ∃ W : Int, 0 < W ∧ Sm 10 W ∧ ∀ y ∈ row, y.2 ∣ W
  q : ∀ x ∈ row, 0 ≤ qv x ∧ qv x ≤ 1
  sm : ∀ x ∈ row, SmR 10 x
theorem BR.nil : BR [] := ⟨⟨1, by decide, by unfold Sm; decide, fun y hy => by simp at hy⟩, fun x hx => by simp at hx, fun x hx => by simp at hx⟩
theorem BR.app {row xs : List RT} (h : BR row) (hx : ∀ x ∈ xs, x = (0, 1)) : BR (row ++ xs) ∧ BR (xs ++ row) := by
  obtain ⟨⟨W, w1, w2, w3⟩, q, sm⟩ := h
  have z1 : ∀ x ∈ xs, x.2 ∣ W ∧ (0 ≤ qv x ∧ qv x ≤ 1) ∧ SmR 10 x := fun x h => by
    rw [hx x h, qv_nought]
    exact ⟨Int.one_dvd _, ⟨Rat.le_refl, by decide⟩, nought_sm (by decide)⟩
  have key : ∀ x, x ∈ row ∨ x ∈ xs → x.2 ∣ W ∧ (0 ≤ qv x ∧ qv x ≤ 1) ∧ SmR 10 x := fun x h => by
    rcases h with h | h
    · exact ⟨w3 x h, q x h, sm x h⟩
    · exact z1 x h
  refine ⟨⟨⟨W, w1, w2, fun y hy => (key y (List.mem_append.mp hy)).1⟩, fun x hx => (key x (List.mem_append.mp hx)).2.1, fun x hx => (key x (List.mem_append.mp hx)).2.2⟩, ⟨⟨W, w1, w2, fun y hy => (key y (List.mem_append.mp hy).symm).1⟩, fun x hx => (key x (List.mem_append.mp hx).symm).2.1, fun x hx => (key x (List.mem_append.mp hx).symm).2.2⟩⟩
section
variable {P : Program} {w : World} {K : PySem.W.Frag} {mg : Str → Option Value} {base : Heap}
end

end Fp

set_option Elab.async false
set_option linter.all false
set_option maxRecDepth 100000
set_option maxHeartbeats 4000000
set_option exponentiation.threshold 10000
namespace Fp
open PySem PySem.Spec PyProof.Rows L2
/-! ### tuples on one bottom -/
section
variable {K : PySem.W.Frag} {H : Hp} {Q : VK}
theorem oobT_go {p : Addr} {m s k : Nat} {A : Nat → Rat} {P : Int} (h : RowAt K H p (mkL m A)) (hP : 0 < P) (sP : Sm s P) (z : ∀ j, j < m → Sz P k (A j)) (hm : m ≤ 900) (hs : s ≤ 2500) (hk : k ≤ 900)
    (q : ∀ z zl c T H', Same H H' → H' z = some (.tup [.ref zl, .int c]) → IntL H' zl m T → 0 < c → c ∣ P → Sm s c → (∀ j, j < m → ((T j : Int) : Rat) = (c : Rat) * A j) → (∀ j, j < m → Sm (2 * s + k + 1) (T j)) → Q (.ref z) H') : spOobT K [.ref p] H Q E0 := by
  have O := over_mkL hP sP z (show m ≤ 1000 by omega)
  refine ⟨p, _, _, _, _, rfl, h, O, by omega, by omega, fun z1 zl c H' s1 hz hzl c0 cD hc => ?_⟩
  have hl : (mkL m A).length = m := mkL_len
  refine q z1 zl c (getI (topsOn c (mkL m A))) H' s1 hz ?_ c0 cD (dvd_small cD hP sP) (fun j hj => ?_) (fun j hj => ?_)
  · have e := is_mkI (xs := topsOn c (mkL m A))
    rw [tops_len, hl] at e
    unfold IntL
    rw [← e]
    exact hzl
  · rw [tops_val c0 (by rw [hl]; exact hj) fun x hx => ⟨(O.ok x hx).1, hc x hx⟩, qa_mkL hj]
  · have := tops_each (n := s + k + 1) O.pos cD O.sm (xs := mkL m A) (j := j) (by rw [hl]; exact hj) fun x hx => (O.ok x hx).2.2
    exact this.mono (by omega)
end

end Fp

set_option Elab.async false
set_option linter.all false
set_option maxRecDepth 100000
set_option maxHeartbeats 4000000
set_option exponentiation.threshold 10000
namespace Fp
open PySem PySem.Spec PyProof.Rows L2
/-! ### crossed: each with each -/
def crossQ (A B : Nat → Rat) (m n i : Nat) : Rat := sumTo m fun k => if k ≤ i ∧ i < k + n then A k * B (i - k) else 0
def cJ (T U : Nat → Int) (n kk jj i : Nat) : Int := (mkI kk fun k => if k ≤ i ∧ i < k + n then T k * U (i - k) else 0).sum + if kk ≤ i ∧ i < kk + jj then T kk * U (i - kk) else 0
theorem sumI_snoc (xs : List Int) (x : Int) : (xs ++ [x]).sum = xs.sum + x := by
  rw [List.sum_append]
  show xs.sum + (x + 0) = _
  omega
theorem cJ_full {T U : Nat → Int} {n kk i : Nat} : cJ T U n kk n i = cJ T U n (kk + 1) 0 i := by
  unfold cJ
  rw [mkI_succ, sumI_snoc, if_neg (show ¬ (kk + 1 ≤ i ∧ i < kk + 1 + 0) by omega)]
  omega
theorem cJ_step {T U : Nat → Int} {n kk jj i : Nat} : cJ T U n kk (jj + 1) i = if i = kk + jj then cJ T U n kk jj i + T kk * U jj else cJ T U n kk jj i := by
  unfold cJ
  by_cases z : i = kk + jj
  · rw [if_pos z, if_pos (by omega), if_neg (by omega), show i - kk = jj by omega]
    omega
  · rw [if_neg z]
    congr 1
    by_cases y : kk ≤ i ∧ i < kk + jj
    · rw [if_pos y, if_pos (by omega)]
    · rw [if_neg y, if_neg (by omega)]
theorem cJ_zero {T U : Nat → Int} {n i : Nat} : cJ T U n 0 0 i = 0 := by
  unfold cJ
  rw [if_neg (by omega)]
  rfl
theorem cJ_val {T U : Nat → Int} {A B : Nat → Rat} {c e : Int} {m n i : Nat} (hT : ∀ j, j < m → ((T j : Int) : Rat) = (c : Rat) * A j) (hU : ∀ j, j < n → ((U j : Int) : Rat) = (e : Rat) * B j) : ((cJ T U n m 0 i : Int) : Rat) = crossQ A B m n i * ((c * e : Int) : Rat) := by
  unfold cJ
  rw [if_neg (by omega), Int.add_zero, mkI_sum]
  have h : (sumTo m fun k => (((if k ≤ i ∧ i < k + n then T k * U (i - k) else 0 : Int)) : Rat)) = ((c : Rat) * (e : Rat)) * crossQ A B m n i := by
    unfold crossQ
    rw [sumTo_mul]
    refine sumTo_congr fun k hk => ?_
    split
    · rw [Rat.intCast_mul, hT k hk, hU (i - k) (by omega)]
      grind
    · show (0 : Rat) = _ * 0
      grind
  rw [h, Rat.intCast_mul]
  grind
theorem mkI_set {n i : Nat} {g : Nat → Int} {v : Int} : (mkI n g).set i v = mkI n fun m => if m = i then v else g m := by
  refine List.ext_getElem (by rw [List.length_set, mkI_len, mkI_len]) fun m h1 h2 => ?_
  rw [List.getElem_set]
  have hm : m < n := by
    rw [mkI_len] at h2
    exact h2
  have e : ∀ (f : Nat → Int) (h : m < (mkI n f).length), (mkI n f)[m] = f m := fun f h => by
    have := mkI_at (f := f) hm
    rw [List.getElem?_eq_getElem h] at this
    exact Option.some.inj this
  rw [e (fun m => if m = i then v else g m)]
  by_cases z : i = m
  · rw [if_pos z, if_pos z.symm]
  · rw [if_neg z, if_neg fun y => z y.symm, e]
section
variable {P : Program} {w : World} {K : PySem.W.Frag} {mg : Str → Option Value} {base : Heap}
def spCrossedTT (K : PySem.W.Frag) : Sp := fun vs H Q _ => ∃ (p t : Addr) (m n s1 k1 s2 k2 : Nat) (A B : Nat → Rat) (P1 P2 : Int), vs = [.ref p, .ref t] ∧ RowAt K H p (mkL m A) ∧ RowAt K H t (mkL n B) ∧ (0 < P1 ∧ Sm s1 P1 ∧ ∀ j, j < m → Sz P1 k1 (A j)) ∧ (0 < P2 ∧ Sm s2 P2 ∧ ∀ j, j < n → Sz P2 k2 (B j)) ∧ (m ≤ 100 ∧ n ≤ 100) ∧ (0 < s1 ∧ s1 ≤ 2500 ∧ k1 ≤ 900 ∧ 0 < s2 ∧ s2 ≤ 2500 ∧ k2 ≤ 900) ∧
  ∀ z H', Same H H' → LsM K H' z (mkL (m + n - 1) (crossQ A B m n)) → Q (.ref z) H'
end

end Fp

set_option Elab.async false
set_option linter.all false
set_option maxRecDepth 100000
set_option maxHeartbeats 4000000
set_option exponentiation.threshold 10000
namespace Fp
open PySem PySem.Spec PyProof.Rows L2
/-! ### tables: what they hold -/
theorem tk_dk {K : PySem.W.Frag} {H : Hp} {p : Addr} {xs ys : List (Key × V)} (h : H p = some (.dK xs)) : Tk K H (upd H p (.dK ys)) := fun a zs z => by
  rcases z with (z | ⟨o, z⟩) | z
  · exact .inl (.inl (by rw [upd_ne (ne_of z h (by intro y; cases y))]; exact z))
  · exact .inl (.inr ⟨o, by rw [upd_ne (ne_of z h (by intro y; cases y))]; exact z⟩)
  · exact .inr z
/-- a table: each number's chance -/
def TbA (K : PySem.W.Frag) (H : Hp) (T : Addr) (n : Nat) (F : Nat → Rat) : Prop := ∃ kvs : List (Key × V), H T = some (.dK kvs) ∧ kvs.length ≤ n ∧ (∀ kv ∈ kvs, ∃ k : Nat, kv.1 = .inl (k : Int) ∧ k ≤ 60) ∧
  ∀ k : Nat, (valV kvs (.inl (k : Int)) = none ∧ F k = 0) ∨ ∃ r, valV kvs (.inl (k : Int)) = some (.ref r) ∧ RAt K H r (rdq (F k))
section
variable {K : PySem.W.Frag} {H H' : Hp} {T : Addr} {n : Nat} {F : Nat → Rat}
theorem TbA.same (h : TbA K H T n F) (s : Same H H') : TbA K H' T n F := by
  obtain ⟨kvs, h1, h2, h3, h4⟩ := h
  refine ⟨kvs, s _ _ h1, h2, h3, fun k => ?_⟩
  rcases h4 k with z | ⟨r, z1, z2⟩
  · exact .inl z
  · exact .inr ⟨r, z1, z2.tk (Tk.same s)⟩
theorem TbA.nil : TbA K (upd H T (.dK [])) T 0 (fun _ => 0) := ⟨[], upd_same, Nat.le_refl _, fun kv h => by simp at h, fun k => .inl ⟨rfl, rfl⟩⟩
theorem TbA.congr {G : Nat → Rat} (h : TbA K H T n F) (e : ∀ k, G k = F k) : TbA K H T n G := by
  rw [funext e]
  exact h
theorem TbA.get (h : TbA K H T n F) (k : Nat) {z : Addr} (hz : RAt K H z (0, 1)) : ∃ o r, DGet H T (.int (k : Int)) o ∧ o.getD (.ref z) = .ref r ∧ RAt K H r (rdq (F k)) := by
  obtain ⟨kvs, h1, h2, h3, h4⟩ := h
  rcases h4 k with ⟨z1, z2⟩ | ⟨r, z1, z2⟩
  · refine ⟨_, z, DGet.k (k := .inl (k : Int)) h1, ?_, ?_⟩
    · rw [z1]
      rfl
    · rw [z2, rdq_zero.mpr rfl]
      exact hz
  · refine ⟨_, r, DGet.k (k := .inl (k : Int)) h1, ?_, z2⟩
    rw [z1]
    rfl
theorem mem_put {kvs : List (Key × V)} {k : Key} {v : V} : ∀ kv ∈ putK kvs k v, kv.1 = k ∨ ∃ u ∈ kvs, u.1 = kv.1 := by
  intro kv h
  unfold putK at h
  split at h
  · obtain ⟨u, hu, e⟩ := List.mem_map.mp h
    refine .inr ⟨u, hu, ?_⟩
    rw [← e]
    split <;> rfl
  · rcases List.mem_append.mp h with z | z
    · exact .inr ⟨kv, z, rfl⟩
    · rw [List.mem_singleton.mp z]
      exact .inl rfl
theorem TbA.put (h : TbA K H T n F) {k : Nat} {r : Addr} {v : Rat} (hk : k ≤ 60) (hn : n ≤ 900) (hr : RAt K H r (rdq v)) : ∃ H', DPut H T (.int (k : Int)) (.ref r) H' ∧ TbA K H' T (n + 1) (fun j => if j = k then v else F j) ∧ Tk K H H' ∧ ∀ b, b ≠ T → H' b = H b := by
  obtain ⟨kvs, h1, h2, h3, h4⟩ := h
  have tk : Tk K H (upd H T (.dK (putK kvs (.inl (k : Int)) (.ref r)))) := tk_dk h1
  refine ⟨_, DPut.k (k := .inl (k : Int)) h1 (by rw [sizeLine_eq]; omega), ⟨_, upd_same, ?_, fun kv hkv => ?_, fun j => ?_⟩, tk, fun b hb => upd_ne hb⟩
  · have := length_putK kvs (.inl (k : Int)) (.ref r)
    omega
  · rcases mem_put kv hkv with z | ⟨u, hu, z⟩
    · exact ⟨k, z, hk⟩
    · rw [← z]
      exact h3 u hu
  · rw [valV_put]
    dsimp only
    rcases Classical.em (j = k) with z | z
    · rw [if_pos (by rw [z]), if_pos z]
      exact .inr ⟨r, rfl, hr.tk tk⟩
    · rw [if_neg (by intro e; apply z; have := Sum.inl.inj e; omega), if_neg z]
      rcases h4 j with y | ⟨r2, y1, y2⟩
      · exact .inl y
      · exact .inr ⟨r2, y1, y2.tk tk⟩
end
/-! ### each with each, one after another -/
def crossP (A B : Nat → Rat) (n jj kk i : Nat) : Rat := (sumTo jj fun k => if k ≤ i ∧ i < k + n then A k * B (i - k) else 0) + if jj ≤ i ∧ i < jj + kk then A jj * B (i - jj) else 0
theorem crossP_zero (A B : Nat → Rat) (n i : Nat) : crossP A B n 0 0 i = 0 := by
  unfold crossP
  rw [sumTo_zero, if_neg (by omega)]
  grind
theorem crossP_full (A B : Nat → Rat) (n jj i : Nat) : crossP A B n jj n i = crossP A B n (jj + 1) 0 i := by
  unfold crossP
  rw [sumTo_succ, if_neg (show ¬ (jj + 1 ≤ i ∧ i < jj + 1 + 0) by omega)]
  grind
theorem crossP_all (A B : Nat → Rat) (m n i : Nat) : crossP A B n m 0 i = crossQ A B m n i := by
  unfold crossP crossQ
  rw [if_neg (by omega)]
  grind
theorem crossP_step (A B : Nat → Rat) (n jj kk i : Nat) : crossP A B n jj (kk + 1) i = if i = jj + kk then crossP A B n jj kk i + A jj * B kk else crossP A B n jj kk i := by
  unfold crossP
  rcases Classical.em (i = jj + kk) with z | z
  · rw [if_pos z, if_pos (by omega), if_neg (by omega), show i - jj = kk by omega]
    grind
  · rw [if_neg z]
    congr 1
    rcases Classical.em (jj ≤ i ∧ i < jj + kk) with y | y
    · rw [if_pos y, if_pos (by omega)]
    · rw [if_neg y, if_neg (by omega)]
theorem crossQ_far (A B : Nat → Rat) {m n i : Nat} (h : m + n ≤ i + 1) : crossQ A B m n i = 0 := by
  unfold crossQ
  rw [sumTo_congr (g := fun _ => 0) fun k hk => if_neg (by omega), sumTo_nought]
/-- the table of two behind one another -/
def tabF (C : Nat → Rat) : Nat → Rat
  | 0 => 0
  | 1 => 0
  | i + 2 => C i
theorem tabF_put (C : Nat → Rat) (i : Nat) (v : Rat) : (fun j => if j = i + 2 then v else tabF C j) = tabF fun j => if j = i then v else C j := by
  funext j
  match j with
  | 0 =>
    rw [if_neg (by omega)]
    rfl
  | 1 =>
    rw [if_neg (by omega)]
    rfl
  | j + 2 =>
    show (if j + 2 = i + 2 then v else C j) = if j = i then v else C j
    rcases Classical.em (j = i) with z | z
    · rw [if_pos (by omega), if_pos z]
    · rw [if_neg (by omega), if_neg z]
theorem tabF_row (C : Nat → Rat) (i : Nat) : tabF C (i + 1) = laterF C i := by
  cases i <;> rfl
/-! ### rows told shorter or longer -/
theorem trim_mk {f : Nat → Rat} {m M : Nat} (h : m ≤ M) (hz : ∀ i, m ≤ i → f i = 0) : trimZ (mkL M f) = trimZ (mkL m f) := by
  obtain ⟨k, rfl⟩ : ∃ k, M = m + k := ⟨M - m, by omega⟩
  have e : mkL (m + k) f = mkL m f ++ List.replicate k (0, 1) := by
    induction k with
    | zero => rw [Nat.add_zero, List.replicate_zero, List.append_nil]
    | succ k ih => rw [← Nat.add_assoc, mkL_succ, ih (by omega), hz _ (by omega), rdq_zero.mpr rfl, List.append_assoc, List.replicate_succ']
  rw [e, trimZ_noughts]
theorem goes_none {row : List RT} : ¬ GoesOn row (0, 1) := by
  rcases snoc_cases row with z | ⟨ys, y, z⟩
  · rw [z]
    exact goes_nil
  · rw [z]
    intro h
    exact (goes_snoc.mp h).1 rfl
theorem short_row (row : List RT) : shortL row (0, 1) = (trimZ row, (0, 1)) := shortL_end goes_none
theorem nstep7 : StepOk 300 (0, 1) := ⟨nought_sm (by decide), by show (0 : Int) ≤ 0; decide, by show (0 : Int) < 1; decide⟩
/-! ### rows that end -/
theorem chR_far0' {row : List RT} {i : Nat} (h : row.length ≤ i) : chR row (0, 1) i = 0 := by
  rcases Classical.em (row = []) with z | z
  · rw [z, chR_nil]
  · obtain ⟨l, h1, _, _⟩ := last_is z
    rw [chR_out h h1, qv_nought, show i + 1 - row.length = (i - row.length) + 1 by omega, Rat.pow_succ]
    grind
theorem BR.sz {row : List RT} {W : Int} (h : BR row) (hW : 0 < W) (hd : ∀ y ∈ row, y.2 ∣ W) (k : Nat) : Sz W 0 (chR row (0, 1) k) := by
  rcases (by omega : k < row.length ∨ row.length ≤ k) with z | z
  · have hm := List.getElem_mem z
    rw [chR_in (List.getElem?_eq_getElem z)]
    obtain ⟨a, b⟩ := h.q _ hm
    exact Sz.pos ⟨_, qv_over (h.sm _ hm).1.1 (hd _ hm) hW⟩ a (by rw [Rat.pow_zero]; exact b)
  · rw [chR_far0' z]
    exact Sz.nought
theorem BR.mkl {row : List RT} (h : BR row) : row = mkL row.length (chR row (0, 1)) := by
  refine List.ext_getElem (by rw [mkL_len]) fun i h1 h2 => ?_
  have e := mkL_at (g := chR row (0, 1)) h1
  rw [List.getElem?_eq_getElem h2] at e
  rw [Option.some.inj e, chR_in (List.getElem?_eq_getElem h1), ← red_rdq (h.sm _ (List.getElem_mem h1)).1]
theorem BR.ok {row : List RT} (h : BR row) (hl : row.length ≤ 14) : LifeOk 20 row (0, 1) := ⟨fun x hx => (h.sm x hx).mono (by decide), ⟨nought_sm (by decide), by show (0 : Int) ≤ 0; decide, by show (0 : Int) < 1; decide⟩, by omega, by decide, by decide⟩
theorem crossQ_sz {A B : Nat → Rat} {P1 P2 : Int} (h1 : 0 < P1) (h2 : 0 < P2) (zA : ∀ k, Sz P1 0 (A k)) (zB : ∀ k, Sz P2 0 (B k)) {m n : Nat} (hm : m ≤ 100) (i : Nat) : Sz (P1 * P2) 7 (crossQ A B m n i) := by
  unfold crossQ
  refine Sz.sum (k := 0) (Int.mul_pos h1 h2) (fun k _ => ?_) (by omega)
  split
  · exact (zA k).mul h1 h2 (zB _)
  · exact Sz.nought
theorem crossP_sz {A B : Nat → Rat} {P1 P2 : Int} (h1 : 0 < P1) (h2 : 0 < P2) (zA : ∀ k, Sz P1 0 (A k)) (zB : ∀ k, Sz P2 0 (B k)) {jj n kk : Nat} (hm : jj ≤ 100) (i : Nat) : Sz (P1 * P2) 8 (crossP A B n jj kk i) := by
  unfold crossP
  refine Sz.add (k := 7) (Int.mul_pos h1 h2) (crossQ_sz h1 h2 zA zB hm i) ?_
  split
  · exact ((zA _).mul h1 h2 (zB _)).mono (by decide)
  · exact Sz.nought

end Fp

set_option Elab.async false
set_option linter.all false
set_option maxRecDepth 100000
set_option maxHeartbeats 4000000
set_option exponentiation.threshold 10000
namespace Fp
open PySem PySem.Spec PyProof.Rows L2
/-! ### tables of chances -/
section
variable {K : PySem.W.Frag}
/-- a comprehension each turn of which gives a new list of ratios -/
theorem lc_lsW {J : It} {n : Nat} {G : Hp → Prop} {Y : Nat → Hp → V → Hp → Prop} (w : Walk J n G Y) {g : TG} {te : TE} {vs : List Nat} {σ : L2.St} {H1 : Hp} (m : Nat) (f : Nat → Nat → Rat) (hn : n ≤ 900) (hG : ∀ HE, Same H1 HE → G HE)
    (hs : ∀ (k : Nat) (x : V) (HE HE' : Hp) (R : VK), k < n → Same H1 HE → Y k HE x HE' → (∀ r HF, Same HE HF → HE r = none → LsM K HF r (mkL m (f k)) → R (.ref r) HF) → g x (wipe σ vs) HE' fun σ2 H2 => wipe σ2 vs = wipe σ vs ∧ te σ2 H2 R)
    {Qd : Addr → Hp → Prop} (hd : ∀ D H2 (fs : List Addr), Same H1 H2 → H2 D = some (.lst (fs.map V.ref)) → fs.length = n → (∀ i r, fs[i]? = some r → LsM K H2 r (mkL m (f i))) → Qd D H2) : tLc (fun _ H2 R => R J H2) g tYes te vs σ H1 (refQ Qd) := by
  intro D nD
  have e1 := same_new (o := HO.lst []) nD
  refine lc_it w (fun k HE => ∃ fs : List Addr, Same H1 HE ∧ HE D = some (.lst (fs.map V.ref)) ∧ fs.length = k ∧ ∀ i r, fs[i]? = some r → r ≠ D ∧ LsM K HE r (mkL m (f i))) ⟨[], e1, upd_same, rfl, fun i r h => by simp at h⟩ ?_ ?_ ?_
  · rintro i HE _ ⟨_, sE, _⟩
    exact hG HE sE
  · rintro k x HE HE' hk ⟨fs, sE, hE, hfl, hfs⟩ hY
    refine hs k x HE HE' _ hk sE hY fun r HF sF nr hr => ?_
    have hE5 := sF _ _ hE
    have hrD : r ≠ D := fun z => by
      rw [z, hE] at nr
      cases nr
    have stay : ∀ b ys, b ≠ D → LsM K HF b ys → LsM K (upd HF D (.lst (fs.map V.ref ++ [.ref r]))) b ys := fun b ys hb h => by
      obtain ⟨as, h1, h2⟩ := h
      refine ⟨as, ?_, h2.tk (tk_lst hE5)⟩
      rw [upd_ne hb]
      exact h1
    refine ⟨_, hE5, by rw [List.length_map, hfl]; exact small1000 (by omega), fs ++ [r], ?_, ?_, by rw [List.length_append, hfl]; rfl, fun i q hq => ?_⟩
    · intro b2 o hb2
      rw [upd_ne (ne_of_none hb2 nD)]
      exact (sE.trans sF) _ _ hb2
    · rw [upd_same, List.map_append]
      rfl
    · rcases (by omega : i < fs.length ∨ i = fs.length ∨ fs.length < i) with z | z | z
      · rw [List.getElem?_append_left z] at hq
        obtain ⟨x1, x2⟩ := hfs i q hq
        exact ⟨x1, stay q _ x1 (x2.same sF)⟩
      · rw [z, List.getElem?_append_right (Nat.le_refl _), Nat.sub_self] at hq
        cases Option.some.inj hq
        rw [z, hfl]
        exact ⟨hrD, stay r _ hrD hr⟩
      · rw [List.getElem?_append_right (by omega), List.getElem?_eq_none (by simp; omega)] at hq
        cases hq
  · rintro HE ⟨fs, sE, hE, hfl, hfs⟩
    exact hd D HE fs sE hE hfl fun i r h => (hfs i r h).2
end

end Fp

set_option Elab.async false
set_option linter.all false
set_option maxRecDepth 100000
set_option maxHeartbeats 4000000
set_option exponentiation.threshold 10000
namespace Fp
open PySem PySem.Spec PyProof.Rows L2
/-! ### kinds -/
abbrev Tri := Nat × Nat × RT
def TriA (K : PySem.W.Frag) (H : Hp) (p : Addr) (y : Tri) : Prop := ∃ c : Addr, SqT K H p [.int ((y.1 : Nat) : Int), .int ((y.2.1 : Nat) : Int), .ref c] ∧ RAt K H c y.2.2
def KdA (K : PySem.W.Frag) (H : Hp) (p : Addr) (ys : List Tri) : Prop := ∃ rs : List Addr, SqT K H p (rs.map V.ref) ∧ Obs (TriA K) H rs ys
def KdsA (K : PySem.W.Frag) (H : Hp) (p : Addr) (ks : List (List Tri)) : Prop := ∃ rs : List Addr, SqT K H p (rs.map V.ref) ∧ Obs (KdA K) H rs ks
abbrev Mv := Nat × Tri
def MvA (K : PySem.W.Frag) (H : Hp) (p : Addr) (y : Mv) : Prop := ∃ c : Addr, SqT K H p [.int ((y.1 : Nat) : Int), .int ((y.2.1 : Nat) : Int), .int ((y.2.2.1 : Nat) : Int), .ref c] ∧ RAt K H c y.2.2.2
def movesFrom : Nat → List (List Tri) → List Mv
  | _, [] => []
  | k, ts :: r => ts.map (fun t => (k, t)) ++ movesFrom (k + 1) r
def folL (row : List RT) (f : Nat) : List Tri := (row.zipIdx.filter fun x => decide (x.1 ≠ (0, 1))).map fun x => (x.2 + 1, f, x.1)
section
variable {K : PySem.W.Frag}
theorem triA_stays : Stays K (TriA K) := fun H H' p y e h => by
  obtain ⟨c, h1, h2⟩ := h
  exact ⟨c, e _ _ h1, h2.tk e⟩
theorem kdA_stays : Stays K (KdA K) := fun H H' p y e h => by
  obtain ⟨c, h1, h2⟩ := h
  exact ⟨c, e _ _ h1, h2.tk triA_stays e⟩
theorem kdsA_stays : Stays K (KdsA K) := fun H H' p y e h => by
  obtain ⟨c, h1, h2⟩ := h
  exact ⟨c, e _ _ h1, h2.tk kdA_stays e⟩
theorem mvA_stays : Stays K (MvA K) := fun H H' p y e h => by
  obtain ⟨c, h1, h2⟩ := h
  exact ⟨c, e _ _ h1, h2.tk e⟩
/-- a comprehension with a test, each turn of which gives such an object -/
theorem lc_obsF {α β : Type} {At : Hp → Addr → β → Prop} (st : Stays K At) {J : It} {n : Nat} {G : Hp → Prop} {Y : Nat → Hp → V → Hp → Prop} (w : Walk J n G Y) {g : TG} {tt : TT} {te : TE} {vs : List Nat} {σ : L2.St} {H1 : Hp} (xs : List α) (f : α → β) (b : α → Bool) (hx : n = xs.length) (hn : n ≤ 900) (hG : ∀ HE, Same H1 HE → G HE)
    (hs : ∀ (k : Nat) (y : α) (x : V) (HE HE' : Hp) (R : VK) (N : Hp → Prop), xs[k]? = some y → Same H1 HE → Y k HE x HE' → (b y = true → ∀ r HF, Same HE HF → At HF r (f y) → R (.ref r) HF) → (b y = false → ∀ HF, Same HE HF → N HF) → g x (wipe σ vs) HE' fun σ2 H2 => wipe σ2 vs = wipe σ vs ∧ tt σ2 H2 fun bb H3 => if bb = true then te σ2 H3 R else N H3)
    {Qd : Addr → Hp → Prop} (hd : ∀ D H2, Same H1 H2 → OLs At H2 D ((xs.filter b).map f) → Qd D H2) : tLc (fun _ H2 R => R J H2) g tt te vs σ H1 (refQ Qd) := by
  intro D nD
  have e1 := same_new (o := HO.lst []) nD
  refine lc_it w (fun k HE => Same H1 HE ∧ ∃ rs : List Addr, HE D = some (.lst (rs.map V.ref)) ∧ Obs At HE rs (((xs.take k).filter b).map f)) ⟨e1, [], upd_same, Obs.nil⟩ ?_ ?_ ?_
  · rintro i HE _ ⟨sE, _⟩
    exact hG HE sE
  · rintro k x HE HE' hk ⟨sE, hE⟩ hY
    obtain ⟨y, hy⟩ : ∃ y, xs[k]? = some y := ⟨xs[k], List.getElem?_eq_getElem (by omega)⟩
    have et : (xs.take (k + 1)).filter b = (xs.take k).filter b ++ [y].filter b := by
      rw [List.take_add_one, hy, List.filter_append]
      rfl
    refine hs k y x HE HE' _ _ hy sE hY (fun hb r HF sF hr => ?_) (fun hb HF sF => ?_)
    · obtain ⟨qs, q1, q2⟩ := hE
      have q3 := q2.tk st (Tk.same (K := K) sF)
      have hql := q3.1
      have hfl : ((xs.take k).filter b).length ≤ k := Nat.le_trans (List.length_filter_le _ _) (by rw [List.length_take]; omega)
      rw [List.length_map] at hql
      refine ⟨_, sF _ _ q1, by rw [List.length_map]; exact small1000 (by omega), ?_, ?_⟩
      · intro b2 o hb2
        rw [upd_ne (ne_of_none hb2 nD)]
        exact (sE.trans sF) _ _ hb2
      · refine ⟨qs ++ [r], ?_, ?_⟩
        · rw [upd_same, List.map_append]
          rfl
        · rw [et, List.filter_cons_of_pos hb, List.map_append]
          have tk : Tk K HF (upd HF D (.lst (qs.map V.ref ++ [.ref r]))) := tk_lst (sF _ _ q1)
          exact (q3.append (Obs.one hr)).tk st tk
    · obtain ⟨qs, q1, q2⟩ := hE
      refine ⟨sE.trans sF, qs, sF _ _ q1, ?_⟩
      rw [et, List.filter_cons_of_neg (by rw [hb]; decide), List.filter_nil, List.append_nil]
      exact q2.tk st (Tk.same sF)
  · rintro HE ⟨sE, hE⟩
    rw [List.take_of_length_le (by omega)] at hE
    exact hd D HE sE hE
end
section
variable {P : Program} {w : World} {K : PySem.W.Frag} {mg : Str → Option Value} {base : Heap} {aN aO : Addr}
def spFol (K : PySem.W.Frag) : Sp := fun vs H Q _ => ∃ (p : Addr) (row : List RT) (step : RT) (f : Nat), vs = [.ref p, .int ((f : Nat) : Int)] ∧ LifeAt K H p row step ∧ row.length ≤ 20 ∧
  ∀ z H', Same H H' → KdA K H' z (folL row f) → Q (.ref z) H'
def spLent (K : PySem.W.Frag) : Sp := fun vs H Q _ => ∃ (p r : Addr) (rowA rowB : List RT) (sA sB : RT), vs = [.ref p, .ref r] ∧ LifeAt K H p rowA sA ∧ LifeAt K H r rowB sB ∧ rowA.length ≤ 20 ∧ rowB.length ≤ 20 ∧
  ∀ z H', Same H H' → KdsA K H' z [folL rowA 1, folL rowB 0] → Q (.ref z) H'
end

end Fp

set_option Elab.async false
set_option linter.all false
set_option maxRecDepth 100000
set_option maxHeartbeats 4000000
set_option exponentiation.threshold 10000
namespace Fp
open PySem PySem.Spec PyProof.Rows L2
/-! ### where kinds are put: numbers -/
def cnd (shut : Option Nat) (n : Nat) (m : Mv) (j : Nat) : Bool := decide (m.2.2.1 = j ∧ m.2.1 ≤ n ∧ (m.2.1 = n ∨ shut ≠ some m.1))
def prI (mv : List (Mv × Int)) (c : Int) (first : Nat) (shut : Option Nat) (n j : Nat) : Int := match n with
  | 0 => if j = first then 1 else 0
  | n + 1 => (mv.map fun m => if cnd shut (n + 1) m.1 j = true then prI mv c first shut (n - (m.1.2.1 - 1)) m.1.1 * m.2 * c ^ (m.1.2.1 - 1) else 0).sum
termination_by n
decreasing_by omega
def prQ (mv : List Mv) (first : Nat) (shut : Option Nat) (n j : Nat) : Rat := match n with
  | 0 => if j = first then 1 else 0
  | n + 1 => (mv.map fun m => if cnd shut (n + 1) m j = true then qv m.2.2.2 * prQ mv first shut (n - (m.2.1 - 1)) m.1 else 0).sum
termination_by n
decreasing_by omega
theorem prI_zero {mv : List (Mv × Int)} {c : Int} {first : Nat} {shut : Option Nat} {j : Nat} : prI mv c first shut 0 j = if j = first then 1 else 0 := by rw [prI]
theorem prI_succ {mv : List (Mv × Int)} {c : Int} {first : Nat} {shut : Option Nat} {n j : Nat} : prI mv c first shut (n + 1) j = (mv.map fun m => if cnd shut (n + 1) m.1 j = true then prI mv c first shut (n - (m.1.2.1 - 1)) m.1.1 * m.2 * c ^ (m.1.2.1 - 1) else 0).sum := by rw [prI]
theorem prQ_zero {mv : List Mv} {first : Nat} {shut : Option Nat} {j : Nat} : prQ mv first shut 0 j = if j = first then 1 else 0 := by rw [prQ]
theorem prQ_succ {mv : List Mv} {first : Nat} {shut : Option Nat} {n j : Nat} : prQ mv first shut (n + 1) j = (mv.map fun m => if cnd shut (n + 1) m j = true then qv m.2.2.2 * prQ mv first shut (n - (m.2.1 - 1)) m.1 else 0).sum := by rw [prQ]
theorem cast_sumL {α : Type} (f : α → Int) : ∀ xs : List α, (((xs.map f).sum : Int) : Rat) = (xs.map fun x => ((f x : Int) : Rat)).sum
  | [] => rfl
  | x :: r => by
    show ((f x + (r.map f).sum : Int) : Rat) = _ + _
    rw [Rat.intCast_add, cast_sumL f r]
    rfl
theorem sumL_mul {α : Type} (f : α → Rat) (k : Rat) : ∀ xs : List α, (xs.map f).sum * k = (xs.map fun x => f x * k).sum
  | [] => by
    show (0 : Rat) * k = 0
    grind
  | x :: r => by
    have ih := sumL_mul f k r
    show (f x + (r.map f).sum) * k = f x * k + (r.map fun x => f x * k).sum
    rw [← ih]
    grind
theorem sumL_congr {α : Type} {f g : α → Rat} : ∀ {xs : List α}, (∀ x ∈ xs, f x = g x) → (xs.map f).sum = (xs.map g).sum := fun h => by rw [List.map_congr_left h]
theorem pr_val {mv : List (Mv × Int)} {c : Int} {first : Nat} {shut : Option Nat} (h : ∀ x ∈ mv, ((x.2 : Int) : Rat) = (c : Rat) * qv x.1.2.2.2 ∧ 1 ≤ x.1.2.1) (n : Nat) : ∀ j : Nat, ((prI mv c first shut n j : Int) : Rat) = prQ (mv.map (·.1)) first shut n j * ((c ^ n : Int) : Rat) := by
  induction n using Nat.strongRecOn with
  | ind n ih =>
    intro j
    cases n with
    | zero =>
      rw [prI_zero, prQ_zero, Int.pow_zero]
      split <;> grind
    | succ n =>
      rw [prI_succ, prQ_succ, cast_sumL, List.map_map, sumL_mul]
      refine sumL_congr fun x hx => ?_
      obtain ⟨h1, h2⟩ := h x hx
      show (((if cnd shut (n + 1) x.1 j = true then prI mv c first shut (n - (x.1.2.1 - 1)) x.1.1 * x.2 * c ^ (x.1.2.1 - 1) else 0 : Int)) : Rat) = (if cnd shut (n + 1) x.1 j = true then qv x.1.2.2.2 * prQ (mv.map (·.1)) first shut (n - (x.1.2.1 - 1)) x.1.1 else 0) * _
      by_cases z : cnd shut (n + 1) x.1 j = true
      · rw [if_pos z, if_pos z, Rat.intCast_mul, Rat.intCast_mul, ih _ (by omega), h1]
        have z2 := of_decide_eq_true z
        obtain ⟨s, hs⟩ : ∃ s, x.1.2.1 = s + 1 := ⟨x.1.2.1 - 1, by omega⟩
        have e : c ^ (n + 1) = c ^ (n - s) * c * c ^ s := by
          rw [show n + 1 = n - s + 1 + s by omega, Int.pow_add, Int.pow_succ]
        rw [hs, Nat.add_sub_cancel, e, Rat.intCast_mul, Rat.intCast_mul]
        grind
      · rw [if_neg z, if_neg z]
        show (0 : Rat) = 0 * _
        grind
theorem sum_sm128 {e : Nat} : ∀ {xs : List Int}, (∀ x ∈ xs, Sm e x) → xs.length ≤ 128 → Sm (e + 8) xs.sum := by
  have key : ∀ {xs : List Int}, (∀ x ∈ xs, Sm e x) → xs.sum.natAbs ≤ xs.length * 2 ^ e := by
    intro xs
    induction xs with
    | nil =>
      intro _
      simp
    | cons x r ih =>
      intro h
      have h1 := h x (List.mem_cons_self ..)
      have h2 := ih fun y hy => h y (List.mem_cons_of_mem _ hy)
      rw [List.sum_cons, List.length_cons, Nat.add_mul]
      unfold Sm at h1
      have := Int.natAbs_add_le x r.sum
      omega
  intro xs h hl
  have h1 := key h
  unfold Sm
  have h2 : xs.length * 2 ^ e ≤ 128 * 2 ^ e := Nat.mul_le_mul_right _ hl
  have h3 : 2 ^ (e + 8) = 256 * 2 ^ e := by rw [Nat.pow_add, Nat.mul_comm]
  have h4 : 0 < 2 ^ e := Nat.pow_pos (by decide)
  omega
theorem pr_sm {mv : List (Mv × Int)} {c : Int} {first : Nat} {shut : Option Nat} (h : ∀ x ∈ mv, Sm 66 x.2 ∧ 1 ≤ x.1.2.1) (hc : Sm 60 c) (hl : mv.length ≤ 128) (n : Nat) : ∀ j : Nat, Sm (76 * n + 1) (prI mv c first shut n j) := by
  induction n using Nat.strongRecOn with
  | ind n ih =>
    intro j
    cases n with
    | zero =>
      rw [prI_zero]
      split <;> (unfold Sm; decide)
    | succ n =>
      rw [prI_succ]
      refine (sum_sm128 (e := 76 * n + 69) (fun x hx => ?_) (by rw [List.length_map]; exact hl)).mono (by omega)
      obtain ⟨m, hm, rfl⟩ := List.mem_map.mp hx
      obtain ⟨h1, h2⟩ := h m hm
      split
      · rename_i z
        have z2 := of_decide_eq_true z
        exact (((ih (n - (m.1.2.1 - 1)) (by omega) m.1.1).mul h1).mul (sm_pow hc (by decide) (m.1.2.1 - 1))).mono (by omega)
      · exact Nat.lt_of_lt_of_le (by decide : (0 : Int).natAbs < 1) (Nat.one_le_two_pow)
/-! ### two clauses in a comprehension -/
section
variable {J J1 : It} {n n1 : Nat} {G G1 : Hp → Prop} {Y Y1 : Nat → Hp → V → Hp → Prop}
def inner2 (J1 : It) (g1 : TG) (tt1 : TT) (te : TE) (vs1 : List Nat) (σ2 : L2.St) (D : Addr) (H4 : Hp) (Nx : Hp → Prop) : Prop := ∃ W1 : Nat → Nat → Hp → Prop, (∃ m, W1 0 m H4) ∧ ∀ j k H, W1 j k H →
      (J1.stop j H ∧ Nx H) ∨ (J1.go j H ∧ ∃ Nx1 : Hp → Prop, (∀ H', Nx1 H' → ∃ k', k' < k ∧ W1 (j + 1) k' H') ∧ ∀ x H', J1.yld j H x H' → g1 x (wipe σ2 vs1) H' fun σ3 H5 => wipe σ3 vs1 = wipe σ2 vs1 ∧ tt1 σ3 H5 fun b H6 =>
        if b = true then te σ3 H6 fun y H7 => ∃ acc, H7 D = some (.lst acc) ∧ acc.length < sizeLine ∧ Nx1 (upd H7 D (.lst (acc ++ [y]))) else Nx1 H6)
theorem inner2_it (w : Walk J1 n1 G1 Y1) {g1 : TG} {tt1 : TT} {te : TE} {vs1 : List Nat} {σ2 : L2.St} {H4 : Hp} {D : Addr} {Nx : Hp → Prop} (Pv : Nat → Hp → Prop) (h0 : Pv 0 H4) (hG : ∀ i H, i ≤ n1 → Pv i H → G1 H)
    (hs : ∀ i x H H', i < n1 → Pv i H → Y1 i H x H' → g1 x (wipe σ2 vs1) H' fun σ3 H5 => wipe σ3 vs1 = wipe σ2 vs1 ∧ tt1 σ3 H5 fun b H6 =>
      if b = true then te σ3 H6 fun y H7 => ∃ acc, H7 D = some (.lst acc) ∧ acc.length < sizeLine ∧ Pv (i + 1) (upd H7 D (.lst (acc ++ [y]))) else Pv (i + 1) H6) (hd : ∀ H, Pv n1 H → Nx H) : inner2 J1 g1 tt1 te vs1 σ2 D H4 Nx := by
  refine ⟨fun i m H => m = n1 - i ∧ i ≤ n1 ∧ Pv i H, ⟨n1, by simp, Nat.zero_le _, h0⟩, ?_⟩
  rintro i m H ⟨rfl, hi, p⟩
  have q := hG i H hi p
  by_cases hlt : i < n1
  · refine .inr ⟨w.goes i H hlt q, Pv (i + 1), fun H' p' => ⟨n1 - (i + 1), by omega, rfl, hlt, p'⟩, fun x H' y => hs i x H H' hlt p (w.yields i H x H' hlt q y)⟩
  · have e : i = n1 := by omega
    subst e
    exact .inl ⟨w.stops H q, hd H p⟩
theorem lc2_it (w : Walk J n G Y) {wi1 : TI} {g g1 : TG} {tt tt1 : TT} {te : TE} {vs vs1 : List Nat} {σ : L2.St} {H1 : Hp} {Qd : Addr → Hp → Prop} (Pv : Addr → Nat → Hp → Prop) (h0 : ∀ D, H1 D = none → Pv D 0 (upd H1 D (.lst []))) (hG : ∀ D i H, i ≤ n → Pv D i H → G H)
    (hs : ∀ D i x H H', H1 D = none → i < n → Pv D i H → Y i H x H' → g x (wipe σ vs) H' fun σ2 H2 => wipe σ2 vs = wipe σ vs ∧ tt σ2 H2 fun b H3 =>
      if b = true then wi1 σ2 H3 fun J1 H4 => inner2 J1 g1 tt1 te vs1 σ2 D H4 (Pv D (i + 1)) else Pv D (i + 1) H3) (hd : ∀ D H, Pv D n H → Qd D H) : tLc2 (fun _ H2 R => R J H2) g tt wi1 g1 tt1 te vs vs1 σ H1 (refQ Qd) := by
  intro D nD
  refine ⟨fun i m H => m = n - i ∧ i ≤ n ∧ Pv D i H, ⟨n, by simp, Nat.zero_le _, h0 D nD⟩, ?_⟩
  rintro i m H ⟨rfl, hi, p⟩
  have q := hG D i H hi p
  by_cases hlt : i < n
  · refine .inr ⟨w.goes i H hlt q, Pv D (i + 1), fun H' p' => ⟨n - (i + 1), by omega, rfl, hlt, p'⟩, fun x H' y => hs D i x H H' nD hlt p (w.yields i H x H' hlt q y)⟩
  · have e : i = n := by omega
    subst e
    exact .inl ⟨w.stops H q, hd D H p⟩
end

end Fp

set_option Elab.async false
set_option linter.all false
set_option maxRecDepth 100000
set_option maxHeartbeats 4000000
set_option exponentiation.threshold 10000
namespace Fp
open PySem PySem.Spec PyProof.Rows L2
/-! ### where kinds are put -/
abbrev s_pr : Stmt := topS 10
abbrev N_pr : List Str := ["kinds", "first", "most", "shut", "moves", "tops", "bottom", "powers", "rows", "n", "row", "top", "kind", "stretch", "follower", "chance", "since", "triples", "triple", "move", "power", "total"]
theorem sc_pr : FnScope N_pr ["kinds", "first", "most", "shut"] (defScope s_pr) := ⟨rfl, rfl, rfl, by decide +kernel, rfl, by decide +kernel, by decide +kernel⟩
def scp0_pr (b : List Stmt) (d : Scope) : Scope := match b with
  | (_ :: _ :: _ :: _ :: _ :: (.Return (some (.ListComp _ _ sc _)) _) :: _) => sc
  | _ => d
theorem movesFrom_snoc (ts : List Tri) : ∀ (xs : List (List Tri)) (k : Nat), movesFrom k (xs ++ [ts]) = movesFrom k xs ++ ts.map fun t => (k + xs.length, t)
  | [], k => by
    show (ts.map fun t => (k, t)) ++ [] = [] ++ _
    rw [List.append_nil, List.nil_append]
    rfl
  | x :: r, k => by
    show (x.map fun t => (k, t)) ++ movesFrom (k + 1) (r ++ [ts]) = (x.map fun t => (k, t)) ++ movesFrom (k + 1) r ++ _
    rw [movesFrom_snoc ts r (k + 1), List.append_assoc, List.length_cons, show k + 1 + r.length = k + (r.length + 1) by omega]
theorem moves_take {ks : List (List Tri)} {i : Nat} {ts : List Tri} (h : ks[i]? = some ts) : movesFrom 0 (ks.take (i + 1)) = movesFrom 0 (ks.take i) ++ ts.map fun t => (i, t) := by
  have hi := (List.getElem?_eq_some_iff.mp h).1
  rw [List.take_add_one, h]
  show movesFrom 0 (ks.take i ++ [ts]) = _
  rw [movesFrom_snoc, List.length_take, Nat.min_eq_left (by omega), Nat.zero_add]
/-- moves that may be reckoned with -/
structure MvOk (P : Int) (m : Nat) (mv : List Mv) : Prop where
  pos : 0 < P
  sm : Sm 32 P
  len : mv.length ≤ 128
  red : ∀ y ∈ mv, Red y.2.2.2
  sz : ∀ y ∈ mv, Sz P 0 (qv y.2.2.2)
  st : ∀ y ∈ mv, 1 ≤ y.2.1
  kd : ∀ y ∈ mv, y.1 < m ∧ y.2.2.1 < m
def chM (mv : List Mv) (i : Nat) : Rat := match mv[i]? with
  | some y => qv y.2.2.2
  | none => 0
def shutV : Option Nat → V
  | some k => .int ((k : Nat) : Int)
  | none => .non
section
variable {K : PySem.W.Frag}
/-- a comprehension of ratios; the list is new -/
theorem lc_mkN {J : It} {n : Nat} {G : Hp → Prop} {Y : Nat → Hp → V → Hp → Prop} (w : Walk J n G Y) {g : TG} {te : TE} {vs : List Nat} {σ : L2.St} {H1 : Hp} (f : Nat → Rat) (hn : n ≤ 900) (hG : ∀ HE, Same H1 HE → G HE)
    (hs : ∀ (k : Nat) (x : V) (HE HE' : Hp) (R : VK), k < n → Same H1 HE → Y k HE x HE' → (∀ r HF, Same HE HF → RAt K HF r (rdq (f k)) → R (.ref r) HF) → g x (wipe σ vs) HE' fun σ2 H2 => wipe σ2 vs = wipe σ vs ∧ te σ2 H2 R)
    {Qd : Addr → Hp → Prop} (hd : ∀ D H2, H1 D = none → Same H1 H2 → LsM K H2 D (mkL n f) → Qd D H2) : tLc (fun _ H2 R => R J H2) g tYes te vs σ H1 (refQ Qd) := by
  intro D nD
  have h := lc_mkW (K := K) w f hn hG hs (Qd := fun E H2 => E = D → Qd D H2) (fun E H2 s2 l z => hd D H2 nD s2 (z ▸ l)) D nD
  obtain ⟨W, h0, h1⟩ := h
  refine ⟨W, h0, fun i m H2 h2 => ?_⟩
  rcases h1 i m H2 h2 with ⟨a, b⟩ | b
  · exact .inl ⟨a, b rfl⟩
  · exact .inr b
end
section
variable {K : PySem.W.Frag}
theorem lc_intN {lo : Int} {n : Nat} {g : TG} {te : TE} {vs : List Nat} {σ : L2.St} {H1 : Hp} (f : Nat → Int) (hn : n ≤ 900)
    (hs : ∀ (k : Nat) (HE : Hp) (R : VK), k < n → Same H1 HE → (∀ HF, Same HE HF → R (.int (f k)) HF) → g (.int (lo + k)) (wipe σ vs) HE fun σ2 H2 => wipe σ2 vs = wipe σ vs ∧ te σ2 H2 R)
    {Qd : Addr → Hp → Prop} (hd : ∀ D H2, H1 D = none → Same H1 H2 → IntL H2 D n f → Qd D H2) : tLc (fun _ H2 R => R (Itr lo n) H2) g tYes te vs σ H1 (refQ Qd) := by
  intro D nD
  have h := lc_int f hn hs (Qd := fun E H2 => E = D → Qd D H2) (fun E H2 s2 l z => hd D H2 nD s2 (z ▸ l)) D nD
  obtain ⟨W, h0, h1⟩ := h
  refine ⟨W, h0, fun i m H2 h2 => ?_⟩
  rcases h1 i m H2 h2 with ⟨a, b⟩ | b
  · exact .inl ⟨a, b rfl⟩
  · exact .inr b
theorem put_test {σ : L2.St} {H : Hp} {R : Bool → Hp → Prop} {since : Int} {kind : Nat} {shut : Option Nat} (h1 : σ[16]? = some (some (.int since))) (h2 : σ[12]? = some (some (.int ((kind : Nat) : Int)))) (h3 : σ[3]? = some (some (shutV shut)))
    (h : R (decide (since = 0 ∨ (0 < since ∧ shut ≠ some kind))) H) : tOr (tTest (tOp rEq (tVar 16) (tC (.int 0)))) (tAnd (tTest (tOp (rI0 fun i j => .bl (decide (j < i))) (tVar 16) (tC (.int 0)))) (tTest (tOp rNe (tVar 12) (tVar 3)))) σ H R := by
  refine ⟨_, h1, rfl, _, rfl, ite2 (fun c1 => ?_) (fun c1 => ?_)⟩
  · have z := of_decide_eq_true c1
    injection z with z
    rw [decide_eq_true (.inl z)] at h
    exact h
  · have z : ¬ since = 0 := fun z => c1 (decide_eq_true (by rw [z]))
    refine ⟨_, h1, _, _, rfl, rfl, _, rfl, ite2 (fun c2 => ?_) (fun c2 => ?_)⟩
    · have z2 : 0 < since := of_decide_eq_true c2
      refine ⟨_, h2, _, h3, ?_, _, rfl, ?_⟩
      · cases shut <;> rfl
      · have e : (decide (since = 0 ∨ (0 < since ∧ shut ≠ some kind))) = !decide (V.int ((kind : Nat) : Int) = shutV shut) := by
          cases shut with
          | none =>
            rw [decide_eq_true (.inr ⟨z2, fun y => by cases y⟩), decide_eq_false (fun y => by cases y)]
            rfl
          | some k =>
            by_cases y : kind = k
            · rw [decide_eq_false (fun x => by
                rcases x with x | ⟨_, x⟩
                · exact z x
                · exact x (by rw [y])), decide_eq_true (by rw [y]; rfl)]
              rfl
            · rw [decide_eq_true (.inr ⟨z2, fun x => y (Option.some.inj x).symm⟩), decide_eq_false (fun x => y (by
                injection x with x
                omega))]
              rfl
        rw [e] at h
        exact h
    · have z2 : ¬ 0 < since := fun y => c2 (decide_eq_true y)
      rw [decide_eq_false (fun x => by
        rcases x with x | ⟨x, _⟩
        · exact z x
        · exact z2 x)] at h
      exact h
end
def acc (mv : List (Mv × Int)) (c : Int) (first : Nat) (shut : Option Nat) (n k j : Nat) : Int := ((mv.take k).map fun m => if cnd shut (n + 1) m.1 j = true then prI mv c first shut (n - (m.1.2.1 - 1)) m.1.1 * m.2 * c ^ (m.1.2.1 - 1) else 0).sum
theorem acc_step {mv : List (Mv × Int)} {c : Int} {first : Nat} {shut : Option Nat} {n k j : Nat} {m : Mv × Int} (h : mv[k]? = some m) : acc mv c first shut n (k + 1) j = acc mv c first shut n k j + if cnd shut (n + 1) m.1 j = true then prI mv c first shut (n - (m.1.2.1 - 1)) m.1.1 * m.2 * c ^ (m.1.2.1 - 1) else 0 := by
  unfold acc
  rw [List.take_add_one, h, List.map_append]
  exact sumI_snoc _ _
theorem acc_all {mv : List (Mv × Int)} {c : Int} {first : Nat} {shut : Option Nat} {n j : Nat} : acc mv c first shut n mv.length j = prI mv c first shut (n + 1) j := by
  unfold acc
  rw [List.take_of_length_le (Nat.le_refl _), prI_succ]
section
variable {P : Program} {w : World} {K : PySem.W.Frag} {mg : Str → Option Value} {base : Heap} {aN aO : Addr}
def spPr (K : PySem.W.Frag) : Sp := fun vs H Q _ => ∃ (p : Addr) (ks : List (List Tri)) (first most : Nat) (shut : Option Nat) (P : Int), vs = [.ref p, .int ((first : Nat) : Int), .int ((most : Nat) : Int), shutV shut] ∧ KdsA K H p ks ∧ MvOk P ks.length (movesFrom 0 ks) ∧ ks.length ≤ 32 ∧ most ≤ 20 ∧
  ∀ D H2 (fs : List Addr), Same H H2 → H2 D = some (.lst (fs.map V.ref)) → fs.length = most + 1 → (∀ i r, fs[i]? = some r → LsM K H2 r (mkL ks.length (prQ (movesFrom 0 ks) first shut i))) → Q (.ref D) H2
theorem ok_pr {f fOB fR : Addr} {fd fdOB fdR : FuncData} (F : Fun K "put_rows" "put_rows" s_pr f fd)
    (FOB : Fun K "on_one_bottom" "on_one_bottom" s_oob fOB fdOB) (bOB : Binds K fdOB ["told"] []) (gOB : mg "on_one_bottom" = some (.ref fOB)) (GOB : FnOk P w K mg base CX0 2 fOB fdOB ["told"] (spOob K))
    (FR : Fun K "ratio" "ratio" s_ratio fR fdR) (bR : Binds K fdR ["top", "bottom"] []) (gR : mg "ratio" = some (.ref fR)) (GR : FnOk P w K mg base CX0 2 fR fdR ["top", "bottom"] spRat0)
    (n_enumerate : mg "enumerate" = none) (n_len : mg "len" = none) (n_range : mg "range" = none) (n_zip : mg "zip" = none) : FnOk P w K mg base CX0 3 f fd ["kinds", "first", "most", "shut"] (spPr K) := by
  refine F.ok sc_pr (fun vs H Q E h => ?_) (fun cdv A outer s H vs Q E hr h => ?_)
  · obtain ⟨_, _, _, _, _, _, rfl, _⟩ := h
    rfl
  · obtain ⟨p, ks, first, most, shut, PP, rfl, hk, M, hkl, hm, q⟩ := h
    refine ⟨_, (pss_cons (ps_setLc2 (i := 4) (own := [("kind", 12), ("triples", 17), ("triple", 18)]) (vs1 := [18]) (g := (gTup K 2 (gCons (gName 12) (gCons (gName 17) gNil)))) (g1 := (gName 18)) (tt := tYes) (tt1 := tYes) (wi1 := (iTup K (tVar 17))) (te := (tTup (tCons (tVar 12) (StX.tStar K (tVar 18) tNil)))) rfl sc_pr.nd rfl rfl (sw_true rfl rfl rfl (by decide +kernel)) (pi_eT (by rfl) n_enumerate (pa_cons (pv 0) pa_nil)) (blkOk_by (own := [("kind", 12), ("triples", 17), ("triple", 18)]) (N := N_pr) (sc := (defScope s_pr)) (by decide +kernel)) (by decide) (fun _ _ _ _ _ => (pg_tup rfl (pgs_cons (pg_name (i := 12) sc_pr.nd rfl (.inl rfl)) (pgs_cons (pg_name (i := 17) sc_pr.nd rfl (.inl rfl)) pgs_nil)))) (fun _ _ _ _ _ => pts_nil) (fun _ _ _ _ _ => (pi_tup (pv 17))) (fun _ _ _ _ _ => (pg_name (i := 18) sc_pr.nd rfl (.inl rfl))) (fun _ _ _ _ _ => pts_nil) (fun _ _ _ _ _ => (pe_tup (pa_cons (pv 12) (StX.pa_star (pv 18) pa_nil)))))
      (pss_cons (ps_asg (pe_call GOB hr (by rfl) gOB FOB.kp bOB .nil pass0 (pa_cons (pe_lc (own := [("move", 19)]) (g := (gName 19)) (tt := tYes) (te := (tOp (rIxT K) (tVar 19) (tC (.int 3)))) rfl sc_pr.nd (pi_list (pv 4)) (blkOk_by (own := [("move", 19)]) (N := N_pr) (sc := (defScope s_pr)) (by decide +kernel)) (fun _ _ _ _ _ => (pg_name (i := 19) sc_pr.nd rfl (.inl rfl))) (fun _ _ _ _ _ => pts_nil) (fun _ _ _ _ _ => (pe_ix ix_tup (pv 19) pe_int (fun _ _ => rfl)))) pa_nil)) (pg_tup rfl (pgs_cons (pg_name (i := 5) sc_pr.nd rfl (.inl rfl)) (pgs_cons (pg_name (i := 6) sc_pr.nd rfl (.inl rfl)) pgs_nil))))
      (pss_cons (ps_set (i := 7) sc_pr.nd rfl (.inl rfl) (pe_lst (pa_cons pe_int pa_nil)))
      (pss_cons (ps_set (i := 8) sc_pr.nd rfl (.inl rfl) (pe_lst (pa_cons (pe_lc (own := [("kind", 12)]) (g := (gName 12)) (tt := tYes) (te := (tIf (tTest (tOp rEq (tVar 12) (tVar 1))) (tC (.int 1)) (tC (.int 0)))) rfl sc_pr.nd (pi_range1 (by rfl) n_range (pa_cons (pe_callB call_len_seq (by rfl) n_len PySem.boot_len (pa_cons (pv 0) pa_nil)) pa_nil)) (blkOk_by (own := [("kind", 12)]) (N := N_pr) (sc := (defScope s_pr)) (by decide +kernel)) (fun _ _ _ _ _ => (pg_name (i := 12) sc_pr.nd rfl (.inl rfl))) (fun _ _ _ _ _ => pts_nil) (fun _ _ _ _ _ => (pe_ifExp (pt_cmpR op_eq (pv 12) (pv 1) (nomark _)) pe_int pe_int))) pa_nil)))
      (pss_cons (ps_for PassesOwn.never rfl (pi_range2 (by rfl) n_range (pa_cons pe_int (pa_cons (pe_op op_add (pv 2) pe_int) pa_nil))) (pg_name (i := 9) sc_pr.nd rfl (.inl rfl)) (pss_cons (ps_set (i := 10) sc_pr.nd rfl (.inl rfl) (pe_op op_rep (pe_lst (pa_cons pe_int pa_nil)) (pe_callB call_len_seq (by rfl) n_len PySem.boot_len (pa_cons (pv 0) pa_nil))))
      (pss_cons (ps_for PassesOwn.never rfl (pi_zip (by rfl) n_zip (pa_cons (pv 4) (pa_cons (pv 5) pa_nil))) (pg_tup rfl (pgs_cons (pg_tup rfl (pgs_cons (pg_name (i := 12) sc_pr.nd rfl (.inl rfl)) (pgs_cons (pg_name (i := 13) sc_pr.nd rfl (.inl rfl)) (pgs_cons (pg_name (i := 14) sc_pr.nd rfl (.inl rfl)) (pgs_cons (pg_name (i := 15) sc_pr.nd rfl (.inl rfl)) pgs_nil))))) (pgs_cons (pg_name (i := 11) sc_pr.nd rfl (.inl rfl)) pgs_nil))) (pss_cons (ps_set (i := 16) sc_pr.nd rfl (.inl rfl) (pe_op op_sub (pv 9) (pv 13)))
      (pss_one (ps_if (PW.pt (pw_or (pt_cmpR op_eq (pv 16) pe_int (nomark _)) (pw_or1 (PW.pt (pw_and (pt_cmpR op_gt (pv 16) pe_int (nomark _)) (pw_and1 (pt_cmpR op_ne (pv 12) (pv 3) (nomark _)))))))) (pss_one (ps_augS (pv 10) (pv 14) get_listN (pe_op op_mulA (pe_op op_mulA (pe_ix ix_list (pe_ix ix_list (pv 8) (pv 16) (fun _ _ => rfl)) (pv 12) (fun _ _ => rfl)) (pv 11)) (pe_ix ix_list (pv 7) (pe_op op_sub (pv 13) pe_int) (fun _ _ => rfl))) ip_add set_list)) pss_nil))))
      (pss_cons (ps_expr (pe_bm PySem.F.plainAttrs_list PySem.F.slot_list_append PySem.F.type_list_append mt_append (pv 8) (pa_cons (pv 10) pa_nil)))
      (pss_one (ps_expr (pe_bm PySem.F.plainAttrs_list PySem.F.slot_list_append PySem.F.type_list_append mt_append (pv 7) (pa_cons (pe_op op_mulA (pe_ix ix_list (pv 7) (pe_un un_neg pe_int) (fun _ _ => rfl)) (pv 6)) pa_nil))))))))
      (pss_one (ps_ret (pe_lc (own := [("row", 10), ("power", 20)]) (g := (gTup K 2 (gCons (gName 10) (gCons (gName 20) gNil)))) (tt := tYes) (te := (tLc (iList K (tVar 10)) (gName 21) tYes (tCall spRat0 [] E0 (tCons (tVar 21) (tCons (tVar 20) tNil))) [21])) rfl sc_pr.nd (pi_zip (by rfl) n_zip (pa_cons (pv 8) (pa_cons (pv 7) pa_nil))) (blkOk_by (own := [("row", 10), ("power", 20)]) (N := N_pr) (sc := (defScope s_pr)) (by decide +kernel)) (fun _ _ _ _ _ => (pg_tup rfl (pgs_cons (pg_name (i := 10) sc_pr.nd rfl (.inl rfl)) (pgs_cons (pg_name (i := 20) sc_pr.nd rfl (.inr rfl)) pgs_nil)))) (fun _ _ _ _ _ => pts_nil) (fun _ _ _ _ _ => (pe_lc (own := [("total", 21)]) (g := (gName 21)) (tt := tYes) (te := (tCall spRat0 [] E0 (tCons (tVar 21) (tCons (tVar 20) tNil)))) rfl sc_pr.nd (pi_list (pv 10)) (blkOk_by (own := [("total", 21)]) (N := N_pr) (sc := (relS (scp0_pr (defBody s_pr) (defScope s_pr)) (defScope s_pr))) (by decide +kernel)) (fun _ _ _ _ _ => (pg_name (i := 21) sc_pr.nd rfl (.inl rfl))) (fun _ _ _ _ _ => pts_nil) (fun _ _ _ _ _ => (pe_call GR hr (by rfl) gR FR.kp bR .nil pass0 (pa_cons (pv 21) (pa_cons (pv 20) pa_nil)))))))))))))), ?_⟩
    obtain ⟨rk, k1, k2⟩ := id hk
    have hrk := k2.1
    refine ⟨_, rfl, ?_⟩
    refine tnil_go ?_
    refine ⟨p, _, rfl, k1, ?_⟩
    refine lc2_it (walk_q (Sq := fun H xs => SqT K H p xs) (k := 0) (xs := rk.map V.ref)) (fun D i HE => Same H HE ∧ ∃ rs : List Addr, HE D = some (.lst (rs.map V.ref)) ∧ Obs (MvA K) HE rs (movesFrom 0 (ks.take i))) (fun D nD => ⟨same_new nD, [], upd_same, Obs.nil⟩) (fun D i HE _ h => sqT_same h.1 k1) (fun D i v HE HE' nD hi ⟨sE, rs, hD, hrs⟩ hY => ?_) (fun ml H1 ⟨s1, rs, hml, hrs⟩ => ?_)
    · obtain ⟨T, x1, x2, rfl, nT, rfl, ex1, ex2⟩ := hY
      rw [List.length_map, hrk] at hi
      dsimp only at ex1 ex2
      cases Option.some.inj ex1
      obtain ⟨ts, hts⟩ : ∃ ts, ks[i]? = some ts := ⟨ks[i], List.getElem?_eq_getElem hi⟩
      obtain ⟨kt, ekt, tr, t1, t2⟩ := k2.get hts
      rw [List.getElem?_map, ekt] at ex2
      cases Option.some.inj ex2
      have gT := same_new (o := HO.tup [.int (0 + ((i : Nat) : Int)), .ref kt]) nT
      have S1 := sE.trans gT
      refine ⟨T, _, rfl, SqT.of upd_same, rfl, _, _, rfl, _, _, rfl, rfl, rfl, ?_⟩
      refine tYes_go (iteT ?_)
      have hle : (movesFrom 0 (ks.take i)).length + ts.length ≤ 128 := by
        have h1 := M.len
        have h2 : movesFrom 0 ks = movesFrom 0 (ks.take (i + 1) ++ ks.drop (i + 1)) := by rw [List.take_append_drop]
        have h3 : ∀ (xs ys : List (List Tri)) (k : Nat), (movesFrom k xs).length ≤ (movesFrom k (xs ++ ys)).length := by
          intro xs ys
          induction xs with
          | nil => intro k; exact Nat.zero_le _
          | cons x r ih =>
            intro k
            show ((x.map fun t => (k, t)) ++ movesFrom (k + 1) r).length ≤ ((x.map fun t => (k, t)) ++ movesFrom (k + 1) (r ++ ys)).length
            rw [List.length_append, List.length_append]
            have := ih (k + 1)
            omega
        have h4 := h3 (ks.take (i + 1)) (ks.drop (i + 1)) 0
        rw [← h2, moves_take hts, List.length_append, List.length_map] at h4
        omega
      refine ⟨_, rfl, kt, rfl, ⟨_, sqT_same S1 t1⟩, ?_⟩
      refine inner2_it (walk_tup (K := K) (a := kt) (xs := tr.map V.ref)) (fun j HE => Same H HE ∧ ∃ rs : List Addr, HE D = some (.lst (rs.map V.ref)) ∧ Obs (MvA K) HE rs (movesFrom 0 (ks.take i) ++ (ts.take j).map fun t => (i, t))) ⟨S1, rs, gT _ _ hD, ?_⟩ (fun j HF _ h => sqT_same h.1 t1) (fun j v HF HF' hj ⟨sF, qs, hF, hqs⟩ hY => ?_) (fun HF ⟨sF, qs, hF, hqs⟩ => ⟨sF, qs, hF, ?_⟩)
      · rw [List.take_zero, List.map_nil, List.append_nil]
        exact hrs.tk mvA_stays (Tk.same gT)
      · obtain ⟨rfl, hv⟩ := hY
        rw [List.length_map, t2.1] at hj
        obtain ⟨t, ht⟩ : ∃ t, ts[j]? = some t := ⟨ts[j], List.getElem?_eq_getElem hj⟩
        obtain ⟨pt, ept, pc, c1, c2⟩ := t2.get ht
        rw [List.getElem?_map, ept] at hv
        cases Option.some.inj hv
        refine ⟨rfl, ?_⟩
        refine tYes_go (iteT ?_)
        refine ⟨_, rfl, _, rfl, pt, _, rfl, .inl (sqT_same sF c1), by show 4 ≤ sizeLine; decide, fun b nb => ?_⟩
        have gb := same_new (o := HO.tup [.int (0 + ((i : Nat) : Int)), .int ((t.1 : Nat) : Int), .int ((t.2.1 : Nat) : Int), .ref pc]) nb
        have hql := hqs.1
        rw [List.length_append, List.length_map, List.length_take] at hql
        refine ⟨_, gb _ _ hF, by rw [List.length_map]; exact small1000 (by omega), ?_, qs ++ [b], ?_, ?_⟩
        · intro b2 o hb2
          rw [upd_ne (ne_of_none hb2 nD)]
          exact (sF.trans gb) _ _ hb2
        · rw [upd_same, List.map_append]
          rfl
        · rw [List.take_add_one, ht, List.map_append, ← List.append_assoc]
          refine ((hqs.tk mvA_stays (Tk.same gb)).append (Obs.one ?_)).tk mvA_stays (tk_lst (gb _ _ hF))
          refine ⟨pc, ?_, (c2.tk (Tk.same sF)).tk (Tk.same gb)⟩
          exact SqT.of (upd_same.trans (by show some (HO.tup [.int (0 + ((i : Nat) : Int)), .int ((t.1 : Nat) : Int), .int ((t.2.1 : Nat) : Int), .ref pc]) = _; rw [Int.zero_add]))
      · rw [moves_take hts]
        rw [List.length_map, t2.1, List.take_of_length_le (Nat.le_refl _)] at hqs
        exact hqs
    rw [List.length_map, hrk, List.take_of_length_le (Nat.le_refl _)] at hrs
    generalize hmv : movesFrom 0 ks = mv at *
    have hrl := hrs.1
    refine ⟨_, rfl, ml, rfl, ⟨_, SqL.of hml⟩, ?_⟩
    refine lc_mkW (K := K) (walk_list (K := K) (a := ml) (xs := rs.map V.ref)) (chM mv) (by rw [List.length_map, hrl]; have := M.len; omega) (fun HE sE => SqL.of (sE _ _ hml)) (fun i v HE HE' R hi sE hY qr => ?_) (fun cl H2 s2 hcl => ?_)
    · obtain ⟨rfl, hv⟩ := hY
      rw [List.length_map, hrl] at hi
      obtain ⟨y, hy⟩ : ∃ y, mv[i]? = some y := ⟨mv[i], List.getElem?_eq_getElem hi⟩
      obtain ⟨pm, epm, pc, c1, c2⟩ := hrs.get hy
      rw [List.getElem?_map, epm] at hv
      cases Option.some.inj hv
      refine ⟨rfl, _, rfl, pm, _, _, _, rfl, rfl, sqT_same sE c1, at_of (j := 3) rfl rfl, qr pc _ (Same.refl _) ?_⟩
      have e : rdq (chM mv i) = y.2.2.2 := by
        unfold chM
        rw [hy]
        exact (is_rdq (M.red y (List.mem_of_getElem? hy)) rfl).symm
      rw [e]
      exact c2.tk (Tk.same sE)
    rw [List.length_map, hrl] at hcl
    refine tnil_go ?_
    have hml2 := s2 _ _ hml
    refine oob_go (K := K) (s := 32) (k := 0) hcl M.pos M.sm (fun j hj => ?_) (by have := M.len; omega) (by decide) (by decide) fun z1 zt c T H3 s3 hz1 hzt c0 cD sc tv ts => ?_
    · unfold chM
      rw [List.getElem?_eq_getElem hj]
      exact M.sz _ (List.getElem_mem hj)
    refine ⟨z1, _, rfl, SqT.of hz1, rfl, _, _, rfl, _, _, rfl, rfl, ?_⟩
    -- powers, rows
    refine ⟨by show 1 ≤ sizeLine; decide, fun pw npw => ?_⟩
    have g4 := same_new (o := HO.lst [.int 1]) npw
    have hpw : IntL (upd H3 pw (HO.lst [.int 1])) pw 1 (fun k => c ^ k) := by
      unfold IntL
      rw [upd_same]
      show some (HO.lst [.int 1]) = some (HO.lst [.int (c ^ 0)])
      rw [Int.pow_zero]
    have S4 := s2.trans (s3.trans g4)
    have hzt4 := g4 _ _ hzt
    generalize upd H3 pw (HO.lst [.int 1]) = H4 at *
    have k4 := sqT_same (s1.trans S4) k1
    refine ⟨_, rfl, p, _, rfl, .inr k4, ?_⟩
    have elk : (((rk.map V.ref).length : Nat) : Int) = ((ks.length : Nat) : Int) := by rw [List.length_map, hrk]
    refine ⟨_, rfl, by omega, by omega, ?_⟩
    have hfs : (((rk.map V.ref).length : Nat) : Int).toNat = ks.length := by omega
    let mvi := mv.zip (mkI mv.length T)
    have hmi : ∀ i y, mv[i]? = some y → mvi[i]? = some (y, T i) := fun i y hy => by
      have hi := (List.getElem?_eq_some_iff.mp hy).1
      show (mv.zip (mkI mv.length T))[i]? = _
      rw [List.getElem?_zip_eq_some]
      exact ⟨hy, mkI_at hi⟩
    have hml3 : mvi.length = mv.length := by
      show (mv.zip (mkI mv.length T)).length = _
      rw [List.length_zip, mkI_len, Nat.min_self]
    have hmm : mvi.map (·.1) = mv := by
      show (mv.zip (mkI mv.length T)).map Prod.fst = mv
      rw [List.map_fst_zip]
      rw [mkI_len]
      exact Nat.le_refl _
    have hmem : ∀ x ∈ mvi, ∃ i y, mv[i]? = some y ∧ x = (y, T i) := fun x hx => by
      obtain ⟨i, hi⟩ := List.mem_iff_getElem?.mp hx
      have hi2 := (List.getElem?_eq_some_iff.mp hi).1
      rw [hml3] at hi2
      have e := hmi i mv[i] (List.getElem?_eq_getElem hi2)
      rw [hi] at e
      exact ⟨i, mv[i], List.getElem?_eq_getElem hi2, Option.some.inj e⟩
    have hsmx : ∀ x ∈ mvi, Sm 66 x.2 ∧ 1 ≤ x.1.2.1 := fun x hx => by
      obtain ⟨i, y, hy, rfl⟩ := hmem x hx
      exact ⟨(ts i (List.getElem?_eq_some_iff.mp hy).1).mono (by decide), M.st y (List.mem_of_getElem? hy)⟩
    have hvx : ∀ x ∈ mvi, ((x.2 : Int) : Rat) = (c : Rat) * qv x.1.2.2.2 ∧ 1 ≤ x.1.2.1 := fun x hx => by
      obtain ⟨i, y, hy, rfl⟩ := hmem x hx
      refine ⟨?_, M.st y (List.mem_of_getElem? hy)⟩
      have e := tv i (List.getElem?_eq_some_iff.mp hy).1
      unfold chM at e
      rw [hy] at e
      exact e
    have sc60 : Sm 60 c := sc.mono (by decide)
    have PS := pr_sm (first := first) (shut := shut) hsmx sc60 (by rw [hml3]; exact M.len)
    have PV := pr_val (first := first) (shut := shut) hvx
    rw [hmm] at PV
    generalize hmvi : mvi = mw at *
    refine lc_intN (n := (((rk.map V.ref).length : Nat) : Int).toNat) (prI mw c first shut 0) (by omega) (fun k HE R hk sE qr => ?_) (fun r0 H5 nr0 s5 hr0 => ?_)
    · refine ⟨rfl, _, rfl, _, rfl, rfl, _, rfl, ite2 (fun c1 => ?_) (fun c1 => ?_)⟩
      · have := qr HE (Same.refl _)
        rw [prI_zero, if_pos] at this
        · exact this
        · have z := of_decide_eq_true c1
          injection z with z
          omega
      · have := qr HE (Same.refl _)
        rw [prI_zero, if_neg] at this
        · exact this
        · intro z
          apply c1
          apply decide_eq_true
          rw [z, Int.zero_add]
    rw [hfs] at hr0
    refine tnil_go ?_
    refine ⟨by show 1 ≤ sizeLine; decide, fun ro nro => ?_⟩
    have g6 := same_new (o := HO.lst [.ref r0]) nro
    have hro := upd_same (H := H5) (a := ro) (o := HO.lst [.ref r0])
    have hr6 := g6 _ _ hr0
    have hpw6 := g6 _ _ (s5 _ _ hpw)
    have nrr : r0 ≠ ro := ne_of_none hr0 nro
    have npr : pw ≠ ro := ne_of_none (s5 _ _ hpw) nro
    have S6 := S4.trans (s5.trans g6)
    generalize upd H5 ro (HO.lst [.ref r0]) = H6 at *
    have nrp : r0 ≠ pw := fun z => by
      rw [z, hpw] at nr0
      cases nr0
    have n3pw : H3 pw = none := npw
    have n3ro : H3 ro = none := (g4.trans s5).free nro
    have hsv : ∀ k, k ≤ 21 → Sm 1300 (c ^ k) := fun k hk => (sm_pow sc60 (by decide) k).mono (by omega)
    have hml6 := (s3.trans (g4.trans (s5.trans g6))) _ _ hml2
    refine ⟨_, rfl, _, _, rfl, rfl, 1, _, rfl, ⟨by decide, by decide, by show -(2 ^ 62) ≤ ((most : Nat) : Int) + 1; omega, by show ((most : Nat) : Int) + 1 < 2 ^ 62; omega⟩, ?_⟩
    refine for_range (lo := 1) (n := ((most : Int) + 1 - 1).toNat) (fun i σ HB => ∃ (z9 z10 z11 z12 z13 z14 z15 z16 : Option V) (fs : List Addr), σ = [some (.ref p), some (.int ((first : Nat) : Int)), some (.int ((most : Nat) : Int)), some (shutV shut), some (.ref ml), some (.ref zt), some (.int c), some (.ref pw), some (.ref ro), z9, z10, z11, z12, z13, z14, z15, z16, none, none, none, none, none] ∧ Same H3 HB ∧ IntL HB pw (i + 1) (fun k => c ^ k) ∧ HB ro = some (.lst (fs.map V.ref)) ∧ fs.length = i + 1 ∧ ∀ j r, fs[j]? = some r → r ≠ pw ∧ r ≠ ro ∧ IntL HB r ks.length (prI mw c first shut j))
      ⟨none, none, none, none, none, none, none, none, [r0], rfl, g4.trans (s5.trans g6), hpw6, hro, rfl, fun j r hj => ?_⟩ ?_ ?_
    · match j, hj with
      | 0, hj =>
        cases Option.some.inj hj
        exact ⟨nrp, nrr, hr6⟩
    · rintro i σ HB hi ⟨z9, z10, z11, z12, z13, z14, z15, z16, fs, rfl, sB, hpB, hrB, hfl, hfx⟩
      have hi20 : i < 20 := by omega
      refine ⟨by show 1 ≤ sizeLine; decide, fun b1 mb => ?_⟩
      have g7 := same_new (o := HO.lst [.int 0]) mb
      refine ⟨_, rfl, p, _, rfl, .inr (sqT_same ((s1.trans (s2.trans (s3.trans sB))).trans g7) k1), ?_⟩
      refine ⟨b1, _, _, rfl, rfl, upd_same, by omega, by omega, ?_, fun rw nrw => ?_⟩
      · rw [hfs]
        show 1 * ks.length ≤ sizeLine
        exact Nat.le_trans (show 1 * ks.length ≤ 1000 by omega) (by decide)
      have ef : (List.replicate (((rk.map V.ref).length : Nat) : Int).toNat [V.int 0]).flatten = (mkI ks.length (acc mw c first shut i 0)).map V.int := by
        rw [flat_rep, hfs, mkI_congr (f := acc mw c first shut i 0) (g := fun _ => 0) (fun j _ => rfl), mkI_rep, List.map_replicate]
      rw [ef] at *
      have g8 := same_new (o := HO.lst ((mkI ks.length (acc mw c first shut i 0)).map V.int)) nrw
      have G8 := g7.trans g8
      have nrB : HB rw = none := g7.free nrw
      have hrw0 : IntL (upd (upd HB b1 (HO.lst [.int 0])) rw (HO.lst ((mkI ks.length (acc mw c first shut i 0)).map V.int))) rw ks.length (acc mw c first shut i 0) := upd_same
      generalize upd (upd HB b1 (HO.lst [.int 0])) rw (HO.lst ((mkI ks.length (acc mw c first shut i 0)).map V.int)) = HC0 at *
      have hmlB := sB _ _ (s3 _ _ hml2)
      have hztB := sB _ _ hzt
      refine ⟨_, rfl, _, rfl, ml, zt, _, _, rfl, SqL.of (G8 _ _ hmlB), SqL.of (G8 _ _ hztB), ?_⟩
      refine for_it (walk_zip (K := K) (a := ml) (b := zt) (xs := rs.map V.ref) (ys := (mkI mv.length T).map V.int) (n := mv.length) (by rw [List.length_map, List.length_map, mkI_len, hrl, Nat.min_self])) (fun k σ HC => ∃ (z11 z12 z13 z14 z15 z16 : Option V), σ = [some (.ref p), some (.int ((first : Nat) : Int)), some (.int ((most : Nat) : Int)), some (shutV shut), some (.ref ml), some (.ref zt), some (.int c), some (.ref pw), some (.ref ro), some (.int (1 + ((i : Nat) : Int))), some (.ref rw), z11, z12, z13, z14, z15, z16, none, none, none, none, none] ∧ Same HB HC ∧ IntL HC rw ks.length (acc mw c first shut i k))
        ⟨z11, z12, z13, z14, z15, z16, rfl, G8, hrw0⟩ ?_ ?_ ?_
      · rintro k σ HC _ ⟨_, _, _, _, _, _, rfl, sC, _⟩
        exact ⟨SqL.of (sC _ _ hmlB), SqL.of (sC _ _ hztB)⟩
      · rintro k v σ HC HC' hk ⟨z11, z12, z13, z14, z15, z16, rfl, sC, hC⟩ ⟨T2, y1, y2, rfl, nT2, rfl, ex1, ex2⟩
        dsimp only at ex1 ex2
        obtain ⟨y, hy⟩ : ∃ y, mv[k]? = some y := ⟨mv[k], List.getElem?_eq_getElem hk⟩
        obtain ⟨pm, epm, pc, c1, c2⟩ := hrs.get hy
        rw [List.getElem?_map, epm] at ex1
        cases Option.some.inj ex1
        rw [List.getElem?_map, mkI_at hk] at ex2
        cases Option.some.inj ex2
        have gT2 := same_new (o := HO.tup [.ref pm, .int (T k)]) nT2
        have hC2 := gT2 _ _ hC
        have sC2 := sC.trans gT2
        have c1' := sqT_same (s2.trans (s3.trans (sB.trans sC2))) c1
        have hT2 : SqT K (upd HC T2 (HO.tup [.ref pm, .int (T k)])) T2 [.ref pm, .int (T k)] := SqT.of upd_same
        generalize upd HC T2 (HO.tup [.ref pm, .int (T k)]) = HD at *
        refine ⟨T2, _, rfl, hT2, rfl, _, _, rfl, pm, _, rfl, c1', rfl, _, _, rfl, _, _, rfl, _, _, rfl, _, _, rfl, rfl, _, _, rfl, rfl, ?_⟩
        refine ⟨_, rfl, _, rfl, _, _, rfl, rfl, ?_⟩
        have hyk := M.kd y (List.mem_of_getElem? hy)
        have hst := M.st y (List.mem_of_getElem? hy)
        have hmk := hmi k y hy
        refine put_test (kind := y.1) (shut := shut) rfl rfl rfl ?_
        refine ite2 (fun cd => ?_) (fun cd => ?_)
        · have cd2 := of_decide_eq_true cd
          have hsi : y.2.1 ≤ i + 1 := by omega
          have hsd : y.2.1 = i + 1 ∨ shut ≠ some y.1 := by
            rcases cd2 with z | z
            · exact .inl (by omega)
            · exact .inr z.2
          obtain ⟨rj, hrj⟩ : ∃ rj, fs[i - (y.2.1 - 1)]? = some rj := ⟨fs[i - (y.2.1 - 1)]'(by omega), List.getElem?_eq_getElem (by omega)⟩
          obtain ⟨nj1, nj2, hj3⟩ := hfx _ _ hrj
          refine ⟨_, rfl, _, rfl, ?_⟩
          refine ⟨rw, _, _, _, rfl, rfl, SqL.of hC2, by show (0 : Int) ≤ ((y.2.2.1 : Nat) : Int); omega, at_of (j := y.2.2.1) rfl (by rw [List.getElem?_map, mkI_at hyk.2]; rfl), ?_⟩
          refine ⟨_, rfl, _, rfl, ro, _, _, _, rfl, rfl, SqL.of (sC2 _ _ hrB), at_of (j := i - (y.2.1 - 1)) (by show 1 + ((i : Nat) : Int) - ((y.2.1 : Nat) : Int) = _; omega) (by rw [List.getElem?_map, hrj]; rfl), ?_⟩
          refine ⟨_, rfl, ?_⟩
          refine ixI_go (m := y.1) (sC2 _ _ hj3) rfl hyk.1 ?_
          refine ⟨_, rfl, _, _, rfl, rfl, (PS (i - (y.2.1 - 1)) y.1).cmul (ts k hk) (by omega) (by decide) (by omega), ?_⟩
          refine ⟨_, rfl, _, rfl, _, _, rfl, rfl, ?_⟩
          refine ixI_go (m := y.2.1 - 1) (sC2 _ _ hpB) (by show ((y.2.1 : Nat) : Int) - 1 = _; omega) (by omega) ?_
          refine ⟨_, _, rfl, rfl, ((PS (i - (y.2.1 - 1)) y.1).mul (ts k hk)).cmul (hsv (y.2.1 - 1) (by omega)) (by omega) (by decide) (by omega), ?_⟩
          refine ⟨_, _, rfl, rfl, ?_⟩
          refine ⟨rw, _, _, y.2.2.1, rfl, rfl, hC2, ?_, ?_⟩
          · show ixN ((mkI ks.length (acc mw c first shut i k)).map V.int).length ((y.2.2.1 : Nat) : Int) = some y.2.2.1
            unfold ixN
            rw [List.length_map, mkI_len, if_pos (by omega), if_pos (by omega)]
            congr 1
          · refine ⟨_, _, _, _, _, _, rfl, ?_, ?_⟩
            · intro b2 o hb2
              rw [upd_ne (ne_of_none hb2 nrB)]
              exact sC2 _ _ hb2
            · unfold IntL
              rw [upd_same, ← List.map_set, mkI_set]
              congr 3
              refine mkI_congr fun j hj => ?_
              rw [acc_step hmk]
              by_cases z : j = y.2.2.1
              · rw [if_pos z, if_pos (show cnd shut (i + 1) (y, T k).1 j = true from decide_eq_true ⟨z.symm, hsi, hsd⟩), z]
              · rw [if_neg z, if_neg (fun x => z (of_decide_eq_true x).1.symm), Int.add_zero]
        · refine ⟨_, _, _, _, _, _, rfl, sC2, ?_⟩
          have e : mkI ks.length (acc mw c first shut i (k + 1)) = mkI ks.length (acc mw c first shut i k) := mkI_congr fun j _ => by
            rw [acc_step hmk, if_neg (fun x => ?_), Int.add_zero]
            obtain ⟨x1, x2, x3⟩ : y.2.2.1 = j ∧ y.2.1 ≤ i + 1 ∧ (y.2.1 = i + 1 ∨ shut ≠ some y.1) := of_decide_eq_true x
            refine cd (decide_eq_true ?_)
            rcases x3 with x3 | x3
            · exact .inl (by omega)
            · by_cases z : y.2.1 = i + 1
              · exact .inl (by omega)
              · exact .inr ⟨by omega, x3⟩
          unfold IntL
          rw [e]
          exact hC2
      · rintro σ HC ⟨z11, z12, z13, z14, z15, z16, rfl, sC, hC⟩
        rw [← hml3] at hC
        have e : mkI ks.length (acc mw c first shut i mw.length) = mkI ks.length (prI mw c first shut (i + 1)) := mkI_congr fun j _ => acc_all
        unfold IntL at hC
        rw [e] at hC
        have hroC := sC _ _ hrB
        have npw2 : rw ≠ pw := fun z => by
          rw [z, hpB] at nrB
          cases nrB
        have nro2 : rw ≠ ro := fun z => by
          rw [z, hrB] at nrB
          cases nrB
        have hpC := sC _ _ hpB
        refine ⟨_, rfl, .inl ⟨rfl, _, SqL.of hroC⟩, _, rfl, ro, _, _, rfl, rfl, hroC, by rw [List.length_map]; exact small1000 (by omega), ?_⟩
        have hpE : upd HC ro (.lst (fs.map V.ref ++ [.ref rw])) pw = some (.lst ((mkI (i + 1) fun k => c ^ k).map V.int)) := by
          rw [upd_ne npr]
          exact hpC
        refine ⟨_, rfl, .inl ⟨rfl, _, SqL.of hpE⟩, ?_⟩
        have eat : atI ((mkI (i + 1) fun k => c ^ k).map V.int) (-1) = some (.int (c ^ i)) := by
          have e2 : ixN ((mkI (i + 1) fun k => c ^ k).map V.int).length (-1) = some i := by
            unfold ixN
            rw [List.length_map, mkI_len, if_neg (by omega), if_pos (by omega)]
            congr 1
            omega
          unfold atI
          rw [e2]
          show ((mkI (i + 1) fun k => c ^ k).map V.int)[i]? = _
          rw [List.getElem?_map, mkI_at (by omega)]
          rfl
        refine ⟨_, rfl, 1, rfl, pw, _, -1, _, rfl, rfl, SqL.of hpE, eat, ?_⟩
        refine ⟨_, rfl, _, _, rfl, rfl, (hsv i (by omega)).cmul sc60 (by decide) (by decide) (by decide), ?_⟩
        refine ⟨pw, _, _, rfl, rfl, hpE, by rw [List.length_map, mkI_len]; exact small1000 (by omega), ?_⟩
        refine ⟨_, _, _, _, _, _, _, _, fs ++ [rw], rfl, ?_, ?_, ?_, by rw [List.length_append, hfl]; rfl, fun j r hj => ?_⟩
        · intro b2 o hb2
          rw [upd_ne (ne_of_none hb2 n3pw), upd_ne (ne_of_none hb2 n3ro)]
          exact (sB.trans sC) _ _ hb2
        · unfold IntL
          rw [upd_same, mkI_succ (n := i + 1), List.map_append, Int.pow_succ]
          rfl
        · rw [upd_ne (Ne.symm npr), upd_same, List.map_append]
          rfl
        · rcases (by omega : j < fs.length ∨ j = fs.length ∨ fs.length < j) with z | z | z
          · rw [List.getElem?_append_left z] at hj
            obtain ⟨x1, x2, x3⟩ := hfx j r hj
            refine ⟨x1, x2, ?_⟩
            unfold IntL
            rw [upd_ne x1, upd_ne x2]
            exact sC _ _ x3
          · rw [z, List.getElem?_append_right (Nat.le_refl _), Nat.sub_self] at hj
            cases Option.some.inj hj
            refine ⟨npw2, nro2, ?_⟩
            unfold IntL
            rw [upd_ne npw2, upd_ne nro2, z, hfl]
            exact hC
          · rw [List.getElem?_append_right (by omega), List.getElem?_eq_none (by simp; omega)] at hj
            cases hj
    · rintro σ HB ⟨z9, z10, z11, z12, z13, z14, z15, z16, fs, rfl, sB, hpB, hrB, hfl, hfx⟩
      have em : ((most : Int) + 1 - 1).toNat = most := by omega
      rw [em] at hpB hfl
      refine ⟨_, rfl, _, rfl, ro, pw, _, _, rfl, SqL.of hrB, SqL.of hpB, ?_⟩
      refine lc_lsW (K := K) (walk_zip (K := K) (a := ro) (b := pw) (xs := fs.map V.ref) (ys := (mkI (most + 1) fun k => c ^ k).map V.int) (n := most + 1) (by rw [List.length_map, List.length_map, mkI_len, hfl, Nat.min_self])) ks.length (prQ mv first shut) (by omega) (fun HE sE => ⟨SqL.of (sE _ _ hrB), SqL.of (sE _ _ hpB)⟩) (fun k v HE HE' R hk sE hY qr => ?_) (fun D H2 gs sD hD hgl hgs => ?_)
      · obtain ⟨T2, y1, y2, rfl, nT2, rfl, ex1, ex2⟩ := hY
        dsimp only at ex1 ex2
        obtain ⟨rj, hrj⟩ : ∃ rj, fs[k]? = some rj := ⟨fs[k]'(by omega), List.getElem?_eq_getElem (by omega)⟩
        obtain ⟨nj1, nj2, hj3⟩ := hfx _ _ hrj
        rw [List.getElem?_map, hrj] at ex1
        cases Option.some.inj ex1
        rw [List.getElem?_map, mkI_at hk] at ex2
        cases Option.some.inj ex2
        have gT := same_new (o := HO.tup [.ref rj, .int (c ^ k)]) nT2
        refine ⟨T2, _, rfl, SqT.of upd_same, rfl, _, _, rfl, _, _, rfl, rfl, rfl, ?_⟩
        have hj4 := (sE.trans gT) _ _ hj3
        refine ⟨_, rfl, rj, rfl, ⟨_, SqL.of hj4⟩, ?_⟩
        refine lc_mkN (K := K) (walk_list (K := K) (a := rj) (xs := (mkI ks.length (prI mw c first shut k)).map V.int)) (prQ mv first shut k) (by rw [List.length_map, mkI_len]; omega) (fun HF sF => SqL.of (sF _ _ hj4)) (fun j v HF HF' R2 hj sF hY qr2 => ?_) (fun D2 HF nD2 sF hF => ?_)
        · obtain ⟨rfl, hv⟩ := hY
          rw [List.length_map, mkI_len] at hj
          rw [List.getElem?_map, mkI_at hj] at hv
          cases Option.some.inj hv
          refine ⟨rfl, _, rfl, _, rfl, ?_⟩
          refine tnil_go ?_
          exact rat_go (K := K) (Int.pow_pos c0) ((hsv k (by omega)).mono (m := 8000) (by decide)) (PV k j) qr2
        · rw [List.length_map, mkI_len] at hF
          exact qr D2 HF (gT.trans sF) (gT.free nD2) hF
      · exact q D H2 gs (s1.trans (s2.trans (s3.trans (sB.trans sD)))) hD hgl hgs
end

end Fp

set_option Elab.async false
set_option linter.all false
set_option maxRecDepth 100000
set_option maxHeartbeats 4000000
set_option exponentiation.threshold 10000
namespace Fp
open PySem PySem.Spec PyProof.Rows L2
/-! ### the told rows of kinds -/
def prRows (ks : List (List Tri)) (first most : Nat) : List (List RT) := (List.range (most + 1)).map fun i => mkL ks.length (prQ (movesFrom 0 ks) first none i)
@[reducible] def rTupOf (K : PySem.W.Frag) (xs : List V) (H : Hp) (Q : VK) : Prop := ∃ p ys, xs = [.ref p] ∧ ((SqL K H p ys ∧ ∀ l, H l = none → Q (.ref l) (upd H l (.tup ys))) ∨ (SqT K H p ys ∧ Q (.ref p) H))
section
variable {P : Program} {w : World} {K : PySem.W.Frag} {mg : Str → Option Value} {base : Heap} {aN aO : Addr}
theorem rowA_stays : Stays K (fun H p xs => RowAt K H p xs) := fun H H' p y e h => h.tk e
def spKp (K : PySem.W.Frag) : Sp := fun vs H Q _ => ∃ (p : Addr) (ks : List (List Tri)) (first most : Nat) (P : Int), vs = [.ref p, .int ((first : Nat) : Int), .int ((most : Nat) : Int)] ∧ KdsA K H p ks ∧ MvOk P ks.length (movesFrom 0 ks) ∧ ks.length ≤ 32 ∧ most ≤ 20 ∧
  ∀ z H' (rs : List Addr), Same H H' → SqT K H' z (rs.map V.ref) → Obs (fun H p xs => RowAt K H p xs) H' rs (prRows ks first most) → Q (.ref z) H'
end

end Fp

set_option Elab.async false
set_option linter.all false
set_option maxRecDepth 100000
set_option maxHeartbeats 4000000
set_option exponentiation.threshold 10000
namespace Fp
open PySem PySem.Spec PyProof.Rows L2
/-! ### bounded lives, by small weights -/
structure B6 (row : List RT) : Prop where
  len : row.length ≤ 6
  w : ∃ W : Int, 0 < W ∧ Sm 6 W ∧ ∀ y ∈ row, y.2 ∣ W
  q : ∀ x ∈ row, 0 ≤ qv x ∧ qv x ≤ 1
  sm : ∀ x ∈ row, SmR 10 x
theorem B6.br {row : List RT} (h : B6 row) : BR row := by
  obtain ⟨W, w1, w2, w3⟩ := h.w
  exact ⟨⟨W, w1, w2.mono (by decide), w3⟩, h.q, h.sm⟩
theorem sum_n6 : ∀ {us : List Int}, (∀ x ∈ us, 0 ≤ x ∧ x ≤ 6) → 0 ≤ us.sum ∧ us.sum ≤ 6 * (us.length : Int) ∧ ∀ x ∈ us, x ≤ us.sum
  | [], _ => ⟨by decide, by decide, fun x h => by simp at h⟩
  | x :: r, h => by
    obtain ⟨i1, i2, i3⟩ := sum_n6 fun y hy => h y (List.mem_cons_of_mem _ hy)
    have hx := h x (List.mem_cons_self ..)
    rw [List.sum_cons, List.length_cons]
    refine ⟨by omega, by omega, fun y hy => ?_⟩
    rcases List.mem_cons.mp hy with z | z
    · omega
    · have := i3 y z
      omega
theorem b6_of {us : List Int} {b : Int} (hu : ∀ x ∈ us, 0 ≤ x ∧ x ≤ b) (hb : 0 < b) (hb2 : b < 64) (hl : us.length ≤ 6) : B6 (mkL us.length fun i => ((getI us i : Int) : Rat) / (b : Rat)) := by
  have key : ∀ x ∈ mkL us.length (fun i => ((getI us i : Int) : Rat) / (b : Rat)), ∃ t : Int, 0 ≤ t ∧ t ≤ b ∧ x = low2 t b := fun x hx => by
    obtain ⟨j, hj, rfl⟩ := mem_mkL hx
    have hm : getI us j ∈ us := List.mem_of_getElem? (getI_at hj)
    exact ⟨getI us j, (hu _ hm).1, (hu _ hm).2, (is_rdq (low2_red (Int.ne_of_gt hb)) (qv_low2 hb)).symm⟩
  refine ⟨by rw [mkL_len]; exact hl, ⟨b, hb, by unfold Sm; omega, fun y hy => ?_⟩, fun x hx => ?_, fun x hx => ?_⟩
  · obtain ⟨t, _, _, rfl⟩ := key y hy
    exact (red_small (low2_red (Int.ne_of_gt hb)) hb (qv_low2 hb)).1
  · obtain ⟨t, h0, h1, rfl⟩ := key x hx
    rw [qv_low2 hb]
    exact div_01 h0 hb h1
  · obtain ⟨t, h0, h1, rfl⟩ := key x hx
    exact low2_sm hb (by unfold Sm; omega) (by unfold Sm; omega)
section
variable {P : Program} {w : World} {K : PySem.W.Frag} {mg : Str → Option Value} {base : Heap}
def spBd (K : PySem.W.Frag) : Sp := fun vs H Q _ => ∃ (d c : Addr) (t : Int) (b : Bool), vs = [.ref d, .int 6, .bl b] ∧ Feed H d c t ∧ t ≤ 800000 ∧
  ∀ p row t' H', Keep d H H' → Feed H' d c t' → t' ≤ t + 20 → B6 row → LifeAt K H' p row (0, 1) → Q (.ref p) H'
end

end Fp

set_option Elab.async false
set_option linter.all false
set_option maxRecDepth 100000
set_option maxHeartbeats 4000000
set_option exponentiation.threshold 10000
namespace Fp
open PySem PySem.Spec PyProof.Rows L2
/-! ### kinds that are drawn: the marks of one kind -/
abbrev Mk := (Int × Int) × Int
def mkE (e : Mk) : List L2.Key × V := ([.inl e.1.1, .inl e.1.2], .int e.2)
theorem mk_inj {e f : Mk} (h : (mkE e).1 = (mkE f).1) : e.1 = f.1 := by
  unfold mkE at h
  injection h with h1 h2
  injection h1 with h1
  injection h2 with h2 _
  injection h2 with h2
  exact Prod.ext h1 h2
theorem mk_put (ms : List Mk) (i j v : Int) : ∃ ns : List Mk, putK (ms.map mkE) [.inl i, .inl j] (.int v) = ns.map mkE ∧ (∀ e ∈ ns, e ∈ ms ∨ e = ((i, j), v)) ∧ ns.length ≤ ms.length + 1 ∧ ns ≠ [] := by
  unfold putK
  split
  · rename_i hany
    refine ⟨ms.map fun e => if e.1 = (i, j) then ((i, j), v) else e, ?_, fun e he => ?_, by rw [List.length_map]; omega, fun z => ?_⟩
    · rw [List.map_map, List.map_map]
      refine List.map_congr_left fun e _ => ?_
      show (if (mkE e).1 = [.inl i, .inl j] then ((mkE e).1, V.int v) else mkE e) = mkE (if e.1 = (i, j) then ((i, j), v) else e)
      by_cases z : e.1 = (i, j)
      · have z2 : (mkE e).1 = [.inl i, .inl j] := by
          unfold mkE
          rw [z]
        rw [if_pos z, if_pos z2, z2]
        rfl
      · have z2 : ¬ (mkE e).1 = [.inl i, .inl j] := fun u => z (mk_inj (f := ((i, j), v)) u)
        rw [if_neg z, if_neg z2]
    · obtain ⟨f, hf, rfl⟩ := List.mem_map.mp he
      split
      · exact .inr rfl
      · exact .inl hf
    · rw [List.map_eq_nil_iff.mp z] at hany
      cases hany
  · refine ⟨ms ++ [((i, j), v)], by rw [List.map_append]; rfl, fun e he => ?_, by rw [List.length_append]; exact Nat.le_refl _, by simp⟩
    rcases List.mem_append.mp he with z | z
    · exact .inl z
    · exact .inr (List.mem_singleton.mp z)
theorem mk_get {ms : List Mk} {e : Mk} (h : e ∈ ms) : ∃ v, valV (ms.map mkE) (mkE e).1 = some (.int v) ∧ (e.1, v) ∈ ms := by
  unfold valV
  induction ms with
  | nil => cases h
  | cons f r ih =>
    rw [List.map_cons]
    by_cases z : (mkE f).1 = (mkE e).1
    · rw [List.find?_cons_of_pos (by rw [decide_eq_true z])]
      refine ⟨f.2, rfl, ?_⟩
      rw [← mk_inj z]
      exact List.mem_cons_self ..
    · rw [List.find?_cons_of_neg (by rw [decide_eq_false z]; decide)]
      rcases List.mem_cons.mp h with u | u
      · exact absurd (by rw [u]) z
      · obtain ⟨v, h1, h2⟩ := ih u
        exact ⟨v, h1, List.mem_cons_of_mem _ h2⟩
structure MkOk (m : Nat) (ms : List Mk) : Prop where
  ok : ∀ e ∈ ms, (1 ≤ e.1.1 ∧ e.1.1 ≤ 6) ∧ (0 ≤ e.1.2 ∧ e.1.2 < (m : Int)) ∧ 1 ≤ e.2 ∧ e.2 ≤ 9
theorem mk_sum : ∀ {ms : List Mk}, (∀ e ∈ ms, 1 ≤ e.2 ∧ e.2 ≤ 9) → 0 ≤ (ms.map (·.2)).sum ∧ (ms.map (·.2)).sum ≤ 9 * (ms.length : Int) ∧ ∀ e ∈ ms, e.2 ≤ (ms.map (·.2)).sum
  | [], _ => ⟨by decide, by decide, fun e he => by cases he⟩
  | f :: r, h => by
    obtain ⟨i1, i2, i3⟩ := mk_sum (ms := r) fun e he => h e (List.mem_cons_of_mem _ he)
    have hf := h f (List.mem_cons_self ..)
    rw [List.map_cons, List.sum_cons, List.length_cons]
    refine ⟨by omega, by omega, fun e he => ?_⟩
    rcases List.mem_cons.mp he with z | z
    · rw [z]
      omega
    · have := i3 e z
      omega
theorem keys_mem {H : Hp} : ∀ {kvs : List (List L2.Key × V)} {bs : List Addr}, IsKeys H kvs bs → ∀ b ∈ bs, ∃ e ∈ kvs, H b = some (.tup (e.1.map kV))
  | _, _, .nil, b, hb => by cases hb
  | _, _, .cons (a := a) h t, b, hb => by
    rcases List.mem_cons.mp hb with z | z
    · rw [z]
      exact ⟨a, List.mem_cons_self .., h⟩
    · obtain ⟨e, h1, h2⟩ := keys_mem t b z
      exact ⟨e, List.mem_cons_of_mem _ h1, h2⟩
theorem keys_len {H : Hp} : ∀ {kvs : List (List L2.Key × V)} {bs : List Addr}, IsKeys H kvs bs → bs.length = kvs.length
  | _, _, .nil => rfl
  | _, _, .cons _ t => congrArg Nat.succ (keys_len t)
theorem tri_list {α β : Type} {Pd : α → β → Prop} : ∀ {ys : List α}, (∀ y ∈ ys, ∃ t, Pd y t) → ∃ f : List β, f.length = ys.length ∧ (∀ (i : Nat) (y : α), ys[i]? = some y → ∃ t, f[i]? = some t ∧ Pd y t) ∧ ∀ t ∈ f, ∃ y ∈ ys, Pd y t
  | [], _ => ⟨[], rfl, fun i y h => by simp at h, fun t h => by cases h⟩
  | y :: r, h => by
    obtain ⟨t, ht⟩ := h y (List.mem_cons_self ..)
    obtain ⟨f, h1, h2, h3⟩ := tri_list (ys := r) fun z hz => h z (List.mem_cons_of_mem _ hz)
    refine ⟨t :: f, by rw [List.length_cons, List.length_cons, h1], fun i z hz => ?_, fun u hu => ?_⟩
    · cases i with
      | zero =>
        cases Option.some.inj hz
        exact ⟨t, rfl, ht⟩
      | succ i => exact h2 i z hz
    · rcases List.mem_cons.mp hu with z | z
      · rw [z]
        exact ⟨y, List.mem_cons_self .., ht⟩
      · obtain ⟨v, hv, hp⟩ := h3 u z
        exact ⟨v, List.mem_cons_of_mem _ hv, hp⟩
/-- a kind as it is drawn -/
structure KdOk (m : Nat) (ts : List Tri) : Prop where
  len : ts.length ≤ 4
  tot : ∃ T : Int, 0 < T ∧ T ≤ 45 ∧ ∀ t ∈ ts, (1 ≤ t.1 ∧ t.1 ≤ 6) ∧ t.2.1 < m ∧ ∃ v : Int, 1 ≤ v ∧ v ≤ T ∧ t.2.2 = low2 v T
abbrev s_fw : Stmt := topS 18
abbrev N_fw : List Str := ["_law_feed_here", "_law_way", "_law_k", "_law_size"]
theorem sc_fw : FnScope N_fw ["_law_feed_here", "_law_way", "_law_k", "_law_size"] (defScope s_fw) := ⟨rfl, rfl, rfl, by decide +kernel, rfl, by decide +kernel, by decide +kernel⟩
abbrev s_ki : Stmt := topS 19
abbrev N_ki : List Str := ["_law_feed_here", "_law_size", "_law_is_full", "_law_way", "_law_kinds_here", "_law_k", "_law_marks", "_law_lack", "_law_turn", "_law_pair", "_law_total"]
theorem sc_ki : FnScope N_ki ["_law_feed_here", "_law_size", "_law_is_full"] (defScope s_ki) := ⟨rfl, rfl, rfl, by decide +kernel, rfl, by decide +kernel, by decide +kernel⟩
section
variable {P : Program} {w : World} {K : PySem.W.Frag} {mg : Str → Option Value} {base : Heap} {aN aO : Addr}
def spFw : Sp := fun vs H Q _ => ∃ (d c : Addr) (t way : Int) (k m : Nat), vs = [.ref d, .int way, .int (k : Int), .int (m : Int)] ∧ k < m ∧ m ≤ 4 ∧ Feed H d c t ∧ t ≤ 900000 ∧
  ∀ (j : Nat) t' H', j < m → Keep d H H' → Feed H' d c t' → t' ≤ t + 1 → Q (.int (j : Int)) H'
theorem ok_fw {f fD : Addr} {fd fdD : FuncData} (F : Fun K "_law_following" "_law_following" s_fw f fd)
    (FD : Fun K "_law_draw" "_law_draw" s_draw fD fdD) (bD : Binds K fdD ["_law_feed_here", "_law_size"] []) (gD : mg "_law_draw" = some (.ref fD)) (GD : FnOk P w K mg base CX0 1 fD fdD ["_law_feed_here", "_law_size"] spDraw)
    (n_min : mg "min" = none) : FnOk P w K mg base CX0 2 f fd ["_law_feed_here", "_law_way", "_law_k", "_law_size"] spFw := by
  refine F.ok sc_fw (fun vs H Q E h => ?_) (fun cdv A outer s H vs Q E hr h => ?_)
  · obtain ⟨_, _, _, _, _, _, rfl, _⟩ := h
    rfl
  · obtain ⟨d, c, t, way, k, m, rfl, hk, hm, f0, ht, q⟩ := h
    refine ⟨_, (pss_cons (ps_if (pt_cmpR op_eq (pv 1) pe_int (nomark _)) (pss_one (ps_ret (pe_op op_mod (pe_op op_add (pv 2) pe_int) (pv 3)))) pss_nil)
      (pss_cons (ps_if (pt_cmpR op_eq (pv 1) pe_int (nomark _)) (pss_one (ps_ret (pv 2))) pss_nil)
      (pss_cons (ps_if (pt_cmpR op_eq (pv 1) pe_int (nomark _)) (pss_one (ps_ret (pe_callB (call_min2 rfl) (by rfl) n_min (by decide +kernel) (pa_cons (pe_op op_sub (pv 3) pe_int) (pa_cons (pe_op op_add (pe_op op_mulA (pe_op op_fdivA (pv 2) pe_int) pe_int) (pe_call GD hr (by rfl) gD FD.kp bD .nil pass0 (pa_cons (pv 0) (pa_cons pe_int pa_nil)))) pa_nil))))) pss_nil)
      (pss_one (ps_ret (pe_ifExp (pt_cmpR op_eq (pv 1) pe_int (nomark _)) (pe_call GD hr (by rfl) gD FD.kp bD .nil pass0 (pa_cons (pv 0) (pa_cons (pe_op op_add (pv 2) pe_int) pa_nil))) (pe_call GD hr (by rfl) gD FD.kp bD .nil pass0 (pa_cons (pv 0) (pa_cons (pv 3) pa_nil))))))))), ?_⟩
    refine ⟨_, rfl, rfl, _, rfl, ite2 (fun c1 => ?_) (fun c1 => ?_)⟩
    · refine ⟨_, rfl, _, 1, rfl, rfl, _, rfl, _, _, rfl, rfl, by show (0 : Int) < (m : Int); omega, ?_⟩
      have e : ((k : Int) + 1) % (m : Int) = (((k + 1) % m : Nat) : Int) := by rw [Int.natCast_emod]; rfl
      show Q (.int (((k : Int) + 1) % (m : Int))) H
      rw [e]
      exact q _ t H (Nat.mod_lt _ (by omega)) (Keep.of_same (Same.refl H)) f0 (by omega)
    refine ⟨_, rfl, rfl, _, rfl, ite2 (fun c2 => ?_) (fun c2 => ?_)⟩
    · exact ⟨_, rfl, q k t H hk (Keep.of_same (Same.refl H)) f0 (by omega)⟩
    refine ⟨_, rfl, rfl, _, rfl, ite2 (fun c3 => ?_) (fun c3 => ?_)⟩
    · refine ⟨_, rfl, _, 1, rfl, rfl, ?_⟩
      refine ⟨_, rfl, _, 2, rfl, rfl, ⟨by decide, Nat.lt_of_le_of_lt (Nat.log2_le_self _) (by decide)⟩, ?_⟩
      have ed : (k : Int).fdiv 2 = ((k / 2 : Nat) : Int) := by
        rw [Int.fdiv_eq_ediv_of_nonneg _ (by decide), Int.natCast_ediv]
        rfl
      refine ⟨_, 2, rfl, rfl, CMulA.of (n := 3) (m := 2) (by show Sm 3 ((k : Int).fdiv 2); rw [ed]; unfold Sm; omega) (by unfold Sm; decide) (by decide) (by decide) (by decide), ?_⟩
      refine ⟨_, rfl, d, c, 2, t, rfl, f0, by omega, by decide, by decide, fun r H1 r0 r1 k1 f1 => ?_⟩
      refine ⟨_, _, rfl, rfl, _, _, rfl, ?_⟩
      obtain ⟨j, rfl⟩ := Int.eq_ofNat_of_zero_le r0
      show Q (.int (if (k : Int).fdiv 2 * 2 + (j : Int) < (m : Int) - 1 then (k : Int).fdiv 2 * 2 + (j : Int) else (m : Int) - 1)) H1
      have e9 : (if (k : Int).fdiv 2 * 2 + (j : Int) < (m : Int) - 1 then (k : Int).fdiv 2 * 2 + (j : Int) else (m : Int) - 1) = ((min (m - 1) (k / 2 * 2 + j) : Nat) : Int) := by
        rw [ed]
        split <;> omega
      rw [e9]
      exact q _ (t + 1) H1 (by omega) k1 f1 (by omega)
    refine ⟨_, rfl, rfl, _, rfl, ite2 (fun c4 => ?_) (fun c4 => ?_)⟩
    · refine ⟨_, rfl, _, rfl, _, 1, rfl, rfl, d, c, (k : Int) + 1, t, rfl, f0, by omega, by omega, by omega, fun r H1 r0 r1 k1 f1 => ?_⟩
      obtain ⟨j, rfl⟩ := Int.eq_ofNat_of_zero_le r0
      exact q j (t + 1) H1 (by omega) k1 f1 (by omega)
    · refine ⟨_, rfl, _, rfl, d, c, (m : Int), t, rfl, f0, by omega, by omega, by omega, fun r H1 r0 r1 k1 f1 => ?_⟩
      obtain ⟨j, rfl⟩ := Int.eq_ofNat_of_zero_le r0
      exact q j (t + 1) H1 (by omega) k1 f1 (by omega)
def spKi (K : PySem.W.Frag) : Sp := fun vs H Q _ => ∃ (d c : Addr) (t : Int) (m : Nat) (b : Bool), vs = [.ref d, .int (m : Int), .bl b] ∧ 1 ≤ m ∧ m ≤ 4 ∧ Feed H d c t ∧ t ≤ 800000 ∧
  ∀ z kinds t' H', Keep d H H' → Feed H' d c t' → t' ≤ t + 80 → KdsA K H' z kinds → kinds.length = m → (∀ ts ∈ kinds, KdOk m ts) → Q (.ref z) H'
theorem ok_ki {f fD fFW fL : Addr} {fd fdD fdFW fdL : FuncData} (F : Fun K "_law_kinds" "_law_kinds" s_ki f fd)
    (FD : Fun K "_law_draw" "_law_draw" s_draw fD fdD) (bD : Binds K fdD ["_law_feed_here", "_law_size"] []) (gD : mg "_law_draw" = some (.ref fD)) (GD : FnOk P w K mg base CX0 1 fD fdD ["_law_feed_here", "_law_size"] spDraw)
    (FFW : Fun K "_law_following" "_law_following" s_fw fFW fdFW) (bFW : Binds K fdFW ["_law_feed_here", "_law_way", "_law_k", "_law_size"] []) (gFW : mg "_law_following" = some (.ref fFW)) (GFW : FnOk P w K mg base CX0 2 fFW fdFW ["_law_feed_here", "_law_way", "_law_k", "_law_size"] spFw)
    (FL : Fun K "_law_lowest" "_law_lowest" s_lowest fL fdL) (bL : Binds K fdL ["_law_top", "_law_bottom"] []) (gL : mg "_law_lowest" = some (.ref fL)) (GL : FnOk P w K mg base CX0 1 fL fdL ["_law_top", "_law_bottom"] spLow)
    (n_int : mg "int" = none) (n_list : mg "list" = none) (n_range : mg "range" = none) (n_sorted : mg "sorted" = none) (n_sum : mg "sum" = none) (n_tuple : mg "tuple" = none) : FnOk P w K mg base CX0 3 f fd ["_law_feed_here", "_law_size", "_law_is_full"] (spKi K) := by
  refine F.ok sc_ki (fun vs H Q E h => ?_) (fun cdv A outer s H vs Q E hr h => ?_)
  · obtain ⟨_, _, _, _, _, rfl, _⟩ := h
    rfl
  · obtain ⟨d, c, t, m, b, rfl, hm1, hm4, f0, ht, q⟩ := h
    refine ⟨_, (pss_cons (ps_set (i := 3) sc_ki.nd rfl (.inl rfl) (pe_call GD (hr.mono (by decide)) (by rfl) gD FD.kp bD .nil pass0 (pa_cons (pv 0) (pa_cons pe_int pa_nil))))
      (pss_cons (ps_set (i := 4) sc_ki.nd rfl (.inl rfl) (pe_lst pa_nil))
      (pss_cons (ps_for PassesOwn.never rfl (pi_range1 (by rfl) n_range (pa_cons (pv 1) pa_nil)) (pg_name (i := 5) sc_ki.nd rfl (.inl rfl)) (pss_cons (ps_set (i := 6) sc_ki.nd rfl (.inr rfl) pe_dnewT)
      (pss_cons (ps_set (i := 7) sc_ki.nd rfl (.inl rfl) (pe_op op_mulA (pe_ix ix_list (pe_lst (pa_cons pe_int (pa_cons pe_int (pa_cons pe_int (pa_cons pe_int (pa_cons pe_int pa_nil)))))) (pe_call GD (hr.mono (by decide)) (by rfl) gD FD.kp bD .nil pass0 (pa_cons (pv 0) (pa_cons pe_int pa_nil))) (fun _ _ => rfl)) (pe_callTy call_int1 (by rfl) n_int (by decide +kernel) (pa_cons (pe_not (pv 2)) pa_nil))))
      (pss_cons (ps_for PassesOwn.never rfl (pi_range1 (by rfl) n_range (pa_cons (pe_op op_add pe_int (pe_call GD (hr.mono (by decide)) (by rfl) gD FD.kp bD .nil pass0 (pa_cons (pv 0) (pa_cons pe_int pa_nil)))) pa_nil)) (pg_name (i := 8) sc_ki.nd rfl (.inl rfl)) (pss_cons (ps_set (i := 9) sc_ki.nd rfl (.inl rfl) (pe_tup (pa_cons (pe_op op_add pe_int (pe_call GD (hr.mono (by decide)) (by rfl) gD FD.kp bD .nil pass0 (pa_cons (pv 0) (pa_cons pe_int pa_nil)))) (pa_cons (pe_call GFW hr (by rfl) gFW FFW.kp bFW .nil pass0 (pa_cons (pv 0) (pa_cons (pv 3) (pa_cons (pv 5) (pa_cons (pv 1) pa_nil))))) pa_nil))))
      (pss_one (ps_dput (hu_of hr) (pv 6) (pv 9) (pe_op op_add pe_int (pe_call GD (hr.mono (by decide)) (by rfl) gD FD.kp bD .nil pass0 (pa_cons (pv 0) (pa_cons pe_int pa_nil)))) rfl))))
      (pss_mid (ps_if (PW.pt (pw_and (pt_cmpR op_eq (pv 7) pe_int (nomark _)) (pw_and1 (pt_cmpR op_eq (pe_call GD (hr.mono (by decide)) (by rfl) gD FD.kp bD .nil pass0 (pa_cons (pv 0) (pa_cons pe_int pa_nil))) pe_int (nomark _))))) (pss_one (ps_set (i := 6) sc_ki.nd rfl (.inr rfl) pe_dnewT)) pss_nil)
      (pss_cons (ps_set (i := 10) sc_ki.nd rfl (.inr rfl) (pe_op op_add (pe_callB (cr_sum rfl) (by rfl) n_sum (by decide +kernel) (pa_cons (pe_callTy (call_list_valsT rfl) (by rfl) n_list (by decide +kernel) (pa_cons (pe_bm0 PySem.F.plainAttrs_dict PySem.F.slot_dict_values PySem.F.type_dict_values mt_valuesT (pv 6)) pa_nil)) pa_nil)) (pv 7)))
      (pss_one (ps_expr (pe_bm PySem.F.plainAttrs_list PySem.F.slot_list_append PySem.F.type_list_append mt_append (pv 4) (pa_cons (pe_callTy call_tuple_of (by rfl) n_tuple (by decide +kernel) (pa_cons (pe_lc (own := [("_law_pair", 9)]) (g := (gName 9)) (tt := tYes) (te := (tTup (tCons (tOp (rIxT K) (tVar 9) (tC (.int 0))) (tCons (tOp (rIxT K) (tVar 9) (tC (.int 1))) (tCons (tCall spLow [] E0 (tCons (tDGet (tVar 6) (tVar 9)) (tCons (tVar 10) tNil))) tNil))))) rfl sc_ki.nd (pi_list (pe_callB (cr_sortedT rfl) (by rfl) n_sorted (by decide +kernel) (pa_cons (pv 6) pa_nil))) (blkOk_by (own := [("_law_pair", 9)]) (N := N_ki) (sc := (defScope s_ki)) (by decide +kernel)) (fun _ _ _ _ _ => (pg_name (i := 9) sc_ki.nd rfl (.inl rfl))) (fun _ _ _ _ _ => pts_nil) (fun _ _ _ _ _ => (pe_tup (pa_cons (pe_ix ix_tup (pv 9) pe_int (fun _ _ => rfl)) (pa_cons (pe_ix ix_tup (pv 9) pe_int (fun _ _ => rfl)) (pa_cons (pe_call GL (hr.mono (by decide)) (by rfl) gL FL.kp bL .nil pass0 (pa_cons (pe_dget (hu_of hr) (pv 6) (pv 9) (fun _ _ => rfl)) (pa_cons (pv 10) pa_nil))) pa_nil)))))) pa_nil)) pa_nil))))))))))
      (pss_one (ps_ret (pe_callTy call_tuple_of (by rfl) n_tuple (by decide +kernel) (pa_cons (pv 4) pa_nil))))))), ?_⟩
    refine ⟨_, rfl, d, c, 7, t, rfl, f0, by omega, by decide, by decide, fun way H1 w0 w1 k1 f1 => ?_⟩
    refine ⟨by show 0 ≤ sizeLine; decide, fun ks nk => ?_⟩
    have e2 := same_new (o := HO.lst []) nk
    have nkH : H ks = none := k1.none f1 nk
    have hkd := f1.nd nk
    have hkc := f1.nc nk
    refine ⟨_, rfl, _, rfl, by omega, by omega, ?_⟩
    refine for_range (lo := 0) (n := ((m : Nat) : Int).toNat) (fun k σ HB => ∃ (z5 z6 z7 z8 z9 z10 : Option V) (t' : Int) (rs : List Addr) (kinds : List (List Tri)), σ = [some (.ref d), some (.int (m : Int)), some (.bl b), some (.int way), some (.ref ks), z5, z6, z7, z8, z9, z10] ∧ Keep d H HB ∧ Feed HB d c t' ∧ t' ≤ t + 1 + 15 * (k : Int) ∧ HB ks = some (.lst (rs.map V.ref)) ∧ Obs (KdA K) HB rs kinds ∧ kinds.length = k ∧ ∀ ts ∈ kinds, KdOk m ts) ⟨none, none, none, none, none, none, t + 1, [], [], rfl, (k1.trans (Keep.of_same e2)), f1.same e2, by omega, upd_same, Obs.nil, rfl, fun ts h => by cases h⟩ ?_ ?_
    · rintro k σ HB hk ⟨z5, z6, z7, z8, z9, z10, t', rs, kinds, rfl, kB, fB, htB, hks, hobs, hlen, hok⟩
      have hk4 : k < m := by omega
      refine fun mk nm => ?_
      have g1 := same_new (o := HO.dT []) nm
      have hmd := fB.nd nm
      have hmc := fB.nc nm
      -- what lacks
      refine ⟨by show 5 ≤ sizeLine; decide, fun l1 n1 => ?_⟩
      have g2 := same_new (o := HO.lst [.int 0, .int 0, .int 1, .int 5, .int 9]) n1
      have f2 := fB.same (g1.trans g2)
      refine ⟨_, rfl, d, c, 5, t', rfl, f2, by omega, by decide, by decide, fun r3 H3 r30 r31 k3 f3 => ?_⟩
      obtain ⟨lv, elv, hlv⟩ : ∃ lv : Int, atI [V.int 0, V.int 0, V.int 1, V.int 5, V.int 9] r3 = some (.int lv) ∧ 0 ≤ lv ∧ lv ≤ 9 := by
        rcases (by omega : r3 = 0 ∨ r3 = 1 ∨ r3 = 2 ∨ r3 = 3 ∨ r3 = 4) with z | z | z | z | z
        · exact ⟨0, by rw [z]; rfl, by decide, by decide⟩
        · exact ⟨0, by rw [z]; rfl, by decide, by decide⟩
        · exact ⟨1, by rw [z]; rfl, by decide, by decide⟩
        · exact ⟨5, by rw [z]; rfl, by decide, by decide⟩
        · exact ⟨9, by rw [z]; rfl, by decide, by decide⟩
      refine ⟨l1, _, _, _, rfl, rfl, SqL.of (keep_at f2 k3 upd_same (fun _ z => nomatch z)), elv, ?_⟩
      refine ⟨_, rfl, _, rfl, .inr ⟨_, rfl, ?_⟩⟩
      have hb01 : 0 ≤ (if (!b) = true then (1 : Int) else 0) ∧ (if (!b) = true then (1 : Int) else 0) ≤ 1 := by split <;> decide
      generalize (if (!b) = true then (1 : Int) else 0) = bi at *
      refine ⟨_, _, rfl, rfl, CMulA.of (n := 4) (m := 2) (by unfold Sm; omega) (by unfold Sm; omega) (by decide) (by decide) (by decide), ?_⟩
      have hla : 0 ≤ lv * bi ∧ lv * bi ≤ 9 := by
        rcases (by omega : bi = 0 ∨ bi = 1) with z | z
        · rw [z, Int.mul_zero]
          exact ⟨by decide, by decide⟩
        · rw [z, Int.mul_one]
          exact hlv
      have kB3 : Keep d HB H3 := (Keep.of_same (g1.trans g2)).trans k3
      have hmk3 : H3 mk = some (.dT (([] : List Mk).map mkE)) := keep_at f2 k3 (g2 _ _ upd_same) (fun _ z => nomatch z)
      refine ⟨_, rfl, d, c, 4, t' + 1, rfl, f3, by omega, by decide, by decide, fun r4 H4 r40 r41 k4 f4 => ?_⟩
      refine ⟨1, r4, rfl, rfl, _, rfl, by show -(2 ^ 62) ≤ (1 : Int) + r4; omega, by show (1 : Int) + r4 < 2 ^ 62; omega, ?_⟩
      refine for_range (lo := 0) (n := ((1 : Int) + r4).toNat) (fun i σ HC => ∃ (z8 z9 : Option V) (ms : List Mk) (t2 : Int), σ = [some (.ref d), some (.int (m : Int)), some (.bl b), some (.int way), some (.ref ks), some (.int (0 + (k : Int))), some (.ref mk), some (.int (lv * bi)), z8, z9, z10] ∧ Keep d HB HC ∧ Feed HC d c t2 ∧ t2 ≤ t' + 2 + 3 * (i : Int) ∧ HC mk = some (.dT (ms.map mkE)) ∧ MkOk m ms ∧ ms.length ≤ i ∧ (i = 0 ∨ ms ≠ [])) ⟨z8, z9, [], t' + 1 + 1, rfl, kB3.trans k4, f4, by omega, keep_at f3 k4 hmk3 (fun _ z => nomatch z), ⟨fun e h => by cases h⟩, Nat.le_refl _, .inl rfl⟩ ?_ ?_
      · rintro i σ HC hi ⟨z8, z9, ms, t2, rfl, kC, fC, ht2, hmC, mok, mlen, _⟩
        have hi4 : i < 4 := by omega
        refine ⟨_, rfl, d, c, 6, t2, rfl, fC, by omega, by decide, by decide, fun r5 H5 r50 r51 k5 f5 => ?_⟩
        refine ⟨1, r5, rfl, rfl, ?_⟩
        refine ⟨_, rfl, _, rfl, _, rfl, _, rfl, d, c, t2 + 1, way, k, m, (by show [V.ref d, V.int way, V.int (0 + (k : Int)), V.int (m : Int)] = _; rw [Int.zero_add]), hk4, hm4, f5, by omega, fun j t6 H6 hj k6 f6 ht6 => ?_⟩
        refine ⟨by show 2 ≤ sizeLine; decide, fun pr np => ?_⟩
        have g7 := same_new (o := HO.tup [.int (1 + r5), .int (j : Int)]) np
        have f7 := f6.same g7
        refine ⟨_, rfl, d, c, 9, t6, rfl, f7, by omega, by decide, by decide, fun r8 H8 r80 r81 k8 f8 => ?_⟩
        refine ⟨1, r8, rfl, rfl, ?_⟩
        have hm8 : H8 mk = some (.dT (ms.map mkE)) := keep_at f7 k8 (g7 _ _ (keep_at f5 k6 (keep_at fC k5 hmC (fun _ z => nomatch z)) (fun _ z => nomatch z))) (fun _ z => nomatch z)
        have hp8 : H8 pr = some (.tup (([.inl (1 + r5), .inl (j : Int)] : List L2.Key).map kV)) := keep_at f7 k8 upd_same (fun _ z => nomatch z)
        obtain ⟨ns, e9, hns, hnl, hnn⟩ := mk_put ms (1 + r5) (j : Int) (1 + r8)
        have put := DPut.t (v := .int (1 + r8)) hm8 hp8 (by rw [List.length_map]; exact small1000 (by omega))
        rw [e9] at put
        refine ⟨_, rfl, _, rfl, mk, _, rfl, put, ?_⟩
        refine ⟨_, _, ns, t6 + 1, rfl, ((kC.trans (k5.trans (k6.trans ((Keep.of_same g7).trans k8)))).wr nm), f8.wr hmd hmc, by omega, upd_same, ⟨fun e he => ?_⟩, by omega, .inr hnn⟩
        rcases hns e he with z | z
        · exact mok.ok e z
        · rw [z]
          exact ⟨⟨by show 1 ≤ 1 + r5; omega, by show 1 + r5 ≤ 6; omega⟩, ⟨by show (0 : Int) ≤ (j : Int); omega, by show (j : Int) < (m : Int); omega⟩, by show 1 ≤ 1 + r8; omega, by show 1 + r8 ≤ 9; omega⟩
      rintro σ HC ⟨z8', z9', ms, t2, rfl, kC, fC, ht2, hmC, mok, mlen, mne⟩
      have mne2 : ms ≠ [] := by
        rcases mne with z | z
        · omega
        · exact z
      -- none at all, seldom
      refine ⟨fun σ HD => ∃ (mk2 : Addr) (ms2 : List Mk) (t3 : Int), σ = [some (.ref d), some (.int (m : Int)), some (.bl b), some (.int way), some (.ref ks), some (.int (0 + (k : Int))), some (.ref mk2), some (.int (lv * bi)), z8', z9', z10] ∧ Keep d HB HD ∧ Feed HD d c t3 ∧ t3 ≤ t' + 15 ∧ HD mk2 = some (.dT (ms2.map mkE)) ∧ MkOk m ms2 ∧ ms2.length ≤ 4 ∧ (ms2 ≠ [] ∨ lv * bi = 9), ?_, ?_⟩
      · refine ⟨_, rfl, rfl, _, rfl, ite2 (fun c1 => ?_) (fun c1 => iteF ⟨mk, ms, t2, rfl, kC, fC, by omega, hmC, mok, by omega, .inl mne2⟩)⟩
        have h9 : lv * bi = 9 := V.int.inj (of_decide_eq_true c1)
        refine ⟨_, rfl, d, c, 3, t2, rfl, fC, by omega, by decide, by decide, fun r9 H9 r90 r91 k9 f9 => ?_⟩
        refine ⟨rfl, _, rfl, ite2 (fun c2 => ?_) (fun c2 => ?_)⟩
        · refine fun mk2 nm2 => ?_
          have g9 := same_new (o := HO.dT []) nm2
          exact ⟨mk2, [], t2 + 1, rfl, (kC.trans k9).trans (Keep.of_same g9), f9.same g9, by omega, upd_same, ⟨fun e h => by cases h⟩, by decide, .inr h9⟩
        · exact ⟨mk, ms, t2 + 1, rfl, kC.trans k9, f9, by omega, keep_at fC k9 hmC (fun _ z => nomatch z), mok, by omega, .inl mne2⟩
      clear hmC mok mlen mne mne2 kC fC ht2
      rintro σ HD ⟨mk2, ms2, t3, rfl, kD, fD, ht3, hmD, mok, mlen, mne⟩
      obtain ⟨hs0, hs1, hs2⟩ := mk_sum (ms := ms2) fun e he => (mok.ok e he).2.2
      obtain ⟨T, hTe⟩ : ∃ T, (ms2.map (·.2)).sum + lv * bi = T := ⟨_, rfl⟩
      have hT0 : 0 < T := by
        rcases mne with z | z
        · obtain ⟨e, he⟩ := List.exists_mem_of_ne_nil _ z
          have h1 := hs2 e he
          have h2 := (mok.ok e he).2.2.1
          omega
        · omega
      have hT1 : T ≤ 45 := by omega
      refine ⟨_, rfl, .inr (.inr (.inl ⟨rfl, .inr ⟨_, hmD⟩⟩)), mk2, _, rfl, rfl, hmD, fun vw nv => ?_⟩
      have x1 := same_new (o := viewO "dict_values" vw mk2) nv
      refine ⟨vw, mk2, _, rfl, upd_same, x1 _ _ hmD, fun l2 nl => ?_⟩
      have x2 := same_new (o := HO.lst ((ms2.map mkE).map (·.2))) nl
      have el : (ms2.map mkE).map (·.2) = (ms2.map (·.2)).map V.int := by
        rw [List.map_map, List.map_map]
        rfl
      refine ⟨l2, ms2.map (·.2), rfl, SqL.of (by rw [← el]; exact upd_same), ?_⟩
      refine ⟨_, rfl, _, _, rfl, rfl, ?_⟩
      have X2 := x1.trans x2
      have hksD := keep_at fB kD hks (fun _ z => nomatch z)
      have hks2 := X2 _ _ hksD
      have hm2 := X2 _ _ hmD
      have f2' := fD.same X2
      have kD2 := kD.trans (Keep.of_same X2)
      generalize upd (upd HD vw (viewO "dict_values" vw mk2)) l2 (HO.lst ((ms2.map mkE).map (·.2))) = HX at *
      refine ⟨_, rfl, .inl ⟨rfl, _, SqL.of hks2⟩, ?_⟩
      refine ⟨_, rfl, mk2, _, rfl, hm2, fun e he => ?_, fun ys bs kk p IK hp srt stb np => ?_⟩
      · obtain ⟨e0, _, rfl⟩ := List.mem_map.mp he
        exact ⟨e0.1.1, e0.1.2, rfl⟩
      have x3 := same_new (o := HO.lst ys) np
      refine ⟨p, rfl, ⟨_, SqL.of upd_same⟩, ?_⟩
      have hyl : ys.length = ms2.length := by
        have := stb.len
        rw [List.length_map, keys_len IK, List.length_map] at this
        exact this
      obtain ⟨fL, fl, fP, fM⟩ := tri_list (ys := ys) (Pd := fun y (tr : Tri) => ∃ (b : Addr) (e : Mk) (v : Int), y = V.ref b ∧ HX b = some (.tup ((mkE e).1.map kV)) ∧ valV (ms2.map mkE) (mkE e).1 = some (.int v) ∧ (e.1, v) ∈ ms2 ∧ tr = (e.1.1.toNat, e.1.2.toNat, low2 v T)) fun y hy => by
        have h1 := stb.perm.mem_iff.mp hy
        obtain ⟨b0, hb0, rfl⟩ := List.mem_map.mp h1
        obtain ⟨e0, he0, h2⟩ := keys_mem IK b0 hb0
        obtain ⟨e, he, rfl⟩ := List.mem_map.mp he0
        obtain ⟨v, hv1, hv2⟩ := mk_get he
        exact ⟨_, b0, e, v, rfl, h2, hv1, hv2, rfl⟩
      refine lc_obsW (K := K) (At := TriA K) triA_stays (walk_list (K := K) (a := p) (xs := ys)) fL fl (by omega) (fun HE sE => SqL.of (sE _ _ upd_same)) (fun i tr x HE HE' R hi sE hY qr => ?_) (fun D HF sF hD => ?_)
      · obtain ⟨rfl, hv⟩ := hY
        obtain ⟨tr2, htr, b0, e, v, rfl, hb0, hval, hmem, rfl⟩ := fP i _ hv
        rw [htr] at hi
        cases Option.some.inj hi
        obtain ⟨o1, o2, o3⟩ := mok.ok _ hmem
        have hvT : v ≤ T := by
          have := hs2 _ hmem
          have h9 : v ≤ (ms2.map (·.2)).sum := this
          omega
        have hbE := sE _ _ (x3 _ _ hb0)
        have sqb : SqT K HE' b0 [.int e.1.1, .int e.1.2] := SqT.of hbE
        refine ⟨rfl, _, rfl, b0, _, _, _, rfl, rfl, sqb, at_of (j := 0) rfl rfl, ?_⟩
        refine ⟨_, rfl, b0, _, _, _, rfl, rfl, sqb, at_of (j := 1) rfl rfl, ?_⟩
        have dg := DGet.t (sE _ _ (x3 _ _ hm2)) hbE
        rw [hval] at dg
        refine ⟨_, rfl, _, rfl, mk2, _, rfl, dg, ?_⟩
        refine ⟨_, rfl, v, _, rfl, by show 0 < (ms2.map (·.2)).sum + lv * bi; omega, by show Sm 8000 ((ms2.map (·.2)).sum + lv * bi); rw [hTe]; exact Sm.mono (n := 6) (by unfold Sm; omega) (by decide), fun pl npl => ?_⟩
        rw [show (ms2.map (·.2)).sum + lv * bi = T from hTe] at *
        have y1 := same_new (o := HO.tup [.int (ratT v T), .int (ratB v T)]) npl
        refine ⟨by show 3 ≤ sizeLine; decide, fun tp ntp => ?_⟩
        have y2 := same_new (o := HO.tup [.int e.1.1, .int e.1.2, .ref pl]) ntp
        refine qr tp _ (y1.trans y2) ⟨pl, ?_, SqT.of (y2 _ _ upd_same)⟩
        show SqT K _ tp [.int ((e.1.1.toNat : Nat) : Int), .int ((e.1.2.toNat : Nat) : Int), .ref pl]
        rw [Int.toNat_of_nonneg (show (0 : Int) ≤ e.1.1 from Int.le_trans (by decide) o1.1), Int.toNat_of_nonneg o2.1]
        exact SqT.of upd_same
      obtain ⟨qs, q1, q2⟩ := hD
      refine tnil_go ?_
      refine ⟨D, _, rfl, .inl ⟨SqL.of q1, fun tu ntu => ?_⟩⟩
      have x4 := same_new (o := HO.tup (qs.map V.ref)) ntu
      have X4 := x3.trans (sF.trans x4)
      have hks4 := X4 _ _ hks2
      have hrl := hobs.1
      refine ⟨ks, _, _, rfl, rfl, hks4, by rw [List.length_map, hrl, hlen]; exact small1000 (by omega), ?_⟩
      have kD4 := kD2.trans (Keep.of_same X4)
      have tkk : Tk K HB (upd HF tu (HO.tup (qs.map V.ref))) := (Tk.keep fB kD).trans (Tk.same (X2.trans X4))
      refine ⟨_, _, _, _, _, _, t3, rs ++ [tu], kinds ++ [fL], rfl, (kB.trans kD4).wr nkH, (f2'.same X4).wr hkd hkc, by omega, ?_, ?_, by rw [List.length_append, hlen]; rfl, fun ts hts => ?_⟩
      · rw [upd_same, List.map_append]
        rfl
      · refine Obs.tk (K := K) kdA_stays ?_ (tk_lst hks4)
        exact (hobs.tk kdA_stays tkk).append (Obs.one ⟨qs, SqT.of upd_same, q2.tk triA_stays (Tk.same x4)⟩)
      · rcases List.mem_append.mp hts with z | z
        · exact hok ts z
        · rw [List.mem_singleton.mp z]
          refine ⟨by omega, T, hT0, hT1, fun tr htr => ?_⟩
          obtain ⟨y, _, b0, e, v, _, _, _, hmem, rfl⟩ := fM tr htr
          obtain ⟨o1, o2, o3⟩ := mok.ok _ hmem
          have h9 : v ≤ (ms2.map (·.2)).sum := hs2 _ hmem
          dsimp only at o1 o2 o3
          refine ⟨⟨?_, ?_⟩, ?_, v, o3.1, by omega, rfl⟩
          · show 1 ≤ e.1.1.toNat
            omega
          · show e.1.1.toNat ≤ 6
            omega
          · show e.1.2.toNat < m
            omega
    · rintro σ HB ⟨z5, z6, z7, z8, z9, z10, t', rs, kinds, rfl, kB, fB, htB, hks, hobs, hlen, hok⟩
      refine ⟨_, rfl, ks, _, rfl, .inl ⟨SqL.of hks, fun z nz => ?_⟩⟩
      have x5 := same_new (o := HO.tup (rs.map V.ref)) nz
      exact q z kinds t' _ (kB.trans (Keep.of_same x5)) (fB.same x5) (by omega) ⟨rs, SqT.of upd_same, hobs.tk kdA_stays (Tk.same x5)⟩ (by omega) hok
end

end Fp

set_option Elab.async false
set_option linter.all false
set_option maxRecDepth 100000
set_option maxHeartbeats 4000000
set_option exponentiation.threshold 10000
namespace Fp
open PySem PySem.Spec PyProof.Rows L2
/-! ### lent kinds are behind one another -/
theorem sumTo_far {f : Nat → Rat} {a b : Nat} (h : ∀ k, a ≤ k → f k = 0) (hab : a ≤ b) : sumTo b f = sumTo a f := by
  obtain ⟨d, rfl⟩ : ∃ d, b = a + d := ⟨b - a, by omega⟩
  clear hab
  induction d with
  | zero => rfl
  | succ d ih =>
    rw [show a + (d + 1) = a + d + 1 by omega, sumTo_succ, ih, h (a + d) (by omega)]
    grind
theorem crossQ_conv {A B : Nat → Rat} {m n : Nat} (hA : ∀ k, m ≤ k → A k = 0) (hB : ∀ k, n ≤ k → B k = 0) (i : Nat) : crossQ A B m n i = sumTo (i + 1) fun k => A k * B (i - k) := by
  unfold crossQ
  have e1 := sumTo_far (f := fun k => if k ≤ i ∧ i < k + n then A k * B (i - k) else 0) (a := m) (b := m + (i + 1)) (fun k hk => by
    show (if k ≤ i ∧ i < k + n then A k * B (i - k) else 0) = 0
    split
    · rw [hA k hk]
      grind
    · rfl) (by omega)
  have e2 := sumTo_far (f := fun k => if k ≤ i ∧ i < k + n then A k * B (i - k) else 0) (a := i + 1) (b := m + (i + 1)) (fun k hk => if_neg (by omega)) (by omega)
  rw [← e1, e2]
  refine sumTo_congr fun k hk => ?_
  by_cases z : i < k + n
  · rw [if_pos ⟨by omega, z⟩]
  · rw [if_neg (fun x => z x.2), hB (i - k) (by omega)]
    grind
theorem conv3 {A B C p : Nat → Rat} (hC : ∀ i, C i = sumTo (i + 1) fun k => A k * B (i - k)) (n : Nat) : (sumTo n fun k => B k * sumTo (n - 1 - k) fun l => A l * p (n - 1 - k - 1 - l)) = sumTo n fun j => laterF C j * p (n - 1 - j) := by
  cases n with
  | zero => rfl
  | succ m =>
    rw [sumTo_head (n := m) (f := fun j => laterF C j * p (m + 1 - 1 - j)), sumTo_succ]
    have h1 : B m * (sumTo (m + 1 - 1 - m) fun l => A l * p (m + 1 - 1 - m - 1 - l)) = 0 := by
      rw [show m + 1 - 1 - m = 0 by omega, sumTo_zero]
      grind
    rw [h1, show laterF C 0 = 0 from rfl]
    have h2 : (sumTo m fun j => laterF C (j + 1) * p (m + 1 - 1 - (j + 1))) = sumTo m fun j => sumTo (j + 1) fun k => A k * B (j - k) * p (m - 1 - j) := sumTo_congr fun j _ => by
      show C j * p (m + 1 - 1 - (j + 1)) = _
      rw [hC j, show m + 1 - 1 - (j + 1) = m - 1 - j by omega]
      have e : (sumTo (j + 1) fun k => A k * B (j - k)) * p (m - 1 - j) = p (m - 1 - j) * sumTo (j + 1) fun k => A k * B (j - k) := by grind
      rw [e, sumTo_mul]
      exact sumTo_congr fun k _ => by grind
    rw [h2, tri_flip m (fun j k => A k * B (j - k) * p (m - 1 - j)), tri_swap (fun j k => A j * B (j + k - j) * p (m - 1 - (j + k))) m]
    have h3 : (sumTo m fun k => B k * sumTo (m + 1 - 1 - k) fun l => A l * p (m + 1 - 1 - k - 1 - l)) = sumTo m fun j => sumTo (m - j) fun k => A k * B (k + j - k) * p (m - 1 - (k + j)) := sumTo_congr fun k hk => by
      rw [sumTo_mul, show m + 1 - 1 - k = m - k by omega]
      refine sumTo_congr fun l hl => ?_
      rw [show l + k - l = k by omega, show m - k - 1 - l = m - 1 - (l + k) by omega]
      grind
    rw [h3]
    grind
theorem two_by_two {A B C r0 r1 : Nat → Rat} (hC : ∀ i, C i = sumTo (i + 1) fun k => A k * B (i - k)) (h0 : ∀ n, r0 n = oneAt n + sumTo n fun k => B k * r1 (n - 1 - k)) (h1 : ∀ n, r1 n = sumTo n fun k => A k * r0 (n - 1 - k)) (n : Nat) : r0 n = renQ (laterF C) oneAt n ∧ r1 n = renQ (laterF C) (laterF A) n := by
  have key : ∀ n, r0 n = renQ (laterF C) oneAt n := by
    intro n
    induction n using Nat.strongRecOn with
    | ind n ih =>
      rw [h0 n, renQ_is]
      congr 1
      have e : (sumTo n fun k => B k * r1 (n - 1 - k)) = sumTo n fun k => B k * sumTo (n - 1 - k) fun l => A l * r0 (n - 1 - k - 1 - l) := sumTo_congr fun k _ => by rw [h1]
      rw [e, conv3 hC]
      exact sumTo_congr fun j hj => by rw [ih (n - 1 - j) (by omega)]
  refine ⟨key n, ?_⟩
  rw [h1, conv_later]
  exact sumTo_congr fun k _ => by rw [key]
theorem sumL_app {α : Type} (f : α → Rat) (ys : List α) : ∀ xs : List α, ((xs ++ ys).map f).sum = (xs.map f).sum + (ys.map f).sum
  | [] => by
    show _ = (0 : Rat) + _
    rw [List.nil_append]
    grind
  | x :: r => by
    have ih := sumL_app f ys r
    show f x + ((r ++ ys).map f).sum = (f x + (r.map f).sum) + _
    rw [ih]
    grind
theorem zip_sum {g : RT → Nat → Rat} (hg : ∀ i, g (0, 1) i = 0) : ∀ (row : List RT) (o : Nat), (((row.zipIdx o).filter fun x => decide (x.1 ≠ (0, 1))).map fun x => g x.1 x.2).sum = sumTo row.length fun i => g (row[i]?.getD (0, 1)) (o + i)
  | [], o => rfl
  | x :: r, o => by
    have ih := zip_sum hg r (o + 1)
    rw [List.length_cons, sumTo_head, List.zipIdx_cons]
    have e : (sumTo r.length fun j => g ((x :: r)[j + 1]?.getD (0, 1)) (o + (j + 1))) = sumTo r.length fun i => g (r[i]?.getD (0, 1)) (o + 1 + i) := sumTo_congr fun j _ => by
      rw [List.getElem?_cons_succ, show o + (j + 1) = o + 1 + j by omega]
    rw [e, ← ih]
    show _ = g x (o + 0) + _
    by_cases z : x = (0, 1)
    · rw [List.filter_cons_of_neg (by
        show ¬ decide (x ≠ (0, 1)) = true
        simp [z]), z, hg]
      grind
    · rw [List.filter_cons_of_pos (by
        show decide (x ≠ (0, 1)) = true
        simp [z])]
      rfl
theorem fol_sum {row : List RT} {f k n j : Nat} {h : Nat → Nat → Rat} : (((folL row f).map fun t => ((k, t) : Mv)).map fun m => if cnd none (n + 1) m j = true then qv m.2.2.2 * h (n - (m.2.1 - 1)) m.1 else 0).sum = if f = j then sumTo (n + 1) fun i => chR row (0, 1) i * h (n - i) k else 0 := by
  unfold folL
  rw [List.map_map, List.map_map]
  by_cases z : f = j
  · rw [if_pos z]
    have e : (((row.zipIdx.filter fun x => decide (x.1 ≠ (0, 1))).map ((fun m : Mv => if cnd none (n + 1) m j = true then qv m.2.2.2 * h (n - (m.2.1 - 1)) m.1 else 0) ∘ (fun t => ((k, t) : Mv)) ∘ fun x => (x.2 + 1, f, x.1))).sum) = (((row.zipIdx 0).filter fun x => decide (x.1 ≠ (0, 1))).map fun x => if x.2 < n + 1 then qv x.1 * h (n - x.2) k else 0).sum := by
      congr 1
      refine List.map_congr_left fun x _ => ?_
      show (if cnd none (n + 1) (k, x.2 + 1, f, x.1) j = true then qv x.1 * h (n - (x.2 + 1 - 1)) k else 0) = _
      by_cases y : x.2 < n + 1
      · rw [if_pos (show cnd none (n + 1) (k, x.2 + 1, f, x.1) j = true from decide_eq_true ⟨z, by show x.2 + 1 ≤ n + 1; omega, .inr (fun q => by cases q)⟩), if_pos y, Nat.add_sub_cancel]
      · rw [if_neg (fun q => y (by
          have := (of_decide_eq_true q).2.1
          have : x.2 + 1 ≤ n + 1 := this
          omega)), if_neg y]
    refine Eq.trans e ?_
    rw [zip_sum (g := fun x i => if i < n + 1 then qv x * h (n - i) k else 0) (fun i => by
      show (if i < n + 1 then qv (0, 1) * h (n - i) k else 0) = 0
      rw [qv_nought]
      split <;> grind)]
    have hz : ∀ i, row.length ≤ i → (if i < n + 1 then chR row (0, 1) i * h (n - i) k else 0) = 0 := fun i hi => by
      rw [chR_far0' hi]
      split <;> grind
    have e1 : (sumTo row.length fun i => if 0 + i < n + 1 then qv (row[i]?.getD (0, 1)) * h (n - (0 + i)) k else 0) = sumTo row.length fun i => if i < n + 1 then chR row (0, 1) i * h (n - i) k else 0 := sumTo_congr fun i hi => by
      rw [Nat.zero_add, List.getElem?_eq_getElem hi, chR_in (List.getElem?_eq_getElem hi)]
      rfl
    rw [e1, ← sumTo_far hz (show row.length ≤ row.length + (n + 1) by omega), sumTo_far (a := n + 1) (fun i hi => if_neg (by omega)) (show n + 1 ≤ row.length + (n + 1) by omega)]
    exact sumTo_congr fun i hi => if_pos hi
  · rw [if_neg z]
    have e : ∀ xs : List (RT × Nat), (xs.map ((fun m : Mv => if cnd none (n + 1) m j = true then qv m.2.2.2 * h (n - (m.2.1 - 1)) m.1 else 0) ∘ (fun t => ((k, t) : Mv)) ∘ fun x => (x.2 + 1, f, x.1))).sum = 0 := by
      intro xs
      induction xs with
      | nil => rfl
      | cons x r ih =>
        show (if cnd none (n + 1) (k, x.2 + 1, f, x.1) j = true then qv x.1 * h (n - (x.2 + 1 - 1)) k else 0) + _ = 0
        rw [if_neg (fun q => z (of_decide_eq_true q).1)]
        have ih2 : (List.foldr (fun x1 x2 => x1 + x2) 0 (List.map ((fun m : Mv => if cnd none (n + 1) m j = true then qv m.2.2.2 * h (n - (m.2.1 - 1)) m.1 else 0) ∘ (fun t => ((k, t) : Mv)) ∘ fun x => (x.2 + 1, f, x.1)) r)) = 0 := ih
        grind
    exact e _
theorem lent_step {X Y : List RT} {first n j : Nat} : prQ (movesFrom 0 [folL X 1, folL Y 0]) first none (n + 1) j = (if 1 = j then sumTo (n + 1) fun i => chR X (0, 1) i * prQ (movesFrom 0 [folL X 1, folL Y 0]) first none (n - i) 0 else 0) + if 0 = j then sumTo (n + 1) fun i => chR Y (0, 1) i * prQ (movesFrom 0 [folL X 1, folL Y 0]) first none (n - i) 1 else 0 := by
  rw [prQ_succ]
  have e : movesFrom 0 [folL X 1, folL Y 0] = ((folL X 1).map fun t => ((0, t) : Mv)) ++ ((folL Y 0).map fun t => ((1, t) : Mv)) := by
    show ((folL X 1).map fun t => ((0, t) : Mv)) ++ (((folL Y 0).map fun t => ((1, t) : Mv)) ++ []) = _
    rw [List.append_nil]
  generalize hm : movesFrom 0 [folL X 1, folL Y 0] = mv at *
  generalize hp : prQ mv first none = p at *
  rw [e, sumL_app, fol_sum, fol_sum]

end Fp

set_option Elab.async false
set_option linter.all false
set_option maxRecDepth 100000
set_option maxHeartbeats 4000000
set_option exponentiation.threshold 10000
namespace Fp
open PySem PySem.Spec PyProof.Rows L2
/-! ### chances of a trimmed row -/
theorem trimZ_get : ∀ {n : Nat} {xs : List RT}, xs.length = n → ∀ i : Nat, ((trimZ xs)[i]?).getD (0, 1) = (xs[i]?).getD (0, 1) := by
  intro n
  induction n with
  | zero =>
    intro xs h i
    rw [List.length_eq_zero_iff.mp h]
    rfl
  | succ n ih =>
    intro xs h i
    have hne : xs ≠ [] := fun z => by rw [z] at h; cases h
    have e := List.dropLast_concat_getLast hne
    generalize xs.dropLast = ys at e
    generalize xs.getLast hne = y at e
    subst e
    rw [List.length_append] at h
    have hy : ys.length = n := by
      have : [y].length = 1 := rfl
      omega
    by_cases z : y = (0, 1)
    · rw [z, trimZ_nought, ih hy i]
      rcases (by omega : i < ys.length ∨ i = ys.length ∨ ys.length < i) with q | q | q
      · rw [List.getElem?_append_left q]
      · rw [q, List.getElem?_append_right (Nat.le_refl _), Nat.sub_self, List.getElem?_eq_none (Nat.le_refl _)]
        rfl
      · rw [List.getElem?_eq_none (by omega), List.getElem?_eq_none (by rw [List.length_append]; show ys.length + 1 ≤ i; omega)]
    · rw [trimZ_stop _ z]
theorem chR_get (row : List RT) (i : Nat) : chR row (0, 1) i = qv ((row[i]?).getD (0, 1)) := by
  rcases (by omega : i < row.length ∨ row.length ≤ i) with z | z
  · rw [List.getElem?_eq_getElem z, chR_in (List.getElem?_eq_getElem z)]
    rfl
  · rw [List.getElem?_eq_none z, chR_far0' z]
    exact qv_nought.symm
theorem chR_trim {f : Nat → Rat} {m : Nat} (h : ∀ i, m ≤ i → f i = 0) (i : Nat) : chR (trimZ (mkL m f)) (0, 1) i = f i := by
  rw [chR_get, trimZ_get rfl]
  rcases (by omega : i < m ∨ m ≤ i) with z | z
  · rw [mkL_at z]
    exact qv_rdq _
  · rw [List.getElem?_eq_none (by rw [mkL_len]; exact z), h i z]
    exact qv_nought

end Fp

set_option Elab.async false
set_option linter.all false
set_option maxRecDepth 100000
set_option maxHeartbeats 4000000
set_option exponentiation.threshold 10000
namespace Fp
open PySem PySem.Spec PyProof.Rows L2
/-! ### coming to a kind for the first time -/
theorem sumTo_end {f : Nat → Rat} {n m : Nat} (h : ∀ k, n ≤ k → f k = 0) (hm : n ≤ m) : sumTo m f = sumTo n f := by
  obtain ⟨d, rfl⟩ : ∃ d, m = n + d := ⟨m - n, by omega⟩
  induction d with
  | zero => rfl
  | succ d ih =>
    rw [← Nat.add_assoc, sumTo_succ, ih (by omega), h (n + d) (by omega)]
    grind
theorem sumL_add {α : Type} (f g : α → Rat) : ∀ xs : List α, (xs.map f).sum + (xs.map g).sum = (xs.map fun x => f x + g x).sum
  | [] => by
    show (0 : Rat) + 0 = 0
    grind
  | x :: r => by
    show (f x + (r.map f).sum) + (g x + (r.map g).sum) = (f x + g x) + (r.map fun x => f x + g x).sum
    rw [← sumL_add f g r]
    grind
theorem sumL_swap {α : Type} (a : Nat → Rat) (g : Nat → α → Rat) (n : Nat) : ∀ xs : List α, (sumTo n fun k => a k * (xs.map (g k)).sum) = (xs.map fun y => sumTo n fun k => a k * g k y).sum
  | [] => by
    have : (sumTo n fun k => a k * (([] : List α).map (g k)).sum) = sumTo n fun _ => 0 := sumTo_congr fun k _ => by
      show a k * 0 = 0
      grind
    rw [this, sumTo_nought]
    rfl
  | x :: r => by
    have : (sumTo n fun k => a k * ((x :: r).map (g k)).sum) = sumTo n fun k => a k * g k x + a k * (r.map (g k)).sum := sumTo_congr fun k _ => by
      show a k * (g k x + (r.map (g k)).sum) = _
      grind
    rw [this, sumTo_add, sumL_swap a g n r]
    rfl
theorem passage {mv : List Mv} (hs : ∀ y ∈ mv, 1 ≤ y.2.1) (first o : Nat) (n : Nat) : ∀ j, prQ mv first none (n + 1) j = prQ mv first (some o) (n + 1) j + sumTo n fun k => prQ mv first (some o) (k + 1) o * prQ mv o none (n - k) j := by
  induction n using Nat.strongRecOn with
  | ind n ih =>
    intro j
    have eW : (sumTo n fun k => prQ mv first (some o) (k + 1) o * prQ mv o none (n - k) j) = (mv.map fun y => sumTo n fun k => prQ mv first (some o) (k + 1) o * (if cnd none (n - k) y j = true then qv y.2.2.2 * prQ mv o none (n - k - 1 - (y.2.1 - 1)) y.1 else 0)).sum := by
      rw [← sumL_swap]
      refine sumTo_congr fun k hk => ?_
      obtain ⟨q, hq⟩ : ∃ q, n - k = q + 1 := ⟨n - k - 1, by omega⟩
      rw [hq, prQ_succ (first := o) (shut := none)]
      rfl
    rw [prQ_succ, prQ_succ, eW, sumL_add]
    refine sumL_congr fun y hy => ?_
    have h1 := hs y hy
    by_cases c1 : y.2.2.1 = j ∧ y.2.1 ≤ n + 1
    · obtain ⟨cj, cs⟩ := c1
      have cn : cnd none (n + 1) y j = true := decide_eq_true ⟨cj, cs, .inr (by intro z; cases z)⟩
      rw [if_pos cn]
      rcases (by omega : y.2.1 = n + 1 ∨ y.2.1 ≤ n) with z | z
      · have cv : cnd (some o) (n + 1) y j = true := decide_eq_true ⟨cj, cs, .inl z⟩
        rw [if_pos cv, show n - (y.2.1 - 1) = 0 by omega, prQ_zero, prQ_zero]
        have e0 : (sumTo n fun k => prQ mv first (some o) (k + 1) o * (if cnd none (n - k) y j = true then qv y.2.2.2 * prQ mv o none (n - k - 1 - (y.2.1 - 1)) y.1 else 0)) = sumTo n fun _ => 0 := sumTo_congr fun k hk => by
          rw [if_neg fun u => by
            have := (of_decide_eq_true u).2.1
            omega]
          grind
        rw [e0, sumTo_nought]
        grind
      · obtain ⟨p, hp⟩ : ∃ p, n = p + y.2.1 := ⟨n - y.2.1, by omega⟩
        rw [show n - (y.2.1 - 1) = p + 1 by omega, ih p (by omega) y.1]
        have e1 : (sumTo n fun k => prQ mv first (some o) (k + 1) o * (if cnd none (n - k) y j = true then qv y.2.2.2 * prQ mv o none (n - k - 1 - (y.2.1 - 1)) y.1 else 0)) = sumTo (p + 1) fun k => prQ mv first (some o) (k + 1) o * (qv y.2.2.2 * prQ mv o none (p - k) y.1) := by
          rw [sumTo_end (n := p + 1) (fun k hk => ?_) (by omega)]
          · refine sumTo_congr fun k hk => ?_
            rw [if_pos (show cnd none (n - k) y j = true from decide_eq_true ⟨cj, by omega, .inr (by intro z; cases z)⟩), show n - k - 1 - (y.2.1 - 1) = p - k by omega]
          · rw [if_neg fun u => by
              have := (of_decide_eq_true u).2.1
              omega]
            grind
        rw [e1, sumTo_succ, Nat.sub_self, prQ_zero]
        have e2 : (sumTo p fun k => prQ mv first (some o) (k + 1) o * (qv y.2.2.2 * prQ mv o none (p - k) y.1)) = qv y.2.2.2 * sumTo p fun k => prQ mv first (some o) (k + 1) o * prQ mv o none (p - k) y.1 := by
          rw [sumTo_mul]
          exact sumTo_congr fun k _ => by grind
        rw [e2]
        by_cases ko : y.1 = o
        · have cv : ¬ cnd (some o) (n + 1) y j = true := fun u => by
            rcases (of_decide_eq_true u).2.2 with v | v
            · omega
            · exact v (by rw [ko])
          rw [if_neg cv, if_pos ko, ko]
          grind
        · have cv : cnd (some o) (n + 1) y j = true := decide_eq_true ⟨cj, cs, .inr fun u => ko (Option.some.inj u).symm⟩
          rw [if_pos cv, if_neg ko]
          grind
    · have cn : ¬ cnd none (n + 1) y j = true := fun u => c1 ⟨(of_decide_eq_true u).1, (of_decide_eq_true u).2.1⟩
      have cv : ¬ cnd (some o) (n + 1) y j = true := fun u => c1 ⟨(of_decide_eq_true u).1, (of_decide_eq_true u).2.1⟩
      have e0 : (sumTo n fun k => prQ mv first (some o) (k + 1) o * (if cnd none (n - k) y j = true then qv y.2.2.2 * prQ mv o none (n - k - 1 - (y.2.1 - 1)) y.1 else 0)) = sumTo n fun _ => 0 := sumTo_congr fun k hk => by
        rw [if_neg fun u => c1 ⟨(of_decide_eq_true u).1, by have := (of_decide_eq_true u).2.1; omega⟩]
        grind
      rw [if_neg cn, if_neg cv, e0, sumTo_nought]
      grind
/-- put there: by where it was first -/
theorem passage_at {mv : List Mv} (hs : ∀ y ∈ mv, 1 ≤ y.2.1) (first o n : Nat) : prQ mv first none (n + 1) o = sumTo (n + 1) fun k => prQ mv first (some o) (k + 1) o * prQ mv o none (n - k) o := by
  rw [passage hs first o n o, sumTo_succ, Nat.sub_self, prQ_zero, if_pos rfl]
  grind

end Fp

set_option Elab.async false
set_option linter.all false
set_option maxRecDepth 100000
set_option maxHeartbeats 4000000
set_option exponentiation.threshold 10000
namespace Fp
open PySem PySem.Spec PyProof.Rows L2
/-! ### one kind alone; sizes -/
theorem ren_uniq57 {a b r : Nat → Rat} (h : ∀ n, r n = b n + sumTo n fun j => a j * r (n - 1 - j)) : ∀ n, renQ a b n = r n := by
  intro n
  induction n using Nat.strongRecOn with
  | ind n ih =>
    rw [renQ_is, h n]
    congr 1
    exact sumTo_congr fun j hj => by rw [ih (n - 1 - j) (by omega)]
theorem one_at (n j : Nat) (g : Nat → Rat) : (sumTo n fun i => if i = j then g i else 0) = if j < n then g j else 0 := by
  induction n with
  | zero => rfl
  | succ n ih =>
    rw [sumTo_succ, ih]
    by_cases z : j < n
    · rw [if_pos z, if_neg (by omega), if_pos (by omega)]
      grind
    · rw [if_neg z]
      by_cases y : n = j
      · rw [if_pos y, if_pos (by omega), y]
        grind
      · rw [if_neg y, if_neg (by omega)]
        grind
def klQ (ts : List Tri) (k : Nat) : Rat := (ts.map fun t => if t.1 = k + 1 then qv t.2.2 else 0).sum
theorem fol_kl (row : List RT) (f k : Nat) : klQ (folL row f) k = chR row (0, 1) k := by
  unfold klQ folL
  rw [List.map_map]
  have e := zip_sum (g := fun x i => if i + 1 = k + 1 then qv x else 0) (fun i => by rw [qv_nought]; split <;> rfl) row 0
  have e2 : (sumTo row.length fun i => (if 0 + i + 1 = k + 1 then qv (row[i]?.getD (0, 1)) else 0)) = sumTo row.length fun i => if i = k then qv (row[i]?.getD (0, 1)) else 0 := sumTo_congr fun i _ => by
    by_cases z : i = k
    · rw [if_pos (by omega), if_pos z]
    · rw [if_neg (by omega), if_neg z]
  rw [e2, one_at] at e
  refine Eq.trans e ?_
  rcases (by omega : k < row.length ∨ row.length ≤ k) with z | z
  · rw [if_pos z, List.getElem?_eq_getElem z, chR_in (List.getElem?_eq_getElem z)]
    rfl
  · rw [if_neg (by omega), chR_far0' z]
theorem one_moves (ts : List Tri) : movesFrom 0 [ts] = ts.map fun t => ((0, t) : Mv) := by
  show ts.map (fun t => ((0, t) : Mv)) ++ [] = _
  rw [List.append_nil]
theorem alone_put (row : List RT) (n : Nat) : prQ (movesFrom 0 [folL row 0]) 0 none n 0 = putQ row (0, 1) n := by
  unfold putQ
  refine (ren_uniq57 (r := fun n => prQ (movesFrom 0 [folL row 0]) 0 none n 0) (fun n => ?_) n).symm
  cases n with
  | zero =>
    show prQ _ 0 none 0 0 = oneAt 0 + sumTo 0 _
    rw [prQ_zero, sumTo_zero]
    show (1 : Rat) = 1 + 0
    grind
  | succ n =>
    show prQ (movesFrom 0 [folL row 0]) 0 none (n + 1) 0 = oneAt (n + 1) + _
    rw [prQ_succ, show oneAt (n + 1) = 0 from if_neg (by omega)]
    generalize hp : prQ (movesFrom 0 [folL row 0]) 0 none = p
    rw [one_moves, fol_sum, if_pos rfl]
    show _ = (0 : Rat) + sumTo (n + 1) fun j => chR row (0, 1) j * p (n + 1 - 1 - j) 0
    rw [Nat.add_sub_cancel]
    grind
theorem alone_first (row : List RT) (n : Nat) : prQ (movesFrom 0 [folL row 0]) 0 (some 0) (n + 1) 0 = chR row (0, 1) n := by
  rw [prQ_succ, ← fol_kl row 0 n]
  unfold klQ
  generalize hp : prQ (movesFrom 0 [folL row 0]) 0 (some 0) = p
  have p0 : p 0 0 = 1 := by
    rw [← hp, prQ_zero]
    rfl
  rw [one_moves, List.map_map]
  refine sumL_congr fun t ht => ?_
  have hf : t.2.1 = 0 := by
    unfold folL at ht
    obtain ⟨x, _, rfl⟩ := List.mem_map.mp ht
    rfl
  show (if cnd (some 0) (n + 1) (0, t) 0 = true then qv t.2.2 * p (n - (t.1 - 1)) 0 else 0) = _
  by_cases z : t.1 = n + 1
  · rw [if_pos (show cnd (some 0) (n + 1) (0, t) 0 = true from decide_eq_true ⟨hf, by show t.1 ≤ n + 1; omega, .inl z⟩), if_pos z, show n - (t.1 - 1) = 0 by omega, p0]
    grind
  · rw [if_neg fun u => ?_, if_neg z]
    rcases (of_decide_eq_true u).2.2 with v | v
    · exact z v
    · exact v rfl
theorem Sz.sumL {α : Type} {P : Int} {k : Nat} {f : α → Rat} (hP : 0 < P) : ∀ {xs : List α}, (∀ x ∈ xs, Sz P k (f x)) → xs.length ≤ 128 → Sz P (k + 7) (xs.map f).sum := by
  intro xs h hl
  have e : (xs.map f).sum = sumTo xs.length fun i => ((xs[i]?).map f).getD 0 := by
    unfold sumTo
    congr 1
    refine List.ext_getElem (by rw [List.length_map, List.length_map, List.length_range]) fun i h1 h2 => ?_
    have hi : i < xs.length := by
      rw [List.length_map] at h1
      exact h1
    rw [List.getElem_map, List.getElem_map, List.getElem_range, List.getElem?_eq_getElem hi]
    rfl
  rw [e]
  refine Sz.sum hP (fun i hi => ?_) hl
  rw [List.getElem?_eq_getElem hi]
  exact h _ (List.getElem_mem hi)
theorem pow_dvd57 (P : Int) {a b : Nat} (h : a ≤ b) : P ^ a ∣ P ^ b := by
  refine ⟨P ^ (b - a), ?_⟩
  rw [← Int.pow_add, show a + (b - a) = b by omega]
theorem pr_sz {P : Int} {m : Nat} {mv : List Mv} (M : MvOk P m mv) (first : Nat) (shut : Option Nat) (n : Nat) : ∀ j, Sz (P ^ n) (7 * n) (prQ mv first shut n j) := by
  induction n using Nat.strongRecOn with
  | ind n ih =>
    intro j
    have hP : ∀ e : Nat, (0 : Int) < P ^ e := fun e => Int.pow_pos M.pos
    cases n with
    | zero =>
      rw [prQ_zero]
      split
      · exact Sz.one (hP 0)
      · exact Sz.nought
    | succ n =>
      rw [prQ_succ, show 7 * (n + 1) = 7 * n + 7 by omega]
      refine Sz.sumL (hP _) (fun y hy => ?_) (Nat.le_trans M.len (by decide))
      split
      · have h1 := M.st y hy
        have x := (M.sz y hy).mul M.pos (hP _) (ih (n - (y.2.1 - 1)) (by omega) y.1)
        have e : P * P ^ (n - (y.2.1 - 1)) = P ^ (n - (y.2.1 - 1) + 1) := by rw [Int.pow_succ, Int.mul_comm]
        rw [e, Nat.zero_add] at x
        exact (x.dvd (hP _) (hP _) (pow_dvd57 P (by omega))).mono (by omega)
      · exact Sz.nought
theorem pr_sz20 {P : Int} {m : Nat} {mv : List Mv} (M : MvOk P m mv) (first : Nat) (shut : Option Nat) {n : Nat} (hn : n ≤ 20) (j : Nat) : Sz (P ^ 20) 140 (prQ mv first shut n j) := ((pr_sz M first shut n j).dvd (Int.pow_pos M.pos) (Int.pow_pos M.pos) (pow_dvd57 P hn)).mono (by omega)
theorem MvOk.p20 {P : Int} {m : Nat} {mv : List Mv} (M : MvOk P m mv) : 0 < P ^ 20 ∧ Sm 641 (P ^ 20) := ⟨Int.pow_pos M.pos, sm_pow M.sm (by decide) 20⟩
/-- drawn kinds may be put -/
theorem kinds_P {m : Nat} : ∀ (ks : List (List Tri)) (k : Nat), (∀ ts ∈ ks, KdOk m ts) → ∃ P : Int, (0 < P ∧ P ≤ 45 ^ ks.length) ∧ (movesFrom k ks).length ≤ 4 * ks.length ∧ ∀ y ∈ movesFrom k ks, Red y.2.2.2 ∧ Sz P 0 (qv y.2.2.2) ∧ 1 ≤ y.2.1 ∧ y.1 < k + ks.length ∧ y.2.2.1 < m
  | [], k, _ => ⟨1, ⟨by decide, by decide⟩, Nat.le_refl _, fun y hy => by cases hy⟩
  | ts :: r, k, h => by
    obtain ⟨P, ⟨p0, p1⟩, hl, hy⟩ := kinds_P r (k + 1) fun u hu => h u (List.mem_cons_of_mem _ hu)
    obtain ⟨len, T, t0, t1, ht⟩ := h ts (List.mem_cons_self ..)
    have hTP : 0 < T * P := Int.mul_pos t0 p0
    refine ⟨T * P, ⟨hTP, ?_⟩, ?_, fun y hy2 => ?_⟩
    · rw [List.length_cons, Int.pow_succ, Int.mul_comm]
      exact Int.mul_le_mul p1 t1 (by omega) (Int.le_of_lt (Int.pow_pos (by decide)))
    · show (ts.map (fun t => ((k, t) : Mv)) ++ movesFrom (k + 1) r).length ≤ _
      rw [List.length_append, List.length_map, List.length_cons]
      omega
    · rcases List.mem_append.mp (show y ∈ ts.map (fun t => ((k, t) : Mv)) ++ movesFrom (k + 1) r from hy2) with z | z
      · obtain ⟨t, htm, rfl⟩ := List.mem_map.mp z
        obtain ⟨⟨a1, a2⟩, a3, v, v1, v2, e⟩ := ht t htm
        obtain ⟨d0, d1⟩ := div_01 (show 0 ≤ v by omega) t0 v2
        refine ⟨by show Red t.2.2; rw [e]; exact low2_red (Int.ne_of_gt t0), ?_, a1, by show k < k + (r.length + 1); omega, a3⟩
        show Sz (T * P) 0 (qv t.2.2)
        rw [e, qv_low2 t0]
        exact (Sz.pos (P := T) ⟨v, rfl⟩ d0 (by rw [Rat.pow_zero]; exact d1)).dvd t0 hTP (Int.dvd_mul_right ..)
      · obtain ⟨b1, b2, b3, b4, b5⟩ := hy y z
        refine ⟨b1, b2.dvd p0 hTP (Int.dvd_mul_left ..), b3, by rw [List.length_cons]; omega, b5⟩
theorem kinds_ok {m : Nat} {ks : List (List Tri)} (h : ∀ ts ∈ ks, KdOk m ts) (hl : ks.length = m) (hm : m ≤ 4) : ∃ P : Int, MvOk P ks.length (movesFrom 0 ks) := by
  obtain ⟨P, ⟨p0, p1⟩, hlen, hy⟩ := kinds_P ks 0 h
  refine ⟨P, p0, ?_, by omega, fun y h2 => (hy y h2).1, fun y h2 => (hy y h2).2.1, fun y h2 => (hy y h2).2.2.1, fun y h2 => ?_⟩
  · have e : (45 : Int) ^ ks.length ≤ 45 ^ 4 := by
      rcases (by omega : ks.length = 0 ∨ ks.length = 1 ∨ ks.length = 2 ∨ ks.length = 3 ∨ ks.length = 4) with z | z | z | z | z <;> (rw [z]; decide)
    have e4 : (45 : Int) ^ 4 = 4100625 := by decide
    unfold Sm
    have e24 : (2 : Nat) ^ 32 = 4294967296 := by decide
    omega
  · obtain ⟨_, _, _, b4, b5⟩ := hy y h2
    exact ⟨by omega, by omega⟩
theorem fol_mem57 {row : List RT} {f : Nat} {t : Tri} (h : t ∈ folL row f) : t.2.2 ∈ row ∧ t.2.1 = f ∧ 1 ≤ t.1 ∧ t.1 ≤ row.length := by
  unfold folL at h
  obtain ⟨x, hx, rfl⟩ := List.mem_map.mp h
  have h1 := (List.mem_filter.mp hx).1
  obtain ⟨i, hi⟩ := List.mem_iff_getElem?.mp h1
  rw [List.getElem?_zipIdx] at hi
  match e : row[i]? with
  | none => rw [e] at hi; cases hi
  | some y =>
    rw [e] at hi
    have e2 := Option.some.inj hi
    have hil := (List.getElem?_eq_some_iff.mp e).1
    rw [← e2]
    refine ⟨List.mem_of_getElem? e, rfl, by show 1 ≤ 0 + i + 1; omega, by show 0 + i + 1 ≤ row.length; omega⟩
theorem fol_len57 {row : List RT} {f : Nat} : (folL row f).length ≤ row.length := by
  unfold folL
  rw [List.length_map]
  exact Nat.le_trans (List.length_filter_le _ _) (by rw [List.length_zipIdx]; exact Nat.le_refl _)
theorem alone_ok {row : List RT} (h : B6 row) : ∃ P : Int, MvOk P 1 (movesFrom 0 [folL row 0]) ∧ ∀ t ∈ folL row 0, Red t.2.2 ∧ Sz P 0 (qv t.2.2) := by
  obtain ⟨W, w1, w2, w3⟩ := h.w
  have key : ∀ t ∈ folL row 0, Red t.2.2 ∧ Sz W 0 (qv t.2.2) := fun t ht => by
    obtain ⟨m1, _, _, _⟩ := fol_mem57 ht
    obtain ⟨q0, q1⟩ := h.q _ m1
    exact ⟨(h.sm _ m1).1, Sz.pos ⟨_, qv_over (h.sm _ m1).1.1 (w3 _ m1) w1⟩ q0 (by rw [Rat.pow_zero]; exact q1)⟩
  refine ⟨W, ?_, key⟩
  rw [one_moves]
  have each : ∀ y ∈ (folL row 0).map (fun t => ((0, t) : Mv)), ∃ t ∈ folL row 0, y = (0, t) := fun y hy => by
    obtain ⟨t, ht, rfl⟩ := List.mem_map.mp hy
    exact ⟨t, ht, rfl⟩
  refine ⟨w1, w2.mono (by decide), ?_, fun y hy => ?_, fun y hy => ?_, fun y hy => ?_, fun y hy => ?_⟩
  · rw [List.length_map]
    have := fol_len57 (row := row) (f := 0)
    have := h.len
    omega
  · obtain ⟨t, ht, rfl⟩ := each y hy
    exact (key t ht).1
  · obtain ⟨t, ht, rfl⟩ := each y hy
    exact (key t ht).2
  · obtain ⟨t, ht, rfl⟩ := each y hy
    exact (fol_mem57 ht).2.2.1
  · obtain ⟨t, ht, rfl⟩ := each y hy
    exact ⟨by show 0 < 1; decide, by show t.2.1 < 1; rw [(fol_mem57 ht).2.1]; decide⟩
/-- how far the stretches go -/
def mxS (ts : List Tri) : Nat := (ts.map fun t => t.1).foldl max 0
theorem kl_far {ts : List Tri} {M k : Nat} (h : ∀ t ∈ ts, t.1 ≤ M) (hk : M ≤ k) : klQ ts k = 0 := by
  unfold klQ
  rw [sumL_congr (g := fun _ => 0) fun t ht => if_neg (by have := h t ht; omega)]
  induction ts with
  | nil => rfl
  | cons t r ih =>
    show (0 : Rat) + (r.map fun _ => (0 : Rat)).sum = 0
    rw [ih fun u hu => h u (List.mem_cons_of_mem _ hu)]
    grind

end Fp

set_option Elab.async false
set_option linter.all false
set_option maxRecDepth 100000
set_option maxHeartbeats 4000000
set_option exponentiation.threshold 10000
namespace Fp
open PySem PySem.Spec PyProof.Rows L2
/-! ### the law's own sums; the first time; a kind's life -/
theorem kl_snoc (ts : List Tri) (t : Tri) (k : Nat) : klQ (ts ++ [t]) k = klQ ts k + if t.1 = k + 1 then qv t.2.2 else 0 := by
  unfold klQ
  rw [List.map_append, List.map_cons, List.map_nil, sum_snoc]
theorem kl_nil (M : Nat) : List.replicate M ((0 : Int), (1 : Int)) = mkL M (klQ []) := by
  unfold mkL
  show _ = (List.range M).map (fun _ => rdq 0)
  rw [rdq_zero.mpr rfl, List.map_const', List.length_range]
theorem maxD_go {K : PySem.W.Frag} {H : Hp} {Q : VK} {li : Addr} {ts : List Tri} (h : SqL K H li ((ts.map fun t => ((t.1 : Nat) : Int)).map V.int)) (go : ∀ M : Nat, (∀ t ∈ ts, t.1 ≤ M) → (M = 0 ∨ ∃ t ∈ ts, t.1 = M) → Q (.int (M : Int)) H) : rMaxD K [.ref li] [.int 0] H Q := by
  refine ⟨li, _, 0, rfl, rfl, h, fun z => ?_, fun m hm hle => ?_⟩
  · have e := List.map_eq_nil_iff.mp z
    exact go 0 (fun t ht => by rw [e] at ht; cases ht) (.inl rfl)
  · obtain ⟨t, ht, rfl⟩ := List.mem_map.mp hm
    refine go t.1 (fun u hu => ?_) (.inr ⟨t, ht, rfl⟩)
    have := hle _ (List.mem_map.mpr ⟨u, hu, rfl⟩)
    omega
abbrev s_la2 : Stmt := topS 15
abbrev N_la2 : List Str := ["_law_one", "_law_other"]
theorem sc_la2 : FnScope N_la2 ["_law_one", "_law_other"] (defScope s_la2) := ⟨rfl, rfl, rfl, by decide +kernel, rfl, by decide +kernel, by decide +kernel⟩
abbrev s_lby : Stmt := topS 16
abbrev N_lby : List Str := ["_law_one", "_law_other"]
theorem sc_lby : FnScope N_lby ["_law_one", "_law_other"] (defScope s_lby) := ⟨rfl, rfl, rfl, by decide +kernel, rfl, by decide +kernel, by decide +kernel⟩
abbrev s_lall : Stmt := topS 17
abbrev N_lall : List Str := ["_law_numbers", "_law_found", "_law_number"]
theorem sc_lall : FnScope N_lall ["_law_numbers"] (defScope s_lall) := ⟨rfl, rfl, rfl, by decide +kernel, rfl, by decide +kernel, by decide +kernel⟩
abbrev s_fi : Stmt := topS 9
abbrev N_fi : List Str := ["kinds", "first", "other", "most", "row"]
theorem sc_fi : FnScope N_fi ["kinds", "first", "other", "most"] (defScope s_fi) := ⟨rfl, rfl, rfl, by decide +kernel, rfl, by decide +kernel, by decide +kernel⟩
section
variable {P : Program} {w : World} {K : PySem.W.Frag} {mg : Str → Option Value} {base : Heap} {aN aO : Addr}
theorem ok_la2 {f fL : Addr} {fd fdL : FuncData} (F : Fun K "_law_add" "_law_add" s_la2 f fd)
    (FL : Fun K "_law_lowest" "_law_lowest" s_lowest fL fdL) (bL : Binds K fdL ["_law_top", "_law_bottom"] []) (gL : mg "_law_lowest" = some (.ref fL)) (GL : FnOk P w K mg base CX0 1 fL fdL ["_law_top", "_law_bottom"] spLow)
    : FnOk P w K mg base CX0 2 f fd ["_law_one", "_law_other"] (spTwo K (fun a b c d => a * d + c * b)) := by
  refine F.ok sc_la2 (fun vs H Q E h => ?_) (fun cdv A outer s H vs Q E hr h => ?_)
  · obtain ⟨_, _, _, _, _, _, rfl, _⟩ := h
    rfl
  · obtain ⟨p1, p2, a, b, c, d, rfl, T, q⟩ := h
    refine ⟨_, (pss_one (ps_ret (pe_call GL hr (by rfl) gL FL.kp bL .nil pass0 (pa_cons (pe_op op_add (pe_op op_mulA (pe_ix ix_tup (pv 0) pe_int (fun _ _ => rfl)) (pe_ix ix_tup (pv 1) pe_int (fun _ _ => rfl))) (pe_op op_mulA (pe_ix ix_tup (pv 1) pe_int (fun _ _ => rfl)) (pe_ix ix_tup (pv 0) pe_int (fun _ _ => rfl)))) (pa_cons (pe_op op_mulA (pe_ix ix_tup (pv 0) pe_int (fun _ _ => rfl)) (pe_ix ix_tup (pv 1) pe_int (fun _ _ => rfl))) pa_nil))))), ?_⟩
    refine ⟨_, rfl, p1, _, 0, _, rfl, rfl, T.t1, atI_nat (j := 0) rfl, _, rfl, p2, _, 1, _, rfl, rfl, T.t2, atI_nat (j := 1) rfl, a, d, rfl, rfl, T.sa.cmul T.sd (by decide) (by decide) (by decide), ?_⟩
    refine ⟨_, rfl, p2, _, 0, _, rfl, rfl, T.t2, atI_nat (j := 0) rfl, _, rfl, p1, _, 1, _, rfl, rfl, T.t1, atI_nat (j := 1) rfl, c, b, rfl, rfl, T.sc.cmul T.sb (by decide) (by decide) (by decide), _, _, rfl, rfl, ?_⟩
    refine ⟨_, rfl, p1, _, 1, _, rfl, rfl, T.t1, atI_nat (j := 1) rfl, _, rfl, p2, _, 1, _, rfl, rfl, T.t2, atI_nat (j := 1) rfl, b, d, rfl, rfl, T.sb.cmul T.sd (by decide) (by decide) (by decide), ?_⟩
    exact ⟨_, _, rfl, T.den, (T.sb.mul T.sd).mono (by decide), q⟩
theorem ok_lby {f fL : Addr} {fd fdL : FuncData} (F : Fun K "_law_by" "_law_by" s_lby f fd)
    (FL : Fun K "_law_lowest" "_law_lowest" s_lowest fL fdL) (bL : Binds K fdL ["_law_top", "_law_bottom"] []) (gL : mg "_law_lowest" = some (.ref fL)) (GL : FnOk P w K mg base CX0 1 fL fdL ["_law_top", "_law_bottom"] spLow)
    : FnOk P w K mg base CX0 2 f fd ["_law_one", "_law_other"] (spTwo K (fun a b c d => a * c)) := by
  refine F.ok sc_lby (fun vs H Q E h => ?_) (fun cdv A outer s H vs Q E hr h => ?_)
  · obtain ⟨_, _, _, _, _, _, rfl, _⟩ := h
    rfl
  · obtain ⟨p1, p2, a, b, c, d, rfl, T, q⟩ := h
    refine ⟨_, (pss_one (ps_ret (pe_call GL hr (by rfl) gL FL.kp bL .nil pass0 (pa_cons (pe_op op_mulA (pe_ix ix_tup (pv 0) pe_int (fun _ _ => rfl)) (pe_ix ix_tup (pv 1) pe_int (fun _ _ => rfl))) (pa_cons (pe_op op_mulA (pe_ix ix_tup (pv 0) pe_int (fun _ _ => rfl)) (pe_ix ix_tup (pv 1) pe_int (fun _ _ => rfl))) pa_nil))))), ?_⟩
    refine ⟨_, rfl, p1, _, 0, _, rfl, rfl, T.t1, atI_nat (j := 0) rfl, _, rfl, p2, _, 0, _, rfl, rfl, T.t2, atI_nat (j := 0) rfl, a, c, rfl, rfl, T.sa.cmul T.sc (by decide) (by decide) (by decide), ?_⟩
    refine ⟨_, rfl, p1, _, 1, _, rfl, rfl, T.t1, atI_nat (j := 1) rfl, _, rfl, p2, _, 1, _, rfl, rfl, T.t2, atI_nat (j := 1) rfl, b, d, rfl, rfl, T.sb.cmul T.sd (by decide) (by decide) (by decide), ?_⟩
    exact ⟨_, _, rfl, T.den, (T.sb.mul T.sd).mono (by decide), q⟩
def spLall (K : PySem.W.Frag) : Sp := fun vs H Q _ => ∃ (p : Addr) (n s k : Nat) (P0 : Int) (f : Nat → Rat), vs = [.ref p] ∧ LsM K H p (mkL n f) ∧ 0 < P0 ∧ Sm s P0 ∧ (∀ j, j < n → Sz P0 k (f j)) ∧ n ≤ 100 ∧ s + k ≤ 2900 ∧
  ∀ r H', Same H H' → RAt K H' r (rdq (sumTo n f)) → Q (.ref r) H'
theorem ok_lall {f fLA2 : Addr} {fd fdLA2 : FuncData} (F : Fun K "_law_all" "_law_all" s_lall f fd)
    (FLA2 : Fun K "_law_add" "_law_add" s_la2 fLA2 fdLA2) (bLA2 : Binds K fdLA2 ["_law_one", "_law_other"] []) (gLA2 : mg "_law_add" = some (.ref fLA2)) (GLA2 : FnOk P w K mg base CX0 2 fLA2 fdLA2 ["_law_one", "_law_other"] (spTwo K (fun a b c d => a * d + c * b)))
    : FnOk P w K mg base CX0 3 f fd ["_law_numbers"] (spLall K) := by
  refine F.ok sc_lall (fun vs H Q E h => ?_) (fun cdv A outer s H vs Q E hr h => ?_)
  · obtain ⟨_, _, _, _, _, _, rfl, _⟩ := h
    rfl
  · obtain ⟨p, n, s0, k0, P0, f0, rfl, hp, hP, sP, sz, hn, hsk, q⟩ := h
    refine ⟨_, (pss_cons (ps_set (i := 1) sc_lall.nd rfl (.inl rfl) (pe_tup (pa_cons pe_int (pa_cons pe_int pa_nil))))
      (pss_cons (ps_for PassesOwn.never rfl (pi_list (pv 0)) (pg_name (i := 2) sc_lall.nd rfl (.inl rfl)) (pss_one (ps_set (i := 1) sc_lall.nd rfl (.inl rfl) (pe_call GLA2 hr (by rfl) gLA2 FLA2.kp bLA2 .nil pass0 (pa_cons (pv 1) (pa_cons (pv 2) pa_nil))))))
      (pss_one (ps_ret (pv 1))))), ?_⟩
    obtain ⟨rs, h1, h2⟩ := id hp
    have hrl := h2.length
    rw [mkL_len] at hrl
    refine ⟨by show 2 ≤ sizeLine; decide, fun fo nf => ?_⟩
    have e1 := same_new (o := HO.tup [.int 0, .int 1]) nf
    refine ⟨_, rfl, p, rfl, ⟨_, SqL.of (e1 _ _ h1)⟩, ?_⟩
    refine for_list (K := K) (a := p) (xs := rs.map V.ref) (fun i σ HB => ∃ (z2 : Option V) (fo : Addr), σ = [some (.ref p), some (.ref fo), z2] ∧ Same H HB ∧ RAt K HB fo (rdq (sumTo i f0))) ⟨none, fo, rfl, e1, by rw [sumTo_zero, rdq_zero.mpr rfl]; exact SqT.of upd_same⟩ ?_ ?_ ?_
    · rintro i σ HB _ ⟨_, _, rfl, sB, _⟩
      exact SqL.of (sB _ _ h1)
    · rintro i y σ HB hy ⟨z2, fo, rfl, sB, hfo⟩
      have hi : i < n := by
        have := (List.getElem?_eq_some_iff.mp hy).1
        rw [List.length_map, hrl] at this
        exact this
      obtain ⟨r, er, hr2⟩ := h2.get (mkL_at hi)
      rw [List.getElem?_map, er] at hy
      cases Option.some.inj hy
      refine ⟨_, rfl, _, rfl, ?_⟩
      refine tnil_go ?_
      refine plus_go hfo (hr2.tk (Tk.same sB)) ((Sz.sum hP (fun j hj => sz j (by omega)) (show i ≤ 128 by omega)).smr hP sP (by omega)) ((sz i hi).smr hP sP (by omega)) fun r3 H3 s3 hr3 => ?_
      refine ⟨_, r3, rfl, sB.trans s3, ?_⟩
      rw [sumTo_succ]
      exact hr3
    · rintro σ HB ⟨z2, fo, rfl, sB, hfo⟩
      rw [List.length_map, hrl] at hfo
      exact ⟨_, rfl, q fo HB sB hfo⟩
def spFi (K : PySem.W.Frag) : Sp := fun vs H Q _ => ∃ (p : Addr) (ks : List (List Tri)) (first other most : Nat) (P0 : Int), vs = [.ref p, .int (first : Int), .int (other : Int), .int (most : Int)] ∧ KdsA K H p ks ∧ MvOk P0 ks.length (movesFrom 0 ks) ∧ ks.length ≤ 32 ∧ other < ks.length ∧ most ≤ 20 ∧
  ∀ z H', Same H H' → RowAt K H' z (mkL most fun i => prQ (movesFrom 0 ks) first (some other) (i + 1) other) → Q (.ref z) H'
theorem ok_fi {f fPR : Addr} {fd fdPR : FuncData} (F : Fun K "first_of" "first_of" s_fi f fd)
    (FPR : Fun K "put_rows" "put_rows" s_pr fPR fdPR) (bPR : Binds K fdPR ["kinds", "first", "most", "shut"] []) (gPR : mg "put_rows" = some (.ref fPR)) (GPR : FnOk P w K mg base CX0 3 fPR fdPR ["kinds", "first", "most", "shut"] (spPr K))
    (n_tuple : mg "tuple" = none) : FnOk P w K mg base CX0 4 f fd ["kinds", "first", "other", "most"] (spFi K) := by
  refine F.ok sc_fi (fun vs H Q E h => ?_) (fun cdv A outer s H vs Q E hr h => ?_)
  · obtain ⟨_, _, _, _, _, _, rfl, _⟩ := h
    rfl
  · obtain ⟨p, ks, first, other, most, P0, rfl, hk, M, hkl, ho, hm, q⟩ := h
    refine ⟨_, (pss_one (ps_ret (pe_callTy call_tuple_of (by rfl) n_tuple (by decide +kernel) (pa_cons (pe_lc (own := [("row", 4)]) (g := (gName 4)) (tt := tYes) (te := (tOp (rIxL K) (tVar 4) (tVar 2))) rfl sc_fi.nd (pi_list (pe_slice sl_list (pe_call GPR hr (by rfl) gPR FPR.kp bPR .nil pass0 (pa_cons (pv 0) (pa_cons (pv 1) (pa_cons (pv 3) (pa_cons (pv 2) pa_nil))))) (po_some pe_int) po_none)) (blkOk_by (own := [("row", 4)]) (N := N_fi) (sc := (defScope s_fi)) (by decide +kernel)) (fun _ _ _ _ _ => (pg_name (i := 4) sc_fi.nd rfl (.inl rfl))) (fun _ _ _ _ _ => pts_nil) (fun _ _ _ _ _ => (pe_ix ix_list (pv 4) (pv 2) (fun _ _ => rfl)))) pa_nil)))), ?_⟩
    refine ⟨_, rfl, _, rfl, _, rfl, _, rfl, p, ks, first, most, some other, P0, rfl, hk, M, hkl, hm, fun D H1 fs s1 hD hfl hfs => ?_⟩
    refine ⟨1, rfl, ?_⟩
    refine noPart_go ?_
    refine ⟨D, _, rfl, SqL.of hD, fun b nb => ?_⟩
    rw [cutV_from1] at *
    have e2 := same_new (o := HO.lst ((fs.map V.ref).drop 1)) nb
    refine ⟨b, rfl, ⟨_, SqL.of upd_same⟩, ?_⟩
    refine lc_mkW (K := K) (walk_list (K := K) (a := b) (xs := (fs.map V.ref).drop 1)) (fun i => prQ (movesFrom 0 ks) first (some other) (i + 1) other) (by rw [List.length_drop, List.length_map, hfl]; omega) (fun HE sE => SqL.of (sE _ _ upd_same)) (fun i v HE HE' R hi sE hY qr => ?_) (fun l3 H3 s3 hl3 => ?_)
    · obtain ⟨rfl, hv⟩ := hY
      rw [List.length_drop, List.length_map, hfl] at hi
      rw [List.getElem?_drop, List.getElem?_map] at hv
      obtain ⟨r, er⟩ : ∃ r, fs[1 + i]? = some r := ⟨fs[1 + i]'(by omega), List.getElem?_eq_getElem (by omega)⟩
      rw [er] at hv
      cases Option.some.inj hv
      have hr2 := hfs (1 + i) r er
      rw [Nat.add_comm 1 i] at hr2
      refine ⟨rfl, _, rfl, _, rfl, ?_⟩
      exact (hr2.same (e2.trans sE)).at (m := other) rfl ho fun a ha => qr a _ (Same.refl _) ha
    rw [List.length_drop, List.length_map, hfl, Nat.add_sub_cancel] at hl3
    obtain ⟨us, hu1, hu2⟩ := hl3
    refine tnil_go ?_
    refine ⟨l3, _, rfl, .inl ⟨SqL.of hu1, fun t nt => ?_⟩⟩
    have e6 := same_new (o := HO.tup (us.map V.ref)) nt
    exact q t _ (s1.trans (e2.trans (s3.trans e6))) (RowAt.of_ls hu1 hu2 nt)
def spKl (K : PySem.W.Frag) : Sp := fun vs H Q _ => ∃ (p : Addr) (ks : List (List Tri)) (ts : List Tri) (kind : Nat) (P0 : Int), vs = [.ref p, .int (kind : Int)] ∧ KdsA K H p ks ∧ ks[kind]? = some ts ∧ 0 < P0 ∧ Sm 24 P0 ∧ (∀ t ∈ ts, Red t.2.2 ∧ Sz P0 0 (qv t.2.2)) ∧ (∀ t ∈ ts, 1 ≤ t.1 ∧ t.1 ≤ 60) ∧ ts.length ≤ 60 ∧
  ∀ z H' (M : Nat), Same H H' → (∀ t ∈ ts, t.1 ≤ M) → (M = 0 ∨ ∃ t ∈ ts, t.1 = M) → LifeAt K H' z (trimZ (mkL M (klQ ts))) (0, 1) → Q (.ref z) H'
end

end Fp

set_option Elab.async false
set_option linter.all false
set_option maxRecDepth 100000
set_option maxHeartbeats 4000000
set_option exponentiation.threshold 10000
namespace Fp
open PySem PySem.Spec PyProof.Rows L2
/-! ### wide kinds -/
structure KdW (m : Nat) (ts : List Tri) : Prop where
  len : ts.length ≤ 24
  tot : ∃ T : Int, 0 < T ∧ T ≤ 200 ∧ ∀ t ∈ ts, (1 ≤ t.1 ∧ t.1 ≤ 6) ∧ t.2.1 < m ∧ ∃ v : Int, 1 ≤ v ∧ v ≤ T ∧ t.2.2 = low2 v T
theorem KdOk.w {m : Nat} {ts : List Tri} (h : KdOk m ts) : KdW m ts := by
  obtain ⟨h1, T, t0, t1, h2⟩ := h
  exact ⟨by omega, T, t0, by omega, h2⟩
theorem sum_n8 : ∀ {us : List Int}, (∀ x ∈ us, 0 ≤ x ∧ x ≤ 8) → 0 ≤ us.sum ∧ us.sum ≤ 8 * (us.length : Int) ∧ ∀ x ∈ us, x ≤ us.sum
  | [], _ => ⟨by decide, by decide, fun x h => by simp at h⟩
  | x :: r, h => by
    obtain ⟨i1, i2, i3⟩ := sum_n8 fun y hy => h y (List.mem_cons_of_mem _ hy)
    have hx := h x (List.mem_cons_self ..)
    rw [List.sum_cons, List.length_cons]
    refine ⟨by omega, by omega, fun y hy => ?_⟩
    rcases List.mem_cons.mp hy with z | z
    · omega
    · have := i3 y z
      omega
abbrev s_wk : Stmt := topS 22
abbrev N_wk : List Str := ["_law_feed_here", "_law_size", "_law_kinds_here", "_law_k", "_law_weights", "_law_total", "_law_some", "_law_at"]
theorem sc_wk : FnScope N_wk ["_law_feed_here"] (defScope s_wk) := ⟨rfl, rfl, rfl, by decide +kernel, rfl, by decide +kernel, by decide +kernel⟩
section
variable {P : Program} {w : World} {K : PySem.W.Frag} {mg : Str → Option Value} {base : Heap} {aN aO : Addr}
theorem lc_intF {J : It} {n : Nat} {G : Hp → Prop} {Y : Nat → Hp → V → Hp → Prop} (w : Walk J n G Y) {g : TG} {tt : TT} {te : TE} {vs : List Nat} {σ : L2.St} {H1 : Hp} (f : Nat → Int) (b : Nat → Bool) (hn : n ≤ 900) (hG : ∀ HE, Same H1 HE → G HE)
    (hs : ∀ (k : Nat) (x : V) (HE HE' : Hp) (R : VK) (N : Hp → Prop), k < n → Same H1 HE → Y k HE x HE' → (b k = true → ∀ HF, Same HE HF → R (.int (f k)) HF) → (b k = false → ∀ HF, Same HE HF → N HF) → g x (wipe σ vs) HE' fun σ2 H2 => wipe σ2 vs = wipe σ vs ∧ tt σ2 H2 fun bb H3 => if bb = true then te σ2 H3 R else N H3)
    {Qd : Addr → Hp → Prop} (hd : ∀ D H2, Same H1 H2 → H2 D = some (.lst ((((List.range n).filter b).map f).map V.int)) → Qd D H2) : tLc (fun _ H2 R => R J H2) g tt te vs σ H1 (refQ Qd) := by
  intro D nD
  have e1 := same_new (o := HO.lst []) nD
  refine lc_it w (fun k HE => Same H1 HE ∧ HE D = some (.lst ((((List.range k).filter b).map f).map V.int))) ⟨e1, upd_same⟩ ?_ ?_ ?_
  · rintro i HE _ ⟨sE, _⟩
    exact hG HE sE
  · rintro k x HE HE' hk ⟨sE, hE⟩ hY
    have hfl : ((List.range k).filter b).length ≤ k := by
      have := List.length_filter_le b (List.range k)
      rw [List.length_range] at this
      exact this
    refine hs k x HE HE' _ _ hk sE hY (fun hb HF sF => ?_) (fun hb HF sF => ?_)
    · have hE5 := sF _ _ hE
      refine ⟨_, hE5, by rw [List.length_map, List.length_map]; exact small1000 (by omega), ?_, ?_⟩
      · intro b2 o hb2
        rw [upd_ne (ne_of_none hb2 nD)]
        exact (sE.trans sF) _ _ hb2
      · rw [upd_same, List.range_succ, List.filter_append, List.map_append, List.map_append]
        simp [hb]
    · refine ⟨sE.trans sF, ?_⟩
      rw [List.range_succ, List.filter_append]
      simp only [List.filter_cons, hb, List.filter_nil]
      rw [show ((List.range k).filter b ++ if false = true then [k] else []) = (List.range k).filter b by simp]
      exact sF _ _ hE
  · rintro HE ⟨sE, hE⟩
    exact hd D HE sE hE
def spWk (K : PySem.W.Frag) : Sp := fun vs H Q _ => ∃ (d c : Addr) (t : Int), vs = [.ref d] ∧ Feed H d c t ∧ t ≤ 800000 ∧
  ∀ z kinds (m : Nat) t' H', Keep d H H' → Feed H' d c t' → t' ≤ t + 110 → KdsA K H' z kinds → kinds.length = m → 2 ≤ m → m ≤ 4 → (∀ ts ∈ kinds, KdW m ts) → Q (.ref z) H'
theorem ok_wk {f fD fL : Addr} {fd fdD fdL : FuncData} (F : Fun K "_law_wide_kinds" "_law_wide_kinds" s_wk f fd)
    (FD : Fun K "_law_draw" "_law_draw" s_draw fD fdD) (bD : Binds K fdD ["_law_feed_here", "_law_size"] []) (gD : mg "_law_draw" = some (.ref fD)) (GD : FnOk P w K mg base CX0 1 fD fdD ["_law_feed_here", "_law_size"] spDraw)
    (FL : Fun K "_law_lowest" "_law_lowest" s_lowest fL fdL) (bL : Binds K fdL ["_law_top", "_law_bottom"] []) (gL : mg "_law_lowest" = some (.ref fL)) (GL : FnOk P w K mg base CX0 1 fL fdL ["_law_top", "_law_bottom"] spLow)
    (n_max : mg "max" = none) (n_range : mg "range" = none) (n_sum : mg "sum" = none) (n_tuple : mg "tuple" = none) : FnOk P w K mg base CX0 2 f fd ["_law_feed_here"] (spWk K) := by
  refine F.ok sc_wk (fun vs H Q E h => ?_) (fun cdv A outer s H vs Q E hr h => ?_)
  · obtain ⟨_, _, _, rfl, _⟩ := h
    rfl
  · obtain ⟨d, c, t, rfl, f0, ht, q⟩ := h
    refine ⟨_, (pss_cons (ps_set (i := 1) sc_wk.nd rfl (.inr rfl) (pe_op op_add pe_int (pe_call GD hr (by rfl) gD FD.kp bD .nil pass0 (pa_cons (pv 0) (pa_cons pe_int pa_nil)))))
      (pss_cons (ps_set (i := 2) sc_wk.nd rfl (.inl rfl) (pe_lst pa_nil))
      (pss_cons (ps_for PassesOwn.never rfl (pi_range1 (by rfl) n_range (pa_cons (pv 1) pa_nil)) (pg_name (i := 3) sc_wk.nd rfl (.inl rfl)) (pss_cons (ps_set (i := 4) sc_wk.nd rfl (.inr rfl) (pe_lc (own := [("_law_at", 7)]) (g := (gName 7)) (tt := tYes) (te := (tCall spDraw [] E0 (tCons (tVar 0) (tCons (tC (.int 9)) tNil)))) rfl sc_wk.nd (pi_range1 (by rfl) n_range (pa_cons (pe_op op_mulA pe_int (pv 1)) pa_nil)) (blkOk_by (own := [("_law_at", 7)]) (N := N_wk) (sc := (defScope s_wk)) (by decide +kernel)) (fun _ _ _ _ _ => (pg_name (i := 7) sc_wk.nd rfl (.inl rfl))) (fun _ _ _ _ _ => pts_nil) (fun _ _ _ _ _ => (pe_call GD hr (by rfl) gD FD.kp bD .nil pass0 (pa_cons (pv 0) (pa_cons pe_int pa_nil))))))
      (pss_cons (ps_set (i := 5) sc_wk.nd rfl (.inr rfl) (pe_callB (call_max2 rfl) (by rfl) n_max (by decide +kernel) (pa_cons pe_int (pa_cons (pe_op op_add (pe_callB (cr_sum rfl) (by rfl) n_sum (by decide +kernel) (pa_cons (pv 4) pa_nil)) (pe_call GD hr (by rfl) gD FD.kp bD .nil pass0 (pa_cons (pv 0) (pa_cons pe_int pa_nil)))) pa_nil))))
      (pss_cons (ps_setLc (i := 6) (own := [("_law_at", 7)]) (g := (gName 7)) (tt := (tTest (tOp (rI0 fun i j => .bl (decide (j < i))) (tOp (rIxL K) (tVar 4) (tVar 7)) (tC (.int 0))))) (te := (tVar 7)) rfl sc_wk.nd rfl rfl (sw_true rfl rfl rfl (by decide +kernel)) (pi_range1 (by rfl) n_range (pa_cons (pe_op op_mulA pe_int (pv 1)) pa_nil)) (blkOk_by (own := [("_law_at", 7)]) (N := N_wk) (sc := (defScope s_wk)) (by decide +kernel)) (fun _ _ _ _ _ => (pg_name (i := 7) sc_wk.nd rfl (.inl rfl))) (fun _ _ _ _ _ => (pts_one (pt_cmpR op_gt (pe_ix ix_list (pv 4) (pv 7) (fun _ _ => rfl)) pe_int (nomark _)))) (fun _ _ _ _ _ => (pv 7)))
      (pss_one (ps_expr (pe_bm PySem.F.plainAttrs_list PySem.F.slot_list_append PySem.F.type_list_append mt_append (pv 2) (pa_cons (pe_callTy call_tuple_of (by rfl) n_tuple (by decide +kernel) (pa_cons (pe_lc (own := [("_law_at", 7)]) (g := (gName 7)) (tt := tYes) (te := (tTup (tCons (tOp (rI0 fun i j => .int (i + j)) (tC (.int 1)) (tOp (rI CDivA fun i j => .int (i.fdiv j)) (tVar 7) (tVar 1))) (tCons (tOp (rI (fun _ j => 0 < j) fun i j => .int (i % j)) (tVar 7) (tVar 1)) (tCons (tCall spLow [] E0 (tCons (tOp (rIxL K) (tVar 4) (tVar 7)) (tCons (tVar 5) tNil))) tNil))))) rfl sc_wk.nd (pi_list (pv 6)) (blkOk_by (own := [("_law_at", 7)]) (N := N_wk) (sc := (defScope s_wk)) (by decide +kernel)) (fun _ _ _ _ _ => (pg_name (i := 7) sc_wk.nd rfl (.inl rfl))) (fun _ _ _ _ _ => pts_nil) (fun _ _ _ _ _ => (pe_tup (pa_cons (pe_op op_add pe_int (pe_op op_fdivA (pv 7) (pv 1))) (pa_cons (pe_op op_mod (pv 7) (pv 1)) (pa_cons (pe_call GL hr (by rfl) gL FL.kp bL .nil pass0 (pa_cons (pe_ix ix_list (pv 4) (pv 7) (fun _ _ => rfl)) (pa_cons (pv 5) pa_nil))) pa_nil)))))) pa_nil)) pa_nil))))))))
      (pss_one (ps_ret (pe_callTy call_tuple_of (by rfl) n_tuple (by decide +kernel) (pa_cons (pv 2) pa_nil))))))), ?_⟩
    refine ⟨_, rfl, d, c, 3, t, rfl, f0, by omega, by decide, by decide, fun r1 H1 r10 r11 k1 f1 => ?_⟩
    refine ⟨2, r1, rfl, rfl, ?_⟩
    obtain ⟨m, hm⟩ : ∃ m : Nat, (2 : Int) + r1 = (m : Int) := ⟨(2 + r1).toNat, by omega⟩
    show gName 1 (V.int (2 + r1)) (L2.start N_wk [V.ref d]) H1 _
    rw [hm]
    have hm2 : 2 ≤ m := by omega
    have hm4 : m ≤ 4 := by omega
    refine ⟨by show 0 ≤ sizeLine; decide, fun ks nk => ?_⟩
    have e2 := same_new (o := HO.lst []) nk
    have nkH : H ks = none := k1.none f1 nk
    have hkd := f1.nd nk
    have hkc := f1.nc nk
    refine ⟨_, rfl, _, rfl, by omega, by omega, ?_⟩
    refine for_range (lo := 0) (n := ((m : Nat) : Int).toNat) (fun k σ HB => ∃ (z3 z4 z5 z6 : Option V) (t' : Int) (rs : List Addr) (kinds : List (List Tri)), σ = [some (.ref d), some (.int (m : Int)), some (.ref ks), z3, z4, z5, z6, none] ∧ Keep d H HB ∧ Feed HB d c t' ∧ t' ≤ t + 1 + 25 * (k : Int) ∧ HB ks = some (.lst (rs.map V.ref)) ∧ Obs (KdA K) HB rs kinds ∧ kinds.length = k ∧ ∀ ts ∈ kinds, KdW m ts) ⟨none, none, none, none, t + 1, [], [], rfl, (k1.trans (Keep.of_same e2)), f1.same e2, by omega, upd_same, Obs.nil, rfl, fun ts h => by cases h⟩ ?_ ?_
    · rintro k σ HB hk ⟨z3, z4, z5, z6, t', rs, kinds, rfl, kB, fB, htB, hks, hobs, hlen, hok⟩
      have hk4 : k < m := by omega
      refine ⟨_, rfl, 6, _, rfl, rfl, CMulA.of (n := 4) (m := 4) (by unfold Sm; decide) (by unfold Sm; omega) (by decide) (by decide) (by decide), ?_⟩
      refine tnil_go ?_
      refine ⟨_, rfl, by show -(2 ^ 62) ≤ (6 : Int) * (m : Int); omega, by show (6 : Int) * (m : Int) < 2 ^ 62; omega, fun W nW => ?_⟩
      have nWc := fB.nc nW
      have nWd := fB.nd nW
      refine lc_range (lo := 0) (n := ((6 : Int) * (m : Int)).toNat) (fun i H5 => ∃ (ws : List Int) (t5 : Int), Keep d HB H5 ∧ Feed H5 d c t5 ∧ t5 = t' + (i : Int) ∧ H5 W = some (.lst (ws.map V.int)) ∧ ws.length = i ∧ ∀ x ∈ ws, 0 ≤ x ∧ x ≤ 8) ?_ ?_ ?_
      · exact ⟨[], t', Keep.refl.wr nW, fB.wr nWd nWc, by omega, upd_same, rfl, fun x hx => by simp at hx⟩
      · rintro i H5 hi ⟨ws, t5, K5, f5, et, hW, hl, hx⟩
        refine ⟨rfl, tYes_go ?_⟩
        refine iteT ?_
        refine ⟨_, rfl, d, c, 9, t5, rfl, f5, by omega, by decide, by decide, fun r H6 h0 h1 k6 f6 => ?_⟩
        have hW7 := keep_at f5 k6 hW (fun _ z => nomatch z)
        refine ⟨ws.map V.int, hW7, by rw [List.length_map, hl]; exact small1000 (by omega), ?_⟩
        refine ⟨ws ++ [r], t5 + 1, (K5.trans k6).wr nW, f6.wr nWd nWc, by omega, ?_, by simp [hl], fun y hy => ?_⟩
        · rw [upd_same, List.map_append]
          rfl
        · rcases List.mem_append.mp hy with z | z
          · exact hx y z
          · have := List.mem_singleton.mp z
            omega
      rintro H5 ⟨ws, t5, K5, f5, et, hW, hl, hx⟩
      have hl2 : ws.length = 6 * m := by omega
      obtain ⟨u1, u2, u3⟩ := sum_n8 hx
      refine ⟨_, rfl, W, _, rfl, SqL.of hW, ?_⟩
      refine ⟨_, rfl, d, c, 2, t5, rfl, f5, by omega, by decide, by decide, fun r6 H6 r60 r61 k6 f6 => ?_⟩
      refine ⟨_, _, rfl, rfl, ?_⟩
      refine tnil_go ?_
      refine ⟨_, _, rfl, ?_⟩
      obtain ⟨b, eb, hb1, hb2, hb3⟩ : ∃ b : Int, (if ws.sum + r6 > 1 then ws.sum + r6 else 1) = b ∧ 0 < b ∧ b ≤ 200 ∧ ∀ x ∈ ws, x ≤ b := by
        refine ⟨_, rfl, ?_, ?_, fun x hx => ?_⟩
        · split <;> omega
        · split <;> omega
        · have := u3 x hx
          split <;> omega
      show gName 5 (V.int (if ws.sum + r6 > 1 then ws.sum + r6 else 1)) _ H6 _
      rw [eb]
      have hW6 := keep_at f5 k6 hW (fun _ z => nomatch z)
      have hksE := keep_at f5 k6 (keep_at fB K5 hks (fun _ z => nomatch z)) (fun _ z => nomatch z)
      refine ⟨_, rfl, 6, _, rfl, rfl, CMulA.of (n := 4) (m := 4) (by unfold Sm; decide) (by unfold Sm; omega) (by decide) (by decide) (by decide), ?_⟩
      refine tnil_go ?_
      refine ⟨_, rfl, by show -(2 ^ 62) ≤ (6 : Int) * (m : Int); omega, by show (6 : Int) * (m : Int) < 2 ^ 62; omega, ?_⟩
      have en : ((6 : Int) * (m : Int)).toNat = 6 * m := by omega
      refine lc_intF (walk_range (lo := 0) (n := ((6 : Int) * (m : Int)).toNat)) (fun i => 0 + (i : Int)) (fun i => decide (0 < getI ws i)) (by omega) (fun _ _ => trivial) (fun k x HE HE' R N hk sE hY qr qn => ?_) (fun so H7 s7 hso => ?_)
      · obtain ⟨rfl, rfl⟩ := hY
        rw [en] at hk
        refine ⟨rfl, _, rfl, _, rfl, W, _, _, _, rfl, rfl, SqL.of (sE _ _ hW6), at_of (j := k) (by omega) (by rw [List.getElem?_map, getI_at (by omega)]; rfl), ?_⟩
        refine ⟨_, _, rfl, rfl, _, rfl, ite2 (fun c1 => ?_) (fun c1 => ?_)⟩
        · exact ⟨_, rfl, qr c1 _ (Same.refl _)⟩
        · exact qn (by simpa using c1) _ (Same.refl _)
      rw [en] at hso
      have hks7 := s7 _ _ hksE
      refine ⟨_, rfl, .inl ⟨rfl, _, SqL.of hks7⟩, ?_⟩
      refine ⟨_, rfl, so, rfl, ⟨_, SqL.of hso⟩, ?_⟩
      have hsl : ((List.range (6 * m)).filter fun i => decide (0 < getI ws i)).length ≤ 6 * m := Nat.le_trans (List.length_filter_le _ _) (by rw [List.length_range]; exact Nat.le_refl _)
      have hgm : ∀ i : Nat, i < 6 * m → getI ws i ∈ ws := fun i hi => List.mem_of_getElem? (getI_at (by omega))
      refine lc_obsW (K := K) (At := TriA K) triA_stays (walk_list (K := K) (a := so) (xs := (((List.range (6 * m)).filter fun i => decide (0 < getI ws i)).map fun i => 0 + ((i : Nat) : Int)).map V.int)) (((List.range (6 * m)).filter fun i => decide (0 < getI ws i)).map fun i => ((1 + i / m, i % m, low2 (getI ws i) b) : Tri)) (by rw [List.length_map, List.length_map, List.length_map]) (by rw [List.length_map, List.length_map]; omega) (fun HE sE => SqL.of (sE _ _ hso)) (fun i tr x HE HE' R hi sE hY qr => ?_) (fun D HF sF hD => ?_)
      · obtain ⟨rfl, hv⟩ := hY
        rw [List.getElem?_map] at hi
        rw [List.getElem?_map, List.getElem?_map] at hv
        obtain ⟨j, hj⟩ : ∃ j, ((List.range (6 * m)).filter fun i => decide (0 < getI ws i))[i]? = some j := by
          match e : ((List.range (6 * m)).filter fun i => decide (0 < getI ws i))[i]? with
          | none => rw [e] at hi; cases hi
          | some j => exact ⟨j, rfl⟩
        rw [hj] at hi hv
        cases Option.some.inj hi
        cases Option.some.inj hv
        have hjm := List.mem_filter.mp (List.mem_of_getElem? hj)
        have hj6 : j < 6 * m := List.mem_range.mp hjm.1
        have ed : (0 + (j : Int)).fdiv (m : Int) = ((j / m : Nat) : Int) := by
          rw [Int.zero_add, Int.fdiv_eq_ediv_of_nonneg _ (by omega), Int.natCast_ediv]
        have em : (0 + (j : Int)) % (m : Int) = ((j % m : Nat) : Int) := by
          rw [Int.zero_add, Int.natCast_emod]
        refine ⟨rfl, _, rfl, _, rfl, _, _, rfl, rfl, ⟨by show (m : Int) ≠ 0; omega, Nat.lt_of_le_of_lt (Nat.le_trans (Nat.log2_le_self _) (show (m : Int).natAbs ≤ 4 by omega)) (by decide)⟩, 1, _, rfl, rfl, ?_⟩
        refine ⟨_, rfl, _, rfl, _, _, rfl, rfl, by show (0 : Int) < (m : Int); omega, ?_⟩
        refine ⟨_, rfl, _, rfl, W, _, _, _, rfl, rfl, SqL.of (sE _ _ (s7 _ _ hW6)), at_of (j := j) (by show (0 : Int) + (j : Int) = _; omega) (by rw [List.getElem?_map, getI_at (by omega)]; rfl), ?_⟩
        refine ⟨_, rfl, getI ws j, b, rfl, hb1, Sm.mono (n := 8) (by unfold Sm; omega) (by decide), fun pl npl => ?_⟩
        have y1 := same_new (o := HO.tup [.int (ratT (getI ws j) b), .int (ratB (getI ws j) b)]) npl
        refine ⟨by show 3 ≤ sizeLine; decide, fun tp ntp => ?_⟩
        have y2 := same_new (o := HO.tup [.int (1 + (0 + (j : Int)).fdiv (m : Int)), .int ((0 + (j : Int)) % (m : Int)), .ref pl]) ntp
        refine qr tp _ (y1.trans y2) ⟨pl, ?_, SqT.of (y2 _ _ upd_same)⟩
        show SqT K _ tp [.int ((1 + j / m : Nat) : Int), .int ((j % m : Nat) : Int), .ref pl]
        rw [show ((1 + j / m : Nat) : Int) = 1 + (0 + (j : Int)).fdiv (m : Int) by rw [ed]; omega, ← em]
        exact SqT.of upd_same
      obtain ⟨qs, q1, q2⟩ := hD
      refine tnil_go ?_
      refine ⟨D, _, rfl, .inl ⟨SqL.of q1, fun tu ntu => ?_⟩⟩
      have x4 := same_new (o := HO.tup (qs.map V.ref)) ntu
      have X4 := s7.trans (sF.trans x4)
      have hks4 := X4 _ _ hksE
      have hrl := hobs.1
      refine tnil_go ?_
      refine ⟨ks, _, _, rfl, rfl, hks4, by rw [List.length_map, hrl, hlen]; exact small1000 (by omega), ?_⟩
      have kD4 := (K5.trans k6).trans (Keep.of_same X4)
      have tkk : Tk K HB (upd HF tu (HO.tup (qs.map V.ref))) := (Tk.keep fB (K5.trans k6)).trans (Tk.same X4)
      refine ⟨_, _, _, _, t5 + 1, rs ++ [tu], kinds ++ [((List.range (6 * m)).filter fun i => decide (0 < getI ws i)).map fun i => ((1 + i / m, i % m, low2 (getI ws i) b) : Tri)], rfl, (kB.trans kD4).wr nkH, (f6.same X4).wr hkd hkc, by omega, ?_, ?_, by rw [List.length_append, hlen]; rfl, fun ts hts => ?_⟩
      · rw [upd_same, List.map_append]
        rfl
      · refine Obs.tk (K := K) kdA_stays ?_ (tk_lst hks4)
        exact (hobs.tk kdA_stays tkk).append (Obs.one ⟨qs, SqT.of upd_same, q2.tk triA_stays (Tk.same x4)⟩)
      · rcases List.mem_append.mp hts with z | z
        · exact hok ts z
        · rw [List.mem_singleton.mp z]
          refine ⟨by rw [List.length_map]; omega, b, hb1, hb2, fun tr htr => ?_⟩
          obtain ⟨j, hj, rfl⟩ := List.mem_map.mp htr
          have hjm := List.mem_filter.mp hj
          have hj6 : j < 6 * m := List.mem_range.mp hjm.1
          have hpos : 0 < getI ws j := of_decide_eq_true hjm.2
          have hdiv : j / m < 6 := Nat.div_lt_of_lt_mul (by rw [Nat.mul_comm]; exact hj6)
          exact ⟨⟨Nat.le_add_right _ _, by show 1 + j / m ≤ 6; generalize j / m = qq at hdiv ⊢; omega⟩, Nat.mod_lt _ (by omega), getI ws j, by omega, hb3 _ (hgm j hj6), rfl⟩
    · rintro σ HB ⟨z3, z4, z5, z6, t', rs, kinds, rfl, kB, fB, htB, hks, hobs, hlen, hok⟩
      refine ⟨_, rfl, ks, _, rfl, .inl ⟨SqL.of hks, fun z nz => ?_⟩⟩
      have x5 := same_new (o := HO.tup (rs.map V.ref)) nz
      exact q z kinds m t' _ (kB.trans (Keep.of_same x5)) (fB.same x5) (by omega) ⟨rs, SqT.of upd_same, hobs.tk kdA_stays (Tk.same x5)⟩ (by omega) hm2 hm4 hok
end

end Fp

set_option Elab.async false
set_option linter.all false
set_option maxRecDepth 100000
set_option maxHeartbeats 4000000
set_option exponentiation.threshold 10000
namespace Fp
open PySem PySem.Spec PyProof.Rows L2
/-! ### kinds shown -/
theorem Obs.dp {α : Type} {K : PySem.W.Frag} {At : Hp → Addr → α → Prop} {g : α → PyData} {H : Hp} (hg : ∀ p y, At H p y → Dp K H (.ref p) (g y)) : ∀ {rs : List Addr} {ys : List α}, Obs At H rs ys → DpAll K H (rs.map V.ref) (ys.map g)
  | [], [], _ => .nil
  | [], _ :: _, h => by have := h.1; simp at this
  | _ :: _, [], h => by have := h.1; simp at this
  | r :: rs, y :: ys, h => .cons (hg r y (h.2 0 r y rfl rfl)) (Obs.dp hg (rs := rs) (ys := ys) ⟨by have := h.1; simpa using this, fun i q z h1 h2 => h.2 (i + 1) q z h1 h2⟩)
theorem Shs.all {c k : Nat} : ∀ {ds : List PyData}, (∀ d ∈ ds, Sh c k d) → Shs ((c + 2) * ds.length) k ds
  | [], _ => Shs.nil
  | d :: r, h => by
    refine (Shs.cons (h d (List.mem_cons_self ..)) (Shs.all fun e he => h e (List.mem_cons_of_mem _ he))).mono ?_ (Nat.le_refl _)
    rw [List.length_cons, Nat.mul_succ]
    omega
theorem Shs.map {α : Type} {c k N : Nat} {xs : List α} {g : α → PyData} (h : ∀ x ∈ xs, Sh c k (g x)) (hl : xs.length ≤ N) : Shs ((c + 2) * N) k (xs.map g) := by
  refine (Shs.all (c := c) (k := k) fun d hd => ?_).mono ?_ (Nat.le_refl _)
  · obtain ⟨x, hx, rfl⟩ := List.mem_map.mp hd
    exact h x hx
  · rw [List.length_map]
    exact Nat.mul_le_mul_left _ hl
def triD (t : Tri) : PyData := .tuple [.int ((t.1 : Nat) : Int), .int ((t.2.1 : Nat) : Int), ratD t.2.2]
def kdD (ts : List Tri) : PyData := .tuple (ts.map triD)
def kdsD (ks : List (List Tri)) : PyData := .tuple (ks.map kdD)
def TTA (K : PySem.W.Frag) (H : Hp) (p : Addr) (xss : List (List RT)) : Prop := ∃ rs : List Addr, SqT K H p (rs.map V.ref) ∧ Obs (fun H p xs => RowAt K H p xs) H rs xss
section
variable {K : PySem.W.Frag} {H : Hp}
theorem triA_dp (p : Addr) (y : Tri) (h : TriA K H p y) : Dp K H (.ref p) (triD y) := by
  obtain ⟨c, h1, h2⟩ := h
  exact .tup h1 (.cons (.int _) (.cons (.int _) (.cons h2.dp .nil)))
theorem kdA_dp (p : Addr) (y : List Tri) (h : KdA K H p y) : Dp K H (.ref p) (kdD y) := by
  obtain ⟨rs, h1, h2⟩ := h
  exact .tup h1 (h2.dp triA_dp)
theorem kdsA_dp (p : Addr) (y : List (List Tri)) (h : KdsA K H p y) : Dp K H (.ref p) (kdsD y) := by
  obtain ⟨rs, h1, h2⟩ := h
  exact .tup h1 (h2.dp kdA_dp)
theorem TTA.dp {p : Addr} {xss : List (List RT)} (h : TTA K H p xss) : Dp K H (.ref p) (.tuple (xss.map fun xs => .tuple (rowD xs))) := by
  obtain ⟨rs, h1, h2⟩ := h
  exact .tup h1 (h2.dp fun _ _ z => RowAt.dp z)
theorem TTA.same {H' : Hp} {p : Addr} {xss : List (List RT)} (h : TTA K H p xss) (e : Same H H') : TTA K H' p xss := by
  obtain ⟨rs, h1, h2⟩ := h
  exact ⟨rs, sqT_same e h1, ⟨h2.1, fun i r y a b => RowAt.tk (h2.2 i r y a b) (Tk.same e)⟩⟩
end
theorem triD_sh {t : Tri} (h1 : t.1 ≤ 60) (h2 : t.2.1 ≤ 60) (h3 : SmR 1900 t.2.2) : Sh 8100 2 (triD t) := by
  have a : Sh 2000 1 (.int ((t.1 : Nat) : Int)) := (Sh.int (Sm.mono (n := 6) (by unfold Sm; omega) (by decide))).mono (Nat.le_refl _) (by decide)
  have b : Sh 2000 1 (.int ((t.2.1 : Nat) : Int)) := (Sh.int (Sm.mono (n := 6) (by unfold Sm; omega) (by decide))).mono (Nat.le_refl _) (by decide)
  exact (Shs.cons a (Shs.cons b (Shs.cons (Sh.rat h3 (by decide)) Shs.nil))).tup.mono (by decide) (by decide)
theorem sh_tt {n m N : Nat} {f : Nat → Nat → Rat} {ks : List Nat} (hm : m ≤ 4) (hN : ks.length ≤ 25) (h : ∀ i ∈ ks, ∀ j, j < m → SmR 1900 (rdq (f i j))) : Shows (.tuple (ks.map fun i => .tuple (rowD (mkL m (f i))))) := by
  refine ((Shs.map (c := 16100) (k := 2) (N := 25) (fun i hi => ?_) hN).tup).shows (by decide) (by decide)
  refine (Shs.row (n := 1900) (by decide) (xs := mkL m (f i)) fun x hx => ?_).tup.mono (by rw [mkL_len]; omega) (by decide)
  obtain ⟨j, hj, rfl⟩ := mem_mkL hx
  exact h i hi j hj

end Fp

set_option Elab.async false
set_option linter.all false
set_option maxRecDepth 100000
set_option maxHeartbeats 4000000
set_option exponentiation.threshold 10000
namespace Fp
open PySem PySem.Spec PyProof.Rows L2
/-! ### the chain of kinds -/
def cnQ (ts : List Tri) (j : Nat) : Rat := (ts.map fun t => if t.2.1 = j then qv t.2.2 else 0).sum
theorem cn_snoc (ts : List Tri) (t : Tri) (j : Nat) : cnQ (ts ++ [t]) j = cnQ ts j + if t.2.1 = j then qv t.2.2 else 0 := by
  unfold cnQ
  rw [List.map_append, List.map_cons, List.map_nil, sum_snoc]
theorem cn_nil (M : Nat) : List.replicate M ((0 : Int), (1 : Int)) = mkL M (cnQ []) := by
  unfold mkL
  show _ = (List.range M).map (fun _ => rdq 0)
  rw [rdq_zero.mpr rfl, List.map_const', List.length_range]
def chRows (ks : List (List Tri)) : List (List RT) := ks.map fun ts => mkL ks.length (cnQ ts)
/-- what is needed of a kind's chances -/
structure Fit (ts : List Tri) (P0 : Int) : Prop where
  pos : 0 < P0
  sm : Sm 8 P0
  sz : ∀ t ∈ ts, Red t.2.2 ∧ Sz P0 0 (qv t.2.2)
theorem KdW.fit {m : Nat} {ts : List Tri} (h : KdW m ts) : ∃ P0, Fit ts P0 := by
  obtain ⟨len, T, t0, t1, ht⟩ := h
  refine ⟨T, t0, by unfold Sm; omega, fun t htm => ?_⟩
  obtain ⟨⟨a1, a2⟩, a3, v, v1, v2, e⟩ := ht t htm
  obtain ⟨d0, d1⟩ := div_01 (show 0 ≤ v by omega) t0 v2
  refine ⟨by rw [e]; exact low2_red (Int.ne_of_gt t0), ?_⟩
  rw [e, qv_low2 t0]
  exact Sz.pos (P := T) ⟨v, rfl⟩ d0 (by rw [Rat.pow_zero]; exact d1)
theorem Fit.sumIf {ts us : List Tri} {P0 : Int} (h : Fit ts P0) (hs : ∀ t ∈ us, t ∈ ts) (hl : us.length ≤ 128) (b : Tri → Prop) [DecidablePred b] : Sz P0 7 (us.map fun t => if b t then qv t.2.2 else 0).sum := by
  refine Sz.sumL (k := 0) h.pos (fun u hu => ?_) hl
  split
  · exact (h.sz u (hs u hu)).2
  · exact Sz.nought
theorem Fit.cn {ts : List Tri} {P0 : Int} (h : Fit ts P0) (hl : ts.length ≤ 128) (i j : Nat) : Sz P0 7 (cnQ (ts.take i) j) := h.sumIf (fun t ht => List.mem_of_mem_take ht) (by rw [List.length_take]; omega) _
theorem Fit.kl {ts : List Tri} {P0 : Int} (h : Fit ts P0) (hl : ts.length ≤ 128) (j : Nat) : Sz P0 7 (klQ ts j) := h.sumIf (fun t ht => ht) hl _
section
variable {P : Program} {w : World} {K : PySem.W.Frag} {mg : Str → Option Value} {base : Heap} {aN aO : Addr}
def spCn (K : PySem.W.Frag) : Sp := fun vs H Q _ => ∃ (p : Addr) (ks : List (List Tri)), vs = [.ref p] ∧ KdsA K H p ks ∧ (∀ ts ∈ ks, KdW ks.length ts) ∧ ks.length ≤ 4 ∧
  ∀ z H', Same H H' → TTA K H' z (chRows ks) → Q (.ref z) H'
end

end Fp

set_option Elab.async false
set_option linter.all false
set_option maxRecDepth 100000
set_option maxHeartbeats 4000000
set_option exponentiation.threshold 10000
namespace Fp
open PySem PySem.Spec PyProof.Rows L2
/-! ### the law's own rows -/
theorem sumL_to {α : Type} (xs : List α) (f : α → Rat) : (xs.map f).sum = sumTo xs.length fun i => ((xs[i]?).map f).getD 0 := by
  unfold sumTo
  congr 1
  refine List.ext_getElem (by rw [List.length_map, List.length_map, List.length_range]) fun i h1 h2 => ?_
  have hi : i < xs.length := by
    rw [List.length_map] at h1
    exact h1
  rw [List.getElem_map, List.getElem_map, List.getElem_range, List.getElem?_eq_getElem hi]
  rfl
theorem sum_filt {α : Type} (b : α → Bool) (f : α → Rat) : ∀ xs : List α, ((xs.filter b).map f).sum = (xs.map fun x => if b x = true then f x else 0).sum
  | [] => rfl
  | x :: r => by
    have ih := sum_filt b f r
    by_cases h : b x = true
    · rw [List.filter_cons_of_pos h, List.map_cons, List.sum_cons, List.map_cons, List.sum_cons, ih, if_pos h]
    · rw [List.filter_cons_of_neg h, List.map_cons, List.sum_cons, ih, if_neg h]
      grind
theorem obs_rs {K : PySem.W.Frag} {H : Hp} : ∀ {rs : List Addr} {xs : List RT}, Obs (fun H p x => RAt K H p x) H rs xs → RsAt K H rs xs
  | [], [], _ => .nil
  | [], _ :: _, h => by have := h.1; simp at this
  | _ :: _, [], h => by have := h.1; simp at this
  | r :: rs, y :: ys, h => .cons (h.2 0 r y rfl rfl) (obs_rs (rs := rs) (xs := ys) ⟨by have := h.1; simpa using this, fun i q z h1 h2 => h.2 (i + 1) q z h1 h2⟩)
theorem ratA_stays {K : PySem.W.Frag} : Stays K (fun H p x => RAt K H p x) := fun H H' p y e h => h.tk e
theorem filt_all {K : PySem.W.Frag} {H : Hp} {D : Addr} {ts : List Tri} {b : Tri → Bool} {P0 : Int} (F : Fit ts P0) (hl : ts.length ≤ 100) (h : OLs (fun H p x => RAt K H p x) H D ((ts.filter b).map fun t => t.2.2)) :
    ∃ (n : Nat) (f : Nat → Rat), LsM K H D (mkL n f) ∧ n ≤ 100 ∧ (∀ j, j < n → Sz P0 0 (f j)) ∧ sumTo n f = (ts.map fun t => if b t = true then qv t.2.2 else 0).sum := by
  have hfl : (ts.filter b).length ≤ ts.length := List.length_filter_le _ _
  refine ⟨(ts.filter b).length, fun i => (((ts.filter b)[i]?).map fun t => qv t.2.2).getD 0, ?_, by omega, fun j hj => ?_, ?_⟩
  · obtain ⟨rs, h1, h2⟩ := h
    have e : (ts.filter b).map (fun t => t.2.2) = mkL (ts.filter b).length (fun i => (((ts.filter b)[i]?).map fun t => qv t.2.2).getD 0) := by
      refine List.ext_getElem (by rw [List.length_map, mkL_len]) fun i g1 g2 => ?_
      have hi : i < (ts.filter b).length := by
        rw [List.length_map] at g1
        exact g1
      have e1 := mkL_at (g := fun i => (((ts.filter b)[i]?).map fun t => qv t.2.2).getD 0) hi
      rw [List.getElem?_eq_getElem g2] at e1
      rw [Option.some.inj e1, List.getElem_map, List.getElem?_eq_getElem hi]
      exact red_rdq (F.sz _ ((List.mem_filter.mp (List.getElem_mem hi)).1)).1
    rw [← e]
    exact ⟨rs, h1, obs_rs h2⟩
  · dsimp only
    rw [List.getElem?_eq_getElem hj]
    exact (F.sz _ ((List.mem_filter.mp (List.getElem_mem hj)).1)).2
  · rw [← sum_filt, sumL_to]
section
variable {P : Program} {w : World} {K : PySem.W.Frag} {mg : Str → Option Value} {base : Heap} {aN aO : Addr}
def spLrw (K : PySem.W.Frag) : Sp := fun vs H Q _ => ∃ (p : Addr) (ks : List (List Tri)), vs = [.ref p] ∧ KdsA K H p ks ∧ (∀ ts ∈ ks, KdW ks.length ts) ∧ ks.length ≤ 4 ∧
  ∀ z H', Same H H' → TTA K H' z (chRows ks) → Q (.ref z) H'
end

end Fp

set_option Elab.async false
set_option linter.all false
set_option maxRecDepth 100000
set_option maxHeartbeats 4000000
set_option exponentiation.threshold 10000
namespace Fp
open PySem PySem.Spec PyProof.Rows L2
/-! ### the law's own life of a kind -/
theorem trim_far {f : Nat → Rat} {M : Nat} (h : ∀ i, M ≤ i → f i = 0) : ∀ N, M ≤ N → trimZ (mkL N f) = trimZ (mkL M f) := by
  intro N
  induction N with
  | zero =>
    intro hN
    rw [show M = 0 by omega]
  | succ N ih =>
    intro hN
    rcases (by omega : M = N + 1 ∨ M ≤ N) with z | z
    · rw [z]
    · rw [mkL_succ, h N z, rdq_zero.mpr rfl, trimZ_nought, ih z]
theorem shaped_all {α : Type} {g : α → PyData} {k : Nat} (hk : k ≤ 60) (h : ∀ x, (g x).canLay0 = true ∧ (g x).depth ≤ k) (xs : List α) : SeqAt.shaped (.list (xs.map g)) = true := by
  have key : ∀ xs : List α, PyData.canLayAll0 (xs.map g) = true ∧ PyData.depthAll (xs.map g) ≤ k := fun xs => by
    induction xs with
    | nil => exact ⟨rfl, Nat.zero_le _⟩
    | cons x r ih =>
      refine ⟨?_, ?_⟩
      · show ((g x).canLay0 && PyData.canLayAll0 (r.map g)) = true
        rw [(h x).1, ih.1]
        rfl
      · show max (g x).depth (PyData.depthAll (r.map g)) ≤ k
        exact Nat.max_le.mpr ⟨(h x).2, ih.2⟩
  obtain ⟨h1, h2⟩ := key xs
  show (PyData.canLayAll0 (xs.map g) && decide (PyData.depthAll (xs.map g) + 1 ≤ 64)) = true
  rw [h1, decide_eq_true (by omega)]
  rfl
theorem rowD_map (xs : List RT) : rowD xs = xs.map ratD := rfl
theorem LsM.dp {K : PySem.W.Frag} {H : Hp} {p : Addr} {xs : List RT} (h : LsM K H p xs) : Dp K H (.ref p) (.list (rowD xs)) := by
  obtain ⟨rs, h1, h2⟩ := h
  exact .lst (SqL.of h1) h2.dp
theorem eqvm_nil {α : Type} {g : α → PyData} (xs : List α) : PyData.eqv (.list (xs.map g)) (.list []) = xs.isEmpty := by
  cases xs <;> rfl
theorem ne_nil_ls {K : PySem.W.Frag} {H : Hp} {p q : Addr} {xs : List RT} {Q : VK} (h1 : LsM K H p xs) (h2 : H q = some (.lst [])) (h : Q (.bl (!xs.isEmpty)) H) : rNeD K (.ref p) (.ref q) H Q := by
  refine ⟨_, _, h1.dp, .lst (SqL.of h2) .nil, ?_, rfl, ?_⟩
  · rw [rowD_map]
    exact shaped_all (k := 1) (by decide) (fun x => ⟨rfl, Nat.le_refl _⟩) xs
  · rw [rowD_map, eqvm_nil]
    exact h
theorem pop_ls {K : PySem.W.Frag} {H : Hp} {p : Addr} {xs : List RT} {x : RT} {Q : VK} (h : LsM K H p (xs ++ [x])) (q : ∀ r H', Tk K H H' → (∀ b, b ≠ p → H' b = H b) → LsM K H' p xs → Q (.ref r) H') : rPop (.ref p) [] H Q := by
  obtain ⟨rs, h1, h2⟩ := h
  have hl := h2.length
  rw [List.length_append] at hl
  have hl1 : [x].length = 1 := rfl
  have hne : rs ≠ [] := fun z => by rw [z] at hl; simp at hl
  obtain ⟨r, hr⟩ : ∃ r, rs[rs.length - 1]? = some r := ⟨rs[rs.length - 1]'(by have := List.length_pos_iff.mpr hne; omega), List.getElem?_eq_getElem _⟩
  refine ⟨p, _, .ref r, rfl, rfl, h1, by rw [List.length_map, List.getElem?_map, hr]; rfl, ?_⟩
  refine q r _ (tk_lst h1) (fun b hb => upd_ne hb) ⟨rs.dropLast, by rw [upd_same, List.map_dropLast], ?_⟩
  have h3 := (h2.take xs.length).tk (tk_lst (ys := (rs.map V.ref).dropLast) h1)
  rw [List.take_left' rfl] at h3
  rw [List.dropLast_eq_take (l := rs), show rs.length - 1 = xs.length by omega]
  exact h3
theorem last_ls {K : PySem.W.Frag} {H : Hp} {p : Addr} {xs : List RT} {x : RT} {Q : VK} (h : LsM K H p (xs ++ [x])) (q : ∀ r, RAt K H r x → Q (.ref r) H) : rIxL K (.ref p) (.int (-1)) H Q := by
  obtain ⟨rs, h1, h2⟩ := h
  have hl := h2.length
  rw [List.length_append] at hl
  have hl1 : [x].length = 1 := rfl
  obtain ⟨r, hr, hr2⟩ := h2.get (show (xs ++ [x])[xs.length]? = some x by rw [List.getElem?_append_right (Nat.le_refl _), Nat.sub_self]; rfl)
  have e2 : ixN (rs.map V.ref).length (-1) = some xs.length := by
    unfold ixN
    rw [List.length_map, if_neg (by omega), if_pos (by omega)]
    congr 1
    omega
  refine ⟨p, _, -1, .ref r, rfl, rfl, SqL.of h1, ?_, q r hr2⟩
  unfold atI
  rw [e2]
  show (rs.map V.ref)[xs.length]? = _
  rw [List.getElem?_map, hr]
  rfl
section
variable {P : Program} {w : World} {K : PySem.W.Frag} {mg : Str → Option Value} {base : Heap} {aN aO : Addr}
def spLf5 (K : PySem.W.Frag) : Sp := fun vs H Q _ => ∃ (p : Addr) (ts : List Tri) (m : Nat), vs = [.ref p] ∧ KdA K H p ts ∧ KdW m ts ∧
  ∀ z H', Same H H' → LifeAt K H' z (trimZ (mkL 6 (klQ ts))) (0, 1) → Q (.ref z) H'
end

end Fp

set_option Elab.async false
set_option linter.all false
set_option maxRecDepth 100000
set_option maxHeartbeats 4000000
set_option exponentiation.threshold 10000
namespace Fp
open PySem PySem.Spec PyProof.Rows L2
/-! ### put by the first step: backward -/
theorem sumL_swapL {α β : Type} (f : α → β → Rat) (ys : List β) : ∀ xs : List α, (xs.map fun x => (ys.map fun y => f x y).sum).sum = (ys.map fun y => (xs.map fun x => f x y).sum).sum
  | [] => by
    show (0 : Rat) = (ys.map fun _ => (0 : Rat)).sum
    induction ys with
    | nil => rfl
    | cons y r ih =>
      show (0 : Rat) = 0 + (r.map fun _ => (0 : Rat)).sum
      rw [← ih]
      grind
  | x :: r => by
    show (ys.map fun y => f x y).sum + (r.map fun x => (ys.map fun y => f x y).sum).sum = (ys.map fun y => f x y + (r.map fun x => f x y).sum).sum
    rw [sumL_swapL f ys r, sumL_add]
theorem sumL_nought {α : Type} : ∀ xs : List α, (xs.map fun _ => (0 : Rat)).sum = 0
  | [] => rfl
  | _ :: r => by
    show (0 : Rat) + (r.map fun _ => (0 : Rat)).sum = 0
    rw [sumL_nought r]
    grind
theorem mul_sumL {α : Type} (f : α → Rat) (k : Rat) (xs : List α) : k * (xs.map f).sum = (xs.map fun x => k * f x).sum := by
  rw [show k * (xs.map f).sum = (xs.map f).sum * k by grind, sumL_mul]
  exact sumL_congr fun x _ => by grind
def bk (mv : List Mv) (shut : Option Nat) (a l j : Nat) : Rat := if a = 0 then (if j = l then 1 else 0) else if shut = some l then 0 else prQ mv l shut a j
theorem back {mv : List Mv} (hs : ∀ y ∈ mv, 1 ≤ y.2.1) (i : Nat) (shut : Option Nat) (n : Nat) : ∀ j, prQ mv i shut (n + 1) j = (mv.map fun z => if z.1 = i ∧ z.2.1 ≤ n + 1 then qv z.2.2.2 * bk mv shut (n + 1 - z.2.1) z.2.2.1 j else 0).sum := by
  induction n using Nat.strongRecOn with
  | ind n ih =>
    intro j
    have eA : ∀ y ∈ mv, (if cnd shut (n + 1) y j = true then qv y.2.2.2 * prQ mv i shut (n - (y.2.1 - 1)) y.1 else 0) = (if y.1 = i ∧ y.2.1 = n + 1 ∧ y.2.2.1 = j then qv y.2.2.2 else 0) + (mv.map fun z => if y.2.2.1 = j ∧ z.1 = i ∧ y.2.1 + z.2.1 ≤ n + 1 ∧ shut ≠ some y.1 then qv y.2.2.2 * (qv z.2.2.2 * bk mv shut (n + 1 - y.2.1 - z.2.1) z.2.2.1 y.1) else 0).sum := fun y hy => by
      have h1 := hs y hy
      by_cases cj : y.2.2.1 = j
      · rcases (by omega : y.2.1 = n + 1 ∨ y.2.1 ≤ n ∨ n + 1 < y.2.1) with z | z | z
        · have e0 : (mv.map fun z => if y.2.2.1 = j ∧ z.1 = i ∧ y.2.1 + z.2.1 ≤ n + 1 ∧ shut ≠ some y.1 then qv y.2.2.2 * (qv z.2.2.2 * bk mv shut (n + 1 - y.2.1 - z.2.1) z.2.2.1 y.1) else 0).sum = (mv.map fun _ => (0 : Rat)).sum := sumL_congr fun x hx => if_neg fun u => by
            have := hs x hx
            omega
          rw [if_pos (show cnd shut (n + 1) y j = true from decide_eq_true ⟨cj, by omega, .inl z⟩), e0, sumL_nought, show n - (y.2.1 - 1) = 0 by omega, prQ_zero]
          by_cases ci : y.1 = i
          · rw [if_pos ci, if_pos ⟨ci, z, cj⟩]
            grind
          · rw [if_neg ci, if_neg fun u => ci u.1]
            grind
        · rw [if_neg (fun u : y.1 = i ∧ y.2.1 = n + 1 ∧ y.2.2.1 = j => by omega)]
          by_cases cs : shut = some y.1
          · rw [if_neg fun u => ?_]
            · have e0 : (mv.map fun z => if y.2.2.1 = j ∧ z.1 = i ∧ y.2.1 + z.2.1 ≤ n + 1 ∧ shut ≠ some y.1 then qv y.2.2.2 * (qv z.2.2.2 * bk mv shut (n + 1 - y.2.1 - z.2.1) z.2.2.1 y.1) else 0).sum = (mv.map fun _ => (0 : Rat)).sum := sumL_congr fun x hx => if_neg fun u => u.2.2.2 cs
              rw [e0, sumL_nought]
              grind
            · rcases (of_decide_eq_true u).2.2 with v | v
              · omega
              · exact v cs
          · rw [if_pos (show cnd shut (n + 1) y j = true from decide_eq_true ⟨cj, by omega, .inr cs⟩)]
            obtain ⟨p, hp⟩ : ∃ p, n = p + y.2.1 := ⟨n - y.2.1, by omega⟩
            rw [show n - (y.2.1 - 1) = p + 1 by omega, ih p (by omega) y.1, mul_sumL]
            rw [show ∀ q : Rat, 0 + q = q by intro q; grind]
            refine sumL_congr fun x hx => ?_
            by_cases c : x.1 = i ∧ x.2.1 ≤ p + 1
            · rw [if_pos c, if_pos ⟨cj, c.1, by omega, cs⟩, show n + 1 - y.2.1 - x.2.1 = p + 1 - x.2.1 by omega]
            · rw [if_neg c, if_neg fun u => c ⟨u.2.1, by omega⟩]
              grind
        · rw [if_neg fun u => by have := (of_decide_eq_true u).2.1; omega, if_neg (fun u : y.1 = i ∧ y.2.1 = n + 1 ∧ y.2.2.1 = j => by omega)]
          have e0 : (mv.map fun z => if y.2.2.1 = j ∧ z.1 = i ∧ y.2.1 + z.2.1 ≤ n + 1 ∧ shut ≠ some y.1 then qv y.2.2.2 * (qv z.2.2.2 * bk mv shut (n + 1 - y.2.1 - z.2.1) z.2.2.1 y.1) else 0).sum = (mv.map fun _ => (0 : Rat)).sum := sumL_congr fun x hx => if_neg fun u => by omega
          rw [e0, sumL_nought]
          grind
      · rw [if_neg fun u => cj (of_decide_eq_true u).1, if_neg fun u => cj u.2.2]
        have e0 : (mv.map fun z => if y.2.2.1 = j ∧ z.1 = i ∧ y.2.1 + z.2.1 ≤ n + 1 ∧ shut ≠ some y.1 then qv y.2.2.2 * (qv z.2.2.2 * bk mv shut (n + 1 - y.2.1 - z.2.1) z.2.2.1 y.1) else 0).sum = (mv.map fun _ => (0 : Rat)).sum := sumL_congr fun x hx => if_neg fun u => cj u.1
        rw [e0, sumL_nought]
        grind
    have eB : ∀ z ∈ mv, (if z.1 = i ∧ z.2.1 ≤ n + 1 then qv z.2.2.2 * bk mv shut (n + 1 - z.2.1) z.2.2.1 j else 0) = (if z.1 = i ∧ z.2.1 = n + 1 ∧ z.2.2.1 = j then qv z.2.2.2 else 0) + (mv.map fun y => if y.2.2.1 = j ∧ z.1 = i ∧ y.2.1 + z.2.1 ≤ n + 1 ∧ shut ≠ some y.1 then qv y.2.2.2 * (qv z.2.2.2 * bk mv shut (n + 1 - y.2.1 - z.2.1) z.2.2.1 y.1) else 0).sum := fun z hz => by
      have h1 := hs z hz
      by_cases ci : z.1 = i
      · rcases (by omega : z.2.1 = n + 1 ∨ z.2.1 ≤ n ∨ n + 1 < z.2.1) with c | c | c
        · have e0 : (mv.map fun y => if y.2.2.1 = j ∧ z.1 = i ∧ y.2.1 + z.2.1 ≤ n + 1 ∧ shut ≠ some y.1 then qv y.2.2.2 * (qv z.2.2.2 * bk mv shut (n + 1 - y.2.1 - z.2.1) z.2.2.1 y.1) else 0).sum = (mv.map fun _ => (0 : Rat)).sum := sumL_congr fun x hx => if_neg fun u => by
            have := hs x hx
            omega
          rw [e0, sumL_nought, if_pos ⟨ci, by omega⟩, show n + 1 - z.2.1 = 0 by omega]
          unfold bk
          rw [if_pos rfl]
          by_cases cj : z.2.2.1 = j
          · rw [if_pos cj.symm, if_pos ⟨ci, c, cj⟩]
            grind
          · rw [if_neg fun u => cj u.symm, if_neg fun u => cj u.2.2]
            grind
        · rw [if_pos ⟨ci, by omega⟩, if_neg (fun u : z.1 = i ∧ z.2.1 = n + 1 ∧ z.2.2.1 = j => by omega)]
          rw [show ∀ q : Rat, 0 + q = q by intro q; grind]
          obtain ⟨p, hp⟩ : ∃ p, n = p + z.2.1 := ⟨n - z.2.1, by omega⟩
          rw [show n + 1 - z.2.1 = p + 1 by omega]
          have e1 : bk mv shut (p + 1) z.2.2.1 j = if shut = some z.2.2.1 then 0 else prQ mv z.2.2.1 shut (p + 1) j := by
            unfold bk
            rw [if_neg (by omega)]
          rw [e1]
          by_cases cs : shut = some z.2.2.1
          · rw [if_pos cs]
            have e0 : (mv.map fun y => if y.2.2.1 = j ∧ z.1 = i ∧ y.2.1 + z.2.1 ≤ n + 1 ∧ shut ≠ some y.1 then qv y.2.2.2 * (qv z.2.2.2 * bk mv shut (n + 1 - y.2.1 - z.2.1) z.2.2.1 y.1) else 0).sum = (mv.map fun _ => (0 : Rat)).sum := sumL_congr fun y hy => by
              by_cases u : y.2.2.1 = j ∧ z.1 = i ∧ y.2.1 + z.2.1 ≤ n + 1 ∧ shut ≠ some y.1
              · rw [if_pos u]
                unfold bk
                by_cases a0 : n + 1 - y.2.1 - z.2.1 = 0
                · rw [if_pos a0, if_neg fun v => u.2.2.2 (by rw [v]; exact cs)]
                  grind
                · rw [if_neg a0, if_pos cs]
                  grind
              · rw [if_neg u]
            rw [e0, sumL_nought]
            grind
          · rw [if_neg cs, prQ_succ, mul_sumL]
            refine sumL_congr fun y hy => ?_
            have hy1 := hs y hy
            by_cases u : y.2.2.1 = j ∧ y.2.1 ≤ p + 1
            · rcases (by omega : y.2.1 = p + 1 ∨ y.2.1 ≤ p) with v | v
              · rw [if_pos (show cnd shut (p + 1) y j = true from decide_eq_true ⟨u.1, u.2, .inl v⟩), show p - (y.2.1 - 1) = 0 by omega, prQ_zero]
                by_cases w : y.1 = z.2.2.1
                · rw [if_pos w, if_pos ⟨u.1, ci, by omega, by rw [w]; exact cs⟩]
                  unfold bk
                  rw [if_pos (by omega), if_pos w]
                  grind
                · rw [if_neg w]
                  by_cases u2 : y.2.2.1 = j ∧ z.1 = i ∧ y.2.1 + z.2.1 ≤ n + 1 ∧ shut ≠ some y.1
                  · rw [if_pos u2]
                    unfold bk
                    rw [if_pos (by omega), if_neg w]
                    grind
                  · rw [if_neg u2]
                    grind
              · by_cases w : shut = some y.1
                · rw [if_neg fun k => by
                    rcases (of_decide_eq_true k).2.2 with x | x
                    · omega
                    · exact x w, if_neg fun k => k.2.2.2 w]
                  grind
                · rw [if_pos (show cnd shut (p + 1) y j = true from decide_eq_true ⟨u.1, u.2, .inr w⟩), if_pos ⟨u.1, ci, by omega, w⟩]
                  unfold bk
                  rw [if_neg (by omega), if_neg cs, show n + 1 - y.2.1 - z.2.1 = p - (y.2.1 - 1) by omega]
                  grind
            · rw [if_neg fun k => u ⟨(of_decide_eq_true k).1, (of_decide_eq_true k).2.1⟩, if_neg fun k => u ⟨k.1, by omega⟩]
              grind
        · rw [if_neg (fun u : z.1 = i ∧ z.2.1 ≤ n + 1 => by omega), if_neg (fun u : z.1 = i ∧ z.2.1 = n + 1 ∧ z.2.2.1 = j => by omega)]
          have e0 : (mv.map fun y => if y.2.2.1 = j ∧ z.1 = i ∧ y.2.1 + z.2.1 ≤ n + 1 ∧ shut ≠ some y.1 then qv y.2.2.2 * (qv z.2.2.2 * bk mv shut (n + 1 - y.2.1 - z.2.1) z.2.2.1 y.1) else 0).sum = (mv.map fun _ => (0 : Rat)).sum := sumL_congr fun x hx => if_neg fun u => by omega
          rw [e0, sumL_nought]
          grind
      · rw [if_neg fun u => ci u.1, if_neg fun u => ci u.1]
        have e0 : (mv.map fun y => if y.2.2.1 = j ∧ z.1 = i ∧ y.2.1 + z.2.1 ≤ n + 1 ∧ shut ≠ some y.1 then qv y.2.2.2 * (qv z.2.2.2 * bk mv shut (n + 1 - y.2.1 - z.2.1) z.2.2.1 y.1) else 0).sum = (mv.map fun _ => (0 : Rat)).sum := sumL_congr fun x hx => if_neg fun u => ci u.2.1
        rw [e0, sumL_nought]
        grind
    rw [prQ_succ, sumL_congr eA, sumL_congr eB, ← sumL_add, ← sumL_add, sumL_swapL]

end Fp

set_option Elab.async false
set_option linter.all false
set_option maxRecDepth 100000
set_option maxHeartbeats 4000000
set_option exponentiation.threshold 10000
namespace Fp
open PySem PySem.Spec PyProof.Rows L2
/-! ### moves by their kinds; what stands in all -/
theorem moves_sum (G : Mv → Rat) : ∀ (ks : List (List Tri)) (k : Nat), ((movesFrom k ks).map G).sum = sumTo ks.length fun j => (((ks[j]?).getD []).map fun t => G (k + j, t)).sum
  | [], k => rfl
  | ts :: r, k => by
    show ((ts.map (fun t => ((k, t) : Mv)) ++ movesFrom (k + 1) r).map G).sum = _
    rw [List.map_append, List.sum_append, moves_sum G r (k + 1), List.length_cons, sumTo_head, List.map_map]
    congr 1
    refine sumTo_congr fun j _ => ?_
    rw [List.getElem?_cons_succ, show k + 1 + j = k + (j + 1) by omega]
theorem moves_at {ks : List (List Tri)} {i : Nat} {ts : List Tri} (h : ks[i]? = some ts) (g : Tri → Rat) : ((movesFrom 0 ks).map fun z => if z.1 = i then g z.2 else 0).sum = (ts.map g).sum := by
  have hi := (List.getElem?_eq_some_iff.mp h).1
  rw [moves_sum]
  have e : (sumTo ks.length fun j => (((ks[j]?).getD []).map fun t => (if 0 + j = i then g t else 0)).sum) = sumTo ks.length fun j => if j = i then (((ks[j]?).getD []).map g).sum else 0 := sumTo_congr fun j _ => by
    by_cases z : j = i
    · rw [if_pos z]
      exact sumL_congr fun t _ => if_pos (by omega)
    · rw [if_neg z, sumL_congr (g := fun _ => 0) fun t _ => if_neg (by omega), sumL_nought]
  refine Eq.trans e ?_
  rw [one_at, if_pos hi, h]
  rfl
theorem back_k {ks : List (List Tri)} (hs : ∀ y ∈ movesFrom 0 ks, 1 ≤ y.2.1) {i : Nat} {ts : List Tri} (h : ks[i]? = some ts) (shut : Option Nat) (n j : Nat) : prQ (movesFrom 0 ks) i shut (n + 1) j = (ts.map fun t => if t.1 ≤ n + 1 then qv t.2.2 * bk (movesFrom 0 ks) shut (n + 1 - t.1) t.2.1 j else 0).sum := by
  rw [back hs, ← moves_at h]
  refine sumL_congr fun z _ => ?_
  by_cases c : z.1 = i
  · rw [if_pos c]
    by_cases d : z.2.1 ≤ n + 1
    · rw [if_pos ⟨c, d⟩, if_pos d]
    · rw [if_neg fun u => d u.2, if_neg d]
  · rw [if_neg c, if_neg fun u => c u.1]
theorem bk_none (mv : List Mv) (a l j : Nat) : bk mv none a l j = prQ mv l none a j := by
  unfold bk
  by_cases z : a = 0
  · rw [if_pos z, z, prQ_zero]
  · rw [if_neg z, if_neg (by intro u; cases u)]
/-- backward, from nought on -/
theorem back_all {ks : List (List Tri)} (hs : ∀ y ∈ movesFrom 0 ks, 1 ≤ y.2.1) {i : Nat} {ts : List Tri} (h : ks[i]? = some ts) (ht : ∀ t ∈ ts, 1 ≤ t.1) (n j : Nat) : prQ (movesFrom 0 ks) i none n j = (if n = 0 ∧ j = i then 1 else 0) + (ts.map fun t => if t.1 ≤ n then qv t.2.2 * prQ (movesFrom 0 ks) t.2.1 none (n - t.1) j else 0).sum := by
  cases n with
  | zero =>
    rw [prQ_zero, sumL_congr (g := fun _ => 0) fun t hm => if_neg (by have := ht t hm; omega), sumL_nought]
    by_cases z : j = i
    · rw [if_pos z, if_pos ⟨rfl, z⟩]
      grind
    · rw [if_neg z, if_neg fun u => z u.2]
      grind
  | succ n =>
    rw [back_k hs h, if_neg (by omega), sumL_congr (g := fun t => if t.1 ≤ n + 1 then qv t.2.2 * prQ (movesFrom 0 ks) t.2.1 none (n + 1 - t.1) j else 0) fun t _ => by rw [bk_none]]
    grind
def lastK (ts : List Tri) (a : Nat) : Rat := 1 - (ts.map fun t => if t.1 ≤ a then qv t.2.2 else 0).sum
theorem kl_sum {ts : List Tri} (ht : ∀ t ∈ ts, 1 ≤ t.1) (a : Nat) : sumTo a (klQ ts) = (ts.map fun t => if t.1 ≤ a then qv t.2.2 else 0).sum := by
  have e := sumL_swap (fun _ => 1) (fun k (t : Tri) => if t.1 = k + 1 then qv t.2.2 else 0) a ts
  have e1 : sumTo a (klQ ts) = sumTo a fun k => 1 * (ts.map fun t => if t.1 = k + 1 then qv t.2.2 else 0).sum := sumTo_congr fun k _ => by
    unfold klQ
    grind
  rw [e1, e]
  refine sumL_congr fun t hm => ?_
  have h1 := ht t hm
  have e2 : (sumTo a fun k => 1 * (if t.1 = k + 1 then qv t.2.2 else 0)) = sumTo a fun k => if k = t.1 - 1 then qv t.2.2 else 0 := sumTo_congr fun k _ => by
    by_cases z : k = t.1 - 1
    · rw [if_pos z, if_pos (by omega)]
      grind
    · rw [if_neg z, if_neg (by omega)]
      grind
  rw [e2, one_at (g := fun _ => qv t.2.2)]
  by_cases z : t.1 ≤ a
  · rw [if_pos z, if_pos (by omega)]
  · rw [if_neg z, if_neg (by omega)]
theorem sumTo_spl5 (a b : Nat) (f : Nat → Rat) : sumTo (a + b) f = sumTo a f + sumTo b fun j => f (a + j) := by
  induction b with
  | zero =>
    rw [Nat.add_zero, sumTo_zero]
    grind
  | succ b ih =>
    rw [← Nat.add_assoc, sumTo_succ, ih, sumTo_succ]
    grind
theorem shift_sum {s : Nat} (hs : 1 ≤ s) (b : Nat) (g : Nat → Rat) : (sumTo (b + 1) fun n => if s ≤ b - n then g n else 0) = sumTo (b + 1) fun n => if s ≤ n then g (n - s) else 0 := by
  rcases (by omega : s ≤ b + 1 ∨ b + 1 < s) with z | z
  · obtain ⟨d, hd⟩ : ∃ d, b + 1 = d + s := ⟨b + 1 - s, by omega⟩
    have e1 : (sumTo (b + 1) fun n => if s ≤ b - n then g n else 0) = sumTo d g := by
      rw [sumTo_end (n := d) (fun k hk => if_neg (by omega)) (by omega)]
      exact sumTo_congr fun k hk => if_pos (by omega)
    have e2 : (sumTo (b + 1) fun n => if s ≤ n then g (n - s) else 0) = sumTo d g := by
      rw [show b + 1 = s + d by omega, sumTo_spl5, sumTo_congr (g := fun _ => 0) fun k hk => if_neg (by omega), sumTo_nought, sumTo_congr (g := g) fun k hk => by rw [if_pos (by omega), show s + k - s = k by omega]]
      grind
    rw [e1, e2]
  · rw [sumTo_congr (g := fun _ => 0) fun k hk => if_neg (by omega), sumTo_congr (n := b + 1) (f := fun n => if s ≤ n then g (n - s) else 0) (g := fun _ => 0) fun k hk => if_neg (by omega)]
theorem row_sum {mv : List Mv} {m : Nat} (hs : ∀ y ∈ mv, 1 ≤ y.2.1) (hm : ∀ y ∈ mv, y.2.2.1 < m) (i n : Nat) : (sumTo m fun j => prQ mv i none (n + 1) j) = (mv.map fun y => if y.2.1 ≤ n + 1 then qv y.2.2.2 * prQ mv i none (n + 1 - y.2.1) y.1 else 0).sum := by
  have e := sumL_swap (fun _ => 1) (fun j (y : Mv) => if cnd none (n + 1) y j = true then qv y.2.2.2 * prQ mv i none (n - (y.2.1 - 1)) y.1 else 0) m mv
  have e1 : (sumTo m fun j => prQ mv i none (n + 1) j) = sumTo m fun j => 1 * (mv.map fun y => if cnd none (n + 1) y j = true then qv y.2.2.2 * prQ mv i none (n - (y.2.1 - 1)) y.1 else 0).sum := sumTo_congr fun j _ => by
    rw [prQ_succ]
    grind
  rw [e1, e]
  refine sumL_congr fun y hy => ?_
  have h1 := hs y hy
  have h2 := hm y hy
  have e2 : (sumTo m fun j => 1 * (if cnd none (n + 1) y j = true then qv y.2.2.2 * prQ mv i none (n - (y.2.1 - 1)) y.1 else 0)) = sumTo m fun j => if j = y.2.2.1 then (if y.2.1 ≤ n + 1 then qv y.2.2.2 * prQ mv i none (n + 1 - y.2.1) y.1 else 0) else 0 := sumTo_congr fun j _ => by
    by_cases z : j = y.2.2.1
    · rw [if_pos z]
      by_cases c : y.2.1 ≤ n + 1
      · rw [if_pos c, if_pos (show cnd none (n + 1) y j = true from decide_eq_true ⟨z.symm, c, .inr (by intro u; cases u)⟩), show n - (y.2.1 - 1) = n + 1 - y.2.1 by omega]
        grind
      · rw [if_neg c, if_neg fun u => c (of_decide_eq_true u).2.1]
        grind
    · rw [if_neg z, if_neg fun u => z (of_decide_eq_true u).1.symm]
      grind
  rw [e2, one_at (g := fun _ => if y.2.1 ≤ n + 1 then qv y.2.2.2 * prQ mv i none (n + 1 - y.2.1) y.1 else 0), if_pos h2]
/-- what stands at a beat, all kinds together, is one -/
theorem stands_one {ks : List (List Tri)} (hs : ∀ y ∈ movesFrom 0 ks, 1 ≤ y.2.1) (hm : ∀ y ∈ movesFrom 0 ks, y.2.2.1 < ks.length) {i : Nat} (hi : i < ks.length) (b : Nat) :
    (sumTo ks.length fun j => sumTo (b + 1) fun n => prQ (movesFrom 0 ks) i none n j * lastK ((ks[j]?).getD []) (b - n)) = 1 := by
  generalize hu : prQ (movesFrom 0 ks) i none = u
  have e1 : (sumTo ks.length fun j => sumTo (b + 1) fun n => u n j * lastK ((ks[j]?).getD []) (b - n)) = (sumTo (b + 1) fun n => sumTo ks.length fun j => u n j) + -(sumTo (b + 1) fun n => sumTo ks.length fun j => u n j * (((ks[j]?).getD []).map fun t => if t.1 ≤ b - n then qv t.2.2 else 0).sum) := by
    rw [sumTo_swap, show ∀ q : Rat, -q = (-1) * q by intro q; grind, sumTo_mul, ← sumTo_add]
    refine sumTo_congr fun n _ => ?_
    rw [sumTo_mul, ← sumTo_add]
    refine sumTo_congr fun j _ => ?_
    unfold lastK
    grind
  have e2 : (sumTo (b + 1) fun n => sumTo ks.length fun j => u n j * (((ks[j]?).getD []).map fun t => if t.1 ≤ b - n then qv t.2.2 else 0).sum) = sumTo (b + 1) fun n => ((movesFrom 0 ks).map fun y => u n y.1 * (if y.2.1 ≤ b - n then qv y.2.2.2 else 0)).sum := sumTo_congr fun n _ => by
    rw [moves_sum]
    refine sumTo_congr fun j _ => ?_
    rw [mul_sumL]
    refine sumL_congr fun t _ => ?_
    show _ = u n (0 + j) * (if t.1 ≤ b - n then qv t.2.2 else 0)
    rw [Nat.zero_add]
  have e3 : (sumTo (b + 1) fun n => ((movesFrom 0 ks).map fun y => u n y.1 * (if y.2.1 ≤ b - n then qv y.2.2.2 else 0)).sum) = ((movesFrom 0 ks).map fun y => sumTo (b + 1) fun n => if y.2.1 ≤ n then qv y.2.2.2 * u (n - y.2.1) y.1 else 0).sum := by
    have x := sumL_swap (fun _ => 1) (fun n (y : Mv) => u n y.1 * (if y.2.1 ≤ b - n then qv y.2.2.2 else 0)) (b + 1) (movesFrom 0 ks)
    have x1 : (sumTo (b + 1) fun n => ((movesFrom 0 ks).map fun y => u n y.1 * (if y.2.1 ≤ b - n then qv y.2.2.2 else 0)).sum) = sumTo (b + 1) fun n => 1 * ((movesFrom 0 ks).map fun y => u n y.1 * (if y.2.1 ≤ b - n then qv y.2.2.2 else 0)).sum := sumTo_congr fun n _ => by grind
    rw [x1, x]
    refine sumL_congr fun y hy => ?_
    have h1 := hs y hy
    rw [← shift_sum h1 b (fun n => qv y.2.2.2 * u n y.1)]
    refine sumTo_congr fun n _ => ?_
    split <;> grind
  have e4 : (sumTo (b + 1) fun n => sumTo ks.length fun j => u n j) = 1 + sumTo b fun n => sumTo ks.length fun j => u (n + 1) j := by
    rw [sumTo_head]
    congr 1
    have x : (sumTo ks.length fun j => u 0 j) = sumTo ks.length fun j => if j = i then 1 else 0 := sumTo_congr fun j _ => by
      rw [← hu, prQ_zero]
    rw [x, one_at (g := fun _ => 1), if_pos hi]
  have e5 : (sumTo b fun n => sumTo ks.length fun j => u (n + 1) j) = ((movesFrom 0 ks).map fun y => sumTo (b + 1) fun n => if y.2.1 ≤ n then qv y.2.2.2 * u (n - y.2.1) y.1 else 0).sum := by
    have x := sumL_swap (fun _ => 1) (fun n (y : Mv) => if y.2.1 ≤ n + 1 then qv y.2.2.2 * u (n + 1 - y.2.1) y.1 else 0) b (movesFrom 0 ks)
    have x1 : (sumTo b fun n => sumTo ks.length fun j => u (n + 1) j) = sumTo b fun n => 1 * ((movesFrom 0 ks).map fun y => if y.2.1 ≤ n + 1 then qv y.2.2.2 * u (n + 1 - y.2.1) y.1 else 0).sum := sumTo_congr fun n _ => by
      rw [← hu, row_sum hs hm]
      grind
    rw [x1, x]
    refine sumL_congr fun y hy => ?_
    have h1 := hs y hy
    rw [sumTo_head, if_neg (by omega)]
    rw [show ∀ q : Rat, 0 + q = q by intro q; grind]
    exact sumTo_congr fun n _ => by grind
  rw [e1, e2, e3, e4, e5]
  grind

end Fp

set_option Elab.async false
set_option linter.all false
set_option maxRecDepth 100000
set_option maxHeartbeats 4000000
set_option exponentiation.threshold 10000
namespace Fp
open PySem PySem.Spec PyProof.Rows L2
/-! ### zip(xs, ys) of a list and a tuple -/
def Itlt (K : PySem.W.Frag) (a b : Addr) : It :=
  ⟨fun i H => ∃ (xs ys : List V) (x y : V), SqL K H a xs ∧ SqT K H b ys ∧ xs[i]? = some x ∧ ys[i]? = some y,
    fun i H v H2 => ∃ T x y, v = .ref T ∧ H T = none ∧ H2 = upd H T (.tup [x, y]) ∧ (∀ xs, SqL K H a xs → xs[i]? = some x) ∧ ∀ ys, SqT K H b ys → ys[i]? = some y,
    fun i H => ∃ xs ys : List V, SqL K H a xs ∧ SqT K H b ys ∧ i ≤ xs.length ∧ i ≤ ys.length ∧ (i = xs.length ∨ i = ys.length)⟩
theorem walk_lt {K : PySem.W.Frag} {a b : Addr} {xs ys : List V} {n : Nat} (hn : n = min xs.length ys.length) : Walk (Itlt K a b) n (fun H => SqL K H a xs ∧ SqT K H b ys) (YPair (fun i => xs[i]?) (fun i => ys[i]?)) := by
  subst hn
  refine ⟨fun i _ hi q => ⟨xs, ys, xs[i], ys[i], q.1, q.2, List.getElem?_eq_getElem (by omega), List.getElem?_eq_getElem (by omega)⟩, fun _ q => ⟨xs, ys, q.1, q.2, by omega, by omega, by omega⟩, fun i H v H2 _ q y => ?_⟩
  obtain ⟨T, x, y2, y1, y3, y4, y5, y6⟩ := y
  exact ⟨T, x, y2, y1, y3, y4, y5 xs q.1, y6 ys q.2⟩
theorem turn_lt {P : Program} {w : World} {K : PySem.W.Frag} {elts : List Expr} {kk : Nat} {tpos : Pos} {a b z TI TO i1 i2 : Addr} (S : ZipSep2 z TI TO i1 i2 [i1, a] [i2, b]) (na : a ≠ i1) (nb : b ≠ i2) :
    Turn P w K (.Tuple elts kk tpos) (Itlt K a b) [z, TI, TO, i1, i2] z (fun i h => IsZip h z TI TO .none ∧ IsTupOf2 h TI (.ref i1) (.ref i2) ∧ (∃ x y, IsTupOf2 h TO x y) ∧ h.IsListIter i1 a i ∧ h.IsTupleIter i2 b i) where
  mem := by simp
  obj := fun i h st c hc => by
    obtain ⟨zz, zI, ⟨x, y, zO⟩, ⟨o1, e1, _, d1⟩, ⟨o2, e2, _, d2⟩⟩ := st
    rcases (show c = z ∨ c = TI ∨ c = TO ∨ c = i1 ∨ c = i2 by simpa using hc) with q | q | q | q | q
    · rw [q]
      exact ⟨_, zz, fun v q => nomatch q⟩
    · rw [q]
      exact ⟨_, zI, fun v q => nomatch q⟩
    · rw [q]
      exact ⟨_, zO, fun v q => nomatch q⟩
    · rw [q]
      exact ⟨o1, e1, fun v q => by rw [d1] at q; cases q⟩
    · rw [q]
      exact ⟨o2, e2, fun v q => by rw [d2] at q; cases q⟩
  keep := fun i h h2 st kp => by
    obtain ⟨zz, zI, ⟨x, y, zO⟩, j1, j2⟩ := st
    exact ⟨kp z (by simp) _ zz, kp TI (by simp) _ zI, ⟨x, y, kp TO (by simp) _ zO⟩, j1.at fun o q => kp i1 (by simp) o q, j2.at fun o q => kp i2 (by simp) o q⟩
  item := by
    intro Y yP yw yK yc i pn s sl H F I hf st hg
    subst yP yw yK
    obtain ⟨zz, zI, ⟨x0, y0, zO⟩, j1, j2⟩ := st
    obtain ⟨xs, ys, x, y, sx, sy, ex, ey⟩ := hg
    obtain ⟨us, rv, po, _⟩ := I.list sx
    obtain ⟨ws, rw', pw, _⟩ := I.tuple sy
    obtain ⟨u, eu, ru⟩ := rv.get ex
    obtain ⟨u2, eu2, ru2⟩ := rw'.get ey
    have oa : s.heap.IsList a us.toArray := po.isList
    have ob : s.heap.IsTuple b ws.toArray := pw
    have hh : Y.A.in1.handled = none := I.ok.hd yc
    have lz : z < s.heap.objs.size := Heap.lt_size zz
    have l1 : i < us.toArray.size := by
      have := (List.getElem?_eq_some_iff.mp eu).1
      simpa using this
    have l2 : i < ws.toArray.size := by
      have := (List.getElem?_eq_some_iff.mp eu2).1
      simpa using this
    refine wpAny_pyNext_zipD2_item S (Draws.list (A := Y.A.in1) hh i1 a na us.toArray) (Draws.tuple (A := Y.A.in1) hh i2 b nb ws.toArray) zz zI zO ⟨j1, oa⟩ ⟨j2, ob⟩ l1 l2 fun v1 v2 h2 tk q1 q2 zz2 zO2 st1 st2 oT _ kp => ?_
    have e1 : v1 = u := by
      have : us[i]? = some v1 := by simpa using q1
      rw [eu] at this
      exact Option.some.inj this.symm
    have e2 : v2 = u2 := by
      have : ws[i]? = some v2 := by simpa using q2
      rw [eu2] at this
      exact Option.some.inj this.symm
    subst e1 e2
    refine ⟨_, rfl, wpAny_letOwnedTupleGo_zip (s := { s with heap := h2, toks := tk }) zz2 fun h3 zz3 sb => ?_⟩
    have oT3 := (sb.2 _ (Nat.ne_of_gt lz)).trans oT
    have new : ObjOk Y.prog Y.w (upd H s.heap.objs.size (.tup [x, y])) h3 s.heap.objs.size (.tup [x, y]) :=
      ⟨by show 2 ≤ sizeLine; decide, [v1, v2], .cons ru (.cons ru2 .nil), ⟨_, oT3, rfl, _, rfl⟩⟩
    have I3 : Inv Y pn sl (upd H s.heap.objs.size (.tup [x, y])) { s with heap := h3, toks := tk } := by
      refine I.turnedNew (ch := [z, TI, TO, i1, i2]) (fun c o hb q => ?_) hf (Nat.le_refl _) new
      exact (sb.2 c fun y => hb (by simp [y])).trans (kp c o (fun y => hb (by simp [y])) (fun y => hb (by simp [y])) (fun y => hb (by simp [y])) (fun y => hb (by simp [y])) q)
    refine ⟨.ref s.heap.objs.size, _, I3, rfl, ⟨_, x, y, rfl, I.hok.fresh (Nat.le_refl _), rfl, fun l hl => by rw [I.list_inj hl sx]; exact ex, fun l hl => by rw [I.tuple_inj hl sy]; exact ey⟩, ⟨zz3, ?_, ⟨v1, v2, ?_⟩, ?_, ?_⟩, fun c hc => ?_⟩
    · exact (sb.2 _ S.TIz).trans (kp _ _ S.TIz S.TITO S.TIi1 S.TIi2 zI)
    · exact (sb.2 _ S.TOz).trans zO2
    · exact st1.1.at fun o q => (sb.2 _ S.zi1.symm).trans q
    · exact st2.1.at fun o q => (sb.2 _ S.zi2.symm).trans q
    · have lc : c < s.heap.objs.size := by
        rcases (show c = z ∨ c = TI ∨ c = TO ∨ c = i1 ∨ c = i2 by simpa using hc) with q | q | q | q | q
        · rw [q]
          exact lz
        · rw [q]
          exact Heap.lt_size zI
        · rw [q]
          exact Heap.lt_size zO
        · rw [q]
          obtain ⟨_, y1, _⟩ := j1
          exact Heap.lt_size y1
        · rw [q]
          obtain ⟨_, y1, _⟩ := j2
          exact Heap.lt_size y1
      rw [upd_ne (Nat.ne_of_lt lc)]
      exact (hf c hc).1
  done := by
    intro Y yP yw yK yc i pn s sl H F I hf st hg
    subst yP yw yK
    obtain ⟨zz, zI, ⟨x0, y0, zO⟩, j1, j2⟩ := st
    obtain ⟨xs, ys, sx, sy, hx, hy, he⟩ := hg
    obtain ⟨us, rv, po, _⟩ := I.list sx
    obtain ⟨ws, rw', pw, _⟩ := I.tuple sy
    have l1 := rv.length
    have l2 := rw'.length
    have hh : Y.A.in1.handled = none := I.ok.hd yc
    refine wpAny_pyNext_zipD2_end S (Draws.list (A := Y.A.in1) hh i1 a na us.toArray) (Draws.tuple (A := Y.A.in1) hh i2 b nb ws.toArray) zz zI zO ⟨j1, po.isList⟩ ⟨j2, pw⟩ (by rw [List.size_toArray]; omega) (by rw [List.size_toArray]; omega) (by rw [List.size_toArray, List.size_toArray]; omega) fun h2 tk kp => ⟨rfl, I.turnedL (ch := [z, TI, TO, i1, i2]) (fun c o hb q => ?_) hf⟩
    exact kp c o (fun y => hb (by simp [y])) (fun y => hb (by simp [y])) (fun y => hb (by simp [y])) (fun y => hb (by simp [y])) q
  self := fun A2 i s Q F st h => wpAny_pyIter_zip st.1 h
theorem sep5lt {n a b : Nat} (la : a < n) (lb : b < n) : ZipSep2 (n + 4) (n + 2) (n + 3) n (n + 1) [n, a] [n + 1, b] := by
  have no : ∀ {x y z : Nat}, x ≠ y → x ≠ z → x ∉ [y, z] := fun h1 h2 h => by
    rcases List.mem_cons.mp h with q | q
    · exact h1 q
    · exact h2 (List.mem_singleton.mp q)
  have e1 : ∀ {x y : Nat}, x < y → x ≠ y := fun h => Nat.ne_of_lt h
  have e2 : ∀ {x y : Nat}, y < x → x ≠ y := fun h => Nat.ne_of_gt h
  exact ⟨e1 (by omega), e1 (by omega), e1 (by omega), e2 (by omega), List.mem_cons_self .., no (e2 (by omega)) (e2 (by omega)), no (e2 (by omega)) (e2 (by omega)), e2 (by omega), List.mem_cons_self .., no (e2 (by omega)) (e2 (by omega)), no (e2 (by omega)) (e2 (by omega)), no (e1 (by omega)) (e2 (by omega)), no (e2 (by omega)) (e2 (by omega))⟩
def iZipLT (K : PySem.W.Frag) (ta : TA) : TI := fun σ H R => ta σ H fun vs H1 => ∃ a b xs ys, vs = [.ref a, .ref b] ∧ SqL K H1 a xs ∧ SqT K H1 b ys ∧ R (Itlt K a b) H1
theorem pi_zipLT {X : Cx} {e e2 : Expr} {ta : TA} {p pos tpos : Pos} {elts : List Expr} {kk : Nat} (hg : Gl X "zip") (hm : X.mg "zip" = none) (ha : PA X [e, e2] ta)
    (hs : starEach [e, e2] X.env = (false, eval e X.env) :: starEach [e2] X.env := by rfl) (hpl : (backTo pos (starEach [e2] X.env)).any (·.1) = false := by rfl) :
    PI X (.Tuple elts kk tpos) (.Call (.Name "zip" p) [e, e2] [] pos) (iZipLT X.K ta) := by
  refine ⟨fun pn s sl H R I h => Call_ (ld_blt I hg hm PyProof.Rows.boot_zip (PyProof.Rows.callWith_type1 (thn (ha.run pos pn s sl H _ I h) fun us s1 z1 => ?_) hs hpl))⟩
  obtain ⟨vs, H1, I1, r1, a, b, xs, ys, rfl, sx, sy, q⟩ := z1
  cases r1 with
  | cons ra rn =>
    cases rn with
    | cons rb rn =>
      cases rn
      cases ra
      cases rb
      obtain ⟨us, rv, po, _⟩ := I1.list sx
      obtain ⟨ws, rw', pw, _⟩ := I1.tuple sy
      have oa : s1.heap.IsTuple b ws.toArray := pw
      obtain ⟨o1, q1, _⟩ := id oa
      have la : a < s1.heap.objs.size := po.lt
      have lb : b < s1.heap.objs.size := Heap.lt_size q1
      refine zip_begins2 (begins_list a us.toArray) (begins_tuple b ws.toArray) po.isList oa fun h2 zz zI zO g1 g2 _ kp => wpAny_pyIter_zip zz ?_
      have I2 : Inv X pn sl H1 { s1 with heap := h2 } := I1.kept (t' := s1.toks) kp
      have S : ZipSep2 (s1.heap.objs.size + 4) (s1.heap.objs.size + 2) (s1.heap.objs.size + 3) s1.heap.objs.size (s1.heap.objs.size + 1) [s1.heap.objs.size, a] [s1.heap.objs.size + 1, b] := sep5lt la lb
      refine ⟨s1.heap.objs.size + 4, [s1.heap.objs.size + 4, s1.heap.objs.size + 2, s1.heap.objs.size + 3, s1.heap.objs.size, s1.heap.objs.size + 1], _, _, H1, rfl, I2, turn_lt S (Nat.ne_of_lt la) (Nat.ne_of_lt (Nat.lt_succ_of_lt lb)), ⟨zz, zI, ⟨_, _, zO⟩, ⟨_, g1, rfl, rfl⟩, ⟨_, g2, rfl, rfl⟩⟩, fun c hc => ?_, q⟩
      have hl : s1.heap.objs.size ≤ c := by
        rcases (show c = s1.heap.objs.size + 4 ∨ c = s1.heap.objs.size + 2 ∨ c = s1.heap.objs.size + 3 ∨ c = s1.heap.objs.size ∨ c = s1.heap.objs.size + 1 by simpa using hc) with y | y | y | y | y <;> (rw [y]; omega)
      exact I1.fpOk hl (I1.hok.fresh hl)

end Fp

set_option Elab.async false
set_option linter.all false
set_option maxRecDepth 100000
set_option maxHeartbeats 4000000
set_option exponentiation.threshold 10000
namespace Fp
open PySem PySem.Spec PyProof.Rows L2
/-! ### drawn kinds, wide ones too, may be put -/
theorem kds_tk {K : PySem.W.Frag} {H H' : Hp} {p : Addr} {ks : List (List Tri)} (h : KdsA K H p ks) (e : Same H H') : KdsA K H' p ks := kdsA_stays _ _ _ _ (Tk.same e) h
def KW (ks : List (List Tri)) : Prop := ks.length ≤ 4 ∧ ∀ ts ∈ ks, KdW ks.length ts
theorem kds_sh {ks : List (List Tri)} {m : Nat} (hl : ks.length ≤ 4) (h : ∀ ts ∈ ks, KdW m ts) (hm : m ≤ 60) : Sh 800000 4 (kdsD ks) := by
  refine (Shs.map (c := 194500) (k := 3) (N := 4) (fun ts hts => ?_) hl).tup.mono (by decide) (by decide)
  have kd := h ts hts
  refine (Shs.map (c := 8100) (k := 2) (N := 24) (fun t ht => ?_) kd.len).tup.mono (by decide) (by decide)
  obtain ⟨T, t0, t1, htt⟩ := kd.tot
  obtain ⟨⟨a1, a2⟩, a3, v, v1, v2, e⟩ := htt t ht
  refine triD_sh (by omega) (by omega) ?_
  rw [e]
  exact low2_sm (n := 1900) t0 (Sm.mono (n := 8) (by unfold Sm; omega) (by decide)) (Sm.mono (n := 8) (by unfold Sm; omega) (by decide))
theorem kinds_PW {m : Nat} : ∀ (ks : List (List Tri)) (k : Nat), (∀ ts ∈ ks, KdW m ts) → ∃ P : Int, (0 < P ∧ P ≤ 200 ^ ks.length) ∧ (movesFrom k ks).length ≤ 24 * ks.length ∧ ∀ y ∈ movesFrom k ks, Red y.2.2.2 ∧ Sz P 0 (qv y.2.2.2) ∧ 1 ≤ y.2.1 ∧ y.1 < k + ks.length ∧ y.2.2.1 < m
  | [], k, _ => ⟨1, ⟨by decide, by decide⟩, Nat.le_refl _, fun y hy => by cases hy⟩
  | ts :: r, k, h => by
    obtain ⟨P, ⟨p0, p1⟩, hl, hy⟩ := kinds_PW r (k + 1) fun u hu => h u (List.mem_cons_of_mem _ hu)
    obtain ⟨len, T, t0, t1, ht⟩ := h ts (List.mem_cons_self ..)
    have hTP : 0 < T * P := Int.mul_pos t0 p0
    refine ⟨T * P, ⟨hTP, ?_⟩, ?_, fun y hy2 => ?_⟩
    · rw [List.length_cons, Int.pow_succ, Int.mul_comm]
      exact Int.mul_le_mul p1 t1 (by omega) (Int.le_of_lt (Int.pow_pos (by decide)))
    · show (ts.map (fun t => ((k, t) : Mv)) ++ movesFrom (k + 1) r).length ≤ _
      rw [List.length_append, List.length_map, List.length_cons]
      omega
    · rcases List.mem_append.mp (show y ∈ ts.map (fun t => ((k, t) : Mv)) ++ movesFrom (k + 1) r from hy2) with z | z
      · obtain ⟨t, htm, rfl⟩ := List.mem_map.mp z
        obtain ⟨⟨a1, a2⟩, a3, v, v1, v2, e⟩ := ht t htm
        obtain ⟨d0, d1⟩ := div_01 (show 0 ≤ v by omega) t0 v2
        refine ⟨by show Red t.2.2; rw [e]; exact low2_red (Int.ne_of_gt t0), ?_, a1, by show k < k + (r.length + 1); omega, a3⟩
        show Sz (T * P) 0 (qv t.2.2)
        rw [e, qv_low2 t0]
        exact (Sz.pos (P := T) ⟨v, rfl⟩ d0 (by rw [Rat.pow_zero]; exact d1)).dvd t0 hTP (Int.dvd_mul_right ..)
      · obtain ⟨b1, b2, b3, b4, b5⟩ := hy y z
        refine ⟨b1, b2.dvd p0 hTP (Int.dvd_mul_left ..), b3, by rw [List.length_cons]; omega, b5⟩
theorem kinds_okW {ks : List (List Tri)} (h : KW ks) : ∃ P : Int, MvOk P ks.length (movesFrom 0 ks) := by
  obtain ⟨hl, h⟩ := h
  obtain ⟨P, ⟨p0, p1⟩, hlen, hy⟩ := kinds_PW ks 0 h
  refine ⟨P, p0, ?_, by omega, fun y h2 => (hy y h2).1, fun y h2 => (hy y h2).2.1, fun y h2 => (hy y h2).2.2.1, fun y h2 => ?_⟩
  · have e : (200 : Int) ^ ks.length ≤ 200 ^ 4 := by
      rcases (by omega : ks.length = 0 ∨ ks.length = 1 ∨ ks.length = 2 ∨ ks.length = 3 ∨ ks.length = 4) with z | z | z | z | z <;> (rw [z]; decide)
    have e4 : (200 : Int) ^ 4 = 1600000000 := by decide
    unfold Sm
    have e24 : (2 : Nat) ^ 32 = 4294967296 := by decide
    omega
  · obtain ⟨_, _, _, b4, b5⟩ := hy y h2
    exact ⟨by omega, by omega⟩
theorem kds_drawn {m : Nat} {ks : List (List Tri)} (h : ∀ ts ∈ ks, KdOk m ts) (hl : ks.length = m) (hm : m ≤ 4) : KW ks := ⟨by omega, fun ts hts => by rw [hl]; exact (h ts hts).w⟩
theorem tta_stays {K : PySem.W.Frag} : Stays K (TTA K) := fun H H' p y e h => by
  obtain ⟨rs, h1, h2⟩ := h
  exact ⟨rs, e _ _ h1, h2.tk rowA_stays e⟩

end Fp

set_option Elab.async false
set_option linter.all false
set_option maxRecDepth 100000
set_option maxHeartbeats 4000000
set_option exponentiation.threshold 10000
namespace Fp
open PySem PySem.Spec PyProof.Rows L2
/-! ### the law's own puts, by the first step -/
theorem mem_moves {t : Tri} {ts : List Tri} : ∀ {ks : List (List Tri)} {k i : Nat}, ks[i]? = some ts → t ∈ ts → (k + i, t) ∈ movesFrom k ks
  | [], k, i, h, _ => by simp at h
  | us :: r, k, 0, h, ht => by
    cases Option.some.inj h
    exact List.mem_append_left _ (List.mem_map.mpr ⟨t, ht, rfl⟩)
  | us :: r, k, i + 1, h, ht => by
    have := mem_moves (ks := r) (k := k + 1) (i := i) h ht
    rw [show k + 1 + i = k + (i + 1) by omega] at this
    exact List.mem_append_right _ this
def accB (ks : List (List Tri)) (b f : Nat) (ts : List Tri) (j : Nat) : Rat := (if b = 0 ∧ j = f then 1 else 0) + (ts.map fun t => if t.1 ≤ b then qv t.2.2 * prQ (movesFrom 0 ks) t.2.1 none (b - t.1) j else 0).sum
theorem accB_snoc (ks : List (List Tri)) (b f : Nat) (ts : List Tri) (t : Tri) (j : Nat) : accB ks b f (ts ++ [t]) j = accB ks b f ts j + if t.1 ≤ b then qv t.2.2 * prQ (movesFrom 0 ks) t.2.1 none (b - t.1) j else 0 := by
  unfold accB
  rw [List.map_append, List.map_cons, List.map_nil, sum_snoc]
  grind
theorem accB_nil (ks : List (List Tri)) (b f j : Nat) : accB ks b f [] j = if b = 0 ∧ j = f then 1 else 0 := by
  unfold accB
  show _ + (0 : Rat) = _
  grind
theorem q_sz {ks : List (List Tri)} {P0 : Int} (M : MvOk P0 ks.length (movesFrom 0 ks)) {i : Nat} {ts : List Tri} (h : ks[i]? = some ts) {t : Tri} (ht : t ∈ ts) : Sz P0 0 (qv t.2.2) ∧ Red t.2.2 ∧ 1 ≤ t.1 ∧ t.2.1 < ks.length := by
  have m := mem_moves (k := 0) h ht
  exact ⟨M.sz _ m, M.red _ m, M.st _ m, (M.kd _ m).2⟩
theorem MvOk.p21 {P : Int} {m : Nat} {mv : List Mv} (M : MvOk P m mv) : 0 < P * P ^ 20 ∧ Sm 673 (P * P ^ 20) := ⟨Int.mul_pos M.pos (Int.pow_pos M.pos), (M.sm.mul (M.p20.2)).mono (by decide)⟩
theorem accB_sz {ks : List (List Tri)} {P0 : Int} (M : MvOk P0 ks.length (movesFrom 0 ks)) {i : Nat} {ts : List Tri} (h : ks[i]? = some ts) (hl : ts.length ≤ 128) {b : Nat} (hb : b ≤ 20) (f k j : Nat) : Sz (P0 * P0 ^ 20) 148 (accB ks b f (ts.take k) j) := by
  unfold accB
  refine Sz.add (k := 147) M.p21.1 ?_ ?_
  · split
    · exact Sz.one M.p21.1
    · exact Sz.nought
  · refine Sz.sumL (k := 140) M.p21.1 (fun t ht => ?_) (by rw [List.length_take]; omega)
    split
    · have x := (q_sz M h (List.mem_of_mem_take ht)).1.mul M.pos M.p20.1 (pr_sz20 M t.2.1 none (show b - t.1 ≤ 20 by omega) j)
      rw [Nat.zero_add] at x
      exact x
    · exact Sz.nought
theorem bit_at {K : PySem.W.Frag} {H : Hp} {t : Addr} (c : Bool) : RAt K (upd H t (.tup [.int (if c = true then 1 else 0), .int 1])) t (rdq (if c = true then 1 else 0)) := by
  cases c
  · rw [if_neg (by decide), if_neg (by decide), rdq_zero.mpr rfl]
    exact SqT.of upd_same
  · rw [if_pos rfl, if_pos rfl, (is_rdq one_red qv_one).symm]
    exact SqT.of upd_same
theorem prRows_at {ks : List (List Tri)} {first most i : Nat} (h : i ≤ most) : (prRows ks first most)[i]? = some (mkL ks.length (prQ (movesFrom 0 ks) first none i)) := by
  unfold prRows
  rw [List.getElem?_map, List.getElem?_range (by omega)]
  rfl
section
variable {P : Program} {w : World} {K : PySem.W.Frag} {mg : Str → Option Value} {base : Heap} {aN aO : Addr}
def rowB (ks : List (List Tri)) (n : Nat) : List (List RT) := (List.range ks.length).map fun f => mkL ks.length (prQ (movesFrom 0 ks) f none n)
def spPb (K : PySem.W.Frag) : Sp := fun vs H Q _ => ∃ (p : Addr) (ks : List (List Tri)) (beats : Nat) (P0 : Int), vs = [.ref p, .int (beats : Int)] ∧ KdsA K H p ks ∧ MvOk P0 ks.length (movesFrom 0 ks) ∧ KW ks ∧ beats ≤ 20 ∧
  ∀ z H', Same H H' → OLs (TTA K) H' z ((List.range ks.length).map fun f => prRows ks f beats) → Q (.ref z) H'
end

end Fp

set_option Elab.async false
set_option linter.all false
set_option maxRecDepth 100000
set_option maxHeartbeats 4000000
set_option exponentiation.threshold 10000
namespace Fp
open PySem PySem.Spec PyProof.Rows L2
/-! ### texts of numbers are texts; a text told twice -/
theorem strOk_of (s : String) : PyData.strOk (Str.ofString s) = true := by
  rw [Str.ofString_eq_toList]
  unfold PyData.strOk
  rw [List.all_toArray, List.all_eq_true]
  intro c hc
  obtain ⟨ch, _, rfl⟩ := List.mem_map.mp hc
  refine decide_eq_true ?_
  have := ch.valid
  show ch.val.toNat < 0x110000
  rcases this with h | h
  · have h2 : ch.val.toNat < 0xd800 := h
    omega
  · have h2 : ch.val.toNat < 0x110000 := h.2
    omega
theorem strOk_app {a b : Str} (ha : PyData.strOk a = true) (hb : PyData.strOk b = true) : PyData.strOk (a ++ b) = true := by
  unfold PyData.strOk at *
  show (a.cps ++ b.cps).all _ = true
  rw [Array.all_append, ha, hb]
  rfl
theorem strOk_join : ∀ {ts : List Str}, (∀ t ∈ ts, PyData.strOk t = true) → PyData.strOk (Str.join ", " ts) = true
  | [], _ => by
    have e : Str.join ", " [] = ⟨#[]⟩ := by simp [Str.join, Str.empty]
    rw [e]
    simp [PyData.strOk]
  | [x], h => h x (List.mem_cons_self ..)
  | x :: y :: r, h => by
    show PyData.strOk (x ++ _ ++ Str.join ", " (y :: r)) = true
    exact strOk_app (strOk_app (h x (List.mem_cons_self ..)) (strOk_of _)) (strOk_join fun t ht => h t (List.mem_cons_of_mem _ ht))
theorem strOk_tup {ts : List Str} (h : ∀ t ∈ ts, PyData.strOk t = true) : PyData.strOk (tupleText ts) = true := by
  unfold tupleText
  refine strOk_app (strOk_app (strOk_of _) (strOk_join h)) ?_
  exact strOk_of _
theorem strOk_rat (x : RT) : PyData.strOk (PyData.shown (ratD x)) = true := by
  show PyData.strOk (tupleText [Str.ofString (toString x.1), Str.ofString (toString x.2)]) = true
  refine strOk_tup fun t ht => ?_
  rcases List.mem_cons.mp ht with z | z
  · rw [z]
    exact strOk_of _
  · rw [List.mem_singleton.mp z]
    exact strOk_of _
theorem strOk_row (xs : List RT) : PyData.strOk (PyData.shown (.tuple (rowD xs))) = true := by
  show PyData.strOk (tupleText (PyData.shownAll (rowD xs))) = true
  refine strOk_tup fun t ht => ?_
  induction xs with
  | nil => cases ht
  | cons x r ih =>
    rcases List.mem_cons.mp (show t ∈ PyData.shown (ratD x) :: PyData.shownAll (rowD r) from ht) with z | z
    · rw [z]
      exact strOk_rat x
    · exact ih z
theorem strOk_rows (xss : List (List RT)) : PyData.strOk (PyData.shown (.tuple (xss.map fun xs => .tuple (rowD xs)))) = true := by
  show PyData.strOk (tupleText (PyData.shownAll (xss.map fun xs => PyData.tuple (rowD xs)))) = true
  refine strOk_tup fun t ht => ?_
  induction xss with
  | nil => cases ht
  | cons x r ih =>
    rcases List.mem_cons.mp (show t ∈ PyData.shown (.tuple (rowD x)) :: PyData.shownAll (r.map fun xs => PyData.tuple (rowD xs)) from ht) with z | z
    · rw [z]
      exact strOk_row x
    · exact ih z
/-- the same text twice -/
theorem ne_twice {K : PySem.W.Frag} {H : Hp} {p q : Addr} {s : Str} {Q : VK} (hs : PyData.strOk s = true) (h1 : H p = some (.lst [.str s, .str s])) (h2 : H q = some (.lst [.str s, .str s])) (h : Q (.bl false) H) : rNeD K (.ref p) (.ref q) H Q := by
  have sh : SeqAt.shaped (.list [.str s, .str s]) = true := by
    show (PyData.strOk s && (PyData.strOk s && true) && decide (_ ≤ 64)) = true
    rw [hs]
    rfl
  refine ⟨_, _, .lst (SqL.of h1) (.cons (.str s) (.cons (.str s) .nil)), .lst (SqL.of h2) (.cons (.str s) (.cons (.str s) .nil)), sh, sh, ?_⟩
  have e : PyData.eqv (.list [.str s, .str s]) (.list [.str s, .str s]) = true := by
    show ((s == s) && ((s == s) && true)) = true
    rw [beq_self_eq_true]
    rfl
  rw [e]
  exact h
section
variable {K : PySem.W.Frag}
/-- a comprehension each turn of which gives one text -/
theorem lc_txt {J : It} {n : Nat} {G : Hp → Prop} {Y : Nat → Hp → V → Hp → Prop} (w : Walk J n G Y) {g : TG} {te : TE} {vs : List Nat} {σ : L2.St} {H1 : Hp} (s : Str) (hn : n ≤ 900) (hG : ∀ HE, Same H1 HE → G HE)
    (hs : ∀ (k : Nat) (x : V) (HE HE' : Hp) (R : VK), k < n → Same H1 HE → Y k HE x HE' → (∀ HF, Same HE HF → R (.str s) HF) → g x (wipe σ vs) HE' fun σ2 H2 => wipe σ2 vs = wipe σ vs ∧ te σ2 H2 R)
    {Qd : Addr → Hp → Prop} (hd : ∀ D H2, Same H1 H2 → H2 D = some (.lst (List.replicate n (V.str s))) → Qd D H2) : tLc (fun _ H2 R => R J H2) g tYes te vs σ H1 (refQ Qd) := by
  intro D nD
  have e1 := same_new (o := HO.lst []) nD
  refine lc_it w (fun k HE => Same H1 HE ∧ HE D = some (.lst (List.replicate k (V.str s)))) ⟨e1, upd_same⟩ ?_ ?_ ?_
  · rintro i HE _ ⟨sE, _⟩
    exact hG HE sE
  · rintro k x HE HE' hk ⟨sE, hE⟩ hY
    refine hs k x HE HE' _ hk sE hY fun HF sF => ?_
    refine ⟨_, sF _ _ hE, by rw [List.length_replicate]; exact small1000 (by omega), ?_, ?_⟩
    · intro b2 o hb2
      rw [upd_ne (ne_of_none hb2 nD)]
      exact (sE.trans sF) _ _ hb2
    · rw [upd_same, List.replicate_succ']
  · rintro HE ⟨sE, hE⟩
    exact hd D HE sE hE
end

end Fp

set_option Elab.async false
set_option linter.all false
set_option maxRecDepth 100000
set_option maxHeartbeats 4000000
set_option exponentiation.threshold 10000
namespace Fp
open PySem PySem.Spec PyProof.Rows L2
/-! ### ways, one behind the other: numbers -/
abbrev Wit := Nat × Nat × Rat
def witS (mv : List Mv) (b k : Nat) (left : List Wit) : Rat := (left.map fun x => if x.2.1 ≤ b then x.2.2 * prQ mv x.1 none (b - x.2.1) k else 0).sum
def witM (beats : Nat) (left : List Wit) : Nat := (left.map fun x => 25 ^ (beats - x.2.1)).sum
def witK (beats bt : Nat) (ch : Rat) (ts : List Tri) : List Wit := (ts.filter fun t => decide (bt + t.1 ≤ beats)).map fun t => (t.2.1, bt + t.1, ch * qv t.2.2)
theorem witS_app (mv : List Mv) (b k : Nat) (xs ys : List Wit) : witS mv b k (xs ++ ys) = witS mv b k xs + witS mv b k ys := by
  unfold witS
  rw [List.map_append, List.sum_append]
theorem wit_step {ks : List (List Tri)} (hs : ∀ y ∈ movesFrom 0 ks, 1 ≤ y.2.1) {kd : Nat} {ts : List Tri} (h : ks[kd]? = some ts) (ht : ∀ t ∈ ts, 1 ≤ t.1) {beats b : Nat} (hb : b ≤ beats) (bt k : Nat) (ch : Rat) :
    witS (movesFrom 0 ks) b k [(kd, bt, ch)] = (if b = bt ∧ k = kd then ch else 0) + witS (movesFrom 0 ks) b k (witK beats bt ch ts) := by
  have e1 : witS (movesFrom 0 ks) b k (witK beats bt ch ts) = (ts.map fun t => if bt + t.1 ≤ b then ch * qv t.2.2 * prQ (movesFrom 0 ks) t.2.1 none (b - (bt + t.1)) k else 0).sum := by
    unfold witS witK
    rw [List.map_map, sum_filt]
    refine sumL_congr fun t _ => ?_
    show (if decide (bt + t.1 ≤ beats) = true then (if bt + t.1 ≤ b then ch * qv t.2.2 * prQ (movesFrom 0 ks) t.2.1 none (b - (bt + t.1)) k else 0) else 0) = _
    by_cases z : bt + t.1 ≤ b
    · rw [if_pos (decide_eq_true (by omega)), if_pos z]
    · rw [if_neg z]
      split <;> rfl
  have e2 : witS (movesFrom 0 ks) b k [(kd, bt, ch)] = if bt ≤ b then ch * prQ (movesFrom 0 ks) kd none (b - bt) k else 0 := by
    show (if bt ≤ b then ch * prQ (movesFrom 0 ks) kd none (b - bt) k else 0) + 0 = _
    grind
  rw [e1, e2]
  by_cases z : bt ≤ b
  · rw [if_pos z, back_all hs h ht, Rat.mul_add, mul_sumL]
    congr 1
    · by_cases u : b = bt ∧ k = kd
      · rw [if_pos ⟨by omega, u.2⟩, if_pos u]
        grind
      · rw [if_neg fun v => u ⟨by omega, v.2⟩, if_neg u]
        grind
    · refine sumL_congr fun t _ => ?_
      by_cases u : t.1 ≤ b - bt
      · rw [if_pos u, if_pos (by omega), show b - bt - t.1 = b - (bt + t.1) by omega]
        grind
      · rw [if_neg u, if_neg (by omega)]
        grind
  · rw [if_neg z, if_neg fun u => z (by omega), sumL_congr (g := fun _ => 0) fun t _ => if_neg (by omega), sumL_nought]
    grind
theorem witM_app (beats : Nat) (xs ys : List Wit) : witM beats (xs ++ ys) = witM beats xs + witM beats ys := by
  unfold witM
  rw [List.map_append, List.sum_append]
theorem witM_len (beats : Nat) : ∀ xs : List Wit, xs.length ≤ witM beats xs
  | [] => Nat.le_refl _
  | x :: r => by
    have ih := witM_len beats r
    have : 0 < 25 ^ (beats - x.2.1) := Nat.pow_pos (by decide)
    show r.length + 1 ≤ 25 ^ (beats - x.2.1) + witM beats r
    omega
theorem witM_kids {beats bt : Nat} {ch : Rat} (hb : bt ≤ beats) : ∀ {ts : List Tri}, (∀ t ∈ ts, 1 ≤ t.1) → 25 * witM beats (witK beats bt ch ts) ≤ ts.length * 25 ^ (beats - bt)
  | [], _ => Nat.zero_le _
  | t :: r, h => by
    have ih := witM_kids (ch := ch) hb (ts := r) fun u hu => h u (List.mem_cons_of_mem _ hu)
    have h1 := h t (List.mem_cons_self ..)
    have e : witM beats (witK beats bt ch (t :: r)) = (if bt + t.1 ≤ beats then 25 ^ (beats - (bt + t.1)) else 0) + witM beats (witK beats bt ch r) := by
      unfold witM witK
      by_cases z : bt + t.1 ≤ beats
      · rw [List.filter_cons_of_pos (p := fun t : Tri => decide (bt + t.1 ≤ beats)) (decide_eq_true z), if_pos z]
        rfl
      · rw [List.filter_cons_of_neg (by simpa using z), if_neg z, Nat.zero_add]
    rw [e, List.length_cons, Nat.mul_add, Nat.add_mul, Nat.one_mul, Nat.add_comm (r.length * _)]
    refine Nat.add_le_add ?_ ih
    by_cases z : bt + t.1 ≤ beats
    · rw [if_pos z, Nat.mul_comm, ← Nat.pow_succ]
      exact Nat.pow_le_pow_right (by decide) (by omega)
    · rw [if_neg z]
      exact Nat.zero_le _
theorem witM_less {beats bt : Nat} {ch : Rat} (hb : bt ≤ beats) {ts : List Tri} (h : ∀ t ∈ ts, 1 ≤ t.1) (hl : ts.length ≤ 24) (kd : Nat) (xs : List Wit) : witM beats (xs ++ witK beats bt ch ts) + 1 ≤ witM beats (xs ++ [(kd, bt, ch)]) := by
  rw [witM_app, witM_app]
  have h1 := witM_kids (ch := ch) hb h
  have h2 : ts.length * 25 ^ (beats - bt) ≤ 24 * 25 ^ (beats - bt) := Nat.mul_le_mul_right _ hl
  have h3 : witM beats [(kd, bt, ch)] = 25 ^ (beats - bt) := rfl
  have h4 : 0 < 25 ^ (beats - bt) := Nat.pow_pos (by decide)
  rw [h3]
  omega
theorem witK_snoc (beats bt : Nat) (ch : Rat) (ts : List Tri) (t : Tri) : witK beats bt ch (ts ++ [t]) = witK beats bt ch ts ++ (if bt + t.1 ≤ beats then [(t.2.1, bt + t.1, ch * qv t.2.2)] else []) := by
  unfold witK
  rw [List.filter_append, List.map_append]
  congr 1
  by_cases z : bt + t.1 ≤ beats
  · rw [if_pos z, List.filter_cons_of_pos (p := fun t : Tri => decide (bt + t.1 ≤ beats)) (decide_eq_true z)]
    rfl
  · rw [if_neg z, List.filter_cons_of_neg (by simpa using z)]
    rfl

end Fp

set_option Elab.async false
set_option linter.all false
set_option maxRecDepth 100000
set_option maxHeartbeats 4000000
set_option exponentiation.threshold 10000
namespace Fp
open PySem PySem.Spec PyProof.Rows L2
/-! ### the law's own ways -/
def WitA (K : PySem.W.Frag) (H : Hp) (p : Addr) (x : Wit) : Prop := ∃ c : Addr, SqT K H p [.int ((x.1 : Nat) : Int), .int ((x.2.1 : Nat) : Int), .ref c] ∧ RAt K H c (rdq x.2.2)
def witD (x : Wit) : PyData := .tuple [.int ((x.1 : Nat) : Int), .int ((x.2.1 : Nat) : Int), ratD (rdq x.2.2)]
section
variable {K : PySem.W.Frag}
theorem witA_stays : Stays K (WitA K) := fun H H' p y e h => by
  obtain ⟨c, h1, h2⟩ := h
  exact ⟨c, e _ _ h1, h2.tk e⟩
theorem witA_dp {H : Hp} (p : Addr) (y : Wit) (h : WitA K H p y) : Dp K H (.ref p) (witD y) := by
  obtain ⟨c, h1, h2⟩ := h
  exact .tup h1 (.cons (.int _) (.cons (.int _) (.cons h2.dp .nil)))
theorem ne_nil_wit {H : Hp} {p q : Addr} {xs : List Wit} {Q : VK} (h1 : OLs (WitA K) H p xs) (h2 : H q = some (.lst [])) (h : Q (.bl (!xs.isEmpty)) H) : rNeD K (.ref p) (.ref q) H Q := by
  obtain ⟨rs, r1, r2⟩ := h1
  refine ⟨_, _, .lst (SqL.of r1) (r2.dp witA_dp), .lst (SqL.of h2) .nil, ?_, rfl, ?_⟩
  · exact shaped_all (k := 2) (by decide) (fun x => ⟨rfl, Nat.le_refl _⟩) xs
  · rw [eqvm_nil]
    exact h
/-- the last of a list of such objects is taken off -/
theorem pop_obs {α : Type} {At : Hp → Addr → α → Prop} (st : Stays K At) {H : Hp} {p : Addr} {xs : List α} {x : α} {Q : VK} (h : OLs At H p (xs ++ [x])) (q : ∀ r H', Tk K H H' → (∀ b, b ≠ p → H' b = H b) → OLs At H' p xs → At H' r x → Q (.ref r) H') : rPop (.ref p) [] H Q := by
  obtain ⟨rs, h1, h2⟩ := h
  have hl := h2.1
  rw [List.length_append] at hl
  have hl1 : [x].length = 1 := rfl
  obtain ⟨r, hr, hx⟩ := h2.get (show (xs ++ [x])[xs.length]? = some x by rw [List.getElem?_append_right (Nat.le_refl _), Nat.sub_self]; rfl)
  have hrl : rs.length - 1 = xs.length := by omega
  refine ⟨p, _, .ref r, rfl, rfl, h1, by rw [List.length_map, List.getElem?_map, hrl, hr]; rfl, ?_⟩
  have tk : Tk K H (upd H p (.lst (rs.map V.ref).dropLast)) := tk_lst h1
  refine q r _ tk (fun b hb => upd_ne hb) ⟨rs.dropLast, by rw [upd_same, List.map_dropLast], ?_⟩ (st _ _ _ _ tk hx)
  refine ⟨by rw [List.length_dropLast]; omega, fun i a y h3 h4 => ?_⟩
  have hi := (List.getElem?_eq_some_iff.mp h4).1
  rw [List.dropLast_eq_take, List.getElem?_take_of_lt (by omega)] at h3
  exact st _ _ _ _ tk (h2.2 i a y h3 (by rw [List.getElem?_append_left hi]; exact h4))
theorem push_obs {α : Type} {At : Hp → Addr → α → Prop} (st : Stays K At) {H : Hp} {p r : Addr} {xs : List α} {x : α} {Q : VK} (h : OLs At H p xs) (hx : At H r x) (hl : xs.length ≤ 16000000) (q : ∀ H', Tk K H H' → (∀ b, b ≠ p → H' b = H b) → OLs At H' p (xs ++ [x]) → Q .non H') : rAppend (.ref p) [.ref r] H Q := by
  obtain ⟨rs, h1, h2⟩ := h
  have hrl := h2.1
  refine ⟨p, _, _, rfl, rfl, h1, by rw [List.length_map, sizeLine_eq]; omega, ?_⟩
  have tk : Tk K H (upd H p (.lst (rs.map V.ref ++ [.ref r]))) := tk_lst h1
  refine q _ tk (fun b hb => upd_ne hb) ⟨rs ++ [r], by rw [upd_same, List.map_append]; rfl, ?_⟩
  exact (h2.append (Obs.one hx)).tk st tk
/-- a comprehension each turn of which gives a new list of ratios, apart from all others -/
theorem lc_lsN {J : It} {n : Nat} {G : Hp → Prop} {Y : Nat → Hp → V → Hp → Prop} (w : Walk J n G Y) {g : TG} {te : TE} {vs : List Nat} {σ : L2.St} {H1 : Hp} (m : Nat) (f : Nat → Nat → Rat) (hn : n ≤ 900) (hG : ∀ HE, Same H1 HE → G HE)
    (hs : ∀ (k : Nat) (x : V) (HE HE' : Hp) (R : VK), k < n → Same H1 HE → Y k HE x HE' → (∀ r HF, Same HE HF → HE r = none → LsM K HF r (mkL m (f k)) → R (.ref r) HF) → g x (wipe σ vs) HE' fun σ2 H2 => wipe σ2 vs = wipe σ vs ∧ te σ2 H2 R)
    {Qd : Addr → Hp → Prop} (hd : ∀ D H2 (fs : List Addr), H1 D = none → Same H1 H2 → H2 D = some (.lst (fs.map V.ref)) → fs.length = n → (∀ i r, fs[i]? = some r → r ≠ D ∧ H1 r = none ∧ LsM K H2 r (mkL m (f i))) → (∀ (i j : Nat) r, fs[i]? = some r → fs[j]? = some r → i = j) → Qd D H2) : tLc (fun _ H2 R => R J H2) g tYes te vs σ H1 (refQ Qd) := by
  intro D nD
  have e1 := same_new (o := HO.lst []) nD
  refine lc_it w (fun k HE => ∃ fs : List Addr, Same H1 HE ∧ HE D = some (.lst (fs.map V.ref)) ∧ fs.length = k ∧ (∀ i r, fs[i]? = some r → r ≠ D ∧ H1 r = none ∧ LsM K HE r (mkL m (f i))) ∧ ∀ (i j : Nat) r, fs[i]? = some r → fs[j]? = some r → i = j) ⟨[], e1, upd_same, rfl, fun i r h => by simp at h, fun i j r h => by simp at h⟩ ?_ ?_ ?_
  · rintro i HE _ ⟨_, sE, _⟩
    exact hG HE sE
  · rintro k x HE HE' hk ⟨fs, sE, hE, hfl, hfs, hnd⟩ hY
    refine hs k x HE HE' _ hk sE hY fun r HF sF nr hr => ?_
    have hE5 := sF _ _ hE
    have hrD : r ≠ D := fun z => by
      rw [z, hE] at nr
      cases nr
    have new : ∀ i a, fs[i]? = some a → a ≠ r := fun i a ha z => by
      obtain ⟨_, _, as, h1, _⟩ := hfs i a ha
      rw [z, nr] at h1
      cases h1
    have stay : ∀ b ys, b ≠ D → LsM K HF b ys → LsM K (upd HF D (.lst (fs.map V.ref ++ [.ref r]))) b ys := fun b ys hb h => by
      obtain ⟨as, h1, h2⟩ := h
      refine ⟨as, ?_, h2.tk (tk_lst hE5)⟩
      rw [upd_ne hb]
      exact h1
    have sel : ∀ i a, (fs ++ [r])[i]? = some a → (i < fs.length ∧ fs[i]? = some a) ∨ (i = fs.length ∧ a = r) := fun i a ha => by
      rcases (by omega : i < fs.length ∨ i = fs.length ∨ fs.length < i) with z | z | z
      · rw [List.getElem?_append_left z] at ha
        exact .inl ⟨z, ha⟩
      · rw [z, List.getElem?_append_right (Nat.le_refl _), Nat.sub_self] at ha
        exact .inr ⟨z, (Option.some.inj ha).symm⟩
      · rw [List.getElem?_append_right (by omega), List.getElem?_eq_none (by simp; omega)] at ha
        cases ha
    refine ⟨_, hE5, by rw [List.length_map, hfl]; exact small1000 (by omega), fs ++ [r], ?_, ?_, by rw [List.length_append, hfl]; rfl, fun i a ha => ?_, fun i j a ha hb => ?_⟩
    · intro b2 o hb2
      rw [upd_ne (ne_of_none hb2 nD)]
      exact (sE.trans sF) _ _ hb2
    · rw [upd_same, List.map_append]
      rfl
    · rcases sel i a ha with ⟨z, h⟩ | ⟨z, rfl⟩
      · obtain ⟨x1, x2, x3⟩ := hfs i a h
        exact ⟨x1, x2, stay a _ x1 (x3.same sF)⟩
      · rw [z, hfl]
        exact ⟨hrD, sE.free nr, stay a _ hrD hr⟩
    · rcases sel i a ha with ⟨z, h⟩ | ⟨z, rfl⟩
      · rcases sel j a hb with ⟨y, h'⟩ | ⟨y, rfl⟩
        · exact hnd i j a h h'
        · exact absurd rfl (new i a h)
      · rcases sel j a hb with ⟨y, h'⟩ | ⟨y, _⟩
        · exact absurd rfl (new j a h')
        · omega
  · rintro HE ⟨fs, sE, hE, hfl, hfs, hnd⟩
    exact hd D HE fs nD sE hE hfl hfs hnd
end
section
variable {P : Program} {w : World} {K : PySem.W.Frag} {mg : Str → Option Value} {base : Heap} {aN aO : Addr}
def spWy (K : PySem.W.Frag) : Sp := fun vs H Q _ => ∃ (p : Addr) (ks : List (List Tri)) (first few : Nat) (P0 : Int), vs = [.ref p, .int (first : Int), .int (few : Int)] ∧ KdsA K H p ks ∧ MvOk P0 ks.length (movesFrom 0 ks) ∧ KW ks ∧ first < ks.length ∧ few ≤ 5 ∧
  ∀ z H', Same H H' → TTA K H' z (prRows ks first few) → Q (.ref z) H'
end

end Fp

set_option Elab.async false
set_option linter.all false
set_option maxRecDepth 100000
set_option maxHeartbeats 4000000
set_option exponentiation.threshold 10000
namespace Fp
open PySem PySem.Spec PyProof.Rows L2
/-! ### coming to a kind for the first time: numbers -/
def fQ (mv : List Mv) (o b i : Nat) : Rat := if b = 0 then 0 else prQ mv i (some o) b o
theorem fQ_zero (mv : List Mv) (o i : Nat) : fQ mv o 0 i = 0 := if_pos rfl
theorem fQ_pos (mv : List Mv) (o i : Nat) {b : Nat} (h : 1 ≤ b) : fQ mv o b i = prQ mv i (some o) b o := if_neg (by omega)
/-- by the first step -/
theorem fQ_step {ks : List (List Tri)} (hs : ∀ y ∈ movesFrom 0 ks, 1 ≤ y.2.1) {i : Nat} {ts : List Tri} (h : ks[i]? = some ts) (ht : ∀ t ∈ ts, 1 ≤ t.1) (o b : Nat) : fQ (movesFrom 0 ks) o b i = (ts.map fun t => if t.1 = b ∧ t.2.1 = o then qv t.2.2 else if t.1 < b ∧ t.2.1 ≠ o then qv t.2.2 * fQ (movesFrom 0 ks) o (b - t.1) t.2.1 else 0).sum := by
  cases b with
  | zero =>
    rw [fQ_zero, sumL_congr (g := fun _ => 0) fun t hm => by
      have := ht t hm
      rw [if_neg (by omega), if_neg (by omega)], sumL_nought]
  | succ n =>
    rw [fQ_pos _ _ _ (by omega), back_k hs h]
    refine sumL_congr fun t hm => ?_
    have h1 := ht t hm
    unfold bk
    rcases (by omega : t.1 = n + 1 ∨ t.1 < n + 1 ∨ n + 1 < t.1) with z | z | z
    · rw [if_pos (by omega), if_pos (by omega)]
      by_cases c : t.2.1 = o
      · rw [if_pos c.symm, if_pos ⟨z, c⟩]
        grind
      · rw [if_neg fun u => c u.symm, if_neg fun u => c u.2, if_neg (by omega)]
        grind
    · rw [if_pos (by omega), if_neg (by omega), if_neg (fun u : t.1 = n + 1 ∧ t.2.1 = o => by omega)]
      by_cases c : t.2.1 = o
      · rw [if_pos (by rw [c]), if_neg fun u => u.2 c]
        grind
      · rw [if_neg fun u => c (Option.some.inj u).symm, if_pos ⟨z, c⟩, fQ_pos _ _ _ (by omega)]
    · rw [if_neg (by omega), if_neg (fun u : t.1 = n + 1 ∧ t.2.1 = o => by omega), if_neg (fun u : t.1 < n + 1 ∧ t.2.1 ≠ o => by omega)]
theorem fQ_sz {P : Int} {m : Nat} {mv : List Mv} (M : MvOk P m mv) (o i : Nat) {b : Nat} (hb : b ≤ 20) : Sz (P ^ 20) 140 (fQ mv o b i) := by
  unfold fQ
  split
  · exact Sz.nought
  · exact pr_sz20 M i (some o) hb o
/-- lists of lowest forms, by their values -/
theorem red_mkL {xs : List RT} (h : ∀ x ∈ xs, Red x) : xs = mkL xs.length fun i => ((xs[i]?).map qv).getD 0 := by
  refine List.ext_getElem (by rw [mkL_len]) fun i g1 g2 => ?_
  have e1 := mkL_at (g := fun i => ((xs[i]?).map qv).getD 0) g1
  rw [List.getElem?_eq_getElem g2] at e1
  rw [Option.some.inj e1, List.getElem?_eq_getElem g1]
  exact red_rdq (h _ (List.getElem_mem g1))
/-! the worklist -/
def fwS (mv : List Mv) (o b : Nat) (left : List Wit) : Rat := (left.map fun x => if x.2.1 < b then x.2.2 * fQ mv o (b - x.2.1) x.1 else 0).sum
def fwK (beats bt o : Nat) (ch : Rat) (ts : List Tri) : List Wit := (ts.filter fun t => decide (bt + t.1 < beats ∧ t.2.1 ≠ o)).map fun t => (t.2.1, bt + t.1, ch * qv t.2.2)
def fwA (bt o b : Nat) (ch : Rat) (ts : List Tri) : Rat := (ts.map fun t => if bt + t.1 = b ∧ t.2.1 = o then ch * qv t.2.2 else 0).sum
theorem fwS_app (mv : List Mv) (o b : Nat) (xs ys : List Wit) : fwS mv o b (xs ++ ys) = fwS mv o b xs + fwS mv o b ys := by
  unfold fwS
  rw [List.map_append, List.sum_append]
theorem fw_step {ks : List (List Tri)} (hs : ∀ y ∈ movesFrom 0 ks, 1 ≤ y.2.1) {kd : Nat} {ts : List Tri} (h : ks[kd]? = some ts) (ht : ∀ t ∈ ts, 1 ≤ t.1) {beats b : Nat} (hb : b ≤ beats) (bt o : Nat) (ch : Rat) :
    fwS (movesFrom 0 ks) o b [(kd, bt, ch)] = fwA bt o b ch ts + fwS (movesFrom 0 ks) o b (fwK beats bt o ch ts) := by
  have e1 : fwS (movesFrom 0 ks) o b (fwK beats bt o ch ts) = (ts.map fun t => if bt + t.1 < b ∧ t.2.1 ≠ o then ch * qv t.2.2 * fQ (movesFrom 0 ks) o (b - (bt + t.1)) t.2.1 else 0).sum := by
    unfold fwS fwK
    rw [List.map_map, sum_filt]
    refine sumL_congr fun t _ => ?_
    show (if decide (bt + t.1 < beats ∧ t.2.1 ≠ o) = true then (if bt + t.1 < b then ch * qv t.2.2 * fQ (movesFrom 0 ks) o (b - (bt + t.1)) t.2.1 else 0) else 0) = _
    by_cases z : bt + t.1 < b ∧ t.2.1 ≠ o
    · rw [if_pos (decide_eq_true ⟨by omega, z.2⟩), if_pos z.1, if_pos z]
    · rw [if_neg z]
      by_cases y : bt + t.1 < b
      · rw [if_neg fun u => z ⟨y, (of_decide_eq_true u).2⟩]
      · rw [if_neg y]
        split <;> rfl
  have e2 : fwS (movesFrom 0 ks) o b [(kd, bt, ch)] = if bt < b then ch * fQ (movesFrom 0 ks) o (b - bt) kd else 0 := by
    show (if bt < b then ch * fQ (movesFrom 0 ks) o (b - bt) kd else 0) + 0 = _
    grind
  rw [e1, e2]
  unfold fwA
  rw [sumL_add]
  by_cases z : bt < b
  · rw [if_pos z, fQ_step hs h ht, mul_sumL]
    refine sumL_congr fun t _ => ?_
    by_cases c : t.2.1 = o
    · by_cases u : t.1 = b - bt
      · rw [if_pos ⟨u, c⟩, if_pos ⟨by omega, c⟩, if_neg fun v => v.2 c]
        grind
      · rw [if_neg fun v => u v.1, if_neg fun v => v.2 c, if_neg (fun v : bt + t.1 = b ∧ t.2.1 = o => by omega), if_neg fun v => v.2 c]
        grind
    · rw [if_neg (fun v : t.1 = b - bt ∧ t.2.1 = o => c v.2), if_neg (fun v : bt + t.1 = b ∧ t.2.1 = o => c v.2)]
      by_cases u : t.1 < b - bt
      · rw [if_pos ⟨u, c⟩, if_pos ⟨by omega, c⟩, show b - bt - t.1 = b - (bt + t.1) by omega]
        grind
      · rw [if_neg (fun v : t.1 < b - bt ∧ t.2.1 ≠ o => u v.1), if_neg (fun v : bt + t.1 < b ∧ t.2.1 ≠ o => by omega)]
        grind
  · rw [if_neg z, sumL_congr (g := fun _ => 0) fun t hm => by
      have := ht t hm
      rw [if_neg (by omega), if_neg (by omega)]
      grind, sumL_nought]
theorem fwK_sub (beats bt o : Nat) (ch : Rat) : ∀ ts : List Tri, witM beats (fwK beats bt o ch ts) ≤ witM beats (witK beats bt ch ts)
  | [] => Nat.le_refl _
  | t :: r => by
    have ih := fwK_sub beats bt o ch r
    have e : witM beats (witK beats bt ch (t :: r)) = (if bt + t.1 ≤ beats then 25 ^ (beats - (bt + t.1)) else 0) + witM beats (witK beats bt ch r) := by
      unfold witM witK
      by_cases z : bt + t.1 ≤ beats
      · rw [List.filter_cons_of_pos (p := fun t : Tri => decide (bt + t.1 ≤ beats)) (decide_eq_true z), if_pos z]
        rfl
      · rw [List.filter_cons_of_neg (by simpa using z), if_neg z, Nat.zero_add]
    have e2 : witM beats (fwK beats bt o ch (t :: r)) = (if bt + t.1 < beats ∧ t.2.1 ≠ o then 25 ^ (beats - (bt + t.1)) else 0) + witM beats (fwK beats bt o ch r) := by
      unfold witM fwK
      by_cases z : bt + t.1 < beats ∧ t.2.1 ≠ o
      · rw [List.filter_cons_of_pos (p := fun t : Tri => decide (bt + t.1 < beats ∧ t.2.1 ≠ o)) (decide_eq_true z), if_pos z]
        rfl
      · rw [List.filter_cons_of_neg (p := fun t : Tri => decide (bt + t.1 < beats ∧ t.2.1 ≠ o)) (fun u => z (of_decide_eq_true u)), if_neg z, Nat.zero_add]
    rw [e, e2]
    refine Nat.add_le_add ?_ ih
    by_cases z : bt + t.1 < beats ∧ t.2.1 ≠ o
    · rw [if_pos z, if_pos (by omega)]
      exact Nat.le_refl _
    · rw [if_neg z]
      exact Nat.zero_le _
theorem fwM_less {beats bt o : Nat} {ch : Rat} (hb : bt ≤ beats) {ts : List Tri} (h : ∀ t ∈ ts, 1 ≤ t.1) (hl : ts.length ≤ 24) (kd : Nat) (xs : List Wit) : witM beats (xs ++ fwK beats bt o ch ts) + 1 ≤ witM beats (xs ++ [(kd, bt, ch)]) := by
  have h1 := witM_less (ch := ch) hb h hl kd xs
  have h2 := fwK_sub beats bt o ch ts
  rw [witM_app] at h1 ⊢
  omega
theorem fwK_snoc (beats bt o : Nat) (ch : Rat) (ts : List Tri) (t : Tri) : fwK beats bt o ch (ts ++ [t]) = fwK beats bt o ch ts ++ (if bt + t.1 < beats ∧ t.2.1 ≠ o then [(t.2.1, bt + t.1, ch * qv t.2.2)] else []) := by
  unfold fwK
  rw [List.filter_append, List.map_append]
  congr 1
  by_cases z : bt + t.1 < beats ∧ t.2.1 ≠ o
  · rw [if_pos z, List.filter_cons_of_pos (p := fun t : Tri => decide (bt + t.1 < beats ∧ t.2.1 ≠ o)) (decide_eq_true z)]
    rfl
  · rw [if_neg z, List.filter_cons_of_neg (p := fun t : Tri => decide (bt + t.1 < beats ∧ t.2.1 ≠ o)) (fun u => z (of_decide_eq_true u))]
    rfl
theorem fwA_snoc (bt o b : Nat) (ch : Rat) (ts : List Tri) (t : Tri) : fwA bt o b ch (ts ++ [t]) = fwA bt o b ch ts + if bt + t.1 = b ∧ t.2.1 = o then ch * qv t.2.2 else 0 := by
  unfold fwA
  rw [List.map_append, List.map_cons, List.map_nil, sum_snoc]

end Fp

set_option Elab.async false
set_option linter.all false
set_option maxRecDepth 100000
set_option maxHeartbeats 4000000
set_option exponentiation.threshold 10000
namespace Fp
open PySem PySem.Spec PyProof.Rows L2
/-! ### the law's own first times -/
section
variable {K : PySem.W.Frag}
theorem lc_obsFN {α β : Type} {At : Hp → Addr → β → Prop} (st : Stays K At) {J : It} {n : Nat} {G : Hp → Prop} {Y : Nat → Hp → V → Hp → Prop} (w : Walk J n G Y) {g : TG} {tt : TT} {te : TE} {vs : List Nat} {σ : L2.St} {H1 : Hp} (xs : List α) (f : α → β) (b : α → Bool) (hx : n = xs.length) (hn : n ≤ 900) (hG : ∀ HE, Same H1 HE → G HE)
    (hs : ∀ (k : Nat) (y : α) (x : V) (HE HE' : Hp) (R : VK) (N : Hp → Prop), xs[k]? = some y → Same H1 HE → Y k HE x HE' → (b y = true → ∀ r HF, Same HE HF → At HF r (f y) → R (.ref r) HF) → (b y = false → ∀ HF, Same HE HF → N HF) → g x (wipe σ vs) HE' fun σ2 H2 => wipe σ2 vs = wipe σ vs ∧ tt σ2 H2 fun bb H3 => if bb = true then te σ2 H3 R else N H3)
    {Qd : Addr → Hp → Prop} (hd : ∀ D H2, H1 D = none → Same H1 H2 → OLs At H2 D ((xs.filter b).map f) → Qd D H2) : tLc (fun _ H2 R => R J H2) g tt te vs σ H1 (refQ Qd) := by
  intro D nD
  have e1 := same_new (o := HO.lst []) nD
  refine lc_it w (fun k HE => Same H1 HE ∧ ∃ rs : List Addr, HE D = some (.lst (rs.map V.ref)) ∧ Obs At HE rs (((xs.take k).filter b).map f)) ⟨e1, [], upd_same, Obs.nil⟩ ?_ ?_ ?_
  · rintro i HE _ ⟨sE, _⟩
    exact hG HE sE
  · rintro k x HE HE' hk ⟨sE, hE⟩ hY
    obtain ⟨y, hy⟩ : ∃ y, xs[k]? = some y := ⟨xs[k], List.getElem?_eq_getElem (by omega)⟩
    have et : (xs.take (k + 1)).filter b = (xs.take k).filter b ++ [y].filter b := by
      rw [List.take_add_one, hy, List.filter_append]
      rfl
    refine hs k y x HE HE' _ _ hy sE hY (fun hb r HF sF hr => ?_) (fun hb HF sF => ?_)
    · obtain ⟨qs, q1, q2⟩ := hE
      have q3 := q2.tk st (Tk.same (K := K) sF)
      have hql := q3.1
      have hfl : ((xs.take k).filter b).length ≤ k := Nat.le_trans (List.length_filter_le _ _) (by rw [List.length_take]; omega)
      rw [List.length_map] at hql
      refine ⟨_, sF _ _ q1, by rw [List.length_map]; exact small1000 (by omega), ?_, ?_⟩
      · intro b2 o hb2
        rw [upd_ne (ne_of_none hb2 nD)]
        exact (sE.trans sF) _ _ hb2
      · refine ⟨qs ++ [r], ?_, ?_⟩
        · rw [upd_same, List.map_append]
          rfl
        · rw [et, List.filter_cons_of_pos hb, List.map_append]
          have tk : Tk K HF (upd HF D (.lst (qs.map V.ref ++ [.ref r]))) := tk_lst (sF _ _ q1)
          exact (q3.append (Obs.one hr)).tk st tk
    · obtain ⟨qs, q1, q2⟩ := hE
      refine ⟨sE.trans sF, qs, sF _ _ q1, ?_⟩
      rw [et, List.filter_cons_of_neg (by rw [hb]; decide), List.filter_nil, List.append_nil]
      exact q2.tk st (Tk.same sF)
  · rintro HE ⟨sE, hE⟩
    rw [List.take_of_length_le (by omega)] at hE
    exact hd D HE nD sE hE
theorem ols_ls {H : Hp} {p : Addr} {xs : List RT} (h : OLs (fun H p x => RAt K H p x) H p xs) : LsM K H p xs := by
  obtain ⟨rs, h1, h2⟩ := h
  exact ⟨rs, h1, obs_rs h2⟩
end
abbrev s_fr6 : Stmt := topS 20
abbrev N_fr6 : List Str := ["_law_kinds_here", "_law_other", "_law_beats", "_law_rows", "_law_beat", "_law_row", "_law_triples", "_law_here", "_law_stretch", "_law_following_here", "_law_own", "_law_first"]
theorem sc_fr6 : FnScope N_fr6 ["_law_kinds_here", "_law_other", "_law_beats"] (defScope s_fr6) := ⟨rfl, rfl, rfl, by decide +kernel, rfl, by decide +kernel, by decide +kernel⟩
def scp0_fr6 (b : List Stmt) (d : Scope) : Scope := match b with
  | (_ :: _ :: (.Return (some (.ListComp _ _ sc _)) _) :: _) => sc
  | _ => d
section
variable {P : Program} {w : World} {K : PySem.W.Frag} {mg : Str → Option Value} {base : Heap} {aN aO : Addr}
def spFr6 (K : PySem.W.Frag) : Sp := fun vs H Q _ => ∃ (p : Addr) (ks : List (List Tri)) (o beats : Nat) (P0 : Int), vs = [.ref p, .int (o : Int), .int (beats : Int)] ∧ KdsA K H p ks ∧ MvOk P0 ks.length (movesFrom 0 ks) ∧ KW ks ∧ beats ≤ 20 ∧
  ∀ z H', Same H H' → OLs (fun H p xs => RowAt K H p xs) H' z ((List.range ks.length).map fun f => mkL beats fun n => fQ (movesFrom 0 ks) o (n + 1) f) → Q (.ref z) H'
theorem ok_fr6 {f fLT fLAL : Addr} {fd fdLT fdLAL : FuncData} (F : Fun K "_law_firsts" "_law_firsts" s_fr6 f fd)
    (FLT : Fun K "_law_by" "_law_by" s_lby fLT fdLT) (bLT : Binds K fdLT ["_law_one", "_law_other"] []) (gLT : mg "_law_by" = some (.ref fLT)) (GLT : FnOk P w K mg base CX0 2 fLT fdLT ["_law_one", "_law_other"] (spTwo K (fun a b c d => a * c)))
    (FLAL : Fun K "_law_all" "_law_all" s_lall fLAL fdLAL) (bLAL : Binds K fdLAL ["_law_numbers"] []) (gLAL : mg "_law_all" = some (.ref fLAL)) (GLAL : FnOk P w K mg base CX0 3 fLAL fdLAL ["_law_numbers"] (spLall K))
    (n_len : mg "len" = none) (n_range : mg "range" = none) (n_tuple : mg "tuple" = none) : FnOk P w K mg base CX0 4 f fd ["_law_kinds_here", "_law_other", "_law_beats"] (spFr6 K) := by
  refine F.ok sc_fr6 (fun vs H Q E h => ?_) (fun cdv A outer s H vs Q E hr h => ?_)
  · obtain ⟨_, _, _, _, _, rfl, _⟩ := h
    rfl
  · obtain ⟨p, ks, o, beats, P0, rfl, hk, M, hkw, hb, q⟩ := h
    refine ⟨_, (pss_cons (ps_set (i := 3) sc_fr6.nd rfl (.inr rfl) (pe_lst (pa_cons (pe_op op_rep (pe_lst (pa_cons (pe_tup (pa_cons pe_int (pa_cons pe_int pa_nil))) pa_nil)) (pe_callB call_len_seq (by rfl) n_len PySem.boot_len (pa_cons (pv 0) pa_nil))) pa_nil)))
      (pss_cons (ps_for PassesOwn.never rfl (pi_range2 (by rfl) n_range (pa_cons pe_int (pa_cons (pe_op op_add (pv 2) pe_int) pa_nil))) (pg_name (i := 4) sc_fr6.nd rfl (.inr rfl)) (pss_cons (ps_set (i := 5) sc_fr6.nd rfl (.inl rfl) (pe_lst pa_nil))
      (pss_cons (ps_for PassesOwn.never rfl (pi_tup (pv 0)) (pg_name (i := 6) sc_fr6.nd rfl (.inl rfl)) (pss_cons (ps_setLc (i := 7) (own := [("_law_stretch", 8), ("_law_following_here", 9), ("_law_own", 10)]) (g := (gTup K 3 (gCons (gName 8) (gCons (gName 9) (gCons (gName 10) gNil))))) (tt := (tAnd (tTest (tOp rEq (tVar 9) (tVar 1))) (tTest (tOp rEq (tVar 8) (tVar 4))))) (te := (tVar 10)) rfl sc_fr6.nd rfl rfl (sw_true rfl rfl rfl (by decide +kernel)) (pi_tup (pv 6)) (blkOk_by (own := [("_law_stretch", 8), ("_law_following_here", 9), ("_law_own", 10)]) (N := N_fr6) (sc := (defScope s_fr6)) (by decide +kernel)) (fun _ _ _ _ _ => (pg_tup rfl (pgs_cons (pg_name (i := 8) sc_fr6.nd rfl (.inl rfl)) (pgs_cons (pg_name (i := 9) sc_fr6.nd rfl (.inl rfl)) (pgs_cons (pg_name (i := 10) sc_fr6.nd rfl (.inl rfl)) pgs_nil))))) (fun _ _ _ _ _ => (pts_one (PW.pt (pw_and (pt_cmpR op_eq (pv 9) (pv 1) (nomark _)) (pw_and1 (pt_cmpR op_eq (pv 8) (pv 4) (nomark _))))))) (fun _ _ _ _ _ => (pv 10)))
      (pss_cons (ps_for PassesOwn.never rfl (pi_tup (pv 6)) (pg_tup rfl (pgs_cons (pg_name (i := 8) sc_fr6.nd rfl (.inl rfl)) (pgs_cons (pg_name (i := 9) sc_fr6.nd rfl (.inl rfl)) (pgs_cons (pg_name (i := 10) sc_fr6.nd rfl (.inl rfl)) pgs_nil)))) (pss_one (ps_if (PW.pt (pw_and (pt_cmpR op_ne (pv 9) (pv 1) (nomark _)) (pw_and1 (pt_cmpR op_lt (pv 8) (pv 4) (nomark _))))) (pss_one (ps_expr (pe_bm PySem.F.plainAttrs_list PySem.F.slot_list_append PySem.F.type_list_append mt_append (pv 7) (pa_cons (pe_call GLT (hr.mono (by decide)) (by rfl) gLT FLT.kp bLT .nil pass0 (pa_cons (pv 10) (pa_cons (pe_ix ix_list (pe_ix ix_list (pv 3) (pe_op op_sub (pv 4) (pv 8)) (fun _ _ => rfl)) (pv 9) (fun _ _ => rfl)) pa_nil))) pa_nil)))) pss_nil)))
      (pss_one (ps_expr (pe_bm PySem.F.plainAttrs_list PySem.F.slot_list_append PySem.F.type_list_append mt_append (pv 5) (pa_cons (pe_call GLAL hr (by rfl) gLAL FLAL.kp bLAL .nil pass0 (pa_cons (pv 7) pa_nil)) pa_nil)))))))
      (pss_one (ps_expr (pe_bm PySem.F.plainAttrs_list PySem.F.slot_list_append PySem.F.type_list_append mt_append (pv 3) (pa_cons (pv 5) pa_nil)))))))
      (pss_one (ps_ret (pe_lc (own := [("_law_first", 11)]) (g := (gName 11)) (tt := tYes) (te := (tCB (rTupOf K) (tCons (tLc (iList K (tSl (rSlL K) (tVar 3) (tPart (tC (.int 1))) tNoPart)) (gName 5) tYes (tOp (rIxL K) (tVar 5) (tVar 11)) [5]) tNil))) rfl sc_fr6.nd (pi_range1 (by rfl) n_range (pa_cons (pe_callB call_len_seq (by rfl) n_len PySem.boot_len (pa_cons (pv 0) pa_nil)) pa_nil)) (blkOk_by (own := [("_law_first", 11)]) (N := N_fr6) (sc := (defScope s_fr6)) (by decide +kernel)) (fun _ _ _ _ _ => (pg_name (i := 11) sc_fr6.nd rfl (.inr rfl))) (fun _ _ _ _ _ => pts_nil) (fun _ _ _ _ _ => (pe_callTy call_tuple_of (by rfl) n_tuple (by decide +kernel) (pa_cons (pe_lc (own := [("_law_row", 5)]) (g := (gName 5)) (tt := tYes) (te := (tOp (rIxL K) (tVar 5) (tVar 11))) rfl sc_fr6.nd (pi_list (pe_slice sl_list (pv 3) (po_some pe_int) po_none)) (blkOk_by (own := [("_law_row", 5)]) (N := N_fr6) (sc := (relS (scp0_fr6 (defBody s_fr6) (defScope s_fr6)) (defScope s_fr6))) (by decide +kernel)) (fun _ _ _ _ _ => (pg_name (i := 5) sc_fr6.nd rfl (.inl rfl))) (fun _ _ _ _ _ => pts_nil) (fun _ _ _ _ _ => (pe_ix ix_list (pv 5) (pv 11) (fun _ _ => rfl)))) pa_nil)))))))), ?_⟩
    obtain ⟨rs, hp1, hp2⟩ := id hk
    have hrl := hp2.1
    obtain ⟨hk4, hkd⟩ := id hkw
    obtain ⟨P20, sP20⟩ := M.p20
    have P21 : 0 < P0 * P0 ^ 20 := Int.mul_pos M.pos P20
    have sP21 : Sm 673 (P0 * P0 ^ 20) := (M.sm.mul sP20).mono (by decide)
    refine ⟨by show 2 ≤ sizeLine; decide, fun c1 nc1 => ?_⟩
    have e1 := same_new (o := HO.tup [.int 0, .int 1]) nc1
    refine ⟨by show 1 ≤ sizeLine; decide, fun b1 nb1 => ?_⟩
    have e2 := same_new (o := HO.lst [.ref c1]) nb1
    refine ⟨_, rfl, p, _, rfl, .inr (sqT_same (e1.trans e2) hp1), ?_⟩
    rw [List.length_map, hrl]
    refine rep_ls2 (K := K) (x := (0, 1)) upd_same (SqT.of (e2 _ _ upd_same)) (by omega) fun r0 H3 s3 nr0 hr0 => ?_
    have er0 : List.replicate ks.length ((0 : Int), (1 : Int)) = mkL ks.length (fQ (movesFrom 0 ks) o 0) := by
      rw [mkL_congr (g' := fun _ => 0) fun i _ => fQ_zero _ _ _]
      unfold mkL
      show _ = List.map (fun _ => rdq 0) _
      rw [rdq_zero.mpr rfl, List.map_const', List.length_range]
    rw [er0] at hr0
    refine tnil_go ?_
    refine ⟨by show 1 ≤ sizeLine; decide, fun ro nro => ?_⟩
    have e4 := same_new (o := HO.lst [.ref r0]) nro
    have E4 := e1.trans (e2.trans (s3.trans e4))
    have nroH : H ro = none := e1.free (e2.free (s3.free nro))
    have hr0ro : r0 ≠ ro := fun z => by
      obtain ⟨as, a1, _⟩ := hr0
      rw [z, nro] at a1
      cases a1
    refine ⟨_, rfl, _, 1, rfl, rfl, 1, _, rfl, ⟨by decide, by decide, by show -(2 ^ 62) ≤ (beats : Int) + 1; omega, by show (beats : Int) + 1 < 2 ^ 62; omega⟩, ?_⟩
    have en : (((beats : Int) + 1) - 1).toNat = beats := by omega
    refine for_range (lo := 1) (n := (((beats : Int) + 1) - 1).toNat) (fun i σ HB => ∃ (z4 z5 z6 z7 z8 z9 z10 : Option V) (fs : List Addr), σ = [some (.ref p), some (.int (o : Int)), some (.int (beats : Int)), some (.ref ro), z4, z5, z6, z7, z8, z9, z10, none] ∧ Same H HB ∧ HB ro = some (.lst (fs.map V.ref)) ∧ fs.length = i + 1 ∧ ∀ (k : Nat) r, fs[k]? = some r → r ≠ ro ∧ LsM K HB r (mkL ks.length (fQ (movesFrom 0 ks) o k))) ⟨none, none, none, none, none, none, none, [r0], rfl, E4, upd_same, rfl, fun k r h => ?_⟩ ?_ ?_
    · cases k with
      | zero =>
        cases Option.some.inj h
        exact ⟨hr0ro, hr0.same e4⟩
      | succ k => simp at h
    · rintro i σ HB hi ⟨z4, z5, z6, z7, z8, z9, z10, fs, rfl, sB, hB, hfl, hfs⟩
      rw [en] at hi
      refine ⟨by show 0 ≤ sizeLine; decide, fun rw nrw => ?_⟩
      have e5 := same_new (o := HO.lst []) nrw
      refine ⟨_, rfl, p, rfl, ⟨_, sqT_same (sB.trans e5) hp1⟩, ?_⟩
      refine for_tup (K := K) (a := p) (xs := rs.map V.ref) (fun f σ HC => ∃ (z6 z7 z8 z9 z10 : Option V), σ = [some (.ref p), some (.int (o : Int)), some (.int (beats : Int)), some (.ref ro), some (.int (1 + (i : Int))), some (.ref rw), z6, z7, z8, z9, z10, none] ∧ Same HB HC ∧ LsM K HC rw (mkL f (fQ (movesFrom 0 ks) o (i + 1)))) ⟨_, _, _, _, _, rfl, e5, [], upd_same, .nil⟩ ?_ ?_ ?_
      · rintro f σ HC _ ⟨_, _, _, _, _, rfl, sC, _⟩
        exact sqT_same (sB.trans sC) hp1
      · rintro f v σ HC hv ⟨z6, z7, z8, z9, z10, rfl, sC, hC⟩
        have hf4 : f < ks.length := by
          have := (List.getElem?_eq_some_iff.mp hv).1
          rw [List.length_map, hrl] at this
          exact this
        obtain ⟨ts, ets⟩ : ∃ ts, ks[f]? = some ts := ⟨_, List.getElem?_eq_getElem hf4⟩
        obtain ⟨pk, epk, qs, hq1, hq2⟩ := hp2.get ets
        rw [List.getElem?_map, epk] at hv
        cases Option.some.inj hv
        have hql := hq2.1
        have hlen := (hkd ts (List.mem_of_getElem? ets)).len
        have hts1 : ∀ t ∈ ts, 1 ≤ t.1 := fun t ht => (q_sz M ets ht).2.2.1
        have S2 := sB.trans sC
        refine ⟨_, rfl, pk, rfl, ⟨_, sqT_same S2 hq1⟩, ?_⟩
        refine lc_obsFN (K := K) (At := fun H p x => RAt K H p x) ratA_stays (walk_tup (K := K) (a := pk) (xs := qs.map V.ref)) ts (fun t => t.2.2) (fun t => decide (t.1 = i + 1 ∧ t.2.1 = o)) (by rw [List.length_map, hql]) (by rw [List.length_map]; omega) (fun HF sF => sqT_same (S2.trans sF) hq1) (fun j t v HF HF' R2 N2 hj sF hY qr2 qn2 => ?_) (fun he H4 nhe s4 hD => ?_)
        · obtain ⟨rfl, hv⟩ := hY
          obtain ⟨r, er, cc, hr1, hr2⟩ := hq2.get hj
          rw [List.getElem?_map, er] at hv
          cases Option.some.inj hv
          have tkF : Tk K H HF' := Tk.same (K := K) (S2.trans sF)
          refine ⟨r, _, rfl, tkF _ _ hr1, rfl, _, _, rfl, _, _, rfl, _, _, rfl, rfl, rfl, ?_⟩
          refine ⟨_, rfl, _, rfl, rfl, _, rfl, ite2 (fun c1 => ?_) (fun c1 => ?_)⟩
          · have z1 : ((t.2.1 : Nat) : Int) = (o : Int) := V.int.inj (of_decide_eq_true c1)
            refine ⟨_, rfl, _, rfl, rfl, _, rfl, ite2 (fun c2 => ?_) (fun c2 => ?_)⟩
            · have z2 : ((t.1 : Nat) : Int) = 1 + (i : Int) := V.int.inj (of_decide_eq_true c2)
              exact ⟨_, rfl, qr2 (decide_eq_true ⟨by omega, by omega⟩) cc _ (Same.refl _) (hr2.tk tkF)⟩
            · refine qn2 (decide_eq_false fun z => c2 ?_) _ (Same.refl _)
              refine decide_eq_true ?_
              show V.int ((t.1 : Nat) : Int) = V.int (1 + (i : Int))
              rw [z.1, show ((i + 1 : Nat) : Int) = 1 + (i : Int) by omega]
          · refine iteF (qn2 (decide_eq_false fun z => c1 ?_) _ (Same.refl _))
            refine decide_eq_true ?_
            show V.int ((t.2.1 : Nat) : Int) = V.int (o : Int)
            rw [z.2]
        have hhe := ols_ls hD
        have S4 := S2.trans s4
        refine ⟨_, rfl, pk, rfl, ⟨_, sqT_same S4 hq1⟩, ?_⟩
        refine for_tup (K := K) (a := pk) (xs := qs.map V.ref) (fun k σ HD => ∃ (z8 z9 z10 : Option V), σ = [some (.ref p), some (.int (o : Int)), some (.int (beats : Int)), some (.ref ro), some (.int (1 + (i : Int))), some (.ref rw), some (.ref pk), some (.ref he), z8, z9, z10, none] ∧ Same HC HD ∧ LsM K HD he (((ts.filter fun t => decide (t.1 = i + 1 ∧ t.2.1 = o)).map fun t => t.2.2) ++ (((ts.take k).filter fun t => decide (t.1 < i + 1 ∧ t.2.1 ≠ o)).map fun t => rdq (qv t.2.2 * fQ (movesFrom 0 ks) o (i + 1 - t.1) t.2.1)))) ⟨_, _, _, rfl, s4, by rw [List.take_zero]; show LsM K H4 he (_ ++ []); rw [List.append_nil]; exact hhe⟩ ?_ ?_ ?_
        · rintro k σ HD _ ⟨_, _, _, rfl, sD, _⟩
          exact sqT_same (S2.trans sD) hq1
        · rintro k v σ HD hv ⟨z8, z9, z10, rfl, sD, hD2⟩
          have hki : k < ts.length := by
            have := (List.getElem?_eq_some_iff.mp hv).1
            rw [List.length_map, hql] at this
            exact this
          obtain ⟨t, et⟩ : ∃ t, ts[k]? = some t := ⟨_, List.getElem?_eq_getElem hki⟩
          have hmem := List.mem_of_getElem? et
          obtain ⟨r, er, cc, hr1, hr2⟩ := hq2.get et
          rw [List.getElem?_map, er] at hv
          cases Option.some.inj hv
          obtain ⟨qz, hred, t1, tm⟩ := q_sz M ets hmem
          have tkD : Tk K H HD := Tk.same (K := K) (S2.trans sD)
          have hcD := hr2.tk tkD
          rw [red_rdq hred] at hcD
          have eno : ¬ (t.1 < i + 1 ∧ t.2.1 ≠ o) → ((ts.take (k + 1)).filter fun t => decide (t.1 < i + 1 ∧ t.2.1 ≠ o)) = (ts.take k).filter fun t => decide (t.1 < i + 1 ∧ t.2.1 ≠ o) := fun z => by
            rw [List.take_add_one, et]
            show (ts.take k ++ [t]).filter _ = _
            rw [List.filter_append, List.filter_cons_of_neg (p := fun t : Tri => decide (t.1 < i + 1 ∧ t.2.1 ≠ o)) (fun u => z (of_decide_eq_true u)), List.filter_nil, List.append_nil]
          refine ⟨r, _, rfl, tkD _ _ hr1, rfl, _, _, rfl, _, _, rfl, _, _, rfl, rfl, ?_⟩
          refine ⟨_, rfl, _, rfl, rfl, _, rfl, ite2 (fun c1 => ?_) (fun c1 => ?_)⟩
          · have z1 : t.2.1 ≠ o := fun z => by
              rw [z] at c1
              simp at c1
            refine ⟨_, rfl, _, rfl, _, _, rfl, rfl, _, rfl, ite2 (fun c2 => ?_) (fun c2 => ?_)⟩
            · have z2 : t.1 < i + 1 := by
                have z : ((t.1 : Nat) : Int) < 1 + (i : Int) := of_decide_eq_true c2
                omega
              obtain ⟨us, u1, u2⟩ := id hD2
              have hul := u2.length
              rw [List.length_append, List.length_map, List.length_map] at hul
              have hl1 : (ts.filter fun t => decide (t.1 = i + 1 ∧ t.2.1 = o)).length ≤ ts.length := List.length_filter_le _ _
              have hl2 : ((ts.take k).filter fun t => decide (t.1 < i + 1 ∧ t.2.1 ≠ o)).length ≤ ts.length := Nat.le_trans (List.length_filter_le _ _) (by rw [List.length_take]; omega)
              obtain ⟨rr, err⟩ : ∃ rr, fs[i + 1 - t.1]? = some rr := ⟨fs[i + 1 - t.1]'(by omega), List.getElem?_eq_getElem (by omega)⟩
              have hrr := (hfs _ _ err).2
              have sBD := sC.trans sD
              refine ⟨_, rfl, .inl ⟨rfl, _, SqL.of u1⟩, ?_⟩
              refine ⟨_, rfl, _, rfl, _, rfl, _, rfl, _, _, rfl, rfl, ro, _, _, _, rfl, rfl, SqL.of (sBD _ _ hB), at_of (j := i + 1 - t.1) (by show 1 + (i : Int) - ((t.1 : Nat) : Int) = _; omega) (by rw [List.getElem?_map, err]; rfl), ?_⟩
              refine ⟨_, rfl, ?_⟩
              refine (hrr.same sBD).at (m := t.2.1) rfl tm fun x1 hx1 => ?_
              refine tnil_go ?_
              refine times_go hcD hx1 (qz.smr M.pos M.sm (by decide)) ((fQ_sz M o t.2.1 (show i + 1 - t.1 ≤ 20 by omega)).smr P20 sP20 (by decide)) fun x3 H6 s6 hx3 => ?_
              have u6 := s6 _ _ u1
              refine tnil_go ?_
              refine ⟨he, _, _, rfl, rfl, u6, by rw [List.length_map]; exact small1000 (by omega), ?_⟩
              refine ⟨_, _, _, rfl, ?_, ?_⟩
              · intro b7 oo hb7
                rw [upd_ne (ne_of_none hb7 nhe)]
                exact (sD.trans s6) _ _ hb7
              · rw [List.take_add_one, et]
                show LsM K _ he (_ ++ ((ts.take k ++ [t]).filter _).map _)
                rw [List.filter_append, List.filter_cons_of_pos (p := fun t : Tri => decide (t.1 < i + 1 ∧ t.2.1 ≠ o)) (decide_eq_true ⟨z2, z1⟩), List.filter_nil, List.map_append, ← List.append_assoc]
                exact LsM.push u6 (u2.tk (Tk.same s6)) hx3
            · have z2 : ¬ t.1 < i + 1 := fun z => c2 (decide_eq_true (by show ((t.1 : Nat) : Int) < 1 + (i : Int); omega))
              refine ⟨_, _, _, rfl, sD, ?_⟩
              rw [eno fun z => z2 z.1]
              exact hD2
          · have z1 : t.2.1 = o := by
              refine Classical.byContradiction fun z => c1 ?_
              show (!decide (V.int ((t.2.1 : Nat) : Int) = V.int (o : Int))) = true
              rw [Bool.not_eq_true']
              exact decide_eq_false fun u => z (by have := V.int.inj u; omega)
            refine iteF ⟨_, _, _, rfl, sD, ?_⟩
            rw [eno fun z => z.2 z1]
            exact hD2
        · rintro σ HD ⟨z8, z9, z10, rfl, sD, hD2⟩
          rw [List.length_map, hql, List.take_of_length_le (Nat.le_refl _)] at hD2
          generalize hxs : ((ts.filter fun t => decide (t.1 = i + 1 ∧ t.2.1 = o)).map fun t => t.2.2) ++ ((ts.filter fun t => decide (t.1 < i + 1 ∧ t.2.1 ≠ o)).map fun t => rdq (qv t.2.2 * fQ (movesFrom 0 ks) o (i + 1 - t.1) t.2.1)) = xs at hD2
          have hxl : xs.length ≤ 48 := by
            rw [← hxs, List.length_append, List.length_map, List.length_map]
            have hl1 : (ts.filter fun t => decide (t.1 = i + 1 ∧ t.2.1 = o)).length ≤ ts.length := List.length_filter_le _ _
            have hl2 : (ts.filter fun t => decide (t.1 < i + 1 ∧ t.2.1 ≠ o)).length ≤ ts.length := List.length_filter_le _ _
            omega
          have hxr : ∀ x ∈ xs, Red x ∧ Sz (P0 * P0 ^ 20) 140 (qv x) := fun x hx => by
            rw [← hxs] at hx
            rcases List.mem_append.mp hx with u | u
            · obtain ⟨t, ht, rfl⟩ := List.mem_map.mp u
              obtain ⟨qz, hred, _, _⟩ := q_sz M ets (List.mem_filter.mp ht).1
              exact ⟨hred, (qz.dvd M.pos P21 (Int.dvd_mul_right ..)).mono (by decide)⟩
            · obtain ⟨t, ht, rfl⟩ := List.mem_map.mp u
              obtain ⟨qz, _, _, _⟩ := q_sz M ets (List.mem_filter.mp ht).1
              refine ⟨rdq_red _, ?_⟩
              rw [qv_rdq]
              have x := qz.mul M.pos P20 (fQ_sz M o t.2.1 (show i + 1 - t.1 ≤ 20 by omega))
              rw [Nat.zero_add] at x
              exact x
          have hsum : (sumTo xs.length fun i => ((xs[i]?).map qv).getD 0) = fQ (movesFrom 0 ks) o (i + 1) f := by
            rw [← sumL_to, ← hxs, List.map_append, List.sum_append, List.map_map, List.map_map, sum_filt, sum_filt, sumL_add, fQ_step M.st ets hts1]
            refine sumL_congr fun t _ => ?_
            show (if decide (t.1 = i + 1 ∧ t.2.1 = o) = true then qv t.2.2 else 0) + (if decide (t.1 < i + 1 ∧ t.2.1 ≠ o) = true then qv (rdq (qv t.2.2 * fQ (movesFrom 0 ks) o (i + 1 - t.1) t.2.1)) else 0) = _
            rw [qv_rdq]
            by_cases c : t.1 = i + 1 ∧ t.2.1 = o
            · rw [if_pos (decide_eq_true c), if_pos c, if_neg fun u => (of_decide_eq_true u).2 c.2]
              grind
            · rw [if_neg fun u => c (of_decide_eq_true u), if_neg c]
              by_cases d : t.1 < i + 1 ∧ t.2.1 ≠ o
              · rw [if_pos (decide_eq_true d), if_pos d]
                grind
              · rw [if_neg fun u => d (of_decide_eq_true u), if_neg d]
                grind
          have hD3 := hD2
          rw [red_mkL fun x hx => (hxr x hx).1] at hD3
          obtain ⟨us, u1, u2⟩ := id (hC.same sD)
          have hul := u2.length
          rw [mkL_len] at hul
          refine ⟨_, rfl, .inl ⟨rfl, _, SqL.of u1⟩, ?_⟩
          refine ⟨_, rfl, he, xs.length, 673, 140, P0 * P0 ^ 20, _, rfl, hD3, P21, sP21, fun j hj => ?_, by omega, by decide, fun x4 H7 s7 hx4 => ?_⟩
          · rw [List.getElem?_eq_getElem hj]
            exact (hxr _ (List.getElem_mem hj)).2
          rw [hsum] at hx4
          refine tnil_go ?_
          have u7 := s7 _ _ u1
          refine ⟨rw, _, _, rfl, rfl, u7, by rw [List.length_map, hul]; exact small1000 (by omega), ?_⟩
          refine ⟨_, _, _, _, _, rfl, ?_, ?_⟩
          · intro b7 oo hb7
            rw [upd_ne (ne_of_none hb7 nrw)]
            exact (sC.trans (sD.trans s7)) _ _ hb7
          · rw [mkL_succ]
            exact LsM.push u7 (u2.tk (Tk.same s7)) hx4
      · rintro σ HC ⟨z6, z7, z8, z9, z10, rfl, sC, hC⟩
        rw [List.length_map, hrl] at hC
        have hBC := sC _ _ hB
        have nrr : rw ≠ ro := fun z => by
          rw [z, hB] at nrw
          cases nrw
        refine ⟨_, rfl, .inl ⟨rfl, _, SqL.of hBC⟩, _, rfl, ro, _, _, rfl, rfl, hBC, by rw [List.length_map]; exact small1000 (by omega), ?_⟩
        have tkR : Tk K HC (upd HC ro (.lst (fs.map V.ref ++ [.ref rw]))) := tk_lst hBC
        have stay : ∀ b ys, b ≠ ro → LsM K HC b ys → LsM K (upd HC ro (.lst (fs.map V.ref ++ [.ref rw]))) b ys := fun b ys hb h => by
          obtain ⟨as, h1, h2⟩ := h
          refine ⟨as, ?_, h2.tk tkR⟩
          rw [upd_ne hb]
          exact h1
        refine ⟨_, _, _, _, _, _, _, fs ++ [rw], rfl, ?_, ?_, by rw [List.length_append, hfl]; rfl, fun k r hk2 => ?_⟩
        · intro b7 oo hb7
          rw [upd_ne (ne_of_none hb7 nroH)]
          exact (sB.trans sC) _ _ hb7
        · rw [upd_same, List.map_append]
          rfl
        · rcases (by omega : k < fs.length ∨ k = fs.length ∨ fs.length < k) with z | z | z
          · rw [List.getElem?_append_left z] at hk2
            obtain ⟨x1, x2⟩ := hfs k r hk2
            exact ⟨x1, stay r _ x1 (x2.same sC)⟩
          · rw [z, List.getElem?_append_right (Nat.le_refl _), Nat.sub_self] at hk2
            cases Option.some.inj hk2
            rw [z, hfl]
            exact ⟨nrr, stay rw _ nrr hC⟩
          · rw [List.getElem?_append_right (by omega), List.getElem?_eq_none (by simp; omega)] at hk2
            cases hk2
    · rintro σ HB ⟨z4, z5, z6, z7, z8, z9, z10, fs, rfl, sB, hB, hfl, hfs⟩
      rw [en] at hfl
      refine ⟨_, rfl, p, _, rfl, .inr (sqT_same sB hp1), ?_⟩
      refine tnil_go ?_
      rw [List.length_map, hrl]
      refine ⟨_, rfl, by omega, by omega, ?_⟩
      have ekl : ((ks.length : Nat) : Int).toNat = ks.length := by omega
      refine lc_obsW (K := K) (At := fun H p xs => RowAt K H p xs) rowA_stays (walk_range (lo := 0) (n := ((ks.length : Nat) : Int).toNat)) ((List.range ks.length).map fun f => mkL beats fun n => fQ (movesFrom 0 ks) o (n + 1) f) (by rw [List.length_map, List.length_range, ekl]) (by omega) (fun _ _ => trivial) (fun f y x HE HE' R hk sE hY qr => ?_) (fun D H10 s10 hD => q D H10 (sB.trans s10) hD)
      obtain ⟨rfl, rfl⟩ := hY
      obtain ⟨hf4, rfl⟩ : f < ks.length ∧ y = mkL beats fun n => fQ (movesFrom 0 ks) o (n + 1) f := by
        have := (List.getElem?_eq_some_iff.mp hk).1
        rw [List.length_map, List.length_range] at this
        rw [List.getElem?_map, List.getElem?_range this] at hk
        exact ⟨this, (Option.some.inj hk).symm⟩
      refine ⟨rfl, _, rfl, ?_⟩
      refine ⟨1, rfl, ?_⟩
      refine noPart_go ?_
      have hBE := sE _ _ hB
      refine ⟨ro, _, rfl, SqL.of hBE, fun b nb => ?_⟩
      rw [cutV_from1] at *
      have e7 := same_new (o := HO.lst ((fs.map V.ref).drop 1)) nb
      refine ⟨b, rfl, ⟨_, SqL.of upd_same⟩, ?_⟩
      refine lc_mkW (K := K) (walk_list (K := K) (a := b) (xs := (fs.map V.ref).drop 1)) (fun n => fQ (movesFrom 0 ks) o (n + 1) f) (by rw [List.length_drop, List.length_map, hfl]; omega) (fun HF sF => SqL.of (sF _ _ upd_same)) (fun n v HF HF' R2 hn sF hY qr2 => ?_) (fun l3 H11 s11 hl3 => ?_)
      · obtain ⟨rfl, hv⟩ := hY
        rw [List.length_drop, List.length_map, hfl] at hn
        rw [List.getElem?_drop, List.getElem?_map] at hv
        obtain ⟨r, er⟩ : ∃ r, fs[1 + n]? = some r := ⟨fs[1 + n]'(by omega), List.getElem?_eq_getElem (by omega)⟩
        rw [er] at hv
        cases Option.some.inj hv
        have hr2 := (hfs (1 + n) r er).2
        rw [Nat.add_comm 1 n] at hr2
        refine ⟨rfl, _, rfl, _, rfl, ?_⟩
        exact (hr2.same (sE.trans (e7.trans sF))).at (m := f) (by show 0 + (f : Int) = _; omega) hf4 fun a ha => qr2 a _ (Same.refl _) ha
      rw [List.length_drop, List.length_map, hfl, Nat.add_sub_cancel] at hl3
      obtain ⟨us, hu1, hu2⟩ := hl3
      refine tnil_go ?_
      refine ⟨l3, _, rfl, .inl ⟨SqL.of hu1, fun t nt => ?_⟩⟩
      have e6 := same_new (o := HO.tup (us.map V.ref)) nt
      exact qr t _ (e7.trans (s11.trans e6)) (RowAt.of_ls hu1 hu2 nt)
end

end Fp

set_option Elab.async false
set_option linter.all false
set_option maxRecDepth 100000
set_option maxHeartbeats 4000000
set_option exponentiation.threshold 10000
namespace Fp
open PySem PySem.Spec PyProof.Rows L2
/-! ### the law's own ways to a kind -/
theorem fwA_sz {P0 : Int} (hP : 0 < P0) {bt o b : Nat} {ch : Rat} (hc : Sz (P0 ^ bt) 0 ch) (hb : b ≤ 5) : ∀ {ts : List Tri}, (∀ t ∈ ts, Sz P0 0 (qv t.2.2) ∧ 1 ≤ t.1) → Ov (P0 ^ 5) (fwA bt o b ch ts) ∧ -((ts.length : Nat) : Rat) ≤ fwA bt o b ch ts ∧ fwA bt o b ch ts ≤ ((ts.length : Nat) : Rat)
  | [], _ => ⟨Ov.zero, by show -((0 : Nat) : Rat) ≤ 0; decide +kernel, by show (0 : Rat) ≤ ((0 : Nat) : Rat); decide +kernel⟩
  | t :: r, h => by
    obtain ⟨i1, i2, i3⟩ := fwA_sz hP hc hb (ts := r) fun u hu => h u (List.mem_cons_of_mem _ hu)
    obtain ⟨hq, h1⟩ := h t (List.mem_cons_self ..)
    have e : fwA bt o b ch (t :: r) = (if bt + t.1 = b ∧ t.2.1 = o then ch * qv t.2.2 else 0) + fwA bt o b ch r := rfl
    have P5 : 0 < P0 ^ 5 := Int.pow_pos hP
    have eN : (((t :: r).length : Nat) : Rat) = ((r.length : Nat) : Rat) + 1 := by
      rw [List.length_cons, Rat.natCast_add]
      rfl
    rw [e, eN]
    by_cases z : bt + t.1 = b ∧ t.2.1 = o
    · have x := hc.mul (Int.pow_pos hP) hP hq
      rw [← Int.pow_succ] at x
      have y := x.dvd (Int.pow_pos hP) P5 (pow_dvd57 P0 (by omega))
      have c1 := y.lo
      have c2 := y.hi
      rw [Nat.zero_add, Rat.pow_zero] at c1 c2
      rw [if_pos z]
      exact ⟨y.ov.add P5 i1, by grind, by grind⟩
    · rw [if_neg z]
      refine ⟨Ov.zero.add P5 i1, by grind, by grind⟩
theorem and_no {c : Bool} {tt : TT} {σ : L2.St} {H : Hp} {A B : Hp → Prop} (hB : B H) (h : c = true → ∀ Q : Bool → Hp → Prop, Q false H → tt σ H Q) : if c = true then tt σ H (fun b H1 => if b = true then A H1 else B H1) else (if false = true then A H else B H) := by
  split
  · rename_i z
    exact h z _ (by rw [if_neg (by decide)]; exact hB)
  · rw [if_neg (by decide)]
    exact hB
theorem nat_le28 {N : Nat} (h : N ≤ 2 ^ 28) : ((N : Nat) : Rat) ≤ (2 : Rat) ^ 28 := by
  have x : ((N : Nat) : Rat) ≤ ((2 ^ 28 : Nat) : Rat) := Rat.natCast_le_natCast.mpr h
  have y : ((2 ^ 28 : Nat) : Rat) = (2 : Rat) ^ 28 := by rw [Rat.natCast_pow]; rfl
  rw [y] at x
  exact x
theorem nat_le_rat {m n : Nat} (h : m ≤ n) : ((m : Nat) : Rat) ≤ ((n : Nat) : Rat) := Rat.natCast_le_natCast.mpr h
abbrev s_fy6 : Stmt := topS 21
abbrev N_fy6 : List Str := ["_law_kinds_here", "_law_first", "_law_other", "_law_beats", "_law_found", "_law_left", "_law_kind", "_law_beat", "_law_chance", "_law_stretch", "_law_following_here", "_law_own"]
theorem sc_fy6 : FnScope N_fy6 ["_law_kinds_here", "_law_first", "_law_other", "_law_beats"] (defScope s_fy6) := ⟨rfl, rfl, rfl, by decide +kernel, rfl, by decide +kernel, by decide +kernel⟩
section
variable {P : Program} {w : World} {K : PySem.W.Frag} {mg : Str → Option Value} {base : Heap} {aN aO : Addr}
def spFy6 (K : PySem.W.Frag) : Sp := fun vs H Q _ => ∃ (p : Addr) (ks : List (List Tri)) (first o few : Nat) (P0 : Int), vs = [.ref p, .int (first : Int), .int (o : Int), .int (few : Int)] ∧ KdsA K H p ks ∧ MvOk P0 ks.length (movesFrom 0 ks) ∧ KW ks ∧ first < ks.length ∧ few ≤ 5 ∧
  ∀ z H', Same H H' → RowAt K H' z (mkL few fun n => fQ (movesFrom 0 ks) o (n + 1) first) → Q (.ref z) H'
theorem ok_fy6 {f fLA2 fLT : Addr} {fd fdLA2 fdLT : FuncData} (F : Fun K "_law_first_ways" "_law_first_ways" s_fy6 f fd)
    (FLA2 : Fun K "_law_add" "_law_add" s_la2 fLA2 fdLA2) (bLA2 : Binds K fdLA2 ["_law_one", "_law_other"] []) (gLA2 : mg "_law_add" = some (.ref fLA2)) (GLA2 : FnOk P w K mg base CX0 2 fLA2 fdLA2 ["_law_one", "_law_other"] (spTwo K (fun a b c d => a * d + c * b)))
    (FLT : Fun K "_law_by" "_law_by" s_lby fLT fdLT) (bLT : Binds K fdLT ["_law_one", "_law_other"] []) (gLT : mg "_law_by" = some (.ref fLT)) (GLT : FnOk P w K mg base CX0 2 fLT fdLT ["_law_one", "_law_other"] (spTwo K (fun a b c d => a * c)))
    (n_tuple : mg "tuple" = none) : FnOk P w K mg base CX0 3 f fd ["_law_kinds_here", "_law_first", "_law_other", "_law_beats"] (spFy6 K) := by
  refine F.ok sc_fy6 (fun vs H Q E h => ?_) (fun cdv A outer s H vs Q E hr h => ?_)
  · obtain ⟨_, _, _, _, _, _, rfl, _⟩ := h
    rfl
  · obtain ⟨p, ks, first, o, few, P0, rfl, hk, M, hkw, hfi, hb, q⟩ := h
    refine ⟨_, (pss_cons (ps_set (i := 4) sc_fy6.nd rfl (.inl rfl) (pe_op op_rep (pe_lst (pa_cons (pe_tup (pa_cons pe_int (pa_cons pe_int pa_nil))) pa_nil)) (pv 3)))
      (pss_cons (ps_set (i := 5) sc_fy6.nd rfl (.inl rfl) (pe_lst (pa_cons (pe_tup (pa_cons (pv 1) (pa_cons pe_int (pa_cons (pe_tup (pa_cons pe_int (pa_cons pe_int pa_nil))) pa_nil)))) pa_nil)))
      (pss_cons (ps_while PassesOwn.never (pt_cmpR (op_neD hr.units) (pv 5) (pe_lst pa_nil) (nomark _)) (pss_cons (ps_asg (pe_bm0 PySem.F.plainAttrs_list PySem.F.slot_list_pop PySem.F.type_list_pop mt_pop (pv 5)) (pg_tup rfl (pgs_cons (pg_name (i := 6) sc_fy6.nd rfl (.inl rfl)) (pgs_cons (pg_name (i := 7) sc_fy6.nd rfl (.inl rfl)) (pgs_cons (pg_name (i := 8) sc_fy6.nd rfl (.inl rfl)) pgs_nil)))))
      (pss_one (ps_for PassesOwn.never rfl (pi_tup (pe_ix ix_tup (pv 0) (pv 6) (fun _ _ => rfl))) (pg_tup rfl (pgs_cons (pg_name (i := 9) sc_fy6.nd rfl (.inl rfl)) (pgs_cons (pg_name (i := 10) sc_fy6.nd rfl (.inl rfl)) (pgs_cons (pg_name (i := 11) sc_fy6.nd rfl (.inl rfl)) pgs_nil)))) (pss_one (ps_if (PW.pt (pw_and (pt_cmpR op_le (pe_op op_add (pv 7) (pv 9)) (pv 3) (nomark _)) (pw_and1 (pt_cmpR op_eq (pv 10) (pv 2) (nomark _))))) (pss_one (ps_asg (pe_call GLA2 hr (by rfl) gLA2 FLA2.kp bLA2 .nil pass0 (pa_cons (pe_ix ix_list (pv 4) (pe_op op_sub (pe_op op_add (pv 7) (pv 9)) pe_int) (fun _ _ => rfl)) (pa_cons (pe_call GLT hr (by rfl) gLT FLT.kp bLT .nil pass0 (pa_cons (pv 8) (pa_cons (pv 11) pa_nil))) pa_nil))) (pg_sub (pv 4) (pe_op op_sub (pe_op op_add (pv 7) (pv 9)) pe_int) set_list))) (pss_one (ps_if (pt_cmpR op_lt (pe_op op_add (pv 7) (pv 9)) (pv 3) (nomark _)) (pss_one (ps_expr (pe_bm PySem.F.plainAttrs_list PySem.F.slot_list_append PySem.F.type_list_append mt_append (pv 5) (pa_cons (pe_tup (pa_cons (pv 10) (pa_cons (pe_op op_add (pv 7) (pv 9)) (pa_cons (pe_call GLT hr (by rfl) gLT FLT.kp bLT .nil pass0 (pa_cons (pv 8) (pa_cons (pv 11) pa_nil))) pa_nil)))) pa_nil)))) pss_nil))))))))
      (pss_one (ps_ret (pe_callTy call_tuple_of (by rfl) n_tuple (by decide +kernel) (pa_cons (pv 4) pa_nil))))))), ?_⟩
    obtain ⟨rs, hp1, hp2⟩ := id hk
    have hrl := hp2.1
    obtain ⟨hk4, hkd⟩ := id hkw
    have P5 : 0 < P0 ^ 5 := Int.pow_pos M.pos
    have sP5 : Sm 161 (P0 ^ 5) := sm_pow M.sm (by decide) 5
    have c25 : (24 : Nat) * 25 ^ 5 + 24 ≤ 2 ^ 28 := by decide
    refine ⟨by show 2 ≤ sizeLine; decide, fun c0 nc0 => ?_⟩
    have e1 := same_new (o := HO.tup [.int 0, .int 1]) nc0
    refine ⟨by show 1 ≤ sizeLine; decide, fun b0 nb0 => ?_⟩
    have e2 := same_new (o := HO.lst [.ref c0]) nb0
    refine ⟨_, rfl, ?_⟩
    refine rep_ls2 (K := K) (x := (0, 1)) upd_same (SqT.of (e2 _ _ upd_same)) (by omega) fun ro H1 s3 nro hro => ?_
    have nroH : H ro = none := e1.free (e2.free nro)
    have s1 := e1.trans (e2.trans s3)
    have er0 : List.replicate few ((0 : Int), (1 : Int)) = mkL few fun _ => 0 := by
      unfold mkL
      show _ = List.map (fun _ => rdq 0) _
      rw [rdq_zero.mpr rfl, List.map_const', List.length_range]
    rw [er0] at hro
    refine ⟨_, rfl, ?_⟩
    refine ⟨by show 2 ≤ sizeLine; decide, fun c1 nc1 => ?_⟩
    have e1 := same_new (o := HO.tup [.int 1, .int 1]) nc1
    refine ⟨by show 3 ≤ sizeLine; decide, fun t1 nt1 => ?_⟩
    have e2 := same_new (o := HO.tup [.int (first : Int), .int 0, .ref c1]) nt1
    refine ⟨by show 1 ≤ sizeLine; decide, fun le nle => ?_⟩
    have e3 := same_new (o := HO.lst [.ref t1]) nle
    have E3 := e1.trans (e2.trans e3)
    have nle1 : H1 le = none := e1.free (e2.free nle)
    have nleH : H le = none := s1.free nle1
    have hrole : ro ≠ le := fun z => by
      obtain ⟨as, a1, _⟩ := hro
      rw [z, nle1] at a1
      cases a1
    have one : rdq 1 = (1, 1) := (is_rdq one_red qv_one).symm
    refine ⟨fun μ σ HB => ∃ (z6 z7 z8 z9 z10 z11 : Option V) (left : List Wit) (R : Nat → Rat) (N : Nat), σ = [some (.ref p), some (.int (first : Int)), some (.int (o : Int)), some (.int (few : Int)), some (.ref ro), some (.ref le), z6, z7, z8, z9, z10, z11] ∧ Same H HB ∧ LsM K HB ro (mkL few R) ∧ OLs (WitA K) HB le left ∧ μ = witM few left ∧ (∀ x ∈ left, x.1 < ks.length ∧ x.2.1 ≤ few ∧ Sz (P0 ^ x.2.1) 0 x.2.2) ∧ (∀ n, n < few → R n + fwS (movesFrom 0 ks) o (n + 1) left = fQ (movesFrom 0 ks) o (n + 1) first) ∧ (∀ n, n < few → Ov (P0 ^ 5) (R n) ∧ -((N : Nat) : Rat) ≤ R n ∧ R n ≤ ((N : Nat) : Rat)) ∧ N + 24 * μ ≤ 24 * 25 ^ 5,
      ⟨25 ^ few, none, none, none, none, none, none, [(first, 0, 1)], fun _ => 0, 0, rfl, s1.trans E3, hro.same E3, ⟨[t1], upd_same, Obs.one ⟨c1, SqT.of (e3 _ _ upd_same), ?_⟩⟩, rfl, fun x hx => ?_, fun n hn => ?_, fun n _ => ⟨Ov.zero, by show -((0 : Nat) : Rat) ≤ 0; decide +kernel, by show (0 : Rat) ≤ ((0 : Nat) : Rat); decide +kernel⟩, ?_⟩, ?_⟩
    · show RAt K _ c1 (rdq 1)
      rw [one]
      exact SqT.of ((e2.trans e3) _ _ upd_same)
    · rw [List.mem_singleton.mp hx]
      exact ⟨hfi, Nat.zero_le _, Sz.one (by rw [Int.pow_zero]; decide)⟩
    · show (0 : Rat) + ((if 0 < n + 1 then 1 * fQ (movesFrom 0 ks) o (n + 1 - 0) first else 0) + 0) = _
      rw [if_pos (by omega), Nat.sub_zero]
      grind
    · have : 25 ^ few ≤ 25 ^ 5 := Nat.pow_le_pow_right (by decide) hb
      omega
    rintro μ σ HB ⟨z6, z7, z8, z9, z10, z11, left, R, N, rfl, sB, hroB, hle, rfl, hval, hinv, hR, hN⟩
    refine ⟨_, rfl, by show 0 ≤ sizeLine; decide, fun b1 n1 => ?_⟩
    have e4 := same_new (o := HO.lst []) n1
    have hle4 := hle.same witA_stays e4
    refine ne_nil_wit hle4 upd_same ?_
    refine ⟨_, rfl, ite2 (fun c => ?_) (fun c => ?_)⟩
    · have hne : left ≠ [] := fun z => by rw [z] at c; cases c
      have ex := List.dropLast_concat_getLast hne
      generalize left.dropLast = stk at ex
      generalize left.getLast hne = y at ex
      subst ex
      obtain ⟨kd, bt, ch⟩ := y
      obtain ⟨hkdm, hbt, chz⟩ := hval (kd, bt, ch) (List.mem_append_right _ (List.mem_singleton.mpr rfl))
      dsimp only at hkdm hbt chz
      obtain ⟨ts, ets⟩ : ∃ ts, ks[kd]? = some ts := ⟨_, List.getElem?_eq_getElem hkdm⟩
      have hlen := (hkd ts (List.mem_of_getElem? ets)).len
      have hts1 : ∀ t ∈ ts, 1 ≤ t.1 := fun t ht => (q_sz M ets ht).2.2.1
      have htsz : ∀ k, ∀ t ∈ ts.take k, Sz P0 0 (qv t.2.2) ∧ 1 ≤ t.1 := fun k t ht => ⟨(q_sz M ets (List.mem_of_mem_take ht)).1, (q_sz M ets (List.mem_of_mem_take ht)).2.2.1⟩
      obtain ⟨pk, epk, qs, hq1, hq2⟩ := hp2.get ets
      have hql := hq2.1
      have hless := fwM_less (o := o) (ch := ch) hbt hts1 hlen kd stk
      have hmlen := witM_len few (stk ++ [(kd, bt, ch)])
      have hbdA : ∀ k n, k ≤ ts.length → n < few → Ov (P0 ^ 5) (R n + fwA bt o (n + 1) ch (ts.take k)) ∧ -(((N + 24 : Nat) : Nat) : Rat) ≤ R n + fwA bt o (n + 1) ch (ts.take k) ∧ R n + fwA bt o (n + 1) ch (ts.take k) ≤ (((N + 24 : Nat) : Nat) : Rat) := fun k n hk2 hn => by
        obtain ⟨o1, o2, o3⟩ := hR n hn
        obtain ⟨a1, a2, a3⟩ := fwA_sz M.pos chz (o := o) (show n + 1 ≤ 5 by omega) (htsz k)
        have l1 : (ts.take k).length ≤ 24 := by rw [List.length_take]; omega
        have l2 := nat_le_rat l1
        have eN : (((N + 24 : Nat) : Nat) : Rat) = ((N : Nat) : Rat) + ((24 : Nat) : Rat) := Rat.natCast_add ..
        rw [eN]
        exact ⟨o1.add P5 a1, by grind, by grind⟩
      refine ⟨fun σ' H' => ∃ (z6 z7 z8 z9 z10 z11 : Option V), σ' = [some (.ref p), some (.int (first : Int)), some (.int (o : Int)), some (.int (few : Int)), some (.ref ro), some (.ref le), z6, z7, z8, z9, z10, z11] ∧ Same H H' ∧ LsM K H' ro (mkL few fun n => R n + fwA bt o (n + 1) ch ts) ∧ OLs (WitA K) H' le (stk ++ fwK few bt o ch ts), fun σ' H' z => ?_, ?_⟩
      · obtain ⟨z6, z7, z8, z9, z10, z11, rfl, g1, g2, g3⟩ := z
        refine ⟨witM few (stk ++ fwK few bt o ch ts), by omega, _, _, _, _, _, _, stk ++ fwK few bt o ch ts, fun n => R n + fwA bt o (n + 1) ch ts, N + 24, rfl, g1, g2, g3, rfl, fun x hx => ?_, fun n hn => ?_, fun n hn => ?_, by omega⟩
        · rcases List.mem_append.mp hx with u | u
          · exact hval x (List.mem_append_left _ u)
          · unfold fwK at u
            obtain ⟨t, ht, rfl⟩ := List.mem_map.mp u
            obtain ⟨ht1, ht2⟩ := List.mem_filter.mp ht
            obtain ⟨qz, _, t1', tm⟩ := q_sz M ets ht1
            have hle2 : bt + t.1 < few := (of_decide_eq_true ht2).1
            refine ⟨tm, Nat.le_of_lt hle2, ?_⟩
            have x := chz.mul (Int.pow_pos M.pos) M.pos qz
            rw [← Int.pow_succ] at x
            exact x.dvd (Int.pow_pos M.pos) (Int.pow_pos M.pos) (pow_dvd57 P0 (by show bt + 1 ≤ bt + t.1; omega))
        · have i1 := hinv n hn
          rw [fwS_app, fw_step M.st ets hts1 (beats := few) (by omega) bt o ch] at i1
          show R n + fwA bt o (n + 1) ch ts + _ = _
          rw [fwS_app]
          grind
        · have := hbdA ts.length n (Nat.le_refl _) hn
          rw [List.take_of_length_le (Nat.le_refl _)] at this
          exact this
      · obtain ⟨las, la1, la2⟩ := id hle4
        refine ⟨_, rfl, .inl ⟨rfl, _, SqL.of la1⟩, ?_⟩
        refine pop_obs witA_stays hle4 fun r H3 t3 u3 h3 hr => ?_
        obtain ⟨cr, hcr1, hcr2⟩ := hr
        refine ⟨r, _, rfl, hcr1, rfl, _, _, rfl, _, _, rfl, _, _, rfl, rfl, ?_⟩
        have tkB : Tk K HB H3 := (Tk.same e4).trans t3
        have hro3 : LsM K H3 ro (mkL few R) := by
          obtain ⟨as, a1, a2⟩ := hroB
          refine ⟨as, ?_, a2.tk tkB⟩
          rw [u3 ro hrole]
          exact e4 _ _ a1
        have s3 : Same H H3 := fun b o hbo => by
          rw [u3 b (ne_of_none hbo nleH)]
          exact e4 _ _ (sB _ _ hbo)
        have cS : Sz (P0 ^ 5) 0 ch := chz.dvd (Int.pow_pos M.pos) P5 (pow_dvd57 P0 (by omega))
        have atk : atI (rs.map V.ref) ((kd : Nat) : Int) = some (.ref pk) := at_of (j := kd) rfl (by rw [List.getElem?_map, epk]; rfl)
        refine ⟨_, rfl, _, rfl, p, _, _, _, rfl, rfl, sqT_same s3 hp1, atk, pk, rfl, ⟨_, sqT_same s3 hq1⟩, ?_⟩
        refine for_tup (K := K) (a := pk) (xs := qs.map V.ref) (fun k σ HC => ∃ (z9 z10 z11 : Option V), σ = [some (.ref p), some (.int (first : Int)), some (.int (o : Int)), some (.int (few : Int)), some (.ref ro), some (.ref le), some (.int ((kd : Nat) : Int)), some (.int ((bt : Nat) : Int)), some (.ref cr), z9, z10, z11] ∧ Same H HC ∧ LsM K HC ro (mkL few fun n => R n + fwA bt o (n + 1) ch (ts.take k)) ∧ OLs (WitA K) HC le (stk ++ fwK few bt o ch (ts.take k)) ∧ RAt K HC cr (rdq ch)) ⟨_, _, _, rfl, s3, ?_, by rw [List.take_zero]; show OLs (WitA K) H3 le (stk ++ []); rw [List.append_nil]; exact h3, hcr2⟩ ?_ ?_ ?_
        · rw [mkL_congr (g' := R) fun n _ => by rw [List.take_zero]; show R n + 0 = _; grind]
          exact hro3
        · rintro k σ HC _ ⟨_, _, _, rfl, sC, _⟩
          exact sqT_same sC hq1
        · rintro k v σ HC hv ⟨z9, z10, z11, rfl, sC, hroC, hleC, hcrC⟩
          have hki : k < ts.length := by
            have := (List.getElem?_eq_some_iff.mp hv).1
            rw [List.length_map, hql] at this
            exact this
          obtain ⟨t, et⟩ : ∃ t, ts[k]? = some t := ⟨_, List.getElem?_eq_getElem hki⟩
          have hmem := List.mem_of_getElem? et
          obtain ⟨tr, etr, cc, hr1, hr2⟩ := hq2.get et
          rw [List.getElem?_map, etr] at hv
          cases Option.some.inj hv
          obtain ⟨qz, hred, t1', tm⟩ := q_sz M ets hmem
          have tkC : Tk K H HC := Tk.same (K := K) sC
          have hcC := hr2.tk tkC
          rw [red_rdq hred] at hcC
          have etk : ts.take (k + 1) = ts.take k ++ [t] := by
            rw [List.take_add_one, et]
            rfl
          have keepR : ¬ (bt + t.1 ≤ few ∧ t.2.1 = o) → ∀ HH, LsM K HH ro (mkL few fun n => R n + fwA bt o (n + 1) ch (ts.take k)) → LsM K HH ro (mkL few fun n => R n + fwA bt o (n + 1) ch (ts.take (k + 1))) := fun z HH h => by
            rw [mkL_congr (g' := fun n => R n + fwA bt o (n + 1) ch (ts.take k)) fun n hn => by
              rw [etk, fwA_snoc, if_neg fun u => z ⟨by omega, u.2⟩]
              grind]
            exact h
          have keepK : ¬ (bt + t.1 < few ∧ t.2.1 ≠ o) → fwK few bt o ch (ts.take (k + 1)) = fwK few bt o ch (ts.take k) := fun z => by
            rw [etk, fwK_snoc, if_neg z, List.append_nil]
          refine ⟨tr, _, rfl, tkC _ _ hr1, rfl, _, _, rfl, _, _, rfl, _, _, rfl, rfl, ?_⟩
          have esum : ((bt : Nat) : Int) + ((t.1 : Nat) : Int) = ((bt + t.1 : Nat) : Int) := by omega
          refine ⟨_, rfl, _, rfl, _, _, rfl, rfl, _, rfl, _, _, rfl, rfl, _, rfl, ?_⟩
          by_cases both : bt + t.1 ≤ few ∧ t.2.1 = o
          · refine ite2 (fun c1 => ?_) (fun c1 => absurd (decide_eq_true (show ((bt : Nat) : Int) + ((t.1 : Nat) : Int) ≤ (few : Int) by omega)) c1)
            refine ⟨_, rfl, _, rfl, rfl, _, rfl, ite2 (fun c2 => ?_) (fun c2 => absurd (decide_eq_true (show V.int ((t.2.1 : Nat) : Int) = V.int (o : Int) by rw [both.2])) c2)⟩
            obtain ⟨m, hm⟩ : ∃ m, bt + t.1 = m + 1 := ⟨bt + t.1 - 1, by omega⟩
            have hmf : m < few := by omega
            have eix : ((bt : Nat) : Int) + ((t.1 : Nat) : Int) - 1 = ((m : Nat) : Int) := by omega
            refine ⟨_, rfl, _, rfl, _, rfl, _, _, rfl, rfl, _, _, rfl, rfl, ?_⟩
            refine hroC.at (m := m) eix hmf fun x1 hx1 => ?_
            refine ⟨_, rfl, _, rfl, ?_⟩
            refine tnil_go ?_
            refine times_go hcrC hcC (cS.smr P5 sP5 (by decide)) (qz.smr M.pos M.sm (by decide)) fun x3 H6 s6 hx3 => ?_
            refine tnil_go ?_
            obtain ⟨o1, o2, o3⟩ := hbdA k m (Nat.le_of_lt hki) hmf
            have hN28 := nat_le28 (N := N + 24) (by
              have : 24 * 1 ≤ 24 * witM few (stk ++ [(kd, bt, ch)]) := Nat.mul_le_mul_left _ (by omega)
              omega)
            have RS : Sz (P0 ^ 5) 28 (R m + fwA bt o (m + 1) ch (ts.take k)) := ⟨o1, by grind, by grind⟩
            have pS : Sz (P0 ^ 5 * P0) (0 + 0) (ch * qv t.2.2) := cS.mul P5 M.pos qz
            refine plus_go (hx1.tk (Tk.same s6)) hx3 (RS.smr P5 sP5 (by decide)) (pS.smr (Int.mul_pos P5 M.pos) (sP5.mul M.sm) (by decide)) fun x4 H7 s7 hx4 => ?_
            have S67 := s6.trans s7
            refine ⟨_, rfl, _, rfl, _, rfl, _, _, rfl, rfl, _, _, rfl, rfl, ?_⟩
            refine set_ls (K := K) (m := m) (hroC.same S67) hx4 eix (by rw [mkL_len]; exact hmf) fun H8 t8 u8 h8 => ?_
            have tkC8 : Tk K HC H8 := (Tk.same S67).trans t8
            refine ⟨_, _, _, rfl, fun b oo hbo => ?_, ?_, ?_, hcrC.tk tkC8⟩
            · rw [u8 b (ne_of_none hbo nroH)]
              exact S67 _ _ (sC _ _ hbo)
            · rw [mkL_set, mkL_congr (g' := fun n => R n + fwA bt o (n + 1) ch (ts.take (k + 1))) fun n hn => ?_] at h8
              · exact h8
              · rw [etk, fwA_snoc]
                by_cases u : n = m
                · rw [if_pos u, u, if_pos ⟨hm, both.2⟩]
                  grind
                · rw [if_neg u, if_neg (fun v : bt + t.1 = n + 1 ∧ t.2.1 = o => by omega)]
                  grind
            · rw [keepK fun z => z.2 both.2]
              obtain ⟨as, a1, a2⟩ := hleC
              refine ⟨as, ?_, a2.tk witA_stays tkC8⟩
              rw [u8 le (Ne.symm hrole)]
              exact S67 _ _ a1
          · refine and_no ?_ (fun c1 Q2 q2 => ⟨_, rfl, _, rfl, rfl, _, rfl, ?_⟩)
            · refine ⟨_, rfl, _, rfl, _, _, rfl, rfl, _, rfl, _, _, rfl, rfl, _, rfl, ite2 (fun c1 => ?_) (fun c1 => ?_)⟩
              · have hsb : bt + t.1 < few := by
                  have z : ((bt : Nat) : Int) + ((t.1 : Nat) : Int) < (few : Int) := of_decide_eq_true c1
                  omega
                have hno : t.2.1 ≠ o := fun z => both ⟨by omega, z⟩
                obtain ⟨lc, lc1, lc2⟩ := id hleC
                refine ⟨_, rfl, .inl ⟨rfl, _, SqL.of lc1⟩, ?_⟩
                refine ⟨_, rfl, _, rfl, _, rfl, _, _, rfl, rfl, _, rfl, _, rfl, ?_⟩
                refine tnil_go ?_
                refine times_go hcrC hcC (cS.smr P5 sP5 (by decide)) (qz.smr M.pos M.sm (by decide)) fun x3 H6 s6 hx3 => ?_
                refine ⟨by show 3 ≤ sizeLine; decide, fun tp ntp => ?_⟩
                have e7 := same_new (o := HO.tup [.int ((t.2.1 : Nat) : Int), .int (((bt : Nat) : Int) + ((t.1 : Nat) : Int)), .ref x3]) ntp
                have s67 := s6.trans e7
                refine tnil_go ?_
                have hit : WitA K (upd H6 tp (HO.tup [.int ((t.2.1 : Nat) : Int), .int (((bt : Nat) : Int) + ((t.1 : Nat) : Int)), .ref x3])) tp (t.2.1, bt + t.1, ch * qv t.2.2) := ⟨x3, by show SqT K _ tp [.int ((t.2.1 : Nat) : Int), .int ((bt + t.1 : Nat) : Int), .ref x3]; rw [← esum]; exact SqT.of upd_same, hx3.tk (Tk.same e7)⟩
                have hkl : (stk ++ fwK few bt o ch (ts.take k)).length ≤ 16000000 := by
                  have w1 : (fwK few bt o ch (ts.take k)).length ≤ 24 := by
                    unfold fwK
                    rw [List.length_map]
                    exact Nat.le_trans (List.length_filter_le _ _) (by rw [List.length_take]; omega)
                  have w2 : (25 : Nat) ^ 5 ≤ 10000000 := by decide
                  rw [List.length_append] at hmlen ⊢
                  omega
                refine push_obs witA_stays (hleC.same witA_stays s67) hit hkl fun H8 t8 u8 h8 => ?_
                have tkC8 : Tk K HC H8 := (Tk.same s67).trans t8
                refine ⟨_, _, _, rfl, fun b oo hbo => ?_, ?_, ?_, hcrC.tk tkC8⟩
                · rw [u8 b (ne_of_none hbo nleH)]
                  exact s67 _ _ (sC _ _ hbo)
                · refine keepR both _ ?_
                  obtain ⟨as, a1, a2⟩ := hroC
                  refine ⟨as, ?_, a2.tk tkC8⟩
                  rw [u8 ro hrole]
                  exact s67 _ _ a1
                · rw [etk, fwK_snoc, if_pos ⟨hsb, hno⟩, ← List.append_assoc]
                  exact h8
              · have hsb : ¬ bt + t.1 < few := fun z => c1 (decide_eq_true (by show ((bt : Nat) : Int) + ((t.1 : Nat) : Int) < (few : Int); omega))
                refine ⟨_, _, _, rfl, sC, keepR both _ hroC, ?_, hcrC⟩
                rw [keepK fun z => hsb z.1]
                exact hleC
            · have z1 : bt + t.1 ≤ few := by
                have z : ((bt : Nat) : Int) + ((t.1 : Nat) : Int) ≤ (few : Int) := of_decide_eq_true c1
                omega
              have z2 : ¬ V.int ((t.2.1 : Nat) : Int) = V.int (o : Int) := fun z => both ⟨z1, by have := V.int.inj z; omega⟩
              show Q2 (decide (V.int ((t.2.1 : Nat) : Int) = V.int (o : Int))) HC
              rw [decide_eq_false z2]
              exact q2
        · rintro σ HC ⟨z9, z10, z11, rfl, sC, hroC, hleC, hcrC⟩
          rw [List.length_map, hql, List.take_of_length_le (Nat.le_refl _)] at hleC hroC
          exact ⟨_, _, _, _, _, _, rfl, sC, hroC, hleC⟩
    · have hz : left = [] := by
        cases left with
        | nil => rfl
        | cons x r => exact absurd rfl c
      subst hz
      have hroE := hroB.same e4
      rw [mkL_congr (g' := fun n => fQ (movesFrom 0 ks) o (n + 1) first) fun n hn => by
        have := hinv n hn
        rw [show fwS (movesFrom 0 ks) o (n + 1) [] = 0 from rfl] at this
        rw [← this]
        grind] at hroE
      obtain ⟨us, u1, u2⟩ := hroE
      refine ⟨_, rfl, ?_⟩
      refine tnil_go ?_
      refine ⟨ro, _, rfl, .inl ⟨SqL.of u1, fun z nz => ?_⟩⟩
      exact q z _ (sB.trans (e4.trans (same_new nz))) (RowAt.of_ls u1 u2 nz)
end

end Fp

set_option Elab.async false
set_option linter.all false
set_option maxRecDepth 100000
set_option maxHeartbeats 4000000
set_option exponentiation.threshold 10000
namespace Fp
open PySem PySem.Spec PyProof.Rows L2
/-! ### the law's look: first ones are right -/
theorem if_share5 {c : Bool} {tA tB : TE} {σ : L2.St} {H : Hp} {Qc : VK} (R : V → Hp → Prop) (hA : c = true → ∀ Q' : VK, (∀ v H', R v H' → Q' v H') → tA σ H Q') (hB : c ≠ true → ∀ Q' : VK, (∀ v H', R v H' → Q' v H') → tB σ H Q') (h : ∀ v H', R v H' → Qc v H') : if c = true then tA σ H Qc else tB σ H Qc := by
  split
  · rename_i z
    exact hA z Qc h
  · rename_i z
    exact hB z Qc h
theorem fQ_row (mv : List Mv) (o i n : Nat) : (mkL n fun k => prQ mv i (some o) (k + 1) o) = mkL n fun k => fQ mv o (k + 1) i := mkL_congr fun k _ => (fQ_pos mv o i (by omega)).symm
theorem fQ_sh {ks : List (List Tri)} {P0 : Int} (M : MvOk P0 ks.length (movesFrom 0 ks)) {most : Nat} (hm : most ≤ 20) (o first : Nat) : Shows (.tuple (rowD (mkL most fun n => fQ (movesFrom 0 ks) o (n + 1) first))) := mkL_rowD_sh (by omega) fun j hj => (fQ_sz M o first (by omega)).smr M.p20.1 M.p20.2 (by decide)
abbrev s_ri6 : Stmt := topS 23
abbrev N_ri6 : List Str := ["_law_kinds_here", "_law_other", "_law_beats", "_law_due", "_law_few", "_law_first", "_law_triples", "_law_turn"]
theorem sc_ri6 : FnScope N_ri6 ["_law_kinds_here", "_law_other", "_law_beats"] (defScope s_ri6) := ⟨rfl, rfl, rfl, by decide +kernel, rfl, by decide +kernel, by decide +kernel⟩
section
variable {P : Program} {w : World} {K : PySem.W.Frag} {mg : Str → Option Value} {base : Heap} {aN aO : Addr}
def spRi6 (K : PySem.W.Frag) : Sp := fun vs H Q _ => ∃ (p : Addr) (ks : List (List Tri)) (o beats : Nat) (P0 : Int), vs = [.ref p, .int (o : Int), .int (beats : Int)] ∧ KdsA K H p ks ∧ MvOk P0 ks.length (movesFrom 0 ks) ∧ KW ks ∧ 1 ≤ ks.length ∧ o < ks.length ∧ beats ≤ 20 ∧
  ∀ H', Same H H' → Q (.bl true) H'
theorem ok_ri6 {f fFR6 fFI fFY6 : Addr} {fd fdFR6 fdFI fdFY6 : FuncData} (F : Fun K "_law_right" "_law_right" s_ri6 f fd)
    (FFR6 : Fun K "_law_firsts" "_law_firsts" s_fr6 fFR6 fdFR6) (bFR6 : Binds K fdFR6 ["_law_kinds_here", "_law_other", "_law_beats"] []) (gFR6 : mg "_law_firsts" = some (.ref fFR6)) (GFR6 : FnOk P w K mg base CX0 4 fFR6 fdFR6 ["_law_kinds_here", "_law_other", "_law_beats"] (spFr6 K))
    (FFI : Fun K "first_of" "first_of" s_fi fFI fdFI) (bFI : Binds K fdFI ["kinds", "first", "other", "most"] []) (gFI : mg "first_of" = some (.ref fFI)) (GFI : FnOk P w K mg base CX0 4 fFI fdFI ["kinds", "first", "other", "most"] (spFi K))
    (FFY6 : Fun K "_law_first_ways" "_law_first_ways" s_fy6 fFY6 fdFY6) (bFY6 : Binds K fdFY6 ["_law_kinds_here", "_law_first", "_law_other", "_law_beats"] []) (gFY6 : mg "_law_first_ways" = some (.ref fFY6)) (GFY6 : FnOk P w K mg base CX0 3 fFY6 fdFY6 ["_law_kinds_here", "_law_first", "_law_other", "_law_beats"] (spFy6 K))
    (n_len : mg "len" = none) (n_max : mg "max" = none) (n_min : mg "min" = none) (n_range : mg "range" = none) (n_repr : mg "repr" = none) : FnG P w K mg base CX0 5 f fd ["_law_kinds_here", "_law_other", "_law_beats"] (spRi6 K) := by
  refine okG F sc_ri6 (fun vs H Q E h => ?_) (fun cdv A outer s H vs Q E hq hr h => ?_)
  · obtain ⟨_, _, _, _, _, rfl, _⟩ := h
    rfl
  · obtain ⟨p, ks, o, beats, P0, rfl, hk, M, hkw, hk1, ho, hb, q⟩ := h
    refine ⟨_, (pss_cons (ps_set (i := 3) sc_ri6.nd rfl (.inl rfl) (pe_call GFR6 hr (by rfl) gFR6 FFR6.kp bFR6 .nil pass0 (pa_cons (pv 0) (pa_cons (pv 1) (pa_cons (pv 2) pa_nil)))))
      (pss_cons (ps_set (i := 4) sc_ri6.nd rfl (.inl rfl) (pe_callB (call_min2 rfl) (by rfl) n_min (by decide +kernel) (pa_cons (pe_ifExp (pt_cmpR op_lt (pe_callB (cr_max rfl) (by rfl) n_max (by decide +kernel) (pa_cons (pe_lc (own := [("_law_triples", 6)]) (g := (gName 6)) (tt := tYes) (te := (tCB (fun xs H Q => ∃ p ys, xs = [.ref p] ∧ (SqL K H p ys ∨ SqT K H p ys) ∧ Q (.int ys.length) H) (tCons (tVar 6) tNil))) rfl sc_ri6.nd (pi_tup (pv 0)) (blkOk_by (own := [("_law_triples", 6)]) (N := N_ri6) (sc := (defScope s_ri6)) (by decide +kernel)) (fun _ _ _ _ _ => (pg_name (i := 6) sc_ri6.nd rfl (.inl rfl))) (fun _ _ _ _ _ => pts_nil) (fun _ _ _ _ _ => (pe_callB call_len_seq (by rfl) n_len PySem.boot_len (pa_cons (pv 6) pa_nil)))) pa_nil)) pe_int (nomark _)) pe_int pe_int) (pa_cons (pv 2) pa_nil))))
      (pss_cons (ps_for PassesOwn.never rfl (pi_range1 (by rfl) n_range (pa_cons (pe_callB call_len_seq (by rfl) n_len PySem.boot_len (pa_cons (pv 0) pa_nil)) pa_nil)) (pg_name (i := 5) sc_ri6.nd rfl (.inr rfl)) (pss_cons (ps_if (pt_cmpR (op_neD hr.units) (pe_lc (own := [("_law_turn", 7)]) (g := (gName 7)) (tt := tYes) (te := (tCB (fun xs H Q => ∃ a d, xs = [.ref a] ∧ Dp K H (.ref a) d ∧ Shows d ∧ Q (.str d.shown) H) (tCons (tCall (spFi K) [] E0 (tCons (tVar 0) (tCons (tVar 5) (tCons (tVar 1) (tCons (tVar 2) tNil))))) tNil))) rfl sc_ri6.nd (pi_range1 (by rfl) n_range (pa_cons pe_int pa_nil)) (blkOk_by (own := [("_law_turn", 7)]) (N := N_ri6) (sc := (defScope s_ri6)) (by decide +kernel)) (fun _ _ _ _ _ => (pg_name (i := 7) sc_ri6.nd rfl (.inl rfl))) (fun _ _ _ _ _ => pts_nil) (fun _ _ _ _ _ => (pe_callB (call_reprD hq hr) (by rfl) n_repr (by decide +kernel) (pa_cons (pe_call GFI hr (by rfl) gFI FFI.kp bFI .nil pass0 (pa_cons (pv 0) (pa_cons (pv 5) (pa_cons (pv 1) (pa_cons (pv 2) pa_nil))))) pa_nil)))) (pe_op op_rep (pe_lst (pa_cons (pe_callB (call_reprD hq hr) (by rfl) n_repr (by decide +kernel) (pa_cons (pe_ix ix_list (pv 3) (pv 5) (fun _ _ => rfl)) pa_nil)) pa_nil)) pe_int) (nomark _)) (pss_one (ps_ret pe_bl)) pss_nil)
      (pss_one (ps_if (pt_cmpR op_ne (pe_callB (call_reprD hq hr) (by rfl) n_repr (by decide +kernel) (pa_cons (pe_call GFI hr (by rfl) gFI FFI.kp bFI .nil pass0 (pa_cons (pv 0) (pa_cons (pv 5) (pa_cons (pv 1) (pa_cons (pv 4) pa_nil))))) pa_nil)) (pe_callB (call_reprD hq hr) (by rfl) n_repr (by decide +kernel) (pa_cons (pe_call GFY6 (hr.mono (by decide)) (by rfl) gFY6 FFY6.kp bFY6 .nil pass0 (pa_cons (pv 0) (pa_cons (pv 5) (pa_cons (pv 1) (pa_cons (pv 4) pa_nil))))) pa_nil)) (nomark _)) (pss_one (ps_ret pe_bl)) pss_nil))))
      (pss_one (ps_ret pe_bl))))), ?_⟩
    obtain ⟨rs, hp1, hp2⟩ := id hk
    have hrl := hp2.1
    obtain ⟨hk4, hkd⟩ := id hkw
    refine ⟨_, rfl, _, rfl, _, rfl, p, ks, o, beats, P0, rfl, hk, M, hkw, hb, fun z1 H1 s1 hz1 => ?_⟩
    obtain ⟨as, a1, a2⟩ := hz1
    refine ⟨_, rfl, p, rfl, ⟨_, sqT_same s1 hp1⟩, ?_⟩
    refine lc_intW (walk_tup (K := K) (a := p) (xs := rs.map V.ref)) (fun i => ((((ks[i]?.map (·.length)).getD 0 : Nat)) : Int)) (by rw [List.length_map, hrl]; omega) (fun HE sE => sqT_same (s1.trans sE) hp1) (fun i v HE HE' R hi sE hY qr => ?_) (fun b1 H2 s2 hb1 => ?_)
    · obtain ⟨rfl, hv⟩ := hY
      rw [List.length_map, hrl] at hi
      obtain ⟨ts, ets⟩ : ∃ ts, ks[i]? = some ts := ⟨_, List.getElem?_eq_getElem hi⟩
      obtain ⟨pk, epk, qs, hq1, hq2⟩ := hp2.get ets
      rw [List.getElem?_map, epk] at hv
      cases Option.some.inj hv
      refine ⟨rfl, _, rfl, pk, _, rfl, .inr (sqT_same (s1.trans sE) hq1), ?_⟩
      have h9 := qr _ (Same.refl _)
      rw [ets] at h9
      rw [List.length_map, hq2.1]
      exact h9
    rw [List.length_map, hrl] at hb1
    refine tnil_go ?_
    refine ⟨b1, _, rfl, SqL.of hb1, by rw [mkI_len]; omega, fun mx _ _ => ?_⟩
    refine ⟨_, _, rfl, rfl, _, rfl, ?_⟩
    refine if_share5 (fun v HD => ∃ n : Nat, v = .int (n : Int) ∧ n ≤ 5 ∧ HD = H2) (fun c5 Q' hQ => hQ _ _ ⟨5, rfl, by decide, rfl⟩) (fun c5 Q' hQ => hQ _ _ ⟨3, rfl, by decide, rfl⟩) ?_
    rintro v HD ⟨ln, rfl, hln, rfl⟩
    refine ⟨_, rfl, ?_⟩
    refine tnil_go ?_
    refine ⟨_, _, rfl, ?_⟩
    obtain ⟨few, efe, hfe, hfb⟩ : ∃ few : Nat, (if (beats : Int) < (ln : Int) then (beats : Int) else (ln : Int)) = (few : Int) ∧ few ≤ 5 ∧ few ≤ 20 := by
      by_cases z : (beats : Int) < (ln : Int)
      · exact ⟨beats, if_pos z, by omega, by omega⟩
      · exact ⟨ln, if_neg z, hln, by omega⟩
    show gName 4 (V.int (if (beats : Int) < (ln : Int) then (beats : Int) else (ln : Int))) _ HD _
    rw [efe]
    have S2 := s1.trans s2
    refine ⟨_, rfl, p, _, rfl, .inr (sqT_same S2 hp1), ?_⟩
    refine tnil_go ?_
    rw [List.length_map, hrl]
    refine ⟨_, rfl, by omega, by omega, ?_⟩
    refine for_range (lo := 0) (n := ((ks.length : Nat) : Int).toNat) (fun i σ HB => ∃ (z5 : Option V), σ = [some (.ref p), some (.int (o : Int)), some (.int (beats : Int)), some (.ref z1), some (.int (few : Int)), z5, none, none] ∧ Same HD HB) ⟨none, rfl, Same.refl _⟩ ?_ ?_
    · rintro i σ HB hi ⟨z5, rfl, sB⟩
      have hi4 : i < ks.length := by omega
      obtain ⟨ta, eta, hta⟩ := a2.get (show ((List.range ks.length).map fun f => mkL beats fun n => fQ (movesFrom 0 ks) o (n + 1) f)[i]? = some (mkL beats fun n => fQ (movesFrom 0 ks) o (n + 1) i) by rw [List.getElem?_map, List.getElem?_range hi4]; rfl)
      have SB := S2.trans sB
      have sh1 := fQ_sh M hb o i
      have sh2 := fQ_sh M hfb o i
      have er1 := fQ_row (movesFrom 0 ks) o i beats
      have er2 := fQ_row (movesFrom 0 ks) o i few
      refine ⟨2, rfl, by decide, by decide, ?_⟩
      refine lc_txt (walk_range (lo := 0) (n := (2 : Int).toNat)) (PyData.shown (.tuple (rowD (mkL beats fun n => fQ (movesFrom 0 ks) o (n + 1) i)))) (by decide) (fun _ _ => trivial) (fun k v HE HE' R hk2 sE hY qr => ?_) (fun tw H5 s5 htw => ?_)
      · obtain ⟨rfl, rfl⟩ := hY
        refine ⟨rfl, _, rfl, _, rfl, _, rfl, _, rfl, p, ks, i, o, beats, P0, (by show [V.ref p, V.int (0 + (i : Int)), V.int (o : Int), V.int (beats : Int)] = _; rw [Int.zero_add]), kds_tk hk (SB.trans sE), M, by omega, ho, hb, fun z HG sG hz => ?_⟩
        rw [er1] at hz
        exact ⟨z, _, rfl, hz.dp, sh1, qr HG sG⟩
      have s15 := s2.trans (sB.trans s5)
      refine ⟨_, rfl, _, rfl, z1, _, _, _, rfl, rfl, SqL.of (s15 _ _ a1), at_of (j := i) (by show 0 + (i : Int) = _; omega) (by rw [List.getElem?_map, eta]; rfl), ?_⟩
      refine tnil_go ?_
      refine ⟨ta, _, rfl, (RowAt.tk hta (Tk.same s15)).dp, sh1, ?_⟩
      refine ⟨by show 1 ≤ sizeLine; decide, fun b2 n2 => ?_⟩
      have e7 := same_new (o := HO.lst [.str (PyData.shown (.tuple (rowD (mkL beats fun n => fQ (movesFrom 0 ks) o (n + 1) i))))]) n2
      refine ⟨b2, _, _, rfl, rfl, upd_same, by decide, by decide, by show 1 * 2 ≤ sizeLine; decide, fun b3 n3 => ?_⟩
      have e8 := same_new (o := HO.lst (List.replicate (2 : Int).toNat [V.str (PyData.shown (.tuple (rowD (mkL beats fun n => fQ (movesFrom 0 ks) o (n + 1) i))))]).flatten) n3
      refine ne_twice (strOk_row _) (e8 _ _ (e7 _ _ htw)) upd_same ?_
      refine ⟨_, rfl, ?_⟩
      refine iteF ?_
      have S8 := s5.trans (e7.trans e8)
      refine ⟨_, rfl, _, rfl, _, rfl, _, rfl, p, ks, i, o, few, P0, (by show [V.ref p, V.int (0 + (i : Int)), V.int (o : Int), V.int (few : Int)] = _; rw [Int.zero_add]), kds_tk hk (SB.trans S8), M, by omega, ho, hfb, fun z HG sG hz => ?_⟩
      rw [er2] at hz
      refine ⟨z, _, rfl, hz.dp, sh2, ?_⟩
      refine ⟨_, rfl, _, rfl, _, rfl, _, rfl, p, ks, i, o, few, P0, (by show [V.ref p, V.int (0 + (i : Int)), V.int (o : Int), V.int (few : Int)] = _; rw [Int.zero_add]), kds_tk hk (SB.trans (S8.trans sG)), M, hkw, hi4, hfe, fun z9 H9 s9 hz9 => ?_⟩
      refine ⟨z9, _, rfl, hz9.dp, sh2, rfl, _, rfl, ?_⟩
      rw [decide_eq_true rfl]
      exact iteF ⟨_, rfl, sB.trans (S8.trans (sG.trans s9))⟩
    · rintro σ HB ⟨z5, rfl, sB⟩
      exact q _ (S2.trans sB)
end

end Fp

set_option Elab.async false
set_option linter.all false
set_option maxRecDepth 100000
set_option maxHeartbeats 4000000
set_option exponentiation.threshold 10000
namespace Fp
open PySem PySem.Spec PyProof.Rows L2
/-! ### the law: first ones of kinds -/
theorem pick6 {r : Int} (h0 : 0 ≤ r) (h1 : r < 6) : ∃ n : Nat, atI [V.int 0, V.int 1, V.int 5, V.int 7, V.int 12, V.int 20] r = some (.int (n : Int)) ∧ n ≤ 20 := by
  rcases (by omega : r = 0 ∨ r = 1 ∨ r = 2 ∨ r = 3 ∨ r = 4 ∨ r = 5) with rfl | rfl | rfl | rfl | rfl | rfl
  · exact ⟨0, atI_nat (j := 0) rfl, by decide⟩
  · exact ⟨1, atI_nat (j := 1) rfl, by decide⟩
  · exact ⟨5, atI_nat (j := 2) rfl, by decide⟩
  · exact ⟨7, atI_nat (j := 3) rfl, by decide⟩
  · exact ⟨12, atI_nat (j := 4) rfl, by decide⟩
  · exact ⟨20, atI_nat (j := 5) rfl, by decide⟩
section
variable {K : PySem.W.Frag}
/-- a comprehension each turn of which gives one flat value -/
theorem lc_one {J : It} {n : Nat} {G : Hp → Prop} {Y : Nat → Hp → V → Hp → Prop} (w : Walk J n G Y) {g : TG} {te : TE} {vs : List Nat} {σ : L2.St} {H1 : Hp} (s : V) (hn : n ≤ 900) (hG : ∀ HE, Same H1 HE → G HE)
    (hs : ∀ (k : Nat) (x : V) (HE HE' : Hp) (R : VK), k < n → Same H1 HE → Y k HE x HE' → (∀ HF, Same HE HF → R s HF) → g x (wipe σ vs) HE' fun σ2 H2 => wipe σ2 vs = wipe σ vs ∧ te σ2 H2 R)
    {Qd : Addr → Hp → Prop} (hd : ∀ D H2, Same H1 H2 → H2 D = some (.lst (List.replicate n s)) → Qd D H2) : tLc (fun _ H2 R => R J H2) g tYes te vs σ H1 (refQ Qd) := by
  intro D nD
  have e1 := same_new (o := HO.lst []) nD
  refine lc_it w (fun k HE => Same H1 HE ∧ HE D = some (.lst (List.replicate k s))) ⟨e1, upd_same⟩ ?_ ?_ ?_
  · rintro i HE _ ⟨sE, _⟩
    exact hG HE sE
  · rintro k x HE HE' hk ⟨sE, hE⟩ hY
    refine hs k x HE HE' _ hk sE hY fun HF sF => ?_
    refine ⟨_, sF _ _ hE, by rw [List.length_replicate]; exact small1000 (by omega), ?_, ?_⟩
    · intro b2 o hb2
      rw [upd_ne (ne_of_none hb2 nD)]
      exact (sE.trans sF) _ _ hb2
    · rw [upd_same, List.replicate_succ']
  · rintro HE ⟨sE, hE⟩
    exact hd D HE sE hE
theorem no_false {H : Hp} {p : Addr} {n : Nat} {Q : VK} (h : H p = some (.lst (List.replicate n (V.bl true)))) (q : Q (.bl false) H) : rIn K false (.bl false) (.ref p) H Q := by
  refine ⟨p, _, rfl, .inl (SqL.of h), rfl, ?_, ?_⟩
  · rw [List.all_replicate]
    split <;> rfl
  · have e : inV (.bl false) (List.replicate n (V.bl true)) = false := by
      unfold inV
      rw [List.any_replicate]
      split <;> rfl
    rw [if_neg (by decide), e]
    exact q
end
abbrev s_law : Stmt := topS 24
abbrev N_law : List Str := ["_law_script", "_law_feed_here", "_law_k", "_law_size", "_law_kinds_here", "_law_beats", "_law_text", "_law_other"]
theorem sc_law : FnScope N_law ["_law_script"] (defScope s_law) := ⟨rfl, rfl, rfl, by decide +kernel, rfl, by decide +kernel, by decide +kernel⟩
section
variable {P : Program} {w : World} {K : PySem.W.Frag} {mg : Str → Option Value} {base : Heap}
theorem ok_law {f fE fD fKI fRI6 fWK : Addr} {fd fdE fdD fdKI fdRI6 fdWK : FuncData} (F : Fun K "law" "law" s_law f fd)
    (FE : Fun K "_law_feed" "_law_feed" s_feed fE fdE) (bE : Binds K fdE ["_law_script"] []) (gE : mg "_law_feed" = some (.ref fE)) (GE : FnOk P w K mg base CX0 1 fE fdE ["_law_script"] (spFeed K))
    (FD : Fun K "_law_draw" "_law_draw" s_draw fD fdD) (bD : Binds K fdD ["_law_feed_here", "_law_size"] []) (gD : mg "_law_draw" = some (.ref fD)) (GD : FnOk P w K mg base CX0 1 fD fdD ["_law_feed_here", "_law_size"] spDraw)
    (FKI : Fun K "_law_kinds" "_law_kinds" s_ki fKI fdKI) (bKI : Binds K fdKI ["_law_feed_here", "_law_size", "_law_is_full"] []) (gKI : mg "_law_kinds" = some (.ref fKI)) (GKI : FnOk P w K mg base CX0 3 fKI fdKI ["_law_feed_here", "_law_size", "_law_is_full"] (spKi K))
    (FRI6 : Fun K "_law_right" "_law_right" s_ri6 fRI6 fdRI6) (bRI6 : Binds K fdRI6 ["_law_kinds_here", "_law_other", "_law_beats"] []) (gRI6 : mg "_law_right" = some (.ref fRI6)) (GRI6 : FnG P w K mg base CX0 5 fRI6 fdRI6 ["_law_kinds_here", "_law_other", "_law_beats"] (spRi6 K))
    (FWK : Fun K "_law_wide_kinds" "_law_wide_kinds" s_wk fWK fdWK) (bWK : Binds K fdWK ["_law_feed_here"] []) (gWK : mg "_law_wide_kinds" = some (.ref fWK)) (GWK : FnOk P w K mg base CX0 2 fWK fdWK ["_law_feed_here"] (spWk K))
    (n_len : mg "len" = none) (n_min : mg "min" = none) (n_range : mg "range" = none) (n_repr : mg "repr" = none) : FnG P w K mg base CX0 6 f fd ["_law_script"] (spLaw K) := by
  refine okG F sc_law (fun vs H Q E h => ?_) (fun cdv A outer s H vs Q E hq hr h => ?_)
  · obtain ⟨_, _, rfl, _⟩ := h
    rfl
  · obtain ⟨a0, ns, rfl, hS, q⟩ := h
    refine ⟨_, (pss_cons (ps_set (i := 1) sc_law.nd rfl (.inl rfl) (pe_call GE (hr.mono (by decide)) (by rfl) gE FE.kp bE .nil pass0 (pa_cons (pv 0) pa_nil)))
      (pss_cons (ps_for PassesOwn.never rfl (pi_range1 (by rfl) n_range (pa_cons pe_int pa_nil)) (pg_name (i := 2) sc_law.nd rfl (.inl rfl)) (pss_cons (ps_set (i := 3) sc_law.nd rfl (.inl rfl) (pe_op op_add pe_int (pe_call GD (hr.mono (by decide)) (by rfl) gD FD.kp bD .nil pass0 (pa_cons (pv 1) (pa_cons pe_int pa_nil)))))
      (pss_cons (ps_set (i := 4) sc_law.nd rfl (.inr rfl) (pe_call GKI (hr.mono (by decide)) (by rfl) gKI FKI.kp bKI .nil pass0 (pa_cons (pv 1) (pa_cons (pv 3) (pa_cons (pe_cmpR op_eq (pe_call GD (hr.mono (by decide)) (by rfl) gD FD.kp bD .nil pass0 (pa_cons (pv 1) (pa_cons pe_int pa_nil))) pe_int (nomark _)) pa_nil)))))
      (pss_cons (ps_set (i := 5) sc_law.nd rfl (.inr rfl) (pe_callB (call_min2 rfl) (by rfl) n_min (by decide +kernel) (pa_cons (pe_ix ix_list (pe_lst (pa_cons pe_int (pa_cons pe_int (pa_cons pe_int (pa_cons pe_int (pa_cons pe_int (pa_cons pe_int pa_nil))))))) (pe_call GD (hr.mono (by decide)) (by rfl) gD FD.kp bD .nil pass0 (pa_cons (pv 1) (pa_cons pe_int pa_nil))) (fun _ _ => rfl)) (pa_cons (pe_ifExp (pt_cmpR op_eq (pv 3) pe_int (nomark _)) pe_int pe_int) pa_nil))))
      (pss_cons (ps_set (i := 6) sc_law.nd rfl (.inl rfl) (pe_callB (call_reprD hq hr) (by rfl) n_repr (by decide +kernel) (pa_cons (pv 4) pa_nil)))
      (pss_one (ps_if (PW.pt (pw_or (pt_cmpR op_in_seq pe_bl (pe_lc (own := [("_law_other", 7)]) (g := (gName 7)) (tt := tYes) (te := (tCallG (spRi6 K) E0 (tCons (tVar 4) (tCons (tVar 7) (tCons (tVar 5) tNil))))) rfl sc_law.nd (pi_range1 (by rfl) n_range (pa_cons (pv 3) pa_nil)) (blkOk_by (own := [("_law_other", 7)]) (N := N_law) (sc := (defScope s_law)) (by decide +kernel)) (fun _ _ _ _ _ => (pg_name (i := 7) sc_law.nd rfl (.inl rfl))) (fun _ _ _ _ _ => pts_nil) (fun _ _ _ _ _ => (pe_callG GRI6 hq hr (by rfl) gRI6 FRI6.kp bRI6 pass0 (pa_cons (pv 4) (pa_cons (pv 7) (pa_cons (pv 5) pa_nil)))))) rfl) (pw_or1 (pt_cmpR op_ne (pe_callB (call_reprD hq hr) (by rfl) n_repr (by decide +kernel) (pa_cons (pv 4) pa_nil)) (pv 6) (nomark _))))) (pss_one (ps_ret pe_bl)) pss_nil)))))))
      (pss_cons (ps_set (i := 4) sc_law.nd rfl (.inr rfl) (pe_call GWK (hr.mono (by decide)) (by rfl) gWK FWK.kp bWK .nil pass0 (pa_cons (pv 1) pa_nil)))
      (pss_cons (ps_set (i := 6) sc_law.nd rfl (.inl rfl) (pe_callB (call_reprD hq hr) (by rfl) n_repr (by decide +kernel) (pa_cons (pv 4) pa_nil)))
      (pss_cons (ps_if (pt_not (pt_val (pe_callG GRI6 hq hr (by rfl) gRI6 FRI6.kp bRI6 pass0 (pa_cons (pv 4) (pa_cons (pe_call GD (hr.mono (by decide)) (by rfl) gD FD.kp bD .nil pass0 (pa_cons (pv 1) (pa_cons (pe_callB call_len_seq (by rfl) n_len PySem.boot_len (pa_cons (pv 4) pa_nil)) pa_nil))) (pa_cons (pe_call GD (hr.mono (by decide)) (by rfl) gD FD.kp bD .nil pass0 (pa_cons (pv 1) (pa_cons pe_int pa_nil))) pa_nil)))))) (pss_one (ps_ret pe_bl)) pss_nil)
      (pss_one (ps_ret (pe_cmpR op_eq (pe_callB (call_reprD hq hr) (by rfl) n_repr (by decide +kernel) (pa_cons (pv 4) pa_nil)) (pv 6) (nomark _))))))))), ?_⟩
    refine ⟨_, rfl, a0, ns, rfl, hS, fun d c H1 s1 f1 => ?_⟩
    refine ⟨2, rfl, by decide, by decide, ?_⟩
    refine for_range (lo := 0) (n := (2 : Int).toNat) (fun i σ HF => ∃ (z2 z3 z4 z5 z6 : Option V) (t : Int), σ = [some (.ref a0), some (.ref d), z2, z3, z4, z5, z6, none] ∧ Feed HF d c t ∧ t ≤ 100 * (i : Int)) ⟨none, none, none, none, none, 0, rfl, f1, by omega⟩ ?_ ?_
    · rintro i σ HF hi ⟨z2, z3, z4, z5, z6, t, rfl, fF, ht⟩
      have hi3 : i < 2 := hi
      refine ⟨_, rfl, d, c, 4, t, rfl, fF, by omega, by decide, by decide, fun r1 H2 r10 r11 k2 f2 => ?_⟩
      refine ⟨1, r1, rfl, rfl, ?_⟩
      obtain ⟨sz, hsz⟩ : ∃ sz : Nat, (1 : Int) + r1 = (sz : Int) := ⟨(1 + r1).toNat, by omega⟩
      refine ⟨_, rfl, _, rfl, _, rfl, d, c, 2, t + 1, rfl, f2, by omega, by decide, by decide, fun r3 H3 r30 r31 k3 f3 => ?_⟩
      refine ⟨rfl, ?_⟩
      refine tnil_go ?_
      refine ⟨d, c, t + 1 + 1, sz, _, (by show [V.ref d, V.int (1 + r1), V.bl _] = _; rw [hsz]), by omega, by omega, f3, by omega, fun zk kinds t4 H4 k4 f4 ht4 hK hKl hKo => ?_⟩
      have kwk := kds_drawn hKo hKl (by omega)
      obtain ⟨P0, M⟩ := kinds_okW kwk
      obtain ⟨hk4, hkd⟩ := id kwk
      have shK : Shows (kdsD kinds) := (kds_sh hk4 hkd (by omega)).shows (by decide) (by decide)
      refine ⟨by show 6 ≤ sizeLine; decide, fun l1 n1 => ?_⟩
      have e5 := same_new (o := HO.lst [V.int 0, V.int 1, V.int 5, V.int 7, V.int 12, V.int 20]) n1
      refine ⟨_, rfl, d, c, 6, t4, rfl, f4.same e5, by omega, by decide, by decide, fun r6 H6 r60 r61 k6 f6 => ?_⟩
      obtain ⟨bn, ebn, hbn⟩ := pick6 r60 r61
      refine ⟨l1, _, _, _, rfl, rfl, SqL.of (keep_at (f4.same e5) k6 upd_same (fun _ z => nomatch z)), ebn, ?_⟩
      refine ⟨_, rfl, rfl, _, rfl, ?_⟩
      refine if_share5 (fun v HD => ∃ n : Nat, v = .int (n : Int) ∧ HD = H6) (fun c5 Q' hQ => hQ _ _ ⟨12, rfl, rfl⟩) (fun c5 Q' hQ => hQ _ _ ⟨20, rfl, rfl⟩) ?_
      rintro v HD ⟨ln, rfl, rfl⟩
      refine tnil_go ?_
      refine ⟨_, _, rfl, ?_⟩
      obtain ⟨be, ebe, hbe⟩ : ∃ be : Nat, (if (ln : Int) < (bn : Int) then (ln : Int) else (bn : Int)) = (be : Int) ∧ be ≤ 20 := by
        by_cases z : (ln : Int) < (bn : Int)
        · exact ⟨ln, if_pos z, by omega⟩
        · exact ⟨bn, if_neg z, hbn⟩
      show gName 5 (V.int (if (ln : Int) < (bn : Int) then (ln : Int) else (bn : Int))) _ HD _
      rw [ebe]
      have tk6 : Tk K H4 HD := (Tk.same e5).trans (Tk.keep (f4.same e5) k6)
      have hK6 := kdsA_stays _ _ _ _ tk6 hK
      refine ⟨_, rfl, zk, _, rfl, kdsA_dp zk kinds hK6, shK, ?_⟩
      refine ⟨_, rfl, 1 + r1, rfl, by omega, by omega, ?_⟩
      refine lc_one (walk_range (lo := 0) (n := (1 + r1).toNat)) (V.bl true) (by omega) (fun _ _ => trivial) (fun k v HE HE' R hk2 sE hY qr => ?_) (fun tw H5 s5 htw => ?_)
      · obtain ⟨rfl, rfl⟩ := hY
        exact ⟨rfl, _, rfl, _, rfl, _, rfl, zk, kinds, k, be, P0, (by show [V.ref zk, V.int (0 + (k : Int)), V.int (be : Int)] = _; rw [Int.zero_add]), kds_tk hK6 sE, M, kwk, by omega, by omega, hbe, fun HG sG => qr HG sG⟩
      refine no_false htw ?_
      refine ⟨_, rfl, ?_⟩
      refine iteF ?_
      refine ⟨_, rfl, zk, _, rfl, kdsA_dp zk kinds (kds_tk hK6 s5), shK, _, rfl, rfl, _, rfl, ?_⟩
      rw [decide_eq_true rfl]
      exact iteF ⟨_, _, _, _, _, _, rfl, f6.same s5, by omega⟩
    · rintro σ HF ⟨z2, z3, z4, z5, z6, t, rfl, fF, ht⟩
      refine ⟨_, rfl, d, c, t, rfl, fF, by omega, fun zk kinds m t4 H4 k4 f4 ht4 hK hKl hm2 hm4 hKo => ?_⟩
      have kwk : KW kinds := ⟨by omega, fun ts hts => by rw [hKl]; exact hKo ts hts⟩
      obtain ⟨P0, M⟩ := kinds_okW kwk
      obtain ⟨hk4, hkd⟩ := id kwk
      have shK : Shows (kdsD kinds) := (kds_sh hk4 hkd (by omega)).shows (by decide) (by decide)
      refine ⟨_, rfl, zk, _, rfl, kdsA_dp zk kinds hK, shK, ?_⟩
      obtain ⟨rs, hp1, hp2⟩ := id hK
      refine ⟨_, rfl, _, rfl, _, rfl, zk, _, rfl, .inr hp1, ?_⟩
      have el : ((rs.map V.ref).length : Int) = (kinds.length : Int) := by rw [List.length_map, hp2.1]
      refine tnil_go ?_
      refine ⟨d, c, _, t4, rfl, f4, by omega, by omega, by omega, fun r6 H6 r60 r61 k6 f6 => ?_⟩
      obtain ⟨o, rfl⟩ := Int.eq_ofNat_of_zero_le r60
      refine ⟨_, rfl, d, c, 8, t4 + 1, rfl, f6, by omega, by decide, by decide, fun r7 H7 r70 r71 k7 f7 => ?_⟩
      obtain ⟨be, rfl⟩ := Int.eq_ofNat_of_zero_le r70
      have hK7 := kdsA_stays _ _ _ _ ((Tk.keep f4 k6).trans (Tk.keep f6 k7)) hK
      refine tnil_go ?_
      refine ⟨zk, kinds, o, be, P0, rfl, hK7, M, kwk, by omega, by omega, by omega, fun H8 s8 => ?_⟩
      refine ⟨_, rfl, ?_⟩
      refine iteF ?_
      refine ⟨_, rfl, zk, _, rfl, kdsA_dp zk kinds (kds_tk hK7 s8), shK, _, rfl, rfl, ?_⟩
      rw [decide_eq_true rfl]
      exact q _
end

end Fp

set_option Elab.async false
set_option linter.all false
set_option maxRecDepth 100000
set_option maxHeartbeats 4000000
set_option exponentiation.threshold 10000
namespace Fp
open PySem PySem.Spec PyProof.Rows L2
theorem all_mk {l : PySem.W.OpenLaw} {w : World} {K : PySem.W.Frag} {h : Heap} {mg : Str → Option Value} {fa fC fR fOB fFI fPR fE fD fL fLA2 fLT fLAL fFW fKI fFR6 fFY6 fWK fRI6 fZ  : Addr} (X : K.In h) (G : h.Ns mainGlobals mg) (hfa : mg "law" = some (.ref fa))
    {odC anC : Option Addr} {slC : Array (Option Value)} {ocC kVC dcC pmC cdC ctC : Value}
    {odR anR : Option Addr} {slR : Array (Option Value)} {ocR kVR dcR pmR cdR ctR : Value}
    {odOB anOB : Option Addr} {slOB : Array (Option Value)} {ocOB kVOB dcOB pmOB cdOB ctOB : Value}
    {odFI anFI : Option Addr} {slFI : Array (Option Value)} {ocFI kVFI dcFI pmFI cdFI ctFI : Value}
    {odPR anPR : Option Addr} {slPR : Array (Option Value)} {ocPR kVPR dcPR pmPR cdPR ctPR : Value}
    {odE anE : Option Addr} {slE : Array (Option Value)} {ocE kVE dcE pmE cdE ctE : Value}
    {odD anD : Option Addr} {slD : Array (Option Value)} {ocD kVD dcD pmD cdD ctD : Value}
    {odL anL : Option Addr} {slL : Array (Option Value)} {ocL kVL dcL pmL cdL ctL : Value}
    {odLA2 anLA2 : Option Addr} {slLA2 : Array (Option Value)} {ocLA2 kVLA2 dcLA2 pmLA2 cdLA2 ctLA2 : Value}
    {odLT anLT : Option Addr} {slLT : Array (Option Value)} {ocLT kVLT dcLT pmLT cdLT ctLT : Value}
    {odLAL anLAL : Option Addr} {slLAL : Array (Option Value)} {ocLAL kVLAL dcLAL pmLAL cdLAL ctLAL : Value}
    {odFW anFW : Option Addr} {slFW : Array (Option Value)} {ocFW kVFW dcFW pmFW cdFW ctFW : Value}
    {odKI anKI : Option Addr} {slKI : Array (Option Value)} {ocKI kVKI dcKI pmKI cdKI ctKI : Value}
    {odFR6 anFR6 : Option Addr} {slFR6 : Array (Option Value)} {ocFR6 kVFR6 dcFR6 pmFR6 cdFR6 ctFR6 : Value}
    {odFY6 anFY6 : Option Addr} {slFY6 : Array (Option Value)} {ocFY6 kVFY6 dcFY6 pmFY6 cdFY6 ctFY6 : Value}
    {odWK anWK : Option Addr} {slWK : Array (Option Value)} {ocWK kVWK dcWK pmWK cdWK ctWK : Value}
    {odRI6 anRI6 : Option Addr} {slRI6 : Array (Option Value)} {ocRI6 kVRI6 dcRI6 pmRI6 cdRI6 ctRI6 : Value}
    {odZ anZ : Option Addr} {slZ : Array (Option Value)} {ocZ kVZ dcZ pmZ cdZ ctZ : Value}
    (aC : PySem.W.nsIn K mainGlobals "common_divisor" = some (some (.ref fC))) (lC : K.lookup fC = some ⟨ocC, odC, .func (PySem.W.fnOf "common_divisor" "common_divisor" (defArgs s_cd) (defBody s_cd) (defScope s_cd) .none kVC dcC pmC anC cdC ctC), slC⟩) (cC : PySem.W.codeIn K cdC "common_divisor" = true) (kC : PySem.W.keepIn K (.ref fC) = true)
    (aR : PySem.W.nsIn K mainGlobals "ratio" = some (some (.ref fR))) (lR : K.lookup fR = some ⟨ocR, odR, .func (PySem.W.fnOf "ratio" "ratio" (defArgs s_ratio) (defBody s_ratio) (defScope s_ratio) .none kVR dcR pmR anR cdR ctR), slR⟩) (cR : PySem.W.codeIn K cdR "ratio" = true) (kR : PySem.W.keepIn K (.ref fR) = true)
    (aOB : PySem.W.nsIn K mainGlobals "on_one_bottom" = some (some (.ref fOB))) (lOB : K.lookup fOB = some ⟨ocOB, odOB, .func (PySem.W.fnOf "on_one_bottom" "on_one_bottom" (defArgs s_oob) (defBody s_oob) (defScope s_oob) .none kVOB dcOB pmOB anOB cdOB ctOB), slOB⟩) (cOB : PySem.W.codeIn K cdOB "on_one_bottom" = true) (kOB : PySem.W.keepIn K (.ref fOB) = true)
    (aFI : PySem.W.nsIn K mainGlobals "first_of" = some (some (.ref fFI))) (lFI : K.lookup fFI = some ⟨ocFI, odFI, .func (PySem.W.fnOf "first_of" "first_of" (defArgs s_fi) (defBody s_fi) (defScope s_fi) .none kVFI dcFI pmFI anFI cdFI ctFI), slFI⟩) (cFI : PySem.W.codeIn K cdFI "first_of" = true) (kFI : PySem.W.keepIn K (.ref fFI) = true)
    (aPR : PySem.W.nsIn K mainGlobals "put_rows" = some (some (.ref fPR))) (lPR : K.lookup fPR = some ⟨ocPR, odPR, .func (PySem.W.fnOf "put_rows" "put_rows" (defArgs s_pr) (defBody s_pr) (defScope s_pr) .none kVPR dcPR pmPR anPR cdPR ctPR), slPR⟩) (cPR : PySem.W.codeIn K cdPR "put_rows" = true) (kPR : PySem.W.keepIn K (.ref fPR) = true)
    (aE : PySem.W.nsIn K mainGlobals "_law_feed" = some (some (.ref fE))) (lE : K.lookup fE = some ⟨ocE, odE, .func (PySem.W.fnOf "_law_feed" "_law_feed" (defArgs s_feed) (defBody s_feed) (defScope s_feed) .none kVE dcE pmE anE cdE ctE), slE⟩) (cE : PySem.W.codeIn K cdE "_law_feed" = true) (kE : PySem.W.keepIn K (.ref fE) = true)
    (aD : PySem.W.nsIn K mainGlobals "_law_draw" = some (some (.ref fD))) (lD : K.lookup fD = some ⟨ocD, odD, .func (PySem.W.fnOf "_law_draw" "_law_draw" (defArgs s_draw) (defBody s_draw) (defScope s_draw) .none kVD dcD pmD anD cdD ctD), slD⟩) (cD : PySem.W.codeIn K cdD "_law_draw" = true) (kD : PySem.W.keepIn K (.ref fD) = true)
    (aL : PySem.W.nsIn K mainGlobals "_law_lowest" = some (some (.ref fL))) (lL : K.lookup fL = some ⟨ocL, odL, .func (PySem.W.fnOf "_law_lowest" "_law_lowest" (defArgs s_lowest) (defBody s_lowest) (defScope s_lowest) .none kVL dcL pmL anL cdL ctL), slL⟩) (cL : PySem.W.codeIn K cdL "_law_lowest" = true) (kL : PySem.W.keepIn K (.ref fL) = true)
    (aLA2 : PySem.W.nsIn K mainGlobals "_law_add" = some (some (.ref fLA2))) (lLA2 : K.lookup fLA2 = some ⟨ocLA2, odLA2, .func (PySem.W.fnOf "_law_add" "_law_add" (defArgs s_la2) (defBody s_la2) (defScope s_la2) .none kVLA2 dcLA2 pmLA2 anLA2 cdLA2 ctLA2), slLA2⟩) (cLA2 : PySem.W.codeIn K cdLA2 "_law_add" = true) (kLA2 : PySem.W.keepIn K (.ref fLA2) = true)
    (aLT : PySem.W.nsIn K mainGlobals "_law_by" = some (some (.ref fLT))) (lLT : K.lookup fLT = some ⟨ocLT, odLT, .func (PySem.W.fnOf "_law_by" "_law_by" (defArgs s_lby) (defBody s_lby) (defScope s_lby) .none kVLT dcLT pmLT anLT cdLT ctLT), slLT⟩) (cLT : PySem.W.codeIn K cdLT "_law_by" = true) (kLT : PySem.W.keepIn K (.ref fLT) = true)
    (aLAL : PySem.W.nsIn K mainGlobals "_law_all" = some (some (.ref fLAL))) (lLAL : K.lookup fLAL = some ⟨ocLAL, odLAL, .func (PySem.W.fnOf "_law_all" "_law_all" (defArgs s_lall) (defBody s_lall) (defScope s_lall) .none kVLAL dcLAL pmLAL anLAL cdLAL ctLAL), slLAL⟩) (cLAL : PySem.W.codeIn K cdLAL "_law_all" = true) (kLAL : PySem.W.keepIn K (.ref fLAL) = true)
    (aFW : PySem.W.nsIn K mainGlobals "_law_following" = some (some (.ref fFW))) (lFW : K.lookup fFW = some ⟨ocFW, odFW, .func (PySem.W.fnOf "_law_following" "_law_following" (defArgs s_fw) (defBody s_fw) (defScope s_fw) .none kVFW dcFW pmFW anFW cdFW ctFW), slFW⟩) (cFW : PySem.W.codeIn K cdFW "_law_following" = true) (kFW : PySem.W.keepIn K (.ref fFW) = true)
    (aKI : PySem.W.nsIn K mainGlobals "_law_kinds" = some (some (.ref fKI))) (lKI : K.lookup fKI = some ⟨ocKI, odKI, .func (PySem.W.fnOf "_law_kinds" "_law_kinds" (defArgs s_ki) (defBody s_ki) (defScope s_ki) .none kVKI dcKI pmKI anKI cdKI ctKI), slKI⟩) (cKI : PySem.W.codeIn K cdKI "_law_kinds" = true) (kKI : PySem.W.keepIn K (.ref fKI) = true)
    (aFR6 : PySem.W.nsIn K mainGlobals "_law_firsts" = some (some (.ref fFR6))) (lFR6 : K.lookup fFR6 = some ⟨ocFR6, odFR6, .func (PySem.W.fnOf "_law_firsts" "_law_firsts" (defArgs s_fr6) (defBody s_fr6) (defScope s_fr6) .none kVFR6 dcFR6 pmFR6 anFR6 cdFR6 ctFR6), slFR6⟩) (cFR6 : PySem.W.codeIn K cdFR6 "_law_firsts" = true) (kFR6 : PySem.W.keepIn K (.ref fFR6) = true)
    (aFY6 : PySem.W.nsIn K mainGlobals "_law_first_ways" = some (some (.ref fFY6))) (lFY6 : K.lookup fFY6 = some ⟨ocFY6, odFY6, .func (PySem.W.fnOf "_law_first_ways" "_law_first_ways" (defArgs s_fy6) (defBody s_fy6) (defScope s_fy6) .none kVFY6 dcFY6 pmFY6 anFY6 cdFY6 ctFY6), slFY6⟩) (cFY6 : PySem.W.codeIn K cdFY6 "_law_first_ways" = true) (kFY6 : PySem.W.keepIn K (.ref fFY6) = true)
    (aWK : PySem.W.nsIn K mainGlobals "_law_wide_kinds" = some (some (.ref fWK))) (lWK : K.lookup fWK = some ⟨ocWK, odWK, .func (PySem.W.fnOf "_law_wide_kinds" "_law_wide_kinds" (defArgs s_wk) (defBody s_wk) (defScope s_wk) .none kVWK dcWK pmWK anWK cdWK ctWK), slWK⟩) (cWK : PySem.W.codeIn K cdWK "_law_wide_kinds" = true) (kWK : PySem.W.keepIn K (.ref fWK) = true)
    (aRI6 : PySem.W.nsIn K mainGlobals "_law_right" = some (some (.ref fRI6))) (lRI6 : K.lookup fRI6 = some ⟨ocRI6, odRI6, .func (PySem.W.fnOf "_law_right" "_law_right" (defArgs s_ri6) (defBody s_ri6) (defScope s_ri6) .none kVRI6 dcRI6 pmRI6 anRI6 cdRI6 ctRI6), slRI6⟩) (cRI6 : PySem.W.codeIn K cdRI6 "_law_right" = true) (kRI6 : PySem.W.keepIn K (.ref fRI6) = true)
    (aZ : PySem.W.nsIn K mainGlobals "law" = some (some (.ref fZ))) (lZ : K.lookup fZ = some ⟨ocZ, odZ, .func (PySem.W.fnOf "law" "law" (defArgs s_law) (defBody s_law) (defScope s_law) .none kVZ dcZ pmZ anZ cdZ ctZ), slZ⟩) (cZ : PySem.W.codeIn K cdZ "law" = true) (kZ : PySem.W.keepIn K (.ref fZ) = true)
    (z_abs : PySem.W.nsIn K mainGlobals "abs" = some none)
    (z_enumerate : PySem.W.nsIn K mainGlobals "enumerate" = some none)
    (z_int : PySem.W.nsIn K mainGlobals "int" = some none)
    (z_len : PySem.W.nsIn K mainGlobals "len" = some none)
    (z_list : PySem.W.nsIn K mainGlobals "list" = some none)
    (z_max : PySem.W.nsIn K mainGlobals "max" = some none)
    (z_min : PySem.W.nsIn K mainGlobals "min" = some none)
    (z_range : PySem.W.nsIn K mainGlobals "range" = some none)
    (z_repr : PySem.W.nsIn K mainGlobals "repr" = some none)
    (z_sorted : PySem.W.nsIn K mainGlobals "sorted" = some none)
    (z_sum : PySem.W.nsIn K mainGlobals "sum" = some none)
    (z_tuple : PySem.W.nsIn K mainGlobals "tuple" = some none)
    (z_zip : PySem.W.nsIn K mainGlobals "zip" = some none)
    : ∃ fd : FuncData, (∀ (s : Shared) (v : Value), BindsTo s fd ⟨[v], []⟩ [("_law_script", v)]) ∧ ∀ base : Heap, K.In base → base.Ns mainGlobals mg → FnG l.prog w K mg base CX0 6 fa fd ["_law_script"] (spLaw K) := by
  have e := hfa.symm.trans (PySem.W.mg_of X G aZ)
  cases e
  have FC := fun_mk (st := s_cd) lC cC kC
  have bC := FC.binds (ps := ["one", "other"]) fun _ _ _ _ _ _ us hl => match us, hl with | [_, _], _ => rfl
  have gC := PySem.W.mg_of X G aC
  have FR := fun_mk (st := s_ratio) lR cR kR
  have bR := FR.binds (ps := ["top", "bottom"]) fun _ _ _ _ _ _ us hl => match us, hl with | [_, _], _ => rfl
  have gR := PySem.W.mg_of X G aR
  have FOB := fun_mk (st := s_oob) lOB cOB kOB
  have bOB := FOB.binds (ps := ["told"]) fun _ _ _ _ _ _ us hl => match us, hl with | [_], _ => rfl
  have gOB := PySem.W.mg_of X G aOB
  have FFI := fun_mk (st := s_fi) lFI cFI kFI
  have bFI := FFI.binds (ps := ["kinds", "first", "other", "most"]) fun _ _ _ _ _ _ us hl => match us, hl with | [_, _, _, _], _ => rfl
  have gFI := PySem.W.mg_of X G aFI
  have FPR := fun_mk (st := s_pr) lPR cPR kPR
  have bPR := FPR.binds (ps := ["kinds", "first", "most", "shut"]) fun _ _ _ _ _ _ us hl => match us, hl with | [_, _, _, _], _ => rfl
  have gPR := PySem.W.mg_of X G aPR
  have FE := fun_mk (st := s_feed) lE cE kE
  have bE := FE.binds (ps := ["_law_script"]) fun _ _ _ _ _ _ us hl => match us, hl with | [_], _ => rfl
  have gE := PySem.W.mg_of X G aE
  have FD := fun_mk (st := s_draw) lD cD kD
  have bD := FD.binds (ps := ["_law_feed_here", "_law_size"]) fun _ _ _ _ _ _ us hl => match us, hl with | [_, _], _ => rfl
  have gD := PySem.W.mg_of X G aD
  have FL := fun_mk (st := s_lowest) lL cL kL
  have bL := FL.binds (ps := ["_law_top", "_law_bottom"]) fun _ _ _ _ _ _ us hl => match us, hl with | [_, _], _ => rfl
  have gL := PySem.W.mg_of X G aL
  have FLA2 := fun_mk (st := s_la2) lLA2 cLA2 kLA2
  have bLA2 := FLA2.binds (ps := ["_law_one", "_law_other"]) fun _ _ _ _ _ _ us hl => match us, hl with | [_, _], _ => rfl
  have gLA2 := PySem.W.mg_of X G aLA2
  have FLT := fun_mk (st := s_lby) lLT cLT kLT
  have bLT := FLT.binds (ps := ["_law_one", "_law_other"]) fun _ _ _ _ _ _ us hl => match us, hl with | [_, _], _ => rfl
  have gLT := PySem.W.mg_of X G aLT
  have FLAL := fun_mk (st := s_lall) lLAL cLAL kLAL
  have bLAL := FLAL.binds (ps := ["_law_numbers"]) fun _ _ _ _ _ _ us hl => match us, hl with | [_], _ => rfl
  have gLAL := PySem.W.mg_of X G aLAL
  have FFW := fun_mk (st := s_fw) lFW cFW kFW
  have bFW := FFW.binds (ps := ["_law_feed_here", "_law_way", "_law_k", "_law_size"]) fun _ _ _ _ _ _ us hl => match us, hl with | [_, _, _, _], _ => rfl
  have gFW := PySem.W.mg_of X G aFW
  have FKI := fun_mk (st := s_ki) lKI cKI kKI
  have bKI := FKI.binds (ps := ["_law_feed_here", "_law_size", "_law_is_full"]) fun _ _ _ _ _ _ us hl => match us, hl with | [_, _, _], _ => rfl
  have gKI := PySem.W.mg_of X G aKI
  have FFR6 := fun_mk (st := s_fr6) lFR6 cFR6 kFR6
  have bFR6 := FFR6.binds (ps := ["_law_kinds_here", "_law_other", "_law_beats"]) fun _ _ _ _ _ _ us hl => match us, hl with | [_, _, _], _ => rfl
  have gFR6 := PySem.W.mg_of X G aFR6
  have FFY6 := fun_mk (st := s_fy6) lFY6 cFY6 kFY6
  have bFY6 := FFY6.binds (ps := ["_law_kinds_here", "_law_first", "_law_other", "_law_beats"]) fun _ _ _ _ _ _ us hl => match us, hl with | [_, _, _, _], _ => rfl
  have gFY6 := PySem.W.mg_of X G aFY6
  have FWK := fun_mk (st := s_wk) lWK cWK kWK
  have bWK := FWK.binds (ps := ["_law_feed_here"]) fun _ _ _ _ _ _ us hl => match us, hl with | [_], _ => rfl
  have gWK := PySem.W.mg_of X G aWK
  have FRI6 := fun_mk (st := s_ri6) lRI6 cRI6 kRI6
  have bRI6 := FRI6.binds (ps := ["_law_kinds_here", "_law_other", "_law_beats"]) fun _ _ _ _ _ _ us hl => match us, hl with | [_, _, _], _ => rfl
  have gRI6 := PySem.W.mg_of X G aRI6
  have FZ := fun_mk (st := s_law) lZ cZ kZ
  have bZ := FZ.binds (ps := ["_law_script"]) fun _ _ _ _ _ _ us hl => match us, hl with | [_], _ => rfl
  have gZ := PySem.W.mg_of X G aZ
  have n_abs := PySem.W.mg_none_of X G z_abs
  have n_enumerate := PySem.W.mg_none_of X G z_enumerate
  have n_int := PySem.W.mg_none_of X G z_int
  have n_len := PySem.W.mg_none_of X G z_len
  have n_list := PySem.W.mg_none_of X G z_list
  have n_max := PySem.W.mg_none_of X G z_max
  have n_min := PySem.W.mg_none_of X G z_min
  have n_range := PySem.W.mg_none_of X G z_range
  have n_repr := PySem.W.mg_none_of X G z_repr
  have n_sorted := PySem.W.mg_none_of X G z_sorted
  have n_sum := PySem.W.mg_none_of X G z_sum
  have n_tuple := PySem.W.mg_none_of X G z_tuple
  have n_zip := PySem.W.mg_none_of X G z_zip
  refine ⟨PySem.W.fnOf "law" "law" (defArgs s_law) (defBody s_law) (defScope s_law) .none kVZ dcZ pmZ anZ cdZ ctZ, fun s v => .of_eq rfl, fun base _ _ => ?_⟩
  have GE : FnOk l.prog w K mg base CX0 1 fE _ ["_law_script"] (spFeed K) := ok_feed FE n_list
  have GD : FnOk l.prog w K mg base CX0 1 fD _ ["_law_feed_here", "_law_size"] spDraw := ok_draw FD n_len
  have GL : FnOk l.prog w K mg base CX0 1 fL _ ["_law_top", "_law_bottom"] spLow := ok_lowest FL n_abs
  have GR := ok_ratio (P := l.prog) (w := w) (base := base) FR FC bC gC n_abs
  have GOB := ok_oob (P := l.prog) (w := w) (base := base) FOB FC bC gC n_abs
  have GOT := ok_oobT (P := l.prog) (w := w) (base := base) FOB FC bC gC n_abs
  have GLA2 := ok_la2 FLA2 FL bL gL GL
  have GLT := ok_lby FLT FL bL gL GL
  have GFW := ok_fw FFW FD bD gD GD n_min
  have GWK := ok_wk FWK FD bD gD GD FL bL gL GL n_max n_range n_sum n_tuple
  have GPR := ok_pr FPR FOB bOB gOB GOB FR bR gR GR n_enumerate n_len n_range n_zip
  have GLAL := ok_lall FLAL FLA2 bLA2 gLA2 GLA2
  have GKI := ok_ki FKI FD bD gD GD FFW bFW gFW GFW FL bL gL GL n_int n_list n_range n_sorted n_sum n_tuple
  have GFY6 := ok_fy6 FFY6 FLA2 bLA2 gLA2 GLA2 FLT bLT gLT GLT n_tuple
  have GFI := ok_fi FFI FPR bPR gPR GPR n_tuple
  have GFR6 := ok_fr6 FFR6 FLT bLT gLT GLT FLAL bLAL gLAL GLAL n_len n_range n_tuple
  have GRI6 := ok_ri6 FRI6 FFR6 bFR6 gFR6 GFR6 FFI bFI gFI GFI FFY6 bFY6 gFY6 GFY6 n_len n_max n_min n_range n_repr
  exact ok_law FZ FE bE gE GE FD bD gD GD FKI bKI gKI GKI FRI6 bRI6 gRI6 GRI6 FWK bWK gWK GWK n_len n_min n_range n_repr
end Fp
open PySem PySem.W PyProof.Rows
set_option maxHeartbeats 0 in
theorem PySem.Challenge.cw_freshparts_k56_first_ones_of_kinds_holds : PySem.Challenge.rw_freshparts_k56_first_ones_of_kinds.Holds := by
  w_on; o_law; k_head; (case hw => w_witness2)
  k_fill
  refine Fp.walkG (l := PySem.Challenge.rw_freshparts_k56_first_ones_of_kinds) (n := 63) (lv := 6) (x := "_law_script") (sp := fun w => Fp.spLaw _) rfl (by decide) rfl ⟨rfl, by decide, by decide⟩ (fun w h Y => PySem.W.kIn_of Y) ?F (fun _ _ a ns hl _ hS => ⟨a, ns, rfl, hS, fun _ => rfl⟩)
  case F =>
    intro w mg fa h KX G hmg
    refine' Fp.all_mk KX G hmg ?aC ?lC ?cC ?kC ?aR ?lR ?cR ?kR ?aOB ?lOB ?cOB ?kOB ?aFI ?lFI ?cFI ?kFI ?aPR ?lPR ?cPR ?kPR ?aE ?lE ?cE ?kE ?aD ?lD ?cD ?kD ?aL ?lL ?cL ?kL ?aLA2 ?lLA2 ?cLA2 ?kLA2 ?aLT ?lLT ?cLT ?kLT ?aLAL ?lLAL ?cLAL ?kLAL ?aFW ?lFW ?cFW ?kFW ?aKI ?lKI ?cKI ?kKI ?aFR6 ?lFR6 ?cFR6 ?kFR6 ?aFY6 ?lFY6 ?cFY6 ?kFY6 ?aWK ?lWK ?cWK ?kWK ?aRI6 ?lRI6 ?cRI6 ?kRI6 ?aZ ?lZ ?cZ ?kZ ?z_abs ?z_enumerate ?z_int ?z_len ?z_list ?z_max ?z_min ?z_range ?z_repr ?z_sorted ?z_sum ?z_tuple ?z_zip
    (case aC => first | k_is | rfl); (case lC => first | k_is | rfl); (case cC => first | k_is | rfl); (case kC => first | k_is | rfl); (case aR => first | k_is | rfl); (case lR => first | k_is | rfl)
    (case cR => first | k_is | rfl); (case kR => first | k_is | rfl); (case aOB => first | k_is | rfl); (case lOB => first | k_is | rfl); (case cOB => first | k_is | rfl); (case kOB => first | k_is | rfl)
    (case aFI => first | k_is | rfl); (case lFI => first | k_is | rfl); (case cFI => first | k_is | rfl); (case kFI => first | k_is | rfl); (case aPR => first | k_is | rfl); (case lPR => first | k_is | rfl)
    (case cPR => first | k_is | rfl); (case kPR => first | k_is | rfl); (case aE => first | k_is | rfl); (case lE => first | k_is | rfl); (case cE => first | k_is | rfl); (case kE => first | k_is | rfl)
    (case aD => first | k_is | rfl); (case lD => first | k_is | rfl); (case cD => first | k_is | rfl); (case kD => first | k_is | rfl); (case aL => first | k_is | rfl); (case lL => first | k_is | rfl)
    (case cL => first | k_is | rfl); (case kL => first | k_is | rfl); (case aLA2 => first | k_is | rfl); (case lLA2 => first | k_is | rfl); (case cLA2 => first | k_is | rfl); (case kLA2 => first | k_is | rfl)
    (case aLT => first | k_is | rfl); (case lLT => first | k_is | rfl); (case cLT => first | k_is | rfl); (case kLT => first | k_is | rfl); (case aLAL => first | k_is | rfl); (case lLAL => first | k_is | rfl)
    (case cLAL => first | k_is | rfl); (case kLAL => first | k_is | rfl); (case aFW => first | k_is | rfl); (case lFW => first | k_is | rfl); (case cFW => first | k_is | rfl); (case kFW => first | k_is | rfl)
    (case aKI => first | k_is | rfl); (case lKI => first | k_is | rfl); (case cKI => first | k_is | rfl); (case kKI => first | k_is | rfl); (case aFR6 => first | k_is | rfl); (case lFR6 => first | k_is | rfl)
    (case cFR6 => first | k_is | rfl); (case kFR6 => first | k_is | rfl); (case aFY6 => first | k_is | rfl); (case lFY6 => first | k_is | rfl); (case cFY6 => first | k_is | rfl); (case kFY6 => first | k_is | rfl)
    (case aWK => first | k_is | rfl); (case lWK => first | k_is | rfl); (case cWK => first | k_is | rfl); (case kWK => first | k_is | rfl); (case aRI6 => first | k_is | rfl); (case lRI6 => first | k_is | rfl)
    (case cRI6 => first | k_is | rfl); (case kRI6 => first | k_is | rfl); (case aZ => first | k_is | rfl); (case lZ => first | k_is | rfl); (case cZ => first | k_is | rfl); (case kZ => first | k_is | rfl)
    (case z_abs => first | k_is | rfl); (case z_enumerate => first | k_is | rfl); (case z_int => first | k_is | rfl); (case z_len => first | k_is | rfl); (case z_list => first | k_is | rfl); (case z_max => first | k_is | rfl)
    (case z_min => first | k_is | rfl); (case z_range => first | k_is | rfl); (case z_repr => first | k_is | rfl); (case z_sorted => first | k_is | rfl); (case z_sum => first | k_is | rfl); (case z_tuple => first | k_is | rfl)
    (case z_zip => first | k_is | rfl)
