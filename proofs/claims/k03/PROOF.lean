import PyProof.Rows.All
import Wide.All
import OpenK.AllK
import Wide.FinOn
import PyProof.ReprRoads
import PyProof.ReprLen
import HandS.Base
import HandS.Call
import HandS.List
import HandS.Ends
import HandS.Exc
import HandS.TryOnly
import HandS.ExcOwn
import HandS.ExcInit
import HandS.Dict
import HandS.Words
import HandS.WordsList
import HandS.WordsDict
import HandS.WordsExc
import HandS.Comp
import HandS.Iter
import HandS.Wide
import HandS.TupAny
import HandS.TupMul
import HandS.Conv
import HandS.Star
import HandS.Style
import HandS.Walk
import HandS.RaiseMore
import PyProof.CallFns
import HandS.WideBits
import KE.GoesEnumKw
import HandS.IsInst
import HandS.GenList
import HandS.AnyAll
import HandS.TupLe
import KE.KExcIs
import HandS.ExcIs
import HandS.ExcField
import KE.KIntText
import PyProof.StrBlock2
import PySem.Challenge.RW_freshparts_k03_what_lives_are
set_option Elab.async false
set_option linter.all false
set_option maxRecDepth 100000
set_option maxHeartbeats 4000000
namespace Fp
open PySem PySem.Spec PyProof.Rows L2

/-! ### promises of defs that show things: no repr runs around the call -/
structure FnG (P : Program) (w : World) (K : PySem.W.Frag) (mg : Str → Option Value) (base : Heap) (CX : CXT) (lv : Nat) (f : Addr) (fd : FuncData) (ps : List Str) (sp : Sp) : Prop where
  lens : ∀ vs H Q E, sp vs H Q E → vs.length = ps.length
  runs : ∀ (A : Around) (outer : List Env) (s : Shared) (H : Hp) (args : Args) (us : List Value) (vs : List V) (Q : VK) (E : XK), A.guards = some [] → Room lv A → Env0 P w K mg base A outer s H →
    BindsTo s fd args (ps.zip us) → Vals vs us → sp vs H Q E → codeAny (model P w) A (.call (.ref f) args) (CR CX outer P w H s Q E) s

section
variable {X : Cx} {CX : CXT} {lv : Nat} {f : Addr} {fd : FuncData} {ps : List Str} {sp : Sp} {E : XK} {x : Str} {p pos : Pos} {e : Expr} {es : List Expr} {t : TA}
theorem run_g {pins : List (Addr × Obj)} {σ : L2.St} {H : Hp} {s : Shared} {Q : VK} {us : List Value} {vs : List V} (G : FnG X.prog X.w X.K X.mg X.base CX lv f fd ps sp) (hq : X.A.guards = some []) (hr : Room lv X.A) (hb : Binds X.K fd ps [])
    (hx : Passes CX X E) (I : Inv X pins σ H s) (r : Vals vs us) (h : sp vs H Q E) : wpAny (model X.prog X.w) X.A (call (.ref f) us) (EP X pins σ Q) X.xe s := by
  have hl : us.length = ps.length := r.length.symm.trans (G.lens _ _ _ _ h)
  have b := hb s us I.kIn (by rw [List.append_nil]; exact hl)
  rw [List.append_nil] at b
  refine wpAny_call (codeAny_mono (G.runs X.A X.stack s H ⟨us, []⟩ us vs Q E hq hr I.env0 b r h) fun res s2 z => ?_)
  match res, z with
  | .error e, z => exact hx pins σ H s e s2 I z
  | .ok (.ret u), z => exact I.after z
  | .ok .next, z => exact False.elim z
  | .ok .brk, z => exact False.elim z
  | .ok .cont, z => exact False.elim z
def tCallG (sp : Sp) (E : XK) (t : TA) : TE := fun σ H Q => t σ H fun vs H1 => sp vs H1 Q E
theorem pe_callG (G : FnG X.prog X.w X.K X.mg X.base CX lv f fd ps sp) (hq : X.A.guards = some []) (hr : Room lv X.A) (hg : Gl X x) (hm : X.mg x = some (.ref f)) (hk : PySem.W.keepIn X.K (.ref f) = true) (hb : Binds X.K fd ps []) (hx : Passes CX X E)
    (ha : PA X (e :: es) t) (hdb : (x == ("__debug__" : Str)) = false := by decide) (he : starEach (e :: es) X.env = (false, eval e X.env) :: starEach es X.env := by rfl) (hpl : (backTo pos (starEach es X.env)).any (·.1) = false := by rfl) :
    PE X (.Call (.Name x p) (e :: es) [] pos) (tCallG sp E t) := by
  refine ⟨fun pins s σ H Q I h => wpAny_Call_Name_kw (ld_glob I hg hm ?_ hdb)⟩
  refine PySem.W.callWith_K (h₀ := X.base) I.ok.mod.kin hk (thn (ha.run pos pins s σ H _ I h) fun us s1 z => ?_) he hpl
  obtain ⟨vs, H1, I1, r, q⟩ := z
  exact ⟨I1.kIn, run_g G hq hr hb hx I1 r q⟩
end

section
variable {P : Program} {w : World} {K : PySem.W.Frag} {mg : Str → Option Value} {base : Heap}
theorem okG {x qual : Str} {st : Stmt} {f : Addr} {fd : FuncData} {N ps : List Str} {lv : Nat} {sp : Sp} (F : Fun K x qual st f fd) (S : FnScope N ps (defScope st)) (len : ∀ vs H Q E, sp vs H Q E → vs.length = ps.length)
    (hbody : ∀ (cdv : Value) (A : Around) (outer : List Env) (s : Shared) (H : Hp) (vs : List V) (Q : VK) (E : XK), (A.deeper (envOfC qual (defScope st) s.heap.objs.size f cdv)).guards = some [] → Room lv (A.deeper (envOfC qual (defScope st) s.heap.objs.size f cdv)) →
      sp vs H Q E → ∃ t, PSs (cxOf CX0 P w K mg base N qual (defScope st) f cdv A outer s H E).nox (defBody st) t ∧ t { nx := fun _ H' => Q .non H', rt := Q } (start N vs) H) : FnG P w K mg base CX0 (lv + 1) f fd ps sp := by
  obtain ⟨oc, od, kV, doc, pm, an, cdv, ct, osl, rfl, lk, hcd⟩ := F.ex
  refine ⟨len, fun A outer s H args us vs Q E hq hr e0 hb r hsp => ?_⟩
  have hl := len _ _ _ _ hsp
  have KX : K.In s.heap := e0.mod.kin.keeps fun b o z => (e0.bs b o z).1
  have lim : s.heap.NoLimit := e0.mod.nolimit.keeps fun b o z => (e0.bs b o z).1
  have kinds : ∀ y ∈ ps.zip us, (defScope st).names.lookup y.1 = some .local ∨ ((defScope st).names.lookup y.1 = some .cell ∧ ((cellsFrom (s.heap.objs.size + 1) (defScope st).names []).lookup y.1).isSome = true) := by
    rintro ⟨n, v⟩ hy
    exact (S.par n (List.of_mem_zip hy).1).imp id fun q => ⟨q, PySem.W.cellsFrom_some _ _ _ (.inl q)⟩
  refine codeAny_call_function hr.depth (KX _ _ lk) rfl S.co S.gen rfl (PySem.W.codeRec_of KX hcd) (hb _ _ _ _ ?_)
  refine wpAny_newFunctionEnv_cells S.kind kinds fun env he s1 z => ?_
  subst he
  refine ⟨lim.keeps z.toInCall.keep, codeAny_func ?_⟩
  obtain ⟨t, ht, hq2⟩ := hbody cdv A outer s H vs Q E hq (hr.deeper _) hsp
  have I : Inv (cxOf CX0 P w K mg base N qual (defScope st) f cdv A outer s H E) [] (start N vs) H s1 := inv_start S hr.hd e0 hl r z
  refine wpAny_mono (ht.nox.run [] s1 (start N vs) H _ I hq2) (fun fl s2 hs => ?_) fun _ _ hs => hs
  have fin : ∀ {σ' : L2.St} {H' : Hp} {v : V} {u : Value}, Inv (cxOf CX0 P w K mg base N qual (defScope st) f cdv A outer s H E) [] σ' H' s2 → RelV v u → Q v H' → CE outer P w H s Q u s2 :=
    fun {_ H' v _} J rv q => ⟨v, H', J.os, J.bare, J.base, J.hok, rv, q⟩
  match fl, hs with
  | .ret u, ⟨v, σ', H', J, rv, q⟩ => exact fin J rv q
  | .next, ⟨σ', H', J, q⟩ => exact fin (v := V.non) (u := Value.none) J rfl q
  | .brk, ⟨_, _, _, q⟩ => exact False.elim q
  | .cont, ⟨_, _, _, q⟩ => exact False.elim q
end

/-! ### the end of a law that shows things -/
theorem lawG {P : Program} {w : World} {K : PySem.W.Frag} {mg mb : Str → Option Value} {lv : Nat} {fa a : Addr} {fd : FuncData} {x : Str} {sp : Sp} {s1 : Shared} {vs : List Value} {ns : List Int}
    (KX : K.In s1.heap) (hns : s1.heap.Ns mainGlobals mg) (hb : s1.heap.Ns builtinsNs mb) (hbb : ∀ x : Str, x ≠ "__name__" → mb x = bootBuiltins x) (hlim : s1.heap.NoLimit) (hg : s1.gens = #[])
    (ha : s1.heap.get? a = some { cls := .type "list", data := .seq vs.toArray }) (hi : IntsAre vs ns) (hl : ns.length ≤ sizeLine) (hr : Room lv callerA)
    (G : ∀ base : Heap, K.In base → base.Ns mainGlobals mg → FnG P w K mg base CX0 lv fa fd [x] sp) (hbind : ∀ (s : Shared) (u : Value), BindsTo s fd ⟨[u], []⟩ [(x, u)])
    (hsp : ∀ H : Hp, Only H → SqL K H a (ns.map V.int) → sp [.ref a] H (fun v _ => v = .bl true) fun _ _ _ => False) :
    codeAny (model P w) callerA (.call (.ref fa) ⟨[.ref a], []⟩) (fun r s2 => r = .ok (.ret (.bool true)) ∧ OldK s1.heap s2.heap ∧ s2.os = s1.os ∧ AllBare s2.gens) s1 := by
  have rv := vals_ints hi
  have lenV := hi.length
  have main : ∀ H : Hp, Only H → SqL K H a (ns.map V.int) → HOk P w H s1.heap → (∀ b, H b ≠ none → b = a) → (H a ≠ none → K.lookup a = none) →
      codeAny (model P w) callerA (.call (.ref fa) ⟨[.ref a], []⟩) (fun r s2 => r = .ok (.ret (.bool true)) ∧ OldK s1.heap s2.heap ∧ s2.os = s1.os ∧ AllBare s2.gens) s1 := by
    intro H hO hS hok hA hK
    have kept : ∀ {b : Addr} {o : Obj}, s1.heap.get? b = some o → H b = none → (hidT s1.heap H).get? b = some o := fun z n => hidT_get z n
    have isA : ∀ {b : Addr} {u : HO}, H b = some u → b = a := fun {b u} z => hA b (by rw [z]; simp)
    have noD : ∀ {b : Addr} {o : Obj} {es : Array DictEntry} {ep : Nat}, s1.heap.get? b = some o → o.data = .dict es ep → H b = none := by
      intro b o es ep z d
      match q : H b with
      | none => rfl
      | some u =>
        have e2 := isA q
        subst e2
        rw [ha] at z; cases z
        have d2 : Data.seq vs.toArray _ = Data.dict es ep := d
        cases d2
    have nsK : ∀ {b : Addr} {m : Str → Option Value}, s1.heap.Ns b m → (hidT s1.heap H).Ns b m := fun {b m} z => by
      obtain ⟨o, es, ep, e1, d1, r1⟩ := z
      exact ⟨o, es, ep, kept e1 (noD e1 d1), d1, r1⟩
    have kinB : K.In (hidT s1.heap H) := fun b o z => kept (KX b o z) (by
      match q : H b with
      | none => rfl
      | some u =>
        have e2 := isA q
        subst e2
        rw [hK (by rw [q]; simp)] at z; cases z)
    have M : Mod K mg (hidT s1.heap H) := ⟨kinB, nsK hns, ⟨mb, nsK hb, hbb⟩, by obtain ⟨mc, h1, h2⟩ := hlim; exact ⟨mc, nsK h1, h2⟩⟩
    have nil_fr : ∀ {b : Addr}, ¬ b ∈ frs [] := fun {b} z => by
      have z2 : b ∈ ([] : List Addr) := z
      simp at z2
    have e0 : Env0 P w K mg (hidT s1.heap H) callerA [] s1 H := ⟨rfl, M, fun b o z => of_hidT z, Nat.le_of_eq (hidT_size _ _), trivial, fun b z => absurd z nil_fr, hok, .of_eq hg⟩
    refine codeAny_mono ((G _ kinB (nsK hns)).runs callerA [] s1 H ⟨[.ref a], []⟩ [.ref a] [.ref a] _ _ rfl hr e0 (hbind s1 (.ref a)) (.cons rfl .nil) (hsp H hO hS)) fun res s2 z => ?_
    match res, z with
    | .error e, z => exact False.elim z
    | .ok .next, z => exact False.elim z
    | .ok .brk, z => exact False.elim z
    | .ok .cont, z => exact False.elim z
    | .ok (.ret u), z =>
      obtain ⟨v, H2, os, bare, un, hok2, r2, q⟩ := z
      have qv : v = .bl true := q
      subst qv
      obtain rfl : u = Value.bool true := r2
      refine ⟨rfl, OldK.of_keep fun b o e1 => ?_, os, bare⟩
      match q : H b with
      | none => exact un.keep b o e1 q nil_fr (by simp)
      | some u =>
        rcases hO b with z | ⟨ob, xs, z⟩
        · rw [q] at z; cases z
        · obtain ⟨g1, _⟩ := hok b _ z
          obtain ⟨g2, _⟩ := hok2 b _ (un.frzs b ob _ z)
          rw [e1] at g1; cases g1
          exact g2
  match hk : K.lookup a with
  | some o =>
    have z := KX a o hk
    rw [ha] at z
    cases z
    refine main (fun _ => none) (fun _ => .inl rfl) (.inr ⟨_, vs.toArray, _, hk, rfl, rfl, rfl, by rw [List.size_toArray, lenV]; exact hl, by simpa using rv⟩) (fun b u z => ?_) (fun b z => absurd rfl z) fun z => absurd rfl z
    have z2 : (none : Option HO) = some u := z
    cases z2
  | none =>
    have yes : ∀ {b : Addr}, b = a → (if b = a then some (HO.frz { cls := .type "list", data := .seq vs.toArray } (.lst (ns.map V.int))) else none) = some (HO.frz { cls := .type "list", data := .seq vs.toArray } (.lst (ns.map V.int))) := fun z => if_pos z
    have nay : ∀ {b : Addr}, b ≠ a → (if b = a then some (HO.frz { cls := .type "list", data := .seq vs.toArray } (.lst (ns.map V.int))) else none) = none := fun z => if_neg z
    refine main (fun b => if b = a then some (HO.frz { cls := .type "list", data := .seq vs.toArray } (.lst (ns.map V.int))) else none) (fun b => ?_) (.inl (.inr ⟨_, yes rfl⟩)) (fun b u z => ?_) (fun b z => ?_) fun _ => hk
    · rcases Classical.em (b = a) with h | h
      · exact .inr ⟨_, _, yes h⟩
      · exact .inl (nay h)
    · rcases Classical.em (b = a) with h | h
      · have z2 := (yes h).symm.trans z
        cases z2
        subst h
        exact ⟨ha, by rw [List.length_map]; exact hl, vs, _, rv, ha⟩
      · have z2 := (nay h).symm.trans z
        cases z2
    · rcases Classical.em (b = a) with h | h
      · exact h
      · exact absurd (nay h) z

theorem walkG {l : PySem.W.OpenLaw} {n lv : Nat} {q : Program} {loose : List Str} {XP : (Str → Option Value) → Heap → Prop} {YP : World → Heap → Prop} {d : DefRec} {K : Params → PySem.W.Frag} {sp : World → Sp} {x : Str}
    (hn : l.most = some n) (hn2 : n ≤ sizeLine) (hdf : d.params.defaults = []) (hr : Room lv callerA) (hY : ∀ (w : World) (h : Heap), YP w h → (K w.params).In h)
    (G : ∀ (w : World) (mg : Str → Option Value) (fa : Addr) (h : Heap), (K w.params).In h → h.Ns mainGlobals mg → mg d.name = some (.ref fa) →
      ∃ fd : FuncData, (∀ (s : Shared) (u : Value), BindsTo s fd ⟨[u], []⟩ [(x, u)]) ∧ ∀ base : Heap, (K w.params).In base → base.Ns mainGlobals mg → FnG l.prog w (K w.params) mg base CX0 lv fa fd [x] (sp w))
    (hsp : ∀ (w : World) (H : Hp) (a : Addr) (ns : List Int), ns.length ≤ n → Only H → SqL (K w.params) H a (ns.map V.int) → sp w [.ref a] H (fun v _ => v = .bl true) fun _ _ _ => False) :
    PySem.W.WalkO q loose XP YP l.row.toRowW d [] (fun f vs => PySem.call f vs) := by
  refine Att.attach_call hn hdf fun w s0 s1 mg mb fa o pm cd doc a vs ns Gr Y ho hd hcd hmg hobj hints hlen hg => ?_
  have KX := hY w _ Y
  obtain ⟨fd, hb, hF⟩ := G w mg fa _ KX Gr.T.g hmg
  exact lawG KX Gr.T.g Gr.T.b Gr.T.builtins Gr.T.nolimit hg hobj hints (Nat.le_trans hlen hn2) hr hF hb fun H hO hS => hsp w H a ns hlen hO hS

/-! ### repr of tuples and lists -/
mutual
theorem dp_noDict {K : PySem.W.Frag} {H : Hp} : ∀ {v : V} {d : PyData}, Dp K H v d → d.hasDict = false
  | _, _, .non => by simp only [PyData.hasDict]
  | _, _, .bl _ => by simp only [PyData.hasDict]
  | _, _, .int _ => by simp only [PyData.hasDict]
  | _, _, .str _ => by simp only [PyData.hasDict]
  | _, _, .lst _ h => by simp only [PyData.hasDict]; exact dp_noDictAll h
  | _, _, .tup _ h => by simp only [PyData.hasDict]; exact dp_noDictAll h
theorem dp_noDictAll {K : PySem.W.Frag} {H : Hp} : ∀ {vs : List V} {ds : List PyData}, DpAll K H vs ds → PyData.hasDictAll ds = false
  | _, _, .nil => by simp only [PyData.hasDictAll]
  | _, _, .cons h r => by simp only [PyData.hasDictAll, dp_noDict h, dp_noDictAll r, Bool.or_false]
end
/-! how long a thing is, shown, at most -/
mutual
def cost : PyData → Nat
  | .none | .bool _ => 5
  | .int _ => 2000
  | .str x => 10 * x.cps.size + 2
  | .list xs | .tuple xs => costAll xs + 3
  | .dict _ => 0
def costAll : List PyData → Nat
  | [] => 0
  | x :: xs => cost x + 2 + costAll xs
end
mutual
theorem shown_cost : ∀ d : PyData, d.leavesShort 2000 = true → d.hasDict = false → d.shown.length ≤ cost d
  | .none, _, _ => by decide
  | .bool b, _, _ => by cases b <;> decide
  | .int i, h, _ => by
    simp only [PyData.leavesShort, decide_eq_true_eq] at h
    simp only [cost]
    exact h
  | .str x, h, _ => by
    have hx : ∀ c ∈ x.cps.toList, c < 16 ^ 8 := by simpa only [PyData.leavesShort, List.all_eq_true, decide_eq_true_eq] using h
    have e := StrLaws.reprText_len x hx
    have e2 : x.length = x.cps.size := rfl
    simp only [PyData.shown, cost]
    omega
  | .list xs, h, hd => by
    have h1 := shown_costs xs (by simpa only [PyData.leavesShort] using h) (by simpa only [PyData.hasDict] using hd)
    have h2 := listText_len_le (PyData.shownAll xs)
    have h3 := PyData.shownAll_length xs
    simp only [PyData.shown, cost]
    omega
  | .tuple xs, h, hd => by
    have h1 := shown_costs xs (by simpa only [PyData.leavesShort] using h) (by simpa only [PyData.hasDict] using hd)
    have h2 := tupleText_len_le (PyData.shownAll xs)
    have h3 := PyData.shownAll_length xs
    simp only [PyData.shown, cost]
    omega
  | .dict _, _, hd => by simp [PyData.hasDict] at hd
theorem shown_costs : ∀ xs : List PyData, PyData.leavesShortAll 2000 xs = true → PyData.hasDictAll xs = false → ((PyData.shownAll xs).map (·.length)).sum + 2 * xs.length ≤ costAll xs
  | [], _, _ => by simp only [PyData.shownAll, costAll, List.map_nil, List.sum_nil, List.length_nil]; omega
  | x :: xs, h, hd => by
    simp only [PyData.leavesShortAll, Bool.and_eq_true] at h
    simp only [PyData.hasDictAll, Bool.or_eq_false_iff] at hd
    have h1 := shown_cost x h.1 hd.1
    have h2 := shown_costs xs h.2 hd.2
    simp only [PyData.shownAll, costAll, List.map_cons, List.sum_cons, List.length_cons]
    omega
end
/-- what may be shown: ints of at most 1919 bits, texts of plain signs; its length and depth bounded -/
def Shows (d : PyData) : Prop := d.showable = true ∧ d.leavesShort 2000 = true ∧ cost d ≤ 16000000 ∧ d.depth ≤ 60
theorem Shows.len {d : PyData} (h : Shows d) (n : d.hasDict = false) : d.shown.length ≤ sizeLine := by
  have e := shown_cost d h.2.1 n
  have w := h.2.2.1
  rw [sizeLine_eq]
  omega
section
variable {X : Cx}
theorem call_reprD {lv : Nat} (hq : X.A.guards = some []) (hr : Room lv X.A) : CallR X (.builtin "repr") (fun xs H Q => ∃ a d, xs = [.ref a] ∧ Dp X.K H (.ref a) d ∧ Shows d ∧ Q (.str d.shown) H) := by
  intro pins s σ H xs us Q I r h
  obtain ⟨a, d, rfl, hd, hs, q⟩ := h
  obtain ⟨u, rfl, ru⟩ := vals1 r
  obtain ⟨as, rd⟩ := Dp.reads I d _ _ hd ru
  obtain rfl : u = Value.ref a := ru
  have hu := hr.un
  have hdp := hs.2.2.2
  refine repr_of_reads' (h₀ := s.heap) rd hs.1 (PyData.noDict_hsm (dp_noDict hd)) hq (by omega) (fun _ _ z => z) (fun h' t tk k => ?_) (hs.len (dp_noDict hd))
  exact ⟨.str d.shown, H, I.kept k, ⟨t, rfl⟩, q⟩
/-- // by any number but nought, below 2 ^ 9000 in size -/
def CDivA (_ j : Int) : Prop := j ≠ 0 ∧ j.natAbs.log2 < 9000
theorem op_fdivA : OpR X (binaryOp .FloorDiv) (rI CDivA fun i j => .int (i.fdiv j)) := opI fun i j _ _ _ _ _ hc q => floordiv_int hc.1 q (.inl (PyProof.noPylong_of_log2 hc.2))
/-- * of two factors of together less than a million bits -/
def CMulA (i j : Int) : Prop := i.natAbs.log2 + j.natAbs.log2 < 1000000
theorem mulA_ok {i j : Int} (h : CMulA i j) : IntMulOk i j := by
  have bits : ∀ x : Int, Builtin.Int.intBits x ≤ x.natAbs.log2 + 1 := fun x => by
    unfold Builtin.Int.intBits
    split <;> omega
  have h1 := bits i
  have h2 := bits j
  have h3 : i.natAbs.log2 + j.natAbs.log2 < 1000000 := h
  intro z
  rw [Bool.and_eq_true] at z
  have z3 := of_decide_eq_true (show decide _ = true from z.2)
  have e : bitsLine = 134217728 := by decide
  rw [e] at z3
  omega
theorem op_mulA : OpR X (binaryOp .Mult) (rI CMulA fun i j => .int (i * j)) := opI fun _ _ _ _ _ _ _ hc q => mul_int q (mulA_ok hc)
end
/-! ### a word between two statements -/
def tMid (t u : TS) : TS := fun D σ H => ∃ M : L2.St → Hp → Prop, t { D with nx := M } σ H ∧ ∀ σ2 H2, M σ2 H2 → u D σ2 H2
theorem pss_mid {X : Cx} {st : Stmt} {more : List Stmt} {t u : TS} (a : PS X st t) (b : PSs X more u) : PSs X (st :: more) (tMid t u) := by
  refine ⟨fun pins s σ H D I h => ?_⟩
  obtain ⟨M, hm, hu⟩ := h
  refine wpAny_execs_cons (thn (a.run pins s σ H { D with nx := M } I hm) fun fl s1 z => ?_)
  match fl, z with
  | .next, ⟨σ2, H2, I2, z⟩ => exact b.run pins s1 σ2 H2 D I2 (hu σ2 H2 z)
  | .ret v, z => exact z
  | .brk, z => exact z
  | .cont, z => exact z
end Fp

set_option Elab.async false
set_option linter.all false
set_option maxRecDepth 100000
set_option maxHeartbeats 4000000
namespace Fp
open PySem PySem.Spec PyProof.Rows L2
/-! ### C.f(e, ..), C a class of one's own, f a def of its body -/
structure ClsFn (K : PySem.W.Frag) (C : Addr) (m : Str) (f : Addr) : Prop where
  rd : PySem.W.readsIn K C (.type "type") = true
  fc : PySem.W.findCls K (.ref C) (.type "type") m = some (.val (.ref f))
  hd : PySem.W.handedIn (.ref f) = true
  sp : PySem.W.specialIn K (.ref C) "__getattribute__" = some (some (.builtin "type.__getattribute__"))
  kp : PySem.W.keepIn K (.ref f) = true
section
variable {X : Cx} {CX : CXT} {lv : Nat} {f C : Addr} {fd : FuncData} {ps : List Str} {sp : Sp} {E : XK} {x m : Str} {p pos apos : Pos} {e : Expr} {es : List Expr} {t : TA}
theorem pe_clsfn {pl : Sem Bool} (c : ClsFn X.K C m f) (F : FnOk X.prog X.w X.K X.mg X.base CX lv f fd ps sp) (hr : Room lv X.A) (hg : Gl X x) (hm : X.mg x = some (.ref C)) (hb : Binds X.K fd ps []) (hx : Passes CX X E) (ha : PA X (e :: es) t)
    (hdb : (x == ("__debug__" : Str)) = false := by decide) (hst : starEach (e :: es) X.env = (false, eval e X.env) :: starEach es X.env := by rfl) (hpl : (backTo pos (starEach es X.env)).any (·.1) = false := by rfl)
    (ht : eval (.Call (.Attribute (.Name x p) m apos) (e :: es) [] pos) X.env = (do
      let ov ← eval (.Name x p) X.env
      standAt apos.atName
      let (g, first) ← holding [ov] (getMethod ov m pl)
      callWith pos g first (backTo pos (starEach (e :: es) X.env)) (backToKw pos (keywordEach [] X.env))) := by rfl) :
    PE X (.Call (.Attribute (.Name x p) m apos) (e :: es) [] pos) (tCall sp [] E t) := by
  refine ⟨fun pins s σ H Q I h => PySem.W.methodCall_KW (pl := pl) (ld_glob I hg hm ?_ hdb) ht⟩
  refine PySem.W.method_cls I.kIn c.sp (PySem.W.cls_value I.kIn c.rd c.fc c.hd ?_)
  refine PySem.W.callWith_K (first := []) (h₀ := X.base) I.ok.mod.kin c.kp (thn (ha.run pos pins _ σ H _ (I.tok _) h) fun us s2 z => ?_) hst hpl
  obtain ⟨vs, H2, I2, r, q⟩ := z
  exact ⟨I2.kIn, run_fn F hr hb .nil hx I2 r q⟩
end
/-- an error of the class at S is what an except of S names -/
theorem exm_own {K : PySem.W.Frag} {S : Addr} (h1 : PySem.W.subIn K (.ref S) (.type "BaseException") = some true) (h2 : PySem.W.isClsIn K S = true) (h3 : PySem.W.typeIn K (.ref S) = some (.type "type")) (h4 : PySem.W.subIn K (.ref S) (.ref S) = some true) :
    PySem.W.exmOne K (.ref S) (.ref S) = some true := by
  have y1 : (PySem.W.subIn K (.ref S) (.type "BaseException") == some true) = true := by rw [h1] <;> rfl
  have y2 : ((PySem.W.clsIn K S).isSome && PySem.W.typeIn K (.ref S) == some (.type "type")) = true := by
    have h5 : (PySem.W.clsIn K S).isSome = true := h2
    rw [h5, h3] <;> rfl
  show (if (PySem.W.subIn K (.ref S) (.type "BaseException") == some true) = true then (if ((PySem.W.clsIn K S).isSome && PySem.W.typeIn K (.ref S) == some (.type "type")) = true then PySem.W.subIn K (.ref S) (.ref S) else none) else none) = some true
  rw [if_pos y1, if_pos y2]
  exact h4
/-! ### C(), C an own exception over ValueError whose __init__ stores nothing -/
section
variable {X : Cx}
/-- the promise of such an __init__ of one argument, self -/
def spIni (K : PySem.W.Frag) : Sp := fun vs H Q _ => ∃ a C : Addr, vs = [.ref a] ∧ OexC K C ∧ H a = some (exo a C none) ∧ Q .non H
/-- .. of self and a text -/
def spIni1 (K : PySem.W.Frag) : Sp := fun vs H Q _ => ∃ (a C : Addr) (y : V), vs = [.ref a, y] ∧ OexC K C ∧ H a = some (exo a C none) ∧ Q .non H
theorem let_go {pins : List (Addr × Obj)} {σ : L2.St} {H1 : Hp} {hp hp2 h2 : Heap} {g1 g2 : Array GenState} {d1 d2 : Drawn} {t1 t2 : Nat} {os1 os2 : OsState} {a C : Addr} (I1 : Inv X pins σ H1 ⟨hp, g1, d1, t1, os1⟩)
    (ha : hp.objs.size ≤ a) (k : ∀ b o, hp.get? b = some o → hp2.get? b = some o) (un : Un (frs X.stack) [] (upd H1 a (exo a C none)) (upd H1 a (exo a C none)) hp2 h2) (hok : HOk X.prog X.w (upd H1 a (exo a C none)) h2) (ho : os2 = os1) (hb : AllBare g2) :
    ∃ (t0 : Addr) (G : Heap), Inv X pins σ H1 ⟨G, g2, d2, t2, os2⟩ ∧ (∀ b o, G.get? b = some o → h2.get? b = some o) ∧ G.get? a = none ∧
      h2.get? a = some ({ cls := .ref C, dict := none, data := .fields #[.ref t0, .none, .none, .none, .bool false, .none] } : Obj) := by
  obtain ⟨t0, hoe⟩ := exo_at hok (upd_same (H := H1))
  have hn : H1 a = none := I1.hok.fresh ha
  obtain ⟨G, y1, y2⟩ := restrict h2 fun b => decide (b ≠ a)
  have gk : ∀ b, b ≠ a → G.get? b = h2.get? b := fun b hb => y1 b (decide_eq_true hb)
  have ge : G.get? a = none := y2 a (by simp)
  have old : ∀ {b : Addr} {o : Obj}, hp.get? b = some o → b ≠ a := fun {b o} z => Nat.ne_of_lt (Nat.lt_of_lt_of_le (Heap.lt_size z) ha)
  have up : ∀ {b : Addr}, b ≠ a → H1 b = none → upd H1 a (exo a C none) b = none := fun {b} hb n => by rw [upd_ne hb]; exact n
  have dn : ∀ {b : Addr} {u : HO}, H1 b = some u → upd H1 a (exo a C none) b = some u := fun {b u} z => by rw [upd_ne (ne_of_none z hn)]; exact z
  have ne : ∀ {b : Addr} {u : HO}, H1 b = some u → b ≠ a := fun {b u} z => ne_of_none z hn
  have U : Un (frs X.stack) [] H1 H1 hp G :=
    ⟨fun b o z n hf hx => by rw [gk b (old z)]; exact un.keep b o (k b o z) (up (old z) n) hf hx,
     fun b o z n hf hx => by rw [gk b (old z)]; exact un.slot b o (k b o z) (up (old z) n) hf hx,
     fun b o z n hx => n,
     fun b o z hx => by rw [gk b (old z)]; exact un.there b o (k b o z) hx,
     fun b xs z => z, fun b o v z => z, fun b qs z => ⟨#[], by rw [z]; simp⟩⟩
  have hok3 : HOk X.prog X.w H1 G := fun b o z => by
    refine (hok b o (dn z)).stay (fun c v hc y => ?_) (fun c hc => ?_) (fun c xs hc => ?_)
    · have hca : c ≠ a := by
        rcases hc with hc | hc
        · rw [hc]; exact ne z
        · exact at_ne (upd_same (H := H1)) hc exo_own
      rw [gk c hca]
      exact y
    · have hca : c ≠ a := at_ne (upd_same (H := H1)) hc exo_own
      rw [upd_ne hca] at hc
      exact hc
    · have hca : c ≠ a := at_ne (upd_same (H := H1)) hc exo_tup
      rw [upd_ne hca] at hc
      exact hc
  have J : Inv X pins σ H1 ⟨G, g2, d2, t2, os2⟩ := I1.call' (ch := []) ho U hok3 hb (fun b z => absurd z (by simp))
  refine ⟨t0, G, J, fun b o z => ?_, ge, hoe⟩
  rcases Classical.em (b = a) with hba | hba
  · rw [hba, ge] at z
    cases z
  · exact (gk b hba).symm.trans z
theorem pmk_bare {CX : CXT} {x : Str} {C fI : Addr} {lv : Nat} {fd : FuncData} {ps : List Str} {p pos : Pos} (T : OexC X.K C) (iC : PySem.W.findIn X.K (.ref C) "__init__" = some (some (.ref fI))) (tI : PySem.W.typeIn X.K (.ref fI) = some (.type "function"))
    (F1 : FnOk X.prog X.w X.K X.mg X.base CX lv fI fd ps (spIni X.K)) (hr : Room (lv + 1) X.A) (hb : Binds X.K fd ps []) (hx : Passes CX X (fun _ _ _ => False)) (hg : Gl X x) (hm : X.mg x = some (.ref C)) (hdb : (x == ("__debug__" : Str)) = false := by decide) :
    PMk X (.Call (.Name x p) [] [] pos) (fun _ H Q => Q (.ref C) none H) := by
  intro pins s σ H Q I h
  obtain ⟨nm, q, N, bs, bm, sn, sub, ab, col, dd, k0, k1, k2, k3, k5, hC, hbm⟩ := T.cls
  refine wpAny_Call_Name_kw (ld_glob I hg hm ?_ hdb)
  refine PySem.W.callWith_K0 I.kIn T.kC ?_
  show wpAny _ _ (call (.ref C) []) _ _ _
  obtain ⟨hp, g, dr, tk, os⟩ := s
  have hsz : hp.objs.size ≤ hp.objs.size + 1 := Nat.le_succ _
  have kk : ∀ b o, hp.get? b = some o → ((hp.push (PySem.W.kdv_tup [])).push (PySem.HandSPX.excO C hp.objs.size)).get? b = some o := fun b o z => Heap.get?_push_of_some _ (Heap.get?_push_of_some _ z)
  have hget : ((hp.push (PySem.W.kdv_tup [])).push (PySem.HandSPX.excO C hp.objs.size)).get? (hp.objs.size + 1) = some (PySem.HandSPX.excO C hp.objs.size) := by heap_get
  have I2 : Inv X pins σ (upd H (hp.objs.size + 1) (exo (hp.objs.size + 1) C none)) ⟨(hp.push (PySem.W.kdv_tup [])).push (PySem.HandSPX.excO C hp.objs.size), g, dr, tk, os⟩ :=
    I.laid (t' := tk) (a := hp.objs.size + 1) (o := exo (hp.objs.size + 1) C none) (h' := (hp.push (PySem.W.kdv_tup [])).push (PySem.HandSPX.excO C hp.objs.size)) kk hsz (exo_ok hget)
  have r2 : Vals [V.ref (hp.objs.size + 1)] [Value.ref (hp.objs.size + 1)] := .cons rfl .nil
  have hsp : spIni X.K [V.ref (hp.objs.size + 1)] (upd H (hp.objs.size + 1) (exo (hp.objs.size + 1) C none)) (fun v H2 => v = .non ∧ H2 = upd H (hp.objs.size + 1) (exo (hp.objs.size + 1) C none)) (fun _ _ _ => False) :=
    ⟨_, C, rfl, T, upd_same, rfl, rfl⟩
  have hl : ([Value.ref (hp.objs.size + 1)] ++ []).length = ps.length := by
    have z := F1.len _ _ _ _ hsp
    exact z
  refine wpAny_call (PySem.HandSPX.call_own F.excBase_ValueError (fun Y => PySem.HandSPX.refsVE_contains Y bm hbm) (I.kIn _ _ hC) (PySem.W.looks_findIn I.kIn iC) (fun self => PySem.W.bind_fn I.kIn self tI) (Nat.zero_le _)
    (codeAny_mono (F1.run _ X.stack _ _ ⟨[Value.ref (hp.objs.size + 1)], []⟩ [Value.ref (hp.objs.size + 1)] _ _ (fun _ _ _ => False) (hr.make C [] []) (I2.env0.make C [] []) (hb _ [Value.ref (hp.objs.size + 1)] I2.kIn hl) r2 hsp) fun res s2 z => ?_))
  match res, z with
  | .error er, z => exact hx pins σ _ _ er s2 I2 z
  | .ok .next, z => exact False.elim z
  | .ok .brk, z => exact False.elim z
  | .ok .cont, z => exact False.elim z
  | .ok (.ret u), z =>
    obtain ⟨v, H2, os2, bare2, un2, hok2, rv, ev, eH⟩ := z
    subst ev
    rw [eH] at un2 hok2
    obtain ⟨h2, g2, d2, t2, os3⟩ := s2
    obtain ⟨t0, G, J, kG, ge, hoe⟩ := let_go (d2 := d2) (t2 := t2) I hsz kk un2 hok2 os2 bare2
    exact ⟨rv, _, _, _, ⟨G, g2, d2, t2, os3⟩, _, .ref C, none, rfl, J, kG, ge, hoe, ⟨rfl, rfl⟩, rfl, rfl, I.hok.fresh hsz, rfl, bare2, raises_own T.exC T.tyC, h⟩
end
end Fp

set_option Elab.async false
set_option linter.all false
set_option maxRecDepth 100000
set_option maxHeartbeats 4000000
namespace Fp
open PySem PySem.Spec PyProof.Rows L2
/-! ### a tuple taken some times, none and once too -/
theorem tuple_mul_one (l : Addr) (items : Array Value) (n : Nat) (dd : Option Addr) (sl : Array (Option Value)) (u : Tok) :
    Meets (Builtin.«tuple.__mul__» ⟨[.ref l, .int 1 u], []⟩) (fun _ R s => s.heap.get? l = some { cls := .type "tuple", dict := dd, data := .seq items n, slots := sl } ∧ R (.ok (.ret (Value.ref l))) s) :=
  .of_wp fun prog w A R s h => by
    obtain ⟨hp, g, d, tk, os⟩ := s
    obtain ⟨hl, h⟩ := h
    have f1 := AutoSeq1.idx_int
    have c1 : (items.isEmpty || (1 : Int) == 1) = true := by simp
    wp_walk using wpAny_loadPart' hl
    exact ⟨_, rfl, h⟩
theorem tuple_mul_nil (l : Addr) (items : Array Value) (n : Nat) (dd : Option Addr) (sl : Array (Option Value)) (u : Tok) (c1 : items.isEmpty = false) :
    Meets (Builtin.«tuple.__mul__» ⟨[.ref l, .int 0 u], []⟩) (fun _ R s => s.heap.get? l = some { cls := .type "tuple", dict := dd, data := .seq items n, slots := sl } ∧
      R (.ok (.ret (Value.ref s.heap.objs.size))) { s with heap := s.heap.push { cls := Value.type "tuple", data := Data.seq #[] }, toks := s.toks }) :=
  .of_wp fun prog w A R s h => by
    obtain ⟨hp, g, d, tk, os⟩ := s
    obtain ⟨hl, h⟩ := h
    have f1 := AutoSeq1.idx_int
    have c2 : (items.isEmpty || (0 : Int) == 1) = false := by rw [c1]; rfl
    wp_walk using wpAny_loadPart' hl
    exact ⟨_, rfl, h⟩
def rRepA (K : PySem.W.Frag) : R2 := fun x y H Q => ∃ l k xs, x = .ref l ∧ y = .int k ∧ SqT K H l xs ∧ xs ≠ [] ∧ 0 ≤ k ∧ k ≤ 1000 ∧ xs.length ≤ 1000 ∧ (k = 1 → Q (.ref l) H) ∧ (k ≠ 1 → ∀ p, H p = none → Q (.ref p) (upd H p (.tup (List.replicate k.toNat xs).flatten)))
section
variable {X : Cx}
theorem op_repA : OpR X (binaryOp .Mult) (rRepA X.K) := by
  intro pins s σ H x y v u Q I rx ry h
  obtain ⟨l, k, xs, rfl, rfl, hT, hne, h0, h2, hz, q1, q2⟩ := h
  rcases (by omega : k = 0 ∨ k = 1 ∨ 2 ≤ k) with rfl | rfl | hk
  · cases rx
    obtain ⟨t, rfl⟩ := ry
    obtain ⟨its, r, ⟨⟨cls, dd, data, sl⟩, ho, hc, n, hd⟩, hs⟩ := I.tuple hT
    simp only at hc hd
    subst hc hd
    have hle : its.length = xs.length := r.length.symm
    have hi : its.toArray.isEmpty = false := by
      cases its with
      | nil => exact absurd (List.eq_nil_of_length_eq_zero hle.symm) hne
      | cons a b => rfl
    refine wpAny_binaryOp_repeat_ref (T := "tuple") (U := "int") (by decide) ⟨_, ho, rfl⟩ (fun s2 => typeIs_int s2 0 t) noFill_tuple_mul F.fills_int_mul F.slot_int_rmul repeat_tuple F.slot_int_index.lookup
      (call_meets F.slot_int_rmul (typeIs_int s 0 t) F.entry_int_rmul (F.args_int_rmul_2 _ _) (int_rmul_tuple 0 t l its.toArray n dd sl)
        ⟨ho, rfl, ⟨_, ho, rfl⟩, call_meets F.slot_tuple_mul ⟨_, ho, rfl⟩ F.entry_tuple_mul (F.args_tuple_mul_2 _ _) (tuple_mul_nil l its.toArray n dd sl t hi) ⟨ho, ?_⟩⟩)
    refine ⟨.ref s.heap.objs.size, _, I.laid (t' := s.toks) (o := .tup []) (fun b ob z => Heap.get?_push_of_some _ z) (Nat.le_refl _) ?_, rfl, q2 (by decide) _ (I.hok.fresh (Nat.le_refl _))⟩
    exact ⟨Nat.zero_le _, [], .nil, IsTup.new _ _⟩
  · cases rx
    obtain ⟨t, rfl⟩ := ry
    obtain ⟨its, r, ⟨⟨cls, dd, data, sl⟩, ho, hc, n, hd⟩, hs⟩ := I.tuple hT
    simp only at hc hd
    subst hc hd
    refine wpAny_binaryOp_repeat_ref (T := "tuple") (U := "int") (by decide) ⟨_, ho, rfl⟩ (fun s2 => typeIs_int s2 1 t) noFill_tuple_mul F.fills_int_mul F.slot_int_rmul repeat_tuple F.slot_int_index.lookup
      (call_meets F.slot_int_rmul (typeIs_int s 1 t) F.entry_int_rmul (F.args_int_rmul_2 _ _) (int_rmul_tuple 1 t l its.toArray n dd sl)
        ⟨ho, rfl, ⟨_, ho, rfl⟩, call_meets F.slot_tuple_mul ⟨_, ho, rfl⟩ F.entry_tuple_mul (F.args_tuple_mul_2 _ _) (tuple_mul_one l its.toArray n dd sl t) ⟨ho, ?_⟩⟩)
    exact ⟨.ref l, H, I, rfl, q1 rfl⟩
  · exact op_repT pins s σ H _ _ v u Q I rx ry ⟨l, k, xs, rfl, rfl, hT, hne, hk, h2, hz, q2 (by omega)⟩
end
end Fp


set_option Elab.async false
set_option linter.all false
set_option maxRecDepth 100000
set_option maxHeartbeats 4000000
namespace Fp
open PySem PySem.Spec PyProof.Rows L2
/-! ### x *= y of great numbers; xs[i] += y -/
section
variable {X : Cx}
theorem ip_mulA : PIp X .Mult (rI CMulA fun i j => .int (i * j)) := opI fun _ _ _ _ _ _ _ hc q => imul_int q (mulA_ok hc)
def rIxN (K : PySem.W.Frag) : V → V → Hp → VK → Prop := fun x y H Q => ∃ p xs i v, x = .ref p ∧ y = .int i ∧ SqL K H p xs ∧ 0 ≤ i ∧ atI xs i = some v ∧ Q v H
theorem get_listN : PGet X (rIxN X.K) := by
  intro pins s σ H x y v u Q I rx ry h
  obtain ⟨p, xs, i, z, rfl, rfl, hq, h0, he, q⟩ := h
  cases rx
  obtain ⟨t, rfl⟩ := ry
  obtain ⟨its, r, pl, hz⟩ := I.list hq
  obtain ⟨j, h1, h2, h3, h4, h5⟩ := atI_get he
  obtain ⟨w, ew, rw'⟩ := r.get h2
  have hl := r.length
  have hn := line63
  have hj : i.toNat = j := by
    rw [seqIndex_of h0 h5] at h1
    exact Option.some.inj h1
  exact wpAny_getItem_list pl.isList h0 (by omega) (by rw [hj]; simpa using ew) ⟨z, H, I, rw', q⟩
end
end Fp

set_option Elab.async false
set_option linter.all false
set_option maxRecDepth 100000
set_option maxHeartbeats 4000000
namespace Fp
open PySem PySem.Spec PyProof.Rows L2
/-! ### repr of what may be None, a number or an object -/
theorem shown_non : PyData.none.shown = ("None" : Str) := rfl
theorem shown_int (i : Int) : (PyData.int i).shown = Str.ofString (toString i) := rfl
section
variable {X : Cx}
theorem call_reprV {lv : Nat} (hq : X.A.guards = some []) (hr : Room lv X.A) : CallR X (.builtin "repr") (fun xs H Q => ∃ v d, xs = [v] ∧ (v = .non ∨ (∃ i, v = .int i) ∨ ∃ a, v = .ref a) ∧ Dp X.K H v d ∧ Shows d ∧ Q (.str d.shown) H) := by
  intro pins s σ H xs us Q I r h
  obtain ⟨v, d, rfl, hv, hd, hs, q⟩ := h
  rcases hv with rfl | ⟨i, rfl⟩ | ⟨a, rfl⟩
  · cases hd
    obtain ⟨u, rfl, ru⟩ := vals1 r
    obtain rfl : u = Value.none := ru
    exact PySem.P.repr_of_none ⟨.str PyData.none.shown, H, I.tok _, ⟨_, rfl⟩, q⟩
  · cases hd
    refine SkE.call_repr_int pins s σ H _ us Q I r ⟨i, rfl, ?_, q⟩
    have h1 := hs.1
    simp only [PyData.showable, decide_eq_true_eq] at h1
    omega
  · exact call_reprD hq hr pins s σ H _ us Q I r ⟨a, d, rfl, hd, hs, q⟩
end
end Fp


set_option Elab.async false
set_option linter.all false
set_option maxRecDepth 100000
set_option maxHeartbeats 4000000
namespace Fp
open PySem PySem.Spec PyProof.Rows L2
/-! ### enumerate(xs, start=k), of a list and of a tuple -/
/-- the items of a row as it stands, each in a new pair with its number from k on -/
def Itq (Sq : Hp → List V → Prop) (k : Int) : It :=
  ⟨fun i H => ∃ xs x, Sq H xs ∧ xs[i]? = some x, fun i H v H2 => ∃ T x, v = .ref T ∧ H T = none ∧ H2 = upd H T (.tup [.int (k + (i : Nat)), x]) ∧ ∀ zs, Sq H zs → zs[i]? = some x, fun i H => ∃ xs, Sq H xs ∧ xs.length ≤ i⟩
theorem walk_q {Sq : Hp → List V → Prop} {k : Int} {xs : List V} : Walk (Itq Sq k) xs.length (fun H => Sq H xs) (YPair (fun i => some (.int (k + (i : Nat)))) (fun i => xs[i]?)) := by
  refine ⟨fun i _ hi q => ⟨xs, xs[i], q, by simp [hi]⟩, fun _ q => ⟨xs, q, Nat.le_refl _⟩, fun i H v H2 _ q y => ?_⟩
  obtain ⟨T, x, y1, y2, y3, y4⟩ := y
  exact ⟨T, _, x, y1, y2, y3, rfl, y4 xs q⟩
section
variable {M : Model} {A : Around} {E : Value → Shared → Prop} {s : Shared} {env : Env}
theorem cw_typeKw {pos : Pos} {T : String} {args : List (Bool × Sem Value)} {kws : List (Option Str × Sem Value)} {Q : Value → Shared → Prop} (hp : args.any (·.1) = false) (hk : kws.any (·.1.isNone) = false)
    (h : wpAny M A (evalArgs (.type T) true args kws) (fun a t => wpAny M A (call (.type T) a.pos a.kw) Q E t) E s) : wpAny M A (callWith pos (.type T) [] args kws) Q E s := by
  unfold callWith
  refine wpAny_bind (wpAny_holding (wpAny_mono h (fun g t hg => wpAny_bind (wpAny_standAt ?_)) fun _ _ z => z))
  simp only [hp, hk, Bool.or_false]
  refine wpAny_bind (wpAny_pure ?_)
  exact wpAny_bind (wpAny_mono hg (fun r t2 hr => wpAny_bind (wpAny_holding (wpAny_point (wpAny_pure hr)))) fun _ _ z => z)
end
section
variable {prog : Program} {w : World} {A : Around} {E : Value → Shared → Prop} {s : Shared}
theorem enum_end_q {e it : Addr} {i : Int} {old : Value} {Q : Option Value → Shared → Prop} (ee : IsEnum s.heap e it i old)
    (dn : ∀ (Q2 : Value → Shared → Prop) (F : Value → Shared → Prop), (∀ h2 x, Heap.ExtBut it s.heap h2 → (∃ o, h2.get? x = some o ∧ o.cls = .type "StopIteration") → F (.ref x) { s with heap := h2 }) → wpAny (model prog w) A.in1 (Builtin.SmallTypes.nextOf (.ref it)) Q2 F s)
    (hQ : ∀ h2, Heap.ExtBut it s.heap h2 → Q none { s with heap := h2 }) : wpAny (model prog w) A (pyNext (.ref e)) Q E s := by
  have ty : s.TypeIs (.ref e) "enumerate" := ⟨_, ee, rfl⟩
  unfold pyNext
  refine wpAny_bind (wpAny_attempt (wpAny_callSpecial?_slot (name := Str.ofString "__next__") ty F.slot_enumerate_next (wpAny_call_entry F.slot_enumerate_next ty F.entry_enumerate_next ?_ (F.args_enumerate_next_1 _))))
  show wpAny (model prog w) _ (field (.ref e) 2 >>= _) _ _ _
  refine wpAny_bind (wpAny_field ee rfl (x := .ref it) rfl (wpAny_bind (dn _ _ fun h2 x eb ox => ?_)))
  obtain ⟨o, oe, oc⟩ := ox
  exact wpAny_bind (wpAny_isInstance (T := "StopIteration") (b := true) ⟨o, oe, oc⟩ isSubtype_stop (wpAny_pure (hQ _ eb)))
end
theorem turn_qL {P : Program} {w : World} {K : PySem.W.Frag} {elts : List Expr} {kk : Nat} {tpos : Pos} (k : Int) (a e it : Addr) :
    Turn P w K (.Tuple elts kk tpos) (Itq (fun H xs => SqL K H a xs) k) [e, it] e (fun i h => (∃ old, IsEnum h e it (k + (i : Nat)) old) ∧ h.IsListIter it a i ∧ e ≠ it) where
  mem := by simp
  obj := fun i h st b hb => by
    obtain ⟨⟨_, ee⟩, ⟨o, oe, _, od⟩, _⟩ := st
    rcases (show b = e ∨ b = it by simpa using hb) with z | z
    · subst z
      exact ⟨_, ee, fun v q => nomatch q⟩
    · subst z
      exact ⟨o, oe, fun v q => by rw [od] at q; cases q⟩
  keep := fun i h h2 st kp => by
    obtain ⟨⟨old, ee⟩, ie, hne⟩ := st
    exact ⟨⟨old, kp e (by simp) _ ee⟩, ie.at fun o q => kp it (by simp) o q, hne⟩
  item := by
    intro Y yP yw yK yc i pn s sl H F I hf st hg
    subst yP yw yK
    obtain ⟨⟨old, ee⟩, ie, hne⟩ := st
    obtain ⟨xs, x, sq, ex⟩ := hg
    obtain ⟨vs, rv, po, _⟩ := I.list sq
    obtain ⟨u, eu, ru⟩ := rv.get ex
    have oa : s.heap.IsList a vs.toArray := po.isList
    have ai : a ≠ it := fun z => by
      subst z
      obtain ⟨o1, q1, c1, _⟩ := ie
      obtain ⟨o2, q2, c2, _⟩ := id oa
      rw [q1] at q2
      cases q2
      rw [c1] at c2
      injection c2 with c3
      exact absurd c3 (by decide)
    have ae : e ≠ a := fun z => by
      subst z
      obtain ⟨o2, q2, c2, _⟩ := id oa
      have q1 : s.heap.get? e = _ := ee
      rw [q1] at q2
      cases q2
      have c3 := c2
      injection c3 with c4
      exact absurd c4 (by decide)
    have le : e < s.heap.objs.size := Heap.lt_size ee
    have li : it < s.heap.objs.size := by
      obtain ⟨_, q, _⟩ := ie
      exact Heap.lt_size q
    have hi : i < vs.toArray.size := by
      have := (List.getElem?_eq_some_iff.mp eu).1
      simpa using this
    refine wpAny_pyNext_enum_itemC (Draws.list (A := Y.A.in1) (show Y.A.in1.handled = none from I.ok.hd yc) it a ai vs.toArray) ee ⟨ie, oa⟩ hi hne (by simp [hne, ae]) fun u2 h2 tk pu oe st2 oT zT kp => ?_
    have e2 : u2 = u := by
      have : vs[i]? = some u2 := by simpa using pu
      rw [eu] at this
      exact Option.some.inj this.symm
    subst e2
    refine ⟨_, rfl, wpAny_letOwnedTupleGo_enum (s := { s with heap := h2, toks := tk + 1 }) oe fun h3 ee3 sb => ?_⟩
    have oT3 := (sb.2 _ (Nat.ne_of_gt le)).trans oT
    have new : ObjOk Y.prog Y.w (upd H s.heap.objs.size (.tup [.int (k + (i : Nat)), x])) h3 s.heap.objs.size (.tup [.int (k + (i : Nat)), x]) :=
      ⟨by show 2 ≤ sizeLine; decide, [.int (k + (i : Nat)) tk, u2], .cons ⟨_, rfl⟩ (.cons ru .nil), ⟨_, oT3, rfl, _, rfl⟩⟩
    have I3 : Inv Y pn sl (upd H s.heap.objs.size (.tup [.int (k + (i : Nat)), x])) { s with heap := h3, toks := tk + 1 } := by
      refine I.turnedNew (ch := [e, it]) (fun b ob hb q => ?_) hf (Nat.le_refl _) new
      exact (sb.2 b fun z => hb (by simp [z])).trans (kp b ob (fun z => hb (by simp [z])) (fun z => hb (by simp [z])) q)
    refine ⟨.ref s.heap.objs.size, _, I3, rfl, ⟨_, x, rfl, I.hok.fresh (Nat.le_refl _), rfl, fun zs hz => ?_⟩, ⟨⟨u2, ?_⟩, st2.1.at fun o q => (sb.2 it (Ne.symm hne)).trans q, hne⟩, fun b hb => ?_⟩
    · rw [I.list_inj hz sq]
      exact ex
    · rw [show k + ((i + 1 : Nat) : Int) = k + (i : Int) + 1 by omega]
      exact ee3
    · have lb : b < s.heap.objs.size := by
        rcases (show b = e ∨ b = it by simpa using hb) with z | z
        · rw [z]
          exact le
        · rw [z]
          exact li
      rw [upd_ne (Nat.ne_of_lt lb)]
      exact (hf b hb).1
  done := by
    intro Y yP yw yK yc i pn s sl H F I hf st hg
    subst yP yw yK
    obtain ⟨⟨old, ee⟩, ie, hne⟩ := st
    obtain ⟨xs, sq, hx⟩ := hg
    obtain ⟨vs, rv, po, _⟩ := I.list sq
    have oa : s.heap.IsList a vs.toArray := po.isList
    obtain ⟨g0, g1, g2, g3, g4, g5⟩ := hf it (by simp)
    have hl := rv.length
    have ai : a ≠ it := fun z => by
      subst z
      obtain ⟨o1, q1, c1, _⟩ := ie
      obtain ⟨o2, q2, c2, _⟩ := id oa
      rw [q1] at q2
      cases q2
      rw [c1] at c2
      injection c2 with c3
      exact absurd c3 (by decide)
    exact enum_end_q ee (fun Q2 F2 hQ2 => wpAny_nextOf_list_end (show Y.A.in1.handled = none from I.ok.hd yc) ie oa (by simp; omega) hQ2) fun h2 eb => ⟨rfl, I.turned (t' := s.toks) (fun b o hb q => eb b o hb q) g0 g1 g3 g4 g5⟩
  self := fun A2 i s Q F st h => by
    obtain ⟨⟨_, ee⟩, _⟩ := st
    exact wpAny_pyIter_enum ee h
theorem turn_qT {P : Program} {w : World} {K : PySem.W.Frag} {elts : List Expr} {kk : Nat} {tpos : Pos} (k : Int) (a e it : Addr) :
    Turn P w K (.Tuple elts kk tpos) (Itq (fun H xs => SqT K H a xs) k) [e, it] e (fun i h => (∃ old, IsEnum h e it (k + (i : Nat)) old) ∧ h.IsTupleIter it a i ∧ e ≠ it) where
  mem := by simp
  obj := fun i h st b hb => by
    obtain ⟨⟨_, ee⟩, ⟨o, oe, _, od⟩, _⟩ := st
    rcases (show b = e ∨ b = it by simpa using hb) with z | z
    · subst z
      exact ⟨_, ee, fun v q => nomatch q⟩
    · subst z
      exact ⟨o, oe, fun v q => by rw [od] at q; cases q⟩
  keep := fun i h h2 st kp => by
    obtain ⟨⟨old, ee⟩, ie, hne⟩ := st
    exact ⟨⟨old, kp e (by simp) _ ee⟩, ie.at fun o q => kp it (by simp) o q, hne⟩
  item := by
    intro Y yP yw yK yc i pn s sl H F I hf st hg
    subst yP yw yK
    obtain ⟨⟨old, ee⟩, ie, hne⟩ := st
    obtain ⟨xs, x, sq, ex⟩ := hg
    obtain ⟨vs, rv, po, _⟩ := I.tuple sq
    obtain ⟨u, eu, ru⟩ := rv.get ex
    have oa : s.heap.IsTuple a vs.toArray := po
    have ai : a ≠ it := fun z => by
      subst z
      obtain ⟨o1, q1, c1, _⟩ := ie
      obtain ⟨o2, q2, c2, _⟩ := id oa
      rw [q1] at q2
      cases q2
      rw [c1] at c2
      injection c2 with c3
      exact absurd c3 (by decide)
    have ae : e ≠ a := fun z => by
      subst z
      obtain ⟨o2, q2, c2, _⟩ := id oa
      have q1 : s.heap.get? e = _ := ee
      rw [q1] at q2
      cases q2
      have c3 := c2
      injection c3 with c4
      exact absurd c4 (by decide)
    have le : e < s.heap.objs.size := Heap.lt_size ee
    have li : it < s.heap.objs.size := by
      obtain ⟨_, q, _⟩ := ie
      exact Heap.lt_size q
    have hi : i < vs.toArray.size := by
      have := (List.getElem?_eq_some_iff.mp eu).1
      simpa using this
    refine wpAny_pyNext_enum_itemC (Draws.tuple (A := Y.A.in1) (show Y.A.in1.handled = none from I.ok.hd yc) it a ai vs.toArray) ee ⟨ie, oa⟩ hi hne (by simp [hne, ae]) fun u2 h2 tk pu oe st2 oT zT kp => ?_
    have e2 : u2 = u := by
      have : vs[i]? = some u2 := by simpa using pu
      rw [eu] at this
      exact Option.some.inj this.symm
    subst e2
    refine ⟨_, rfl, wpAny_letOwnedTupleGo_enum (s := { s with heap := h2, toks := tk + 1 }) oe fun h3 ee3 sb => ?_⟩
    have oT3 := (sb.2 _ (Nat.ne_of_gt le)).trans oT
    have new : ObjOk Y.prog Y.w (upd H s.heap.objs.size (.tup [.int (k + (i : Nat)), x])) h3 s.heap.objs.size (.tup [.int (k + (i : Nat)), x]) :=
      ⟨by show 2 ≤ sizeLine; decide, [.int (k + (i : Nat)) tk, u2], .cons ⟨_, rfl⟩ (.cons ru .nil), ⟨_, oT3, rfl, _, rfl⟩⟩
    have I3 : Inv Y pn sl (upd H s.heap.objs.size (.tup [.int (k + (i : Nat)), x])) { s with heap := h3, toks := tk + 1 } := by
      refine I.turnedNew (ch := [e, it]) (fun b ob hb q => ?_) hf (Nat.le_refl _) new
      exact (sb.2 b fun z => hb (by simp [z])).trans (kp b ob (fun z => hb (by simp [z])) (fun z => hb (by simp [z])) q)
    refine ⟨.ref s.heap.objs.size, _, I3, rfl, ⟨_, x, rfl, I.hok.fresh (Nat.le_refl _), rfl, fun zs hz => ?_⟩, ⟨⟨u2, ?_⟩, st2.1.at fun o q => (sb.2 it (Ne.symm hne)).trans q, hne⟩, fun b hb => ?_⟩
    · rw [I.tuple_inj hz sq]
      exact ex
    · rw [show k + ((i + 1 : Nat) : Int) = k + (i : Int) + 1 by omega]
      exact ee3
    · have lb : b < s.heap.objs.size := by
        rcases (show b = e ∨ b = it by simpa using hb) with z | z
        · rw [z]
          exact le
        · rw [z]
          exact li
      rw [upd_ne (Nat.ne_of_lt lb)]
      exact (hf b hb).1
  done := by
    intro Y yP yw yK yc i pn s sl H F I hf st hg
    subst yP yw yK
    obtain ⟨⟨old, ee⟩, ie, hne⟩ := st
    obtain ⟨xs, sq, hx⟩ := hg
    obtain ⟨vs, rv, po, _⟩ := I.tuple sq
    have oa : s.heap.IsTuple a vs.toArray := po
    obtain ⟨g0, g1, g2, g3, g4, g5⟩ := hf it (by simp)
    have hl := rv.length
    have ai : a ≠ it := fun z => by
      subst z
      obtain ⟨o1, q1, c1, _⟩ := ie
      obtain ⟨o2, q2, c2, _⟩ := id oa
      rw [q1] at q2
      cases q2
      rw [c1] at c2
      injection c2 with c3
      exact absurd c3 (by decide)
    exact enum_end_q ee (fun Q2 F2 hQ2 => wpAny_nextOf_tuple_end (show Y.A.in1.handled = none from I.ok.hd yc) ie oa (by simp; omega) hQ2) fun h2 eb => ⟨rfl, I.turned (t' := s.toks) (fun b o hb q => eb b o hb q) g0 g1 g3 g4 g5⟩
  self := fun A2 i s Q F st h => by
    obtain ⟨⟨_, ee⟩, _⟩ := st
    exact wpAny_pyIter_enum ee h
def iQL (K : PySem.W.Frag) (k : Int) (ta : TA) : TI := fun σ H R => ta σ H fun vs H1 => ∃ a xs, vs = [.ref a] ∧ SqL K H1 a xs ∧ R (Itq (fun H xs => SqL K H a xs) k) H1
theorem pi_qL {X : Cx} {e : Expr} {ta : TA} {p pos tpos kp cp : Pos} {elts : List Expr} {kk jj : Nat} {k : Int} (k0 : -(2 ^ 63) ≤ k) (k1 : k < 2 ^ 63) (hg : Gl X "enumerate") (hm : X.mg "enumerate" = none) (ha : PA X [e] ta) (hs : starEach [e] X.env = [(false, eval e X.env)] := by rfl) :
    PI X (.Tuple elts kk tpos) (.Call (.Name "enumerate" p) [e] [⟨some "start", .Constant (.int k) jj cp, kp⟩] pos) (iQL X.K k ta) := by
  refine ⟨fun pn s sl H R I h => wpAny_Call_Name_kw (ld_blt I hg hm boot_enumerate ?_)⟩
  have he : backTo pos (starEach [e] X.env) = (false, eval e X.env) :: [] := by
    rw [hs]
    rfl
  refine cw_typeKw (by rw [he]; rfl) (by rfl) ?_
  have go := ha.run pos pn s sl H _ I h
  rw [he] at go ⊢
  refine evalArgs_kwB (by rfl) (thn go fun us s1 z1 => ?_)
  obtain ⟨vs, H1, I1, r1, q1⟩ := z1
  have pkw : PK X [⟨some "start", .Constant (.int k) jj cp, kp⟩] (tCons (tC (.int k)) tNil) := pk_cons pe_int pk_nil
  refine thn (pkw.run pos pn s1 sl H1 (fun zs H2 => zs = [.int k] ∧ H2 = H1) I1 ⟨rfl, rfl⟩) fun ws s2 z2 => ?_
  obtain ⟨zs, H2, I2, r2, rfl, rfl⟩ := z2
  obtain ⟨a, xs, rfl, sq, q⟩ := q1
  cases r1 with
  | cons ra rn =>
    cases rn
    cases ra
    cases r2 with
    | cons rk rn =>
      cases rn
      obtain ⟨tk, rfl⟩ := rk
      obtain ⟨us, rv, po, _⟩ := I2.list sq
      have oa : s2.heap.IsList a us.toArray := po.isList
      refine enum_begins_start (begins_list a us.toArray) oa k0 k1 fun h2 ee oi _ kp2 => wpAny_pyIter_enum ee ?_
      have I3 : Inv X pn sl H2 { s2 with heap := h2 } := I2.kept (t' := s2.toks) kp2
      refine ⟨s2.heap.objs.size + 1, [s2.heap.objs.size + 1, s2.heap.objs.size], _, _, H2, rfl, I3, turn_qL k a (s2.heap.objs.size + 1) s2.heap.objs.size, ⟨⟨.none, ?_⟩, ⟨_, oi, rfl, rfl⟩, Nat.succ_ne_self _⟩, fun b hb => ?_, q⟩
      · rw [show k + ((0 : Nat) : Int) = k by omega]
        exact ee
      · have lb : s2.heap.objs.size ≤ b := by
          rcases (show b = s2.heap.objs.size + 1 ∨ b = s2.heap.objs.size by simpa using hb) with z | z
          · rw [z]
            exact Nat.le_add_right _ _
          · rw [z]
            exact Nat.le_refl _
        exact I2.fpOk lb (I2.hok.fresh lb)
def iQT (K : PySem.W.Frag) (k : Int) (ta : TA) : TI := fun σ H R => ta σ H fun vs H1 => ∃ a xs, vs = [.ref a] ∧ SqT K H1 a xs ∧ R (Itq (fun H xs => SqT K H a xs) k) H1
theorem pi_qT {X : Cx} {e : Expr} {ta : TA} {p pos tpos kp cp : Pos} {elts : List Expr} {kk jj : Nat} {k : Int} (k0 : -(2 ^ 63) ≤ k) (k1 : k < 2 ^ 63) (hg : Gl X "enumerate") (hm : X.mg "enumerate" = none) (ha : PA X [e] ta) (hs : starEach [e] X.env = [(false, eval e X.env)] := by rfl) :
    PI X (.Tuple elts kk tpos) (.Call (.Name "enumerate" p) [e] [⟨some "start", .Constant (.int k) jj cp, kp⟩] pos) (iQT X.K k ta) := by
  refine ⟨fun pn s sl H R I h => wpAny_Call_Name_kw (ld_blt I hg hm boot_enumerate ?_)⟩
  have he : backTo pos (starEach [e] X.env) = (false, eval e X.env) :: [] := by
    rw [hs]
    rfl
  refine cw_typeKw (by rw [he]; rfl) (by rfl) ?_
  have go := ha.run pos pn s sl H _ I h
  rw [he] at go ⊢
  refine evalArgs_kwB (by rfl) (thn go fun us s1 z1 => ?_)
  obtain ⟨vs, H1, I1, r1, q1⟩ := z1
  have pkw : PK X [⟨some "start", .Constant (.int k) jj cp, kp⟩] (tCons (tC (.int k)) tNil) := pk_cons pe_int pk_nil
  refine thn (pkw.run pos pn s1 sl H1 (fun zs H2 => zs = [.int k] ∧ H2 = H1) I1 ⟨rfl, rfl⟩) fun ws s2 z2 => ?_
  obtain ⟨zs, H2, I2, r2, rfl, rfl⟩ := z2
  obtain ⟨a, xs, rfl, sq, q⟩ := q1
  cases r1 with
  | cons ra rn =>
    cases rn
    cases ra
    cases r2 with
    | cons rk rn =>
      cases rn
      obtain ⟨tk, rfl⟩ := rk
      obtain ⟨us, rv, po, _⟩ := I2.tuple sq
      have oa : s2.heap.IsTuple a us.toArray := po
      refine enum_begins_start (begins_tuple a us.toArray) oa k0 k1 fun h2 ee oi _ kp2 => wpAny_pyIter_enum ee ?_
      have I3 : Inv X pn sl H2 { s2 with heap := h2 } := I2.kept (t' := s2.toks) kp2
      refine ⟨s2.heap.objs.size + 1, [s2.heap.objs.size + 1, s2.heap.objs.size], _, _, H2, rfl, I3, turn_qT k a (s2.heap.objs.size + 1) s2.heap.objs.size, ⟨⟨.none, ?_⟩, ⟨_, oi, rfl, rfl⟩, Nat.succ_ne_self _⟩, fun b hb => ?_, q⟩
      · rw [show k + ((0 : Nat) : Int) = k by omega]
        exact ee
      · have lb : s2.heap.objs.size ≤ b := by
          rcases (show b = s2.heap.objs.size + 1 ∨ b = s2.heap.objs.size by simpa using hb) with z | z
          · rw [z]
            exact Nat.le_add_right _ _
          · rw [z]
            exact Nat.le_refl _
        exact I2.fpOk lb (I2.hok.fresh lb)
end Fp

set_option Elab.async false
set_option linter.all false
namespace Fp
open PySem PySem.Spec PyProof.Rows L2
/-! ### isinstance of whole numbers -/
theorem int_bool (K : PySem.W.Frag) : PySem.W.kitOne K (.type "int") (.type "bool") = some false := by
  first | rfl | (unfold PySem.W.kitOne; rfl) | (unfold PySem.W.kitOne PySem.W.kitCls; simp) | skip
end Fp

set_option Elab.async false
set_option linter.all false
set_option maxRecDepth 100000
set_option maxHeartbeats 4000000
namespace Fp
open PySem PySem.Spec PyProof.Rows L2
/-! ### all(e for t in xs), any(e for t in xs): e of any kind, xs whatever is walked -/
/-- a code object's table at P: it may grow -/
def tabx (P : Addr) : HO := .ext fun h => ∃ ps : Array Value, h.get? P = some { cls := .none, data := .fields ps } ∧ TriplesOk ps.toList
theorem tabx_at {Pr : Program} {w : World} {H : Hp} {h : Heap} {P : Addr} (ok : HOk Pr w H h) (e : H P = some (tabx P)) : ∃ ps : Array Value, h.get? P = some { cls := .none, data := .fields ps } ∧ TriplesOk ps.toList :=
  (show ObjOk Pr w H h P (.ext fun h => ∃ ps : Array Value, h.get? P = some { cls := .none, data := .fields ps } ∧ TriplesOk ps.toList) from ok P _ e).1
theorem tabx_ok {Pr : Program} {w : World} {H : Hp} {h : Heap} {P : Addr} {ps : Array Value} (e : h.get? P = some { cls := .none, data := .fields ps }) (t : TriplesOk ps.toList) : ObjOk Pr w H h P (tabx P) :=
  ⟨⟨ps, e, t⟩, ⟨_, e⟩, fun _ _ ⟨qs, e1, e2⟩ k => ⟨qs, k _ e1, e2⟩⟩
theorem upd_self {H : Hp} {a : Addr} {o : HO} (h : H a = some o) : upd H a o = H := by
  funext b
  by_cases e : b = a
  · rw [e, upd_same, h]
  · rw [upd_ne e]
/-- the generator expression's scope -/
structure GxS (scope : Scope) : Prop where
  co : scope.isCoroutine = false
  cell : ∀ y ∈ scope.names, y.2 ≠ .cell
  dot : scope.names.lookup (".0" : Str) = some NameKind.local
def gxC (scope : Scope) : Bool := !scope.isCoroutine && (scope.names.all fun y => decide (y.2 ≠ .cell)) && decide (scope.names.lookup (".0" : Str) = some NameKind.local)
theorem gxS_by {scope : Scope} (h : gxC scope = true) : GxS scope := by
  unfold gxC at h
  simp only [Bool.and_eq_true, List.all_eq_true, decide_eq_true_eq, Bool.not_eq_true'] at h
  exact ⟨h.1.1, h.1.2, h.2⟩
/-- the context of such a generator's frame: begun at s, its iterator's objects fp, itself at p -/
abbrev gxX (X : Cx) (s : Shared) (H : Hp) (cenv : Env) (fp : List Addr) (p : Addr × Obj) : Cx :=
  { X with A := X.A.in1.in1.deeper cenv, s_0 := s, H_0 := H, env := cenv, outer := X.stack, stack := cenv :: X.stack, ex := fp, fn := fun _ => false, pn := [p], xe := fun _ _ => False }
theorem gx_room {k : Nat} {A : Around} {env : Env} (r : Room (k + 1) A) : Room k (A.in1.in1.deeper env) :=
  ⟨r.hd, by have := r.dp; show A.depth + 1 + 3 * k + 5 < _; omega, by have := r.un; show A.units + 1 + 1 + 3 + 16 * k + 200 < _; omega⟩
section
variable {X : Cx} {pins : List (Addr × Obj)} {σ : L2.St} {H : Hp} {s : Shared}
theorem clo_get {cells : List (Str × Addr)} {names : List (Str × NameKind)} {y : Str} {c : Addr} (hf : ∀ z ∈ names, z.2 = .free → ∃ c, cells.lookup z.1 = some c) (h : (cloFrom cells names []).lookup y = some c) : (y, NameKind.free) ∈ names ∧ cells.lookup y = some c := by
  rcases cloFrom_mem (PySem.mem_of_lookup h) with m | ⟨m, e⟩
  · cases m
  · obtain ⟨c2, h2⟩ := hf _ m rfl
    have h2' : cells.lookup y = some c2 := h2
    rw [h2'] at e
    rw [h2', e]
    exact ⟨m, rfl⟩
theorem clo_has {cells : List (Str × Addr)} {names : List (Str × NameKind)} {y : Str} (hf : ∀ z ∈ names, z.2 = .free → ∃ c, cells.lookup z.1 = some c) (h : (y, NameKind.free) ∈ names) : ∃ c, (cloFrom cells names []).lookup y = some c ∧ cells.lookup y = some c := by
  obtain ⟨c, hc⟩ := mem_lookup (cloFrom_has (cells := cells) (acc := []) h)
  exact ⟨c, hc, (clo_get hf hc).2⟩
/-- the generator's frame is laid -/
theorem gx_begin {scope : Scope} {own : List (Str × Nat)} {fp : List Addr} {code : Value} {cenv : Env} {p : Addr × Obj} {s5 : Shared} {m : Str → Option Value} (I : Inv X pins σ H s) (ok : BlkOk X.N X.env.scope scope own) (hN : X.N.Nodup)
    (nc : ∀ y ∈ scope.names, y.2 ≠ .cell) (hfp : ∀ b ∈ fp, FpOk X pins H b ∧ b < s.heap.objs.size) (ce : cenv = genEnv scope (cloFrom X.env.cells scope.names []) s.heap.objs.size code builtinsNs X.env) (k : ∀ b o, s.heap.get? b = some o → s5.heap.get? b = some o)
    (hn : s5.heap.Ns s.heap.objs.size m) (hb : AllBare s5.gens) (ho : s5.os = s.os) (hp : s5.heap.get? p.1 = some p.2) (hps : s.heap.objs.size < p.1) (hpd : ∀ v, p.2.data ≠ .cell v) : Inv (gxX X s H cenv fp p) [] (wipe σ (own.map (·.2))) H s5 := by
  have hf : ∀ y ∈ scope.names, y.2 = .free → ∃ c, X.env.cells.lookup y.1 = some c := fun y hy e => (ok.free y hy e).elim (fun z => I.ok.has _ (.inl z)) fun z => I.ok.has _ (.inr z)
  have eL : cenv.locals = s.heap.objs.size := by rw [ce]; rfl
  have eC : cenv.cells = cloFrom X.env.cells scope.names [] := by rw [ce]; rfl
  have eS : cenv.scope = scope := by rw [ce]; rfl
  have cl : ∀ {y c}, cenv.cells.lookup y = some c → X.env.cells.lookup y = some c ∧ c < s.heap.objs.size := fun {y c} h => by
    rw [eC] at h
    have h2 := (clo_get hf h).2
    obtain ⟨v, hv⟩ := I.cell y c h2
    exact ⟨h2, hv.lt⟩
  have ok2 : (gxX X s H cenv fp p).Ok := {
    mod := I.ok.mod, bs := I.bs, bsz := Nat.le_trans I.ok.bsz I.sz, funs := I.stack, frf := I.stkFree
    kind := by show cenv.scope.kind = _; rw [eS]; exact ok.kind
    glob := by show cenv.globals = _; rw [ce]; exact I.ok.glob
    blt := by show cenv.builtins = _; rw [ce]; rfl
    above := by show _ ≤ cenv.locals; rw [eL]; exact Nat.le_refl _
    inj := fun y z c h1 h2 => I.ok.inj y z c (cl h1).1 (cl h2).1
    has := fun y hy => by
      have look : ∀ q, cenv.kindOf y = some q → q = .cell ∨ q = .free → ∃ c, cenv.cells.lookup y = some c := fun q h1 h2 => by
        have h3 : scope.names.lookup y = some q := by
          have z : cenv.scope.names.lookup y = some q := h1
          rw [eS] at z
          exact z
        have m1 := PySem.mem_of_lookup h3
        rcases h2 with e | e
        · exact absurd e (nc _ m1)
        · subst e
          obtain ⟨c, h4, _⟩ := clo_has hf m1
          exact ⟨c, by rw [eC]; exact h4⟩
      exact hy.elim (fun z => look _ z (.inl rfl)) fun z => look _ z (.inr rfl)
    cab := fun _ _ z => absurd z Bool.false_ne_true
    hd := I.ok.hd
    frames := Around.frames_deeper I.ok.frames
    stk := .inr ⟨rfl, by show cenv.frame = some cenv.locals; rw [ce]; rfl⟩
    exf := fun b hb => ⟨by show b ≠ cenv.locals; rw [eL]; exact Nat.ne_of_lt (hfp b hb).2, fun y c h => (hfp b hb).1.2.2.2.2.1 y c (cl h).1⟩
    noex := fun b o e hb => (hfp b hb).1.2.2.2.1.elim (fun z => I.ok.noex b o e z) fun z => Nat.lt_irrefl _ (Nat.lt_of_lt_of_le (Heap.lt_size e) (Nat.le_trans I.ok.bsz z))
    exfs := fun b hb z => by
      rcases List.mem_cons.mp (I.stkSub b z) with y | y
      · exact (hfp b hb).1.2.1 y
      · exact (hfp b hb).1.2.2.1 y }
  refine { ok := ok2, os := ho, bare := hb, base := Un.kept k, loc := ⟨m, ?_, ?_⟩, cell := ?_, free := ?_, freeC := ?_, pin := ?_, hok := I.hok.kept k, len := by rw [wipe_length]; exact I.len }
  · show s5.heap.Ns cenv.locals m
    rw [eL]
    exact hn
  · intro i y v e1 e2 e3
    obtain ⟨e2, own2⟩ := wipe_some e2
    have free : scope.names.lookup y = some .free := by
      have no : ∀ {q}, scope.names.lookup y = some q → q = .local ∨ q = .cell → False := fun {q} h1 h2 => by
        have m1 := PySem.mem_of_lookup h1
        rcases h2 with e | e
        · subst e
          rcases ok.own _ m1 (.inl rfl) with o | o
          · obtain ⟨q, hq, he⟩ := List.mem_map.mp o
            have e4 := ok.ix q hq
            have he2 : q.1 = y := he
            rw [he2] at e4
            exact absurd (List.mem_map.mpr ⟨q, hq, nodup_ix hN e4 e1⟩) own2
          · exact absurd (List.mem_of_getElem? e1) o
        · exact absurd e (nc _ m1)
      have z : Vis cenv.scope y := e3
      unfold Vis at z
      rw [eS] at z
      rcases z with z | z | z
      · exact (no z (.inl rfl)).elim
      · exact (no z (.inr rfl)).elim
      · exact z
    obtain ⟨c, h4, h5⟩ := clo_has hf (PySem.mem_of_lookup free)
    obtain ⟨m0, hn0, look⟩ := I.loc
    have vis : Vis X.env.scope y := (ok.free _ (PySem.mem_of_lookup free) rfl).elim (fun z => .inr (.inl z)) fun z => .inr (.inr z)
    obtain ⟨u, ru, q⟩ := look i y v e1 e2 vis
    refine ⟨u, ru, .inr ⟨.inr ?_, c, ?_, ?_⟩⟩
    · show cenv.scope.names.lookup y = some .free
      rw [eS]
      exact free
    · show cenv.cells.lookup y = some c
      rw [eC]
      exact h4
    · rcases q with ⟨z, _⟩ | ⟨_, c2, z1, z2⟩
      · have z : X.env.scope.names.lookup y = some .local := z
        rcases ok.free _ (PySem.mem_of_lookup free) rfl with z2 | z2
        · exact absurd (z.symm.trans z2) (by decide)
        · exact absurd (z.symm.trans z2) (by decide)
      · rw [h5] at z1
        cases z1
        exact z2.keeps k
  · intro y c h
    obtain ⟨v, hv⟩ := I.cell y c (cl h).1
    exact ⟨v, hv.keeps k⟩
  · show H cenv.locals = none
    rw [eL]
    exact I.hok.fresh (Nat.le_refl _)
  · intro y c h
    exact I.freeC y c (cl h).1
  · intro q hq
    have hq2 : q = p := by simpa using hq
    subst hq2
    refine ⟨hp, I.hok.fresh (Nat.le_of_lt hps), ?_, fun z => ?_, hpd⟩
    · show q.1 ≠ cenv.locals
      rw [eL]
      exact Nat.ne_of_gt hps
    · obtain ⟨_, o, e, _⟩ := I.stack.mem z
      exact Nat.lt_irrefl _ (Nat.lt_of_lt_of_le (Heap.lt_size e) (Nat.le_of_lt hps))
/-- nothing of ours has changed -/
structure Idle (s s2 : Shared) : Prop where
  os : s2.os = s.os
  bare : AllBare s2.gens
  keep : ∀ b o, s.heap.get? b = some o → s2.heap.get? b = some o
theorem Inv.idle {s2 : Shared} (I : Inv X pins σ H s) (z : Idle s s2) : Inv X pins σ H s2 := I.call' (ch := []) z.os (Un.kept z.keep) (I.hok.kept z.keep) z.bare (fun b q => absurd q (by simp))
/-- the end of the generator; what it hands out -/
def gxR (Y : Cx) (z : Bool) (Q : VK) : GenEnd := fun _ _ r s1 => r = .ok .next ∧ ∃ σ1 H1, Inv Y [] σ1 H1 s1 ∧ Q (.bl !z) H1
def gxY (Y : Cx) (z : Bool) (Q : VK) : Protocol := fun _ _ v s1 kap => ∃ b σ1 H1, v = .bool b ∧ Inv Y [] σ1 H1 s1 ∧ (b = z → Q (.bl z) H1) ∧ (b ≠ z → ∀ s2, Idle s1 s2 → kap (.send .none) s2)
/-- what a turn asks, W by the turn and a measure -/
def gxW (z : Bool) (J : It) (g : TG) (te : TE) (vs : List Nat) (σ : L2.St) (Q : VK) (W : Nat → Nat → Hp → Prop) : Prop := ∀ i m H2, W i m H2 → (J.stop i H2 ∧ Q (.bl !z) H2) ∨ (J.go i H2 ∧ ∀ x H3, J.yld i H2 x H3 →
  g x (wipe σ vs) H3 fun σ4 H4 => wipe σ4 vs = wipe σ vs ∧ te σ4 H4 fun y H5 => ∃ b, y = .bl b ∧ (b = z → Q (.bl z) H5) ∧ (b ≠ z → ∃ m2, m2 < m ∧ W (i + 1) m2 H5))
theorem gx_over {A : Around} {elt tg iter : Expr} {scope : Scope} {pos : Pos} {it acc : Value} {env : Env} : A.over (.compLoop (.GeneratorExp elt [⟨tg, iter, [], 0⟩] scope pos) 0 it acc env) [] = A.deeper env := rfl
theorem gx_loop {Y : Cx} {Aw : Around} {z : Bool} {Q : VK} {elt tg iter : Expr} {scope : Scope} {pos : Pos} {own : List Nat} {fp : List Addr} {it : Addr} {tn : Nat → Heap → Prop} {J : It} {g : TG} {te : TE} {W : Nat → Nat → Hp → Prop} {σ : L2.St}
    (eA : Y.A = Aw.deeper Y.env) (eX : Y.ex = fp) (eF : Y.outer = Y.outer) (xe : Y.xe = fun _ _ => False) (calm : Y.calm = true) (T : Turn Y.prog Y.w Y.K tg J fp it tn) (pg : PG Y tg g) (pe : PE Y elt te) (hW : gxW z J g te own σ Q W) (apart : ∀ b ∈ fp, ∀ p ∈ Y.pn, p.1 ≠ b) (co : Y.env.scope.isCoroutine = false) :
    ∀ (n i m : Nat) (H1 : Hp) (s0 s1 : Shared), m < n → W i m H1 → Inv Y [] (wipe σ own) H1 s1 → tn i s1.heap → (∀ b ∈ fp, H1 b = none) →
      Seg (model Y.prog Y.w) Aw (gxR Y z Q) (gxY Y z Q) n s0 (.compLoop (.GeneratorExp elt [⟨tg, iter, [], 0⟩] scope pos) 0 (.ref it) .none Y.env) ((model Y.prog Y.w).den (.compLoop (.GeneratorExp elt [⟨tg, iter, [], 0⟩] scope pos) 0 (.ref it) .none Y.env)) [] s1 := by
  intro n
  induction n with
  | zero => exact fun _ m _ _ _ h => absurd h (Nat.not_lt_zero m)
  | succ n ih =>
    intro i m H1 s0 s1 hm w I st nf
    have stat : ∀ {σ2 : L2.St} {H2 : Hp} {s2 : Shared}, Inv Y [] σ2 H2 s2 → (∀ b ∈ fp, H2 b = none) → ∀ b ∈ fp, FpOk Y [] H2 b := fun I2 hn b hb =>
      ⟨hn b hb, (I2.ok.exf b (by rw [eX]; exact hb)).1, I2.ok.exfs b (by rw [eX]; exact hb), .inl (by rw [eX]; exact hb), fun x c e => (I2.ok.exf b (by rw [eX]; exact hb)).2 x c e, fun p hp => apart b hb p (by simpa using hp)⟩
    show Seg _ Aw _ _ _ s0 _ ((compTurn (.GeneratorExp elt [⟨tg, iter, [], 0⟩] scope pos) 0 (.ref it) .none Y.env).onRaise (leaving Y.env)) [] s1
    rw [compTurn_gen]
    rw [Sem.onRaise_eq_wrap]
    refine seg_bind_wrap (wpAny_standAt ?_)
    rcases hW i m H1 w with ⟨stop, q⟩ | ⟨go, step⟩
    · have td := T.done Y rfl rfl rfl calm i [] s1 _ H1 (fun _ _ => False) I (stat I nf) st stop
      refine seg_bind_wrap ?_
      rw [gx_over, ← eA]
      refine wpAny_mono td (fun r s2 y => ?_) (fun _ _ y => y.elim)
      obtain ⟨hr, I2⟩ := y
      subst hr
      exact seg_end (.ok .next) ⟨rfl, _, _, I2, q⟩
    · have ti := T.item Y rfl rfl rfl calm i [] s1 _ H1 (fun _ _ => False) I (stat I nf) st go
      refine seg_bind_wrap ?_
      rw [gx_over, ← eA]
      refine wpAny_mono ti (fun r s2 y => ?_) (fun _ _ y => y.elim)
      obtain ⟨u, hr, h2⟩ := y
      subst hr
      refine seg_bind_wrap ?_
      rw [gx_over, ← eA]
      refine wpAny_mono h2 (fun _ s3 y => ?_) (fun _ _ y => y.elim)
      obtain ⟨x, H3, I3, r3, y3, st3, n3⟩ := y
      have P3 := I3.pinned (stat I3 n3) (T.obj _ _ st3)
      refine seg_bind_wrap ?_
      rw [gx_over, ← eA]
      refine wpAny_mono (pg.run _ s3 _ H3 x u _ P3 r3 (step x H3 y3)) (fun _ s4 y => ?_) (fun _ _ y => by rw [xe] at y; exact y.elim)
      obtain ⟨σ4, H4, I4, hw4, q4⟩ := y
      refine seg_bind_wrap (wpAny_tests_nil ?_)
      simp only [if_true]
      have out : ∀ v, yieldOut Y.env v = yieldValue v := fun v => by
        simp only [yieldOut, co, Bool.false_eq_true, if_false]
      simp only [out]
      rw [Sem.bind_eq_wrap', Sem.bind_eq_wrap']
      rw [Sem.wrap_wrap, Sem.wrap_wrap]
      refine seg_wrap ?_
      rw [gx_over, ← eA]
      refine wpAny_mono (pe.run _ s4 σ4 H4 _ I4 q4) (fun v s5 y => ?_) (fun _ _ y => by rw [xe] at y; exact y.elim)
      obtain ⟨yv, H5, I5, r5, b, eb, hz, hnz⟩ := y
      subst eb
      obtain rfl : v = Value.bool b := r5
      refine seg_at (seg_yield rfl rfl rfl ?_)
      refine ⟨b, σ4, H5, rfl, I5.unpinned (pins := []), hz, fun ne s6 idle => ?_⟩
      obtain ⟨m2, lt2, w2⟩ := hnz ne
      have pin : ∀ c ∈ fp, ∀ o, s3.heap.get? c = some o → s5.heap.get? c = some o ∧ H5 c = none := fun c hc o e =>
        let y := I5.pin (c, o) (List.mem_append_right _ (List.mem_append_right _ (mem_pinsAt hc e)))
        ⟨y.1, y.2.1⟩
      have hl : (wipe σ own).length = σ4.length := by rw [← hw4, wipe_length]
      have I6 : Inv Y [] (wipe σ own) H5 s6 := Inv.idle ((I5.unpinned (pins := [])).weak hl fun j v e => by
        rw [← hw4] at e
        exact (wipe_some e).1) idle
      refine seg_again rfl (ih (i + 1) m2 H5 s6 s6 (by omega) w2 I6 (T.keep _ _ _ st3 fun c hc o e => idle.keep _ _ (pin c hc o e).1) fun c hc => ?_)
      obtain ⟨o, e, _⟩ := T.obj _ _ st3 c hc
      exact (pin c hc o e).2
theorem gx_first {Y : Cx} {Aw : Around} {R : GenEnd} {P : Protocol} {n : Nat} {elt tg iter : Expr} {scope : Scope} {pos : Pos} {it : Addr} {s0 s1 : Shared}
    (self : ∀ (A : Around) (s : Shared) (Q : Value → Shared → Prop) (E : Value → Shared → Prop), s = s1 → Q (.ref it) s → wpAny (model Y.prog Y.w) A (pyIter (.ref it)) Q E s)
    (loop : Seg (model Y.prog Y.w) Aw R P n s0 (.compLoop (.GeneratorExp elt [⟨tg, iter, [], 0⟩] scope pos) 0 (.ref it) .none Y.env) ((model Y.prog Y.w).den (.compLoop (.GeneratorExp elt [⟨tg, iter, [], 0⟩] scope pos) 0 (.ref it) .none Y.env)) [] s1) :
    Seg (model Y.prog Y.w) Aw R P n s0 (.compStart (.GeneratorExp elt [⟨tg, iter, [], 0⟩] scope pos) 0 (.ref it) .none Y.env) ((model Y.prog Y.w).den (.compStart (.GeneratorExp elt [⟨tg, iter, [], 0⟩] scope pos) 0 (.ref it) .none Y.env)) [] s1 := by
  show Seg _ Aw _ _ _ s0 _ ((compStart (.GeneratorExp elt [⟨tg, iter, [], 0⟩] scope pos) 0 (.ref it) .none Y.env).onRaise (leaving Y.env)) [] s1
  unfold compStart
  rw [Sem.onRaise_eq_wrap]
  show Seg _ Aw _ _ _ s0 _ ((ask >>= _).wrap _ _ _ _) [] s1
  refine seg_bind_wrap (wpAny_askSetting ?_)
  split
  · exact seg_again rfl loop
  · first
      | exact seg_bind_wrap (wpAny_rule (seg_bind_wrap (wpAny_standAt (seg_bind_wrap (self _ _ _ _ rfl (seg_again rfl loop))))))
      | (refine seg_bind_wrap (wpAny_rule ?_)
         show Seg _ Aw _ _ _ s0 _ ((standAt iter.pos >>= _).wrap _ _ _ _) [] s1
         exact seg_bind_wrap (wpAny_standAt (seg_bind_wrap (self _ _ _ _ rfl (seg_again rfl loop)))))
end
end Fp

set_option Elab.async false
set_option linter.all false
set_option maxRecDepth 100000
set_option maxHeartbeats 4000000
namespace Fp
open PySem PySem.Spec PyProof.Rows L2
section
variable {Y : Cx} {a : Addr} {g : Nat} {go : Obj} {z : Bool} {Q : VK}
theorem gens_of {s : Shared} {g : Nat} {x : GenState} (h : AllBare s.gens) (hx : x.bare = true) : AllBare (s.setGen g x).gens := allBare_setGen h hx
/-- what the consumer knows ahead of a turn -/
def gxAt (Y : Cx) (A : Around) (a : Addr) (g : Nat) (z : Bool) (Q : VK) (n : Nat) (s : Shared) : Prop :=
  s.heap.IsGen a g ∧ s.heap.NoLimit ∧ g < s.gens.size ∧ AllBare s.gens ∧ s.os = Y.s_0.os ∧
    ∃ gs, s.gens[g]? = some gs ∧ gs.Goes (model Y.prog Y.w) A (gxR Y z Q) (gxY Y z Q) n (.send .none) (s.setGen g .running)
/-- one turn of the consumer: it gets None and is at the end, or b -/
theorem gx_next {A : Around} {E : Value → Shared → Prop} {n : Nat} {s : Shared} {QQ : Option Value → Shared → Prop} (hh : A.handled = none) (hd : A.depth < recursionLimit) (hpn : Y.pn = [(a, go)]) (hgo : ∀ h : Heap, h.get? a = some go → h.IsGen a g)
    (h : gxAt Y A.in1 a g z Q n s)
    (hend : ∀ σ1 H1 s1 s2, Inv Y [] σ1 H1 s1 → Idle s1 s2 → Q (.bl !z) H1 → QQ none s2)
    (hstop : ∀ σ1 H1 s1 s2, Inv Y [] σ1 H1 s1 → Idle s1 s2 → Q (.bl z) H1 → QQ (some (.bool z)) s2)
    (hmore : ∀ s2, (∃ m, n = m + 1 ∧ ∀ s3, s3.gens = s2.gens → s3.os = s2.os → (∀ b o, s2.heap.get? b = some o → s3.heap.get? b = some o) → gxAt Y A.in1 a g z Q m s3) → QQ (some (.bool !z)) s2) :
    wpAny (model Y.prog Y.w) A (pyNext (.ref a)) QQ E s := by
  obtain ⟨hg, hl, hlt, hb, hos, gs, hgs, hgoes⟩ := h
  have at_ : ∀ {σ1 : L2.St} {H1 : Hp} {s1 : Shared}, Inv Y [] σ1 H1 s1 → s1.heap.get? a = some go := fun I => (I.pin (a, go) (by rw [hpn]; simp)).1
  refine GenW.wpAny_gsz (n := g + 1) hlt (wpAny_pyNext_genexpQ (P := fun _ _ s1 => ∃ σ1 H1, Inv Y [] σ1 H1 s1 ∧ Q (.bl !z) H1) hh hl hd hg hgs hgoes (fun v s1 gs2 hbare hv => ?_) (fun s1 hp h2 hk => ?_))
  · intro size
    obtain ⟨b, σ1, H1, rfl, I1, hz, hnz⟩ := hv
    have idle1 : Idle s1 (s1.setGen g gs2) := ⟨rfl, gens_of I1.bare hbare, fun _ _ e => e⟩
    have size1 : g < s1.gens.size := by
      have e := GenW.setGen_size s1 g gs2
      omega
    by_cases hbz : b = z
    · subst hbz
      exact hstop σ1 H1 s1 _ I1 idle1 (hz rfl)
    · have eb : b = !z := by cases b <;> cases z <;> simp_all
      have wake := hnz hbz
      rw [eb]
      cases n with
      | zero => exact (wake s1 ⟨rfl, I1.bare, fun _ _ e => e⟩).elim
      | succ m =>
        refine hmore _ ⟨m, rfl, fun s3 e1 e2 k => ?_⟩
        have k1 : ∀ b o, s1.heap.get? b = some o → s3.heap.get? b = some o := k
        have os3 : s3.os = s1.os := e2
        have gn : s3.gens = (s1.setGen g gs2).gens := e1
        refine ⟨hgo _ (k1 _ _ (at_ I1)), I1.nolimit.keeps k1, by rw [gn, GenW.setGen_size]; exact size1, by rw [gn]; exact idle1.bare, os3.trans I1.os, gs2, by rw [gn]; exact setGen_at size1, ?_⟩
        exact wake (s3.setGen g .running) ⟨os3, gens_of (s := s3) (by rw [gn]; exact idle1.bare) rfl, k1⟩
  · intro size
    obtain ⟨σ1, H1, I1, q⟩ := hp
    exact hend σ1 H1 s1 _ I1 ⟨rfl, gens_of I1.bare rfl, hk⟩ q
theorem gx_all {A : Around} {R : Result → Shared → Prop} (hh : A.handled = none) (hd : A.depth < recursionLimit) (hpn : Y.pn = [(a, go)]) (hgo : ∀ h : Heap, h.get? a = some go → h.IsGen a g)
    (hR : ∀ b σ1 H1 s1 s2, Inv Y [] σ1 H1 s1 → Idle s1 s2 → Q (.bl b) H1 → R (.ok (.ret (.bool b))) s2) : ∀ (n : Nat) (s : Shared), gxAt Y A.in1.in1 a g false Q n s → codeAny (model Y.prog Y.w) A (.builtin "all.loop" ⟨[.ref a], []⟩) R s := by
  intro n
  induction n with
  | zero =>
    intro s h
    refine codeAny_builtin F.entry_all_loop ?_
    rw [Around.under_plainId F.plain_all_loop _]
    show wpAny _ A.in1 (pyNext (.ref a) >>= _) _ _ s
    refine wpAny_bind (gx_next (A := A.in1) hh hd hpn hgo h (fun σ1 H1 s1 s2 I idle q => ?_) (fun σ1 H1 s1 s2 I idle q => ?_) (fun s2 y => ?_))
    · exact wpAny_bind (wpAny_rule (wpAny_pure (hR _ σ1 H1 s1 _ I idle q)))
    · refine wpAny_bind (wpAny_holding (wpAny_truthy_bool (wpAny_bind (wpAny_letGo ?_))))
      simp only [Bool.false_eq_true, if_false]
      exact wpAny_bind (wpAny_rule (wpAny_pure (hR _ σ1 H1 s1 _ I idle q)))
    · obtain ⟨m, e, _⟩ := y
      cases e
  | succ n ih =>
    intro s h
    refine codeAny_builtin F.entry_all_loop ?_
    rw [Around.under_plainId F.plain_all_loop _]
    show wpAny _ A.in1 (pyNext (.ref a) >>= _) _ _ s
    refine wpAny_bind (gx_next (A := A.in1) hh hd hpn hgo h (fun σ1 H1 s1 s2 I idle q => ?_) (fun σ1 H1 s1 s2 I idle q => ?_) (fun s2 y => ?_))
    · exact wpAny_bind (wpAny_rule (wpAny_pure (hR _ σ1 H1 s1 _ I idle q)))
    · refine wpAny_bind (wpAny_holding (wpAny_truthy_bool (wpAny_bind (wpAny_letGo ?_))))
      simp only [Bool.false_eq_true, if_false]
      exact wpAny_bind (wpAny_rule (wpAny_pure (hR _ σ1 H1 s1 _ I idle q)))
    · obtain ⟨m, e, more⟩ := y
      cases e
      refine wpAny_bind (wpAny_holding (wpAny_truthy_bool (wpAny_bind (wpAny_letGo ?_))))
      simp only [Bool.not_false, if_true]
      exact wpAny_pure ⟨plainId_quiet F.plain_all_loop _, ih _ (more _ rfl rfl fun _ _ e => e)⟩
theorem gx_any {A : Around} {R : Result → Shared → Prop} (hh : A.handled = none) (hd : A.depth < recursionLimit) (hpn : Y.pn = [(a, go)]) (hgo : ∀ h : Heap, h.get? a = some go → h.IsGen a g)
    (hR : ∀ b σ1 H1 s1 s2, Inv Y [] σ1 H1 s1 → Idle s1 s2 → Q (.bl b) H1 → R (.ok (.ret (.bool b))) s2) : ∀ (n : Nat) (s : Shared), gxAt Y A.in1.in1 a g true Q n s → codeAny (model Y.prog Y.w) A (.builtin "any.loop" ⟨[.ref a], []⟩) R s := by
  intro n
  induction n with
  | zero =>
    intro s h
    refine codeAny_builtin F.entry_any_loop ?_
    rw [Around.under_plainId F.plain_any_loop _]
    show wpAny _ A.in1 (pyNext (.ref a) >>= _) _ _ s
    refine wpAny_bind (gx_next (A := A.in1) hh hd hpn hgo h (fun σ1 H1 s1 s2 I idle q => ?_) (fun σ1 H1 s1 s2 I idle q => ?_) (fun s2 y => ?_))
    · exact wpAny_bind (wpAny_rule (wpAny_pure (hR _ σ1 H1 s1 _ I idle q)))
    · refine wpAny_bind (wpAny_holding (wpAny_truthy_bool (wpAny_bind (wpAny_letGo ?_))))
      simp only [if_true]
      exact wpAny_bind (wpAny_rule (wpAny_pure (hR _ σ1 H1 s1 _ I idle q)))
    · obtain ⟨m, e, _⟩ := y
      cases e
  | succ n ih =>
    intro s h
    refine codeAny_builtin F.entry_any_loop ?_
    rw [Around.under_plainId F.plain_any_loop _]
    show wpAny _ A.in1 (pyNext (.ref a) >>= _) _ _ s
    refine wpAny_bind (gx_next (A := A.in1) hh hd hpn hgo h (fun σ1 H1 s1 s2 I idle q => ?_) (fun σ1 H1 s1 s2 I idle q => ?_) (fun s2 y => ?_))
    · exact wpAny_bind (wpAny_rule (wpAny_pure (hR _ σ1 H1 s1 _ I idle q)))
    · refine wpAny_bind (wpAny_holding (wpAny_truthy_bool (wpAny_bind (wpAny_letGo ?_))))
      simp only [if_true]
      exact wpAny_bind (wpAny_rule (wpAny_pure (hR _ σ1 H1 s1 _ I idle q)))
    · obtain ⟨m, e, more⟩ := y
      cases e
      refine wpAny_bind (wpAny_holding (wpAny_truthy_bool (wpAny_bind (wpAny_letGo ?_))))
      simp only [Bool.not_true, Bool.false_eq_true, if_false]
      exact wpAny_pure ⟨plainId_quiet F.plain_any_loop _, ih _ (more _ rfl rfl fun _ _ e => e)⟩
end
section
variable {X : Cx}
/-- all(e for t in xs) (z = false), any(..) (z = true); P: where the running def's code table is -/
def tGx (P : Addr) (z : Bool) (wi : TI) (g : TG) (te : TE) (vs : List Nat) : TE := fun σ H Q => wi σ H fun J H1 => H1 P = some (tabx P) ∧ ∃ W : Nat → Nat → Hp → Prop, (∃ m, W 0 m H1) ∧ gxW z J g te vs σ Q W
/-- the generator stands, and whatever its consumer comes to is ours -/
def gxMade (X : Cx) (pins : List (Addr × Obj)) (σ : L2.St) (z : Bool) (Q : VK) (v : Value) (s5 : Shared) : Prop :=
  ∃ (Y : Cx) (a : Addr) (g : Nat) (go : Obj) (n : Nat), v = .ref a ∧ Y.prog = X.prog ∧ Y.w = X.w ∧ Y.pn = [(a, go)] ∧ (∀ h : Heap, h.get? a = some go → h.IsGen a g) ∧ gxAt Y X.A.in1.in1 a g z Q n s5 ∧
    ∀ σ1 H1 s1 s2, Inv Y [] σ1 H1 s1 → Idle s1 s2 → Inv X pins σ H1 s2
theorem gx_make {k : Nat} {c P : Addr} {elt tg iter : Expr} {scope : Scope} {own : List (Str × Nat)} {pos : Pos} {wi : TI} {g : TG} {te : TE} {z : Bool} {pins : List (Addr × Obj)} {σ : L2.St} {H : Hp} {s : Shared} {Q : VK}
    (hc : X.calm = true) (hN : X.N.Nodup) (hr : Room (k + 1) X.A) (TB : GxR.TabB X.base X.mg c P) (code : X.env.code = .ref c) (S : GxS scope) (hi : PI X tg iter wi) (ok : BlkOk X.N X.env.scope scope own)
    (hg : ∀ (s : Shared) (H : Hp) (cv : Value) (C : Addr) (cl : List (Str × Addr)) (fp : List Addr) (p : Addr × Obj), PG (gxX X s H (genEnv scope cl C cv builtinsNs X.env) fp p) tg g)
    (he : ∀ (s : Shared) (H : Hp) (cv : Value) (C : Addr) (cl : List (Str × Addr)) (fp : List Addr) (p : Addr × Obj), Room k (gxX X s H (genEnv scope cl C cv builtinsNs X.env) fp p).A → PE (gxX X s H (genEnv scope cl C cv builtinsNs X.env) fp p) elt te)
    (hs : ∀ x, genFold iter X.env x = pure x) (I : Inv X pins σ H s) (h : tGx P z wi g te (own.map (·.2)) σ H Q) :
    wpAny (model X.prog X.w) X.A (eval (.GeneratorExp elt [⟨tg, iter, [], 0⟩] scope pos) X.env) (gxMade X pins σ z Q) X.xe s := by
  have hf : ∀ y ∈ scope.names, y.2 = .free → ∃ c, X.env.cells.lookup y.1 = some c := fun y hy e => (ok.free y hy e).elim (fun z => I.ok.has _ (.inl z)) fun z => I.ok.has _ (.inr z)
  refine wpAny_GeneratorExp_make S.co (closure_ok hf) S.cell S.dot ok.kind (by have := hr.dp; omega) (thn (hi.run pins s σ H _ I h) fun xv s1 h1 => thn h1 fun itv s2 h2 => ?_) hs
  obtain ⟨it, fp, tn, J, H2, e, I2, T, st2, f2, hP, W, ⟨m0, w0⟩, hW⟩ := h2
  subst e
  refine ⟨I2.nolimit, ?_⟩
  obtain ⟨ps, eP, tP⟩ := tabx_at I2.hok hP
  have cd : PySem.W.CodeHd s2.heap c P := TB.code.keeps I2.bk
  have nP : ∀ b ∈ fp, b ≠ P := fun b hb y => by
    have z := (f2 b hb).1
    rw [y, hP] at z
    cases z
  -- the code is found or made: the table alone may have grown
  have go_on : ∀ (cv : Value) (h3 : Heap) (tk : Nat) (qs : Array Value), Heap.ExtBut P s2.heap h3 → h3.get? P = some { cls := .none, data := .fields qs } → TriplesOk qs.toList →
      wpAny (model X.prog X.w) X.A (builtinsFor X.env.globals X.env.builtins) (fun bi s4 => ∀ h', h'.Ns s4.heap.objs.size (fun y => if y = ".0" then some (Value.ref it) else none) → Heap.SameBut s4.heap.objs.size (s4.heap.push { cls := .type "frame", data := .dict #[] }) h' →
        gxMade X pins σ z Q (.ref h'.objs.size) { s4 with gens := s4.gens.push (.fresh (.compStart (.GeneratorExp elt [⟨tg, iter, [], 0⟩] scope pos) 0 (.ref it) .none (genEnv scope (cloFrom X.env.cells scope.names []) s4.heap.objs.size cv bi X.env))), toks := s4.toks + 1 + 1 + 1, heap := h'.push { cls := .type "generator", data := .fields #[.int s4.gens.size 0, .str "<genexpr>" (s4.toks + 1), .str (X.env.qual ++ "<genexpr>") (s4.toks + 1 + 1)] } }) X.xe { s2 with heap := h3, toks := tk } := by
    intro cv h3 tk qs ext eQ tQ
    have I4 : Inv X pins σ H2 { s2 with heap := h3, toks := tk } := by
      have y := I2.write (t' := tk) (x := P) (e := P) (o := tabx P) (h' := h3) (by rw [hP]; exact True.intro) (.inl rfl) (fun b u hb q => ext b u hb q) ⟨_, eQ⟩ (tabx_ok eQ tQ)
      rw [upd_self hP] at y
      exact y
    obtain ⟨bm, ob, e1, e2, e3, e4, e5, e6, e7, e8⟩ := TB.bm
    refine wpAny_builtinsFor (m := X.mg) (by rw [I4.ok.glob]; exact I4.mod.glob.keeps I4.bk) e1 e2 (I4.bk _ _ e5) e6 e7 e8 ?_
    intro h' hn same
    have szF : h'.objs.size = h3.objs.size + 1 := by
      rw [same.1]
      exact Heap.size_push ..
    have kF : ∀ b o, h3.get? b = some o → h'.get? b = some o := fun b o e => same.extBut b o (Nat.ne_of_lt (Heap.lt_size e)) (Heap.get?_push_of_some _ e)
    generalize hgo : ({ cls := .type "generator", data := .fields #[.int s2.gens.size 0, .str "<genexpr>" (tk + 1), .str (X.env.qual ++ "<genexpr>") (tk + 1 + 1)] } : Obj) = go
    generalize hcode : (Code.compStart (.GeneratorExp elt [⟨tg, iter, [], 0⟩] scope pos) 0 (.ref it) .none (genEnv scope (cloFrom X.env.cells scope.names []) h3.objs.size cv builtinsNs X.env)) = cod
    have fp4 : ∀ b ∈ fp, FpOk X pins H2 b ∧ b < h3.objs.size := fun b hb => by
      obtain ⟨o, e, _⟩ := T.obj _ _ st2 b hb
      exact ⟨f2 b hb, Heap.lt_size (ext b o (nP b hb) e)⟩
    have st4 : tn 0 h3 := T.keep _ _ _ st2 fun b hb o e => ext b o (nP b hb) e
    have isG : ∀ h : Heap, h.get? h'.objs.size = some go → h.IsGen h'.objs.size s2.gens.size := fun h e => ⟨go, _, _, e, by rw [← hgo], by rw [← hgo], by rw [← hgo]⟩
    have atG : (h'.push go).get? h'.objs.size = some go := by
      rw [← hgo]
      exact Heap.get?_push_size _ rfl
    have gD : ∀ v, go.data ≠ .cell v := fun v => by
      rw [← hgo]
      exact fun z => by cases z
    have k5 : ∀ b o, h3.get? b = some o → (h'.push go).get? b = some o := fun b o e => Heap.get?_push_of_some _ (kF b o e)
    have bare5 : AllBare (s2.gens.push (.fresh cod)) := I2.bare.push rfl
    let cenv := genEnv scope (cloFrom X.env.cells scope.names []) h3.objs.size cv builtinsNs X.env
    let Y := gxX X { s2 with heap := h3, toks := tk } H2 cenv fp (h'.objs.size, go)
    have J5 : Inv Y [] (wipe σ (own.map (·.2))) H2 { s2 with gens := s2.gens.push (.fresh cod), toks := tk + 1 + 1 + 1, heap := h'.push go } :=
      gx_begin I4 ok hN S.cell fp4 rfl k5 (hn.keeps fun b o e => Heap.get?_push_of_some _ e) bare5 rfl atG (by show h3.objs.size < h'.objs.size; omega) gD
    refine ⟨Y, h'.objs.size, s2.gens.size, go, m0 + 1, rfl, rfl, rfl, rfl, isG, ⟨isG _ atG, J5.nolimit, by show _ < (s2.gens.push _).size; rw [Array.size_push]; omega, bare5, rfl, .fresh cod, Array.getElem?_push_size .., rfl, ?_⟩, fun σ1 H1 s1 s6 I6 idle => ?_⟩
    · have J6 : Inv Y [] (wipe σ (own.map (·.2))) H2 (({ s2 with gens := s2.gens.push (.fresh cod), toks := tk + 1 + 1 + 1, heap := h'.push go } : Shared).setGen s2.gens.size .running) :=
        Inv.idle J5 ⟨rfl, gens_of bare5 rfl, fun _ _ e => e⟩
      have st6 : tn 0 (h'.push go) := T.keep _ _ _ st4 fun b _ o e => k5 b o e
      have apart : ∀ b ∈ fp, ∀ p ∈ Y.pn, p.1 ≠ b := fun b hb p hp y => by
        have hp2 : p = (h'.objs.size, go) := List.mem_singleton.mp hp
        rw [hp2] at y
        have y2 : h'.objs.size = b := y
        have l := (fp4 b hb).2
        rw [← y2, szF] at l
        exact Nat.lt_irrefl _ (Nat.lt_of_succ_lt l)
      subst hcode
      refine gx_first (Y := Y) (fun A s Q E hs q => T.self A 0 s Q E (by rw [hs]; exact st6) q) ?_
      exact gx_loop (Y := Y) (z := z) (Q := Q) (own := own.map (·.2)) (W := W) (σ := σ) rfl rfl rfl rfl hc T (hg _ _ _ _ _ _ _) (he _ _ _ _ _ _ _ (gx_room hr)) hW apart S.co (m0 + 1) 0 m0 H2 _ _ (Nat.lt_succ_self _) w0 J6 st6 (fun b hb => (f2 b hb).1)
    · exact I4.call' (ch := fp) (idle.os.trans I6.os) (I6.base.trans (Un.kept idle.keep)) (I6.hok.kept idle.keep) idle.bare fun b hb => ⟨(f2 b hb).2.2.2.1, (f2 b hb).2.1, (f2 b hb).2.2.2.2.1, (f2 b hb).2.2.2.2.2⟩
  cases hfound : codeAmong pos ps.toList with
  | none =>
    refine wpAny_genexprCodeX code (cd.code eP tP) (cd.tab eP) hfound fun c2 h3 tk ext _ _ isC _ tab _ => ?_
    obtain ⟨o1, vs, f1, tf, fl, tgc, inF, tx, tt, op, _, _, _, _, _, _, _, _, _, tr, _⟩ := isC
    exact go_on _ h3 tk _ ext tab.2 tr
  | some cv =>
    refine wpAny_genexprCode_hit code (cd.code eP tP) hfound ?_
    exact go_on cv s2.heap s2.toks ps (Heap.ExtBut.refl _ _) eP tP
theorem pe_allG {k : Nat} {c P : Addr} {elt tg iter : Expr} {scope : Scope} {own : List (Str × Nat)} {pos p pos2 : Pos} {wi : TI} {g : TG} {te : TE} (hg0 : Gl X "all") (hm0 : X.mg "all" = none)
    (hc : X.calm = true) (hN : X.N.Nodup) (hr : Room (k + 1) X.A) (TB : GxR.TabB X.base X.mg c P) (code : X.env.code = .ref c) (S : GxS scope) (hi : PI X tg iter wi) (ok : BlkOk X.N X.env.scope scope own)
    (hg : ∀ (s : Shared) (H : Hp) (cv : Value) (C : Addr) (cl : List (Str × Addr)) (fp : List Addr) (p : Addr × Obj), PG (gxX X s H (genEnv scope cl C cv builtinsNs X.env) fp p) tg g)
    (he : ∀ (s : Shared) (H : Hp) (cv : Value) (C : Addr) (cl : List (Str × Addr)) (fp : List Addr) (p : Addr × Obj), Room k (gxX X s H (genEnv scope cl C cv builtinsNs X.env) fp p).A → PE (gxX X s H (genEnv scope cl C cv builtinsNs X.env) fp p) elt te)
    (hs : ∀ x, genFold iter X.env x = pure x := by intro _; rfl) (hst : starEach [.GeneratorExp elt [⟨tg, iter, [], 0⟩] scope pos] X.env = (false, eval (.GeneratorExp elt [⟨tg, iter, [], 0⟩] scope pos) X.env) :: starEach [] X.env := by rfl) :
    PE X (.Call (.Name "all" p) [.GeneratorExp elt [⟨tg, iter, [], 0⟩] scope pos] [] pos2) (tGx P false wi g te (own.map (·.2))) := by
  refine ⟨fun pins s σ H Q I h => ?_⟩
  refine wpAny_Call_Name_kw (ld_blt I hg0 hm0 boot_all ?_)
  refine PyProof.Rows.callWith_builtin1 ?_ hst (by rfl)
  rw [hst]
  show wpAny _ _ (spliced ((false, eval (.GeneratorExp elt [⟨tg, iter, [], 0⟩] scope pos) X.env) :: backTo pos2 (starEach [] X.env))) _ _ s
  refine Calls.spliced_cons (thn (gx_make hc hN hr TB code S hi ok hg he hs I h) fun v s5 y => Calls.spliced_nil ?_)
  obtain ⟨Y, a, gn, go, n, rfl, e1, e2, hpn, isG, hat, back⟩ := y
  refine call_function_tree F.kind_all F.plain_all F.entry_all (F.args_all1 _) ?_
  unfold Builtin.«all»
  refine wpAny_bind (m := oneArg "all" _) (wpAny_pure ?_)
  refine wpAny_bind (wpAny_pyIter_gen hat.1 ?_)
  refine wpAny_pure ⟨plainId_quiet F.plain_all_loop _, ?_⟩
  have fin := gx_all (Y := Y) (Q := Q) (A := X.A) (R := fun r s' => match r with | .ok (.ret v) => EP X pins σ Q v s' | .ok _ => False | .error e => X.xe e s') hr.hd (by have := hr.dp; show X.A.depth < _; omega) hpn isG (fun b σ1 H1 s1 s2 I1 idle q => ⟨.bl b, H1, back σ1 H1 s1 s2 I1 idle, rfl, q⟩) n s5 hat
  rw [e1, e2] at fin
  exact fin
theorem pe_anyG {k : Nat} {c P : Addr} {elt tg iter : Expr} {scope : Scope} {own : List (Str × Nat)} {pos p pos2 : Pos} {wi : TI} {g : TG} {te : TE} (hg0 : Gl X "any") (hm0 : X.mg "any" = none)
    (hc : X.calm = true) (hN : X.N.Nodup) (hr : Room (k + 1) X.A) (TB : GxR.TabB X.base X.mg c P) (code : X.env.code = .ref c) (S : GxS scope) (hi : PI X tg iter wi) (ok : BlkOk X.N X.env.scope scope own)
    (hg : ∀ (s : Shared) (H : Hp) (cv : Value) (C : Addr) (cl : List (Str × Addr)) (fp : List Addr) (p : Addr × Obj), PG (gxX X s H (genEnv scope cl C cv builtinsNs X.env) fp p) tg g)
    (he : ∀ (s : Shared) (H : Hp) (cv : Value) (C : Addr) (cl : List (Str × Addr)) (fp : List Addr) (p : Addr × Obj), Room k (gxX X s H (genEnv scope cl C cv builtinsNs X.env) fp p).A → PE (gxX X s H (genEnv scope cl C cv builtinsNs X.env) fp p) elt te)
    (hs : ∀ x, genFold iter X.env x = pure x := by intro _; rfl) (hst : starEach [.GeneratorExp elt [⟨tg, iter, [], 0⟩] scope pos] X.env = (false, eval (.GeneratorExp elt [⟨tg, iter, [], 0⟩] scope pos) X.env) :: starEach [] X.env := by rfl) :
    PE X (.Call (.Name "any" p) [.GeneratorExp elt [⟨tg, iter, [], 0⟩] scope pos] [] pos2) (tGx P true wi g te (own.map (·.2))) := by
  refine ⟨fun pins s σ H Q I h => ?_⟩
  refine wpAny_Call_Name_kw (ld_blt I hg0 hm0 boot_any ?_)
  refine PyProof.Rows.callWith_builtin1 ?_ hst (by rfl)
  rw [hst]
  show wpAny _ _ (spliced ((false, eval (.GeneratorExp elt [⟨tg, iter, [], 0⟩] scope pos) X.env) :: backTo pos2 (starEach [] X.env))) _ _ s
  refine Calls.spliced_cons (thn (gx_make hc hN hr TB code S hi ok hg he hs I h) fun v s5 y => Calls.spliced_nil ?_)
  obtain ⟨Y, a, gn, go, n, rfl, e1, e2, hpn, isG, hat, back⟩ := y
  refine call_function_tree F.kind_any F.plain_any F.entry_any (F.args_any1 _) ?_
  unfold Builtin.«any»
  refine wpAny_bind (m := oneArg "any" _) (wpAny_pure ?_)
  refine wpAny_bind (wpAny_pyIter_gen hat.1 ?_)
  refine wpAny_pure ⟨plainId_quiet F.plain_any_loop _, ?_⟩
  have fin := gx_any (Y := Y) (Q := Q) (A := X.A) (R := fun r s' => match r with | .ok (.ret v) => EP X pins σ Q v s' | .ok _ => False | .error e => X.xe e s') hr.hd (by have := hr.dp; show X.A.depth < _; omega) hpn isG (fun b σ1 H1 s1 s2 I1 idle q => ⟨.bl b, H1, back σ1 H1 s1 s2 I1 idle, rfl, q⟩) n s5 hat
  rw [e1, e2] at fin
  exact fin
end
end Fp

set_option Elab.async false
set_option linter.all false
namespace Fp
open PySem PySem.Spec PyProof.Rows L2
/-! ### x is True, x is not True -/
def rIsB : R2 := fun x y H Q => ∃ a b, x = .bl a ∧ y = .bl b ∧ Q (.bl (decide (a = b))) H
def rNotB : R2 := fun x y H Q => ∃ a b, x = .bl a ∧ y = .bl b ∧ Q (.bl (!decide (a = b))) H
theorem op_isB {X : Cx} : OpR X (compareOp .Is) rIsB := by
  intro pins s σ H x y v u Q I rx ry h
  obtain ⟨a, b, rfl, rfl, q⟩ := h
  cases (show v = Value.bool a from rx)
  cases (show u = Value.bool b from ry)
  refine wpAny_is_plain (by cases a <;> cases b <;> rfl) (fin_bl I q ?_)
  cases a <;> cases b <;> rfl
theorem op_notB {X : Cx} : OpR X (compareOp .IsNot) rNotB := by
  intro pins s σ H x y v u Q I rx ry h
  obtain ⟨a, b, rfl, rfl, q⟩ := h
  cases (show v = Value.bool a from rx)
  cases (show u = Value.bool b from ry)
  refine wpAny_isNot_plain (by cases a <;> cases b <;> rfl) (fin_bl I q ?_)
  cases a <;> cases b <;> rfl
theorem tcn_go {v : V} {σ : L2.St} {H : Hp} {R : List V → Hp → Prop} (h : R [v] H) : tCons (tC v) tNil σ H R := h
/-- all, any over a walk: R by the turn -/
theorem gx_walk {z : Bool} {J : It} {n : Nat} {G : Hp → Prop} {Y : Nat → Hp → V → Hp → Prop} (w : Walk J n G Y) {g : TG} {te : TE} {vs : List Nat} {σ : L2.St} {H1 : Hp} {Q : VK} (R : Nat → Hp → Prop) (h0 : R 0 H1) (hG : ∀ i H, i ≤ n → R i H → G H)
    (hs : ∀ i x H2 H3 (S : VK), i < n → R i H2 → Y i H2 x H3 → (∀ H5, R (i + 1) H5 → S (.bl !z) H5) → (∀ H5, Q (.bl z) H5 → S (.bl z) H5) → g x (wipe σ vs) H3 fun σ4 H4 => wipe σ4 vs = wipe σ vs ∧ te σ4 H4 S)
    (hd : ∀ H2, R n H2 → Q (.bl !z) H2) : ∃ W : Nat → Nat → Hp → Prop, (∃ m, W 0 m H1) ∧ gxW z J g te vs σ Q W := by
  refine ⟨fun i m H => m = n - i ∧ i ≤ n ∧ R i H, ⟨n, by simp, Nat.zero_le _, h0⟩, ?_⟩
  rintro i m H ⟨rfl, hi, r⟩
  have q := hG i H hi r
  by_cases hlt : i < n
  · refine .inr ⟨w.goes i H hlt q, fun x H3 y => hs i x H H3 _ hlt r (w.yields i H x H3 hlt q y) (fun H5 r5 => ⟨!z, rfl, fun e => ?_, fun _ => ⟨n - (i + 1), by omega, rfl, hlt, r5⟩⟩) (fun H5 q5 => ⟨z, rfl, fun _ => q5, fun e => absurd rfl e⟩)⟩
    cases z <;> cases e
  · have e : i = n := by omega
    subst e
    exact .inl ⟨w.stops H q, hd H r⟩
/-- a mark not below or like the one ahead -/
theorem mark_go {K : PySem.W.Frag} {H : Hp} {p q : Addr} {a b c d : Int} {Q : VK} (hp : SqT K H p [.int a, .int b]) (hq : SqT K H q [.int c, .int d]) (h : a < c ∨ (a = c ∧ b < d)) (k : Q (.bl false) H) : rLeT K (.ref q) (.ref p) H Q := by
  refine ⟨q, p, [c, d], [a, b], rfl, rfl, hq, hp, ?_⟩
  have e : Ob.lexAt (fun j => decide ([c, d].getD j 0 = [a, b].getD j 0)) (fun j => decide ([c, d].getD j 0 ≤ [a, b].getD j 0)) (decide ([c, d].length ≤ [a, b].length)) 0 (min [c, d].length [a, b].length) = false := by
    show (if decide (c = a) = true then (if decide (d = b) = true then true else decide (d ≤ b)) else decide (c ≤ a)) = false
    rcases h with h | ⟨h1, h2⟩
    · rw [if_neg (by simp; omega)]
      simp; omega
    · rw [if_pos (by simp; omega), if_neg (by simp; omega)]
      simp; omega
  rw [e]
  exact k
end Fp

set_option Elab.async false
set_option linter.all false
set_option maxRecDepth 100000
set_option maxHeartbeats 4000000
namespace Fp
open PySem PySem.Spec PyProof.Rows L2
/-! ### a caught exception that is kept in a name, beyond the suite too -/
/-- at a: an exception of the class cls with its dict at d, whatever its own fields say by now -/
def exk (a : Addr) (cls : Value) (d : Option Addr) : HO := .ext fun h => ∃ (oe : Obj) (vs : Array Value), h.get? a = some oe ∧ oe.cls = cls ∧ oe.dict = d ∧ oe.data = .fields vs
theorem exk_at {P : Program} {w : World} {H : Hp} {h : Heap} {a : Addr} {cls : Value} {d : Option Addr} (ok : HOk P w H h) (e : H a = some (exk a cls d)) : ∃ (oe : Obj) (vs : Array Value), h.get? a = some oe ∧ oe.cls = cls ∧ oe.dict = d ∧ oe.data = .fields vs :=
  (show ObjOk P w H h a (.ext fun h => ∃ (oe : Obj) (vs : Array Value), h.get? a = some oe ∧ oe.cls = cls ∧ oe.dict = d ∧ oe.data = .fields vs) from ok a _ e).1
theorem exk_ok {P : Program} {w : World} {H : Hp} {h : Heap} {a : Addr} {cls : Value} {d : Option Addr} {oe : Obj} {vs : Array Value} (e : h.get? a = some oe) (z : Zc cls d oe) (hd : oe.data = .fields vs) : ObjOk P w H h a (exk a cls d) :=
  ⟨⟨oe, vs, e, z.1, z.2, hd⟩, ⟨oe, e⟩, fun _ _ ⟨o, v, e1, e2, e3, e4⟩ k => ⟨o, v, k _ e1, e2, e3, e4⟩⟩
section
variable {X : Cx} {pins : List (Addr × Obj)} {σ : L2.St} {H : Hp} {s : Shared}
/-- such an exception, new to the def, is held from now on -/
theorem track_exc {a : Addr} {oe : Obj} {vs : Array Value} {cls : Value} {d : Option Addr} (I : Inv X pins σ H s) (ha : s.heap.get? a = some oe) (hz : Zc cls d oe) (hd : oe.data = .fields vs) (na : H a = none) (nL : a ≠ X.env.locals)
    (fresh : ∀ o, X.s_0.heap.get? a = some o → a ∈ X.ex) (np : ∀ p ∈ X.pn ++ pins, p.1 ≠ a) : Inv X pins σ (upd H a (exk a cls d)) s := by
  have up : ∀ {b : Addr} {u : HO}, H b = some u → upd H a (exk a cls d) b = some u := fun {b u} z => by
    rw [upd_ne (ne_of_none z na)]
    exact z
  have ck : ∀ x c, X.env.cells.lookup x = some c → c ≠ a := fun x c z y => by
    subst y
    obtain ⟨v, hv⟩ := I.cell x c z
    obtain ⟨o, h1, h2⟩ := hv
    rw [ha] at h1
    cases h1
    rw [hd] at h2
    cases h2
  refine { ok := I.ok, os := I.os, bare := I.bare, loc := I.loc, cell := I.cell, len := I.len, base := ?_, free := ?_, freeC := ?_, pin := ?_, hok := ?_ }
  · exact { keep := I.base.keep, slot := I.base.slot, there := I.base.there
            free := fun b o z n hx => by
              rw [upd_ne (fun y => hx (by subst y; exact fresh o z))]
              exact I.base.free b o z n hx
            tups := fun b xs z => up (I.base.tups b xs z)
            frzs := fun b o u z => up (I.base.frzs b o u z)
            tbls := fun b ps z => by
              obtain ⟨more, y⟩ := I.base.tbls b ps z
              exact ⟨more, up y⟩ }
  · rw [upd_ne (Ne.symm nL)]
    exact I.free
  · intro x c z
    rw [upd_ne (ck x c z)]
    exact I.freeC x c z
  · intro p hp
    obtain ⟨h1, h2, h3⟩ := I.pin p hp
    exact ⟨h1, by rw [upd_ne (np p hp)]; exact h2, h3⟩
  · intro b o z
    by_cases hb : b = a
    · subst hb
      rw [upd_same] at z
      cases z
      exact exk_ok ha hz hd
    · rw [upd_ne hb] at z
      exact ObjOk.stay (I.hok b o z) (fun _ _ _ y => y) (fun _ y => up y) (fun _ _ y => up y)
/-- into the suite, nothing pinned; and out of it -/
theorem into_suite (I : Inv X pins σ H s) (a : Addr) : Inv (X.suite a (X.pn ++ pins)) [] σ H s :=
  { ok := I.ok.suite _ _, os := I.os, bare := I.bare, base := I.base, loc := I.loc, cell := I.cell, free := I.free, freeC := I.freeC, hok := I.hok, len := I.len
    pin := fun p hp => I.pin p (by simpa using hp) }
theorem from_suite {a : Addr} {pn' : List (Addr × Obj)} (I : Inv (X.suite a (X.pn ++ pins)) pn' σ H s) (ok : X.Ok) : Inv X pins σ H s :=
  { ok := ok, os := I.os, bare := I.bare, base := I.base, loc := I.loc, cell := I.cell, free := I.free, freeC := I.freeC, hok := I.hok, len := I.len
    pin := fun p hp => I.pin p (List.mem_append_left _ hp) }
/-- no frame is such an exception -/
theorem not_frame {B : Heap} {l : List Env} {h : Heap} {a : Addr} {o : Obj} {vs : Array Value} (ff : h.FunFrames B l) (e : h.get? a = some o) (d : o.data = .fields vs) : a ∉ frs l := fun m => by
  obtain ⟨_, o2, e2, nf⟩ := ff.mem m
  rw [e] at e2
  cases e2
  exact nf _ d
end
/-- what 'except x as n' wishes, the exception kept -/
def wKeep (K : PySem.W.Frag) (c : Value) (i : Nat) (ts : Addr → Value → Option Addr → TS) (Wout : WX) (D : Ends) : WX := fun cls d σ H =>
  ∃ yes, PySem.W.exmOne K cls c = some yes ∧ (yes = false → Wout cls d σ H) ∧
    (yes = true → ∀ a, H a = none → ts a cls d { nx := fun σ2 H2 => D.nx (σ2.set i none) H2, rt := D.rt, bk := fun σ2 H2 => D.bk (σ2.set i none) H2, ct := fun σ2 H2 => D.ct (σ2.set i none) H2 } (σ.set i (some (.ref a))) (upd H a (exk a cls d)))
section
variable {X : Cx} {x n : Str} {c : Value} {i : Nat} {body suite : List Stmt} {first : Stmt} {np p1 p2 : Pos} {tb : WX → TS} {ts : Addr → Value → Option Addr → TS} {Wout : WX}
theorem ps_try_keep (hs : X.stack = X.env :: X.outer) (hf : X.env.frame = some X.env.locals) (hN : X.N.Nodup) (hi : X.N[i]? = some n) (hln : X.env.kindOf n = some .local) (hc : Names X x c) (tk : Takes X Wout)
    (hb : ∀ (W : WX) (pn : List (Addr × Obj)) (xe : Value → Shared → Prop), Takes (X.tr pn xe) W → PassesOwn (model X.prog X.w) X.A X.env xe → PSs (X.tr pn xe) body (tb W))
    (hsu : ∀ (a : Addr) (cls : Value) (d : Option Addr) (pn : List (Addr × Obj)), PSs (X.suite a pn) (first :: suite) (ts a cls d)) :
    PS X (.Try body [.ExceptHandler (some (.Name x np)) (some n) (first :: suite) p2] [] [] p1) (fun D σ H => tb (wKeep X.K c i ts Wout D) D σ H) := by
  constructor
  intro pins s σ H D I h
  have ok := I.ok
  have ef : X.A.frames = some (X.env :: X.outer) := by
    rw [← hs]
    exact ok.frames
  have isl : Loc X.env.scope n := .inl hln
  apply wpAny_Try_except
  refine wpAny_mono ((hb (wKeep X.K c i ts Wout D) (X.pn ++ pins) (fun e t1 => wpAny (model X.prog X.w) X.A (noteFrame e X.env) (fun _ t2 => wpAny (model X.prog X.w) X.A (setFlight e none) (fun _ t3 =>
    wpAny (model X.prog X.w) X.A (handleBy e X.env [.ExceptHandler (some (.Name x np)) (some n) (first :: suite) p2]) (SP X pins D) X.xe t3) X.xe t2) X.xe t1) (fun u t air => ?caught) PassesOwn.looking).run [] s σ H D (I.toTry _) h) (fun f s1 z => ?ended) (fun _ _ z => z)
  case caught =>
    obtain ⟨a, B, sI, pins2, σ2, H2, cls, d, rfl, J0, nb, up, sky, na, os, ag, yes, hyes, no, go⟩ := air
    have J : Inv X pins σ2 H2 sI := J0.ofTry ok
    have sky2 : Sky B (X.env :: X.outer) a (Zc cls d) X.env.locals t.heap := by
      rw [← hs]
      exact sky
    show wpAny _ X.A (noteFrame (.ref a) X.env) _ _ _
    refine Sky.land Zc.steady ef hf sky2 fun h3 fl3 up3 => ?_
    have J3 : Inv X pins σ2 H2 { t with heap := h3 } := J.landed nb fl3.1 (up.trans up3) os ag
    obtain ⟨oe3, vs3, he3, hz3, hd3⟩ := fl3.there
    have nfr := not_frame fl3.2.2.1 he3 hd3
    have nL : a ≠ X.env.locals := fun z => nfr (List.mem_filterMap.mpr ⟨X.env, by simp, by rw [hf, z]⟩)
    have noB : B.get? a = none := fl3.2.1
    have noI : ∀ o, sI.heap.get? a ≠ some o := fun o z => by
      have y := nb a o z (by rw [hs]; exact nfr)
      rw [noB] at y
      cases y
    have fresh : ∀ o, X.s_0.heap.get? a = some o → a ∈ X.ex := fun o z => Classical.byContradiction fun m => by
      obtain ⟨o2, y⟩ := J.base.there a o z m
      exact noI o2 y
    have apart : ∀ p ∈ X.pn ++ pins, p.1 ≠ a := fun p hp z => by
      have y := (J.pin p hp).1
      rw [z] at y
      exact noI _ y
    have S3 : Inv (X.suite a (X.pn ++ pins)) [] σ2 H2 { t with heap := h3 } := into_suite J3 a
    refine wpAny_handleBy_cons (codeAny_handlers_test ?_) (fun z => nomatch z)
    have isC : PySem.W.Looks (model X.prog X.w) h3 (typeOf (.ref a)) cls := fun A2 Q2 E2 s2 k q => wpAny_typeOf_ref (k _ _ he3) (by rw [hz3.1]; exact q)
    have meets := PySem.W.exm_one (M := model X.prog X.w) J3.kIn isC hyes
    have named : ∀ {Q E : Value → Shared → Prop}, Q c { t with heap := h3 } → wpAny (model X.prog X.w) (X.A.mark (some (.ref a))) (eval (.Name x np) X.env) Q E { t with heap := h3 } := fun {Q E} q => by
      obtain ⟨hg, hdb, m | ⟨m, hv, hn⟩⟩ := hc
      · exact ld_glob (X := X.suite a (X.pn ++ pins)) S3 hg m q hdb
      · exact ld_blt (X := X.suite a (X.pn ++ pins)) S3 hg m hv q hn hdb
    refine named (meets.here ?_)
    match yes, no, go with
    | true, no, go =>
      apply codeAny_handlers_suite_as
      refine HandSPX.lands_againZ fl3 fun h4 fl4 up4 => ?_
      obtain ⟨oe4, vs4, he4, hz4, hd4⟩ := fl4.there
      have J4 : Inv X pins σ2 H2 { t with heap := h4 } := J.landed nb fl4.1 ((up.trans up3).trans up4) os ag
      have K4 := into_suite (track_exc J4 he4 hz4 hd4 na nL fresh apart) a
      refine store_ok (X := X.suite a (X.pn ++ pins)) (v := .ref a) K4 hN hi isl rfl (fun s5 S5 => ?_) (.inr hln)
      refine wpAny_mono ((hsu a cls d (X.pn ++ pins)).run [] s5 _ _ _ S5 (go rfl a na)) (fun f s6 z => ?_) (fun _ _ z => z.elim)
      have out : ∀ {σ6 : L2.St} {H6 : Hp} {Q : Shared → Prop}, Inv (X.suite a (X.pn ++ pins)) [] σ6 H6 s6 → (∀ s7, Inv X pins (σ6.set i none) H6 s7 → Q s7) → wpAny (model X.prog X.w) X.A (do bindName X.env n .none; unbindBehindTheSuite X.env n p2) (fun _ s7 => Q s7) X.xe s6 :=
        fun S6 q => gone_ok (from_suite S6 ok) hN hi hln q
      match f, z with
      | .next, ⟨_, _, S6, q⟩ => exact out S6 fun _ J7 => ⟨_, _, J7, q⟩
      | .brk, ⟨_, _, S6, q⟩ => exact out S6 fun _ J7 => ⟨_, _, J7, q⟩
      | .cont, ⟨_, _, S6, q⟩ => exact out S6 fun _ J7 => ⟨_, _, J7, q⟩
      | .ret u, ⟨_, _, _, S6, r, q⟩ => exact out S6 fun _ J7 => ⟨_, _, _, J7, r, q⟩
    | false, no, go =>
      show wpAny _ X.A (handleBy (.ref a) X.env []) _ _ _
      apply wpAny_handleBy_nil
      obtain ⟨_, _, _, oe, vs, T, oT, _, he, _, hd, h1, _⟩ := id fl3
      unfold PySem.passOn
      refine wpAny_bind (wpAny_field he hd h1 ?_)
      rw [if_neg (show ¬ ((Value.ref T == Value.none) = true) by simp)]
      have on : wpAny (model X.prog X.w) X.A (setFlight (.ref a) X.env.frame) (fun _ t4 => wpAny (model X.prog X.w) X.A (throw (.ref a) : Sem Flow) (SP X pins D) X.xe t4) X.xe { t with heap := h3 } := by
        rw [hf]
        refine HandSPX.setFlight_upZ fl3 fun h4 held up4 => wpAny_throw (tk _ _ ⟨a, B, sI, pins, σ2, H2, cls, d, rfl, J, nb, (up.trans up3).trans up4, .inr (.inr ?_), na, os, ag, no rfl⟩)
        rw [hs]
        exact held
      first
        | exact wpAny_bind on
        | exact wpAny_bind (wpAny_pure (wpAny_bind on))
  case ended =>
    match f, z with
    | .next, ⟨_, _, J, q⟩ => exact wpAny_execs_nil ⟨_, _, J.ofTry ok, q⟩
    | .brk, ⟨_, _, J, q⟩ => exact ⟨_, _, J.ofTry ok, q⟩
    | .cont, ⟨_, _, J, q⟩ => exact ⟨_, _, J.ofTry ok, q⟩
    | .ret u, ⟨_, _, _, J, r, q⟩ => exact ⟨_, _, _, J.ofTry ok, r, q⟩
end
/-! ### isinstance, fields -/
/-- a kept exception of the class at D, its fields fs -/
def ExK (H : Hp) (a D : Addr) (fs : List (Str × V)) : Prop := (fs = [] ∧ H a = some (exk a (.ref D) none)) ∨ ∃ dd, H a = some (exk a (.ref D) (some dd)) ∧ H dd = some (.xd fs)
theorem ExK.inst {X : Cx} {pins : List (Addr × Obj)} {σ : L2.St} {H : Hp} {s : Shared} {a D : Addr} {fs : List (Str × V)} (I : Inv X pins σ H s) (h : ExK H a D fs) : ∃ (oe : Obj) (od : Option Obj), PySem.W.InstAt s.heap a oe D od := by
  rcases h with ⟨_, h⟩ | ⟨dd, h, hd⟩
  · obtain ⟨oe, vs, e, e1, e2, e3⟩ := exk_at I.hok h
    exact ⟨oe, none, ⟨e, e1, by unfold PySem.W.notCls; rw [e3] <;> rfl, by rw [e2]; exact trivial⟩⟩
  · obtain ⟨oe, vs, e, e1, e2, e3⟩ := exk_at I.hok h
    have hx : ObjOk X.prog X.w H s.heap dd (.xd fs) := I.hok dd _ hd
    obtain ⟨mA, hns, _⟩ := hx
    obtain ⟨od, ho, _⟩ := lookIn_ns hns
    exact ⟨oe, some od, ⟨e, e1, by unfold PySem.W.notCls; rw [e3] <;> rfl, by rw [e2]; exact ho⟩⟩
theorem ExK.same {H H' : Hp} {a D : Addr} {fs : List (Str × V)} (h : ExK H a D fs) (e : ∀ b o, H b = some o → H' b = some o) : ExK H' a D fs := by
  rcases h with ⟨z, h⟩ | ⟨dd, h, hd⟩
  · exact .inl ⟨z, e _ _ h⟩
  · exact .inr ⟨dd, e _ _ h, e _ _ hd⟩
def rIsK (K : PySem.W.Frag) : List V → Hp → VK → Prop := fun xs H Q => ∃ (a D : Addr) (fs : List (Str × V)) (c : V) (cv : Value) (b : Bool), xs = [.ref a, c] ∧ ExK H a D fs ∧ ExcC K D ∧ ClsV c cv ∧ PySem.W.kitOne K (.ref D) cv = some b ∧ Q (.bl b) H
theorem clsIn_of {K : PySem.W.Frag} {D : Addr} (C : ExcC K D) : (PySem.W.clsIn K D).isSome = true := by
  obtain ⟨cd, hc, _⟩ := PySem.W.any_some C.hd
  rw [hc]
  rfl
theorem call_isK {X : Cx} : CallR X (.builtin "isinstance") (rIsK X.K) := by
  intro pins s σ H xs us Q I r h
  obtain ⟨a, D, fs, c, cv, b, rfl, hx, C, hcv, e, q⟩ := h
  obtain ⟨u1, u2, rfl, r1, r2⟩ := vals2 r
  obtain rfl : u1 = Value.ref a := r1
  obtain rfl := hcv.eq r2
  obtain ⟨oe, od, J⟩ := hx.inst I
  exact PySem.W.kia_one (PySem.W.kitx_exc (clsIn_of C) C.hg C.hk C.hs C.ha C.hn C.ht C.hm) I.kIn J e (fun z => nomatch z) fun tk => ⟨.bl b, H, I.kept (t' := tk) fun _ _ z => z, rfl, q⟩
def rIsKT (K : PySem.W.Frag) : List V → Hp → VK → Prop := fun xs H Q => ∃ (a D tp : Addr) (fs : List (Str × V)) (cs : List V) (us : List Value) (b : Bool), xs = [.ref a, .ref tp] ∧ ExK H a D fs ∧ ExcC K D ∧ H tp = some (.tup cs) ∧ Paired ClsV cs us ∧ PySem.W.kitAny K (.ref D) us = some b ∧ Q (.bl b) H
theorem call_isKT {X : Cx} : CallR X (.builtin "isinstance") (rIsKT X.K) := by
  intro pins s σ H xs us Q I r h
  obtain ⟨a, D, tp, fs, cs, ws, b, rfl, hx, C, hT, k, e, q⟩ := h
  obtain ⟨u1, u2, rfl, r1, r2⟩ := vals2 r
  obtain rfl : u1 = Value.ref a := r1
  obtain rfl : u2 = Value.ref tp := r2
  obtain ⟨oe, od, J⟩ := hx.inst I
  have hx2 : ObjOk X.prog X.w H s.heap tp (.tup cs) := I.hok tp _ hT
  obtain ⟨_, its, rv, o, h1, h2, n, h3⟩ := hx2
  obtain rfl := ClsV.all k rv
  obtain ⟨oc, od2, dt, sl⟩ := o
  simp only at h2 h3
  subst h2 h3
  exact PySem.W.kia_tup (PySem.W.kitx_exc (clsIn_of C) C.hg C.hk C.hs C.ha C.hn C.ht C.hm) I.kIn J h1 e (fun z => nomatch z) fun tk => ⟨.bl b, H, I.kept (t' := tk) fun _ _ z => z, rfl, q⟩
/-- e.f, e such an exception -/
def tFldK (K : PySem.W.Frag) (f : Str) (te : TE) : TE := fun σ H Q => te σ H fun x H1 => ∃ (a C : Addr) (fs : List (Str × V)) (v : V), x = .ref a ∧ ExK H1 a C fs ∧ XfC K C ∧ PySem.W.findIn K (.ref C) f = some none ∧ fs.lookup f = some v ∧ Q v H1
theorem pe_fldK {X : Cx} {e : Expr} {te : TE} {pos : Pos} {n : Str} (he : PE X e te) (hb : attributeBase e n X.env (eval e X.env) = eval e X.env := by rfl) : PE X (.Attribute e n pos) (tFldK X.K n te) := by
  refine ⟨fun pins s σ H Q I h => ?_⟩
  refine attr_of hb (thn (he.run pins s σ H _ I h) fun u s1 hh => ?_)
  obtain ⟨x, H1, I1, rx, a, C, fs, v, ex, hk, T, hno, l, q⟩ := hh
  subst ex
  obtain rfl : u = Value.ref a := rx
  rcases hk with ⟨z, _⟩ | ⟨dd, ea, ed⟩
  · rw [z] at l
    cases l
  · obtain ⟨oe, vs, e0, e1, e2, e3⟩ := exk_at I1.hok ea
    have hx : ObjOk X.prog X.w H1 s1.heap dd (.xd fs) := I1.hok dd _ ed
    obtain ⟨mA, hns, hr⟩ := hx
    obtain ⟨od, ho, hl⟩ := lookIn_ns hns
    obtain ⟨u, hu, ru⟩ := RelO.some_of (v := v) (o := mA n) (by rw [← l]; exact hr n)
    have J : PySem.W.InstAt s1.heap a oe C (some od) := ⟨e0, e1, by unfold PySem.W.notCls; rw [e3] <;> rfl, by rw [e2]; exact ho⟩
    exact HandSPX.exc_get I1.kIn J T.ga T.gg T.exC (PySem.W.findObj_own T.hdC hno rfl (by rw [hl, hu])) (handed_of ru) ⟨v, H1, I1.tok _, ru, q⟩
end Fp

set_option Elab.async false
set_option linter.all false
set_option maxRecDepth 100000
set_option maxHeartbeats 4000000
namespace Fp
open PySem PySem.Spec PyProof.Rows L2
/-! ### defs whose code is known: generator expressions in them; a law's end with code tables and sys.modules -/
/-- as Fun, the code's value told -/
structure FunC (K : PySem.W.Frag) (x qual : Str) (st : Stmt) (f : Addr) (fd : FuncData) (cv : Value) : Prop where
  ex : ∃ (oc : Value) (od : Option Addr) (kV doc pm : Value) (an : Option Addr) (ct : Value) (osl : Array (Option Value)), fd = PySem.W.fnOf x qual (defArgs st) (defBody st) (defScope st) .none kV doc pm an cv ct ∧ K.lookup f = some ⟨oc, od, .func fd, osl⟩ ∧ PySem.W.codeIn K cv qual = true
  kp : PySem.W.keepIn K (.ref f) = true
theorem FunC.fun {K : PySem.W.Frag} {x qual : Str} {st : Stmt} {f : Addr} {fd : FuncData} {cv : Value} (F : FunC K x qual st f fd cv) : Fun K x qual st f fd := by
  obtain ⟨oc, od, kV, doc, pm, an, ct, osl, e, l, c⟩ := F.ex
  exact ⟨⟨oc, od, kV, doc, pm, an, cv, ct, osl, e, l, c⟩, F.kp⟩
theorem funC_mk {K : PySem.W.Frag} {x qual : Str} {st : Stmt} {f : Addr} {oc : Value} {od an : Option Addr} {osl : Array (Option Value)} {kV doc pm cv ct : Value} (l : K.lookup f = some ⟨oc, od, .func (PySem.W.fnOf x qual (defArgs st) (defBody st) (defScope st) .none kV doc pm an cv ct), osl⟩) (c : PySem.W.codeIn K cv qual = true)
    (k : PySem.W.keepIn K (.ref f) = true) : FunC K x qual st f (PySem.W.fnOf x qual (defArgs st) (defBody st) (defScope st) .none kV doc pm an cv ct) cv := ⟨⟨oc, od, kV, doc, pm, an, ct, osl, rfl, l, c⟩, k⟩
section
variable {P : Program} {w : World} {K : PySem.W.Frag} {mg : Str → Option Value} {base : Heap} {x qual : Str} {st : Stmt} {f : Addr} {fd : FuncData} {N ps : List Str} {k : Nat} {sp : Sp} {cv : Value}
theorem FunC.ok (F : FunC K x qual st f fd cv) (S : FnScope N ps (defScope st)) (len : ∀ vs H Q E, sp vs H Q E → vs.length = ps.length)
    (body : ∀ (A : Around) (outer : List Env) (s : Shared) (H : Hp) (vs : List V) (Q : VK) (E : XK), Room k (A.deeper (envOfC qual (defScope st) s.heap.objs.size f cv)) → sp vs H Q E →
      ∃ t, PSs (cxOf CX0 P w K mg base N qual (defScope st) f cv A outer s H E).nox (defBody st) t ∧ t { nx := fun _ H' => Q .non H', rt := Q } (start N vs) H) : FnOk P w K mg base CX0 (k + 1) f fd ps sp := by
  obtain ⟨oc, od, kV, doc, pm, an, ct, osl, rfl, l, c⟩ := F.ex
  refine fn_of l c S len fun A outer s H vs Q E hr hsp => ?_
  obtain ⟨t, h, q⟩ := body A outer s H vs Q E hr hsp
  exact ⟨t, h.nox, q⟩
theorem FunC.okX (F : FunC K x qual st f fd cv) (S : FnScope N ps (defScope st)) (len : ∀ vs H Q E, sp vs H Q E → vs.length = ps.length)
    (body : ∀ (A : Around) (outer : List Env) (s : Shared) (H : Hp) (vs : List V) (Q : VK) (E : XK), Room k (A.deeper (envOfC qual (defScope st) s.heap.objs.size f cv)) → sp vs H Q E →
      ∃ t, PSs (cxOf (L2.CX P w) P w K mg base N qual (defScope st) f cv A outer s H E) (defBody st) t ∧ t { nx := fun _ H' => Q .non H', rt := Q } (start N vs) H) : FnOk P w K mg base (L2.CX P w) (k + 1) f fd ps sp := by
  obtain ⟨oc, od, kV, doc, pm, an, ct, osl, rfl, l, c⟩ := F.ex
  exact fn_of l c S len fun A outer s H vs Q E hr hsp => body A outer s H vs Q E hr hsp
end
/-- where the table of a code object of the written part is -/
def tabOf (K : PySem.W.Frag) (cv : Value) : Option Addr := match cv with
  | .ref c => (match K.lookup c with
    | some ⟨_, _, .fields vs, _⟩ => (match vs.toList.drop 11 with
      | .ref P :: _ => some P
      | _ => none)
    | _ => none)
  | _ => none
theorem tabOf_spec {K : PySem.W.Frag} {cv : Value} {P : Addr} (h : tabOf K cv = some P) : ∃ c oc od vs osl, cv = .ref c ∧ K.lookup c = some ⟨oc, od, .fields vs, osl⟩ ∧ vs[11]? = some (.ref P) := by
  unfold tabOf at h
  split at h
  · rename_i c
    split at h
    · rename_i oc od vs osl e
      split at h
      · rename_i Q r e2
        cases h
        refine ⟨c, oc, od, vs, osl, rfl, e, ?_⟩
        have z : (vs.toList.drop 11)[0]? = some (.ref P) := by rw [e2]; rfl
        rw [List.getElem?_drop] at z
        simpa using z
      · cases h
    · cases h
  · cases h
/-- a def of the top, its code's table at P, outside of the written part -/
structure TabAt (K : PySem.W.Frag) (q : Program) (mg : Str → Option Value) (c P : Addr) : Prop where
  ex : ∃ (d : DefRec) (f : Addr) (oc : Value) (od : Option Addr) (fd : FuncData) (osl : Array (Option Value)), d ∈ recsOf q ∧ mg d.name = some (.ref f) ∧ K.lookup f = some ⟨oc, od, .func fd, osl⟩ ∧ fd.code = .ref c
  tab : tabOf K (.ref c) = some P
  out : K.lookup P = none
theorem rec_of {q : Program} {n : Str} (h : ((recsOf q).any fun d => d.name == n) = true) : ∃ d ∈ recsOf q, d.name = n := by
  obtain ⟨d, hd, e⟩ := List.any_eq_true.mp h
  exact ⟨d, hd, eq_of_beq e⟩
theorem tabAt_mk {K : PySem.W.Frag} {q : Program} {mg : Str → Option Value} {n : Str} {f c P : Addr} {oc : Value} {od : Option Addr} {fd : FuncData} {osl : Array (Option Value)} {cv : Value} (h : ((recsOf q).any fun d => d.name == n) = true) (hm : mg n = some (.ref f)) (l : K.lookup f = some ⟨oc, od, .func fd, osl⟩) (hc : fd.code = cv)
    (ht : tabOf K cv = some P) (ho : K.lookup P = none) : ∃ c, cv = .ref c ∧ TabAt K q mg c P := by
  obtain ⟨d, hd, e⟩ := rec_of h
  obtain ⟨c, _, _, _, _, rfl, _, _⟩ := tabOf_spec ht
  exact ⟨c, rfl, ⟨d, f, oc, od, fd, osl, hd, by rw [e]; exact hm, l, hc⟩, ht, ho⟩
theorem tab_facts {K : PySem.W.Frag} {q : Program} {mg mb : Str → Option Value} {loose : List Str} {mean : ExcName → Option Value} {h : Heap} {c P : Addr} (KX : K.In h) (T : Top q loose mean mg mb h) (t : TabAt K q mg c P) :
    h.get? P = some { cls := .none, data := .fields #[] } ∧ PySem.W.CodeHd h c P := by
  obtain ⟨d, f, oc, od, fd, osl, hd, hm, l, hc⟩ := t.ex
  obtain ⟨a, o, fd2, c2, P2, e1, e2, e3, e4, isC, tabA⟩ := T.tab d hd
  rw [hm] at e1
  cases e1
  have e5 := KX _ _ l
  rw [e2] at e5
  cases e5
  have e3' : fd = fd2 := by
    have z : Data.func fd = Data.func fd2 := e3
    cases z
    rfl
  subst e3'
  rw [hc] at e4
  cases e4
  obtain ⟨c3, oc3, od3, vs3, osl3, e6, e7, e8⟩ := tabOf_spec t.tab
  cases e6
  obtain ⟨⟨o4, vs4, f1, f2, f3, f4⟩, f5⟩ := tabA
  have e9 := KX _ _ e7
  rw [f1] at e9
  cases e9
  have e10 : vs4 = vs3 := by
    have z : Data.fields vs3 = Data.fields vs4 := f3
    cases z
    rfl
  subst e10
  rw [e8] at f4
  cases f4
  exact ⟨f5, PySem.W.CodeHd.of isC ⟨⟨_, vs4, f1, f2, f3, e8⟩, f5⟩⟩
/-- sys.modules stands in the ground -/
def SysB (base : Heap) : Prop := ∃ mm, base.Ns sysModules mm
theorem SysB.nolist {X : Cx} {pins : List (Addr × Obj)} {σ : L2.St} {H : Hp} {s : Shared} (y : SysB X.base) (I : Inv X pins σ H s) {o : Obj} {xs : Array Value} {n : Nat} (e : s.heap.get? sysModules = some o) (d : o.data = .seq xs n) : False := by
  obtain ⟨mm, o2, es, ep, e1, e2, _⟩ := y
  have z := I.bk _ _ e1
  rw [e] at z
  cases z
  rw [d] at e2
  cases e2
theorem lawGT {P : Program} {w : World} {K : PySem.W.Frag} {mg mb : Str → Option Value} {lv : Nat} {fa a : Addr} {cs : List (Addr × Addr)} {fd : FuncData} {x : Str} {sp : Sp} {s1 : Shared} {vs : List Value} {ns : List Int}
    (KX : K.In s1.heap) (hns : s1.heap.Ns mainGlobals mg) (hb : s1.heap.Ns builtinsNs mb) (hbb : ∀ x : Str, x ≠ "__name__" → mb x = bootBuiltins x) (hlim : s1.heap.NoLimit) (hsys : SysB s1.heap) (hg : s1.gens = #[])
    (hT : ∀ p ∈ cs, s1.heap.get? p.2 = some { cls := .none, data := .fields #[] }) (nT : ∀ p ∈ cs, K.lookup p.2 = none) (C : ∀ p ∈ cs, PySem.W.CodeHd s1.heap p.1 p.2)
    (hbm : ∃ (bm : Addr) (ob : Obj), mg "__builtins__" = some (.ref bm) ∧ bm ≠ builtinsNs ∧ s1.heap.get? bm = some ob ∧ ob.cls = .type "module" ∧ ob.dict = some builtinsNs ∧ ob.data = .plain)
    (ha : s1.heap.get? a = some { cls := .type "list", data := .seq vs.toArray }) (hi : IntsAre vs ns) (hl : ns.length ≤ sizeLine) (hr : Room lv callerA)
    (G : ∀ base : Heap, K.In base → base.Ns mainGlobals mg → SysB base → (∀ p ∈ cs, GxR.TabB base mg p.1 p.2) → FnG P w K mg base CX0 lv fa fd [x] sp) (hbind : ∀ (s : Shared) (u : Value), BindsTo s fd ⟨[u], []⟩ [(x, u)])
    (hsp : ∀ H : Hp, (∀ p ∈ cs, H p.2 = some (tabx p.2)) → SqL K H a (ns.map V.int) → sp [.ref a] H (fun v H2 => v = .bl true ∧ ∀ p ∈ cs, H2 p.2 = some (tabx p.2)) fun _ _ _ => False) :
    codeAny (model P w) callerA (.call (.ref fa) ⟨[.ref a], []⟩) (fun r s2 => r = .ok (.ret (.bool true)) ∧ OldK s1.heap s2.heap ∧ s2.os = s1.os ∧ AllBare s2.gens) s1 := by
  have rv := vals_ints hi
  have lenV := hi.length
  have tabs : ∀ b ∈ cs.map (·.2), s1.heap.get? b = some { cls := .none, data := .fields #[] } := fun b hb2 => by
    obtain ⟨p, hp, e⟩ := List.mem_map.mp hb2
    rw [← e]
    exact hT p hp
  have inT : ∀ p ∈ cs, p.2 ∈ cs.map (·.2) := fun p hp => List.mem_map.mpr ⟨p, hp, rfl⟩
  have aT : a ∉ cs.map (·.2) := fun z => by
    have y := tabs a z
    rw [ha] at y
    have y2 : Data.seq vs.toArray _ = Data.fields #[] := congrArg Obj.data (Option.some.inj y)
    cases y2
  have main : ∀ H : Hp, (∀ p ∈ cs, H p.2 = some (tabx p.2)) → (∀ b, H b = none ∨ b ∈ cs.map (·.2) ∨ ∃ ob xs, H b = some (.frz ob (.lst xs))) → SqL K H a (ns.map V.int) → HOk P w H s1.heap → (∀ b, H b ≠ none → b = a ∨ b ∈ cs.map (·.2)) → (H a ≠ none → K.lookup a = none) →
      codeAny (model P w) callerA (.call (.ref fa) ⟨[.ref a], []⟩) (fun r s2 => r = .ok (.ret (.bool true)) ∧ OldK s1.heap s2.heap ∧ s2.os = s1.os ∧ AllBare s2.gens) s1 := by
    intro H hH hO hS hok hA hK
    have free : ∀ {b : Addr} {o : Obj}, s1.heap.get? b = some o → (∀ xs n, o.data ≠ .seq xs n) → o.data ≠ .fields #[] → H b = none := fun {b o} e d1 d2 => by
      match q : H b with
      | none => rfl
      | some u =>
        rcases hA b (by rw [q]; simp) with z | z
        · rw [z, ha] at e
          cases e
          exact absurd rfl (d1 _ _)
        · rw [tabs b z] at e
          cases e
          exact absurd rfl d2
    have ground : ∀ {b : Addr} {o : Obj}, s1.heap.get? b = some o → (∀ xs n, o.data ≠ .seq xs n) → o.data ≠ .fields #[] → (hidT s1.heap H).get? b = some o := fun e d1 d2 => hidT_get e (free e d1 d2)
    have dct : ∀ {b : Addr} {o : Obj} {es : Array DictEntry} {ep : Nat}, s1.heap.get? b = some o → o.data = .dict es ep → (hidT s1.heap H).get? b = some o := fun {b o es ep} e d => ground e (fun xs n z => by rw [d] at z; cases z) (fun z => by rw [d] at z; cases z)
    have nsK : ∀ {b : Addr} {m : Str → Option Value}, s1.heap.Ns b m → (hidT s1.heap H).Ns b m := fun {b m} z => by
      obtain ⟨o, es, ep, e1, d1, r1⟩ := z
      exact ⟨o, es, ep, dct e1 d1, d1, r1⟩
    have kinB : K.In (hidT s1.heap H) := fun b o e => hidT_get (KX b o e) (by
      match q : H b with
      | none => rfl
      | some u =>
        rcases hA b (by rw [q]; simp) with z | z
        · rw [z] at e q
          rw [hK (by rw [q]; simp)] at e
          cases e
        · obtain ⟨p, hp, ep⟩ := List.mem_map.mp z
          rw [← ep, nT p hp] at e
          cases e)
    have M : Mod K mg (hidT s1.heap H) := ⟨kinB, nsK hns, ⟨mb, nsK hb, hbb⟩, by obtain ⟨mc, h1, h2⟩ := hlim; exact ⟨mc, nsK h1, h2⟩⟩
    have sysB : SysB (hidT s1.heap H) := by
      obtain ⟨mm, h1⟩ := hsys
      exact ⟨mm, nsK h1⟩
    have TB : ∀ p ∈ cs, GxR.TabB (hidT s1.heap H) mg p.1 p.2 := fun p hp => by
      have eT := hT p hp
      refine ⟨?_, ?_, fun z => ?_⟩
      · obtain ⟨o, us, file, tf, flags, tg, inF, text, tt, e1, r1, r2, r3, r4⟩ := C p hp
        refine ⟨o, us, file, tf, flags, tg, inF, text, tt, ground e1 (fun xs n z => by rw [r2] at z; cases z) (fun z => ?_), r1, r2, r3, r4⟩
        rw [r2] at z
        cases z
        simp at r3
      · obtain ⟨bm, ob, b1, b2, b3, b4, b5, b6⟩ := hbm
        refine ⟨bm, ob, b1, b2, fun y => ?_, fun y => ?_, ground b3 (fun xs n z => by rw [b6] at z; cases z) (fun z => by rw [b6] at z; cases z), b4, b5, b6⟩
        · obtain ⟨o, es, ep, e, d, _⟩ := hns
          rw [y, e] at b3
          cases b3
          rw [d] at b6
          cases b6
        · rw [y, eT] at b3
          cases b3
          cases b6
      · obtain ⟨o, es, ep, e, d, _⟩ := hns
        rw [z, eT] at e
        cases e
        cases d
    have nofr : ∀ {b : Addr}, ¬ b ∈ frs [] := fun {b} z => by
      have z2 : b ∈ ([] : List Addr) := z
      simp at z2
    have e0 : Env0 P w K mg (hidT s1.heap H) callerA [] s1 H := ⟨rfl, M, fun b o z => of_hidT z, Nat.le_of_eq (hidT_size _ _), trivial, fun b z => absurd z nofr, hok, .of_eq hg⟩
    refine codeAny_mono ((G _ kinB (nsK hns) sysB TB).runs callerA [] s1 H ⟨[.ref a], []⟩ [.ref a] [.ref a] _ _ rfl hr e0 (hbind s1 (.ref a)) (.cons rfl .nil) (hsp H hH hS)) fun res s2 z => ?_
    match res, z with
    | .error e, z => exact False.elim z
    | .ok .next, z => exact False.elim z
    | .ok .brk, z => exact False.elim z
    | .ok .cont, z => exact False.elim z
    | .ok (.ret u), z =>
      obtain ⟨v, H2, os, bare, un, hok2, r2, q⟩ := z
      obtain ⟨qv, qT⟩ := q
      subst qv
      obtain rfl : u = Value.bool true := r2
      have kept : ∀ b o, b ∉ cs.map (·.2) → s1.heap.get? b = some o → s2.heap.get? b = some o := fun b o nb e => by
        match q : H b with
        | none => exact un.keep b o e q nofr (by simp)
        | some u =>
          rcases hO b with z | z | ⟨ob, xs, z⟩
          · rw [q] at z; cases z
          · exact absurd z nb
          · obtain ⟨g1, _⟩ := hok b _ z
            obtain ⟨g2, _⟩ := hok2 b _ (un.frzs b ob _ z)
            rw [e] at g1; cases g1
            exact g2
      -- a table: it may have grown
      have grown : ∀ p ∈ cs, ∃ more : Array Value, s2.heap.get? p.2 = some { cls := .none, data := .fields more } := fun p hp => by
        obtain ⟨more, e, _⟩ := tabx_at hok2 (qT p hp)
        exact ⟨more, e⟩
      refine ⟨rfl, ⟨fun b o e => ?_, fun b o e => ?_⟩, os, bare⟩
      · by_cases hbt : b ∈ cs.map (·.2)
        · obtain ⟨p, hp, ep⟩ := List.mem_map.mp hbt
          obtain ⟨more, hm⟩ := grown p hp
          rw [← ep] at e ⊢
          rw [hT p hp] at e
          cases e
          exact .inr (.inl ⟨((C p hp).tab (hT p hp)).isCodeTable, rfl, #[], more, rfl, by rw [Array.empty_append]; exact hm⟩)
        · exact .inl (kept b o hbt e)
      · by_cases hbt : b ∈ cs.map (·.2)
        · obtain ⟨p, hp, ep⟩ := List.mem_map.mp hbt
          obtain ⟨more, hm⟩ := grown p hp
          rw [← ep]
          exact ⟨_, hm⟩
        · exact ⟨o, kept b o hbt e⟩
  have nilT : TriplesOk (#[] : Array Value).toList := True.intro
  match hk : K.lookup a with
  | some o =>
    have e := KX a o hk
    rw [ha] at e
    cases e
    have yes : ∀ {b : Addr}, b ∈ cs.map (·.2) → (if b ∈ cs.map (·.2) then some (tabx b) else none) = some (tabx b) := fun z => if_pos z
    have nay : ∀ {b : Addr}, b ∉ cs.map (·.2) → (if b ∈ cs.map (·.2) then some (tabx b) else none) = none := fun z => if_neg z
    refine main (fun b => if b ∈ cs.map (·.2) then some (tabx b) else none) (fun p hp => yes (inT p hp)) (fun b => ?_) (.inr ⟨_, vs.toArray, _, hk, rfl, rfl, rfl, by rw [List.size_toArray, lenV]; exact hl, by simpa using rv⟩) (fun b u z => ?_) (fun b z => ?_) fun z => absurd (nay aT) z
    · by_cases h : b ∈ cs.map (·.2)
      · exact .inr (.inl h)
      · exact .inl (nay h)
    · by_cases h : b ∈ cs.map (·.2)
      · have z2 := (yes h).symm.trans z
        cases z2
        exact tabx_ok (tabs b h) nilT
      · have z2 := (nay h).symm.trans z
        cases z2
    · by_cases h : b ∈ cs.map (·.2)
      · exact .inr h
      · exact absurd (nay h) z
  | none =>
    let F0 : HO := HO.frz { cls := .type "list", data := .seq vs.toArray } (.lst (ns.map V.int))
    have y1 : ∀ {b : Addr}, b = a → (if b = a then some F0 else if b ∈ cs.map (·.2) then some (tabx b) else none) = some F0 := fun z => if_pos z
    have y2 : ∀ {b : Addr}, b ≠ a → b ∈ cs.map (·.2) → (if b = a then some F0 else if b ∈ cs.map (·.2) then some (tabx b) else none) = some (tabx b) := fun z h => (if_neg z).trans (if_pos h)
    have y3 : ∀ {b : Addr}, b ≠ a → b ∉ cs.map (·.2) → (if b = a then some F0 else if b ∈ cs.map (·.2) then some (tabx b) else none) = none := fun z h => (if_neg z).trans (if_neg h)
    refine main (fun b => if b = a then some F0 else if b ∈ cs.map (·.2) then some (tabx b) else none) (fun p hp => y2 (fun z => aT (by rw [← z]; exact inT p hp)) (inT p hp)) (fun b => ?_) (.inl (.inr ⟨_, y1 rfl⟩)) (fun b u z => ?_) (fun b z => ?_) fun _ => hk
    · by_cases h : b = a
      · exact .inr (.inr ⟨_, _, y1 h⟩)
      · by_cases h2 : b ∈ cs.map (·.2)
        · exact .inr (.inl h2)
        · exact .inl (y3 h h2)
    · by_cases h : b = a
      · have z2 := (y1 h).symm.trans z
        cases z2
        subst h
        exact ⟨ha, by rw [List.length_map]; exact hl, vs, _, rv, ha⟩
      · by_cases h2 : b ∈ cs.map (·.2)
        · have z2 := (y2 h h2).symm.trans z
          cases z2
          exact tabx_ok (tabs b h2) nilT
        · have z2 := (y3 h h2).symm.trans z
          cases z2
    · by_cases h : b = a
      · exact .inl h
      · by_cases h2 : b ∈ cs.map (·.2)
        · exact .inr h2
        · exact absurd (y3 h h2) z
theorem walkGT {l : PySem.W.OpenLaw} {n lv : Nat} {q : Program} {loose : List Str} {XP : (Str → Option Value) → Heap → Prop} {YP : World → Heap → Prop} {d : DefRec} {K : Params → PySem.W.Frag} {x : Str}
    (hn : l.most = some n) (hn2 : n ≤ sizeLine) (hdf : d.params.defaults = []) (hr : Room lv callerA) (hY : ∀ (w : World) (h : Heap), YP w h → (K w.params).In h) (hseer : importsNone q = true)
    (G : ∀ (w : World) (mg : Str → Option Value) (fa : Addr) (h : Heap), (K w.params).In h → h.Ns mainGlobals mg → mg d.name = some (.ref fa) →
      ∃ (fd : FuncData) (cs : List (Addr × Addr)) (sp : Sp), (∀ p ∈ cs, TabAt (K w.params) q mg p.1 p.2) ∧ (∀ (s : Shared) (u : Value), BindsTo s fd ⟨[u], []⟩ [(x, u)]) ∧
        (∀ (H : Hp) (a : Addr) (ns : List Int), ns.length ≤ n → (∀ p ∈ cs, H p.2 = some (tabx p.2)) → SqL (K w.params) H a (ns.map V.int) → sp [.ref a] H (fun v H2 => v = .bl true ∧ ∀ p ∈ cs, H2 p.2 = some (tabx p.2)) fun _ _ _ => False) ∧
        ∀ base : Heap, (K w.params).In base → base.Ns mainGlobals mg → SysB base → (∀ p ∈ cs, GxR.TabB base mg p.1 p.2) → FnG l.prog w (K w.params) mg base CX0 lv fa fd [x] sp) :
    PySem.W.WalkO q loose XP YP l.row.toRowW d [] (fun f vs => PySem.call f vs) := by
  refine Att.attach_call hn hdf fun w s0 s1 mg mb fa o pm cd doc a vs ns Gr Y ho hd hcd hmg hobj hints hlen hg => ?_
  have KX := hY w _ Y
  obtain ⟨fd, cs, sp, hC, hb, hsp, hF⟩ := G w mg fa _ KX Gr.T.g hmg
  have seer := Gr.T.seer hseer
  obtain ⟨mm, hmods, _⟩ := seer.mods
  exact lawGT KX Gr.T.g Gr.T.b Gr.T.builtins Gr.T.nolimit ⟨mm, hmods⟩ hg (fun p hp => (tab_facts KX Gr.T (hC p hp)).1) (fun p hp => (hC p hp).out) (fun p hp => (tab_facts KX Gr.T (hC p hp)).2) Gr.T.bmain hobj hints (Nat.le_trans hlen hn2) hr hF hb fun H hH hS => hsp H a ns hlen hH hS
end Fp

set_option Elab.async false
set_option linter.all false
set_option maxRecDepth 100000
set_option maxHeartbeats 4000000
namespace Fp
open PySem PySem.Spec PyProof.Rows L2
/-! ### C(e, ..) as a value: an own exception over ValueError, kept as it stands -/
/-- C(e, ..), C's own __init__ keeping sp; the exception stands in the heap as exo, its fields as exd -/
def tMkV (C : Addr) (sp : Sp) (dvs : List V) (ta : TA) : TE := fun σ H Q => ta σ H fun vs H1 => vs.length ≤ 1000 ∧ ∀ a, H1 a = none → sp (.ref a :: (vs ++ dvs)) (upd H1 a (exo a C none)) (fun v H2 => v = .non ∧ Q (.ref a) H2) (fun _ _ _ => False)
section
variable {X : Cx}
theorem pe_mkV {CX : CXT} {x : Str} {C fI : Addr} {k : Nat} {fd : FuncData} {ps : List Str} {sp : Sp} {ds : List Value} {dvs : List V} {e : Expr} {es : List Expr} {ta : TA} {p pos : Pos} (T : OexC X.K C) (iC : PySem.W.findIn X.K (.ref C) "__init__" = some (some (.ref fI))) (tI : PySem.W.typeIn X.K (.ref fI) = some (.type "function"))
    (F1 : FnOk X.prog X.w X.K X.mg X.base CX k fI fd ps sp) (hr : Room (k + 1) X.A) (hb : Binds X.K fd ps ds) (hd : Vals dvs ds) (hx : Passes CX X (fun _ _ _ => False)) (hg : Gl X x) (hm : X.mg x = some (.ref C)) (ha : PA X (e :: es) ta)
    (hdb : (x == ("__debug__" : Str)) = false := by decide) (he : starEach (e :: es) X.env = (false, eval e X.env) :: starEach es X.env := by rfl) (hpl : (backTo pos (starEach es X.env)).any (·.1) = false := by rfl) :
    PE X (.Call (.Name x p) (e :: es) [] pos) (tMkV C sp dvs ta) := by
  refine ⟨fun pins s σ H Q I h => ?_⟩
  obtain ⟨nm, q, N, bs, bm, sn, sub, ab, col, dd, k0, k1, k2, k3, k5, hC, hbm⟩ := T.cls
  refine wpAny_Call_Name_kw (ld_glob I hg hm ?_ hdb)
  refine PySem.W.callWith_K (h₀ := X.base) I.ok.mod.kin T.kC (thn (ha.run pos pins s σ H _ I h) fun us s1 ⟨vs, H1, I1, r1, hz, q1⟩ => ⟨I1.kIn, ?_⟩) he hpl
  show wpAny _ _ (call (.ref C) us) _ _ _
  obtain ⟨hp, g, dr, tk, os⟩ := s1
  have hsz : hp.objs.size ≤ hp.objs.size + 1 := Nat.le_succ _
  have hn : H1 (hp.objs.size + 1) = none := I1.hok.fresh hsz
  have hq := q1 (hp.objs.size + 1) hn
  have kk : ∀ b o, hp.get? b = some o → ((hp.push (PySem.W.kdv_tup us)).push (PySem.HandSPX.excO C hp.objs.size)).get? b = some o := fun b o e => Heap.get?_push_of_some _ (Heap.get?_push_of_some _ e)
  have hget : ((hp.push (PySem.W.kdv_tup us)).push (PySem.HandSPX.excO C hp.objs.size)).get? (hp.objs.size + 1) = some (PySem.HandSPX.excO C hp.objs.size) := by heap_get
  have I2 : Inv X pins σ (upd H1 (hp.objs.size + 1) (exo (hp.objs.size + 1) C none)) ⟨(hp.push (PySem.W.kdv_tup us)).push (PySem.HandSPX.excO C hp.objs.size), g, dr, tk, os⟩ :=
    I1.laid (t' := tk) (a := hp.objs.size + 1) (o := exo (hp.objs.size + 1) C none) (h' := (hp.push (PySem.W.kdv_tup us)).push (PySem.HandSPX.excO C hp.objs.size)) kk hsz (exo_ok hget)
  have r2 : Vals (V.ref (hp.objs.size + 1) :: (vs ++ dvs)) (Value.ref (hp.objs.size + 1) :: (us ++ ds)) := .cons rfl (r1.append hd)
  have hl : (Value.ref (hp.objs.size + 1) :: us ++ ds).length = ps.length := by
    have e := r2.length
    rw [F1.len _ _ _ _ hq] at e
    exact e.symm
  have hus : us.length ≤ sizeLine := by
    rw [← Paired.length r1, sizeLine_eq]
    omega
  refine wpAny_call (PySem.HandSPX.call_own F.excBase_ValueError (fun Y => PySem.HandSPX.refsVE_contains Y bm hbm) (I1.kIn _ _ hC) (PySem.W.looks_findIn I1.kIn iC) (fun self => PySem.W.bind_fn I1.kIn self tI) hus
    (codeAny_mono (F1.run _ X.stack _ _ ⟨Value.ref (hp.objs.size + 1) :: us, []⟩ (Value.ref (hp.objs.size + 1) :: (us ++ ds)) _ _ (fun _ _ _ => False) (hr.make C us []) (I2.env0.make C us []) (hb _ (Value.ref (hp.objs.size + 1) :: us) I2.kIn hl) r2 hq) fun r s' hq' => ?_))
  cases r with
  | error er => exact hx pins σ _ _ er s' I2 hq'
  | ok fl =>
    cases fl with
    | ret u =>
      obtain ⟨v, H2, os2, bare2, un2, hok2, rv, ev, q2⟩ := hq'
      subst ev
      obtain ⟨h2, g2, d2, t2, os'⟩ := s'
      have J : Inv X pins σ H2 ⟨h2, g2, d2, t2, os'⟩ := I2.call' (ch := []) os2 un2 hok2 bare2 (fun b z => absurd z (by simp))
      exact ⟨rv, ⟨.ref (hp.objs.size + 1), H2, J, rfl, q2⟩⟩
    | next => exact False.elim hq'
    | brk => exact False.elim hq'
    | cont => exact False.elim hq'
theorem pe_mkV0 {CX : CXT} {x : Str} {C fI : Addr} {k : Nat} {fd : FuncData} {ps : List Str} {sp : Sp} {p pos : Pos} (T : OexC X.K C) (iC : PySem.W.findIn X.K (.ref C) "__init__" = some (some (.ref fI))) (tI : PySem.W.typeIn X.K (.ref fI) = some (.type "function"))
    (F1 : FnOk X.prog X.w X.K X.mg X.base CX k fI fd ps sp) (hr : Room (k + 1) X.A) (hb : Binds X.K fd ps []) (hx : Passes CX X (fun _ _ _ => False)) (hg : Gl X x) (hm : X.mg x = some (.ref C)) (hdb : (x == ("__debug__" : Str)) = false := by decide) :
    PE X (.Call (.Name x p) [] [] pos) (tMkV C sp [] tNil) := by
  refine ⟨fun pins s σ H Q I h => ?_⟩
  obtain ⟨nm, q, N, bs, bm, sn, sub, ab, col, dd, k0, k1, k2, k3, k5, hC, hbm⟩ := T.cls
  refine wpAny_Call_Name_kw (ld_glob I hg hm ?_ hdb)
  refine PySem.W.callWith_K0 I.kIn T.kC ?_
  show wpAny _ _ (call (.ref C) []) _ _ _
  obtain ⟨hp, g, dr, tk, os⟩ := s
  have hsz : hp.objs.size ≤ hp.objs.size + 1 := Nat.le_succ _
  have hsp := (show [].length ≤ 1000 ∧ ∀ a, H a = none → sp [.ref a] (upd H a (exo a C none)) (fun v H2 => v = .non ∧ Q (.ref a) H2) (fun _ _ _ => False) from h).2 (hp.objs.size + 1) (I.hok.fresh hsz)
  have kk : ∀ b o, hp.get? b = some o → ((hp.push (PySem.W.kdv_tup [])).push (PySem.HandSPX.excO C hp.objs.size)).get? b = some o := fun b o z => Heap.get?_push_of_some _ (Heap.get?_push_of_some _ z)
  have hget : ((hp.push (PySem.W.kdv_tup [])).push (PySem.HandSPX.excO C hp.objs.size)).get? (hp.objs.size + 1) = some (PySem.HandSPX.excO C hp.objs.size) := by heap_get
  have I2 : Inv X pins σ (upd H (hp.objs.size + 1) (exo (hp.objs.size + 1) C none)) ⟨(hp.push (PySem.W.kdv_tup [])).push (PySem.HandSPX.excO C hp.objs.size), g, dr, tk, os⟩ :=
    I.laid (t' := tk) (a := hp.objs.size + 1) (o := exo (hp.objs.size + 1) C none) (h' := (hp.push (PySem.W.kdv_tup [])).push (PySem.HandSPX.excO C hp.objs.size)) kk hsz (exo_ok hget)
  have r2 : Vals [V.ref (hp.objs.size + 1)] [Value.ref (hp.objs.size + 1)] := .cons rfl .nil
  have hl : ([Value.ref (hp.objs.size + 1)] ++ []).length = ps.length := by
    have z := F1.len _ _ _ _ hsp
    exact z
  refine wpAny_call (PySem.HandSPX.call_own F.excBase_ValueError (fun Y => PySem.HandSPX.refsVE_contains Y bm hbm) (I.kIn _ _ hC) (PySem.W.looks_findIn I.kIn iC) (fun self => PySem.W.bind_fn I.kIn self tI) (Nat.zero_le _)
    (codeAny_mono (F1.run _ X.stack _ _ ⟨[Value.ref (hp.objs.size + 1)], []⟩ [Value.ref (hp.objs.size + 1)] _ _ (fun _ _ _ => False) (hr.make C [] []) (I2.env0.make C [] []) (hb _ [Value.ref (hp.objs.size + 1)] I2.kIn hl) r2 hsp) fun res s2 z => ?_))
  match res, z with
  | .error er, z => exact hx pins σ _ _ er s2 I2 z
  | .ok .next, z => exact False.elim z
  | .ok .brk, z => exact False.elim z
  | .ok .cont, z => exact False.elim z
  | .ok (.ret u), z =>
    obtain ⟨v, H2, os2, bare2, un2, hok2, rv, ev, q2⟩ := z
    subst ev
    obtain ⟨h2, g2, d2, t2, os3⟩ := s2
    have J : Inv X pins σ H2 ⟨h2, g2, d2, t2, os3⟩ := I2.call' (ch := []) os2 un2 hok2 bare2 (fun b z => absurd z (by simp))
    exact ⟨rv, ⟨.ref (hp.objs.size + 1), H2, J, rfl, q2⟩⟩
end
end Fp

set_option Elab.async false
set_option linter.all false
set_option maxRecDepth 100000
set_option maxHeartbeats 4000000
namespace Fp
open PySem PySem.Spec PyProof.Rows L2
/-! ### an own exception as a value: isinstance, fields -/
/-- an exception of the class D, with the fields fs -/
def ExV (H : Hp) (a D : Addr) (fs : List (Str × V)) : Prop := (fs = [] ∧ H a = some (exo a D none)) ∨ ∃ dd, H a = some (exo a D (some dd)) ∧ H dd = some (exd dd fs)
theorem ExV.inst {X : Cx} {pins : List (Addr × Obj)} {σ : L2.St} {H : Hp} {s : Shared} {a D : Addr} {fs : List (Str × V)} (I : Inv X pins σ H s) (h : ExV H a D fs) : ∃ (oe : Obj) (od : Option Obj), PySem.W.InstAt s.heap a oe D od := by
  rcases h with ⟨_, h⟩ | ⟨dd, h, hd⟩
  · obtain ⟨t1, e⟩ := exo_at I.hok h
    exact ⟨_, none, ⟨e, rfl, rfl, trivial⟩⟩
  · obtain ⟨t1, e⟩ := exo_at I.hok h
    obtain ⟨mA, hns, _⟩ := exd_at I.hok hd
    obtain ⟨od, ho, _⟩ := lookIn_ns hns
    exact ⟨_, some od, ⟨e, rfl, rfl, ho⟩⟩
def rIsV (K : PySem.W.Frag) : List V → Hp → VK → Prop := fun xs H Q => ∃ (a D : Addr) (fs : List (Str × V)) (c : V) (cv : Value) (b : Bool), xs = [.ref a, c] ∧ ExV H a D fs ∧ ExcC K D ∧ (∀ u, RelV c u → u = cv) ∧ PySem.W.kitOne K (.ref D) cv = some b ∧ Q (.bl b) H
theorem call_isV {X : Cx} : CallR X (.builtin "isinstance") (rIsV X.K) := by
  intro pins s σ H xs us Q I r h
  obtain ⟨a, D, fs, c, cv, b, rfl, hx, C, hcv, e, q⟩ := h
  cases r with
  | cons rx rr =>
    cases rr with
    | cons rt rr =>
      cases rr
      cases rx
      have ec := hcv _ rt
      subst ec
      obtain ⟨oe, od, J⟩ := hx.inst I
      have hcl : (PySem.W.clsIn X.K D).isSome = true := by
        obtain ⟨cd, hc, _⟩ := PySem.W.any_some C.hd
        rw [hc]
        rfl
      exact PySem.W.kia_one (PySem.W.kitx_exc hcl C.hg C.hk C.hs C.ha C.hn C.ht C.hm) I.kIn J e (fun z => nomatch z) fun tk => ⟨.bl b, H, I.kept (t' := tk) fun _ _ z => z, rfl, q⟩
/-- e.f, e such an exception -/
def tFld (K : PySem.W.Frag) (f : Str) (te : TE) : TE := fun σ H Q => te σ H fun x H1 => ∃ (a C dd : Addr) (fs : List (Str × V)) (v : V), x = .ref a ∧ H1 a = some (exo a C (some dd)) ∧ H1 dd = some (exd dd fs) ∧ XfC K C ∧ PySem.W.findIn K (.ref C) f = some none ∧ fs.lookup f = some v ∧ Q v H1
theorem pe_fld {X : Cx} {e : Expr} {te : TE} {pos : Pos} {n : Str} (he : PE X e te) (hb : attributeBase e n X.env (eval e X.env) = eval e X.env := by rfl) : PE X (.Attribute e n pos) (tFld X.K n te) := by
  refine ⟨fun pins s σ H Q I h => ?_⟩
  refine attr_of hb (thn (he.run pins s σ H _ I h) fun u s1 hh => ?_)
  obtain ⟨x, H1, I1, rx, a, C, dd, fs, v, ex, ea, ed, T, hno, l, q⟩ := hh
  subst ex
  obtain rfl : u = Value.ref a := rx
  obtain ⟨t1, e1⟩ := exo_at I1.hok ea
  obtain ⟨mA, hns, hr⟩ := exd_at I1.hok ed
  obtain ⟨od, ho, hl⟩ := lookIn_ns hns
  obtain ⟨u, hu, ru⟩ := RelO.some_of (v := v) (o := mA n) (by rw [← l]; exact hr n)
  have J : PySem.W.InstAt s1.heap a ({ cls := .ref C, dict := some dd, data := .fields #[.ref t1, .none, .none, .none, .bool false, .none] } : Obj) C (some od) := ⟨e1, rfl, rfl, ho⟩
  exact HandSPX.exc_get I1.kIn J T.ga T.gg T.exC (PySem.W.findObj_own T.hdC hno rfl (by rw [hl, hu])) (handed_of ru) ⟨v, H1, I1.tok _, ru, q⟩
end Fp

set_option Elab.async false
set_option linter.all false
set_option maxRecDepth 100000
set_option maxHeartbeats 4000000
namespace Fp
open PySem PySem.Spec PyProof.Rows L2
/-! ### things with empty dicts in them, shown -/
mutual
inductive DpX (K : PySem.W.Frag) (H : Hp) : V → PyData → Prop
  | non : DpX K H .non .none
  | bl (b : Bool) : DpX K H (.bl b) (.bool b)
  | int (i : Int) : DpX K H (.int i) (.int i)
  | str (x : Str) : DpX K H (.str x) (.str x)
  | lst {a : Addr} {xs : List V} {ds : List PyData} : SqL K H a xs → DpXAll K H xs ds → DpX K H (.ref a) (.list ds)
  | tup {a : Addr} {xs : List V} {ds : List PyData} : SqT K H a xs → DpXAll K H xs ds → DpX K H (.ref a) (.tuple ds)
  | emp {a : Addr} : H a = some (.dK []) → DpX K H (.ref a) (.dict [])
inductive DpXAll (K : PySem.W.Frag) (H : Hp) : List V → List PyData → Prop
  | nil : DpXAll K H [] []
  | cons {v : V} {vs : List V} {d : PyData} {ds : List PyData} : DpX K H v d → DpXAll K H vs ds → DpXAll K H (v :: vs) (d :: ds)
end
section
variable {X : Cx} {pins : List (Addr × Obj)} {σ : L2.St} {H : Hp} {s : Shared}
mutual
theorem DpX.reads (I : Inv X pins σ H s) (y : SysB X.base) : ∀ (d : PyData) (v : V) (u : Value), DpX X.K H v d → RelV v u → ∃ as, Reads s.heap u d as ∧ sysModules ∉ as
  | .none, _, _, h, r => by
    cases h
    cases r
    exact ⟨_, Reads.none, List.not_mem_nil⟩
  | .bool b, _, _, h, r => by
    cases h
    cases r
    exact ⟨_, Reads.bool b, List.not_mem_nil⟩
  | .int i, _, _, h, r => by
    cases h
    obtain ⟨t, rfl⟩ := r
    exact ⟨_, Reads.int i t, List.not_mem_nil⟩
  | .str x, _, _, h, r => by
    cases h
    obtain ⟨t, rfl⟩ := r
    exact ⟨_, Reads.str x t, List.not_mem_nil⟩
  | .list ds, _, _, h, r => by
    cases h with
    | @lst a xs _ hs ha =>
      cases r
      obtain ⟨its, rv, ⟨o, n, ho, hc, _, hd⟩, _⟩ := I.list hs
      obtain ⟨as, hr, hn⟩ := DpX.readsAll I y ds _ its ha rv
      refine ⟨_, Reads.list ho hc hd hr, fun m => ?_⟩
      rcases List.mem_cons.mp m with e | e
      · rw [← e] at ho
        exact (y.nolist I ho hd).elim
      · exact hn e
  | .tuple ds, _, _, h, r => by
    cases h with
    | tup hs ha =>
      cases r
      obtain ⟨its, rv, ⟨o, ho, hc, n, hd⟩, _⟩ := I.tuple hs
      obtain ⟨as, hr, hn⟩ := DpX.readsAll I y ds _ its ha rv
      exact ⟨_, Reads.tuple ho hc hd hr, hn⟩
  | .dict _, _, _, h, r => by
    cases h with
    | @emp a ha =>
      cases r
      obtain ⟨_, lo, vs, rk, hd⟩ := (show ObjOk X.prog X.w H s.heap a (.dK []) from I.hok a _ ha)
      have hl : vs = [] := List.length_eq_zero_iff.mp (Paired.length rk).symm
      subst hl
      obtain ⟨o, es, ep, ho, hx, hd2, _, hp, _⟩ := hd
      have he : es.toList = [] := by
        cases h9 : es.toList with
        | nil => rfl
        | cons e r =>
          rw [h9] at hp
          cases hp
      refine ⟨_, Reads.dict ho hx.1 hd2 (as := []) (bs := []) ?_ ?_, fun m => ?_⟩
      · rw [he]
        exact ReadsAll.nil
      · rw [he]
        exact ReadsAll.nil
      · rcases List.mem_cons.mp m with e | e
        · rw [← e] at lo
          exact absurd lo (by decide)
        · cases e
theorem DpX.readsAll (I : Inv X pins σ H s) (y : SysB X.base) : ∀ (ds : List PyData) (vs : List V) (us : List Value), DpXAll X.K H vs ds → Vals vs us → ∃ as, ReadsAll s.heap us ds as ∧ sysModules ∉ as
  | [], _, _, h, r => by
    cases h
    cases r
    exact ⟨_, ReadsAll.nil, List.not_mem_nil⟩
  | d :: ds, _, _, h, r => by
    cases h with
    | cons h1 h2 =>
      cases r with
      | cons r1 r2 =>
        obtain ⟨as, a1, a2⟩ := DpX.reads I y d _ _ h1 r1
        obtain ⟨bs, b1, b2⟩ := DpX.readsAll I y ds _ _ h2 r2
        exact ⟨_, ReadsAll.cons a1 b1, fun m => (List.mem_append.mp m).elim a2 b2⟩
end
/-- repr of such a thing -/
theorem call_reprX {lv : Nat} (hq : X.A.guards = some []) (hr : Room lv X.A) (hy : SysB X.base) : CallR X (.builtin "repr") (fun xs H Q => ∃ a d, xs = [.ref a] ∧ DpX X.K H (.ref a) d ∧ d.showable = true ∧ d.depth ≤ 60 ∧ d.shown.length ≤ sizeLine ∧ Q (.str d.shown) H) := by
  intro pins s σ H xs us Q I r h
  obtain ⟨a, d, rfl, hd, h1, h2, h3, q⟩ := h
  obtain ⟨u, rfl, ru⟩ := vals1 r
  obtain ⟨as, rd, hn⟩ := DpX.reads I hy d _ _ hd ru
  obtain rfl : u = Value.ref a := ru
  have hu := hr.un
  refine repr_of_reads' (h₀ := s.heap) rd h1 (fun _ => hn) hq (by omega) (fun _ _ z => z) (fun h' t tk k => ?_) h3
  exact ⟨.str d.shown, H, I.kept k, ⟨t, rfl⟩, q⟩
end
end Fp

set_option Elab.async false
set_option linter.all false
set_option maxRecDepth 100000
set_option maxHeartbeats 4000000
namespace Fp
open PySem PySem.Spec PyProof.Rows L2
/-! ### repr of anything told by DpX -/
section
variable {X : Cx}
theorem call_reprA {lv : Nat} (hq : X.A.guards = some []) (hr : Room lv X.A) (hy : SysB X.base) : CallR X (.builtin "repr") (fun xs H Q => ∃ v d, xs = [v] ∧ DpX X.K H v d ∧ d.showable = true ∧ d.depth ≤ 60 ∧ d.shown.length ≤ sizeLine ∧ Q (.str d.shown) H) := by
  intro pins s σ H xs us Q I r h
  obtain ⟨v, d, rfl, hd, h1, h2, h3, q⟩ := h
  cases hd with
  | non =>
    obtain ⟨u, rfl, ru⟩ := vals1 r
    obtain rfl : u = Value.none := ru
    exact PySem.P.repr_of_none ⟨.str PyData.none.shown, H, I.tok _, ⟨_, rfl⟩, q⟩
  | bl b =>
    obtain ⟨u, rfl, ru⟩ := vals1 r
    obtain rfl : u = Value.bool b := ru
    refine PySem.P.repr_of_bool ⟨.str (PyData.bool b).shown, H, I.tok _, ⟨s.toks, ?_⟩, q⟩
    cases b <;> rfl
  | int i =>
    refine SkE.call_repr_int pins s σ H _ us Q I r ⟨i, rfl, ?_, q⟩
    simp only [PyData.showable, decide_eq_true_eq] at h1
    omega
  | str x =>
    obtain ⟨u, rfl, t, rfl⟩ := vals1 r
    exact PySem.P.repr_of_str ⟨.str (PyData.str x).shown, H, I.tok _, ⟨_, rfl⟩, q⟩ h3
  | lst g1 g2 => exact call_reprX hq hr hy pins s σ H _ us Q I r ⟨_, _, rfl, .lst g1 g2, h1, h2, h3, q⟩
  | tup g1 g2 => exact call_reprX hq hr hy pins s σ H _ us Q I r ⟨_, _, rfl, .tup g1 g2, h1, h2, h3, q⟩
  | emp g => exact call_reprX hq hr hy pins s σ H _ us Q I r ⟨_, _, rfl, .emp g, h1, h2, h3, q⟩
/-- repr, len, list and str by name -/
def rRepr (K : PySem.W.Frag) : List V → Hp → VK → Prop := fun xs H Q => ∃ v d, xs = [v] ∧ DpX K H v d ∧ d.showable = true ∧ d.depth ≤ 60 ∧ d.shown.length ≤ sizeLine ∧ Q (.str d.shown) H
def rLen (K : PySem.W.Frag) : List V → Hp → VK → Prop := fun xs H Q => ∃ p ys, xs = [.ref p] ∧ (SqL K H p ys ∨ SqT K H p ys) ∧ Q (.int ys.length) H
def rLst (K : PySem.W.Frag) : List V → Hp → VK → Prop := fun xs H Q => ∃ p ys, xs = [.ref p] ∧ (SqL K H p ys ∨ SqT K H p ys) ∧ ∀ l, H l = none → Q (.ref l) (upd H l (.lst ys))
def rStrI : List V → Hp → VK → Prop := fun xs H Q => ∃ i, xs = [.int i] ∧ i.natAbs.log2 < 1920 ∧ Q (.str (toString i)) H
def rTupl (K : PySem.W.Frag) : List V → Hp → VK → Prop := fun xs H Q => ∃ p ys, xs = [.ref p] ∧ ((SqL K H p ys ∧ ∀ l, H l = none → Q (.ref l) (upd H l (.tup ys))) ∨ (SqT K H p ys ∧ Q (.ref p) H))
theorem call_tupN : CallR X (.type "tuple") (rTupl X.K) := call_tuple_of
theorem call_reprN {lv : Nat} (hq : X.A.guards = some []) (hr : Room lv X.A) (hy : SysB X.base) : CallR X (.builtin "repr") (rRepr X.K) := call_reprA hq hr hy
theorem call_lenN : CallR X (.builtin "len") (rLen X.K) := call_len_seq
theorem call_lstN : CallR X (.type "list") (rLst X.K) := call_list_of
theorem call_strN : CallR X (.type "str") rStrI := call_str_int
end
end Fp

set_option Elab.async false
set_option linter.all false
set_option maxRecDepth 100000
set_option maxHeartbeats 4000000
namespace Fp
open PySem PySem.Spec PyProof.Rows L2
/-! ### int(text), texts added, a text times a number -/
def rIntT : List V → Hp → VK → Prop := fun xs H Q => ∃ x n, xs = [.str x] ∧ x.length ≤ 640 ∧ PySem.intText? x = some n ∧ Q (.int n) H
def rAddS : R2 := fun x y H Q => ∃ i j, x = .str i ∧ y = .str j ∧ i.length + j.length ≤ sizeLine ∧ Q (.str (i ++ j)) H
def rMulS : R2 := fun x y H Q => ∃ (z : Str) (n : Int), x = .str z ∧ y = .int n ∧ 0 ≤ n ∧ n ≤ 1000 ∧ z.length ≤ 1000 ∧ Q (.str (Txt.mul z n)) H
theorem mulOk_of {z : Str} {n : Int} (h0 : 0 ≤ n) (h1 : n ≤ 1000) (hz : z.length ≤ 1000) : MulOk z n := by
  refine ⟨?_, fun h2 _ => ?_, fun _ _ => ?_⟩
  · rw [decide_eq_false (by omega), decide_eq_false (by omega)]
    rfl
  · have h3 : (1001 : Int) ≤ (2 ^ 63 - 1) / n := by
      rw [Int.le_ediv_iff_mul_le (by omega)]
      omega
    omega
  · have e : z.length * n.toNat ≤ 1000 * 1000 := Nat.mul_le_mul hz (by omega)
    have hs : sizeLine = 16777216 := sizeLine_eq
    exact decide_eq_false (by omega)
section
variable {X : Cx}
theorem call_intT : CallR X (.type "int") rIntT := by
  intro pins s σ H xs us Q I r h
  obtain ⟨x, n, rfl, hl, hn, q⟩ := h
  obtain ⟨u, rfl, t, rfl⟩ := vals1 r
  exact PySem.W.KIN.call_text hn hl ⟨.int n, H, I.tok _, ⟨_, rfl⟩, q⟩
theorem op_addS : OpR X (binaryOp .Add) rAddS := op_add_str
theorem op_mulS : OpR X (binaryOp .Mult) rMulS := by
  intro pins s σ H x y v u Q I rx ry h
  obtain ⟨z, n, rfl, rfl, h0, h1, hz, q⟩ := h
  obtain ⟨t, rfl⟩ := rx
  obtain ⟨t2, rfl⟩ := ry
  exact SB.mul (mulOk_of h0 h1 hz) fun t' k => ⟨.str _, H, I.tok _, ⟨_, rfl⟩, q⟩
end
end Fp

set_option Elab.async false
set_option linter.all false
set_option maxRecDepth 100000
set_option maxHeartbeats 4000000
set_option exponentiation.threshold 10000
namespace Fp
open PySem PySem.Spec PyProof.Rows L2
def topS (i : Nat) : Stmt := PySem.Challenge.pw_freshparts_k03_what_lives_are.main.body.getD i (.Pass ⟨0, 0, 0, 0⟩)
abbrev s_cd : Stmt := topS 7
theorem sc_cd : FnScope ["one", "other", "great", "small"] ["one", "other"] (defScope s_cd) := ⟨rfl, rfl, rfl, by decide +kernel, rfl, by decide +kernel, by decide +kernel⟩

/-! ### the greatest common divisor -/
theorem abs_if (i : Int) : (if i < 0 then -i else i) = (i.natAbs : Int) := by split <;> omega
theorem gcd_turn {g s : Int} (hs : 0 < s) (hg : 0 ≤ g) : Int.gcd s (g.fmod s) = Int.gcd g s := by
  obtain ⟨n, rfl⟩ := Int.eq_ofNat_of_zero_le hg
  obtain ⟨m, rfl⟩ := Int.eq_ofNat_of_zero_le (Int.le_of_lt hs)
  rw [Int.fmod_eq_emod_of_nonneg _ (Int.le_of_lt hs)]
  show Nat.gcd m ((n : Int) % (m : Int)).natAbs = Nat.gcd n m
  rw [show ((n : Int) % (m : Int)) = ((n % m : Nat) : Int) from (Int.natCast_emod n m).symm, Int.natAbs_natCast, Nat.gcd_comm n m, Nat.gcd_comm m (n % m)]
  exact (Nat.gcd_rec m n).symm

section
variable {P : Program} {w : World} {K : PySem.W.Frag} {mg : Str → Option Value} {base : Heap}
def spCd : Sp := fun vs H Q _ => ∃ a b : Int, vs = [.int a, .int b] ∧ Q (.int (Int.gcd a b : Nat)) H
theorem ok_cd {f : Addr} {fd : FuncData} {k : Nat} (F : Fun K "common_divisor" "common_divisor" s_cd f fd) (ma : mg "abs" = none) : FnOk P w K mg base CX0 (k + 1) f fd ["one", "other"] spCd := by
  refine F.ok sc_cd (fun vs H Q E h => ?_) (fun cdv A outer s H vs Q E hr h => ?_)
  · obtain ⟨a, b, rfl, _⟩ := h
    rfl
  · obtain ⟨a, b, rfl, q⟩ := h
    refine ⟨_, pss_cons (ps_par (i := 2) (j := 3) rfl sc_cd.nd rfl rfl (by decide) rfl rfl (pa_cons (pe_callB call_abs (by rfl) ma (by decide +kernel) (pa_cons (pv 0) pa_nil)) (pa_cons (pe_callB call_abs (by rfl) ma (by decide +kernel) (pa_cons (pv 1) pa_nil)) pa_nil)) (by rfl))
      (pss_cons (ps_while PassesOwn.never (pt_cmpR op_ne (pv 3) pe_int (nomark _)) (pss_one (ps_par (i := 2) (j := 3) rfl sc_cd.nd rfl rfl (by decide) rfl rfl (pa_cons (pv 3) (pa_cons (pe_op op_modN (pv 2) (pv 3)) pa_nil)) (by rfl))))
      (pss_one (ps_ret (pv 2)))), ?_⟩
    refine ⟨_, rfl, a, rfl, _, rfl, b, rfl, _, _, rfl, ?_⟩
    refine while_by (fun σ H1 => H1 = H ∧ ∃ g s : Int, σ = [some (.int a), some (.int b), some (.int g), some (.int s)] ∧ 0 ≤ g ∧ 0 ≤ s ∧ Int.gcd g s = Int.gcd a b)
      (fun σ _ => match σ with | [_, _, _, some (.int s)] => s.toNat | _ => 0) ?_ ?_ ?_
    · refine ⟨rfl, _, _, rfl, ?_, ?_, ?_⟩
      · rw [abs_if]; omega
      · rw [abs_if]; omega
      · rw [abs_if, abs_if]
        show Nat.gcd _ _ = Nat.gcd _ _
        rw [Int.natAbs_natCast, Int.natAbs_natCast]
    · rintro σ H1 ⟨rfl, g, s, rfl, hg, hs, e⟩
      refine ⟨_, rfl, rfl, _, rfl, ite2 (fun c => ?_) (fun c => ?_)⟩
      · have hs0 : s ≠ 0 := fun z => by
          rw [z] at c
          exact absurd c (by decide)
        have hp : 0 < s := by omega
        have lt : s > g.fmod s := Int.fmod_lt_of_pos g hp
        have nn : 0 ≤ g.fmod s := Int.fmod_nonneg_of_pos g hp
        refine ⟨_, rfl, _, rfl, _, rfl, g, s, rfl, rfl, hs0, _, _, rfl, ⟨rfl, s, g.fmod s, rfl, hs, nn, ?_⟩, ?_⟩
        · rw [gcd_turn hp hg]; exact e
        · show (g.fmod s).toNat < s.toNat
          omega
      · have hs0 : s = 0 := by
          rcases Classical.em (s = 0) with z | z
          · exact z
          · exact absurd (show (!decide (V.int s = V.int 0)) = true by simp [z]) c
        subst hs0
        refine ⟨_, rfl, ?_⟩
        have eg : g = ((Int.gcd a b : Nat) : Int) := by
          rw [← e, Int.gcd_zero_right]
          omega
        rw [eg]
        exact q
    · intro σ H1 Q1 Q2 hq h
      obtain ⟨v, e1, e2, k, e3, h⟩ := h
      exact ⟨v, e1, e2, k, e3, hq _ _ h⟩
end

end Fp

set_option Elab.async false
set_option linter.all false
set_option maxRecDepth 100000
set_option maxHeartbeats 4000000
set_option exponentiation.threshold 10000
namespace Fp
open PySem PySem.Spec PyProof.Rows L2
/-! ### ratio -/
def ratG (t b : Int) : Int := if b < 0 then -((Int.gcd t b : Nat) : Int) else ((Int.gcd t b : Nat) : Int)
def ratT (t b : Int) : Int := t.fdiv (ratG t b)
def ratB (t b : Int) : Int := b.fdiv (ratG t b)
theorem gcd_le {t b : Int} (h : b ≠ 0) : 0 < Int.gcd t b ∧ Int.gcd t b ≤ b.natAbs := by
  have hb : 0 < b.natAbs := by omega
  exact ⟨Nat.gcd_pos_of_pos_right _ hb, Nat.gcd_le_right _ hb⟩
theorem ratG_ok {t b : Int} {n : Nat} (h : b ≠ 0) (hb : b.natAbs < 2 ^ n) (hn : n ≤ 9000) (h0 : 0 < n) : CDivA t (ratG t b) ∧ CDivA b (ratG t b) := by
  obtain ⟨h1, h2⟩ := gcd_le (t := t) h
  have e : (ratG t b).natAbs = Int.gcd t b := by
    unfold ratG
    split <;> omega
  have ne : ratG t b ≠ 0 := by omega
  have l : (ratG t b).natAbs.log2 < 9000 := by
    rw [e]
    exact Nat.lt_of_lt_of_le ((Nat.log2_lt (by omega)).mpr (Nat.lt_of_le_of_lt h2 hb)) hn
  exact ⟨⟨ne, l⟩, ⟨ne, l⟩⟩

end Fp

set_option Elab.async false
set_option linter.all false
set_option maxRecDepth 100000
set_option maxHeartbeats 4000000
set_option exponentiation.threshold 10000
namespace Fp
open PySem PySem.Spec PyProof.Rows L2
/-! ### the refusals -/
/-- where the classes stand -/
structure EC where
  F : Addr
  N : Addr
  A : Addr
  B : Addr
  P : Addr
  T : Addr
  X : Addr
  L : Addr
  M : Addr
  R : Addr
/-- what the written part says of such a class, all at once -/
def errB (K : PySem.W.Frag) (C : Addr) : Bool :=
  decide (PySem.W.findIn K (.ref C) "__setattr__" = some (some (.builtin "object.__setattr__"))) && (decide (PySem.W.subIn K (.ref C) (.type "BaseException") = some true) && (decide (PySem.W.typeIn K (.ref C) = some (.type "type")) && (PySem.W.keepIn K (.ref C) && (PySem.W.hasDictIn K C && (PySem.W.isClsIn K C &&
  (decide (PySem.W.findIn K (.ref C) "__getattribute__" = some (some (.builtin "BaseException.__getattribute__"))) && (decide (PySem.W.findIn K (.ref C) "__getattr__" = some none) && (decide (PySem.W.findIn K (.ref C) "__class__" = some (some (.builtin "object.__class__"))) &&
  (decide (PySem.W.specialIn K (.builtin "object.__class__") "__get__" = some (some (.builtin "getset_descriptor.__get__"))) && (decide (PySem.W.takesIn K (.builtin "object.__class__") = some true) && decide (PySem.W.mroIn K C (.type "object") = some true)))))))))))
theorem errB_ok {K : PySem.W.Frag} {C : Addr} (h : errB K C = true) : ExcC K C ∧ XfC K C ∧ PySem.W.findIn K (.ref C) "__setattr__" = some (some (.builtin "object.__setattr__")) ∧ PySem.W.typeIn K (.ref C) = some (.type "type") ∧ PySem.W.keepIn K (.ref C) = true ∧ PySem.W.isClsIn K C = true := by
  unfold errB at h
  simp only [Bool.and_eq_true, decide_eq_true_eq] at h
  obtain ⟨h1, h2, h3, h4, h5, h6, h7, h8, h9, h10, h11, h12⟩ := h
  exact ⟨⟨h7, h8, h2, h5, h9, h10, h11, h12⟩, ⟨h7, h8, h2, h5⟩, h1, h3, h4, h6⟩
/-- what isinstance tells of an instance of D, class by class -/
def kitsB (K : PySem.W.Frag) (D : Addr) (l : List (Value × Bool)) : Bool := l.all fun p => decide (PySem.W.kitOne K (.ref D) p.1 = some p.2)
theorem kits_at {K : PySem.W.Frag} {D : Addr} {l : List (Value × Bool)} (h : kitsB K D l = true) {c : Value} {b : Bool} (m : (c, b) ∈ l) : PySem.W.kitOne K (.ref D) c = some b := by
  unfold kitsB at h
  exact of_decide_eq_true (List.all_eq_true.mp h _ m)
theorem kits_none {K : PySem.W.Frag} {D : Addr} {l : List (Value × Bool)} (h : kitsB K D l = true) : ∀ (cs : List Value), (∀ c ∈ cs, (c, false) ∈ l) → PySem.W.kitAny K (.ref D) cs = some false
  | [], _ => rfl
  | c :: cs, m => kitAny_cons (kits_at h (m c (List.mem_cons_self ..))) (fun _ => kits_none h cs fun d hd => m d (List.mem_cons_of_mem _ hd)) (fun z => nomatch z)
section
variable {P : Program} {w : World} {K : PySem.W.Frag} {mg : Str → Option Value} {base : Heap}
abbrev s_iF : Stmt := inClass (topS 1) 0
theorem sc_iF : FnScope ["self", "text"] ["self", "text"] (defScope s_iF) := ⟨rfl, rfl, rfl, by decide +kernel, rfl, by decide +kernel, by decide +kernel⟩
/-- the base of them all -/
structure ErrF (K : PySem.W.Frag) (mg : Str → Option Value) (CF fF : Addr) (fdF : FuncData) : Prop where
  g : mg "FreshError" = some (.ref CF)
  c : ClsFn K CF "__init__" fF
  F : Fun K "__init__" "FreshError.__init__" s_iF fF fdF
  b : Binds K fdF ["self", "text"] []
  mV : mg "ValueError" = none
  vV : PySem.W.findCls K (.type "ValueError") (.type "type") "__init__" = some (.val (.builtin "ValueError.__init__"))
theorem ok_iF {CF fF : Addr} {fdF : FuncData} (T : ErrF K mg CF fF fdF) : FnOk P w K mg base CX0 1 fF fdF ["self", "text"] (spIni1 K) := by
  refine T.F.ok sc_iF (fun vs H Q E h => ?_) (fun cdv A outer s H vs Q E hr h => ?_)
  · obtain ⟨a, C, y, rfl, _⟩ := h
    rfl
  · obtain ⟨a, C, y, rfl, o, ea, q⟩ := h
    refine ⟨_, pss_one (ps_expr (pe_veinit (by rfl) T.mV T.vV (pa_cons (pv 0) (pa_cons (pv 1) pa_nil)))), ?_⟩
    exact ⟨_, rfl, _, rfl, a, C, [y], rfl, by show 1 ≤ 1000; decide, o, ea, q⟩
/-- a class over it -/
structure ErrC (K : PySem.W.Frag) (mg : Str → Option Value) (x qual : Str) (st : Stmt) (ps : List Str) (C f : Addr) (fd : FuncData) : Prop where
  g : mg x = some (.ref C)
  o : OexC K C
  i : PySem.W.findIn K (.ref C) "__init__" = some (some (.ref f))
  t : PySem.W.typeIn K (.ref f) = some (.type "function")
  F : Fun K "__init__" qual st f fd
  b : Binds K fd ps []
  x : errB K C = true
theorem ErrC.xc {x qual : Str} {st : Stmt} {ps : List Str} {C f : Addr} {fd : FuncData} (T : ErrC K mg x qual st ps C f fd) : ExcC K C := (errB_ok T.x).1
theorem ErrC.xf {x qual : Str} {st : Stmt} {ps : List Str} {C f : Addr} {fd : FuncData} (T : ErrC K mg x qual st ps C f fd) : XfC K C := (errB_ok T.x).2.1
/-- the promises of their __init__: nothing, one field, two -/
def spI1 (K : PySem.W.Frag) (f : Str) : Sp := fun vs H Q _ => ∃ (a C : Addr) (y : V), vs = [.ref a, y] ∧ OexC K C ∧ PySem.W.findIn K (.ref C) f = some none ∧ H a = some (exo a C none) ∧
  ∀ d, H d = none → d ≠ a → Q .non (upd (upd H d (exd d [(f, y)])) a (exo a C (some d)))
def spI2 (K : PySem.W.Frag) (f1 f2 : Str) : Sp := fun vs H Q _ => ∃ (a C : Addr) (y z : V), vs = [.ref a, y, z] ∧ OexC K C ∧ PySem.W.findIn K (.ref C) f1 = some none ∧ PySem.W.findIn K (.ref C) f2 = some none ∧ H a = some (exo a C none) ∧
  ∀ d, H d = none → d ≠ a → Q .non (upd (upd (upd H d (exd d [(f1, y)])) a (exo a C (some d))) d (exd d [(f2, z), (f1, y)]))
theorem exc_eq {H : Hp} {a C d : Addr} {fs : List (Str × V)} {fo : HO} {G : Hp} (na : H a = none) (nd : d ≠ a) (hG : ∀ b, b ≠ a → b ≠ d → G b = H b) : upd (del G a) d (.xd fs) = upd H d (.xd fs) := by
  funext b
  by_cases e : b = d
  · rw [e, upd_same, upd_same]
  · rw [upd_ne e, upd_ne e]
    by_cases e2 : b = a
    · rw [e2, del_same, na]
    · rw [del_ne e2]
      exact hG b e2 e
/-- C(y) raised -/
theorem raise1 {C : Addr} {f : Str} {y : V} {H : Hp} {W : XK} (o : OexC K C) (no : PySem.W.findIn K (.ref C) f = some none) (q : ∀ d, H d = none → W (.ref C) (some d) (upd H d (.xd [(f, y)]))) :
    [y].length ≤ 1000 ∧ ∀ a, H a = none → spI1 K f (.ref a :: ([y] ++ [])) (upd H a (exo a C none)) (fun v H2 => v = .non ∧ ∃ (d : Addr) (fs : List (Str × V)), H2 a = some (exo a C (some d)) ∧ H2 d = some (exd d fs) ∧ H d = none ∧ W (.ref C) (some d) (upd (del H2 a) d (.xd fs))) (fun _ _ _ => False) := by
  refine ⟨by show 1 ≤ 1000; decide, fun a na => ⟨a, C, y, rfl, o, no, upd_same, fun d nd ne => ?_⟩⟩
  have nd0 : H d = none := by
    rw [upd_ne ne] at nd
    exact nd
  refine ⟨rfl, d, [(f, y)], upd_same, by rw [upd_ne ne, upd_same], nd0, ?_⟩
  rw [exc_eq (H := H) (fo := .xd []) (C := C) na ne fun b h1 h2 => by rw [upd_ne h1, upd_ne h2, upd_ne h1]]
  exact q d nd0
/-- C(y, z) raised -/
theorem raise2 {C : Addr} {f1 f2 : Str} {y z : V} {H : Hp} {W : XK} (o : OexC K C) (no1 : PySem.W.findIn K (.ref C) f1 = some none) (no2 : PySem.W.findIn K (.ref C) f2 = some none) (q : ∀ d, H d = none → W (.ref C) (some d) (upd H d (.xd [(f2, z), (f1, y)]))) :
    [y, z].length ≤ 1000 ∧ ∀ a, H a = none → spI2 K f1 f2 (.ref a :: ([y, z] ++ [])) (upd H a (exo a C none)) (fun v H2 => v = .non ∧ ∃ (d : Addr) (fs : List (Str × V)), H2 a = some (exo a C (some d)) ∧ H2 d = some (exd d fs) ∧ H d = none ∧ W (.ref C) (some d) (upd (del H2 a) d (.xd fs))) (fun _ _ _ => False) := by
  refine ⟨by show 2 ≤ 1000; decide, fun a na => ⟨a, C, y, z, rfl, o, no1, no2, upd_same, fun d nd ne => ?_⟩⟩
  have nd0 : H d = none := by
    rw [upd_ne ne] at nd
    exact nd
  refine ⟨rfl, d, [(f2, z), (f1, y)], by rw [upd_ne (Ne.symm ne), upd_same], upd_same, nd0, ?_⟩
  rw [exc_eq (H := H) (fo := .xd []) (C := C) na ne fun b h1 h2 => by rw [upd_ne h2, upd_ne h1, upd_ne h2, upd_ne h1]]
  exact q d nd0
end
section
variable {P : Program} {w : World} {K : PySem.W.Frag} {mg : Str → Option Value} {base : Heap} {CF fF C f : Addr} {fdF fd : FuncData}
abbrev s_iN : Stmt := inClass (topS 2) 0
theorem sc_iN : FnScope ["self"] ["self"] (defScope s_iN) := ⟨rfl, rfl, rfl, by decide +kernel, rfl, by decide +kernel, by decide +kernel⟩
abbrev ErrN (K : PySem.W.Frag) (mg : Str → Option Value) (C f : Addr) (fd : FuncData) : Prop := ErrC K mg "NoRatio" "NoRatio.__init__" s_iN ["self"] C f fd
theorem ok_iN (TF : ErrF K mg CF fF fdF) (T : ErrN K mg C f fd) : FnOk P w K mg base CX0 2 f fd ["self"] (spIni K) := by
  refine T.F.ok sc_iN (fun vs H Q E h => ?_) (fun cdv A outer s H vs Q E hr h => ?_)
  · obtain ⟨a, C, rfl, _⟩ := h
    rfl
  · obtain ⟨a, C, rfl, o, ea, q⟩ := h
    refine ⟨_, pss_one (ps_expr (pe_clsfn TF.c (ok_iF TF) hr (by rfl) TF.g TF.b pass0 (pa_cons (pv 0) (pa_cons pe_str pa_nil)))), ?_⟩
    exact ⟨_, rfl, a, C, _, rfl, o, ea, q⟩
end

end Fp

set_option Elab.async false
set_option linter.all false
set_option maxRecDepth 100000
set_option maxHeartbeats 4000000
set_option exponentiation.threshold 10000
namespace Fp
open PySem PySem.Spec PyProof.Rows L2
abbrev s_ratio : Stmt := topS 9
theorem sc_ratio : FnScope ["top", "bottom", "divisor"] ["top", "bottom"] (defScope s_ratio) := ⟨rfl, rfl, rfl, by decide +kernel, rfl, by decide +kernel, by decide +kernel⟩
section
variable {P : Program} {w : World} {K : PySem.W.Frag} {mg : Str → Option Value} {base : Heap}
def spRat0 : Sp := fun vs H Q _ => ∃ (t b : Int), vs = [.int t, .int b] ∧ b.natAbs < 2 ^ 8000 ∧ b ≠ 0 ∧ ∀ p, H p = none → Q (.ref p) (upd H p (.tup [.int (ratT t b), .int (ratB t b)]))
theorem ok_ratio {f fC : Addr} {fd fdC : FuncData} (F : Fun K "ratio" "ratio" s_ratio f fd) (FC : Fun K "common_divisor" "common_divisor" s_cd fC fdC) (bC : Binds K fdC ["one", "other"] [])
    (gC : mg "common_divisor" = some (.ref fC)) (ma : mg "abs" = none) : FnOk P w K mg base CX0 2 f fd ["top", "bottom"] spRat0 := by
  have GC : FnOk P w K mg base CX0 1 fC fdC ["one", "other"] spCd := ok_cd FC ma
  refine F.ok sc_ratio (fun vs H Q E h => ?_) (fun cdv A outer s H vs Q E hr h => ?_)
  · obtain ⟨t, b, rfl, _⟩ := h
    rfl
  · obtain ⟨t, b, rfl, hb, h0, q1⟩ := h
    refine ⟨_, (pss_cons (ps_if (pt_cmpR op_eq (pv 1) pe_int (nomark _)) (pss_one ps_never) pss_nil) (pss_cons (ps_set (i := 2) sc_ratio.nd rfl (.inl rfl) (pe_call GC hr (by rfl) gC FC.kp bC .nil pass0 (pa_cons (pv 0) (pa_cons (pv 1) pa_nil)))) (pss_cons (ps_if (pt_cmpR op_lt (pv 1) pe_int (nomark _)) (pss_one (ps_set (i := 2) sc_ratio.nd rfl (.inl rfl) (pe_un un_neg (pv 2)))) pss_nil) (pss_one (ps_ret (pe_tup (pa_cons (pe_op op_fdivA (pv 0) (pv 2)) (pa_cons (pe_op op_fdivA (pv 1) (pv 2)) pa_nil)))))))), ?_⟩
    refine ⟨_, rfl, rfl, _, rfl, ite2 (fun c => ?_) (fun c => ?_)⟩
    · exact absurd (V.int.inj (of_decide_eq_true c)) h0
    · obtain ⟨c1, c2⟩ := ratG_ok (t := t) h0 hb (by decide) (by decide)
      refine ⟨_, rfl, _, rfl, t, b, rfl, ?_⟩
      have fin : ∀ g : Int, g = ratG t b → ∀ p, H p = none → Q (.ref p) (upd H p (.tup [.int (t.fdiv g), .int (b.fdiv g)])) := fun g eg p hp => by
        rw [eg]
        exact q1 p hp
      refine ⟨_, rfl, b, 0, rfl, rfl, _, rfl, ite2 (fun c3 => ?_) (fun c3 => ?_)⟩
      · have hneg : b < 0 := of_decide_eq_true c3
        have eg : -((Int.gcd t b : Nat) : Int) = ratG t b := by unfold ratG; rw [if_pos hneg]
        refine ⟨_, rfl, _, rfl, ?_⟩
        refine ⟨_, rfl, _, rfl, t, _, rfl, rfl, by rw [eg]; exact c1, _, rfl, _, rfl, b, _, rfl, rfl, by rw [eg]; exact c2, by show 2 ≤ sizeLine; decide, fin _ eg⟩
      · have hneg : ¬ b < 0 := fun z => c3 (decide_eq_true z)
        have eg : ((Int.gcd t b : Nat) : Int) = ratG t b := by unfold ratG; rw [if_neg hneg]
        refine ⟨_, rfl, _, rfl, t, _, rfl, rfl, by rw [eg]; exact c1, _, rfl, _, rfl, b, _, rfl, rfl, by rw [eg]; exact c2, by show 2 ≤ sizeLine; decide, fin _ eg⟩
end

end Fp

set_option Elab.async false
set_option linter.all false
set_option maxRecDepth 100000
set_option maxHeartbeats 4000000
set_option exponentiation.threshold 10000
namespace Fp
open PySem PySem.Spec PyProof.Rows L2
/-! ### two ratios reckoned -/
theorem sqT_same {K : PySem.W.Frag} {H H' : Hp} {a : Addr} {xs : List V} (e : Same H H') (h : SqT K H a xs) : SqT K H' a xs := by
  rcases h with (h | ⟨o, h⟩) | h
  · exact .inl (.inl (e _ _ h))
  · exact .inl (.inr ⟨o, e _ _ h⟩)
  · exact .inr h
theorem same_new {H : Hp} {p : Addr} {o : HO} (h : H p = none) : Same H (upd H p o) := fun b x z => by
  rw [upd_ne (ne_of_none z h)]
  exact z
/-- bounds of what is multiplied -/
def Sm (n : Nat) (a : Int) : Prop := a.natAbs < 2 ^ n
theorem Sm.log {n : Nat} {a : Int} (h : Sm n a) (h0 : 0 < n) : a.natAbs.log2 < n := by
  rcases Nat.eq_zero_or_pos a.natAbs with z | z
  · rw [z]; simpa using h0
  · exact (Nat.log2_lt (by omega)).mpr h
theorem Sm.mul {n m : Nat} {a b : Int} (ha : Sm n a) (hb : Sm m b) : Sm (n + m) (a * b) := by
  unfold Sm at *
  rw [Int.natAbs_mul, Nat.pow_add]
  exact Nat.mul_lt_mul'' ha hb
theorem Sm.add {n : Nat} {a b : Int} (ha : Sm n a) (hb : Sm n b) : Sm (n + 1) (a + b) := by
  unfold Sm at *
  rw [Nat.pow_succ]
  omega
theorem Sm.sub {n : Nat} {a b : Int} (ha : Sm n a) (hb : Sm n b) : Sm (n + 1) (a - b) := by
  unfold Sm at *
  rw [Nat.pow_succ]
  omega
theorem Sm.mono {n m : Nat} {a : Int} (h : Sm n a) (l : n ≤ m) : Sm m a := Nat.lt_of_lt_of_le h (Nat.pow_le_pow_right (by decide) l)
theorem Sm.cmul {n m : Nat} {a b : Int} (ha : Sm n a) (hb : Sm m b) (h0 : 0 < n) (h1 : 0 < m) (h : n + m ≤ 1000000) : CMulA a b := by
  have x := ha.log h0
  have y := hb.log h1
  unfold CMulA
  omega
/-- at p1 and p2 the ratios a by b, c by d -/
structure Two (K : PySem.W.Frag) (H : Hp) (p1 p2 : Addr) (a b c d : Int) : Prop where
  t1 : SqT K H p1 [.int a, .int b]
  t2 : SqT K H p2 [.int c, .int d]
  sa : Sm 3000 a
  sb : Sm 3000 b
  sc : Sm 3000 c
  sd : Sm 3000 d
  pb : 0 < b
  pd : 0 < d
theorem Two.den {K : PySem.W.Frag} {H : Hp} {p1 p2 : Addr} {a b c d : Int} (h : Two K H p1 p2 a b c d) : 0 < b * d := Int.mul_pos h.pb h.pd
theorem Two.same {K : PySem.W.Frag} {H H' : Hp} {p1 p2 : Addr} {a b c d : Int} (h : Two K H p1 p2 a b c d) (e : Same H H') : Two K H' p1 p2 a b c d := ⟨sqT_same e h.t1, sqT_same e h.t2, h.sa, h.sb, h.sc, h.sd, h.pb, h.pd⟩
def spTwo (K : PySem.W.Frag) (num : Int → Int → Int → Int → Int) : Sp := fun vs H Q _ => ∃ (p1 p2 : Addr) (a b c d : Int), vs = [.ref p1, .ref p2] ∧ Two K H p1 p2 a b c d ∧
  ∀ p, H p = none → Q (.ref p) (upd H p (.tup [.int (ratT (num a b c d) (b * d)), .int (ratB (num a b c d) (b * d))]))

end Fp

set_option Elab.async false
set_option linter.all false
set_option maxRecDepth 100000
set_option maxHeartbeats 4000000
set_option exponentiation.threshold 10000
namespace Fp
open PySem PySem.Spec PyProof.Rows L2
abbrev s_minus : Stmt := topS 10
theorem sc_minus : FnScope ["one", "other"] ["one", "other"] (defScope s_minus) := ⟨rfl, rfl, rfl, by decide +kernel, rfl, by decide +kernel, by decide +kernel⟩
section
variable {P : Program} {w : World} {K : PySem.W.Frag} {mg : Str → Option Value} {base : Heap}
theorem ok_minus {f fR : Addr} {fd fdR : FuncData} (F : Fun K "minus" "minus" s_minus f fd) (FR : Fun K "ratio" "ratio" s_ratio fR fdR) (bR : Binds K fdR ["top", "bottom"] []) (gR : mg "ratio" = some (.ref fR)) (GR : FnOk P w K mg base CX0 2 fR fdR ["top", "bottom"] spRat0) : FnOk P w K mg base CX0 3 f fd ["one", "other"] (spTwo K (fun a b c d => a * d - c * b)) := by
  refine F.ok sc_minus (fun vs H Q E h => ?_) (fun cdv A outer s H vs Q E hr h => ?_)
  · obtain ⟨_, _, _, _, _, _, rfl, _⟩ := h
    rfl
  · obtain ⟨p1, p2, a, b, c, d, rfl, T, q⟩ := h
    refine ⟨_, pss_one (ps_ret (pe_call GR hr (by rfl) gR FR.kp bR .nil pass0 (pa_cons (pe_op op_sub (pe_op op_mulA (pe_ix ix_tup (pv 0) pe_int (fun _ _ => rfl)) (pe_ix ix_tup (pv 1) pe_int (fun _ _ => rfl))) (pe_op op_mulA (pe_ix ix_tup (pv 1) pe_int (fun _ _ => rfl)) (pe_ix ix_tup (pv 0) pe_int (fun _ _ => rfl)))) (pa_cons (pe_op op_mulA (pe_ix ix_tup (pv 0) pe_int (fun _ _ => rfl)) (pe_ix ix_tup (pv 1) pe_int (fun _ _ => rfl))) pa_nil)))), ?_⟩
    refine ⟨_, rfl, p1, _, 0, _, rfl, rfl, T.t1, atI_nat (j := 0) rfl, _, rfl, p2, _, 1, _, rfl, rfl, T.t2, atI_nat (j := 1) rfl, a, d, rfl, rfl, T.sa.cmul T.sd (by decide) (by decide) (by decide), _, rfl, p2, _, 0, _, rfl, rfl, T.t2, atI_nat (j := 0) rfl, _, rfl, p1, _, 1, _, rfl, rfl, T.t1, atI_nat (j := 1) rfl, c, b, rfl, rfl, T.sc.cmul T.sb (by decide) (by decide) (by decide), _, _, rfl, rfl, _, rfl, p1, _, 1, _, rfl, rfl, T.t1, atI_nat (j := 1) rfl, _, rfl, p2, _, 1, _, rfl, rfl, T.t2, atI_nat (j := 1) rfl, b, d, rfl, rfl, T.sb.cmul T.sd (by decide) (by decide) (by decide), ?_⟩
    exact ⟨_, _, rfl, (T.sb.mul T.sd).mono (by decide), Int.ne_of_gt T.den, q⟩
end

end Fp

set_option Elab.async false
set_option linter.all false
set_option maxRecDepth 100000
set_option maxHeartbeats 4000000
set_option exponentiation.threshold 10000
namespace Fp
open PySem PySem.Spec PyProof.Rows L2
abbrev s_times : Stmt := topS 11
theorem sc_times : FnScope ["one", "other"] ["one", "other"] (defScope s_times) := ⟨rfl, rfl, rfl, by decide +kernel, rfl, by decide +kernel, by decide +kernel⟩
section
variable {P : Program} {w : World} {K : PySem.W.Frag} {mg : Str → Option Value} {base : Heap}
theorem ok_times {f fR : Addr} {fd fdR : FuncData} (F : Fun K "times" "times" s_times f fd) (FR : Fun K "ratio" "ratio" s_ratio fR fdR) (bR : Binds K fdR ["top", "bottom"] []) (gR : mg "ratio" = some (.ref fR)) (GR : FnOk P w K mg base CX0 2 fR fdR ["top", "bottom"] spRat0) : FnOk P w K mg base CX0 3 f fd ["one", "other"] (spTwo K (fun a b c d => a * c)) := by
  refine F.ok sc_times (fun vs H Q E h => ?_) (fun cdv A outer s H vs Q E hr h => ?_)
  · obtain ⟨_, _, _, _, _, _, rfl, _⟩ := h
    rfl
  · obtain ⟨p1, p2, a, b, c, d, rfl, T, q⟩ := h
    refine ⟨_, pss_one (ps_ret (pe_call GR hr (by rfl) gR FR.kp bR .nil pass0 (pa_cons (pe_op op_mulA (pe_ix ix_tup (pv 0) pe_int (fun _ _ => rfl)) (pe_ix ix_tup (pv 1) pe_int (fun _ _ => rfl))) (pa_cons (pe_op op_mulA (pe_ix ix_tup (pv 0) pe_int (fun _ _ => rfl)) (pe_ix ix_tup (pv 1) pe_int (fun _ _ => rfl))) pa_nil)))), ?_⟩
    refine ⟨_, rfl, p1, _, 0, _, rfl, rfl, T.t1, atI_nat (j := 0) rfl, _, rfl, p2, _, 0, _, rfl, rfl, T.t2, atI_nat (j := 0) rfl, a, c, rfl, rfl, T.sa.cmul T.sc (by decide) (by decide) (by decide), _, rfl, p1, _, 1, _, rfl, rfl, T.t1, atI_nat (j := 1) rfl, _, rfl, p2, _, 1, _, rfl, rfl, T.t2, atI_nat (j := 1) rfl, b, d, rfl, rfl, T.sb.cmul T.sd (by decide) (by decide) (by decide), ?_⟩
    exact ⟨_, _, rfl, (T.sb.mul T.sd).mono (by decide), Int.ne_of_gt T.den, q⟩
end

end Fp

set_option Elab.async false
set_option linter.all false
set_option maxRecDepth 100000
set_option maxHeartbeats 4000000
set_option exponentiation.threshold 10000
namespace Fp
open PySem PySem.Spec PyProof.Rows L2
abbrev s_over : Stmt := topS 12
theorem sc_over : FnScope ["one", "other"] ["one", "other"] (defScope s_over) := ⟨rfl, rfl, rfl, by decide +kernel, rfl, by decide +kernel, by decide +kernel⟩
section
variable {P : Program} {w : World} {K : PySem.W.Frag} {mg : Str → Option Value} {base : Heap}
def spOver0 (K : PySem.W.Frag) : Sp := fun vs H Q _ => ∃ (p1 p2 : Addr) (a b c d : Int), vs = [.ref p1, .ref p2] ∧ Two K H p1 p2 a b c d ∧ b * c ≠ 0 ∧
  ∀ p, H p = none → Q (.ref p) (upd H p (.tup [.int (ratT (a * d) (b * c)), .int (ratB (a * d) (b * c))]))
theorem ok_over {f fR : Addr} {fd fdR : FuncData} (F : Fun K "over" "over" s_over f fd) (FR : Fun K "ratio" "ratio" s_ratio fR fdR) (bR : Binds K fdR ["top", "bottom"] []) (gR : mg "ratio" = some (.ref fR)) (GR : FnOk P w K mg base CX0 2 fR fdR ["top", "bottom"] spRat0) : FnOk P w K mg base CX0 3 f fd ["one", "other"] (spOver0 K) := by
  refine F.ok sc_over (fun vs H Q E h => ?_) (fun cdv A outer s H vs Q E hr h => ?_)
  · obtain ⟨_, _, _, _, _, _, rfl, _⟩ := h
    rfl
  · obtain ⟨p1, p2, a, b, c, d, rfl, T, ne, q⟩ := h
    refine ⟨_, pss_one (ps_ret (pe_call GR hr (by rfl) gR FR.kp bR .nil pass0 (pa_cons (pe_op op_mulA (pe_ix ix_tup (pv 0) pe_int (fun _ _ => rfl)) (pe_ix ix_tup (pv 1) pe_int (fun _ _ => rfl))) (pa_cons (pe_op op_mulA (pe_ix ix_tup (pv 0) pe_int (fun _ _ => rfl)) (pe_ix ix_tup (pv 1) pe_int (fun _ _ => rfl))) pa_nil)))), ?_⟩
    refine ⟨_, rfl, p1, _, 0, _, rfl, rfl, T.t1, atI_nat (j := 0) rfl, _, rfl, p2, _, 1, _, rfl, rfl, T.t2, atI_nat (j := 1) rfl, a, d, rfl, rfl, T.sa.cmul T.sd (by decide) (by decide) (by decide), _, rfl, p1, _, 1, _, rfl, rfl, T.t1, atI_nat (j := 1) rfl, _, rfl, p2, _, 0, _, rfl, rfl, T.t2, atI_nat (j := 0) rfl, b, c, rfl, rfl, T.sb.cmul T.sc (by decide) (by decide) (by decide), ?_⟩
    exact ⟨_, _, rfl, (T.sb.mul T.sc).mono (by decide), ne, q⟩
end

end Fp

set_option Elab.async false
set_option linter.all false
set_option maxRecDepth 100000
set_option maxHeartbeats 4000000
set_option exponentiation.threshold 10000
namespace Fp
open PySem PySem.Spec PyProof.Rows L2
/-! ### the feed of draws -/
abbrev s_feed : Stmt := topS 21
abbrev s_draw : Stmt := topS 22
theorem sc_feed : FnScope ["_law_script"] ["_law_script"] (defScope s_feed) := ⟨rfl, rfl, rfl, by decide +kernel, rfl, by decide +kernel, by decide +kernel⟩
theorem sc_draw : FnScope ["_law_feed_here", "_law_many", "_law_turn", "_law_digit", "_law_at", "_law_cells", "_law_cell", "_law_mixed"] ["_law_feed_here", "_law_many"] (defScope s_draw) := ⟨rfl, rfl, rfl, by decide +kernel, rfl, by decide +kernel, by decide +kernel⟩
def feedL (c : Addr) (a l t : Int) : List (Key × V) := [(.inr "cells", .ref c), (.inr "at", .int a), (.inr "left", .int l), (.inr "turn", .int t)]
theorem feed_at (c : Addr) (a l t : Int) : valV (feedL c a l t) (.inr "at") = some (.int a) := rfl
theorem feed_cells (c : Addr) (a l t : Int) : valV (feedL c a l t) (.inr "cells") = some (.ref c) := rfl
theorem feed_left (c : Addr) (a l t : Int) : valV (feedL c a l t) (.inr "left") = some (.int l) := rfl
theorem feed_turn (c : Addr) (a l t : Int) : valV (feedL c a l t) (.inr "turn") = some (.int t) := rfl
theorem put_at (c : Addr) (a l t x : Int) : putK (feedL c a l t) (.inr "at") (.int x) = feedL c x l t := rfl
theorem put_left (c : Addr) (a l t x : Int) : putK (feedL c a l t) (.inr "left") (.int x) = feedL c a x t := rfl
theorem put_turn (c : Addr) (a l t x : Int) : putK (feedL c a l t) (.inr "turn") (.int x) = feedL c a l x := rfl
theorem feed_len (c : Addr) (a l t : Int) : (feedL c a l t).length < sizeLine := by show 4 < sizeLine; decide
theorem feed_merge (c : Addr) : mergeK [] (feedL c 0 0 0) = feedL c 0 0 0 := rfl
/-- at d a feed that has told t draws -/
def Feed (H : Hp) (d c : Addr) (t : Int) : Prop := ∃ (a l : Int) (ns : List Int), H d = some (.dK (feedL c a l t)) ∧ H c = some (.lst (ns.map V.int)) ∧ 0 ≤ t
/-- all but d as it was -/
def Keep (d : Addr) (H H' : Hp) : Prop := ∀ b o, b ≠ d → H b = some o → H' b = some o
theorem Keep.trans {d : Addr} {H H1 H2 : Hp} (a : Keep d H H1) (b : Keep d H1 H2) : Keep d H H2 := fun c o n z => b c o n (a c o n z)
theorem Keep.of_same {d : Addr} {H H' : Hp} (a : Same H H') : Keep d H H' := fun b o _ z => a b o z
theorem Keep.upd {d : Addr} {H : Hp} {o : HO} : Keep d H (upd H d o) := fun b x n z => by rw [upd_ne n]; exact z
theorem Feed.same {H H' : Hp} {d c : Addr} {t : Int} (f : Feed H d c t) (e : Same H H') : Feed H' d c t := by
  obtain ⟨a, l, ns, h1, h2, h3⟩ := f
  exact ⟨a, l, ns, e _ _ h1, e _ _ h2, h3⟩
theorem Feed.wr {H : Hp} {d c p : Addr} {t : Int} {o : HO} (f : Feed H d c t) (h1 : p ≠ d) (h2 : p ≠ c) : Feed (upd H p o) d c t := by
  obtain ⟨a, l, ns, e1, e2, e3⟩ := f
  exact ⟨a, l, ns, by rw [upd_ne h1.symm]; exact e1, by rw [upd_ne h2.symm]; exact e2, e3⟩
theorem Feed.ne {H : Hp} {d c p : Addr} {t : Int} {o : HO} (f : Feed H d c t) (h : H p = some o) (n : ∀ kvs, o ≠ .dK kvs) : p ≠ d := by
  obtain ⟨a, l, ns, h1, _⟩ := f
  exact ne_of h h1 (n _)
theorem Feed.nd {H : Hp} {d c p : Addr} {t : Int} (f : Feed H d c t) (h : H p = none) : p ≠ d := by
  obtain ⟨a, l, ns, h1, _⟩ := f
  exact (ne_of_none h1 h).symm
theorem Feed.nc {H : Hp} {d c p : Addr} {t : Int} (f : Feed H d c t) (h : H p = none) : p ≠ c := by
  obtain ⟨a, l, ns, _, h1, _⟩ := f
  exact (ne_of_none h1 h).symm
theorem Feed.new {H : Hp} {d c p : Addr} {t : Int} {o : HO} (f : Feed H d c t) (n : H p = none) : Feed (upd H p o) d c t := f.same (same_new n)
theorem keep_at {d c p : Addr} {H H' : Hp} {t : Int} {o : HO} (f : Feed H d c t) (k : Keep d H H') (h : H p = some o) (n : ∀ kvs, o ≠ .dK kvs) : H' p = some o := k p o (f.ne h n) h
theorem keep_new {d p : Addr} {H H' : Hp} {o : HO} (n : H p = none) (k : Keep d (upd H p o) H') : Keep d H H' := (Keep.of_same (same_new n)).trans k
theorem Keep.none {d c p : Addr} {t : Int} {H H' : Hp} (k : Keep d H H') (f : Feed H' d c t) (n : H' p = none) : H p = none := by
  match z : H p with
  | Option.none => rfl
  | some o =>
    have := k p o (f.nd n) z
    rw [n] at this
    cases this
/-- what was not there when k began may be written -/
theorem Keep.wr {d p : Addr} {H H' : Hp} {o : HO} (k : Keep d H H') (n : H p = Option.none) : Keep d H (L2.upd H' p o) := fun b x hb z => by
  rw [upd_ne (ne_of_none z n)]
  exact k b x hb z
theorem Keep.refl {d : Addr} {H : Hp} : Keep d H H := fun _ _ _ z => z
theorem sqT_keep {K : PySem.W.Frag} {H H' : Hp} {a d c : Addr} {t : Int} {xs : List V} (f : Feed H d c t) (e : Keep d H H') (h : SqT K H a xs) : SqT K H' a xs := by
  obtain ⟨x, l, ns, h1, _⟩ := f
  rcases h with (h | ⟨o, h⟩) | h
  · exact .inl (.inl (e _ _ (ne_of h h1 (by intro z; cases z)) h))
  · exact .inl (.inr ⟨o, e _ _ (ne_of h h1 (by intro z; cases z)) h⟩)
  · exact .inr h
theorem cut_ints (ns : List Int) (lo hi : Option Int) : ∃ ms : List Int, cutV (ns.map V.int) lo hi = ms.map V.int := by
  unfold cutV
  exact ⟨_, by rw [← List.map_drop, ← List.map_take]⟩
theorem dpAll_ints {K : PySem.W.Frag} {H : Hp} : ∀ ns : List Int, DpAll K H (ns.map V.int) (ns.map PyData.int)
  | [] => .nil
  | n :: r => .cons (.int n) (dpAll_ints r)
theorem canLay_ints : ∀ ns : List Int, PyData.canLayAll0 (ns.map PyData.int) = true
  | [] => rfl
  | n :: r => by
    show (PyData.canLay0 (.int n) && PyData.canLayAll0 (r.map PyData.int)) = true
    rw [canLay_ints r]
    rfl
theorem depth_ints : ∀ ns : List Int, PyData.depthAll (ns.map PyData.int) = 0
  | [] => rfl
  | n :: r => by
    show max (PyData.depth (.int n)) (PyData.depthAll (r.map PyData.int)) = 0
    rw [depth_ints r]
    rfl
theorem shaped_ints (ns : List Int) : SeqAt.shaped (.list (ns.map PyData.int)) = true := by
  unfold SeqAt.shaped
  have h1 : PyData.canLay0 (.list (ns.map PyData.int)) = true := by
    show PyData.canLayAll0 (ns.map PyData.int) = true
    exact canLay_ints ns
  have h2 : (PyData.list (ns.map PyData.int)).depth = 1 := by
    show PyData.depthAll (ns.map PyData.int) + 1 = 1
    rw [depth_ints]
  rw [h1, h2]
  rfl
theorem eqv_nil (ns : List Int) : PyData.eqv (.list (ns.map PyData.int)) (.list []) = ns.isEmpty := by
  cases ns with
  | nil => rfl
  | cons n r => rfl

section
variable {P : Program} {w : World} {K : PySem.W.Frag} {mg : Str → Option Value} {base : Heap}
def spFeed (K : PySem.W.Frag) : Sp := fun vs H Q _ => ∃ (a : Addr) (ns : List Int), vs = [.ref a] ∧ SqL K H a (ns.map V.int) ∧ ∀ d c H', Same H H' → Feed H' d c 0 → Q (.ref d) H'
theorem ok_feed {f : Addr} {fd : FuncData} {k : Nat} (F : Fun K "_law_feed" "_law_feed" s_feed f fd) (ml : mg "list" = none) : FnOk P w K mg base CX0 (k + 1) f fd ["_law_script"] (spFeed K) := by
  refine F.ok sc_feed (fun vs H Q E h => ?_) (fun cdv A outer s H vs Q E hr h => ?_)
  · obtain ⟨a, ns, rfl, _⟩ := h
    rfl
  · obtain ⟨a, ns, rfl, hS, q⟩ := h
    refine ⟨_, pss_one (ps_ret (pe_disp (pps_cons pe_str (pe_callTy call_list_of (by rfl) ml (by decide +kernel) (pa_cons (pe_slice sl_list (pv 0) po_none (po_some pe_int)) pa_nil))
      (pps_cons pe_str pe_int (pps_cons pe_str pe_int (pps_cons pe_str pe_int pps_nil)))) (by rfl) (by rfl) (fun z => by cases z) (by decide))), ?_⟩
    refine fun d nd => ?_
    have s1 : Same H (upd H d (.dK [])) := same_new nd
    obtain ⟨ms, em⟩ := cut_ints ns none (some 63)
    refine ⟨_, rfl, 63, rfl, a, ns.map V.int, rfl, s1.seq hS, fun x nx => ?_⟩
    have s2 := same_new (o := HO.lst (cutV (ns.map V.int) none (some 63))) nx
    refine ⟨x, _, rfl, .inl (SqL.of upd_same), fun c nc => ?_⟩
    have s3 := same_new (o := HO.lst (cutV (ns.map V.int) none (some 63))) nc
    refine ⟨?_, feedL c 0 0 0, rfl, by show 4 ≤ 15; decide, ?_⟩
    · exact s3 _ _ (s2 _ _ upd_same)
    · rw [feed_merge]
      have ncd : c ≠ d := fun z => by
        rw [z] at nc
        exact absurd nc (by rw [s2 _ _ upd_same]; exact fun z => nomatch z)
      refine q d c _ (fun b o z => ?_) ⟨0, 0, ms, upd_same, ?_, by decide⟩
      · have nb : b ≠ d := ne_of_none z nd
        rw [upd_ne nb]
        exact s3 _ _ (s2 _ _ (s1 _ _ z))
      · rw [upd_ne ncd, upd_same, em]
def spDraw : Sp := fun vs H Q _ => ∃ (d c : Addr) (many t : Int), vs = [.ref d, .int many] ∧ Feed H d c t ∧ t ≤ 1000000 ∧ 0 < many ∧ many < 1073741824 ∧
  ∀ r H', 0 ≤ r → r < many → Keep d H H' → Feed H' d c (t + 1) → Q (.int r) H'
theorem ok_draw {f : Addr} {fd : FuncData} {k : Nat} (F : Fun K "_law_draw" "_law_draw" s_draw f fd) (ml : mg "len" = none) : FnOk P w K mg base CX0 (k + 1) f fd ["_law_feed_here", "_law_many"] spDraw := by
  refine F.ok sc_draw (fun vs H Q E h => ?_) (fun cdv A outer s H vs Q E hr h => ?_)
  · obtain ⟨_, _, _, _, rfl, _⟩ := h
    rfl
  · obtain ⟨d, c, many, t, rfl, ⟨a, l, ns, hd, hc, ht0⟩, ht, hm0, hm1, q⟩ := h
    have hu := hu_of hr
    refine ⟨_, pss_cons (ps_set (i := 2) sc_draw.nd rfl (.inl rfl) (pe_op op_add (pe_dget hu (pv 0) pe_str (fun _ _ => rfl)) pe_int))
      (pss_cons (ps_dput hu (pv 0) pe_str (pv 2) rfl)
      (pss_cons (ps_if (pt_cmpR op_gt (pe_dget hu (pv 0) pe_str (fun _ _ => rfl)) pe_int (nomark _))
        (pss_cons (ps_set (i := 3) sc_draw.nd rfl (.inl rfl) (pe_op op_modN (pe_dget hu (pv 0) pe_str (fun _ _ => rfl)) (pv 1)))
        (pss_cons (ps_dput hu (pv 0) pe_str (pe_op op_fdiv (pe_dget hu (pv 0) pe_str (fun _ _ => rfl)) (pv 1)) rfl)
        (pss_one (ps_ret (pv 3))))) pss_nil)
      (pss_cons (ps_par (i := 4) (j := 5) rfl sc_draw.nd rfl rfl (by decide) rfl rfl (pa_cons (pe_dget hu (pv 0) pe_str (fun _ _ => rfl)) (pa_cons (pe_dget hu (pv 0) pe_str (fun _ _ => rfl)) pa_nil)) (by rfl))
      (pss_cons (ps_dput hu (pv 0) pe_str (pe_op op_add (pv 4) pe_int) rfl)
      (pss_cons (ps_set (i := 6) sc_draw.nd rfl (.inl rfl) (pe_ifExp (pt_cmpR (op_neD hr.units) (pv 5) (pe_lst pa_nil) (nomark _))
          (pe_ix ix_list (pv 5) (pe_op op_modN (pv 4) (pe_callB call_len_seq (by rfl) ml PySem.boot_len (pa_cons (pv 5) pa_nil))) (fun _ _ => rfl)) pe_int))
      (pss_cons (ps_if (PW.pt (pw_and (pt_cmpR op_ge (pv 6) (pe_op op_pow pe_int pe_int) (nomark _)) (pw_and1 (pt_cmpR op_lt (pv 4) (pe_callB call_len_seq (by rfl) ml PySem.boot_len (pa_cons (pv 5) pa_nil)) (nomark _)))))
        (pss_cons (ps_dput hu (pv 0) pe_str (pe_op op_fdiv (pv 6) (pv 1)) rfl) (pss_one (ps_ret (pe_op op_modN (pv 6) (pv 1))))) pss_nil)
      (pss_cons (ps_set (i := 7) sc_draw.nd rfl (.inl rfl) (pe_op op_modN (pe_op op_pow (pe_op op_add (pe_op op_modN (pv 6) pe_int) (pe_op op_mul pe_int (pv 2))) pe_int) pe_int))
      (pss_one (ps_ret (pe_op op_modN (pe_op op_fdiv (pe_op op_modN (pe_op op_mul (pv 7) (pe_op op_add (pe_op op_mul pe_int (pv 2)) pe_int)) pe_int) pe_int) (pv 1))))))))))), ?_⟩
    have ndc : c ≠ d := ne_of hc hd (by intro z; cases z)
    have mod_ok : ∀ x : Int, 0 ≤ x.fmod many ∧ x.fmod many < many := fun x => ⟨Int.fmod_nonneg_of_pos x hm0, Int.fmod_lt_of_pos x hm0⟩
    -- turn
    refine ⟨_, rfl, d, _, rfl, .inl ⟨_, .inr "turn", .inl hd, rfl, feed_turn c a l t⟩, t, 1, rfl, rfl, ?_⟩
    refine ⟨_, rfl, _, rfl, d, _, rfl, DPut.k (k := .inr "turn") hd (feed_len c a l t), ?_⟩
    rw [put_turn]
    -- left
    refine ⟨_, rfl, d, _, rfl, .inl ⟨_, .inr "left", .inl upd_same, rfl, feed_left c a l (t + 1)⟩, l, 0, rfl, rfl, _, rfl, ite2 (fun cl => ?_) (fun cl => ?_)⟩
    · refine ⟨_, rfl, d, _, rfl, .inl ⟨_, .inr "left", .inl upd_same, rfl, feed_left c a l (t + 1)⟩, _, rfl, l, many, rfl, rfl, Int.ne_of_gt hm0, ?_⟩
      refine ⟨_, rfl, d, _, rfl, .inl ⟨_, .inr "left", .inl upd_same, rfl, feed_left c a l (t + 1)⟩, _, rfl, l, many, rfl, rfl, ⟨hm0, hm1⟩, _, rfl, d, _, rfl, DPut.k (k := .inr "left") upd_same (feed_len c a l (t + 1)), ?_⟩
      rw [put_left, upd_upd]
      refine ⟨_, rfl, q _ _ (mod_ok l).1 (mod_ok l).2 Keep.upd ⟨a, _, ns, upd_same, ?_, by omega⟩⟩
      rw [upd_ne ndc]
      exact hc
    · refine ⟨_, rfl, d, _, rfl, .inl ⟨_, .inr "at", .inl upd_same, rfl, feed_at c a l (t + 1)⟩, _, rfl, d, _, rfl, .inl ⟨_, .inr "cells", .inl upd_same, rfl, feed_cells c a l (t + 1)⟩, _, _, rfl, ?_⟩
      refine ⟨_, rfl, a, 1, rfl, rfl, _, rfl, d, _, rfl, DPut.k (k := .inr "at") upd_same (feed_len c a l (t + 1)), ?_⟩
      rw [put_at, upd_upd]
      have hc2 : upd H d (.dK (feedL c (a + 1) l (t + 1))) c = some (.lst (ns.map V.int)) := by
        rw [upd_ne ndc]
        exact hc
      -- cells != []
      refine ⟨_, rfl, Nat.zero_le _, fun e ne => ?_⟩
      have s1 := same_new (o := HO.lst []) ne
      have hc3 := s1 _ _ hc2
      have hd3 := s1 _ _ (upd_same (H := H) (a := d) (o := .dK (feedL c (a + 1) l (t + 1))))
      have k3 : Keep d H (upd (upd H d (.dK (feedL c (a + 1) l (t + 1)))) e (.lst [])) := Keep.upd.trans (Keep.of_same s1)
      refine ⟨.list (ns.map PyData.int), .list [], .lst (SqL.of hc3) (dpAll_ints ns), .lst (SqL.of upd_same) .nil, shaped_ints ns, rfl, _, rfl, ?_⟩
      rw [eqv_nil]
      -- behind the cell
      have rest : ∀ cell : Int, tSeq (tIfS (tAnd (tTest (tOp (rI0 fun i j => .bl (decide (j ≤ i))) (tVar 6) (tOp (rI CPow fun i j => .int (i ^ j.toNat)) (tC (.int 10)) (tC (.int 18))))) (tTest (tOp (rI0 fun i j => .bl (decide (i < j))) (tVar 4) (tCB (fun xs H Q => ∃ p ys, xs = [.ref p] ∧ (SqL K H p ys ∨ SqT K H p ys) ∧ Q (.int ys.length) H) (tCons (tVar 5) tNil)))))
          (tSeq (sDPut (tVar 0) (tC (.str "left")) (tOp (rI CDiv fun i j => .int (i / j)) (tVar 6) (tVar 1))) (tRet (tOp (rI (fun _ j => j ≠ 0) fun i j => .int (i.fmod j)) (tVar 6) (tVar 1)))) tNext)
          (tSeq (tAsg (tOp (rI (fun _ j => j ≠ 0) fun i j => .int (i.fmod j)) (tOp (rI CPow fun i j => .int (i ^ j.toNat)) (tOp (rI0 fun i j => .int (i + j)) (tOp (rI (fun _ j => j ≠ 0) fun i j => .int (i.fmod j)) (tVar 6) (tC (.int 999983))) (tOp (rI CMul fun i j => .int (i * j)) (tC (.int 7919)) (tVar 2))) (tC (.int 5))) (tC (.int 2305843009213693951))) (gName 7))
          (tRet (tOp (rI (fun _ j => j ≠ 0) fun i j => .int (i.fmod j)) (tOp (rI CDiv fun i j => .int (i / j)) (tOp (rI (fun _ j => j ≠ 0) fun i j => .int (i.fmod j)) (tOp (rI CMul fun i j => .int (i * j)) (tVar 7) (tOp (rI0 fun i j => .int (i + j)) (tOp (rI CMul fun i j => .int (i * j)) (tC (.int 2)) (tVar 2)) (tC (.int 104729)))) (tC (.int 2147483629))) (tC (.int 64))) (tVar 1))))
          { nx := fun _ H' => Q .non H', rt := Q } [some (.ref d), some (.int many), some (.int (t + 1)), none, some (.int a), some (.ref c), some (.int cell), none] (upd (upd H d (.dK (feedL c (a + 1) l (t + 1)))) e (.lst [])) := by
        intro cell
        have fin : tSeq (tAsg (tOp (rI (fun _ j => j ≠ 0) fun i j => .int (i.fmod j)) (tOp (rI CPow fun i j => .int (i ^ j.toNat)) (tOp (rI0 fun i j => .int (i + j)) (tOp (rI (fun _ j => j ≠ 0) fun i j => .int (i.fmod j)) (tVar 6) (tC (.int 999983))) (tOp (rI CMul fun i j => .int (i * j)) (tC (.int 7919)) (tVar 2))) (tC (.int 5))) (tC (.int 2305843009213693951))) (gName 7))
          (tRet (tOp (rI (fun _ j => j ≠ 0) fun i j => .int (i.fmod j)) (tOp (rI CDiv fun i j => .int (i / j)) (tOp (rI (fun _ j => j ≠ 0) fun i j => .int (i.fmod j)) (tOp (rI CMul fun i j => .int (i * j)) (tVar 7) (tOp (rI0 fun i j => .int (i + j)) (tOp (rI CMul fun i j => .int (i * j)) (tC (.int 2)) (tVar 2)) (tC (.int 104729)))) (tC (.int 2147483629))) (tC (.int 64))) (tVar 1)))
          { nx := fun _ H' => Q .non H', rt := Q } [some (.ref d), some (.int many), some (.int (t + 1)), none, some (.int a), some (.ref c), some (.int cell), none] (upd (upd H d (.dK (feedL c (a + 1) l (t + 1)))) e (.lst [])) := by
          have hm : 0 ≤ cell.fmod 999983 ∧ cell.fmod 999983 < 999983 := ⟨Int.fmod_nonneg_of_pos _ (by decide), Int.fmod_lt_of_pos _ (by decide)⟩
          refine ⟨_, rfl, cell, 999983, rfl, rfl, by show (999983 : Int) ≠ 0; decide, _, rfl, 7919, t + 1, rfl, rfl, .inl ⟨by decide, by decide⟩, _, _, rfl, rfl, _, 5, rfl, rfl, ⟨by decide, by decide, ?_⟩, _, 2305843009213693951, rfl, rfl, by show (2305843009213693951 : Int) ≠ 0; decide, ?_⟩
          · have e64 : (2 : Nat) ^ 64 = 18446744073709551616 := by decide
            rw [e64]
            omega
          · refine ⟨_, rfl, _, rfl, 2, t + 1, rfl, rfl, .inl ⟨by decide, by decide⟩, _, 104729, rfl, rfl, _, _, rfl, rfl, .inr ⟨?_, ?_⟩, _, 2147483629, rfl, rfl, by show (2147483629 : Int) ≠ 0; decide, _, 64, rfl, rfl, ⟨by decide, by decide⟩, _, rfl, _, many, rfl, rfl, Int.ne_of_gt hm0, ?_⟩
            · have e64 : (2 : Int) ^ 64 = 18446744073709551616 := by decide
              omega
            · have e64 : (2 : Int) ^ 64 = 18446744073709551616 := by decide
              omega
            · exact q _ _ (mod_ok _).1 (mod_ok _).2 k3 ⟨a + 1, l, ns, hd3, hc3, by omega⟩
        refine ⟨_, rfl, 10, 18, rfl, rfl, ⟨by decide, by decide, by decide⟩, cell, _, rfl, rfl, _, rfl, ite2 (fun c1 => ?_) (fun c1 => iteF fin)⟩
        refine ⟨_, rfl, _, rfl, c, _, rfl, .inl (SqL.of hc3), a, _, rfl, rfl, _, rfl, ite2 (fun c2 => ?_) (fun c2 => fin)⟩
        refine ⟨_, rfl, _, rfl, cell, many, rfl, rfl, ⟨hm0, hm1⟩, _, rfl, d, _, rfl, DPut.k (k := .inr "left") hd3 (feed_len c (a + 1) l (t + 1)), ?_⟩
        rw [put_left]
        refine ⟨_, rfl, _, rfl, cell, many, rfl, rfl, Int.ne_of_gt hm0, q _ _ (mod_ok cell).1 (mod_ok cell).2 (k3.trans Keep.upd) ⟨a + 1, _, ns, upd_same, ?_, by omega⟩⟩
        rw [upd_ne ndc]
        exact hc3
      cases ns with
      | nil => exact iteF (rest 0)
      | cons n r =>
        refine iteT ?_
        have hlen : (0 : Int) < (((n :: r).map V.int).length : Nat) := by simp
        have h1 : 0 ≤ a.fmod ((((n :: r).map V.int).length : Nat) : Int) := Int.fmod_nonneg_of_pos _ hlen
        have h2 : a.fmod ((((n :: r).map V.int).length : Nat) : Int) < ((((n :: r).map V.int).length : Nat) : Int) := Int.fmod_lt_of_pos _ hlen
        have h3 : (a.fmod ((((n :: r).map V.int).length : Nat) : Int)).toNat < ((n :: r).map V.int).length := by omega
        have h4 : ∃ x, ((n :: r).map V.int)[(a.fmod ((((n :: r).map V.int).length : Nat) : Int)).toNat]? = some (.int x) := by
          rw [List.getElem?_map]
          rw [List.length_map] at h3
          rw [List.length_map, List.getElem?_eq_getElem h3]
          exact ⟨_, rfl⟩
        obtain ⟨x, hx⟩ := h4
        refine ⟨_, rfl, _, rfl, _, rfl, c, _, rfl, .inl (SqL.of hc3), a, _, rfl, rfl, Int.ne_of_gt hlen, c, _, _, _, rfl, rfl, SqL.of hc3, at_of (Int.toNat_of_nonneg h1).symm hx, rest x⟩
end

end Fp

set_option Elab.async false
set_option linter.all false
set_option maxRecDepth 100000
set_option maxHeartbeats 4000000
set_option exponentiation.threshold 10000
namespace Fp
open PySem PySem.Spec PyProof.Rows L2
abbrev s_low : Stmt := topS 23
theorem sc_low : FnScope ["_law_top", "_law_bottom", "_law_one", "_law_other"] ["_law_top", "_law_bottom"] (defScope s_low) := ⟨rfl, rfl, rfl, by decide +kernel, rfl, by decide +kernel, by decide +kernel⟩
section
variable {P : Program} {w : World} {K : PySem.W.Frag} {mg : Str → Option Value} {base : Heap}
/-! ### lowest terms by the law's own division -/
def spLow : Sp := fun vs H Q _ => ∃ t b : Int, vs = [.int t, .int b] ∧ 0 < b ∧ Sm 8000 b ∧ ∀ p, H p = none → Q (.ref p) (upd H p (.tup [.int (ratT t b), .int (ratB t b)]))
theorem ok_low {f : Addr} {fd : FuncData} {k : Nat} (F : Fun K "_law_low" "_law_low" s_low f fd) (ma : mg "abs" = none) : FnOk P w K mg base CX0 (k + 1) f fd ["_law_top", "_law_bottom"] spLow := by
  refine F.ok sc_low (fun vs H Q E h => ?_) (fun cdv A outer s H vs Q E hr h => ?_)
  · obtain ⟨a, b, rfl, _⟩ := h
    rfl
  · obtain ⟨a, b, rfl, hb, sb, q⟩ := h
    refine ⟨_, pss_cons (ps_par (i := 2) (j := 3) rfl sc_low.nd rfl rfl (by decide) rfl rfl (pa_cons (pe_callB call_abs (by rfl) ma (by decide +kernel) (pa_cons (pv 0) pa_nil)) (pa_cons (pv 1) pa_nil)) (by rfl))
      (pss_cons (ps_while PassesOwn.never (pt_cmpR op_gt (pv 3) pe_int (nomark _)) (pss_one (ps_par (i := 2) (j := 3) rfl sc_low.nd rfl rfl (by decide) rfl rfl (pa_cons (pv 3) (pa_cons (pe_op op_modN (pv 2) (pv 3)) pa_nil)) (by rfl))))
      (pss_one (ps_ret (pe_tup (pa_cons (pe_op op_fdivA (pv 0) (pv 2)) (pa_cons (pe_op op_fdivA (pv 1) (pv 2)) pa_nil)))))), ?_⟩
    refine ⟨_, rfl, a, rfl, _, rfl, _, _, rfl, ?_⟩
    refine while_by (fun σ H1 => H1 = H ∧ ∃ g s : Int, σ = [some (.int a), some (.int b), some (.int g), some (.int s)] ∧ 0 ≤ g ∧ 0 ≤ s ∧ Int.gcd g s = Int.gcd a b)
      (fun σ _ => match σ with | [_, _, _, some (.int s)] => s.toNat | _ => 0) ?_ ?_ ?_
    · refine ⟨rfl, _, _, rfl, ?_, Int.le_of_lt hb, ?_⟩
      · rw [abs_if]; omega
      · rw [abs_if]
        show Nat.gcd _ _ = Nat.gcd _ _
        rw [Int.natAbs_natCast]
    · rintro σ H1 ⟨rfl, g, s, rfl, hg, hs, e⟩
      refine ⟨_, rfl, s, 0, rfl, rfl, _, rfl, ite2 (fun c => ?_) (fun c => ?_)⟩
      · have hp : 0 < s := of_decide_eq_true c
        have lt : s > g.fmod s := Int.fmod_lt_of_pos g hp
        have nn : 0 ≤ g.fmod s := Int.fmod_nonneg_of_pos g hp
        refine ⟨_, rfl, _, rfl, _, rfl, g, s, rfl, rfl, Int.ne_of_gt hp, _, _, rfl, ⟨rfl, s, g.fmod s, rfl, hs, nn, ?_⟩, ?_⟩
        · rw [gcd_turn hp hg]; exact e
        · show (g.fmod s).toNat < s.toNat
          omega
      · have hs0 : s = 0 := by
          have : ¬ 0 < s := fun z => c (decide_eq_true z)
          omega
        subst hs0
        have eg : g = ratG a b := by
          unfold ratG
          rw [if_neg (by omega), ← e, Int.gcd_zero_right]
          omega
        obtain ⟨c1, c2⟩ := ratG_ok (t := a) (Int.ne_of_gt hb) sb (by decide) (by decide)
        rw [eg]
        exact ⟨_, rfl, _, rfl, a, _, rfl, rfl, c1, _, rfl, _, rfl, b, _, rfl, rfl, c2, by show 2 ≤ sizeLine; decide, q⟩
    · intro σ H1 Q1 Q2 hq h
      obtain ⟨v, e1, i, j, e2, e3, k, e4, h⟩ := h
      exact ⟨v, e1, i, j, e2, e3, k, e4, hq _ _ h⟩
/-- what comes of lowest terms is no greater -/
theorem fdiv_le {x g : Int} (hg : 0 < g) (hd : g ∣ x) : (x.fdiv g).natAbs ≤ x.natAbs := by
  obtain ⟨y, rfl⟩ := hd
  rw [Int.mul_fdiv_cancel_left y (Int.ne_of_gt hg), Int.natAbs_mul]
  have : 1 ≤ g.natAbs := by omega
  exact Nat.le_mul_of_pos_left _ this
theorem ratG_pos {t b : Int} (hb : 0 < b) : 0 < ratG t b ∧ ratG t b ∣ t ∧ ratG t b ∣ b := by
  have e : ratG t b = ((Int.gcd t b : Nat) : Int) := by
    unfold ratG
    rw [if_neg (by omega)]
  rw [e]
  have := (gcd_le (t := t) (Int.ne_of_gt hb)).1
  exact ⟨by omega, Int.gcd_dvd_left .., Int.gcd_dvd_right ..⟩
theorem ratT_sm {t b : Int} {n : Nat} (hb : 0 < b) (h : Sm n t) : Sm n (ratT t b) := by
  obtain ⟨h1, h2, _⟩ := ratG_pos (t := t) hb
  exact Nat.lt_of_le_of_lt (fdiv_le h1 h2) h
theorem ratB_sm {t b : Int} {n : Nat} (hb : 0 < b) (h : Sm n b) : Sm n (ratB t b) := by
  obtain ⟨h1, _, h2⟩ := ratG_pos (t := t) hb
  exact Nat.lt_of_le_of_lt (fdiv_le h1 h2) h
theorem ratB_pos {t b : Int} (hb : 0 < b) : 0 < ratB t b := by
  obtain ⟨h1, _, y, hy⟩ := ratG_pos (t := t) hb
  unfold ratB
  have e : b.fdiv (ratG t b) = y := by
    have := Int.mul_fdiv_cancel_left y (Int.ne_of_gt h1)
    rw [← hy] at this
    exact this
  rw [e]
  rcases Int.lt_trichotomy y 0 with z | z | z
  · have := Int.mul_neg_of_pos_of_neg h1 z
    omega
  · rw [z, Int.mul_zero] at hy
    omega
  · exact z
end

end Fp

set_option Elab.async false
set_option linter.all false
set_option maxRecDepth 100000
set_option maxHeartbeats 4000000
set_option exponentiation.threshold 10000
namespace Fp
open PySem PySem.Spec PyProof.Rows L2
abbrev s_ltimes : Stmt := topS 25
theorem sc_ltimes : FnScope ["_law_one", "_law_other"] ["_law_one", "_law_other"] (defScope s_ltimes) := ⟨rfl, rfl, rfl, by decide +kernel, rfl, by decide +kernel, by decide +kernel⟩
section
variable {P : Program} {w : World} {K : PySem.W.Frag} {mg : Str → Option Value} {base : Heap}
theorem ok_ltimes {f fR : Addr} {fd fdR : FuncData} (F : Fun K "_law_times" "_law_times" s_ltimes f fd) (FR : Fun K "_law_low" "_law_low" s_low fR fdR) (bR : Binds K fdR ["_law_top", "_law_bottom"] []) (gR : mg "_law_low" = some (.ref fR)) (GR : FnOk P w K mg base CX0 1 fR fdR ["_law_top", "_law_bottom"] spLow) : FnOk P w K mg base CX0 2 f fd ["_law_one", "_law_other"] (spTwo K (fun a b c d => a * c)) := by
  refine F.ok sc_ltimes (fun vs H Q E h => ?_) (fun cdv A outer s H vs Q E hr h => ?_)
  · obtain ⟨_, _, _, _, _, _, rfl, _⟩ := h
    rfl
  · obtain ⟨p1, p2, a, b, c, d, rfl, T, q⟩ := h
    refine ⟨_, pss_one (ps_ret (pe_call GR hr (by rfl) gR FR.kp bR .nil pass0 (pa_cons (pe_op op_mulA (pe_ix ix_tup (pv 0) pe_int (fun _ _ => rfl)) (pe_ix ix_tup (pv 1) pe_int (fun _ _ => rfl))) (pa_cons (pe_op op_mulA (pe_ix ix_tup (pv 0) pe_int (fun _ _ => rfl)) (pe_ix ix_tup (pv 1) pe_int (fun _ _ => rfl))) pa_nil)))), ?_⟩
    refine ⟨_, rfl, p1, _, 0, _, rfl, rfl, T.t1, atI_nat (j := 0) rfl, _, rfl, p2, _, 0, _, rfl, rfl, T.t2, atI_nat (j := 0) rfl, a, c, rfl, rfl, T.sa.cmul T.sc (by decide) (by decide) (by decide), _, rfl, p1, _, 1, _, rfl, rfl, T.t1, atI_nat (j := 1) rfl, _, rfl, p2, _, 1, _, rfl, rfl, T.t2, atI_nat (j := 1) rfl, b, d, rfl, rfl, T.sb.cmul T.sd (by decide) (by decide) (by decide), ?_⟩
    exact ⟨_, _, rfl, T.den, (T.sb.mul T.sd).mono (by decide), q⟩
end

end Fp

set_option Elab.async false
set_option linter.all false
set_option maxRecDepth 100000
set_option maxHeartbeats 4000000
set_option exponentiation.threshold 10000
namespace Fp
open PySem PySem.Spec PyProof.Rows L2
section
variable {P : Program} {w : World} {K : PySem.W.Frag} {mg : Str → Option Value} {base : Heap}
end

end Fp

set_option Elab.async false
set_option linter.all false
set_option maxRecDepth 100000
set_option maxHeartbeats 4000000
set_option exponentiation.threshold 10000
namespace Fp
open PySem PySem.Spec PyProof.Rows L2
theorem tC_go {v : V} {σ : L2.St} {H : Hp} {Q : VK} (h : Q v H) : tC v σ H Q := h
theorem tYes_go {σ : L2.St} {H : Hp} {Q : Bool → Hp → Prop} (h : Q true H) : tYes σ H Q := h
/-! ### lives as they stand in the heap -/
abbrev RT := Int × Int
def RAt (K : PySem.W.Frag) (H : Hp) (p : Addr) (x : RT) : Prop := SqT K H p [.int x.1, .int x.2]
inductive RsAt (K : PySem.W.Frag) (H : Hp) : List Addr → List RT → Prop
  | nil : RsAt K H [] []
  | cons {p : Addr} {x : RT} {ps : List Addr} {xs : List RT} : RAt K H p x → RsAt K H ps xs → RsAt K H (p :: ps) (x :: xs)
def RowAt (K : PySem.W.Frag) (H : Hp) (p : Addr) (xs : List RT) : Prop := ∃ rs : List Addr, SqT K H p (rs.map V.ref) ∧ RsAt K H rs xs
def LifeAt (K : PySem.W.Frag) (H : Hp) (p : Addr) (row : List RT) (step : RT) : Prop := ∃ pr ps : Addr, SqT K H p [.ref pr, .ref ps] ∧ RowAt K H pr row ∧ RAt K H ps step
/-- tuples stay -/
def Tk (K : PySem.W.Frag) (H H' : Hp) : Prop := ∀ a xs, SqT K H a xs → SqT K H' a xs
section
variable {K : PySem.W.Frag} {H H' H2 : Hp}
theorem Tk.refl : Tk K H H := fun _ _ h => h
theorem Tk.trans (a : Tk K H H') (b : Tk K H' H2) : Tk K H H2 := fun p xs h => b p xs (a p xs h)
theorem Tk.same (e : Same H H') : Tk K H H' := fun _ _ h => sqT_same e h
theorem Tk.new {p : Addr} {o : HO} (n : H p = none) : Tk K H (upd H p o) := Tk.same (same_new n)
theorem Tk.keep {d c : Addr} {t : Int} (f : Feed H d c t) (e : Keep d H H') : Tk K H H' := fun _ _ h => sqT_keep f e h
theorem RAt.tk {p : Addr} {x : RT} (h : RAt K H p x) (e : Tk K H H') : RAt K H' p x := e _ _ h
theorem RsAt.tk : ∀ {ps : List Addr} {xs : List RT}, RsAt K H ps xs → Tk K H H' → RsAt K H' ps xs
  | _, _, .nil, _ => .nil
  | _, _, .cons h r, e => .cons (h.tk e) (r.tk e)
theorem RowAt.tk {p : Addr} {xs : List RT} (h : RowAt K H p xs) (e : Tk K H H') : RowAt K H' p xs := by
  obtain ⟨rs, h1, h2⟩ := h
  exact ⟨rs, e _ _ h1, h2.tk e⟩
theorem LifeAt.tk {p : Addr} {row : List RT} {step : RT} (h : LifeAt K H p row step) (e : Tk K H H') : LifeAt K H' p row step := by
  obtain ⟨pr, ps, h1, h2, h3⟩ := h
  exact ⟨pr, ps, e _ _ h1, h2.tk e, h3.tk e⟩
theorem RsAt.length : ∀ {ps : List Addr} {xs : List RT}, RsAt K H ps xs → ps.length = xs.length
  | _, _, .nil => rfl
  | _, _, .cons _ r => congrArg (· + 1) r.length
theorem RsAt.get : ∀ {ps : List Addr} {xs : List RT} {i : Nat} {x : RT}, RsAt K H ps xs → xs[i]? = some x → ∃ p, ps[i]? = some p ∧ RAt K H p x
  | _, _, _, _, .nil, e => by simp at e
  | _, _, 0, _, .cons h _, e => by
    cases Option.some.inj e
    exact ⟨_, rfl, h⟩
  | _, _, i + 1, x, .cons _ r, e => RsAt.get (i := i) (x := x) r e
theorem RsAt.append : ∀ {ps qs : List Addr} {xs ys : List RT}, RsAt K H ps xs → RsAt K H qs ys → RsAt K H (ps ++ qs) (xs ++ ys)
  | _, _, _, _, .nil, s => s
  | _, _, _, _, .cons h r, s => .cons h (r.append s)
theorem RsAt.take : ∀ {ps : List Addr} {xs : List RT} (n : Nat), RsAt K H ps xs → RsAt K H (ps.take n) (xs.take n)
  | _, _, 0, _ => .nil
  | _, _, _ + 1, .nil => .nil
  | _, _, n + 1, .cons h r => .cons h (r.take n)
theorem RsAt.drop : ∀ {ps : List Addr} {xs : List RT} (n : Nat), RsAt K H ps xs → RsAt K H (ps.drop n) (xs.drop n)
  | _, _, 0, r => r
  | _, _, _ + 1, .nil => .nil
  | _, _, n + 1, .cons _ r => RsAt.drop n r
end
/-! ### lowest terms -/
def low2 (t b : Int) : RT := (ratT t b, ratB t b)
/-- a ratio in lowest terms -/
def Red (x : RT) : Prop := 0 < x.2 ∧ Int.gcd x.1 x.2 = 1
theorem low2_red {t b : Int} (hb : b ≠ 0) : Red (low2 t b) := by
  have main : ∀ (t b : Int), 0 < b → Red (low2 t b) := fun t b hb => by
    refine ⟨ratB_pos hb, ?_⟩
    have e : ratG t b = ((Int.gcd t b : Nat) : Int) := by
      unfold ratG
      rw [if_neg (by omega)]
    have hg := (gcd_le (t := t) (Int.ne_of_gt hb)).1
    obtain ⟨h1, ⟨x, hx⟩, ⟨y, hy⟩⟩ := ratG_pos (t := t) hb
    have ex : t.fdiv (ratG t b) = x := by
      have := Int.mul_fdiv_cancel_left x (Int.ne_of_gt h1)
      rw [← hx] at this
      exact this
    have ey : b.fdiv (ratG t b) = y := by
      have := Int.mul_fdiv_cancel_left y (Int.ne_of_gt h1)
      rw [← hy] at this
      exact this
    show Int.gcd (t.fdiv (ratG t b)) (b.fdiv (ratG t b)) = 1
    rw [ex, ey]
    have z : Int.gcd t b = (ratG t b).natAbs * Int.gcd x y := by
      have := Int.gcd_mul_left (ratG t b) x y
      rw [← hx, ← hy] at this
      exact this
    have z2 : (ratG t b).natAbs = Int.gcd t b := by rw [e]; exact Int.natAbs_natCast _
    rw [z2] at z
    exact (Nat.eq_of_mul_eq_mul_left hg (by rw [Nat.mul_one]; exact z)).symm
  rcases (by omega : 0 < b ∨ b < 0) with z | z
  · exact main t b z
  · have e1 : ratG t b = -((Int.gcd t b : Nat) : Int) := by unfold ratG; rw [if_pos z]
    have e2 : ratG (-t) (-b) = ((Int.gcd t b : Nat) : Int) := by
      unfold ratG
      rw [if_neg (by omega)]
      show ((Nat.gcd _ _ : Nat) : Int) = ((Nat.gcd _ _ : Nat) : Int)
      rw [Int.natAbs_neg, Int.natAbs_neg]
    have fl : ∀ x g : Int, x.fdiv (-g) = (-x).fdiv g := fun x g => by
      have y := Int.neg_fdiv_neg (-x) g
      rw [Int.neg_neg] at y
      exact y
    have e : low2 t b = low2 (-t) (-b) := by
      unfold low2 ratT ratB
      rw [e1, e2, fl, fl]
    rw [e]
    exact main _ _ (by omega)
/-- the value of it: a by b, told crosswise -/
theorem low2_cross {t b : Int} (hb : 0 < b) : (low2 t b).1 * b = t * (low2 t b).2 := by
  obtain ⟨h1, ⟨x, hx⟩, ⟨y, hy⟩⟩ := ratG_pos (t := t) hb
  have ex : (low2 t b).1 = x := by
    show t.fdiv (ratG t b) = x
    have := Int.mul_fdiv_cancel_left x (Int.ne_of_gt h1)
    rw [← hx] at this
    exact this
  have ey : (low2 t b).2 = y := by
    show b.fdiv (ratG t b) = y
    have := Int.mul_fdiv_cancel_left y (Int.ne_of_gt h1)
    rw [← hy] at this
    exact this
  rw [ex, ey]
  generalize ratG t b = g at hx hy
  subst hx hy
  rw [Int.mul_comm g y, Int.mul_comm g x, Int.mul_assoc x g y, Int.mul_comm g y, ← Int.mul_assoc]
theorem dvd_cop {b a d : Int} (h : b ∣ a * d) (g : Int.gcd b a = 1) : b ∣ d := by
  rw [← Int.natAbs_dvd_natAbs] at h ⊢
  rw [Int.natAbs_mul] at h
  exact Nat.Coprime.dvd_of_dvd_mul_left g h
/-- two ratios in lowest terms of one value are one -/
theorem red_eq {x y : RT} (hx : Red x) (hy : Red y) (h : x.1 * y.2 = y.1 * x.2) : x = y := by
  obtain ⟨a, b⟩ := x
  obtain ⟨c, d⟩ := y
  obtain ⟨hb, g1⟩ := hx
  obtain ⟨hd, g2⟩ := hy
  dsimp only at *
  have b_d : b ∣ d := by
    have h1 : b ∣ a * d := ⟨c, by rw [h, Int.mul_comm]⟩
    exact dvd_cop h1 (by rw [Int.gcd_comm]; exact g1)
  have d_b : d ∣ b := by
    have h1 : d ∣ c * b := ⟨a, by rw [← h, Int.mul_comm]⟩
    exact dvd_cop h1 (by rw [Int.gcd_comm]; exact g2)
  have e : b = d := Int.dvd_antisymm (Int.le_of_lt hb) (Int.le_of_lt hd) b_d d_b
  subst e
  have e2 : a = c := Int.eq_of_mul_eq_mul_right (Int.ne_of_gt hb) h
  rw [e2]
def rT (x y : RT) : RT := low2 (x.1 * y.1) (x.2 * y.2)
/-! ### drawn lives -/
def lastW (ws : List Int) : Int := ws.getLastD 0
def wholeOf (ws : List Int) (extra : Int) (step : RT) : Int := (step.2 - step.1) * (ws.sum + extra) + step.1 * lastW ws
def rowOf (ws : List Int) (extra : Int) (step : RT) : List RT := ws.map fun x => low2 ((step.2 - step.1) * x) (wholeOf ws extra step)
structure Made (ws : List Int) (extra : Int) (step : RT) : Prop where
  ne : ws ≠ []
  len : ws.length ≤ 6
  nn : ∀ x ∈ ws, 0 ≤ x ∧ x ≤ 5
  last : 0 < lastW ws
  ex : 0 ≤ extra ∧ extra ≤ 8
  st : step = (0, 1) ∨ step = (1, 2) ∨ step = (1, 3) ∨ step = (2, 3) ∨ step = (3, 4)
theorem sum_bound : ∀ {ws : List Int}, (∀ x ∈ ws, 0 ≤ x ∧ x ≤ 5) → 0 ≤ ws.sum ∧ ws.sum ≤ 5 * (ws.length : Int)
  | [], _ => ⟨by decide, by decide⟩
  | x :: r, h => by
    have h1 := h x (List.mem_cons_self ..)
    have h2 := sum_bound fun y hy => h y (List.mem_cons_of_mem _ hy)
    rw [List.sum_cons, List.length_cons]
    omega
theorem last_le_sum : ∀ {ws : List Int}, (∀ x ∈ ws, 0 ≤ x ∧ x ≤ 5) → lastW ws ≤ ws.sum
  | [], _ => by decide
  | [x], h => by
    show x ≤ _
    rw [List.sum_cons, List.sum_nil]
    omega
  | x :: y :: r, h => by
    have h1 := h x (List.mem_cons_self ..)
    have h2 := last_le_sum (ws := y :: r) fun z hz => h z (List.mem_cons_of_mem _ hz)
    have e : lastW (x :: y :: r) = lastW (y :: r) := by
      unfold lastW
      rw [List.getLastD_cons, List.getLastD_cons]
      show _ = (y :: r).getLastD 0
      rw [List.getLastD_cons]
    rw [e, List.sum_cons]
    omega
theorem Made.step_ok {ws : List Int} {extra : Int} {step : RT} (m : Made ws extra step) : 0 ≤ step.1 ∧ step.1 < step.2 ∧ step.2 ≤ 4 ∧ Red step := by
  rcases m.st with rfl | rfl | rfl | rfl | rfl <;> exact ⟨by decide, by decide, by decide, by decide, by decide⟩
theorem Made.whole {ws : List Int} {extra : Int} {step : RT} (m : Made ws extra step) : 0 < wholeOf ws extra step ∧ wholeOf ws extra step ≤ 200 := by
  have h1 := sum_bound m.nn
  have h2 := last_le_sum m.nn
  have h3 := m.last
  have h4 := m.ex
  have h5 := m.len
  unfold wholeOf
  generalize ws.sum = S at *
  generalize lastW ws = L at *
  rcases m.st with rfl | rfl | rfl | rfl | rfl <;> dsimp only <;> omega

end Fp

set_option Elab.async false
set_option linter.all false
set_option maxRecDepth 100000
set_option maxHeartbeats 4000000
set_option exponentiation.threshold 10000
namespace Fp
open PySem PySem.Spec PyProof.Rows L2
abbrev s_life : Stmt := topS 26
abbrev N_life : List Str := ["_law_feed_here", "_law_way", "_law_many", "_law_part", "_law_weights", "_law_top", "_law_bottom", "_law_extra", "_law_whole", "_law_k", "_law_weight"]
theorem sc_life : FnScope N_life ["_law_feed_here", "_law_way"] (defScope s_life) := ⟨rfl, rfl, rfl, by decide +kernel, rfl, by decide +kernel, by decide +kernel⟩
theorem pick4 {a b c d : V} {r : Int} (h0 : 0 ≤ r) (h1 : r < 4) : ∃ v, atI [a, b, c, d] r = some v ∧ (v = a ∨ v = b ∨ v = c ∨ v = d) := by
  rcases (by omega : r = 0 ∨ r = 1 ∨ r = 2 ∨ r = 3) with rfl | rfl | rfl | rfl
  · exact ⟨a, atI_nat (j := 0) rfl, .inl rfl⟩
  · exact ⟨b, atI_nat (j := 1) rfl, .inr (.inl rfl)⟩
  · exact ⟨c, atI_nat (j := 2) rfl, .inr (.inr (.inl rfl))⟩
  · exact ⟨d, atI_nat (j := 3) rfl, .inr (.inr (.inr rfl))⟩
theorem pick2' {a b : V} {r : Int} (h0 : 0 ≤ r) (h1 : r < 2) : ∃ v, atI [a, b] r = some v ∧ (v = a ∨ v = b) := by
  rcases (by omega : r = 0 ∨ r = 1) with rfl | rfl
  · exact ⟨a, atI_nat (j := 0) rfl, .inl rfl⟩
  · exact ⟨b, atI_nat (j := 1) rfl, .inr rfl⟩
theorem tk_lst {K : PySem.W.Frag} {H : Hp} {p : Addr} {xs ys : List V} (h : H p = some (.lst xs)) : Tk K H (upd H p (.lst ys)) := fun a zs z => by
  rcases z with (z | ⟨o, z⟩) | z
  · exact .inl (.inl (by rw [upd_ne (ne_of z h (by intro y; cases y))]; exact z))
  · exact .inl (.inr ⟨o, by rw [upd_ne (ne_of z h (by intro y; cases y))]; exact z⟩)
  · exact .inr z
theorem last_set {ws : List Int} (h : ws ≠ []) (x : Int) : lastW (ws.set (ws.length - 1) x) = x := by
  unfold lastW
  rw [List.getLastD_eq_getLast?, List.getLast?_eq_getElem?, List.length_set, List.getElem?_set_self (by
    have := List.length_pos_iff.mpr h
    omega)]
  rfl
theorem last_get {ws : List Int} (h : ws ≠ []) : ws[ws.length - 1]? = some (lastW ws) := by
  unfold lastW
  rw [List.getLastD_eq_getLast?, List.getLast?_eq_getElem?]
  have := List.length_pos_iff.mpr h
  rw [List.getElem?_eq_getElem (by omega)]
  rfl
theorem atI_lastW {ws : List Int} (h : ws ≠ []) : atI (ws.map V.int) (-1) = some (.int (lastW ws)) := by
  have e : ws.map V.int = ws.dropLast.map V.int ++ [V.int (ws.getLast h)] := by
    rw [← List.map_singleton, ← List.map_append, List.dropLast_concat_getLast]
  rw [e, atI_last]
  unfold lastW
  rw [List.getLastD_eq_getLast?, List.getLast?_eq_some_getLast h]
  rfl
section
variable {P : Program} {w : World} {K : PySem.W.Frag} {mg : Str → Option Value} {base : Heap}
def spLife (K : PySem.W.Frag) : Sp := fun vs H Q _ => ∃ (d c : Addr) (way t : Int), vs = [.ref d, .int way] ∧ Feed H d c t ∧ t ≤ 900000 ∧
  ∀ p ws extra step t' H', Keep d H H' → Feed H' d c t' → t' ≤ t + 12 → Made ws extra step → (way ≠ 2 → way ≠ 4 → extra = 0) → (way = 2 ∨ way = 4 → 0 < extra) → (way ≠ 3 → way ≠ 4 → step = (0, 1)) → LifeAt K H' p (rowOf ws extra step) step → Q (.ref p) H'
theorem draws_row {K : PySem.W.Frag} {H : Hp} {rs : List Addr} {xs : List RT} {p : Addr} {x : RT} (h : RsAt K H rs xs) (e : RAt K H p x) : RsAt K H (rs ++ [p]) (xs ++ [x]) := h.append (.cons e .nil)
theorem in_two {a b x : Int} : inV (.int x) [.int a, .int b] = (decide (x = a) || decide (x = b)) := by
  have e : ∀ y : Int, eqV (.int y) (.int x) = decide (x = y) := fun y => by
    show (y == x) = _
    rw [Bool.eq_iff_iff]
    simp
    exact ⟨fun z => z.symm, fun z => z.symm⟩
  unfold inV
  rw [List.any_cons, List.any_cons, List.any_nil, e, e, Bool.or_false]
theorem map_last {ws : List Int} (h : ws ≠ []) (x : Int) : ws.set (ws.length - 1) x ≠ [] := by
  intro z
  have := congrArg List.length z
  rw [List.length_set, List.length_nil] at this
  exact h (List.length_eq_zero_iff.mp this)
theorem ixN_last {n : Nat} (h : 0 < n) : ixN n (-1) = some (n - 1) := by
  unfold ixN
  rw [if_neg (by omega)]
  first
    | (rw [if_pos (by omega)]; congr 1; omega)
    | (simp; omega)
theorem ok_life {f fD fL : Addr} {fd fdD fdL : FuncData} (F : Fun K "_law_life" "_law_life" s_life f fd) (FD : Fun K "_law_draw" "_law_draw" s_draw fD fdD) (bD : Binds K fdD ["_law_feed_here", "_law_many"] []) (gD : mg "_law_draw" = some (.ref fD))
    (GD : FnOk P w K mg base CX0 1 fD fdD ["_law_feed_here", "_law_many"] spDraw)
    (FL : Fun K "_law_low" "_law_low" s_low fL fdL) (bL : Binds K fdL ["_law_top", "_law_bottom"] []) (gL : mg "_law_low" = some (.ref fL)) (GL : FnOk P w K mg base CX0 1 fL fdL ["_law_top", "_law_bottom"] spLow)
    (mr : mg "range" = none) (mi : mg "int" = none) (ms : mg "sum" = none) (mt : mg "tuple" = none) : FnOk P w K mg base CX0 2 f fd ["_law_feed_here", "_law_way"] (spLife K) := by
  refine F.ok sc_life (fun vs H Q E h => ?_) (fun cdv A outer s H vs Q E hr h => ?_)
  · obtain ⟨_, _, _, _, rfl, _⟩ := h
    rfl
  · obtain ⟨d, c, way, t, rfl, f0, ht, q⟩ := h
    have hr1 := hr
    refine ⟨_, (pss_cons (ps_set (i := 2) sc_life.nd rfl (.inl rfl) (pe_op op_add pe_int (pe_call GD hr (by rfl) gD FD.kp bD .nil pass0 (pa_cons (pv 0) (pa_cons (pe_ix ix_list (pe_lst (pa_cons pe_int (pa_cons pe_int pa_nil))) (pe_call GD hr (by rfl) gD FD.kp bD .nil pass0 (pa_cons (pv 0) (pa_cons pe_int pa_nil))) (fun _ _ => rfl)) pa_nil))))) (pss_cons (ps_set (i := 3) sc_life.nd rfl (.inr rfl) (pe_op op_add pe_int (pe_call GD hr (by rfl) gD FD.kp bD .nil pass0 (pa_cons (pv 0) (pa_cons pe_int pa_nil))))) (pss_mid (ps_if (pt_cmpR op_eq (pv 1) pe_int (nomark _)) (pss_one (ps_set (i := 2) sc_life.nd rfl (.inl rfl) (pe_op op_mul (pv 3) (pe_op op_add pe_int (pe_call GD hr (by rfl) gD FD.kp bD .nil pass0 (pa_cons (pv 0) (pa_cons (pe_op op_fdiv pe_int (pv 3)) pa_nil))))))) pss_nil) (pss_mid (ps_set (i := 4) sc_life.nd rfl (.inr rfl) (pe_lc (own := [("_law_k", 9)]) (g := gName 9) (tt := tYes) rfl sc_life.nd (pi_range1 (by rfl) mr (pa_cons (pv 2) pa_nil)) (blkOk_by (own := [("_law_k", 9)]) (N := N_life) (sc := defScope s_life) (by decide +kernel))
          (fun _ _ _ _ _ => pg_name (i := 9) sc_life.nd rfl (.inl rfl)) (fun _ _ _ _ _ => pts_nil) (fun _ _ _ _ _ => (pe_call GD hr (by rfl) gD FD.kp bD .nil pass0 (pa_cons (pv 0) (pa_cons pe_int pa_nil)))))) (pss_mid (ps_asg (pe_ifExp (pt_cmpR op_in_seq (pv 1) (pe_tup (pa_cons pe_int (pa_cons pe_int pa_nil))) (by rfl))
          (pe_ix ix_list (pe_lst (pa_cons (pe_tup (pa_cons pe_int (pa_cons pe_int pa_nil))) (pa_cons (pe_tup (pa_cons pe_int (pa_cons pe_int pa_nil))) (pa_cons (pe_tup (pa_cons pe_int (pa_cons pe_int pa_nil))) (pa_cons (pe_tup (pa_cons pe_int (pa_cons pe_int pa_nil))) pa_nil))))) (pe_call GD hr (by rfl) gD FD.kp bD .nil pass0 (pa_cons (pv 0) (pa_cons pe_int pa_nil))) (fun _ _ => rfl))
          (pe_tup (pa_cons pe_int (pa_cons pe_int pa_nil)))) (pg_tup rfl (pgs_cons (pg_name (i := 5) sc_life.nd rfl (.inr rfl)) (pgs_cons (pg_name (i := 6) sc_life.nd rfl (.inr rfl)) pgs_nil)))) (pss_mid (ps_if (pt_cmpR op_eq (pv 1) pe_int (nomark _)) (pss_one (ps_set (i := 4) sc_life.nd rfl (.inr rfl) (pe_lc (own := [("_law_k", 9)]) (g := gName 9) (tt := tYes) (te := tOp (rI CMul fun i j => .int (i * j)) (tOp (rIxL K) (tVar 4) (tVar 9)) (tCB (fun xs H Q => (∃ i, xs = [.int i] ∧ Q (.int i) H) ∨ ∃ k, xs = [.bl k] ∧ Q (.int (if k then 1 else 0)) H) (tCons (tOp rEq (tOp (rI (fun _ j => j ≠ 0) fun i j => .int (i.fmod j)) (tOp (rI0 fun i j => .int (i + j)) (tVar 9) (tC (.int 1))) (tVar 3)) (tC (.int 0))) tNil))) rfl sc_life.nd (pi_range1 (by rfl) mr (pa_cons (pv 2) pa_nil)) (blkOk_by (own := [("_law_k", 9)]) (N := N_life) (sc := defScope s_life) (by decide +kernel))
          (fun _ _ _ _ _ => pg_name (i := 9) sc_life.nd rfl (.inl rfl)) (fun _ _ _ _ _ => pts_nil)
          (fun _ _ _ _ _ => (pe_op op_mul (pe_ix ix_list (pv 4) (pv 9) (fun _ _ => rfl)) (pe_callTy call_int1 (by rfl) mi (by decide +kernel) (pa_cons (pe_cmpR op_eq (pe_op op_modN (pe_op op_add (pv 9) pe_int) (pv 3)) pe_int (nomark _)) pa_nil))))))) pss_nil) (pss_mid (ps_asg (pe_op op_add (pe_ix ix_list (pv 4) (pe_un un_neg pe_int) (fun _ _ => rfl)) pe_int) (pg_sub (pv 4) (pe_un un_neg pe_int) set_list)) (pss_mid (ps_set (i := 7) sc_life.nd rfl (.inl rfl) (pe_ifExp (pt_cmpR op_in_seq (pv 1) (pe_tup (pa_cons pe_int (pa_cons pe_int pa_nil))) (by rfl)) (pe_op op_add pe_int (pe_call GD hr (by rfl) gD FD.kp bD .nil pass0 (pa_cons (pv 0) (pa_cons pe_int pa_nil)))) pe_int)) (pss_cons (ps_set (i := 8) sc_life.nd rfl (.inr rfl) (pe_op op_add (pe_op op_mul (pe_op op_sub (pv 6) (pv 5)) (pe_op op_add (pe_callB (cr_sum rfl) (by rfl) ms (by decide +kernel) (pa_cons (pv 4) pa_nil)) (pv 7))) (pe_op op_mul (pv 5) (pe_ix ix_list (pv 4) (pe_un un_neg pe_int) (fun _ _ => rfl))))) (pss_one (ps_ret (pe_tup (pa_cons (pe_callTy call_tuple_of (by rfl) mt (by decide +kernel) (pa_cons (pe_lc (own := [("_law_weight", 10)]) (g := gName 10) (tt := tYes) rfl sc_life.nd (pi_list (pv 4)) (blkOk_by (own := [("_law_weight", 10)]) (N := N_life) (sc := defScope s_life) (by decide +kernel))
          (fun _ _ _ _ _ => pg_name (i := 10) sc_life.nd rfl (.inl rfl)) (fun _ _ _ _ _ => pts_nil) (fun _ _ _ _ _ => (pe_call GL hr1 (by rfl) gL FL.kp bL .nil pass0 (pa_cons (pe_op op_mul (pe_op op_sub (pv 6) (pv 5)) (pv 10)) (pa_cons (pv 8) pa_nil))))) pa_nil))
          (pa_cons (pe_tup (pa_cons (pv 5) (pa_cons (pv 6) pa_nil))) pa_nil)))))))))))))), ?_⟩
    -- many, part
    refine ⟨_, rfl, by show 2 ≤ sizeLine; decide, fun p1 n1 => ?_⟩
    refine ⟨_, rfl, d, c, 2, t, rfl, f0.new n1, by omega, by decide, by decide, fun r1 H1 h10 h11 k1 f1 => ?_⟩
    obtain ⟨v1, e1, c1⟩ := pick2' (a := V.int 3) (b := V.int 6) h10 h11
    obtain ⟨x1, rfl, y1⟩ : ∃ x : Int, v1 = .int x ∧ 0 < x ∧ x ≤ 6 := by
      rcases c1 with z | z
      · exact ⟨3, z, by decide, by decide⟩
      · exact ⟨6, z, by decide, by decide⟩
    refine ⟨p1, _, r1, _, rfl, rfl, SqL.of (keep_at (f0.new n1) k1 upd_same (fun _ z => nomatch z)), e1, ?_⟩
    refine ⟨d, c, x1, t + 1, rfl, f1, by omega, y1.1, by omega, fun r2 H2 h20 h21 k2 f2 => ?_⟩
    refine ⟨1, r2, rfl, rfl, ?_⟩
    refine ⟨_, rfl, d, c, 2, t + 1 + 1, rfl, f2, by omega, by decide, by decide, fun r3 H3 h30 h31 k3 f3 => ?_⟩
    refine ⟨2, r3, rfl, rfl, ?_⟩
    have K3 := (keep_new n1 k1).trans (k2.trans k3)
    -- way 5
    refine ⟨fun σ H4 => ∃ many t4 : Int, σ = [some (.ref d), some (.int way), some (.int many), some (.int (2 + r3)), none, none, none, none, none, none, none] ∧ Keep d H H4 ∧ Feed H4 d c t4 ∧ t4 ≤ t + 4 ∧ 1 ≤ many ∧ many ≤ 6, ?_, ?_⟩
    · refine ⟨_, rfl, rfl, _, rfl, ite2 (fun c5 => ?_) (fun c5 => ?_)⟩
      · refine ⟨_, rfl, _, rfl, _, rfl, 6, 2 + r3, rfl, rfl, ⟨by omega, by omega⟩, ?_⟩
        have m6 : 1 ≤ 6 / (2 + r3) ∧ (2 + r3) * (6 / (2 + r3)) ≤ 6 := by
          rcases (by omega : r3 = 0 ∨ r3 = 1) with rfl | rfl <;> decide
        refine ⟨d, c, _, t + 1 + 1 + 1, rfl, f3, by omega, by omega, ?_, fun r4 H4 h40 h41 k4 f4 => ?_⟩
        · rcases (by omega : r3 = 0 ∨ r3 = 1) with rfl | rfl <;> decide
        · refine ⟨1, r4, rfl, rfl, 2 + r3, 1 + r4, rfl, rfl, .inl ⟨by omega, by omega⟩, _, _, rfl, K3.trans k4, f4, by omega, ?_, ?_⟩
          · rcases (by omega : r3 = 0 ∨ r3 = 1) with rfl | rfl <;> omega
          · rcases (by omega : r3 = 0 ∨ r3 = 1) with rfl | rfl
            · have : r4 < 3 := h41
              omega
            · have : r4 < 2 := h41
              omega
      · exact ⟨_, _, rfl, K3, f3, by omega, by omega, by omega⟩
    rintro σ H4 ⟨many, t4, rfl, K4, f4, ht4, hm1, hm6⟩
    -- weights
    refine ⟨fun σ H5 => ∃ (W : Addr) (ws : List Int) (t5 : Int), σ = [some (.ref d), some (.int way), some (.int many), some (.int (2 + r3)), some (.ref W), none, none, none, none, none, none] ∧ Keep d H H5 ∧ Feed H5 d c t5 ∧ t5 ≤ t4 + many ∧ H W = none ∧ W ≠ c ∧
      H5 W = some (.lst (ws.map V.int)) ∧ (ws.length : Int) = many ∧ ∀ x ∈ ws, 0 ≤ x ∧ x ≤ 4, ?_, ?_⟩
    · refine ⟨_, rfl, many, rfl, by omega, by omega, fun W nW => ?_⟩
      have nW0 := K4.none f4 nW
      have nWc := f4.nc nW
      have nWd := f4.nd nW
      refine lc_range (lo := 0) (n := many.toNat) (fun i H5 => ∃ (ws : List Int) (t5 : Int), Keep d H H5 ∧ Feed H5 d c t5 ∧ t5 = t4 + i ∧ H5 W = some (.lst (ws.map V.int)) ∧ ws.length = i ∧ ∀ x ∈ ws, 0 ≤ x ∧ x ≤ 4) ?_ ?_ ?_
      · exact ⟨[], t4, K4.wr nW0, f4.wr nWd nWc, by omega, upd_same, rfl, fun x hx => by simp at hx⟩
      · rintro i H5 hi ⟨ws, t5, K5, f5, et, hW, hl, hx⟩
        refine ⟨rfl, tYes_go ?_⟩
        refine iteT ?_
        refine ⟨_, rfl, d, c, 5, t5, rfl, f5, by omega, by decide, by decide, fun r H6 h0 h1 k6 f6 => ?_⟩
        refine ⟨ws.map V.int, keep_at f5 k6 hW (fun _ z => nomatch z), by rw [List.length_map, hl]; exact small1000 (by omega), ?_⟩
        refine ⟨ws ++ [r], t5 + 1, (K5.trans k6).wr nW0, f6.wr nWd nWc, by omega, ?_, by simp [hl], fun x hx2 => ?_⟩
        · rw [upd_same, List.map_append]
          rfl
        · rcases List.mem_append.mp hx2 with z | z
          · exact hx x z
          · have := List.mem_singleton.mp z
            omega
      · rintro H5 ⟨ws, t5, K5, f5, et, hW, hl, hx⟩
        exact ⟨W, ws, t5, rfl, K5, f5, by omega, nW0, nWc, hW, by omega, hx⟩
    rintro σ H5 ⟨W, ws, t5, rfl, K5, f5, ht5, nW0, nWc, hW, hl, hx⟩
    -- top, bottom
    refine ⟨fun σ H6 => ∃ (step : RT) (t6 : Int), σ = [some (.ref d), some (.int way), some (.int many), some (.int (2 + r3)), some (.ref W), some (.int step.1), some (.int step.2), none, none, none, none] ∧ Keep d H H6 ∧ Feed H6 d c t6 ∧ t6 ≤ t5 + 1 ∧ H6 W = some (.lst (ws.map V.int)) ∧
      (step = (0, 1) ∨ step = (1, 2) ∨ step = (1, 3) ∨ step = (2, 3) ∨ step = (3, 4)) ∧ (way ≠ 3 → way ≠ 4 → step = (0, 1)), ?_, ?_⟩
    · refine ⟨_, rfl, by show 2 ≤ sizeLine; decide, fun p2 n2 => ?_⟩
      refine ⟨p2, _, rfl, .inr (SqT.of upd_same), rfl, rfl, _, rfl, ?_⟩
      rw [in_two]
      have a2 := same_new (o := HO.tup [.int 3, .int 4]) n2
      refine ite2 (fun c6 => ?_) (fun c6 => ?_)
      · refine ⟨by show 2 ≤ sizeLine; decide, fun q1 m1 => ?_⟩
        have a3 := same_new (o := HO.tup [.int 1, .int 2]) m1
        refine ⟨by show 2 ≤ sizeLine; decide, fun q2 m2 => ?_⟩
        have a4 := same_new (o := HO.tup [.int 1, .int 3]) m2
        refine ⟨by show 2 ≤ sizeLine; decide, fun q3 m3 => ?_⟩
        have a5 := same_new (o := HO.tup [.int 2, .int 3]) m3
        refine ⟨by show 2 ≤ sizeLine; decide, fun q4 m4 => ?_⟩
        have a6 := same_new (o := HO.tup [.int 3, .int 4]) m4
        refine ⟨by show 4 ≤ sizeLine; decide, fun q5 m5 => ?_⟩
        have a7 := same_new (o := HO.lst [.ref q1, .ref q2, .ref q3, .ref q4]) m5
        have S := a2.trans (a3.trans (a4.trans (a5.trans (a6.trans a7))))
        have g1 := a7 _ _ (a6 _ _ (a5 _ _ (a4 _ _ (upd_same (H := upd H5 p2 (HO.tup [.int 3, .int 4])) (a := q1) (o := HO.tup [.int 1, .int 2])))))
        have g2 := a7 _ _ (a6 _ _ (a5 _ _ (upd_same (H := upd (upd H5 p2 (HO.tup [.int 3, .int 4])) q1 (HO.tup [.int 1, .int 2])) (a := q2) (o := HO.tup [.int 1, .int 3]))))
        have g3 := a7 _ _ (a6 _ _ (upd_same (H := upd (upd (upd H5 p2 (HO.tup [.int 3, .int 4])) q1 (HO.tup [.int 1, .int 2])) q2 (HO.tup [.int 1, .int 3])) (a := q3) (o := HO.tup [.int 2, .int 3])))
        have g4 := a7 _ _ (upd_same (H := upd (upd (upd (upd H5 p2 (HO.tup [.int 3, .int 4])) q1 (HO.tup [.int 1, .int 2])) q2 (HO.tup [.int 1, .int 3])) q3 (HO.tup [.int 2, .int 3])) (a := q4) (o := HO.tup [.int 3, .int 4]))
        have fS := f5.same S
        refine ⟨_, rfl, d, c, 4, t5, rfl, fS, by omega, by decide, by decide, fun r H6 h0 h1 k6 f6 => ?_⟩
        have tk : Tk K _ H6 := Tk.keep fS k6
        obtain ⟨v, ev, cv⟩ := pick4 (a := V.ref q1) (b := V.ref q2) (c := V.ref q3) (d := V.ref q4) h0 h1
        obtain ⟨qq, step, rfl, hs, hq⟩ : ∃ (qq : Addr) (step : RT), v = .ref qq ∧ (step = (0, 1) ∨ step = (1, 2) ∨ step = (1, 3) ∨ step = (2, 3) ∨ step = (3, 4)) ∧ SqT K H6 qq [.int step.1, .int step.2] := by
          rcases cv with z | z | z | z
          · exact ⟨q1, (1, 2), z, by decide, tk _ _ (SqT.of g1)⟩
          · exact ⟨q2, (1, 3), z, by decide, tk _ _ (SqT.of g2)⟩
          · exact ⟨q3, (2, 3), z, by decide, tk _ _ (SqT.of g3)⟩
          · exact ⟨q4, (3, 4), z, by decide, tk _ _ (SqT.of g4)⟩
        refine ⟨q5, _, r, _, rfl, rfl, SqL.of (keep_at fS k6 upd_same (fun _ z => nomatch z)), ev, ?_⟩
        refine ⟨qq, _, rfl, hq, rfl, _, _, rfl, _, _, rfl, rfl, step, t5 + 1, rfl, K5.trans ((Keep.of_same S).trans k6), f6, by omega, keep_at fS k6 (S _ _ hW) (fun _ z => nomatch z), hs, fun z1 z2 => ?_⟩
        simp [z1, z2] at c6
      · refine ⟨by show 2 ≤ sizeLine; decide, fun q1 m1 => ?_⟩
        have a3 := same_new (o := HO.tup [.int 0, .int 1]) m1
        exact ⟨q1, _, rfl, SqT.of upd_same, rfl, _, _, rfl, _, _, rfl, rfl, (0, 1), t5, rfl, K5.trans ((Keep.of_same a2).trans (Keep.of_same a3)), (f5.same a2).same a3, by omega, a3 _ _ (a2 _ _ hW), .inl rfl, fun _ _ => rfl⟩
    rintro σ H6 ⟨step, t6, rfl, K6, f6, ht6, hW6, hst, hs34⟩
    -- way 5 again
    refine ⟨fun σ H7 => ∃ (W : Addr) (ws : List Int) (y9 : Option V), σ = [some (.ref d), some (.int way), some (.int many), some (.int (2 + r3)), some (.ref W), some (.int step.1), some (.int step.2), none, none, y9, none] ∧ Keep d H H7 ∧ Feed H7 d c t6 ∧ H W = none ∧ W ≠ c ∧
      H7 W = some (.lst (ws.map V.int)) ∧ (ws.length : Int) = many ∧ ∀ x ∈ ws, 0 ≤ x ∧ x ≤ 4, ?_, ?_⟩
    · refine ⟨_, rfl, rfl, _, rfl, ite2 (fun c5 => ?_) (fun c5 => ?_)⟩
      · refine ⟨_, rfl, many, rfl, by omega, by omega, fun W2 n2 => ?_⟩
        have m0 := K6.none f6 n2
        have mc := f6.nc n2
        have md := f6.nd n2
        have nWW : W ≠ W2 := ne_of_none hW6 n2
        refine lc_range (lo := 0) (n := many.toNat) (fun i H7 => ∃ us : List Int, Keep d H H7 ∧ Feed H7 d c t6 ∧ H7 W = some (.lst (ws.map V.int)) ∧ H7 W2 = some (.lst (us.map V.int)) ∧ us.length = i ∧ ∀ x ∈ us, 0 ≤ x ∧ x ≤ 4) ?_ ?_ ?_
        · refine ⟨[], K6.wr m0, f6.wr md mc, ?_, upd_same, rfl, fun x hx => by simp at hx⟩
          rw [upd_ne nWW]
          exact hW6
        · rintro i H7 hi ⟨us, K7, f7, hW7, hU7, hul, hux⟩
          have hi2 : i < ws.length := by omega
          have hg : (ws.map V.int)[i]? = some (.int ws[i]) := by
            rw [List.getElem?_map, List.getElem?_eq_getElem hi2]
            rfl
          have hwi := hx ws[i] (List.getElem_mem hi2)
          refine ⟨rfl, tYes_go ?_⟩
          refine iteT ?_
          refine ⟨_, rfl, _, rfl, W, _, _, _, rfl, rfl, SqL.of hW7, at_of (by omega) hg, ?_⟩
          refine ⟨_, rfl, _, 1, rfl, rfl, _, rfl, _, 2 + r3, rfl, rfl, by show (2 + r3 : Int) ≠ 0; omega, rfl, .inr ⟨_, rfl, ?_⟩⟩
          have fin : ∀ b : Bool, 0 ≤ ws[i] * (if b = true then 1 else 0) ∧ ws[i] * (if b = true then 1 else 0) ≤ 4 := fun b => by
            cases b
            · rw [if_neg (by decide), Int.mul_zero]
              exact ⟨by decide, by decide⟩
            · rw [if_pos rfl, Int.mul_one]
              exact hwi
          refine ⟨_, _, rfl, rfl, .inl ⟨by omega, by omega⟩, us.map V.int, hU7, by rw [List.length_map, hul]; exact small1000 (by omega), us ++ [ws[i] * (if decide (V.int ((0 + (i : Int) + 1).fmod (2 + r3)) = V.int 0) = true then 1 else 0)], K7.wr m0, f7.wr md mc, ?_, ?_, by simp [hul], fun x hx2 => ?_⟩
          · rw [upd_ne nWW]
            exact hW7
          · rw [upd_same, List.map_append]
            rfl
          · rcases List.mem_append.mp hx2 with z | z
            · exact hux x z
            · have := List.mem_singleton.mp z
              subst this
              exact fin _
        · rintro H7 ⟨us, K7, f7, hW7, hU7, hul, hux⟩
          exact ⟨W2, us, _, rfl, K7, f7, m0, mc, hU7, by omega, hux⟩
      · exact ⟨W, ws, _, rfl, K6, f6, nW0, nWc, hW6, hl, hx⟩
    clear hx hl hW6 hW nWc nW0
    rintro σ H7 ⟨W, ws, y9, rfl, K7, f7, nW0, nWc, hW, hl, hx⟩
    have hne : ws ≠ [] := fun z => by
      rw [z] at hl
      simp at hl
      omega
    have nWd : W ≠ d := f7.ne hW (fun _ z => nomatch z)
    -- the last one
    refine ⟨fun σ H8 => ∃ us : List Int, σ = [some (.ref d), some (.int way), some (.int many), some (.int (2 + r3)), some (.ref W), some (.int step.1), some (.int step.2), none, none, y9, none] ∧ Keep d H H8 ∧ Feed H8 d c t6 ∧ H8 W = some (.lst (us.map V.int)) ∧
      us ≠ [] ∧ us.length ≤ 6 ∧ (∀ x ∈ us, 0 ≤ x ∧ x ≤ 5) ∧ 0 < lastW us, ?_, ?_⟩
    · have hlast : 0 ≤ lastW ws ∧ lastW ws ≤ 4 := hx _ (by
        have := last_get hne
        exact List.mem_of_getElem? this)
      refine ⟨_, rfl, 1, rfl, W, _, -1, _, rfl, rfl, SqL.of hW, atI_lastW hne, lastW ws, 1, rfl, rfl, ?_⟩
      refine ⟨_, rfl, 1, rfl, W, _, -1, ws.length - 1, rfl, rfl, hW, ?_, ?_⟩
      · rw [List.length_map]
        exact ixN_last (List.length_pos_iff.mpr hne)
      · refine ⟨ws.set (ws.length - 1) (lastW ws + 1), rfl, K7.wr nW0, f7.wr nWd nWc, ?_, map_last hne _, ?_, fun x hx2 => ?_, ?_⟩
        · rw [upd_same, List.map_set]
        · rw [List.length_set]
          omega
        · rcases List.mem_or_eq_of_mem_set hx2 with z | z
          · have := hx x z
            omega
          · omega
        · rw [last_set hne]
          omega
    clear hx hl hW hne
    rintro σ H8 ⟨us, rfl, K8, f8, hW, hne, hl, hx, hlast⟩
    -- extra
    refine ⟨fun σ H9 => ∃ extra t9 : Int, σ = [some (.ref d), some (.int way), some (.int many), some (.int (2 + r3)), some (.ref W), some (.int step.1), some (.int step.2), some (.int extra), none, y9, none] ∧ Keep d H H9 ∧ Feed H9 d c t9 ∧ t9 ≤ t6 + 1 ∧ H9 W = some (.lst (us.map V.int)) ∧
      0 ≤ extra ∧ extra ≤ 8 ∧ (way ≠ 2 → way ≠ 4 → extra = 0) ∧ (way = 2 ∨ way = 4 → 0 < extra), ?_, ?_⟩
    · refine ⟨_, rfl, by show 2 ≤ sizeLine; decide, fun p2 n2 => ?_⟩
      refine ⟨p2, _, rfl, .inr (SqT.of upd_same), rfl, rfl, _, rfl, ?_⟩
      rw [in_two]
      have a2 := same_new (o := HO.tup [.int 2, .int 4]) n2
      refine ite2 (fun c6 => ?_) (fun c6 => ?_)
      · refine ⟨_, rfl, d, c, 8, t6, rfl, f8.same a2, by omega, by decide, by decide, fun r H9 h0 h1 k9 f9 => ?_⟩
        refine ⟨1, r, rfl, rfl, 1 + r, t6 + 1, rfl, K8.trans ((Keep.of_same a2).trans k9), f9, by omega, keep_at (f8.same a2) k9 (a2 _ _ hW) (fun _ z => nomatch z), by omega, by omega, fun z1 z2 => ?_, fun _ => by omega⟩
        simp [z1, z2] at c6
      · refine ⟨0, t6, rfl, K8.trans (Keep.of_same a2), f8.same a2, by omega, a2 _ _ hW, by decide, by decide, fun _ _ => rfl, fun z => ?_⟩
        rcases z with z | z <;> simp [z] at c6
    rintro σ H9 ⟨extra, t9, rfl, K9, f9, ht9, hW9, he0, he8, he24, hep⟩
    have M : Made us extra step := ⟨hne, hl, hx, hlast, ⟨he0, he8⟩, hst⟩
    obtain ⟨s1, s2, s3, s4⟩ := M.step_ok
    have hsum := sum_bound hx
    have hll := last_le_sum hx
    obtain ⟨w0, w1⟩ := M.whole
    -- whole
    refine ⟨_, rfl, _, rfl, step.2, step.1, rfl, rfl, _, rfl, W, us, rfl, SqL.of hW9, _, rfl, us.sum, extra, rfl, rfl, _, _, rfl, rfl, .inl ⟨by omega, by omega⟩,
      _, rfl, _, rfl, 1, rfl, W, _, -1, _, rfl, rfl, SqL.of hW9, atI_lastW hne, step.1, lastW us, rfl, rfl, .inl ⟨by omega, by omega⟩, _, _, rfl, rfl, ?_⟩
    -- the row
    refine ⟨_, rfl, W, rfl, ⟨_, SqL.of hW9⟩, fun R nR => ?_⟩
    have nRW : W ≠ R := ne_of_none hW9 nR
    have nR0 := K9.none f9 nR
    have nRc := f9.nc nR
    have nRd := f9.nd nR
    refine lc_list (K := K) (a := W) (xs := us.map V.int) (fun i HA => ∃ rs : List Addr, Keep d H HA ∧ Feed HA d c t9 ∧ HA W = some (.lst (us.map V.int)) ∧ HA R = some (.lst (rs.map V.ref)) ∧ RsAt K HA rs ((rowOf us extra step).take i)) ?_ ?_ ?_ ?_
    · refine ⟨[], K9.wr nR0, f9.wr nRd nRc, ?_, upd_same, .nil⟩
      rw [upd_ne nRW]
      exact hW9
    · rintro i HA hi ⟨rs, KA, fA, hWA, hRA, hrs⟩
      exact SqL.of hWA
    · rintro i y HA hi ⟨rs, KA, fA, hWA, hRA, hrs⟩
      obtain ⟨x, hxi, rfl⟩ : ∃ x, us[i]? = some x ∧ y = V.int x := by
        rw [List.getElem?_map] at hi
        match e : us[i]? with
        | none =>
          rw [e] at hi
          cases hi
        | some z =>
          rw [e] at hi
          exact ⟨z, rfl, (Option.some.inj hi).symm⟩
      have hx5 := hx x (List.mem_of_getElem? hxi)
      have hlen : i < us.length := (List.getElem?_eq_some_iff.mp hxi).1
      refine ⟨rfl, tYes_go ?_⟩
      refine iteT ?_
      refine ⟨_, rfl, _, rfl, step.2, step.1, rfl, rfl, _, rfl, _, x, rfl, rfl, .inl ⟨by omega, by omega⟩, _, rfl, ?_⟩
      refine ⟨_, _, rfl, w0, ?_, fun p np => ?_⟩
      · have : Sm 8 (wholeOf us extra step) := by
          unfold Sm
          omega
        exact this.mono (by decide)
      have nRp : R ≠ p := ne_of_none hRA np
      have hr2 := same_new (o := HO.tup [.int (ratT ((step.2 - step.1) * x) (wholeOf us extra step)), .int (ratB ((step.2 - step.1) * x) (wholeOf us extra step))]) np
      refine ⟨rs.map V.ref, hr2 _ _ hRA, ?_, rs ++ [p], (KA.trans (Keep.of_same hr2)).wr nR0, (fA.same hr2).wr nRd nRc, ?_, ?_, ?_⟩
      · have := hrs.length
        rw [List.length_map, this, List.length_take]
        exact small1000 (by omega)
      · rw [upd_ne nRW]
        exact hr2 _ _ hWA
      · rw [upd_same, List.map_append]
        rfl
      · have tk1 : Tk K HA (upd HA p _) := Tk.same hr2
        have tk2 : Tk K (upd HA p _) (upd (upd HA p (HO.tup [.int (ratT ((step.2 - step.1) * x) (wholeOf us extra step)), .int (ratB ((step.2 - step.1) * x) (wholeOf us extra step))])) R (.lst (rs.map V.ref ++ [V.ref p]))) := tk_lst (hr2 _ _ hRA)
        have e : (rowOf us extra step).take (i + 1) = (rowOf us extra step).take i ++ [low2 ((step.2 - step.1) * x) (wholeOf us extra step)] := by
          rw [List.take_add_one]
          congr 1
          unfold rowOf
          rw [List.getElem?_map, hxi]
          rfl
        rw [e]
        exact draws_row ((hrs.tk tk1).tk tk2) (tk2 _ _ (SqT.of upd_same))
    · rintro HA ⟨rs, KA, fA, hWA, hRA, hrs⟩
      rw [List.length_map] at hrs
      have e : (rowOf us extra step).take us.length = rowOf us extra step := by
        rw [List.take_of_length_le]
        unfold rowOf
        rw [List.length_map]
        exact Nat.le_refl _
      rw [e] at hrs
      refine ⟨R, _, rfl, .inl ⟨SqL.of hRA, fun T nT => ?_⟩⟩
      have b1 := same_new (o := HO.tup (rs.map V.ref)) nT
      refine ⟨_, rfl, _, rfl, by show 2 ≤ sizeLine; decide, fun S nS => ?_⟩
      have b2 := same_new (o := HO.tup [.int step.1, .int step.2]) nS
      refine ⟨by show 2 ≤ sizeLine; decide, fun Z nZ => ?_⟩
      have b3 := same_new (o := HO.tup [.ref T, .ref S]) nZ
      have B := b1.trans (b2.trans b3)
      refine q Z us extra step t9 _ (KA.trans (Keep.of_same B)) (fA.same B) (by omega) M he24 hep hs34 ⟨T, S, SqT.of upd_same, ⟨rs, SqT.of (b3 _ _ (b2 _ _ upd_same)), hrs.tk (Tk.same B)⟩, SqT.of (b3 _ _ upd_same)⟩
end

end Fp

set_option Elab.async false
set_option linter.all false
set_option maxRecDepth 100000
set_option maxHeartbeats 4000000
set_option exponentiation.threshold 10000
namespace Fp
open PySem PySem.Spec PyProof.Rows L2
theorem snoc_cases {α : Type} (xs : List α) : xs = [] ∨ ∃ ys y, xs = ys ++ [y] := by
  rcases List.eq_nil_or_concat xs with h | ⟨ys, y, h⟩
  · exact .inl h
  · exact .inr ⟨ys, y, by rw [h, List.concat_eq_append]⟩
/-! ### rows joined, cut, compared -/
theorem eqv_D2 (x y : RT) : PyData.eqv (.tuple [.int x.1, .int x.2]) (.tuple [.int y.1, .int y.2]) = decide (x = y) := by
  show ((x.1 == y.1) && ((x.2 == y.2) && true)) = _
  rw [Bool.eq_iff_iff]
  simp only [Bool.and_true, Bool.and_eq_true, beq_iff_eq, decide_eq_true_eq]
  exact ⟨fun z => Prod.ext z.1 z.2, fun z => ⟨congrArg Prod.fst z, congrArg Prod.snd z⟩⟩
section
variable {K : PySem.W.Frag} {H : Hp}
theorem RAt.dp {p : Addr} {x : RT} (h : RAt K H p x) : Dp K H (.ref p) (.tuple [.int x.1, .int x.2]) := .tup h (.cons (.int _) (.cons (.int _) .nil))
theorem ne_rat {p q : Addr} {x y : RT} {Q : VK} (h1 : RAt K H p x) (h2 : RAt K H q y) (h : Q (.bl (!decide (x = y))) H) : rNeD K (.ref p) (.ref q) H Q := by
  refine ⟨_, _, h1.dp, h2.dp, rfl, rfl, ?_⟩
  rw [eqv_D2]
  exact h
theorem eq_rat {p q : Addr} {x y : RT} {Q : VK} (h1 : RAt K H p x) (h2 : RAt K H q y) (h : Q (.bl (decide (x = y))) H) : rEqD K (.ref p) (.ref q) H Q := by
  refine ⟨_, _, h1.dp, h2.dp, rfl, rfl, ?_⟩
  rw [eqv_D2]
  exact h
theorem cat_row {p q : Addr} {xs ys : List RT} {Q : VK} (h1 : RowAt K H p xs) (h2 : RowAt K H q ys) (hl : xs.length + ys.length ≤ 1000) (h : ∀ r H', Same H H' → RowAt K H' r (xs ++ ys) → Q (.ref r) H') : rCatA K (.ref p) (.ref q) H Q := by
  obtain ⟨as, a1, a2⟩ := h1
  obtain ⟨bs, b1, b2⟩ := h2
  have la := a2.length
  have lb := b2.length
  refine ⟨p, q, _, _, rfl, rfl, a1, b1, ?_, fun z => ?_, fun _ z => ?_, fun _ _ r nr => ?_⟩
  · rw [List.length_map, List.length_map, sizeLine_eq]
    omega
  · have e : as = [] := List.map_eq_nil_iff.mp z
    subst e
    have e2 : xs = [] := List.length_eq_zero_iff.mp la.symm
    subst e2
    exact h q H (Same.refl H) ⟨bs, b1, b2⟩
  · have e : bs = [] := List.map_eq_nil_iff.mp z
    subst e
    have e2 : ys = [] := List.length_eq_zero_iff.mp lb.symm
    subst e2
    refine h p H (Same.refl H) ?_
    rw [List.append_nil]
    exact ⟨as, a1, a2⟩
  · have s := same_new (o := HO.tup (as.map V.ref ++ bs.map V.ref)) nr
    refine h r _ s ⟨as ++ bs, ?_, (a2.append b2).tk (Tk.same s)⟩
    rw [List.map_append]
    exact SqT.of upd_same
theorem row_at {p : Addr} {xs : List RT} {i : Nat} {x : RT} (h : RowAt K H p xs) (e : xs[i]? = some x) : ∃ (rs : List Addr) (r : Addr), SqT K H p (rs.map V.ref) ∧ rs.length = xs.length ∧ (rs.map V.ref)[i]? = some (.ref r) ∧ RAt K H r x := by
  obtain ⟨rs, h1, h2⟩ := h
  obtain ⟨r, e1, e2⟩ := h2.get e
  refine ⟨rs, r, h1, h2.length, ?_, e2⟩
  rw [List.getElem?_map, e1]
  rfl
/-- row[i] from the front -/
theorem ix_row {p : Addr} {xs : List RT} {i : Int} {j : Nat} {x : RT} {Q : VK} (h : RowAt K H p xs) (ei : i = (j : Int)) (e : xs[j]? = some x) (hq : ∀ r, RAt K H r x → Q (.ref r) H) : rIxT K (.ref p) (.int i) H Q := by
  obtain ⟨rs, r, h1, _, h3, h4⟩ := row_at h e
  exact ⟨p, _, i, _, rfl, rfl, h1, at_of ei h3, hq r h4⟩
/-- row[-k] from the end -/
theorem ix_back {p : Addr} {xs : List RT} {k j : Nat} {x : RT} {Q : VK} (h : RowAt K H p xs) (hk : 0 < k) (ej : j + k = xs.length) (e : xs[j]? = some x) (hq : ∀ r, RAt K H r x → Q (.ref r) H) : rIxT K (.ref p) (.int (-(k : Int))) H Q := by
  obtain ⟨rs, r, h1, h2, h3, h4⟩ := row_at h e
  refine ⟨p, _, _, _, rfl, rfl, h1, ?_, hq r h4⟩
  unfold atI
  have : ixN (rs.map V.ref).length (-(k : Int)) = some j := by
    unfold ixN
    rw [List.length_map, if_neg (by omega), if_pos (by omega)]
    congr 1
    omega
  rw [this]
  exact h3
theorem cutV_take (vs : List V) (n : Nat) : cutV vs none (some (n : Int)) = vs.take n := by
  unfold cutV
  rw [HT.sIx_none, HT.sIx_nat]
  show (vs.drop 0).take (min n vs.length - 0) = _
  rw [List.drop_zero, Nat.sub_zero]
  rcases Nat.le_total n vs.length with z | z
  · rw [Nat.min_eq_left z]
  · rw [Nat.min_eq_right z, List.take_length, List.take_of_length_le z]
/-- row[:n] -/
theorem take_row {p : Addr} {xs : List RT} {n : Nat} {Q : VK} (h : RowAt K H p xs) (hq : ∀ r H', Same H H' → RowAt K H' r (xs.take n) → Q (.ref r) H') : rSlA K (.ref p) none (some (n : Int)) H Q := by
  obtain ⟨rs, h1, h2⟩ := h
  have hl := h2.length
  refine ⟨p, _, rfl, h1, fun z => ?_, fun _ r nr => ?_⟩
  · have z2 := z.2
    rw [HT.sIx_nat, List.length_map] at z2
    refine hq p H (Same.refl H) ?_
    rw [List.take_of_length_le (by omega)]
    exact ⟨rs, h1, h2⟩
  · rw [cutV_take]
    have s := same_new (o := HO.tup ((rs.map V.ref).take n)) nr
    refine hq r _ s ⟨rs.take n, ?_, (h2.take n).tk (Tk.same s)⟩
    rw [List.map_take]
    exact SqT.of upd_same
end

end Fp

set_option Elab.async false
set_option linter.all false
set_option maxRecDepth 100000
set_option maxHeartbeats 4000000
set_option exponentiation.threshold 10000
namespace Fp
open PySem PySem.Spec PyProof.Rows L2
abbrev s_any : Stmt := topS 27
theorem sc_any : FnScope ["_law_feed_here", "_law_way", "_law_row", "_law_step", "_law_turn"] ["_law_feed_here"] (defScope s_any) := ⟨rfl, rfl, rfl, by decide +kernel, rfl, by decide +kernel, by decide +kernel⟩
/-- a life as it is first drawn -/
def BaseLife (row : List RT) (step : RT) : Prop := (∃ ws extra, Made ws extra step ∧ row = rowOf ws extra step) ∨ (row = [] ∧ step = (0, 1))
/-- .. and made longer by one -/
def AnyLife (row : List RT) (step : RT) : Prop := BaseLife row step ∨
  (∃ row0 l, BaseLife row0 step ∧ row0.length ≤ 5 ∧ step ≠ (0, 1) ∧ row0[row0.length - 1]? = some l ∧ row = row0 ++ [rT l step]) ∨
  (∃ row0, BaseLife row0 (0, 1) ∧ row0.length ≤ 5 ∧ row = row0 ++ [(0, 1)] ∧ (step = (0, 1) ∨ step = (1, 3)))
theorem rowOf_len {ws : List Int} {extra : Int} {step : RT} : (rowOf ws extra step).length = ws.length := by
  unfold rowOf
  rw [List.length_map]
theorem BaseLife.len {row : List RT} {step : RT} (h : BaseLife row step) : row.length ≤ 6 := by
  rcases h with ⟨ws, extra, m, rfl⟩ | ⟨rfl, _⟩
  · rw [rowOf_len]
    exact m.len
  · decide
theorem BaseLife.ne {row : List RT} {step : RT} (h : BaseLife row step) (hs : step ≠ (0, 1)) : row ≠ [] := by
  rcases h with ⟨ws, extra, m, rfl⟩ | ⟨rfl, z⟩
  · intro z
    have := congrArg List.length z
    rw [rowOf_len, List.length_nil] at this
    exact m.ne (List.length_eq_zero_iff.mp this)
  · exact absurd z hs
/-- small ratios -/
def SmR (n : Nat) (x : RT) : Prop := Red x ∧ Sm n x.1 ∧ Sm n x.2
theorem low2_sm {t b : Int} {n : Nat} (hb : 0 < b) (h1 : Sm n t) (h2 : Sm n b) : SmR n (low2 t b) := ⟨low2_red (Int.ne_of_gt hb), ratT_sm hb h1, ratB_sm hb h2⟩
theorem SmR.mono {n m : Nat} {x : RT} (h : SmR n x) (l : n ≤ m) : SmR m x := ⟨h.1, h.2.1.mono l, h.2.2.mono l⟩
theorem rT_sm {x y : RT} {n m : Nat} (hx : SmR n x) (hy : SmR m y) : SmR (n + m) (rT x y) :=
  low2_sm (Int.mul_pos hx.1.1 hy.1.1) (hx.2.1.mul hy.2.1) (hx.2.2.mul hy.2.2)
theorem Made.sm {ws : List Int} {extra : Int} {step : RT} (m : Made ws extra step) : ∀ x ∈ rowOf ws extra step, SmR 10 x ∧ 0 ≤ x.1 := by
  intro x hx
  unfold rowOf at hx
  obtain ⟨y, hy, rfl⟩ := List.mem_map.mp hx
  obtain ⟨h1, h2⟩ := m.nn y hy
  obtain ⟨s1, s2, s3, _⟩ := m.step_ok
  obtain ⟨w0, w1⟩ := m.whole
  have hp : 0 ≤ (step.2 - step.1) * y := Int.mul_nonneg (by omega) h1
  have hq : (step.2 - step.1) * y ≤ 20 := by
    have : (step.2 - step.1) * y ≤ 4 * 5 := Int.mul_le_mul (by omega) h2 h1 (by decide)
    omega
  refine ⟨low2_sm w0 ?_ ?_, ?_⟩
  · unfold Sm
    omega
  · unfold Sm
    omega
  · obtain ⟨g1, ⟨z, hz⟩, _⟩ := ratG_pos (t := (step.2 - step.1) * y) w0
    have e : (low2 ((step.2 - step.1) * y) (wholeOf ws extra step)).1 = z := by
      show Int.fdiv _ _ = z
      have := Int.mul_fdiv_cancel_left z (Int.ne_of_gt g1)
      rw [← hz] at this
      exact this
    rw [e]
    rcases (by omega : 0 ≤ z ∨ z < 0) with q | q
    · exact q
    · have := Int.mul_neg_of_pos_of_neg g1 q
      omega
theorem BaseLife.sm {row : List RT} {step : RT} (h : BaseLife row step) : (∀ x ∈ row, SmR 10 x ∧ 0 ≤ x.1) ∧ SmR 4 step ∧ 0 ≤ step.1 ∧ step.1 < step.2 := by
  rcases h with ⟨ws, extra, m, rfl⟩ | ⟨rfl, rfl⟩
  · refine ⟨m.sm, ?_⟩
    rcases m.st with rfl | rfl | rfl | rfl | rfl <;> exact ⟨⟨⟨by decide, by decide⟩, by unfold Sm; decide, by unfold Sm; decide⟩, by decide, by decide⟩
  · exact ⟨fun x hx => by simp at hx, ⟨⟨⟨by decide, by decide⟩, by unfold Sm; decide, by unfold Sm; decide⟩, by decide, by decide⟩⟩
section
variable {P : Program} {w : World} {K : PySem.W.Frag} {mg : Str → Option Value} {base : Heap}
def spAny (K : PySem.W.Frag) : Sp := fun vs H Q _ => ∃ (d c : Addr) (t : Int), vs = [.ref d] ∧ Feed H d c t ∧ t ≤ 800000 ∧
  ∀ p row step t' H', Keep d H H' → Feed H' d c t' → t' ≤ t + 14 → AnyLife row step → LifeAt K H' p row step → Q (.ref p) H'
theorem ok_any {f fD fF fT : Addr} {fd fdD fdF fdT : FuncData} (F : Fun K "_law_any_life" "_law_any_life" s_any f fd) (FD : Fun K "_law_draw" "_law_draw" s_draw fD fdD) (bD : Binds K fdD ["_law_feed_here", "_law_many"] []) (gD : mg "_law_draw" = some (.ref fD))
    (GD : FnOk P w K mg base CX0 1 fD fdD ["_law_feed_here", "_law_many"] spDraw)
    (FF : Fun K "_law_life" "_law_life" s_life fF fdF) (bF : Binds K fdF ["_law_feed_here", "_law_way"] []) (gF : mg "_law_life" = some (.ref fF)) (GF : FnOk P w K mg base CX0 2 fF fdF ["_law_feed_here", "_law_way"] (spLife K))
    (FT : Fun K "_law_times" "_law_times" s_ltimes fT fdT) (bT : Binds K fdT ["_law_one", "_law_other"] []) (gT : mg "_law_times" = some (.ref fT)) (GT : FnOk P w K mg base CX0 2 fT fdT ["_law_one", "_law_other"] (spTwo K (fun a b c d => a * c)))
    (ml : mg "len" = none) : FnOk P w K mg base CX0 3 f fd ["_law_feed_here"] (spAny K) := by
  refine F.ok sc_any (fun vs H Q E h => ?_) (fun cdv A outer s H vs Q E hr2 h => ?_)
  · obtain ⟨_, _, _, rfl, _⟩ := h
    rfl
  · obtain ⟨d, c, t, rfl, f0, ht, q⟩ := h
    have hr := hr2.mono (show 1 ≤ 2 by decide)
    refine ⟨_, (pss_cons (ps_set (i := 1) sc_any.nd rfl (.inl rfl) (pe_call GD hr (by rfl) gD FD.kp bD .nil pass0 (pa_cons (pv 0) (pa_cons pe_int pa_nil)))) (pss_cons (ps_asg (pe_call GF hr2 (by rfl) gF FF.kp bF .nil pass0 (pa_cons (pv 0) (pa_cons (pe_op op_modN (pv 1) pe_int) pa_nil))) (pg_tup rfl (pgs_cons (pg_name (i := 2) sc_any.nd rfl (.inl rfl)) (pgs_cons (pg_name (i := 3) sc_any.nd rfl (.inl rfl)) pgs_nil)))) (pss_mid (ps_if (pt_cmpR op_eq (pv 1) pe_int (nomark _)) (pss_one (ps_asg (pe_tup (pa_cons (pe_tup pa_nil) (pa_cons (pe_tup (pa_cons pe_int (pa_cons pe_int pa_nil))) pa_nil))) (pg_tup rfl (pgs_cons (pg_name (i := 2) sc_any.nd rfl (.inl rfl)) (pgs_cons (pg_name (i := 3) sc_any.nd rfl (.inl rfl)) pgs_nil))))) pss_nil) (pss_cons (ps_set (i := 4) sc_any.nd rfl (.inl rfl) (pe_call GD hr (by rfl) gD FD.kp bD .nil pass0 (pa_cons (pv 0) (pa_cons pe_int pa_nil)))) (pss_cons (ps_if (PW.pt (pw_or (pt_cmpR op_gt (pv 4) pe_int (nomark _)) (pw_or1 (pt_cmpR op_gt (pe_callB call_len_seq (by rfl) ml PySem.boot_len (pa_cons (pv 2) pa_nil)) pe_int (nomark _))))) (pss_one (ps_ret (pe_tup (pa_cons (pv 2) (pa_cons (pv 3) pa_nil))))) pss_nil) (pss_cons (ps_if (pt_cmpR (op_neD hr.units) (pv 3) (pe_tup (pa_cons pe_int (pa_cons pe_int pa_nil))) (nomark _)) (pss_one (ps_ret (pe_tup (pa_cons (pe_op op_catA (pv 2) (pe_tup (pa_cons (pe_call GT hr2 (by rfl) gT FT.kp bT .nil pass0 (pa_cons (pe_ix ix_tup (pv 2) (pe_un un_neg pe_int) (fun _ _ => rfl)) (pa_cons (pv 3) pa_nil))) pa_nil))) (pa_cons (pv 3) pa_nil))))) pss_nil) (pss_one (ps_ret (pe_tup (pa_cons (pe_op op_catA (pv 2) (pe_tup (pa_cons (pe_tup (pa_cons pe_int (pa_cons pe_int pa_nil))) pa_nil))) (pa_cons (pe_ix ix_list (pe_lst (pa_cons (pe_tup (pa_cons pe_int (pa_cons pe_int pa_nil))) (pa_cons (pe_tup (pa_cons pe_int (pa_cons pe_int pa_nil))) pa_nil))) (pv 4) (fun _ _ => rfl)) pa_nil))))))))))), ?_⟩
    refine ⟨_, rfl, d, c, 8, t, rfl, f0, by omega, by decide, by decide, fun way H1 hw0 hw1 k1 f1 => ?_⟩
    refine ⟨_, rfl, _, rfl, way, 6, rfl, rfl, by show (6 : Int) ≠ 0; decide, d, c, _, t + 1, rfl, f1, by omega, fun p ws extra step t2 H2 k2 f2 ht2 M _ _ _ L2' => ?_⟩
    obtain ⟨pr, ps, l1, l2, l3⟩ := L2'
    refine ⟨p, _, rfl, l1, rfl, _, _, rfl, _, _, rfl, rfl, ?_⟩
    have K2 := k1.trans k2
    refine ⟨fun σ H3 => ∃ (pr ps : Addr) (row : List RT) (step : RT), σ = [some (.ref d), some (.int way), some (.ref pr), some (.ref ps), none] ∧ Keep d H H3 ∧ Feed H3 d c t2 ∧ BaseLife row step ∧ RowAt K H3 pr row ∧ RAt K H3 ps step, ?_, ?_⟩
    · refine ⟨_, rfl, rfl, _, rfl, ite2 (fun c7 => ?_) (fun c7 => ?_)⟩
      · refine ⟨by show 0 ≤ sizeLine; decide, fun a na => ?_⟩
        have e1 := same_new (o := HO.tup []) na
        refine ⟨by show 2 ≤ sizeLine; decide, fun b nb => ?_⟩
        have e2 := same_new (o := HO.tup [.int 0, .int 1]) nb
        refine ⟨by show 2 ≤ sizeLine; decide, fun z nz => ?_⟩
        have e3 := same_new (o := HO.tup [.ref a, .ref b]) nz
        have S := e1.trans (e2.trans e3)
        exact ⟨z, _, rfl, SqT.of upd_same, rfl, _, _, rfl, _, _, rfl, rfl, a, b, [], (0, 1), rfl, K2.trans (Keep.of_same S), f2.same S, .inr ⟨rfl, rfl⟩, ⟨[], SqT.of (e3 _ _ (e2 _ _ upd_same)), .nil⟩, SqT.of (e3 _ _ upd_same)⟩
      · exact ⟨pr, ps, _, step, rfl, K2, f2, .inl ⟨ws, extra, M, rfl⟩, l2, l3⟩
    clear l1 l2 l3 M
    rintro σ H3 ⟨pr, ps, row, step, rfl, K3, f3, B, hrow, hstep⟩
    obtain ⟨sm1, sm2, st0, st1⟩ := B.sm
    have hlen := B.len
    refine ⟨_, rfl, d, c, 4, t2, rfl, f3, by omega, by decide, by decide, fun turn H4 h0 h1 k4 f4 => ?_⟩
    have K4 := K3.trans k4
    have tk4 : Tk K H3 H4 := Tk.keep f3 k4
    have hrow4 := hrow.tk tk4
    have hstep4 := hstep.tk tk4
    have keepIt : ∀ a, H4 a = none → Q (.ref a) (upd H4 a (.tup [.ref pr, .ref ps])) := fun a na => by
      have e1 := same_new (o := HO.tup [.ref pr, .ref ps]) na
      exact q a row step (t2 + 1) _ (K4.trans (Keep.of_same e1)) (f4.same e1) (by omega) (.inl B) ⟨pr, ps, SqT.of upd_same, hrow4.tk (Tk.same e1), hstep4.tk (Tk.same e1)⟩
    refine ⟨_, rfl, turn, 1, rfl, rfl, _, rfl, ite2 (fun c1 => ?_) (fun c1 => ?_)⟩
    · exact iteT ⟨_, rfl, _, rfl, by show 2 ≤ sizeLine; decide, keepIt⟩
    have hturn : turn ≤ 1 := by
      have : ¬ (1 < turn) := fun z => c1 (decide_eq_true z)
      omega
    obtain ⟨rs, r1, r2⟩ := id hrow4
    have rlen := r2.length
    refine ⟨_, rfl, pr, _, rfl, .inr r1, _, 5, rfl, rfl, _, rfl, ite2 (fun c2 => ?_) (fun c2 => ?_)⟩
    · exact ⟨_, rfl, _, rfl, by show 2 ≤ sizeLine; decide, keepIt⟩
    have hl5 : row.length ≤ 5 := by
      have : ¬ ((5 : Int) < ((rs.map V.ref).length : Nat)) := fun z => c2 (decide_eq_true z)
      rw [List.length_map] at this
      omega
    -- step != (0, 1)
    refine ⟨_, rfl, by show 2 ≤ sizeLine; decide, fun a na => ?_⟩
    have e1 := same_new (o := HO.tup [.int 0, .int 1]) na
    refine ne_rat (hstep4.tk (Tk.same e1)) (y := (0, 1)) (SqT.of upd_same) ⟨_, rfl, ?_⟩
    have f5 := f4.same e1
    have K5 := K4.trans (Keep.of_same e1)
    have hrow5 := hrow4.tk (Tk.same e1)
    have hstep5 := hstep4.tk (Tk.same e1)
    refine ite2 (fun c3 => ?_) (fun c3 => ?_)
    · have hs : step ≠ (0, 1) := fun z => by
        rw [z] at c3
        exact absurd c3 (by decide)
      have hne := B.ne hs
      have hpos := List.length_pos_iff.mpr hne
      have hget : row[row.length - 1]? = some (row.getLast hne) := by
        rw [List.getLast_eq_getElem]
        exact List.getElem?_eq_getElem _
      have smL := (sm1 (row.getLast hne) (List.getLast_mem hne)).1
      refine ⟨_, rfl, _, rfl, 1, rfl, ?_⟩
      refine ix_back (k := 1) hrow5 (by decide) (by omega) hget fun r hr3 => ?_
      refine ⟨_, rfl, r, ps, _, _, _, _, rfl, ⟨hr3, hstep5, smL.2.1.mono (by decide), smL.2.2.mono (by decide), sm2.2.1.mono (by decide), sm2.2.2.mono (by decide), smL.1.1, sm2.1.1⟩, fun b nb => ?_⟩
      have e2 := same_new (o := HO.tup [.int (rT (row.getLast hne) step).1, .int (rT (row.getLast hne) step).2]) nb
      refine ⟨by show 1 ≤ sizeLine; decide, fun b2 nb2 => ?_⟩
      have e3 := same_new (o := HO.tup [.ref b]) nb2
      refine cat_row (hrow5.tk (Tk.same (e2.trans e3))) (ys := [rT (row.getLast hne) step]) ⟨[b], SqT.of upd_same, .cons (SqT.of (e3 _ _ upd_same)) .nil⟩ (by simp; omega) fun z H6 s6 hz => ?_
      have S := e2.trans (e3.trans s6)
      refine ⟨_, rfl, by show 2 ≤ sizeLine; decide, fun y ny => ?_⟩
      have e4 := same_new (o := HO.tup [.ref z, .ref ps]) ny
      exact q y _ step (t2 + 1) _ (K5.trans ((Keep.of_same S).trans (Keep.of_same e4))) ((f5.same S).same e4) (by omega) (.inr (.inl ⟨row, _, B, hl5, hs, hget, rfl⟩)) ⟨z, ps, SqT.of upd_same, hz.tk (Tk.same e4), hstep5.tk (Tk.same (S.trans e4))⟩
    · have hs : step = (0, 1) := by
        rcases Classical.em (step = (0, 1)) with z | z
        · exact z
        · exact absurd (show (!decide (step = (0, 1))) = true by simp [z]) c3
      subst hs
      refine ⟨_, rfl, by show 2 ≤ sizeLine; decide, fun b nb => ?_⟩
      have e2 := same_new (o := HO.tup [.int 0, .int 1]) nb
      refine ⟨by show 1 ≤ sizeLine; decide, fun b2 nb2 => ?_⟩
      have e3 := same_new (o := HO.tup [.ref b]) nb2
      refine cat_row (hrow5.tk (Tk.same (e2.trans e3))) (ys := [(0, 1)]) ⟨[b], SqT.of upd_same, .cons (SqT.of (e3 _ _ upd_same)) .nil⟩ (by simp; omega) fun z H6 s6 hz => ?_
      have S := e2.trans (e3.trans s6)
      refine ⟨by show 2 ≤ sizeLine; decide, fun g1 m1 => ?_⟩
      have e4 := same_new (o := HO.tup [.int 0, .int 1]) m1
      refine ⟨by show 2 ≤ sizeLine; decide, fun g2 m2 => ?_⟩
      have e5 := same_new (o := HO.tup [.int 1, .int 3]) m2
      refine ⟨by show 2 ≤ sizeLine; decide, fun g3 m3 => ?_⟩
      have e6 := same_new (o := HO.lst [.ref g1, .ref g2]) m3
      have S2 := e4.trans (e5.trans e6)
      obtain ⟨v, ev, cv⟩ := pick2' (a := V.ref g1) (b := V.ref g2) (r := turn) h0 (by omega)
      obtain ⟨g, st, rfl, hst, hg⟩ : ∃ (g : Addr) (st : RT), v = .ref g ∧ (st = (0, 1) ∨ st = (1, 3)) ∧ RAt K (upd (upd (upd H6 g1 (HO.tup [.int 0, .int 1])) g2 (HO.tup [.int 1, .int 3])) g3 (HO.lst [.ref g1, .ref g2])) g st := by
        rcases cv with y | y
        · exact ⟨g1, (0, 1), y, .inl rfl, SqT.of (e6 _ _ (e5 _ _ upd_same))⟩
        · exact ⟨g2, (1, 3), y, .inr rfl, SqT.of (e6 _ _ upd_same)⟩
      refine ⟨_, rfl, g3, _, turn, _, rfl, rfl, SqL.of upd_same, ev, by show 2 ≤ sizeLine; decide, fun y ny => ?_⟩
      have e7 := same_new (o := HO.tup [.ref z, .ref g]) ny
      have S3 := S.trans (S2.trans e7)
      exact q y _ st (t2 + 1) _ (K5.trans (Keep.of_same S3)) (f5.same S3) (by omega) (.inr (.inr ⟨row, B, hl5, rfl, hst⟩)) ⟨z, g, SqT.of upd_same, hz.tk (Tk.same (S2.trans e7)), hg.tk (Tk.same e7)⟩
end

end Fp

set_option Elab.async false
set_option linter.all false
set_option maxRecDepth 100000
set_option maxHeartbeats 4000000
set_option exponentiation.threshold 10000
namespace Fp
open PySem PySem.Spec PyProof.Rows L2
/-! ### ratios by their value -/
def qv (x : RT) : Rat := (x.1 : Rat) / (x.2 : Rat)
theorem cast_ne {b : Int} (h : b ≠ 0) : (b : Rat) ≠ 0 := fun z => h (Rat.intCast_inj.mp (by simpa using z))
theorem qv_low2 {t b : Int} (hb : 0 < b) : qv (low2 t b) = (t : Rat) / (b : Rat) := by
  have e := low2_cross (t := t) hb
  have hp : (low2 t b).2 ≠ 0 := Int.ne_of_gt (low2_red (t := t) (Int.ne_of_gt hb)).1
  have h1 := cast_ne hp
  have h2 := cast_ne (Int.ne_of_gt hb)
  have e2 : ((low2 t b).1 : Rat) * (b : Rat) = (t : Rat) * ((low2 t b).2 : Rat) := by
    rw [← Rat.intCast_mul, ← Rat.intCast_mul, e]
  unfold qv
  grind
theorem qv_inj {x y : RT} (hx : Red x) (hy : Red y) (h : qv x = qv y) : x = y := by
  refine red_eq hx hy ?_
  have h1 := cast_ne (Int.ne_of_gt hx.1)
  have h2 := cast_ne (Int.ne_of_gt hy.1)
  unfold qv at h
  refine Rat.intCast_inj.mp ?_
  rw [Rat.intCast_mul, Rat.intCast_mul]
  grind
theorem qv_rT {x y : RT} (hx : Red x) (hy : Red y) : Red (rT x y) ∧ qv (rT x y) = qv x * qv y := by
  have hb := Int.mul_pos hx.1 hy.1
  refine ⟨low2_red (Int.ne_of_gt hb), ?_⟩
  unfold rT
  rw [qv_low2 hb, Rat.intCast_mul, Rat.intCast_mul]
  have h1 := cast_ne (Int.ne_of_gt hx.1)
  have h2 := cast_ne (Int.ne_of_gt hy.1)
  unfold qv
  grind
/-- a by b, whatever the terms -/
theorem qv_of {x : RT} {n D : Int} (hx : Red x) (hD : 0 < D) (h : qv x = (n : Rat) / (D : Rat)) : x = low2 n D := qv_inj hx (low2_red (Int.ne_of_gt hD)) (by rw [qv_low2 hD]; exact h)
/-- in lowest terms no part is greater than by other terms -/
theorem red_small {x : RT} {n D : Int} (hx : Red x) (hD : 0 < D) (h : qv x = (n : Rat) / (D : Rat)) : x.2 ∣ D ∧ x.1.natAbs ≤ n.natAbs := by
  have e := qv_of hx hD h
  obtain ⟨g1, g2, g3⟩ := ratG_pos (t := n) hD
  have e1 : x.1 = n.fdiv (ratG n D) := congrArg Prod.fst e
  have e2 : x.2 = D.fdiv (ratG n D) := congrArg Prod.snd e
  refine ⟨?_, ?_⟩
  · rw [e2]
    obtain ⟨y, hy⟩ := g3
    have z := Int.mul_fdiv_cancel_left y (Int.ne_of_gt g1)
    rw [← hy] at z
    rw [z]
    exact ⟨ratG n D, by rw [Int.mul_comm]; exact hy⟩
  · rw [e1]
    exact fdiv_le g1 g2
theorem dvd_small {a b : Int} {n : Nat} (h : a ∣ b) (hb : 0 < b) (s : Sm n b) : Sm n a := by
  unfold Sm at *
  exact Nat.lt_of_le_of_lt (Nat.le_of_dvd (by omega) (Int.natAbs_dvd_natAbs.mpr h)) s
/-- the value told over any number that its bottom divides -/
theorem qv_over {x : RT} {D : Int} (hx : 0 < x.2) (h : x.2 ∣ D) (hD : 0 < D) : qv x = ((x.1 * (D / x.2) : Int) : Rat) / (D : Rat) := by
  obtain ⟨y, hy⟩ := h
  have h1 := cast_ne (Int.ne_of_gt hx)
  have e : D / x.2 = y := by
    rw [hy]
    exact Int.mul_ediv_cancel_left y (Int.ne_of_gt hx)
  have h2 := cast_ne (Int.ne_of_gt hD)
  have h3 : (D : Rat) = (x.2 : Rat) * (y : Rat) := by rw [← Rat.intCast_mul, hy]
  unfold qv
  rw [e, Rat.intCast_mul]
  grind
/-- the bottoms of some, multiplied -/
def prodB (xs : List RT) : Int := (xs.map (·.2)).foldr (· * ·) 1
theorem prodB_pos : ∀ {xs : List RT}, (∀ x ∈ xs, 0 < x.2) → 0 < prodB xs
  | [], _ => by decide
  | x :: r, h => Int.mul_pos (h x (List.mem_cons_self ..)) (prodB_pos fun y hy => h y (List.mem_cons_of_mem _ hy))
theorem prodB_dvd : ∀ {xs : List RT} {x : RT}, x ∈ xs → x.2 ∣ prodB xs
  | y :: r, x, h => by
    rcases List.mem_cons.mp h with rfl | h
    · exact Int.dvd_mul_right ..
    · exact Int.dvd_trans (prodB_dvd h) (Int.dvd_mul_left ..)
theorem prodB_sm {n : Nat} : ∀ {xs : List RT}, (∀ x ∈ xs, Sm n x.2) → Sm (n * xs.length + 1) (prodB xs)
  | [], _ => by
    unfold Sm
    show 1 < 2 ^ (n * 0 + 1)
    simp
  | x :: r, h => by
    have h1 := (h x (List.mem_cons_self ..)).mul (prodB_sm fun y hy => h y (List.mem_cons_of_mem _ hy))
    refine h1.mono ?_
    rw [List.length_cons, Nat.mul_add]
    omega

end Fp

set_option Elab.async false
set_option linter.all false
set_option maxRecDepth 100000
set_option maxHeartbeats 4000000
set_option exponentiation.threshold 10000
namespace Fp
open PySem PySem.Spec PyProof.Rows L2
/-! ### rows on one bottom, added -/
abbrev s_oob : Stmt := topS 15
abbrev N_oob : List Str := ["told", "common", "top", "bottom"]
theorem sc_oob : FnScope N_oob ["told"] (defScope s_oob) := ⟨rfl, rfl, rfl, by decide +kernel, rfl, by decide +kernel, by decide +kernel⟩
/-- a list of ratios -/
def LstAt (K : PySem.W.Frag) (H : Hp) (p : Addr) (xs : List RT) : Prop := ∃ rs : List Addr, SqL K H p (rs.map V.ref) ∧ RsAt K H rs xs
theorem LstAt.same {K : PySem.W.Frag} {H H' : Hp} {p : Addr} {xs : List RT} (h : LstAt K H p xs) (e : Same H H') : LstAt K H' p xs := by
  obtain ⟨rs, h1, h2⟩ := h
  exact ⟨rs, e.seq h1, h2.tk (Tk.same e)⟩
/-- all over one number -/
structure Over1 (n d : Nat) (D : Int) (xs : List RT) : Prop where
  pos : 0 < D
  sm : Sm d D
  ok : ∀ x ∈ xs, 0 < x.2 ∧ x.2 ∣ D ∧ Sm n x.1
  len : xs.length ≤ 1000
def topsOn (c : Int) (xs : List RT) : List Int := xs.map fun x => x.1 * (c / x.2)
theorem lcm_ok {c b D : Int} (hc : 0 < c) (hb : 0 < b) (h1 : c ∣ D) (h2 : b ∣ D) : 0 < c.fdiv (Int.gcd c b : Nat) * b ∧ c.fdiv (Int.gcd c b : Nat) * b ∣ D ∧ c ∣ c.fdiv (Int.gcd c b : Nat) * b ∧ b ∣ c.fdiv (Int.gcd c b : Nat) * b := by
  have hg : 0 < Int.gcd c b := Nat.gcd_pos_of_pos_right _ (by omega)
  obtain ⟨x, hx⟩ : ((Int.gcd c b : Nat) : Int) ∣ c := Int.gcd_dvd_left ..
  obtain ⟨y, hy⟩ : ((Int.gcd c b : Nat) : Int) ∣ b := Int.gcd_dvd_right ..
  generalize hgg : ((Int.gcd c b : Nat) : Int) = g at *
  have g0 : 0 < g := by omega
  have e : c.fdiv g = x := by
    have := Int.mul_fdiv_cancel_left x (Int.ne_of_gt g0)
    rw [← hx] at this
    exact this
  have x0 : 0 < x := by
    rcases (by omega : 0 < x ∨ x ≤ 0) with z | z
    · exact z
    · have := Int.mul_nonpos_of_nonneg_of_nonpos (Int.le_of_lt g0) z
      omega
  have cop : Int.gcd x y = 1 := by
    have z : Int.gcd c b = g.natAbs * Int.gcd x y := by
      have := Int.gcd_mul_left g x y
      rw [← hx, ← hy] at this
      exact this
    have z2 : g.natAbs = Int.gcd c b := by rw [← hgg]; exact Int.natAbs_natCast _
    rw [z2] at z
    exact (Nat.eq_of_mul_eq_mul_left hg (by rw [Nat.mul_one]; exact z)).symm
  rw [e]
  refine ⟨Int.mul_pos x0 hb, ?_, ⟨y, ?_⟩, Int.dvd_mul_left ..⟩
  · obtain ⟨u, hu⟩ := h1
    have h3 : y ∣ x * u := by
      have : g * y ∣ g * (x * u) := by
        rw [← Int.mul_assoc, ← hx, ← hu, ← hy]
        exact h2
      exact Int.dvd_of_mul_dvd_mul_left (Int.ne_of_gt g0) this
    obtain ⟨v, hv⟩ := dvd_cop h3 (by rw [Int.gcd_comm]; exact cop)
    refine ⟨v, ?_⟩
    rw [hu, hv, hx, hy]
    rw [Int.mul_assoc g x, ← Int.mul_assoc x y v, Int.mul_comm x (g * y), Int.mul_assoc g y x, Int.mul_assoc g (y * x) v, Int.mul_comm y x]
  · rw [hy, hx, Int.mul_comm g x, Int.mul_assoc]
theorem tops_sum {c : Int} (hc : 0 < c) : ∀ {xs : List RT}, (∀ x ∈ xs, 0 < x.2 ∧ x.2 ∣ c) → (((topsOn c xs).sum : Int) : Rat) / (c : Rat) = (xs.map qv).sum
  | [], _ => by
    show ((0 : Int) : Rat) / (c : Rat) = 0
    have := cast_ne (Int.ne_of_gt hc)
    grind
  | x :: r, h => by
    have h1 := h x (List.mem_cons_self ..)
    have h2 := tops_sum hc (xs := r) fun y hy => h y (List.mem_cons_of_mem _ hy)
    have e := qv_over h1.1 h1.2 hc
    show (((x.1 * (c / x.2) :: topsOn c r).sum : Int) : Rat) / (c : Rat) = (qv x :: r.map qv).sum
    rw [List.sum_cons, List.sum_cons, ← h2, e, Rat.intCast_add]
    have := cast_ne (Int.ne_of_gt hc)
    grind
theorem tops_sm {n d : Nat} {c D : Int} (hc : 0 < c) (hD : 0 < D) (hcD : c ∣ D) (sD : Sm d D) : ∀ {xs : List RT}, (∀ x ∈ xs, 0 < x.2 ∧ Sm n x.1) → (topsOn c xs).sum.natAbs ≤ xs.length * 2 ^ (n + d)
  | [], _ => by
    show (0 : Int).natAbs ≤ 0 * _
    simp
  | x :: r, h => by
    have h1 := h x (List.mem_cons_self ..)
    have h2 := tops_sm hc hD hcD sD (xs := r) fun y hy => h y (List.mem_cons_of_mem _ hy)
    have sc : Sm d c := dvd_small hcD hD sD
    have sq : Sm d (c / x.2) := by
      unfold Sm at *
      have a : (c / x.2).natAbs ≤ c.natAbs := Int.natAbs_ediv_le_natAbs ..
      omega
    have sp : Sm (n + d) (x.1 * (c / x.2)) := h1.2.mul sq
    show (x.1 * (c / x.2) :: topsOn c r).sum.natAbs ≤ (r.length + 1) * _
    rw [List.sum_cons, Nat.add_mul]
    unfold Sm at sp
    have := Int.natAbs_add_le (x.1 * (c / x.2)) (topsOn c r).sum
    omega
section
variable {P : Program} {w : World} {K : PySem.W.Frag} {mg : Str → Option Value} {base : Heap}
def spOob (K : PySem.W.Frag) : Sp := fun vs H Q _ => ∃ (p : Addr) (xs : List RT) (n d : Nat) (D : Int), vs = [.ref p] ∧ LstAt K H p xs ∧ Over1 n d D xs ∧ n ≤ 4000 ∧ d ≤ 4000 ∧
  ∀ z zl c H', Same H H' → H' z = some (.tup [.ref zl, .int c]) → H' zl = some (.lst ((topsOn c xs).map V.int)) → 0 < c → c ∣ D → (∀ x ∈ xs, x.2 ∣ c) → Q (.ref z) H'
theorem ok_oob {f fC : Addr} {fd fdC : FuncData} (F : Fun K "on_one_bottom" "on_one_bottom" s_oob f fd) (FC : Fun K "common_divisor" "common_divisor" s_cd fC fdC) (bC : Binds K fdC ["one", "other"] []) (gC : mg "common_divisor" = some (.ref fC)) (ma : mg "abs" = none) :
    FnOk P w K mg base CX0 2 f fd ["told"] (spOob K) := by
  have GC : FnOk P w K mg base CX0 1 fC fdC ["one", "other"] spCd := ok_cd FC ma
  refine F.ok sc_oob (fun vs H Q E h => ?_) (fun cdv A outer s H vs Q E hr h => ?_)
  · obtain ⟨_, _, _, _, _, rfl, _⟩ := h
    rfl
  · obtain ⟨p, xs, n, d, D, rfl, hlst, O, hn, hd, q⟩ := h
    obtain ⟨rs, r1, r2⟩ := id hlst
    have hl := r2.length
    refine ⟨_, (pss_cons (ps_set (i := 1) sc_oob.nd rfl (.inr rfl) pe_int) (pss_cons (ps_for PassesOwn.never rfl (pi_list (pv 0)) (pg_tup rfl (pgs_cons (pg_name (i := 2) sc_oob.nd rfl (.inl rfl)) (pgs_cons (pg_name (i := 3) sc_oob.nd rfl (.inl rfl)) pgs_nil)))
          (pss_one (ps_set (i := 1) sc_oob.nd rfl (.inr rfl) (pe_op op_mulA (pe_op op_fdivA (pv 1) (pe_call GC hr (by rfl) gC FC.kp bC .nil pass0 (pa_cons (pv 1) (pa_cons (pv 3) pa_nil)))) (pv 3))))) (pss_one (ps_ret (pe_tup (pa_cons (pe_lc (own := [("top", 2), ("bottom", 3)]) (g := gTup K 2 (gCons (gName 2) (gCons (gName 3) gNil))) (tt := tYes) (te := tOp (rI CMulA fun i j => .int (i * j)) (tVar 2) (tOp (rI CDivA fun i j => .int (i.fdiv j)) (tVar 1) (tVar 3))) rfl sc_oob.nd (pi_list (pv 0)) (blkOk_by (own := [("top", 2), ("bottom", 3)]) (N := N_oob) (sc := defScope s_oob) (by decide +kernel))
          (fun _ _ _ _ _ => pg_tup rfl (pgs_cons (pg_name (i := 2) sc_oob.nd rfl (.inl rfl)) (pgs_cons (pg_name (i := 3) sc_oob.nd rfl (.inl rfl)) pgs_nil))) (fun _ _ _ _ _ => pts_nil) (fun _ _ _ _ _ => pe_op op_mulA (pv 2) (pe_op op_fdivA (pv 1) (pv 3)))) (pa_cons (pv 1) pa_nil))))))), ?_⟩
    refine ⟨_, rfl, p, rfl, ⟨_, r1⟩, for_list (K := K) (a := p) (xs := rs.map V.ref) (fun i σ H1 => H1 = H ∧ ∃ (c : Int) (y2 y3 : Option V), σ = [some (.ref p), some (.int c), y2, y3] ∧ 0 < c ∧ c ∣ D ∧ ∀ x ∈ xs.take i, x.2 ∣ c) ?_ ?_ ?_ ?_⟩
    · exact ⟨rfl, 1, _, _, rfl, by decide, Int.one_dvd D, fun x hx => by simp at hx⟩
    · rintro i σ H1 _ ⟨rfl, _⟩
      exact r1
    · rintro i y σ H1 hi ⟨rfl, c, y2, y3, rfl, c0, cD, hc⟩
      have hi2 : i < xs.length := by
        have := (List.getElem?_eq_some_iff.mp hi).1
        rw [List.length_map, hl] at this
        exact this
      have hg : xs[i]? = some xs[i] := List.getElem?_eq_getElem hi2
      obtain ⟨r, er, hr2⟩ := r2.get hg
      have ey : y = .ref r := by
        rw [List.getElem?_map, er] at hi
        exact (Option.some.inj hi).symm
      subst ey
      obtain ⟨b0, bD, _⟩ := O.ok xs[i] (List.getElem_mem hi2)
      have sc : Sm d c := dvd_small cD O.pos O.sm
      have sb : Sm d xs[i].2 := dvd_small bD O.pos O.sm
      have hg0 : 0 < Int.gcd c xs[i].2 := Nat.gcd_pos_of_pos_right _ (by omega)
      have hgs : Sm d ((Int.gcd c xs[i].2 : Nat) : Int) := by
        unfold Sm at *
        rw [Int.natAbs_natCast]
        exact Nat.lt_of_le_of_lt (Nat.gcd_le_right _ (by omega)) sb
      have d0 : 0 < d := by
        rcases Nat.eq_zero_or_pos d with z | z
        · rw [z] at sc
          unfold Sm at sc
          omega
        · exact z
      have hq1 : Sm d (c.fdiv ((Int.gcd c xs[i].2 : Nat) : Int)) := Nat.lt_of_le_of_lt (fdiv_le (by omega) (Int.gcd_dvd_left ..)) sc
      obtain ⟨k0, k1, k2, k3⟩ := lcm_ok c0 b0 cD bD
      refine ⟨r, _, rfl, hr2, rfl, _, _, rfl, _, _, rfl, rfl, ?_⟩
      refine ⟨_, rfl, _, rfl, _, rfl, c, xs[i].2, rfl, ?_⟩
      refine ⟨c, _, rfl, rfl, ⟨by omega, Nat.lt_of_lt_of_le (hgs.log d0) (by omega)⟩, _, rfl, _, _, rfl, rfl, hq1.cmul sb d0 d0 (by omega), rfl, _, _, _, rfl, k0, k1, fun x hx => ?_⟩
      rw [List.take_add_one, hg] at hx
      rcases List.mem_append.mp hx with z | z
      · exact Int.dvd_trans (hc x z) k2
      · rw [List.mem_singleton.mp z]
        exact k3
    · rintro σ H1 ⟨rfl, c, y2, y3, rfl, c0, cD, hc⟩
      rw [List.length_map, hl, List.take_length] at hc
      have sc : Sm d c := dvd_small cD O.pos O.sm
      have d0 : 0 < d := by
        rcases Nat.eq_zero_or_pos d with z | z
        · rw [z] at sc
          unfold Sm at sc
          omega
        · exact z
      refine ⟨_, rfl, p, rfl, ⟨_, r1⟩, fun R nR => ?_⟩
      have e1 := same_new (o := HO.lst []) nR
      refine lc_list (K := K) (a := p) (xs := rs.map V.ref) (fun i H2 => Same H1 H2 ∧ H2 R = some (.lst ((topsOn c (xs.take i)).map V.int))) ?_ ?_ ?_ ?_
      · exact ⟨e1, upd_same⟩
      · rintro i H2 _ ⟨s2, _⟩
        exact s2.seq r1
      · rintro i y H2 hi ⟨s2, hR⟩
        have hi2 : i < xs.length := by
          have := (List.getElem?_eq_some_iff.mp hi).1
          rw [List.length_map, hl] at this
          exact this
        have hg : xs[i]? = some xs[i] := List.getElem?_eq_getElem hi2
        obtain ⟨r, er, hr2⟩ := r2.get hg
        have ey : y = .ref r := by
          rw [List.getElem?_map, er] at hi
          exact (Option.some.inj hi).symm
        subst ey
        obtain ⟨b0, bD, sn⟩ := O.ok xs[i] (List.getElem_mem hi2)
        have sb : Sm d xs[i].2 := dvd_small bD O.pos O.sm
        have hdv := hc xs[i] (List.getElem_mem hi2)
        have ef : c.fdiv xs[i].2 = c / xs[i].2 := Int.fdiv_eq_ediv_of_nonneg _ (by omega)
        have sq : Sm d (c.fdiv xs[i].2) := Nat.lt_of_le_of_lt (fdiv_le b0 hdv) sc
        refine ⟨r, _, rfl, hr2.tk (Tk.same s2), rfl, _, _, rfl, _, _, rfl, rfl, rfl, tYes_go ?_⟩
        refine iteT ?_
        refine ⟨_, rfl, _, rfl, _, rfl, c, xs[i].2, rfl, rfl, ⟨by omega, Nat.lt_of_lt_of_le (sb.log d0) (by omega)⟩, _, _, rfl, rfl, (sn.mono (show n ≤ n + 1 by omega)).cmul sq (by omega) d0 (by omega), _, hR, ?_, ?_, ?_⟩
        · rw [List.length_map]
          unfold topsOn
          rw [List.length_map, List.length_take]
          have := O.len
          exact small1000 (by omega)
        · intro b o hb
          rw [upd_ne (ne_of_none hb nR)]
          exact s2 _ _ hb
        · rw [upd_same, List.take_add_one, hg]
          unfold topsOn
          rw [List.map_append, List.map_append, ef]
          rfl
      · rintro H2 ⟨s2, hR⟩
        rw [List.length_map, hl, List.take_length] at hR
        refine ⟨_, rfl, by show 2 ≤ sizeLine; decide, fun z nz => ?_⟩
        have e2 := same_new (o := HO.tup [.ref R, .int c]) nz
        exact q z R c _ (s2.trans e2) upd_same (e2 _ _ hR) c0 cD hc
def spAdded (K : PySem.W.Frag) : Sp := fun vs H Q _ => ∃ (p : Addr) (xs : List RT) (n d : Nat) (D : Int), vs = [.ref p] ∧ LstAt K H p xs ∧ Over1 n d D xs ∧ n ≤ 4000 ∧ d ≤ 4000 ∧
  ∀ z x H', Same H H' → RAt K H' z x → Red x → qv x = (xs.map qv).sum → x.2 ∣ D → Sm (n + d + 11) x.1 → Q (.ref z) H'
end

end Fp

set_option Elab.async false
set_option linter.all false
set_option maxRecDepth 100000
set_option maxHeartbeats 4000000
set_option exponentiation.threshold 10000
namespace Fp
open PySem PySem.Spec PyProof.Rows L2
/-! ### the program's own: what lasts behind the row's end, the short life -/
abbrev s_behind : Stmt := topS 18
theorem sc_behind : FnScope ["life", "row", "step"] ["life"] (defScope s_behind) := ⟨rfl, rfl, rfl, by decide +kernel, rfl, by decide +kernel, by decide +kernel⟩
structure ConstN (K : PySem.W.Frag) (mg : Str → Option Value) (aN : Addr) : Prop where
  gN : mg "NOUGHT" = some (.ref aN)
  tN : ∀ H : Hp, RAt K H aN (0, 1)
structure Consts (K : PySem.W.Frag) (mg : Str → Option Value) (aN aO : Addr) : Prop where
  gN : mg "NOUGHT" = some (.ref aN)
  gO : mg "ONE" = some (.ref aO)
  tN : ∀ H, RAt K H aN (0, 1)
  tO : ∀ H, RAt K H aO (1, 1)
theorem Consts.n {K : PySem.W.Frag} {mg : Str → Option Value} {aN aO : Addr} (C : Consts K mg aN aO) : ConstN K mg aN := ⟨C.gN, C.tN⟩
def rM (x y : RT) : RT := low2 (x.1 * y.2 - y.1 * x.2) (x.2 * y.2)
def rO (x y : RT) : RT := low2 (x.1 * y.2) (x.2 * y.1)
/-- a step: from nought on, below one -/
def StepOk (n : Nat) (s : RT) : Prop := SmR n s ∧ 0 ≤ s.1 ∧ s.1 < s.2
theorem gap_pos {s : RT} (h : Red s) (h1 : s.1 < s.2) : 0 < (rM (1, 1) s).1 := by
  have hb : (0 : Int) < 1 * s.2 := by have := h.1; omega
  have e := low2_cross (t := 1 * s.2 - s.1 * 1) hb
  have hp := ratB_pos (t := 1 * s.2 - s.1 * 1) hb
  show 0 < (low2 (1 * s.2 - s.1 * 1) (1 * s.2)).1
  have hp2 : 0 < (low2 (1 * s.2 - s.1 * 1) (1 * s.2)).2 := hp
  generalize (low2 (1 * s.2 - s.1 * 1) (1 * s.2)).1 = x at *
  generalize (low2 (1 * s.2 - s.1 * 1) (1 * s.2)).2 = y at *
  rcases (by omega : 0 < x ∨ x ≤ 0) with z | z
  · exact z
  · have a1 : 0 < (1 * s.2 - s.1 * 1) * y := Int.mul_pos (by omega) hp2
    have a2 : x * (1 * s.2) ≤ 0 := Int.mul_nonpos_of_nonpos_of_nonneg z (Int.le_of_lt hb)
    omega
def behindR (row : List RT) (step : RT) : RT := match row.getLast? with
  | none => (0, 1)
  | some l => rO (rT l step) (rM (1, 1) step)
theorem behindR_snoc (ys : List RT) (y step : RT) : behindR (ys ++ [y]) step = rO (rT y step) (rM (1, 1) step) := by
  have e : (ys ++ [y]).getLast? = some y := by simp
  unfold behindR
  rw [e]
/-! data of a row -/
def rowD (xs : List RT) : List PyData := xs.map fun x => .tuple [.int x.1, .int x.2]
theorem RsAt.dp {K : PySem.W.Frag} {H : Hp} : ∀ {ps : List Addr} {xs : List RT}, RsAt K H ps xs → DpAll K H (ps.map V.ref) (rowD xs)
  | _, _, .nil => .nil
  | _, _, .cons h r => .cons h.dp r.dp
theorem RowAt.dp {K : PySem.W.Frag} {H : Hp} {p : Addr} {xs : List RT} (h : RowAt K H p xs) : Dp K H (.ref p) (.tuple (rowD xs)) := by
  obtain ⟨rs, h1, h2⟩ := h
  exact .tup h1 h2.dp
theorem rowD_lay : ∀ xs : List RT, PyData.canLayAll0 (rowD xs) = true
  | [] => rfl
  | x :: r => by
    show (PyData.canLay0 (.tuple [.int x.1, .int x.2]) && PyData.canLayAll0 (rowD r)) = true
    rw [rowD_lay r]
    rfl
theorem rowD_depth : ∀ xs : List RT, PyData.depthAll (rowD xs) ≤ 1
  | [] => by decide
  | x :: r => by
    show max (PyData.depth (.tuple [.int x.1, .int x.2])) (PyData.depthAll (rowD r)) ≤ 1
    have := rowD_depth r
    have e : PyData.depth (.tuple [.int x.1, .int x.2]) = 1 := rfl
    omega
theorem rowD_shaped (xs : List RT) : SeqAt.shaped (.tuple (rowD xs)) = true := by
  unfold SeqAt.shaped
  have h1 : PyData.canLay0 (.tuple (rowD xs)) = true := rowD_lay xs
  have h2 : (PyData.tuple (rowD xs)).depth ≤ 64 := by
    show PyData.depthAll (rowD xs) + 1 ≤ 64
    have := rowD_depth xs
    omega
  rw [h1, decide_eq_true h2]
  rfl
theorem rowD_nil (xs : List RT) : PyData.eqv (.tuple (rowD xs)) (.tuple []) = xs.isEmpty := by
  cases xs with
  | nil => rfl
  | cons x r => rfl
section
variable {P : Program} {w : World} {K : PySem.W.Frag} {mg : Str → Option Value} {base : Heap} {aN aO : Addr}
def spBehind (K : PySem.W.Frag) : Sp := fun vs H Q _ => ∃ (p : Addr) (row : List RT) (step : RT), vs = [.ref p] ∧ LifeAt K H p row step ∧ (∀ x ∈ row, SmR 1400 x) ∧ StepOk 700 step ∧
  ∀ z H', Same H H' → RAt K H' z (behindR row step) → Q (.ref z) H'
theorem ok_behind {f fO fT fM : Addr} {fd fdO fdT fdM : FuncData} (F : Fun K "behind_row" "behind_row" s_behind f fd) (C : Consts K mg aN aO)
    (FO : Fun K "over" "over" s_over fO fdO) (bO : Binds K fdO ["one", "other"] []) (gO : mg "over" = some (.ref fO)) (GO : FnOk P w K mg base CX0 3 fO fdO ["one", "other"] (spOver0 K))
    (FT : Fun K "times" "times" s_times fT fdT) (bT : Binds K fdT ["one", "other"] []) (gT : mg "times" = some (.ref fT)) (GT : FnOk P w K mg base CX0 3 fT fdT ["one", "other"] (spTwo K (fun a b c d => a * c)))
    (FM : Fun K "minus" "minus" s_minus fM fdM) (bM : Binds K fdM ["one", "other"] []) (gM : mg "minus" = some (.ref fM)) (GM : FnOk P w K mg base CX0 3 fM fdM ["one", "other"] (spTwo K (fun a b c d => a * d - c * b))) :
    FnOk P w K mg base CX0 4 f fd ["life"] (spBehind K) := by
  refine F.ok sc_behind (fun vs H Q E h => ?_) (fun cdv A outer s H vs Q E hr h => ?_)
  · obtain ⟨_, _, _, rfl, _⟩ := h
    rfl
  · obtain ⟨p, row, step, rfl, ⟨pr, ps, l1, l2, l3⟩, hsm, hst, q⟩ := h
    refine ⟨_, (pss_cons (ps_asg (pv 0) (pg_tup rfl (pgs_cons (pg_name (i := 1) sc_behind.nd rfl (.inl rfl)) (pgs_cons (pg_name (i := 2) sc_behind.nd rfl (.inl rfl)) pgs_nil)))) (pss_cons (ps_if (pt_cmpR (op_eqD hr.units) (pv 1) (pe_tup pa_nil) (nomark _)) (pss_one (ps_ret (pe_glob (v := .ref aN) rfl C.gN rfl))) pss_nil) (pss_one (ps_ret (pe_call GO hr (by rfl) gO FO.kp bO .nil pass0 (pa_cons (pe_call GT hr (by rfl) gT FT.kp bT .nil pass0 (pa_cons (pe_ix ix_tup (pv 1) (pe_un un_neg pe_int) (fun _ _ => rfl)) (pa_cons (pv 2) pa_nil))) (pa_cons (pe_call GM hr (by rfl) gM FM.kp bM .nil pass0 (pa_cons (pe_glob (v := .ref aO) rfl C.gO rfl) (pa_cons (pv 2) pa_nil))) pa_nil))))))), ?_⟩
    refine ⟨_, rfl, p, _, rfl, l1, rfl, _, _, rfl, _, _, rfl, rfl, ?_⟩
    refine ⟨_, rfl, by show 0 ≤ sizeLine; decide, fun a na => ?_⟩
    have e1 := same_new (o := HO.tup []) na
    refine ⟨_, _, (l2.tk (Tk.same e1)).dp, .tup (SqT.of upd_same) .nil, rowD_shaped row, rfl, _, rfl, ?_⟩
    rw [rowD_nil]
    rcases snoc_cases row with rfl | ⟨ys, y, rfl⟩
    · exact iteT (q aN _ e1 (C.tN _))
    · have ne : (ys ++ [y]).isEmpty = false := by simp
      rw [ne]
      refine iteF ?_
      obtain ⟨hs1, hs2, hs3⟩ := hst
      have hy := hsm y (by simp)
      refine ⟨_, rfl, 1, rfl, ?_⟩
      refine ix_back (k := 1) (j := ys.length) (x := y) (l2.tk (Tk.same e1)) (by decide) (by simp) (by simp) fun r hr3 => ?_
      refine ⟨_, rfl, r, ps, _, _, _, _, rfl, ⟨hr3, l3.tk (Tk.same e1), hy.2.1.mono (by decide), hy.2.2.mono (by decide), hs1.2.1.mono (by decide), hs1.2.2.mono (by decide), hy.1.1, hs1.1.1⟩, fun b nb => ?_⟩
      have e2 := same_new (o := HO.tup [.int (rT y step).1, .int (rT y step).2]) nb
      refine ⟨_, rfl, aO, ps, _, _, _, _, rfl, ⟨C.tO _, l3.tk (Tk.same (e1.trans e2)), by unfold Sm; decide, by unfold Sm; decide, hs1.2.1.mono (by decide), hs1.2.2.mono (by decide), by decide, hs1.1.1⟩, fun b2 nb2 => ?_⟩
      have e3 := same_new (o := HO.tup [.int (rM (1, 1) step).1, .int (rM (1, 1) step).2]) nb2
      have sT := rT_sm hy hs1
      have hden : (0 : Int) < 1 * step.2 := by have := hs1.1.1; omega
      have a1 : Sm 701 (1 * step.2 - step.1 * 1) := by
        rw [Int.one_mul, Int.mul_one]
        exact hs1.2.2.sub hs1.2.1
      have a2 : Sm 701 (1 * step.2) := by
        rw [Int.one_mul]
        exact hs1.2.2.mono (by decide)
      have sM : SmR 701 (rM (1, 1) step) := low2_sm hden a1 a2
      refine ⟨b, b2, _, _, _, _, rfl, ⟨SqT.of (e3 _ _ upd_same), SqT.of upd_same, sT.2.1.mono (by decide), sT.2.2.mono (by decide), sM.2.1.mono (by decide), sM.2.2.mono (by decide), sT.1.1, sM.1.1⟩, Int.ne_of_gt (Int.mul_pos sT.1.1 (gap_pos hs1.1 hs3)), fun b3 nb3 => ?_⟩
      refine q b3 _ (e1.trans (e2.trans (e3.trans (same_new nb3)))) ?_
      rw [behindR_snoc]
      exact SqT.of upd_same
end

end Fp

set_option Elab.async false
set_option linter.all false
set_option maxRecDepth 100000
set_option maxHeartbeats 4000000
set_option exponentiation.threshold 10000
namespace Fp
open PySem PySem.Spec PyProof.Rows L2
/-! ### chances, one behind the other -/

def chR (row : List RT) (step : RT) (i : Nat) : Rat := match row[i]? with
  | some x => qv x
  | none => match row.getLast? with
    | none => 0
    | some l => qv l * qv step ^ (i + 1 - row.length)
theorem chR_in {row : List RT} {step : RT} {i : Nat} {x : RT} (h : row[i]? = some x) : chR row step i = qv x := by
  unfold chR
  rw [h]
theorem chR_out {row : List RT} {step l : RT} {i : Nat} (h : row.length ≤ i) (hl : row.getLast? = some l) : chR row step i = qv l * qv step ^ (i + 1 - row.length) := by
  unfold chR
  rw [List.getElem?_eq_none h, hl]
theorem chR_nil {step : RT} {i : Nat} : chR [] step i = 0 := rfl
theorem last_is {row : List RT} (h : row ≠ []) : ∃ l, row.getLast? = some l ∧ row[row.length - 1]? = some l ∧ l ∈ row := by
  refine ⟨row.getLast h, List.getLast?_eq_some_getLast h, ?_, List.getLast_mem h⟩
  rw [List.getLast_eq_getElem]
  exact List.getElem?_eq_getElem _
theorem chR_next {row : List RT} {step : RT} {k : Nat} (h : row.length ≤ k + 1) (hne : row ≠ []) : chR row step (k + 1) = chR row step k * qv step := by
  obtain ⟨l, h1, h2, _⟩ := last_is hne
  have hp := List.length_pos_iff.mpr hne
  rw [chR_out h h1]
  rcases (by omega : row.length = k + 1 ∨ row.length ≤ k) with z | z
  · have e : row[k]? = some l := by
      rw [← h2]
      congr 1
      omega
    rw [chR_in e, show k + 1 + 1 - row.length = 0 + 1 by omega, Rat.pow_succ, Rat.pow_zero]
    grind
  · rw [chR_out z h1, show k + 1 + 1 - row.length = (k + 1 - row.length) + 1 by omega, Rat.pow_succ]
    grind
/-- the chances 1 to as many as there are -/
structure IsCh (row : List RT) (step : RT) (n most : Nat) (chs : List RT) : Prop where
  len : chs.length = most
  ok : ∀ i x, chs[i]? = some x → SmR (n + 5 * i) x ∧ qv x = chR row step i
/-- what one number stands under all of them -/
theorem ch_dvd {row : List RT} {step x : RT} {n i most : Nat} (hr : ∀ y ∈ row, SmR n y) (hs : Red step) (hx : Red x) (h : qv x = chR row step i) (hi : i < most) : x.2 ∣ prodB row * step.2 ^ most := by
  match e : row[i]? with
  | some y =>
    have hy := List.mem_of_getElem? e
    have ex : x = y := qv_inj hx (hr y hy).1 (h.trans (chR_in e))
    rw [ex]
    exact Int.dvd_trans (prodB_dvd hy) (Int.dvd_mul_right ..)
  | none =>
    have hle : row.length ≤ i := List.getElem?_eq_none_iff.mp e
    match el : row.getLast? with
    | none =>
      have er : row = [] := List.getLast?_eq_none_iff.mp el
      rw [er, chR_nil] at h
      have ex : x = (0, 1) := qv_inj hx ⟨by decide, by decide⟩ (by
        rw [h]
        unfold qv
        show (0 : Rat) = ((0 : Int) : Rat) / ((1 : Int) : Rat)
        grind)
      rw [ex]
      exact Int.one_dvd _
    | some l =>
      have hl : l ∈ row := List.mem_of_getLast? el
      have hl0 := (hr l hl).1
      rw [chR_out hle el] at h
      obtain ⟨j, ej, hj⟩ : ∃ j, i + 1 - row.length = j ∧ j ≤ most := ⟨_, rfl, by omega⟩
      rw [ej] at h
      have key : ∀ j : Nat, qv l * qv step ^ j = ((l.1 * step.1 ^ j : Int) : Rat) / ((l.2 * step.2 ^ j : Int) : Rat) := by
        intro j
        induction j with
        | zero =>
          rw [Rat.pow_zero, Int.pow_zero, Int.pow_zero, Int.mul_one, Int.mul_one]
          unfold qv
          grind
        | succ j ih =>
          have h1 := cast_ne (Int.ne_of_gt hs.1)
          have h2 := cast_ne (Int.ne_of_gt (Int.mul_pos hl0.1 (show (0 : Int) < step.2 ^ j from Int.pow_pos hs.1)))
          rw [Rat.pow_succ, ← Rat.mul_assoc, ih, Int.pow_succ, Int.pow_succ, ← Int.mul_assoc, ← Int.mul_assoc, Rat.intCast_mul (l.1 * step.1 ^ j), Rat.intCast_mul (l.2 * step.2 ^ j)]
          unfold qv
          grind
      rw [key j] at h
      obtain ⟨d1, _⟩ := red_small hx (Int.mul_pos hl0.1 (Int.pow_pos hs.1)) h
      refine Int.dvd_trans d1 ?_
      obtain ⟨u, hu⟩ := prodB_dvd hl
      refine ⟨u * step.2 ^ (most - j), ?_⟩
      rw [hu, show most = j + (most - j) by omega, Int.pow_add, Nat.add_sub_cancel_left]
      rw [Int.mul_assoc l.2 u, ← Int.mul_assoc u, Int.mul_comm u (step.2 ^ j), Int.mul_assoc (step.2 ^ j), ← Int.mul_assoc l.2]
theorem sm_pow {n : Nat} {a : Int} (h : Sm n a) (hn : 0 < n) : ∀ k : Nat, Sm (n * k + 1) (a ^ k)
  | 0 => by
    unfold Sm
    rw [Int.pow_zero]
    simp
  | k + 1 => by
    rw [Int.pow_succ]
    have := (sm_pow h hn k).mul h
    refine this.mono ?_
    rw [Nat.mul_add]
    omega
theorem over_ch {row : List RT} {step : RT} {n most : Nat} {chs : List RT} (hr : ∀ y ∈ row, SmR n y) (hs : SmR 5 step) (hl : row.length ≤ 14) (hn : n ≤ 64) (hm : most ≤ 70) (h : IsCh row step n most chs) : Over1 (n + 350) 1300 (prodB row * step.2 ^ most) chs := by
  refine ⟨Int.mul_pos (prodB_pos fun x hx => (hr x hx).1.1) (Int.pow_pos hs.1.1), ?_, fun x hx => ?_, by rw [h.len]; omega⟩
  · have h1 := prodB_sm fun x hx => (hr x hx).2.2
    have h2 := sm_pow hs.2.2 (by decide) most
    refine (h1.mul h2).mono ?_
    have : n * row.length ≤ 64 * 14 := Nat.mul_le_mul hn hl
    omega
  · obtain ⟨i, hi⟩ := List.mem_iff_getElem?.mp hx
    have hi2 := (List.getElem?_eq_some_iff.mp hi).1
    rw [h.len] at hi2
    obtain ⟨s1, s2⟩ := h.ok i x hi
    exact ⟨s1.1.1, ch_dvd hr hs.1 s1.1 s2 hi2, s1.2.1.mono (by omega)⟩
def sumCh (row : List RT) (step : RT) : Nat → Rat
  | 0 => 0
  | k + 1 => sumCh row step k + chR row step k
theorem sum_snoc (xs : List Rat) (x : Rat) : (xs ++ [x]).sum = xs.sum + x := by
  induction xs with
  | nil =>
    show x + 0 = 0 + x
    grind
  | cons y r ih =>
    show y + (r ++ [x]).sum = y + r.sum + x
    rw [ih]
    grind
theorem IsCh.sum {row : List RT} {step : RT} {n most : Nat} {chs : List RT} (h : IsCh row step n most chs) : (chs.map qv).sum = sumCh row step most := by
  have key : ∀ k, k ≤ most → ((chs.take k).map qv).sum = sumCh row step k := by
    intro k
    induction k with
    | zero =>
      intro _
      rfl
    | succ k ih =>
      intro hk
      have hk2 : k < chs.length := by rw [h.len]; omega
      have hg : chs[k]? = some chs[k] := List.getElem?_eq_getElem hk2
      rw [List.take_add_one, hg]
      show ((chs.take k ++ [chs[k]]).map qv).sum = sumCh row step k + chR row step k
      rw [List.map_append, List.map_singleton, sum_snoc, ih (by omega), (h.ok k _ hg).2]
  have := key most (Nat.le_refl _)
  rw [← h.len, List.take_length] at this
  rw [h.len] at this
  exact this
/-- a life as the program is asked of it -/
structure LifeOk (n : Nat) (row : List RT) (step : RT) : Prop where
  sm : ∀ y ∈ row, SmR n y
  st : StepOk 5 step
  len : row.length ≤ 14
  n64 : n ≤ 64
  n1 : 1 ≤ n
section
variable {P : Program} {w : World} {K : PySem.W.Frag} {mg : Str → Option Value} {base : Heap} {aN aO : Addr}
def spChto (K : PySem.W.Frag) : Sp := fun vs H Q _ => ∃ (p : Addr) (row : List RT) (step : RT) (n most : Nat), vs = [.ref p, .int (most : Int)] ∧ LifeAt K H p row step ∧ LifeOk n row step ∧ most ≤ 70 ∧
  ∀ z rs chs H', Same H H' → H' z = some (.lst (rs.map V.ref)) → RsAt K H' rs chs → IsCh row step n most chs → Q (.ref z) H'
end

end Fp

set_option Elab.async false
set_option linter.all false
set_option maxRecDepth 100000
set_option maxHeartbeats 4000000
set_option exponentiation.threshold 10000
namespace Fp
open PySem PySem.Spec PyProof.Rows L2
/-! ### a chance, lasting, the miss -/
theorem qv_rM {x y : RT} (hx : Red x) (hy : Red y) : Red (rM x y) ∧ qv (rM x y) = qv x - qv y := by
  have hb := Int.mul_pos hx.1 hy.1
  refine ⟨low2_red (Int.ne_of_gt hb), ?_⟩
  unfold rM
  rw [qv_low2 hb, Rat.intCast_sub, Rat.intCast_mul, Rat.intCast_mul, Rat.intCast_mul]
  have h1 := cast_ne (Int.ne_of_gt hx.1)
  have h2 := cast_ne (Int.ne_of_gt hy.1)
  unfold qv
  grind
theorem qv_rO {x y : RT} (hx : Red x) (hy : Red y) (h : 0 < y.1) : Red (rO x y) ∧ qv (rO x y) = qv x / qv y := by
  have hb := Int.mul_pos hx.1 h
  refine ⟨low2_red (Int.ne_of_gt hb), ?_⟩
  unfold rO
  rw [qv_low2 hb, Rat.intCast_mul, Rat.intCast_mul]
  have h1 := cast_ne (Int.ne_of_gt hx.1)
  have h2 := cast_ne (Int.ne_of_gt hy.1)
  have h3 := cast_ne (Int.ne_of_gt h)
  unfold qv
  grind
theorem qv_one : qv (1, 1) = 1 := by
  unfold qv
  show ((1 : Int) : Rat) / ((1 : Int) : Rat) = 1
  grind
theorem qv_nought : qv (0, 1) = 0 := by
  unfold qv
  show ((0 : Int) : Rat) / ((1 : Int) : Rat) = 0
  grind
theorem one_red : Red (1, 1) := ⟨by decide, by decide⟩
theorem gap_val {s : RT} (hs : Red s) (h : s.1 < s.2) : (1 : Rat) - qv s ≠ 0 := by
  obtain ⟨r, v⟩ := qv_rM one_red hs
  have hg := gap_pos hs h
  have e : qv (rM (1, 1) s) ≠ 0 := by
    have h1 := cast_ne (Int.ne_of_gt hg)
    have h2 := cast_ne (Int.ne_of_gt r.1)
    unfold qv
    grind
  rw [v, qv_one] at e
  exact e
/-- what lasts behind the row's end -/
def behQ (row : List RT) (step : RT) : Rat := match row.getLast? with
  | none => 0
  | some l => qv l * qv step / (1 - qv step)
theorem behind_val {row : List RT} {step : RT} {n : Nat} (hr : ∀ x ∈ row, SmR n x) (hs : StepOk 5 step) : SmR (n + 20) (behindR row step) ∧ qv (behindR row step) = behQ row step := by
  rcases snoc_cases row with rfl | ⟨ys, y, rfl⟩
  · exact ⟨SmR.mono (n := 1) (x := (0, 1)) ⟨⟨by decide, by decide⟩, by unfold Sm; decide, by unfold Sm; decide⟩ (by omega), qv_nought⟩
  · have hy := hr y (by simp)
    rw [behindR_snoc]
    have e : behQ (ys ++ [y]) step = qv y * qv step / (1 - qv step) := by
      have e : (ys ++ [y]).getLast? = some y := by simp
      unfold behQ
      rw [e]
    rw [e]
    obtain ⟨h1, h2, h3⟩ := hs
    obtain ⟨a1, a2⟩ := qv_rT hy.1 h1.1
    obtain ⟨b1, b2⟩ := qv_rM one_red h1.1
    have g := gap_pos h1.1 h3
    obtain ⟨c1, c2⟩ := qv_rO a1 b1 g
    refine ⟨⟨c1, ?_, ?_⟩, ?_⟩
    · have sT := rT_sm hy h1
      have hden : (0 : Int) < 1 * step.2 := by have := h1.1.1; omega
      have m1 : Sm 6 (1 * step.2 - step.1 * 1) := by
        rw [Int.one_mul, Int.mul_one]
        exact h1.2.2.sub h1.2.1
      have m2 : Sm 6 (1 * step.2) := by
        rw [Int.one_mul]
        exact h1.2.2.mono (by decide)
      have sM : SmR 6 (rM (1, 1) step) := low2_sm hden m1 m2
      exact (ratT_sm (Int.mul_pos sT.1.1 g) ((sT.2.1.mul sM.2.2).mono (show n + 5 + 6 ≤ n + 20 by omega)))
    · have sT := rT_sm hy h1
      have hden : (0 : Int) < 1 * step.2 := by have := h1.1.1; omega
      have m1 : Sm 6 (1 * step.2 - step.1 * 1) := by
        rw [Int.one_mul, Int.mul_one]
        exact h1.2.2.sub h1.2.1
      have m2 : Sm 6 (1 * step.2) := by
        rw [Int.one_mul]
        exact h1.2.2.mono (by decide)
      have sM : SmR 6 (rM (1, 1) step) := low2_sm hden m1 m2
      exact (ratB_sm (Int.mul_pos sT.1.1 g) ((sT.2.2.mul sM.2.1).mono (show n + 5 + 6 ≤ n + 20 by omega)))
    · rw [c2, a2, b2, qv_one]
section
variable {P : Program} {w : World} {K : PySem.W.Frag} {mg : Str → Option Value} {base : Heap} {aN aO : Addr}
def spLasting (K : PySem.W.Frag) : Sp := fun vs H Q _ => ∃ (p : Addr) (row : List RT) (step : RT) (n k : Nat), vs = [.ref p, .int (k : Int)] ∧ LifeAt K H p row step ∧ LifeOk n row step ∧ k ≤ 70 ∧
  ∀ z x H', Same H H' → RAt K H' z x → SmR 1800 x → qv x = 1 - sumCh row step k → Q (.ref z) H'
/-- one less a ratio -/
theorem one_less {x : RT} {n : Nat} (h : SmR n x) : SmR (n + 1) (rM (1, 1) x) ∧ qv (rM (1, 1) x) = 1 - qv x := by
  obtain ⟨b1, b2⟩ := qv_rM one_red h.1
  have hden : (0 : Int) < 1 * x.2 := by have := h.1.1; omega
  have m1 : Sm (n + 1) (1 * x.2 - x.1 * 1) := by
    rw [Int.one_mul, Int.mul_one]
    exact h.2.2.sub h.2.1
  have m2 : Sm (n + 1) (1 * x.2) := by
    rw [Int.one_mul]
    exact h.2.2.mono (by omega)
  refine ⟨low2_sm hden m1 m2, ?_⟩
  rw [b2, qv_one]
def rowQ (row : List RT) : Rat := (row.map qv).sum
end

end Fp

set_option Elab.async false
set_option linter.all false
set_option maxRecDepth 100000
set_option maxHeartbeats 4000000
set_option exponentiation.threshold 10000
namespace Fp
open PySem PySem.Spec PyProof.Rows L2
/-! ### the law's own sums, chances and rests -/
abbrev s_lsum : Stmt := topS 24
theorem sc_lsum : FnScope ["_law_some", "_law_found", "_law_one"] ["_law_some"] (defScope s_lsum) := ⟨rfl, rfl, rfl, by decide +kernel, rfl, by decide +kernel, by decide +kernel⟩
theorem sum_red {xs : List RT} {n d : Nat} {D : Int} {x : RT} (O : Over1 n d D xs) (hx : Red x) (h : qv x = (xs.map qv).sum) : x.2 ∣ D ∧ Sm (n + d + 11) x.1 := by
  have val : qv x = (((topsOn D xs).sum : Int) : Rat) / (D : Rat) := h.trans (tops_sum O.pos fun y hy => ⟨(O.ok y hy).1, (O.ok y hy).2.1⟩).symm
  obtain ⟨y1, y2⟩ := red_small hx O.pos val
  refine ⟨y1, ?_⟩
  have t := tops_sm (n := n) O.pos O.pos (Int.dvd_refl D) O.sm (xs := xs) fun y hy => ⟨(O.ok y hy).1, (O.ok y hy).2.2⟩
  have hlen := O.len
  unfold Sm
  have t2 : xs.length * 2 ^ (n + d) ≤ 1000 * 2 ^ (n + d) := Nat.mul_le_mul_right _ hlen
  have t3 : 2 ^ (n + d + 11) = 2048 * 2 ^ (n + d) := by rw [Nat.pow_add, Nat.mul_comm]
  have t4 : 0 < 2 ^ (n + d) := Nat.pow_pos (by decide)
  omega
theorem Over1.take {xs : List RT} {n d : Nat} {D : Int} (O : Over1 n d D xs) (i : Nat) : Over1 n d D (xs.take i) := ⟨O.pos, O.sm, fun x hx => O.ok x (List.mem_of_mem_take hx), by rw [List.length_take]; have := O.len; omega⟩
def rP (x y : RT) : RT := low2 (x.1 * y.2 + y.1 * x.2) (x.2 * y.2)
theorem qv_rP {x y : RT} (hx : Red x) (hy : 0 < y.2) : Red (rP x y) ∧ qv (rP x y) = qv x + qv y := by
  have hb := Int.mul_pos hx.1 hy
  refine ⟨low2_red (Int.ne_of_gt hb), ?_⟩
  unfold rP
  rw [qv_low2 hb, Rat.intCast_add, Rat.intCast_mul, Rat.intCast_mul, Rat.intCast_mul]
  have h1 := cast_ne (Int.ne_of_gt hx.1)
  have h2 := cast_ne (Int.ne_of_gt hy)
  unfold qv
  grind
section
variable {P : Program} {w : World} {K : PySem.W.Frag} {mg : Str → Option Value} {base : Heap}
def spLsum (K : PySem.W.Frag) (At : PySem.W.Frag → Hp → Addr → List RT → Prop) : Sp := fun vs H Q _ => ∃ (p : Addr) (xs : List RT) (n d : Nat) (D : Int), vs = [.ref p] ∧ At K H p xs ∧ Over1 n d D xs ∧ n ≤ 3500 ∧ d ≤ 3500 ∧
  ∀ z x H', Same H H' → RAt K H' z x → Red x → qv x = (xs.map qv).sum → x.2 ∣ D → Sm (n + d + 11) x.1 → Q (.ref z) H'
theorem ok_lsumL {f fL : Addr} {fd fdL : FuncData} (F : Fun K "_law_sum" "_law_sum" s_lsum f fd)
    (FL : Fun K "_law_low" "_law_low" s_low fL fdL) (bL : Binds K fdL ["_law_top", "_law_bottom"] []) (gL : mg "_law_low" = some (.ref fL)) (GL : FnOk P w K mg base CX0 1 fL fdL ["_law_top", "_law_bottom"] spLow) : FnOk P w K mg base CX0 2 f fd ["_law_some"] (spLsum K LstAt) := by
  refine F.ok sc_lsum (fun vs H Q E h => ?_) (fun cdv A outer s H vs Q E hr h => ?_)
  · obtain ⟨_, _, _, _, _, rfl, _⟩ := h
    rfl
  · obtain ⟨p, xs, n, d, D, rfl, hlst, O, hn, hd, q⟩ := h
    obtain ⟨rs, r1, r2⟩ := id hlst
    have hl := r2.length
    have hr1 := hr
    have d0 : 0 < d := by
      have h1 := O.sm
      have h2 := O.pos
      rcases Nat.eq_zero_or_pos d with z | z
      · rw [z] at h1
        unfold Sm at h1
        omega
      · exact z
    refine ⟨_, (pss_cons (ps_set (i := 1) sc_lsum.nd rfl (.inl rfl) (pe_tup (pa_cons pe_int (pa_cons pe_int pa_nil)))) (pss_cons (ps_for PassesOwn.never rfl (pi_list (pv 0)) (pg_name (i := 2) sc_lsum.nd rfl (.inl rfl)) (pss_one (ps_set (i := 1) sc_lsum.nd rfl (.inl rfl) (pe_call GL hr1 (by rfl) gL FL.kp bL .nil pass0 (pa_cons (pe_op op_add (pe_op op_mulA (pe_ix ix_tup (pv 1) pe_int (fun _ _ => rfl)) (pe_ix ix_tup (pv 2) pe_int (fun _ _ => rfl))) (pe_op op_mulA (pe_ix ix_tup (pv 2) pe_int (fun _ _ => rfl)) (pe_ix ix_tup (pv 1) pe_int (fun _ _ => rfl)))) (pa_cons (pe_op op_mulA (pe_ix ix_tup (pv 1) pe_int (fun _ _ => rfl)) (pe_ix ix_tup (pv 2) pe_int (fun _ _ => rfl))) pa_nil)))))) (pss_one (ps_ret (pv 1))))), ?_⟩
    refine ⟨by show 2 ≤ sizeLine; decide, fun a na => ?_⟩
    have e := same_new (o := HO.tup [.int 0, .int 1]) na
    refine ⟨_, rfl, p, rfl, ⟨_, e.seq r1⟩, for_list (K := K) (a := p) (xs := rs.map V.ref) (fun i σ H1 => ∃ (b : Addr) (y : RT) (y2 : Option V), σ = [some (.ref p), some (.ref b), y2] ∧ Same H H1 ∧ RAt K H1 b y ∧ Red y ∧ qv y = ((xs.take i).map qv).sum) ?_ ?_ ?_ ?_⟩
    · exact ⟨a, (0, 1), _, rfl, e, SqT.of upd_same, ⟨by decide, by decide⟩, by unfold qv; show ((0 : Int) : Rat) / ((1 : Int) : Rat) = 0; grind⟩
    · rintro i σ H1 _ ⟨_, _, _, _, s1, _⟩
      exact s1.seq r1
    · rintro i v σ H1 hi ⟨b, y, y2, rfl, s1, hb, ry, vy⟩
      have hi2 : i < xs.length := by
        have := (List.getElem?_eq_some_iff.mp hi).1
        rw [List.length_map, hl] at this
        exact this
      have hg : xs[i]? = some xs[i] := List.getElem?_eq_getElem hi2
      obtain ⟨r, er, hr2⟩ := r2.get hg
      have ev : v = .ref r := by
        rw [List.getElem?_map, er] at hi
        exact (Option.some.inj hi).symm
      subst ev
      obtain ⟨b0, bD, sn⟩ := O.ok xs[i] (List.getElem_mem hi2)
      obtain ⟨dy, sy⟩ := sum_red (O.take i) ry vy
      have sy2 : Sm d y.2 := dvd_small dy O.pos O.sm
      have sx2 : Sm d xs[i].2 := dvd_small bD O.pos O.sm
      have hr3 := hr2.tk (Tk.same (K := K) s1)
      refine ⟨_, rfl, b, _, 0, _, rfl, rfl, hb, atI_nat (j := 0) rfl, _, rfl, r, _, 1, _, rfl, rfl, hr3, atI_nat (j := 1) rfl, _, _, rfl, rfl, sy.cmul sx2 (by omega) d0 (by omega),
        _, rfl, r, _, 0, _, rfl, rfl, hr3, atI_nat (j := 0) rfl, _, rfl, b, _, 1, _, rfl, rfl, hb, atI_nat (j := 1) rfl, _, _, rfl, rfl, (sn.mono (show n ≤ n + 1 by omega)).cmul sy2 (by omega) d0 (by omega), _, _, rfl, rfl,
        _, rfl, b, _, 1, _, rfl, rfl, hb, atI_nat (j := 1) rfl, _, rfl, r, _, 1, _, rfl, rfl, hr3, atI_nat (j := 1) rfl, _, _, rfl, rfl, sy2.cmul sx2 d0 d0 (by omega), ?_⟩
      refine ⟨_, _, rfl, Int.mul_pos ry.1 b0, (sy2.mul sx2).mono (by omega), fun z nz => ?_⟩
      have e2 := same_new (o := HO.tup [.int (rP y xs[i]).1, .int (rP y xs[i]).2]) nz
      obtain ⟨w1, w2⟩ := qv_rP ry b0
      refine ⟨z, rP y xs[i], _, rfl, s1.trans e2, SqT.of upd_same, w1, ?_⟩
      rw [w2, vy, List.take_add_one, hg]
      show _ = ((xs.take i ++ [xs[i]]).map qv).sum
      rw [List.map_append, List.map_singleton, sum_snoc]
    · rintro σ H1 ⟨b, y, y2, rfl, s1, hb, ry, vy⟩
      rw [List.length_map, hl, List.take_length] at vy
      obtain ⟨dy, sy⟩ := sum_red O ry vy
      exact ⟨_, rfl, q b y _ s1 hb ry vy dy sy⟩
theorem ok_lsumT {f fL : Addr} {fd fdL : FuncData} (F : Fun K "_law_sum" "_law_sum" s_lsum f fd)
    (FL : Fun K "_law_low" "_law_low" s_low fL fdL) (bL : Binds K fdL ["_law_top", "_law_bottom"] []) (gL : mg "_law_low" = some (.ref fL)) (GL : FnOk P w K mg base CX0 1 fL fdL ["_law_top", "_law_bottom"] spLow) : FnOk P w K mg base CX0 2 f fd ["_law_some"] (spLsum K RowAt) := by
  refine F.ok sc_lsum (fun vs H Q E h => ?_) (fun cdv A outer s H vs Q E hr h => ?_)
  · obtain ⟨_, _, _, _, _, rfl, _⟩ := h
    rfl
  · obtain ⟨p, xs, n, d, D, rfl, hlst, O, hn, hd, q⟩ := h
    obtain ⟨rs, r1, r2⟩ := id hlst
    have hl := r2.length
    have hr1 := hr
    have d0 : 0 < d := by
      have h1 := O.sm
      have h2 := O.pos
      rcases Nat.eq_zero_or_pos d with z | z
      · rw [z] at h1
        unfold Sm at h1
        omega
      · exact z
    refine ⟨_, (pss_cons (ps_set (i := 1) sc_lsum.nd rfl (.inl rfl) (pe_tup (pa_cons pe_int (pa_cons pe_int pa_nil)))) (pss_cons (ps_for PassesOwn.never rfl (pi_tup (pv 0)) (pg_name (i := 2) sc_lsum.nd rfl (.inl rfl)) (pss_one (ps_set (i := 1) sc_lsum.nd rfl (.inl rfl) (pe_call GL hr1 (by rfl) gL FL.kp bL .nil pass0 (pa_cons (pe_op op_add (pe_op op_mulA (pe_ix ix_tup (pv 1) pe_int (fun _ _ => rfl)) (pe_ix ix_tup (pv 2) pe_int (fun _ _ => rfl))) (pe_op op_mulA (pe_ix ix_tup (pv 2) pe_int (fun _ _ => rfl)) (pe_ix ix_tup (pv 1) pe_int (fun _ _ => rfl)))) (pa_cons (pe_op op_mulA (pe_ix ix_tup (pv 1) pe_int (fun _ _ => rfl)) (pe_ix ix_tup (pv 2) pe_int (fun _ _ => rfl))) pa_nil)))))) (pss_one (ps_ret (pv 1))))), ?_⟩
    refine ⟨by show 2 ≤ sizeLine; decide, fun a na => ?_⟩
    have e := same_new (o := HO.tup [.int 0, .int 1]) na
    refine ⟨_, rfl, p, rfl, ⟨_, sqT_same e r1⟩, for_tup (K := K) (a := p) (xs := rs.map V.ref) (fun i σ H1 => ∃ (b : Addr) (y : RT) (y2 : Option V), σ = [some (.ref p), some (.ref b), y2] ∧ Same H H1 ∧ RAt K H1 b y ∧ Red y ∧ qv y = ((xs.take i).map qv).sum) ?_ ?_ ?_ ?_⟩
    · exact ⟨a, (0, 1), _, rfl, e, SqT.of upd_same, ⟨by decide, by decide⟩, by unfold qv; show ((0 : Int) : Rat) / ((1 : Int) : Rat) = 0; grind⟩
    · rintro i σ H1 _ ⟨_, _, _, _, s1, _⟩
      exact sqT_same s1 r1
    · rintro i v σ H1 hi ⟨b, y, y2, rfl, s1, hb, ry, vy⟩
      have hi2 : i < xs.length := by
        have := (List.getElem?_eq_some_iff.mp hi).1
        rw [List.length_map, hl] at this
        exact this
      have hg : xs[i]? = some xs[i] := List.getElem?_eq_getElem hi2
      obtain ⟨r, er, hr2⟩ := r2.get hg
      have ev : v = .ref r := by
        rw [List.getElem?_map, er] at hi
        exact (Option.some.inj hi).symm
      subst ev
      obtain ⟨b0, bD, sn⟩ := O.ok xs[i] (List.getElem_mem hi2)
      obtain ⟨dy, sy⟩ := sum_red (O.take i) ry vy
      have sy2 : Sm d y.2 := dvd_small dy O.pos O.sm
      have sx2 : Sm d xs[i].2 := dvd_small bD O.pos O.sm
      have hr3 := hr2.tk (Tk.same (K := K) s1)
      refine ⟨_, rfl, b, _, 0, _, rfl, rfl, hb, atI_nat (j := 0) rfl, _, rfl, r, _, 1, _, rfl, rfl, hr3, atI_nat (j := 1) rfl, _, _, rfl, rfl, sy.cmul sx2 (by omega) d0 (by omega),
        _, rfl, r, _, 0, _, rfl, rfl, hr3, atI_nat (j := 0) rfl, _, rfl, b, _, 1, _, rfl, rfl, hb, atI_nat (j := 1) rfl, _, _, rfl, rfl, (sn.mono (show n ≤ n + 1 by omega)).cmul sy2 (by omega) d0 (by omega), _, _, rfl, rfl,
        _, rfl, b, _, 1, _, rfl, rfl, hb, atI_nat (j := 1) rfl, _, rfl, r, _, 1, _, rfl, rfl, hr3, atI_nat (j := 1) rfl, _, _, rfl, rfl, sy2.cmul sx2 d0 d0 (by omega), ?_⟩
      refine ⟨_, _, rfl, Int.mul_pos ry.1 b0, (sy2.mul sx2).mono (by omega), fun z nz => ?_⟩
      have e2 := same_new (o := HO.tup [.int (rP y xs[i]).1, .int (rP y xs[i]).2]) nz
      obtain ⟨w1, w2⟩ := qv_rP ry b0
      refine ⟨z, rP y xs[i], _, rfl, s1.trans e2, SqT.of upd_same, w1, ?_⟩
      rw [w2, vy, List.take_add_one, hg]
      show _ = ((xs.take i ++ [xs[i]]).map qv).sum
      rw [List.map_append, List.map_singleton, sum_snoc]
    · rintro σ H1 ⟨b, y, y2, rfl, s1, hb, ry, vy⟩
      rw [List.length_map, hl, List.take_length] at vy
      obtain ⟨dy, sy⟩ := sum_red O ry vy
      exact ⟨_, rfl, q b y _ s1 hb ry vy dy sy⟩
def spLpower (K : PySem.W.Frag) : Sp := fun vs H Q _ => ∃ (p : Addr) (x : RT) (far : Nat), vs = [.ref p, .int (far : Int)] ∧ RAt K H p x ∧ SmR 5 x ∧ far ≤ 80 ∧
  ∀ z y H', Same H H' → RAt K H' z y → SmR (1 + 5 * far) y → qv y = qv x ^ far → Q (.ref z) H'
theorem pow_val {l step : RT} (hl : 0 < l.2) (hs : 0 < step.2) (j : Nat) : qv l * qv step ^ j = ((l.1 * step.1 ^ j : Int) : Rat) / ((l.2 * step.2 ^ j : Int) : Rat) := by
  induction j with
  | zero =>
    rw [Rat.pow_zero, Int.pow_zero, Int.pow_zero, Int.mul_one, Int.mul_one]
    unfold qv
    grind
  | succ j ih =>
    have h1 := cast_ne (Int.ne_of_gt hs)
    have h2 := cast_ne (Int.ne_of_gt (Int.mul_pos hl (show (0 : Int) < step.2 ^ j from Int.pow_pos hs)))
    rw [Rat.pow_succ, ← Rat.mul_assoc, ih, Int.pow_succ, Int.pow_succ, ← Int.mul_assoc, ← Int.mul_assoc, Rat.intCast_mul (l.1 * step.1 ^ j), Rat.intCast_mul (l.2 * step.2 ^ j)]
    unfold qv
    grind
theorem zero_pow {j : Nat} (h : 0 < j) : (0 : Rat) ^ j = 0 := by
  obtain ⟨i, rfl⟩ : ∃ i, j = i + 1 := ⟨j - 1, by omega⟩
  rw [Rat.pow_succ]
  grind
def spLchance (K : PySem.W.Frag) : Sp := fun vs H Q _ => ∃ (p : Addr) (row : List RT) (step : RT) (n k : Nat), vs = [.ref p, .int (k : Int)] ∧ LifeAt K H p row step ∧ LifeOk n row step ∧ (row = [] → step = (0, 1)) ∧ 1 ≤ k ∧ k ≤ 70 ∧
  ∀ z x H', Same H H' → RAt K H' z x → SmR 500 x → qv x = chR row step (k - 1) → Q (.ref z) H'
end
/-- all chances from a place on -/
def restR (row : List RT) (step : RT) (k : Nat) : Rat := rowQ (row.drop k) + match row.getLast? with
  | none => 0
  | some l => qv l * qv step ^ (1 + (k - row.length)) / (1 - qv step)
theorem restR_zero {row : List RT} {step : RT} : restR row step 0 = rowQ row + behQ row step := by
  unfold restR behQ
  rw [List.drop_zero]
  match row.getLast? with
  | none => rfl
  | some l =>
    show _ + qv l * qv step ^ (1 + (0 - row.length)) / (1 - qv step) = _
    rw [Nat.zero_sub, Nat.add_zero]
    have : qv step ^ 1 = qv step := by
      rw [show (1 : Nat) = 0 + 1 from rfl, Rat.pow_succ, Rat.pow_zero]
      grind
    rw [this]
theorem restR_next {row : List RT} {step : RT} (hs : (1 : Rat) - qv step ≠ 0) (k : Nat) : restR row step k = chR row step k + restR row step (k + 1) := by
  rcases Classical.em (row = []) with z | z
  · subst z
    rw [chR_nil]
    unfold restR
    show (([].drop k : List RT).map qv).sum + 0 = 0 + ((([].drop (k + 1) : List RT).map qv).sum + 0)
    rw [List.drop_nil, List.drop_nil]
    grind
  · obtain ⟨l, g1, g2, g3⟩ := last_is z
    rcases (by omega : k < row.length ∨ row.length ≤ k) with hk | hk
    · have hg : row[k]? = some row[k] := List.getElem?_eq_getElem hk
      have ed : row.drop k = row[k] :: row.drop (k + 1) := List.drop_eq_getElem_cons hk
      rw [chR_in hg]
      unfold restR
      rw [g1, ed, show k - row.length = 0 by omega, show k + 1 - row.length = 0 by omega]
      show (qv row[k] + ((row.drop (k + 1)).map qv).sum) + _ = qv row[k] + (rowQ (row.drop (k + 1)) + _)
      unfold rowQ
      grind
    · rw [chR_out hk g1]
      unfold restR
      rw [g1, List.drop_eq_nil_of_le hk, List.drop_eq_nil_of_le (by omega)]
      show rowQ [] + qv l * qv step ^ (1 + (k - row.length)) / (1 - qv step) = qv l * qv step ^ (k + 1 - row.length) + (rowQ [] + qv l * qv step ^ (1 + (k + 1 - row.length)) / (1 - qv step))
      rw [show 1 + (k - row.length) = k + 1 - row.length by omega, show 1 + (k + 1 - row.length) = (k + 1 - row.length) + 1 by omega, Rat.pow_succ]
      grind
theorem restR_sum {row : List RT} {step : RT} (hs : (1 : Rat) - qv step ≠ 0) : ∀ k : Nat, restR row step 0 = sumCh row step k + restR row step k
  | 0 => by
    show _ = 0 + _
    grind
  | k + 1 => by
    rw [restR_sum hs k, restR_next hs k]
    show _ = sumCh row step k + chR row step k + _
    grind

end Fp

set_option Elab.async false
set_option linter.all false
set_option maxRecDepth 100000
set_option maxHeartbeats 4000000
set_option exponentiation.threshold 10000
namespace Fp
open PySem PySem.Spec PyProof.Rows L2
theorem tNoPart_go {σ : L2.St} {H : Hp} {Q : Option Int → Hp → Prop} (h : Q none H) : tNoPart σ H Q := h
theorem cutV_from (vs : List V) (n : Nat) : cutV vs (some (n : Int)) none = vs.drop n := by
  unfold cutV
  rw [HT.sIx_none, HT.sIx_nat]
  rcases Nat.le_total n vs.length with z | z
  · rw [Nat.min_eq_left z]
    rw [List.take_of_length_le (by rw [List.length_drop]; exact Nat.le_refl _)]
  · rw [Nat.min_eq_right z, List.drop_eq_nil_of_le (Nat.le_refl _), List.drop_eq_nil_of_le z, List.take_nil]
/-- row[n:] -/
theorem from_row {K : PySem.W.Frag} {H : Hp} {p : Addr} {xs : List RT} {n : Nat} {Q : VK} (h : RowAt K H p xs) (hq : ∀ r H', Same H H' → RowAt K H' r (xs.drop n) → Q (.ref r) H') : rSlA K (.ref p) (some (n : Int)) none H Q := by
  obtain ⟨rs, h1, h2⟩ := h
  have hl := h2.length
  refine ⟨p, _, rfl, h1, fun z => ?_, fun _ r nr => ?_⟩
  · have z1 := z.1
    rw [HT.sIx_nat, List.length_map] at z1
    refine hq p H (Same.refl H) ?_
    rcases (by omega : n = 0 ∨ xs.length = 0) with e | e
    · rw [e, List.drop_zero]
      exact ⟨rs, h1, h2⟩
    · have e2 := List.length_eq_zero_iff.mp e
      subst e2
      rw [List.drop_nil]
      exact ⟨rs, h1, h2⟩
  · rw [cutV_from]
    have s := same_new (o := HO.tup ((rs.map V.ref).drop n)) nr
    refine hq r _ s ⟨rs.drop n, ?_, (h2.drop n).tk (Tk.same s)⟩
    rw [List.map_drop]
    exact SqT.of upd_same
theorem over_two {x y : RT} {n a b : Nat} (hx : 0 < x.2) (hy : 0 < y.2) (sx : Sm n x.1) (sy : Sm n y.1) (dx : Sm a x.2) (dy : Sm b y.2) : Over1 n (a + b) (x.2 * y.2) [x, y] := by
  refine ⟨Int.mul_pos hx hy, dx.mul dy, fun z hz => ?_, by show 2 ≤ 1000; decide⟩
  rcases List.mem_cons.mp hz with e | e
  · subst e
    exact ⟨hx, Int.dvd_mul_right .., sx⟩
  · rw [List.mem_singleton.mp e]
    exact ⟨hy, Int.dvd_mul_left .., sy⟩
theorem sum_two (x y : RT) : (([x, y] : List RT).map qv).sum = qv x + qv y := by
  show qv x + (qv y + 0) = _
  grind
section
variable {P : Program} {w : World} {K : PySem.W.Frag} {mg : Str → Option Value} {base : Heap}
def spLrest (K : PySem.W.Frag) : Sp := fun vs H Q _ => ∃ (p : Addr) (row : List RT) (step : RT) (n k : Nat), vs = [.ref p, .int (k : Int)] ∧ LifeAt K H p row step ∧ LifeOk n row step ∧ (row = [] → step = (0, 1)) ∧ k ≤ 70 ∧
  ∀ z x H', Same H H' → RAt K H' z x → Red x → qv x = restR row step k → Sm 2350 x.1 → Sm 1350 x.2 → Q (.ref z) H'
end

end Fp

set_option Elab.async false
set_option linter.all false
set_option maxRecDepth 100000
set_option maxHeartbeats 4000000
set_option exponentiation.threshold 10000
namespace Fp
open PySem PySem.Spec PyProof.Rows L2
/-! ### the one ratio in lowest terms of a value -/
def rdq (q : Rat) : RT := (q.num, (q.den : Int))
theorem rdq_red (q : Rat) : Red (rdq q) := ⟨by have := q.den_nz; show (0 : Int) < (q.den : Int); omega, by
  have := q.reduced
  show Nat.gcd q.num.natAbs ((q.den : Int)).natAbs = 1
  rw [Int.natAbs_natCast]
  exact this⟩
theorem qv_rdq (q : Rat) : qv (rdq q) = q := by
  have h := Rat.num_divInt_den q
  rw [Rat.divInt_eq_div] at h
  exact h
theorem red_rdq {x : RT} (h : Red x) : x = rdq (qv x) := qv_inj h (rdq_red _) (qv_rdq _).symm
theorem is_rdq {x : RT} {q : Rat} (h : Red x) (e : qv x = q) : x = rdq q := by
  rw [← e]
  exact red_rdq h
mutual
theorem Dp.same' {K : PySem.W.Frag} {H H' : Hp} (e : Same H H') : ∀ {v : V} {d : PyData}, Dp K H v d → Dp K H' v d
  | _, _, .non => .non
  | _, _, .bl b => .bl b
  | _, _, .int i => .int i
  | _, _, .str x => .str x
  | _, _, .lst h r => .lst (e.seq h) (DpAll.same' e r)
  | _, _, .tup h r => .tup (sqT_same e h) (DpAll.same' e r)
theorem DpAll.same' {K : PySem.W.Frag} {H H' : Hp} (e : Same H H') : ∀ {vs : List V} {ds : List PyData}, DpAll K H vs ds → DpAll K H' vs ds
  | _, _, .nil => .nil
  | _, _, .cons h r => .cons (Dp.same' e h) (DpAll.same' e r)
end

end Fp

set_option Elab.async false
set_option linter.all false
set_option maxRecDepth 100000
set_option maxHeartbeats 4000000
set_option exponentiation.threshold 10000
namespace Fp
open PySem PySem.Spec PyProof.Rows L2
/-! ### lives shown -/
theorem sh_int {i : Int} (h : Sm 1900 i) : (PyData.int i).showable = true ∧ (PyData.int i).leavesShort 2000 = true := by
  have l : i.natAbs.log2 < 1900 := h.log (by decide)
  refine ⟨?_, ?_⟩
  · simp only [PyData.showable, decide_eq_true_eq]
    omega
  · simp only [PyData.leavesShort, decide_eq_true_eq]
    have e := int_text_length_le (k := 1900) (by decide) l
    show (Str.ofString (toString i)).length ≤ 2000
    rw [PySem.ofString_length]
    omega
/-- a thing that may be shown within others -/
structure Sh (c k : Nat) (d : PyData) : Prop where
  sh : d.showable = true
  lv : d.leavesShort 2000 = true
  co : cost d ≤ c
  dp : d.depth ≤ k
theorem Sh.shows {c k : Nat} {d : PyData} (h : Sh c k d) (hc : c ≤ 16000000) (hk : k ≤ 60) : Shows d := ⟨h.sh, h.lv, Nat.le_trans h.co hc, Nat.le_trans h.dp hk⟩
structure Shs (c k : Nat) (ds : List PyData) : Prop where
  sh : PyData.showableAll ds = true
  lv : PyData.leavesShortAll 2000 ds = true
  co : costAll ds ≤ c
  dp : PyData.depthAll ds ≤ k
theorem Shs.nil {k : Nat} : Shs 0 k [] := ⟨rfl, rfl, Nat.le_refl _, Nat.zero_le _⟩
theorem Shs.cons {c1 c2 k : Nat} {d : PyData} {ds : List PyData} (h : Sh c1 k d) (hs : Shs c2 k ds) : Shs (c1 + 2 + c2) k (d :: ds) := by
  refine ⟨?_, ?_, ?_, ?_⟩
  · show (d.showable && PyData.showableAll ds) = true
    rw [h.sh, hs.sh]
    rfl
  · show (d.leavesShort 2000 && PyData.leavesShortAll 2000 ds) = true
    rw [h.lv, hs.lv]
    rfl
  · show cost d + 2 + costAll ds ≤ _
    have := h.co
    have := hs.co
    omega
  · show max d.depth (PyData.depthAll ds) ≤ k
    have := h.dp
    have := hs.dp
    omega
theorem Shs.tup {c k : Nat} {ds : List PyData} (h : Shs c k ds) : Sh (c + 3) (k + 1) (.tuple ds) := ⟨h.sh, h.lv, Nat.add_le_add_right h.co 3, Nat.add_le_add_right h.dp 1⟩
theorem Shs.lst {c k : Nat} {ds : List PyData} (h : Shs c k ds) : Sh (c + 3) (k + 1) (.list ds) := ⟨h.sh, h.lv, Nat.add_le_add_right h.co 3, Nat.add_le_add_right h.dp 1⟩
theorem Sh.int {i : Int} (h : Sm 1900 i) : Sh 2000 0 (.int i) := ⟨(sh_int h).1, (sh_int h).2, Nat.le_refl _, Nat.le_refl _⟩
theorem Sh.bool {b : Bool} : Sh 5 0 (.bool b) := ⟨rfl, rfl, Nat.le_refl _, Nat.le_refl _⟩
theorem Sh.mono {c c2 k k2 : Nat} {d : PyData} (h : Sh c k d) (h1 : c ≤ c2) (h2 : k ≤ k2) : Sh c2 k2 d := ⟨h.sh, h.lv, Nat.le_trans h.co h1, Nat.le_trans h.dp h2⟩
theorem Shs.mono {c c2 k k2 : Nat} {ds : List PyData} (h : Shs c k ds) (h1 : c ≤ c2) (h2 : k ≤ k2) : Shs c2 k2 ds := ⟨h.sh, h.lv, Nat.le_trans h.co h1, Nat.le_trans h.dp h2⟩
def ratD (x : RT) : PyData := .tuple [.int x.1, .int x.2]
theorem Sh.rat {x : RT} {n : Nat} (h : SmR n x) (hn : n ≤ 1900) : Sh 4007 1 (ratD x) := (Shs.cons (Sh.int (h.2.1.mono hn)) (Shs.cons (Sh.int (h.2.2.mono hn)) Shs.nil)).tup
theorem Shs.row {n : Nat} (hn : n ≤ 1900) : ∀ {xs : List RT}, (∀ x ∈ xs, SmR n x) → Shs (4009 * xs.length) 1 (rowD xs)
  | [], _ => Shs.nil
  | x :: r, h => by
    have h1 := Shs.cons (Sh.rat (h x (List.mem_cons_self ..)) hn) (Shs.row hn fun y hy => h y (List.mem_cons_of_mem _ hy))
    refine h1.mono ?_ (Nat.le_refl _)
    rw [List.length_cons]
    omega
def lifeD (row : List RT) (step : RT) : PyData := .tuple [.tuple (rowD row), ratD step]
theorem Sh.life {n : Nat} {row : List RT} {step : RT} (hn : n ≤ 1900) (h : ∀ x ∈ row, SmR n x) (hs : SmR n step) (hl : row.length ≤ 100) : Sh 500000 3 (lifeD row step) := by
  have h1 := (Shs.row hn h).tup
  have h2 := (Shs.cons h1 (Shs.cons ((Sh.rat hs hn).mono (Nat.le_refl _) (by decide : 1 ≤ 2)) Shs.nil)).tup
  exact h2.mono (by omega) (Nat.le_refl _)
theorem LifeAt.dp {K : PySem.W.Frag} {H : Hp} {p : Addr} {row : List RT} {step : RT} (h : LifeAt K H p row step) : Dp K H (.ref p) (lifeD row step) := by
  obtain ⟨pr, ps, h1, h2, h3⟩ := h
  exact .tup h1 (.cons h2.dp (.cons h3.dp .nil))

end Fp

set_option Elab.async false
set_option linter.all false
set_option maxRecDepth 100000
set_option maxHeartbeats 4000000
set_option exponentiation.threshold 10000
namespace Fp
open PySem PySem.Spec PyProof.Rows L2
theorem flat_rep {α : Type} (a : α) : ∀ k : Nat, (List.replicate k [a]).flatten = List.replicate k a
  | 0 => rfl
  | k + 1 => by
    rw [List.replicate_succ, List.flatten_cons, flat_rep a k]
    rfl
theorem RsAt.rep {K : PySem.W.Frag} {H : Hp} {p : Addr} {x : RT} (h : RAt K H p x) : ∀ k : Nat, RsAt K H (List.replicate k p) (List.replicate k x)
  | 0 => .nil
  | k + 1 => .cons h (RsAt.rep h k)
/-- ((0, 1),) * k -/
theorem rep_row {K : PySem.W.Frag} {H : Hp} {p a : Addr} {x : RT} {k : Nat} {Q : VK} (h : SqT K H p [.ref a]) (ha : RAt K H a x) (hk : k ≤ 1000) (q : ∀ r H', Same H H' → RowAt K H' r (List.replicate k x) → Q (.ref r) H') : rRepA K (.ref p) (.int (k : Int)) H Q := by
  refine ⟨p, k, _, rfl, rfl, h, by simp, by omega, by omega, by show 1 ≤ 1000; decide, fun z => ?_, fun _ r nr => ?_⟩
  · have e : k = 1 := by omega
    subst e
    exact q p H (Same.refl H) ⟨[a], h, .cons ha .nil⟩
  · have s := same_new (o := HO.tup (List.replicate (k : Int).toNat [V.ref a]).flatten) nr
    refine q r _ s ⟨List.replicate k a, ?_, (RsAt.rep ha k).tk (Tk.same s)⟩
    have e : (List.replicate k a).map V.ref = (List.replicate (k : Int).toNat [V.ref a]).flatten := by
      rw [flat_rep, List.map_replicate, Int.toNat_natCast]
    rw [e]
    exact SqT.of upd_same

end Fp

set_option Elab.async false
set_option linter.all false
set_option maxRecDepth 100000
set_option maxHeartbeats 4000000
set_option exponentiation.threshold 10000
namespace Fp
open PySem PySem.Spec PyProof.Rows L2
/-! ### the short life with the same chances: what both sides come to -/
def trimZ (xs : List RT) : List RT := (xs.reverse.dropWhile (fun x => decide (x = ((0 : Int), (1 : Int))))).reverse
theorem trimZ_nil : trimZ [] = [] := rfl
theorem trimZ_nought (xs : List RT) : trimZ (xs ++ [(0, 1)]) = trimZ xs := by
  unfold trimZ
  rw [List.reverse_append]
  show (List.dropWhile _ ((0, 1) :: xs.reverse)).reverse = _
  rw [List.dropWhile_cons_of_pos (by decide)]
theorem trimZ_stop (xs : List RT) {x : RT} (h : x ≠ (0, 1)) : trimZ (xs ++ [x]) = xs ++ [x] := by
  unfold trimZ
  rw [List.reverse_append]
  show (List.dropWhile _ (x :: xs.reverse)).reverse = _
  rw [List.dropWhile_cons_of_neg (by simpa using h), List.reverse_cons, List.reverse_reverse]
theorem trimZ_noughts (xs : List RT) : ∀ n, trimZ (xs ++ List.replicate n (0, 1)) = trimZ xs
  | 0 => by rw [List.replicate_zero, List.append_nil]
  | n + 1 => by rw [List.replicate_succ', ← List.append_assoc, trimZ_nought, trimZ_noughts xs n]
theorem trimZ_cases (xs : List RT) : trimZ xs = [] ∨ ∃ ys y, trimZ xs = ys ++ [y] ∧ y ≠ (0, 1) := by
  suffices h : ∀ n (xs : List RT), xs.length = n → trimZ xs = [] ∨ ∃ ys y, trimZ xs = ys ++ [y] ∧ y ≠ (0, 1) from h _ xs rfl
  intro n
  induction n with
  | zero =>
    intro xs h
    rw [List.length_eq_zero_iff.mp h]
    exact .inl rfl
  | succ n ih =>
    intro xs h
    rcases snoc_cases xs with rfl | ⟨ys, y, rfl⟩
    · cases h
    · rcases Classical.em (y = (0, 1)) with rfl | hy
      · rw [trimZ_nought]
        exact ih ys (by simpa using h)
      · rw [trimZ_stop _ hy]
        exact .inr ⟨ys, y, rfl, hy⟩
theorem trimZ_idem (xs : List RT) : trimZ (trimZ xs) = trimZ xs := by
  rcases trimZ_cases xs with h | ⟨ys, y, h, hy⟩
  · rw [h]
    rfl
  · rw [h, trimZ_stop _ hy]
def revG (step : RT) : List RT → List RT
  | a :: b :: r => if a = rT b step then revG step (b :: r) else a :: b :: r
  | l => l
def trimG (xs : List RT) (step : RT) : List RT := (revG step xs.reverse).reverse
theorem trimG_one (a step : RT) : trimG [a] step = [a] := rfl
theorem rev_two (xs : List RT) (b a : RT) : (xs ++ [b] ++ [a]).reverse = a :: b :: xs.reverse := by
  rw [List.reverse_append, List.reverse_append]
  rfl
theorem rev_one (xs : List RT) (b : RT) : (xs ++ [b]).reverse = b :: xs.reverse := by
  rw [List.reverse_append]
  rfl
theorem trimG_cut (xs : List RT) (b step : RT) : trimG (xs ++ [b] ++ [rT b step]) step = trimG (xs ++ [b]) step := by
  unfold trimG
  rw [rev_two, rev_one]
  show (if rT b step = rT b step then revG step (b :: xs.reverse) else _).reverse = _
  rw [if_pos rfl]
theorem trimG_stop (xs : List RT) {a b step : RT} (h : a ≠ rT b step) : trimG (xs ++ [b] ++ [a]) step = xs ++ [b] ++ [a] := by
  unfold trimG
  rw [rev_two]
  show (if a = rT b step then _ else a :: b :: xs.reverse).reverse = _
  rw [if_neg h, List.reverse_cons, List.reverse_cons, List.reverse_reverse]
theorem low2_nought {b : Int} (hb : 0 < b) : low2 0 b = (0, 1) :=
  red_eq (low2_red (Int.ne_of_gt hb)) ⟨by decide, by decide⟩ (by
    have := low2_cross (t := 0) hb
    rw [Int.zero_mul] at this
    have e : (low2 0 b).1 = 0 := by
      rcases Int.mul_eq_zero.mp this with z | z
      · exact z
      · omega
    rw [e]
    show (0 : Int) * 1 = 0 * _
    rw [Int.zero_mul, Int.zero_mul])
theorem low2_zero {t b : Int} (hb : 0 < b) : low2 t b = (0, 1) ↔ t = 0 := by
  refine ⟨fun h => ?_, fun h => by rw [h]; exact low2_nought hb⟩
  have := low2_cross (t := t) hb
  rw [h] at this
  dsimp only at this
  omega
theorem red_zero {x : RT} (h : Red x) : x = (0, 1) ↔ x.1 = 0 := by
  refine ⟨fun z => by rw [z], fun z => ?_⟩
  refine red_eq h ⟨by decide, by decide⟩ ?_
  rw [z]
  simp
theorem rT_zero {x y : RT} (hx : Red x) (hy : Red y) : rT x y = (0, 1) ↔ x = (0, 1) ∨ y = (0, 1) := by
  unfold rT
  rw [low2_zero (Int.mul_pos hx.1 hy.1), red_zero hx, red_zero hy, Int.mul_eq_zero]
/-- the last of a trimmed one isn't nought, and it is trimmed -/
theorem trimG_good (step : RT) : ∀ (n : Nat) (xs : List RT) (a : RT), xs.length = n → (∀ x ∈ xs ++ [a], Red x) → Red step → a ≠ (0, 1) → step ≠ (0, 1) →
    ∃ ys b, trimG (xs ++ [a]) step = ys ++ [b] ∧ b ≠ (0, 1) ∧ trimG (ys ++ [b]) step = ys ++ [b] ∧ (ys ++ [b]).length ≤ (xs ++ [a]).length ∧ ∀ x ∈ ys ++ [b], x ∈ xs ++ [a] := by
  intro n
  induction n with
  | zero =>
    intro xs a h _ _ ha _
    rw [List.length_eq_zero_iff.mp h]
    exact ⟨[], a, trimG_one a step, ha, trimG_one a step, Nat.le_refl _, fun x hx => hx⟩
  | succ n ih =>
    intro xs a h hr hs ha hz
    rcases snoc_cases xs with rfl | ⟨ys, b, rfl⟩
    · cases h
    · rcases Classical.em (a = rT b step) with rfl | hn
      · have hb : Red b := hr b (by simp)
        have hb0 : b ≠ (0, 1) := fun z => ha ((rT_zero hb hs).mpr (.inl z))
        obtain ⟨zs, c, e1, e2, e3, e4, e5⟩ := ih ys b (by simpa using h) (fun x hx => hr x (List.mem_append_left _ hx)) hs hb0 hz
        rw [trimG_cut]
        refine ⟨zs, c, e1, e2, e3, ?_, fun x hx => List.mem_append_left _ (e5 x hx)⟩
        rw [List.length_append (as := ys ++ [b])]
        omega
      · rw [trimG_stop _ hn]
        exact ⟨ys ++ [b], a, rfl, ha, trimG_stop _ hn, Nat.le_refl _, fun x hx => hx⟩
/-- the row has a last one that isn't nought, and goes on by the step -/
def GoesOn (row : List RT) (step : RT) : Prop := step ≠ (0, 1) ∧ ∃ ys y, row = ys ++ [y] ∧ y ≠ (0, 1)
open Classical in
noncomputable def shortL (row : List RT) (step : RT) : List RT × RT := if GoesOn row step then (trimG row step, step) else (trimZ row, (0, 1))
theorem shortL_go {row : List RT} {step : RT} (h : GoesOn row step) : shortL row step = (trimG row step, step) := by
  unfold shortL
  rw [if_pos h]
theorem shortL_end {row : List RT} {step : RT} (h : ¬ GoesOn row step) : shortL row step = (trimZ row, (0, 1)) := by
  unfold shortL
  rw [if_neg h]
theorem goes_snoc {ys : List RT} {y step : RT} : GoesOn (ys ++ [y]) step ↔ step ≠ (0, 1) ∧ y ≠ (0, 1) := by
  refine ⟨fun h => ?_, fun h => ⟨h.1, ys, y, rfl, h.2⟩⟩
  obtain ⟨h1, zs, z, e, hz⟩ := h
  have e2 := List.append_inj_right' e rfl
  cases e2
  exact ⟨h1, hz⟩
theorem goes_nil {step : RT} : ¬ GoesOn [] step := by
  rintro ⟨_, ys, y, e, _⟩
  have := congrArg List.length e
  simp at this
theorem shortL_idem {row : List RT} {step : RT} (hr : ∀ x ∈ row, Red x) (hs : Red step) : shortL (shortL row step).1 (shortL row step).2 = shortL row step := by
  rcases Classical.em (GoesOn row step) with h | h
  · obtain ⟨h1, ys, y, rfl, hy⟩ := id h
    obtain ⟨zs, z, e1, e2, e3, _, _⟩ := trimG_good step _ ys y rfl hr hs hy h1
    rw [shortL_go h, e1]
    dsimp only
    rw [shortL_go (goes_snoc.mpr ⟨h1, e2⟩), e3]
  · rw [shortL_end h]
    dsimp only
    rw [shortL_end (fun z => z.1 rfl), trimZ_idem]
theorem shortL_more {row : List RT} {step l : RT} (h : GoesOn (row ++ [l]) step) (hl : Red l) (hs : Red step) : GoesOn (row ++ [l] ++ [rT l step]) step ∧ shortL (row ++ [l] ++ [rT l step]) step = shortL (row ++ [l]) step := by
  obtain ⟨h1, h2⟩ := goes_snoc.mp h
  have g : GoesOn (row ++ [l] ++ [rT l step]) step := goes_snoc.mpr ⟨h1, fun z => by
    rcases (rT_zero hl hs).mp z with y | y
    · exact h2 y
    · exact h1 y⟩
  exact ⟨g, by rw [shortL_go g, shortL_go h, trimG_cut]⟩
theorem shortL_noughts {row : List RT} {step st : RT} {n : Nat} (h : ¬ GoesOn row step) (hn : n = 0 → ¬ GoesOn row st) : ¬ GoesOn (row ++ List.replicate n (0, 1)) st ∧ shortL (row ++ List.replicate n (0, 1)) st = shortL row step := by
  have g : ¬ GoesOn (row ++ List.replicate n (0, 1)) st := by
    match n, hn with
    | 0, hn =>
      rw [List.replicate_zero, List.append_nil]
      exact hn rfl
    | n + 1, _ =>
      rw [List.replicate_succ', ← List.append_assoc]
      exact fun z => (goes_snoc.mp z).2 rfl
  exact ⟨g, by rw [shortL_end g, shortL_end h, trimZ_noughts]⟩
theorem trimZ_mem : ∀ {n : Nat} {xs : List RT}, xs.length = n → ∀ x ∈ trimZ xs, x ∈ xs := by
  intro n
  induction n with
  | zero =>
    intro xs h x hx
    rw [List.length_eq_zero_iff.mp h] at hx
    simp [trimZ] at hx
  | succ n ih =>
    intro xs h x hx
    rcases snoc_cases xs with rfl | ⟨ys, y, rfl⟩
    · cases h
    · rcases Classical.em (y = (0, 1)) with rfl | hy
      · rw [trimZ_nought] at hx
        exact List.mem_append_left _ (ih (by simpa using h) x hx)
      · rw [trimZ_stop _ hy] at hx
        exact hx
theorem trimZ_len : ∀ {n : Nat} {xs : List RT}, xs.length = n → (trimZ xs).length ≤ xs.length := by
  intro n
  induction n with
  | zero =>
    intro xs h
    rw [List.length_eq_zero_iff.mp h]
    exact Nat.le_refl _
  | succ n ih =>
    intro xs h
    rcases snoc_cases xs with rfl | ⟨ys, y, rfl⟩
    · cases h
    · rcases Classical.em (y = (0, 1)) with rfl | hy
      · rw [trimZ_nought]
        have := ih (xs := ys) (by simpa using h)
        rw [List.length_append]
        omega
      · rw [trimZ_stop _ hy]
        exact Nat.le_refl _
theorem shortL_mem {row : List RT} {step : RT} (hr : ∀ x ∈ row, Red x) (hs : Red step) : (∀ x ∈ (shortL row step).1, x ∈ row) ∧ (shortL row step).1.length ≤ row.length ∧ ((shortL row step).2 = step ∨ (shortL row step).2 = (0, 1)) := by
  rcases Classical.em (GoesOn row step) with h | h
  · obtain ⟨h1, ys, y, rfl, hy⟩ := id h
    obtain ⟨zs, z, e1, e2, e3, e4, e5⟩ := trimG_good step _ ys y rfl hr hs hy h1
    rw [shortL_go h, e1]
    exact ⟨e5, e4, .inl rfl⟩
  · rw [shortL_end h]
    exact ⟨trimZ_mem rfl, trimZ_len rfl, .inr rfl⟩

end Fp

set_option Elab.async false
set_option linter.all false
set_option maxRecDepth 100000
set_option maxHeartbeats 4000000
set_option exponentiation.threshold 10000
namespace Fp
open PySem PySem.Spec PyProof.Rows L2
theorem behindR_zero {row : List RT} {step : RT} (hr : ∀ x ∈ row, Red x) (hs : Red step) (h1 : step.1 < step.2) : behindR row step = (0, 1) ↔ ¬ GoesOn row step := by
  rcases snoc_cases row with rfl | ⟨ys, y, rfl⟩
  · exact ⟨fun _ => goes_nil, fun _ => rfl⟩
  · have hy : Red y := hr y (by simp)
    rw [behindR_snoc, goes_snoc]
    unfold rO
    have hq : Red (rT y step) := low2_red (Int.ne_of_gt (Int.mul_pos hy.1 hs.1))
    rw [low2_zero (Int.mul_pos hq.1 (gap_pos hs h1)), Int.mul_eq_zero]
    have hm := (low2_red (t := 1 * step.2 - step.1 * 1) (b := 1 * step.2) (by have := hs.1; omega)).1
    have e1 : (rT y step).1 = 0 ↔ rT y step = (0, 1) := (red_zero hq).symm
    rw [e1, rT_zero hy hs]
    refine ⟨fun z => ?_, fun z => .inl ?_⟩
    · rcases z with (z | z) | z
      · exact fun g => g.2 z
      · exact fun g => g.1 z
      · have : (0 : Int) < (rM (1, 1) step).2 := hm
        omega
    · rcases Classical.em (y = (0, 1)) with a | a
      · exact .inl a
      · rcases Classical.em (step = (0, 1)) with b | b
        · exact .inr b
        · exact absurd ⟨b, a⟩ z
section
variable {P : Program} {w : World} {K : PySem.W.Frag} {mg : Str → Option Value} {base : Heap} {aN aO : Addr}
/-! ### without noughts at the end -/
def spWn (K : PySem.W.Frag) : Sp := fun vs H Q _ => ∃ (p : Addr) (row : List RT), vs = [.ref p] ∧ RowAt K H p row ∧ ∀ z H', Same H H' → LifeAt K H' z (trimZ row) (0, 1) → Q (.ref z) H'
/-! ### short -/
theorem cutV_drop (vs : List V) (h : vs ≠ []) : cutV vs none (some (-1)) = vs.take (vs.length - 1) := by
  have hp := List.length_pos_iff.mpr h
  unfold cutV
  rw [HT.sIx_none]
  have e0 : HT.sIx vs.length vs.length (some (-1)) = ((-1 : Int) + (vs.length : Int)).toNat := by
    unfold HT.sIx
    rfl
  have e : HT.sIx vs.length vs.length (some (-1)) = vs.length - 1 := by
    rw [e0]
    omega
  rw [e, Nat.sub_zero, List.drop_zero]
theorem drop_row {K : PySem.W.Frag} {H : Hp} {p : Addr} {xs : List RT} {y : RT} {Q : VK} (h : RowAt K H p (xs ++ [y])) (hq : ∀ r H', Same H H' → RowAt K H' r xs → Q (.ref r) H') : rSlA K (.ref p) none (some (-1)) H Q := by
  obtain ⟨rs, h1, h2⟩ := h
  have hl := h2.length
  rw [List.length_append, List.length_singleton] at hl
  have hne : rs.map V.ref ≠ [] := fun z => by
    have := congrArg List.length z
    rw [List.length_map, List.length_nil] at this
    omega
  refine ⟨p, _, rfl, h1, fun z => ?_, fun _ r nr => ?_⟩
  · have z2 := z.2
    have e0 : HT.sIx (rs.map V.ref).length (rs.map V.ref).length (some (-1)) = ((-1 : Int) + ((rs.map V.ref).length : Int)).toNat := by
      unfold HT.sIx
      rfl
    have e : HT.sIx (rs.map V.ref).length (rs.map V.ref).length (some (-1)) = (rs.map V.ref).length - 1 := by
      rw [e0, List.length_map]
      omega
    rw [e, List.length_map] at z2
    omega
  · rw [cutV_drop _ hne, List.length_map]
    have s := same_new (o := HO.tup ((rs.map V.ref).take (rs.length - 1))) nr
    refine hq r _ s ⟨rs.take (rs.length - 1), ?_, ?_⟩
    · rw [List.map_take]
      exact SqT.of upd_same
    · have h3 := (h2.take (rs.length - 1)).tk (Tk.same (K := K) s)
      rw [hl, Nat.add_sub_cancel, List.take_left'] at h3
      · rw [hl, Nat.add_sub_cancel]
        exact h3
      · rfl
def spShort (K : PySem.W.Frag) : Sp := fun vs H Q _ => ∃ (p : Addr) (row : List RT) (step : RT), vs = [.ref p] ∧ LifeAt K H p row step ∧ (∀ x ∈ row, SmR 1900 x) ∧ StepOk 300 step ∧
  ∀ z H', Same H H' → LifeAt K H' z (shortL row step).1 (shortL row step).2 → Q (.ref z) H'
end

end Fp

set_option Elab.async false
set_option linter.all false
set_option maxRecDepth 100000
set_option maxHeartbeats 4000000
set_option exponentiation.threshold 10000
namespace Fp
open PySem PySem.Spec PyProof.Rows L2
/-! ### the law's own short life -/
abbrev N_lshort : List Str := ["_law_life_here", "_law_row", "_law_step", "_law_some", "_law_first", "_law_k"]
theorem trimZ_all {row : List RT} (h : ∀ y ∈ row, y = (0, 1)) : trimZ row = [] := by
  have e : row = [] ++ List.replicate row.length (0, 1) := by
    rw [List.nil_append]
    exact List.eq_replicate_of_mem h
  rw [e, trimZ_noughts]
  rfl
theorem trimZ_at {row : List RT} {m : Nat} {x : RT} (h : row[m]? = some x) (hx : x ≠ (0, 1)) (hr : ∀ j y, m < j → row[j]? = some y → y = (0, 1)) : trimZ row = row.take (m + 1) := by
  have e : row = row.take (m + 1) ++ List.replicate (row.drop (m + 1)).length (0, 1) := by
    rw [← List.eq_replicate_of_mem (l := row.drop (m + 1)) (a := (0, 1)) ?_, List.take_append_drop]
    intro y hy
    obtain ⟨i, hi⟩ := List.mem_iff_getElem?.mp hy
    rw [List.getElem?_drop] at hi
    exact hr _ y (by omega) hi
  have e2 : trimZ row = trimZ (row.take (m + 1)) := by
    conv => lhs; rw [e]
    exact trimZ_noughts _ _
  rw [e2, List.take_add_one, h]
  exact trimZ_stop _ hx
section
variable {P : Program} {w : World} {K : PySem.W.Frag} {mg : Str → Option Value} {base : Heap}
def spLshort (K : PySem.W.Frag) : Sp := fun vs H Q _ => ∃ (p : Addr) (row : List RT) (step : RT), vs = [.ref p] ∧ LifeAt K H p row step ∧ row.length ≤ 1000 ∧ (row = [] → step = (0, 1)) ∧ (∀ x ∈ row, SmR 1900 x) ∧ StepOk 300 step ∧
  ∀ z H', Same H H' → LifeAt K H' z (shortL row step).1 (shortL row step).2 → Q (.ref z) H'
end

end Fp

set_option Elab.async false
set_option linter.all false
set_option maxRecDepth 100000
set_option maxHeartbeats 4000000
set_option exponentiation.threshold 10000
namespace Fp
open PySem PySem.Spec PyProof.Rows L2
/-! ### chances put anew: the recursion -/
def sumTo (n : Nat) (f : Nat → Rat) : Rat := ((List.range n).map f).sum
def renL (a b : Nat → Rat) : Nat → List Rat
  | 0 => []
  | n + 1 => renL a b n ++ [b n + sumTo n fun j => a j * (renL a b n)[n - 1 - j]?.getD 0]
theorem renL_len (a b : Nat → Rat) : ∀ n, (renL a b n).length = n
  | 0 => rfl
  | n + 1 => by
    show (renL a b n ++ [_]).length = _
    rw [List.length_append, renL_len a b n]
    rfl
theorem renL_at (a b : Nat → Rat) : ∀ {n j : Nat}, j < n → (renL a b n)[j]? = (renL a b (j + 1))[j]?
  | 0, j, h => absurd h (Nat.not_lt_zero _)
  | n + 1, j, h => by
    rcases (by omega : j < n ∨ j = n) with z | z
    · show (renL a b n ++ [_])[j]? = _
      rw [List.getElem?_append_left (by rw [renL_len]; exact z)]
      exact renL_at a b z
    · subst z
      rfl
/-- what is at n: the told one, and by each chance what is so much before -/
def renQ (a b : Nat → Rat) (n : Nat) : Rat := (renL a b (n + 1))[n]?.getD 0
theorem renQ_is (a b : Nat → Rat) (n : Nat) : renQ a b n = b n + sumTo n fun j => a j * renQ a b (n - 1 - j) := by
  unfold renQ
  show (renL a b n ++ [b n + sumTo n fun j => a j * (renL a b n)[n - 1 - j]?.getD 0])[n]?.getD 0 = _
  rw [List.getElem?_append_right (by rw [renL_len]; exact Nat.le_refl _), renL_len, Nat.sub_self]
  show b n + sumTo n (fun j => a j * (renL a b n)[n - 1 - j]?.getD 0) = _
  congr 1
  unfold sumTo
  congr 1
  refine List.map_congr_left fun j hj => ?_
  have := List.mem_range.mp hj
  rw [renL_at a b (show n - 1 - j < n by omega)]
def qa (xs : List RT) (j : Nat) : Rat := match xs[j]? with
  | some x => qv x
  | none => 0
theorem qa_at {xs : List RT} {j : Nat} {x : RT} (h : xs[j]? = some x) : qa xs j = qv x := by
  unfold qa
  rw [h]
def getI (xs : List Int) (j : Nat) : Int := xs[j]?.getD 0
theorem getI_at {xs : List Int} {j : Nat} (h : j < xs.length) : xs[j]? = some (getI xs j) := by
  unfold getI
  rw [List.getElem?_eq_getElem h]
  rfl
theorem CMulA.of {n m : Nat} {a b : Int} (ha : Sm n a) (hb : Sm m b) (hn : 0 < n) (hm : 0 < m) (h : n + m ≤ 1000000) : CMulA a b := by
  unfold CMulA
  have := ha.log hn
  have := hb.log hm
  omega
theorem sum_sm {e : Nat} : ∀ {xs : List Int}, (∀ x ∈ xs, Sm e x) → xs.length ≤ 32 → Sm (e + 6) xs.sum := by
  have key : ∀ {xs : List Int}, (∀ x ∈ xs, Sm e x) → xs.sum.natAbs ≤ xs.length * 2 ^ e := by
    intro xs
    induction xs with
    | nil =>
      intro _
      simp
    | cons x r ih =>
      intro h
      have h1 := h x (List.mem_cons_self ..)
      have h2 := ih fun y hy => h y (List.mem_cons_of_mem _ hy)
      rw [List.sum_cons, List.length_cons, Nat.add_mul]
      unfold Sm at h1
      have := Int.natAbs_add_le x r.sum
      omega
  intro xs h hl
  have h1 := key h
  unfold Sm
  have h2 : xs.length * 2 ^ e ≤ 32 * 2 ^ e := Nat.mul_le_mul_right _ hl
  have h3 : 2 ^ (e + 6) = 64 * 2 ^ e := by rw [Nat.pow_add, Nat.mul_comm]
  have h4 : 0 < 2 ^ e := Nat.pow_pos (by decide)
  omega
/-- the sums as the program has them -/
structure SOk (a b : Nat → Rat) (c c2 : Int) (u i : Nat) (ss : List Int) : Prop where
  len : ss.length = i
  val : ∀ j, j < i → ((getI ss j : Int) : Rat) = (c2 : Rat) * (c : Rat) ^ j * renQ a b j
  sm : ∀ j, j < i → Sm ((2 * u + 8) * (j + 1)) (getI ss j)
def partI (tp ss : List Int) (c : Int) (i j : Nat) : Int := getI tp j * c ^ j * getI ss (i - 1 - j)
theorem sumTo_cast (f : Nat → Int) (n : Nat) : ((((List.range n).map f).sum : Int) : Rat) = sumTo n fun j => ((f j : Int) : Rat) := by
  unfold sumTo
  induction n with
  | zero => rfl
  | succ n ih =>
    rw [List.range_succ, List.map_append, List.map_append, List.sum_append, Rat.intCast_add, ih]
    simp only [List.map_cons, List.map_nil]
    rw [sum_snoc]
    congr 1
    simp
theorem sumTo_mul (k : Rat) (f : Nat → Rat) (n : Nat) : k * sumTo n f = sumTo n fun j => k * f j := by
  unfold sumTo
  induction n with
  | zero =>
    show k * 0 = 0
    grind
  | succ n ih =>
    rw [List.range_succ, List.map_append, List.map_append]
    simp only [List.map_cons, List.map_nil]
    rw [sum_snoc, sum_snoc, ← ih]
    grind
theorem sumTo_congr {n : Nat} {f g : Nat → Rat} (h : ∀ j, j < n → f j = g j) : sumTo n f = sumTo n g := by
  unfold sumTo
  congr 1
  exact List.map_congr_left fun j hj => h j (List.mem_range.mp hj)
theorem cast_pow (c : Int) : ∀ j : Nat, ((c ^ j : Int) : Rat) = (c : Rat) ^ j
  | 0 => by
    rw [Int.pow_zero, Rat.pow_zero]
    rfl
  | j + 1 => by rw [Int.pow_succ, Rat.pow_succ, Rat.intCast_mul, cast_pow c j]
theorem pow_plus (c : Rat) (m : Nat) : ∀ n : Nat, c ^ (m + n) = c ^ m * c ^ n
  | 0 => by
    rw [Rat.pow_zero, Nat.add_zero]
    grind
  | n + 1 => by
    rw [← Nat.add_assoc, Rat.pow_succ, Rat.pow_succ, pow_plus c m n]
    grind
theorem SOk.step {a b : Nat → Rat} {c c2 tt : Int} {u i : Nat} {ss tp : List Int} (h : SOk a b c c2 u i ss) (hc : (c : Rat) ≠ 0) (ht : ((tt : Int) : Rat) = (c2 : Rat) * b i) (ha : ∀ j, j < i → ((getI tp j : Int) : Rat) = (c : Rat) * a j)
    (su : 0 < u) (st : Sm u tt) (sc : Sm u c) (sp : ∀ j, j < i → Sm u (getI tp j)) (hi : i ≤ 32) : SOk a b c c2 u (i + 1) (ss ++ [tt * c ^ i + ((List.range i).map (partI tp ss c i)).sum]) := by
  have old : ∀ j, j < i → ∀ x, getI (ss ++ [x]) j = getI ss j := fun j hj x => by
    unfold getI
    rw [List.getElem?_append_left (by rw [h.len]; exact hj)]
  have new : ∀ x, getI (ss ++ [x]) i = x := fun x => by
    unfold getI
    rw [List.getElem?_append_right (by rw [h.len]; exact Nat.le_refl _), h.len, Nat.sub_self]
    rfl
  refine ⟨by rw [List.length_append, h.len]; rfl, fun j hj => ?_, fun j hj => ?_⟩
  · rcases (by omega : j < i ∨ j = i) with z | z
    · rw [old j z]
      exact h.val j z
    · subst z
      rw [new, Rat.intCast_add, Rat.intCast_mul, sumTo_cast, cast_pow, ht, renQ_is a b j]
      have e : (sumTo j fun k => ((partI tp ss c j k : Int) : Rat)) = (c2 : Rat) * (c : Rat) ^ j * sumTo j fun k => a k * renQ a b (j - 1 - k) := by
        rw [sumTo_mul]
        refine sumTo_congr fun k hk => ?_
        unfold partI
        rw [Rat.intCast_mul, Rat.intCast_mul, cast_pow, ha k hk, h.val (j - 1 - k) (by omega)]
        have e2 : (c : Rat) ^ j = (c : Rat) * (c : Rat) ^ k * (c : Rat) ^ (j - 1 - k) := by
          have : j = (k + (j - 1 - k)) + 1 := by omega
          conv => lhs; rw [this]
          rw [Rat.pow_succ, pow_plus]
          grind
        rw [e2]
        grind
      rw [e]
      grind
  · rcases (by omega : j < i ∨ j = i) with z | z
    · rw [old j z]
      exact h.sm j z
    · subst z
      rw [new]
      have hU : ∀ k, k < j → Sm (u + 1 + (2 * u + 8) * j) (partI tp ss c j k) := fun k hk => by
        unfold partI
        have h1 := ((sp k hk).mul (sm_pow sc su k)).mul (h.sm (j - 1 - k) (by omega))
        refine h1.mono ?_
        have e1 : j - 1 - k + 1 = j - k := by omega
        rw [e1]
        have e2 : (2 * u + 8) * j = (2 * u + 8) * (j - k) + (2 * u + 8) * k := by rw [← Nat.mul_add]; congr 1; omega
        rw [e2]
        have e3 : u * k ≤ (2 * u + 8) * k := Nat.mul_le_mul_right _ (by omega)
        omega
      have s1 : Sm (u + 1 + (2 * u + 8) * j + 6) ((List.range j).map (partI tp ss c j)).sum := by
        refine sum_sm (fun x hx => ?_) (by rw [List.length_map, List.length_range]; exact hi)
        obtain ⟨k, hk, rfl⟩ := List.mem_map.mp hx
        exact hU k (List.mem_range.mp hk)
      have s2 : Sm (u + 1 + (2 * u + 8) * j + 6) (tt * c ^ j) := by
        refine (st.mul (sm_pow sc su j)).mono ?_
        have e3 : u * j ≤ (2 * u + 8) * j := Nat.mul_le_mul_right _ (by omega)
        omega
      have s3 := s2.add s1
      refine s3.mono ?_
      rw [Nat.mul_add]
      omega

end Fp

set_option Elab.async false
set_option linter.all false
set_option maxRecDepth 100000
set_option maxHeartbeats 4000000
set_option exponentiation.threshold 10000
namespace Fp
open PySem PySem.Spec PyProof.Rows L2
/-! ### renewed -/
abbrev N_ren : List Str := ["chances", "told", "tops", "bottom", "told_tops", "told_bottom", "powers", "sums", "n", "told_top", "parts", "k", "total", "power"]
def powL (c : Int) (m : Nat) : List Int := (List.range m).map fun j => c ^ j
theorem powL_len {c : Int} {m : Nat} : (powL c m).length = m := by
  unfold powL
  rw [List.length_map, List.length_range]
theorem powL_at {c : Int} {m j : Nat} (h : j < m) : (powL c m)[j]? = some (c ^ j) := by
  unfold powL
  rw [List.getElem?_map, List.getElem?_range h]
  rfl
theorem powL_succ {c : Int} {m : Nat} : powL c (m + 1) = powL c m ++ [c ^ m] := by
  unfold powL
  rw [List.range_succ, List.map_append]
  rfl
theorem tops_len {c : Int} {xs : List RT} : (topsOn c xs).length = xs.length := by
  unfold topsOn
  rw [List.length_map]
theorem tops_get {c : Int} {xs : List RT} {j : Nat} {x : RT} (h : xs[j]? = some x) : getI (topsOn c xs) j = x.1 * (c / x.2) := by
  unfold getI topsOn
  rw [List.getElem?_map, h]
  rfl
theorem tops_val {c : Int} (hc : 0 < c) {xs : List RT} {j : Nat} (hj : j < xs.length) (h : ∀ x ∈ xs, 0 < x.2 ∧ x.2 ∣ c) : ((getI (topsOn c xs) j : Int) : Rat) = (c : Rat) * qa xs j := by
  have hg : xs[j]? = some xs[j] := List.getElem?_eq_getElem hj
  obtain ⟨h1, h2⟩ := h _ (List.getElem_mem hj)
  rw [tops_get hg, qa_at hg, qv_over h1 h2 hc]
  have := cast_ne (Int.ne_of_gt hc)
  grind
theorem tops_each {n d : Nat} {c D : Int} (hD : 0 < D) (hcD : c ∣ D) (sD : Sm d D) {xs : List RT} {j : Nat} (hj : j < xs.length) (h : ∀ x ∈ xs, Sm n x.1) : Sm (n + d) (getI (topsOn c xs) j) := by
  have hg : xs[j]? = some xs[j] := List.getElem?_eq_getElem hj
  rw [tops_get hg]
  have sc : Sm d c := dvd_small hcD hD sD
  have sq : Sm d (c / xs[j].2) := by
    unfold Sm at *
    have a : (c / xs[j].2).natAbs ≤ c.natAbs := Int.natAbs_ediv_le_natAbs ..
    omega
  exact (h _ (List.getElem_mem hj)).mul sq
theorem upd_int {H : Hp} {l : Addr} {xs : List Int} {x : Int} : upd H l (.lst (xs.map V.int ++ [.int x])) l = some (.lst ((xs ++ [x]).map V.int)) := by
  rw [upd_same, List.map_append]
  rfl
section
variable {P : Program} {w : World} {K : PySem.W.Frag} {mg : Str → Option Value} {base : Heap}
def spRen (K : PySem.W.Frag) : Sp := fun vs H Q _ => ∃ (p t : Addr) (chs tld : List RT) (n1 d1 n2 d2 : Nat) (D1 D2 : Int), vs = [.ref p, .ref t] ∧ LstAt K H p chs ∧ LstAt K H t tld ∧ Over1 n1 d1 D1 chs ∧ Over1 n2 d2 D2 tld ∧ n1 ≤ 2000 ∧ d1 ≤ 300 ∧ n2 ≤ 2000 ∧ d2 ≤ 300 ∧ tld.length ≤ 22 ∧ tld.length ≤ chs.length + 1 ∧
  ∀ z rs H', Same H H' → H' z = some (.lst (rs.map V.ref)) → RsAt K H' rs ((List.range tld.length).map fun i => rdq (renQ (qa chs) (qa tld) i)) → Q (.ref z) H'
end

end Fp

set_option Elab.async false
set_option linter.all false
set_option maxRecDepth 100000
set_option maxHeartbeats 4000000
set_option exponentiation.threshold 10000
namespace Fp
open PySem PySem.Spec PyProof.Rows L2
/-! ### chances of drawn lives stand over a small number -/
theorem ch_dvdW {row : List RT} {step x : RT} {n i most : Nat} {W : Int} (hW : ∀ y ∈ row, y.2 ∣ W) (hr : ∀ y ∈ row, SmR n y) (hs : Red step) (hx : Red x) (h : qv x = chR row step i) (hi : i < most) : x.2 ∣ W * step.2 ^ most := by
  match e : row[i]? with
  | some y =>
    have hy := List.mem_of_getElem? e
    have ex : x = y := qv_inj hx (hr y hy).1 (h.trans (chR_in e))
    rw [ex]
    exact Int.dvd_trans (hW y hy) (Int.dvd_mul_right ..)
  | none =>
    have hle : row.length ≤ i := List.getElem?_eq_none_iff.mp e
    match el : row.getLast? with
    | none =>
      have er : row = [] := List.getLast?_eq_none_iff.mp el
      rw [er, chR_nil] at h
      have ex : x = (0, 1) := qv_inj hx ⟨by decide, by decide⟩ (by rw [h, qv_nought])
      rw [ex]
      exact Int.one_dvd _
    | some l =>
      have hl : l ∈ row := List.mem_of_getLast? el
      have hl0 := (hr l hl).1
      rw [chR_out hle el] at h
      obtain ⟨j, ej, hj⟩ : ∃ j, i + 1 - row.length = j ∧ j ≤ most := ⟨_, rfl, by omega⟩
      rw [ej] at h
      have key : ∀ j : Nat, qv l * qv step ^ j = ((l.1 * step.1 ^ j : Int) : Rat) / ((l.2 * step.2 ^ j : Int) : Rat) := by
        intro j
        induction j with
        | zero =>
          rw [Rat.pow_zero, Int.pow_zero, Int.pow_zero, Int.mul_one, Int.mul_one]
          unfold qv
          grind
        | succ j ih =>
          have h1 := cast_ne (Int.ne_of_gt hs.1)
          have h2 := cast_ne (Int.ne_of_gt (Int.mul_pos hl0.1 (show (0 : Int) < step.2 ^ j from Int.pow_pos hs.1)))
          rw [Rat.pow_succ, ← Rat.mul_assoc, ih, Int.pow_succ, Int.pow_succ, ← Int.mul_assoc, ← Int.mul_assoc, Rat.intCast_mul (l.1 * step.1 ^ j), Rat.intCast_mul (l.2 * step.2 ^ j)]
          unfold qv
          grind
      rw [key j] at h
      obtain ⟨d1, _⟩ := red_small hx (Int.mul_pos hl0.1 (Int.pow_pos hs.1)) h
      refine Int.dvd_trans d1 ?_
      obtain ⟨u, hu⟩ := hW l hl
      refine ⟨u * step.2 ^ (most - j), ?_⟩
      rw [hu, show most = j + (most - j) by omega, Int.pow_add, Nat.add_sub_cancel_left]
      rw [Int.mul_assoc l.2 u, ← Int.mul_assoc u, Int.mul_comm u (step.2 ^ j), Int.mul_assoc (step.2 ^ j), ← Int.mul_assoc l.2]
/-- one small number under a whole row -/
structure WOk (W : Int) (row : List RT) : Prop where
  pos : 0 < W
  sm : Sm 14 W
  dvd : ∀ y ∈ row, y.2 ∣ W
theorem over_chW {row : List RT} {step : RT} {n most : Nat} {chs : List RT} {W : Int} (hW : WOk W row) (hr : ∀ y ∈ row, SmR n y) (hs : SmR 5 step) (hm : most ≤ 20) (h : IsCh row step n most chs) : Over1 (n + 100) 121 (W * step.2 ^ most) chs := by
  refine ⟨Int.mul_pos hW.pos (Int.pow_pos hs.1.1), ?_, fun x hx => ?_, by rw [h.len]; omega⟩
  · exact (hW.sm.mul (sm_pow hs.2.2 (by decide) most)).mono (by omega)
  · obtain ⟨i, hi⟩ := List.mem_iff_getElem?.mp hx
    have hi2 := (List.getElem?_eq_some_iff.mp hi).1
    rw [h.len] at hi2
    obtain ⟨s1, s2⟩ := h.ok i x hi
    exact ⟨s1.1.1, ch_dvdW hW.dvd hr hs.1 s1.1 s2 hi2, s1.2.1.mono (by omega)⟩
theorem BaseLife.w {row : List RT} {step : RT} (h : BaseLife row step) : ∃ W : Int, 0 < W ∧ Sm 10 W ∧ ∀ y ∈ row, y.2 ∣ W := by
  rcases h with ⟨ws, extra, m, rfl⟩ | ⟨rfl, rfl⟩
  · obtain ⟨w0, w1⟩ := m.whole
    refine ⟨wholeOf ws extra step, w0, by unfold Sm; omega, fun y hy => ?_⟩
    unfold rowOf at hy
    obtain ⟨z, hz, rfl⟩ := List.mem_map.mp hy
    exact (red_small (low2_red (Int.ne_of_gt w0)) w0 (qv_low2 w0)).1
  · exact ⟨1, by decide, by unfold Sm; decide, fun y hy => by simp at hy⟩
theorem AnyLife.w {row : List RT} {step : RT} (h : AnyLife row step) : ∃ W : Int, WOk W row := by
  rcases h with h | ⟨row0, l, h, h5, hs, hl, rfl⟩ | ⟨row0, h, h5, rfl, hs⟩
  · obtain ⟨W, w0, w1, w2⟩ := h.w
    exact ⟨W, w0, w1.mono (by decide), w2⟩
  · obtain ⟨W, w0, w1, w2⟩ := h.w
    obtain ⟨s1, s2, s3, s4⟩ := h.sm
    refine ⟨W * step.2, Int.mul_pos w0 s2.1.1, (w1.mul s2.2.2).mono (by decide), fun y hy => ?_⟩
    rcases List.mem_append.mp hy with z | z
    · exact Int.dvd_trans (w2 y z) (Int.dvd_mul_right ..)
    · rw [List.mem_singleton.mp z]
      have hm := List.mem_of_getElem? hl
      have hp := Int.mul_pos (s1 l hm).1.1.1 s2.1.1
      have d := (red_small (x := rT l step) (low2_red (Int.ne_of_gt hp)) hp (qv_low2 hp)).1
      refine Int.dvd_trans d ?_
      obtain ⟨u, hu⟩ := w2 l hm
      exact ⟨u, by rw [hu, Int.mul_assoc, Int.mul_comm u, ← Int.mul_assoc]⟩
  · obtain ⟨W, w0, w1, w2⟩ := h.w
    refine ⟨W, w0, w1.mono (by decide), fun y hy => ?_⟩
    rcases List.mem_append.mp hy with z | z
    · exact w2 y z
    · rw [List.mem_singleton.mp z]
      exact Int.one_dvd _
theorem renQ_congr {a a' b b' : Nat → Rat} : ∀ {m n : Nat}, n ≤ m → (∀ j, j < m → a j = a' j) → (∀ j, j ≤ m → b j = b' j) → renQ a b n = renQ a' b' n := by
  intro m n
  induction n using Nat.strongRecOn with
  | ind n ih =>
    intro hn h1 h2
    rw [renQ_is, renQ_is, h2 n hn]
    congr 1
    refine sumTo_congr fun j hj => ?_
    rw [h1 j (by omega), ih (n - 1 - j) (by omega) (by omega) h1 h2]
theorem qa_ch {row : List RT} {step : RT} {n m j : Nat} {chs : List RT} (h : IsCh row step n m chs) (hj : j < m) : qa chs j = chR row step j := by
  have hj2 : j < chs.length := by rw [h.len]; exact hj
  have hg : chs[j]? = some chs[j] := List.getElem?_eq_getElem hj2
  rw [qa_at hg]
  exact (h.ok j _ hg).2

end Fp

set_option Elab.async false
set_option linter.all false
set_option maxRecDepth 100000
set_option maxHeartbeats 4000000
set_option exponentiation.threshold 10000
namespace Fp
open PySem PySem.Spec PyProof.Rows L2
/-! ### puts -/
/-- one at the beginning, nothing told later -/
def oneAt (n : Nat) : Rat := if n = 0 then 1 else 0
def putQ (row : List RT) (step : RT) (n : Nat) : Rat := renQ (chR row step) oneAt n
theorem qa_one {m j : Nat} (h : j ≤ m) : qa ((1, 1) :: List.replicate m ((0 : Int), (1 : Int))) j = oneAt j := by
  cases j with
  | zero =>
    rw [qa_at (x := (1, 1)) rfl, qv_one]
    rfl
  | succ j =>
    rw [qa_at (x := (0, 1)) (by rw [List.getElem?_cons_succ, List.getElem?_replicate]; exact if_pos (by omega)), qv_nought]
    rfl
section
variable {P : Program} {w : World} {K : PySem.W.Frag} {mg : Str → Option Value} {base : Heap} {aN aO : Addr}
def spPuts (K : PySem.W.Frag) : Sp := fun vs H Q _ => ∃ (p : Addr) (row : List RT) (step : RT) (n most : Nat) (W : Int), vs = [.ref p, .int (most : Int)] ∧ LifeAt K H p row step ∧ LifeOk n row step ∧ WOk W row ∧ most ≤ 20 ∧
  ∀ z H', Same H H' → RowAt K H' z ((List.range (most + 1)).map fun i => rdq (putQ row step i)) → Q (.ref z) H'
end

end Fp

set_option Elab.async false
set_option linter.all false
set_option maxRecDepth 100000
set_option maxHeartbeats 4000000
set_option exponentiation.threshold 10000
namespace Fp
open PySem PySem.Spec PyProof.Rows L2
/-! ### put by how many parts there are -/
def pQ (a : Nat → Rat) : Nat → Nat → Rat
  | 0, m => oneAt m
  | j + 1, m => sumTo m fun k => a k * pQ a j (m - 1 - k)
theorem sumTo_succ (n : Nat) (f : Nat → Rat) : sumTo (n + 1) f = sumTo n f + f n := by
  unfold sumTo
  rw [List.range_succ, List.map_append]
  simp only [List.map_cons, List.map_nil]
  rw [sum_snoc]
theorem sumTo_zero (f : Nat → Rat) : sumTo 0 f = 0 := rfl
theorem sumTo_head (n : Nat) (f : Nat → Rat) : sumTo (n + 1) f = f 0 + sumTo n fun j => f (j + 1) := by
  induction n with
  | zero =>
    rw [sumTo_succ, sumTo_zero, sumTo_zero]
    grind
  | succ n ih =>
    rw [sumTo_succ, ih, sumTo_succ]
    grind
theorem sumTo_add (n : Nat) (f g : Nat → Rat) : sumTo n (fun j => f j + g j) = sumTo n f + sumTo n g := by
  induction n with
  | zero =>
    rw [sumTo_zero, sumTo_zero, sumTo_zero]
    grind
  | succ n ih =>
    rw [sumTo_succ, sumTo_succ, sumTo_succ, ih]
    grind
theorem sumTo_nought (n : Nat) : sumTo n (fun _ => 0) = 0 := by
  induction n with
  | zero => rfl
  | succ n ih =>
    rw [sumTo_succ, ih]
    grind
theorem sumTo_swap (n m : Nat) (f : Nat → Nat → Rat) : sumTo n (fun j => sumTo m fun k => f j k) = sumTo m fun k => sumTo n fun j => f j k := by
  induction n with
  | zero =>
    rw [sumTo_zero]
    exact (sumTo_nought m).symm
  | succ n ih =>
    rw [sumTo_succ, ih, ← sumTo_add]
    exact sumTo_congr fun k _ => (sumTo_succ n fun j => f j k).symm
/-- all of them added: what is put -/
theorem put_parts (a : Nat → Rat) : ∀ n N : Nat, n ≤ N → sumTo (N + 1) (fun j => pQ a j n) = renQ a oneAt n := by
  intro n
  induction n using Nat.strongRecOn with
  | ind n ih =>
    intro N hN
    rw [renQ_is, sumTo_head]
    show oneAt n + sumTo N (fun j => sumTo n fun k => a k * pQ a j (n - 1 - k)) = _
    congr 1
    rw [sumTo_swap]
    refine sumTo_congr fun k hk => ?_
    rw [← sumTo_mul]
    have hN2 : N = (N - 1) + 1 := by omega
    rw [hN2, ih (n - 1 - k) (by omega) (N - 1) (by omega)]
/-- with more parts than beats there is nothing -/
theorem pQ_far (a : Nat → Rat) : ∀ {j m : Nat}, m < j → pQ a j m = 0
  | 0, m, h => absurd h (Nat.not_lt_zero _)
  | j + 1, m, h => by
    show sumTo m (fun k => a k * pQ a j (m - 1 - k)) = 0
    rw [sumTo_congr (g := fun _ => 0) fun k hk => ?_]
    · exact sumTo_nought m
    · rw [pQ_far a (show m - 1 - k < j by omega)]
      grind
theorem sumTo_le {n : Nat} {f g : Nat → Rat} (h : ∀ j, j < n → f j ≤ g j) : sumTo n f ≤ sumTo n g := by
  induction n with
  | zero => exact Rat.le_refl
  | succ n ih =>
    rw [sumTo_succ, sumTo_succ]
    have h1 := ih fun j hj => h j (by omega)
    have h2 := h n (by omega)
    grind
theorem sumTo_rev (n : Nat) (f : Nat → Rat) : sumTo n (fun k => f (n - 1 - k)) = sumTo n f := by
  induction n with
  | zero => rfl
  | succ n ih =>
    rw [sumTo_head, sumTo_succ]
    have e : (sumTo n fun j => f (n + 1 - 1 - (j + 1))) = sumTo n fun k => f (n - 1 - k) := sumTo_congr fun k hk => by
      congr 1
      omega
    rw [e, ih]
    have : n + 1 - 1 - 0 = n := by omega
    rw [this]
    grind
theorem two_sum (n : Nat) : sumTo n (fun m => (2 : Rat) ^ m) = 2 ^ n - 1 := by
  induction n with
  | zero =>
    rw [sumTo_zero, Rat.pow_zero]
    grind
  | succ n ih =>
    rw [sumTo_succ, ih, Rat.pow_succ]
    grind
/-- chances from nought to one: from nought to two powers -/
theorem pQ_bound {a : Nat → Rat} {M : Nat} (h0 : ∀ k, k < M → 0 ≤ a k) (h1 : ∀ k, k < M → a k ≤ 1) : ∀ j m, m ≤ M → 0 ≤ pQ a j m ∧ pQ a j m ≤ 2 ^ m := by
  have pp : ∀ m : Nat, (0 : Rat) < 2 ^ m := fun m => Rat.pow_pos (by decide)
  intro j
  induction j with
  | zero =>
    intro m _
    show 0 ≤ oneAt m ∧ oneAt m ≤ 2 ^ m
    unfold oneAt
    split
    · rename_i e
      subst e
      rw [Rat.pow_zero]
      exact ⟨by decide, Rat.le_refl⟩
    · exact ⟨Rat.le_refl, Rat.le_of_lt (pp m)⟩
  | succ j ih =>
    intro m hm
    show 0 ≤ sumTo m (fun k => a k * pQ a j (m - 1 - k)) ∧ sumTo m (fun k => a k * pQ a j (m - 1 - k)) ≤ 2 ^ m
    refine ⟨?_, ?_⟩
    · have := sumTo_le (n := m) (f := fun _ => 0) (g := fun k => a k * pQ a j (m - 1 - k)) fun k hk => Rat.mul_nonneg (h0 k (by omega)) (ih (m - 1 - k) (by omega)).1
      rw [sumTo_nought] at this
      exact this
    · have h2 : sumTo m (fun k => a k * pQ a j (m - 1 - k)) ≤ sumTo m fun k => (2 : Rat) ^ (m - 1 - k) := sumTo_le fun k hk => by
        obtain ⟨i1, i2⟩ := ih (m - 1 - k) (by omega)
        have h3 := Rat.mul_le_mul_of_nonneg_right (h1 k (by omega)) i1
        grind
      rw [sumTo_rev m fun k => (2 : Rat) ^ k, two_sum] at h2
      grind
theorem tri_flip (n : Nat) (f : Nat → Nat → Rat) : (sumTo n fun m => sumTo (m + 1) (f m)) = sumTo n fun j => sumTo (n - j) fun k => f (j + k) j := by
  induction n with
  | zero => rfl
  | succ n ih =>
    rw [sumTo_succ, ih, sumTo_succ (n := n) (f := fun j => sumTo (n + 1 - j) fun k => f (j + k) j)]
    have e : (sumTo n fun j => sumTo (n + 1 - j) fun k => f (j + k) j) = sumTo n fun j => (sumTo (n - j) fun k => f (j + k) j) + f n j := by
      refine sumTo_congr fun j hj => ?_
      rw [show n + 1 - j = (n - j) + 1 by omega, sumTo_succ, show j + (n - j) = n by omega]
    rw [e, sumTo_add, sumTo_succ, show n + 1 - n = 0 + 1 by omega, sumTo_succ, sumTo_zero]
    rw [Nat.add_zero]
    grind

end Fp

set_option Elab.async false
set_option linter.all false
set_option maxRecDepth 100000
set_option maxHeartbeats 4000000
set_option exponentiation.threshold 10000
namespace Fp
open PySem PySem.Spec PyProof.Rows L2
/-! ### lists of ratios told by their values; values over powers of one number -/
def mkL (n : Nat) (g : Nat → Rat) : List RT := (List.range n).map fun m => rdq (g m)
theorem mkL_len {n : Nat} {g : Nat → Rat} : (mkL n g).length = n := by
  unfold mkL
  rw [List.length_map, List.length_range]
theorem mkL_at {n m : Nat} {g : Nat → Rat} (h : m < n) : (mkL n g)[m]? = some (rdq (g m)) := by
  unfold mkL
  rw [List.getElem?_map, List.getElem?_range h]
  rfl
theorem mkL_congr {n : Nat} {g g' : Nat → Rat} (h : ∀ m, m < n → g m = g' m) : mkL n g = mkL n g' := by
  unfold mkL
  refine List.map_congr_left fun m hm => ?_
  rw [h m (List.mem_range.mp hm)]
theorem mkL_set {n i : Nat} {g : Nat → Rat} {v : Rat} : (mkL n g).set i (rdq v) = mkL n fun m => if m = i then v else g m := by
  refine List.ext_getElem (by rw [List.length_set, mkL_len, mkL_len]) fun m h1 h2 => ?_
  rw [List.getElem_set]
  have hm : m < n := by
    rw [mkL_len] at h2
    exact h2
  have e : ∀ (f : Nat → Rat) (h : m < (mkL n f).length), (mkL n f)[m] = rdq (f m) := fun f h => by
    have := mkL_at (g := f) hm
    rw [List.getElem?_eq_getElem h] at this
    exact Option.some.inj this
  rw [e (fun m => if m = i then v else g m)]
  by_cases z : i = m
  · rw [if_pos z, if_pos z.symm]
  · rw [if_neg z, if_neg fun y => z y.symm, e]
theorem RsAt.set {K : PySem.W.Frag} {H : Hp} {z : Addr} {x : RT} (hz : RAt K H z x) : ∀ {rs : List Addr} {xs : List RT} (i : Nat), RsAt K H rs xs → RsAt K H (rs.set i z) (xs.set i x)
  | _, _, _, .nil => .nil
  | _, _, 0, .cons _ r => .cons hz r
  | _, _, i + 1, .cons h r => .cons h (RsAt.set hz i r)
/-- a whole number over the e-th power of D -/
def Den (D : Int) (e : Nat) (q : Rat) : Prop := ∃ T : Int, q = (T : Rat) / ((D ^ e : Int) : Rat)
section
variable {D : Int} {e f : Nat} {p q : Rat}
theorem Den.up (hD : 0 < D) (h : Den D e q) : Den D (e + 1) q := by
  obtain ⟨T, rfl⟩ := h
  refine ⟨T * D, ?_⟩
  have h1 := cast_ne (Int.ne_of_gt hD)
  have h2 := cast_ne (Int.ne_of_gt (show (0 : Int) < D ^ e from Int.pow_pos hD))
  rw [Int.pow_succ, Rat.intCast_mul, Rat.intCast_mul]
  grind
theorem Den.mono (hD : 0 < D) (h : Den D e q) : ∀ {f : Nat}, e ≤ f → Den D f q := by
  intro f hf
  induction hf with
  | refl => exact h
  | step _ ih => exact ih.up hD
theorem Den.add (hD : 0 < D) (hp : Den D e p) (hq : Den D e q) : Den D e (p + q) := by
  obtain ⟨T, rfl⟩ := hp
  obtain ⟨S, rfl⟩ := hq
  refine ⟨T + S, ?_⟩
  have h2 := cast_ne (Int.ne_of_gt (show (0 : Int) < D ^ e from Int.pow_pos hD))
  rw [Rat.intCast_add]
  grind
theorem Den.mul (hD : 0 < D) (hp : Den D e p) (hq : Den D f q) : Den D (e + f) (p * q) := by
  obtain ⟨T, rfl⟩ := hp
  obtain ⟨S, rfl⟩ := hq
  refine ⟨T * S, ?_⟩
  have h1 := cast_ne (Int.ne_of_gt (show (0 : Int) < D ^ e from Int.pow_pos hD))
  have h2 := cast_ne (Int.ne_of_gt (show (0 : Int) < D ^ f from Int.pow_pos hD))
  rw [Int.pow_add, Rat.intCast_mul, Rat.intCast_mul]
  grind
theorem Den.zero : Den D e 0 := ⟨0, by
  show (0 : Rat) = ((0 : Int) : Rat) / _
  rw [show ((0 : Int) : Rat) = 0 from rfl]
  grind⟩
theorem Den.sum (hD : 0 < D) {n : Nat} {g : Nat → Rat} (h : ∀ j, j < n → Den D e (g j)) : Den D e (sumTo n g) := by
  induction n with
  | zero => exact Den.zero
  | succ n ih =>
    rw [sumTo_succ]
    exact (ih fun j hj => h j (by omega)).add hD (h n (by omega))
theorem Den.of {x : RT} (hD : 0 < D) (hx : 0 < x.2) (h : x.2 ∣ D) : Den D 1 (qv x) := by
  refine ⟨x.1 * (D / x.2), ?_⟩
  rw [Int.pow_succ, Int.pow_zero, Int.one_mul]
  exact qv_over hx h hD
/-- what such a value's lowest form is like -/
theorem Den.red (hD : 0 < D) (h : Den D e q) {d k : Nat} (sD : Sm d D) (hd : 0 < d) (h0 : 0 ≤ q) (h1 : q ≤ 2 ^ k) : (rdq q).2 ∣ D ^ e ∧ Sm (d * e + 1 + k + 1) (rdq q).1 ∧ Sm (d * e + 1) (rdq q).2 := by
  obtain ⟨T, hT⟩ := h
  have hP : (0 : Int) < D ^ e := Int.pow_pos hD
  have hc := cast_ne (Int.ne_of_gt hP)
  obtain ⟨r1, r2⟩ := red_small (rdq_red q) hP (by rw [qv_rdq]; exact hT)
  have sP : Sm (d * e + 1) (D ^ e) := sm_pow sD hd e
  refine ⟨r1, ?_, dvd_small r1 hP sP⟩
  have hcp : (0 : Rat) < ((D ^ e : Int) : Rat) := Rat.intCast_pos.mpr hP
  have e1 : (T : Rat) = q * ((D ^ e : Int) : Rat) := by
    rw [hT]
    grind
  have t0 : 0 ≤ T := by
    have := Rat.mul_nonneg h0 (Rat.le_of_lt hcp)
    rw [← e1] at this
    exact Rat.intCast_nonneg.mp this
  have t1 : T ≤ 2 ^ k * D ^ e := by
    have := Rat.mul_le_mul_of_nonneg_right h1 (Rat.le_of_lt hcp)
    rw [← e1] at this
    have e2 : (2 : Rat) ^ k * ((D ^ e : Int) : Rat) = ((2 ^ k * D ^ e : Int) : Rat) := by
      rw [Rat.intCast_mul, cast_pow 2 k]
      rfl
    rw [e2] at this
    exact Rat.intCast_le_intCast.mp this
  unfold Sm at *
  have t2 : T.natAbs ≤ 2 ^ k * (D ^ e).natAbs := by
    have : (2 ^ k * D ^ e : Int).natAbs = 2 ^ k * (D ^ e).natAbs := by
      rw [Int.natAbs_mul, Int.natAbs_pow]
      rfl
    omega
  have t3 : 2 ^ k * (D ^ e).natAbs ≤ 2 ^ k * 2 ^ (d * e + 1) := Nat.mul_le_mul_left _ (Nat.le_of_lt sP)
  have t4 : 2 ^ (d * e + 1 + k + 1) = 2 * (2 ^ k * 2 ^ (d * e + 1)) := by
    rw [Nat.pow_succ, Nat.pow_add, Nat.mul_comm, Nat.mul_comm (2 ^ (d * e + 1))]
  have t5 : 0 < 2 ^ k * 2 ^ (d * e + 1) := Nat.mul_pos (Nat.pow_pos (by decide)) (Nat.pow_pos (by decide))
  omega
end
/-- chances from nought to one, each over D -/
structure Ch01 (D : Int) (a : Nat → Rat) (M : Nat) : Prop where
  pos : 0 < D
  sm : Sm 60 D
  ge : ∀ k, k < M → 0 ≤ a k
  le : ∀ k, k < M → a k ≤ 1
  den : ∀ k, k < M → Den D 1 (a k)
theorem Ch01.pq {D : Int} {a : Nat → Rat} {M : Nat} (h : Ch01 D a M) : ∀ j m, m ≤ M → Den D j (pQ a j m) := by
  intro j
  induction j with
  | zero =>
    intro m _
    show Den D 0 (oneAt m)
    unfold oneAt
    split
    · exact ⟨1, by
        rw [Int.pow_zero]
        grind⟩
    · exact Den.zero
  | succ j ih =>
    intro m hm
    refine Den.sum h.pos fun k hk => ?_
    rw [Nat.add_comm]
    exact (h.den k (by omega)).mul h.pos (ih (m - 1 - k) (by omega))

end Fp

set_option Elab.async false
set_option linter.all false
set_option maxRecDepth 100000
set_option maxHeartbeats 4000000
set_option exponentiation.threshold 10000
namespace Fp
open PySem PySem.Spec PyProof.Rows L2
/-! ### the law's own: by how many parts there are -/
abbrev N_bp : List Str := ["_law_life_here", "_law_most_here", "_law_chances", "_law_found", "_law_parts", "_law_here", "_law_more", "_law_n", "_law_k"]
/-- what n parts before and one more give at m -/
def fM (a : Nat → Rat) (j m n : Nat) : Rat := pQ a j n * a (m - 1 - n)
theorem fM_sum (a : Nat → Rat) (j m : Nat) : sumTo m (fM a j m) = pQ a (j + 1) m := by
  show _ = sumTo m fun k => a k * pQ a j (m - 1 - k)
  rw [← sumTo_rev m fun k => a k * pQ a j (m - 1 - k)]
  refine sumTo_congr fun k hk => ?_
  unfold fM
  rw [show m - 1 - (m - 1 - k) = k by omega]
  grind
/-- n of them taken, and of the next one those to n + kk -/
def vM (a : Nat → Rat) (j n kk m : Nat) : Rat := sumTo (min n m) (fM a j m) + if n < m ∧ m ≤ n + kk then fM a j m n else 0
theorem vM_zero (a : Nat → Rat) (j n m : Nat) : vM a j n 0 m = sumTo (min n m) (fM a j m) := by
  unfold vM
  rw [if_neg (by omega)]
  grind
theorem vM_full (a : Nat → Rat) {j n kk m : Nat} (h : m ≤ n + kk) : vM a j n kk m = sumTo (min (n + 1) m) (fM a j m) := by
  unfold vM
  rcases (by omega : n < m ∨ m ≤ n) with z | z
  · rw [if_pos ⟨z, h⟩, Nat.min_eq_left (by omega), Nat.min_eq_left (by omega), sumTo_succ]
  · rw [if_neg (by omega), Nat.min_eq_right z, Nat.min_eq_right (by omega)]
    grind
theorem vM_step (a : Nat → Rat) {j n kk m : Nat} : vM a j n (kk + 1) m = if m = n + (kk + 1) then vM a j n kk m + fM a j m n else vM a j n kk m := by
  unfold vM
  by_cases z : m = n + (kk + 1)
  · rw [if_pos z, if_pos (by omega), if_neg (by omega)]
    grind
  · rw [if_neg z]
    congr 1
    by_cases y : n < m ∧ m ≤ n + kk
    · rw [if_pos y, if_pos (by omega)]
    · rw [if_neg y, if_neg (by omega)]
section
variable {D : Int} {a : Nat → Rat} {M j m n : Nat}
theorem Ch01.f_ok (h : Ch01 D a M) (hm : m ≤ M) (hn : n < m) : 0 ≤ fM a j m n ∧ fM a j m n ≤ 2 ^ n ∧ Den D (j + 1) (fM a j m n) := by
  obtain ⟨b1, b2⟩ := pQ_bound h.ge h.le j n (by omega)
  refine ⟨Rat.mul_nonneg b1 (h.ge _ (by omega)), ?_, (h.pq j n (by omega)).mul h.pos (h.den _ (by omega))⟩
  have := Rat.mul_le_mul_of_nonneg_left (h.le (m - 1 - n) (by omega)) b1
  unfold fM
  grind
theorem pow2_le {i k : Nat} (h : i ≤ k) : (2 : Rat) ^ i ≤ 2 ^ k := by
  have pp : ∀ m : Nat, (0 : Rat) < 2 ^ m := fun m => Rat.pow_pos (by decide)
  induction h with
  | refl => exact Rat.le_refl
  | step _ ih =>
    rename_i m _
    rw [Rat.pow_succ]
    have := pp m
    grind
theorem Ch01.s_ok (h : Ch01 D a M) (hm : m ≤ M) (hn : n ≤ m) : 0 ≤ sumTo n (fM a j m) ∧ sumTo n (fM a j m) ≤ 2 ^ m ∧ Den D (j + 1) (sumTo n (fM a j m)) := by
  refine ⟨?_, ?_, Den.sum h.pos fun k hk => (h.f_ok hm (by omega)).2.2⟩
  · have := sumTo_le (n := n) (f := fun _ => 0) (g := fM a j m) fun k hk => (h.f_ok hm (by omega)).1
    rw [sumTo_nought] at this
    exact this
  · have h1 := sumTo_le (n := n) (f := fM a j m) (g := fun k => (2 : Rat) ^ k) fun k hk => (h.f_ok hm (by omega)).2.1
    rw [two_sum] at h1
    have h2 := pow2_le hn
    grind
theorem Ch01.red (h : Ch01 D a M) {q : Rat} {e k : Nat} (hd : Den D e q) (h0 : 0 ≤ q) (h1 : q ≤ 2 ^ k) (he : e ≤ 21) (hk : k ≤ 21) : (rdq q).2 ∣ D ^ e ∧ Sm 1400 (rdq q).1 ∧ Sm 1400 (rdq q).2 := by
  obtain ⟨r1, r2, r3⟩ := hd.red h.pos h.sm (by decide) h0 h1
  have : 60 * e ≤ 60 * 21 := Nat.mul_le_mul_left _ he
  exact ⟨r1, r2.mono (by omega), r3.mono (by omega)⟩
end

end Fp

set_option Elab.async false
set_option linter.all false
set_option maxRecDepth 100000
set_option maxHeartbeats 4000000
set_option exponentiation.threshold 10000
namespace Fp
open PySem PySem.Spec PyProof.Rows L2
section
variable {P : Program} {w : World} {K : PySem.W.Frag} {mg : Str → Option Value} {base : Heap}
/-- a list of ratios that may be changed -/
def LsM (K : PySem.W.Frag) (H : Hp) (p : Addr) (xs : List RT) : Prop := ∃ rs : List Addr, H p = some (.lst (rs.map V.ref)) ∧ RsAt K H rs xs
theorem LsM.same {H H' : Hp} {p : Addr} {xs : List RT} (h : LsM K H p xs) (e : Same H H') : LsM K H' p xs := by
  obtain ⟨rs, h1, h2⟩ := h
  exact ⟨rs, e _ _ h1, h2.tk (Tk.same e)⟩
theorem LsM.at {H : Hp} {p : Addr} {n m : Nat} {g : Nat → Rat} {k : Int} {Q : VK} (h : LsM K H p (mkL n g)) (hk : k = (m : Int)) (hm : m < n) (q : ∀ r, RAt K H r (rdq (g m)) → Q (.ref r) H) : rIxL K (.ref p) (.int k) H Q := by
  obtain ⟨rs, h1, h2⟩ := h
  obtain ⟨r, e1, e2⟩ := h2.get (mkL_at hm)
  have g2 : (rs.map V.ref)[m]? = some (.ref r) := by
    rw [List.getElem?_map, e1]
    rfl
  exact ⟨p, _, _, _, rfl, rfl, SqL.of h1, at_of hk g2, q r e2⟩
theorem rdq_zero {q : Rat} : rdq q = (0, 1) ↔ q = 0 := by
  constructor
  · intro h
    have := congrArg qv h
    rw [qv_rdq, qv_nought] at this
    exact this
  · intro h
    rw [h]
    exact (is_rdq ⟨by decide, by decide⟩ qv_nought).symm
def spBp (K : PySem.W.Frag) : Sp := fun vs H Q _ => ∃ (p : Addr) (row : List RT) (step : RT) (n most : Nat) (D : Int), vs = [.ref p, .int (most : Int)] ∧ LifeAt K H p row step ∧ LifeOk n row step ∧ (row = [] → step = (0, 1)) ∧ Ch01 D (chR row step) 20 ∧ most ≤ 20 ∧
  ∀ (z : Addr) (fs : List Addr) (H' : Hp), Same H H' → H' z = some (.lst (fs.map V.ref)) → fs.length = most + 1 → (∀ j f, fs[j]? = some f → LsM K H' f (mkL (most + 1) (pQ (chR row step) j))) → Q (.ref z) H'
end

end Fp

set_option Elab.async false
set_option linter.all false
set_option maxRecDepth 100000
set_option maxHeartbeats 4000000
set_option exponentiation.threshold 10000
namespace Fp
open PySem PySem.Spec PyProof.Rows L2
theorem AnyLife.ok {row : List RT} {step : RT} (h : AnyLife row step) : LifeOk 20 row step ∧ row.length ≤ 7 ∧ (row = [] → step = (0, 1)) := by
  have nought : SmR 20 (0, 1) := ⟨⟨by decide, by decide⟩, by unfold Sm; decide, by unfold Sm; decide⟩
  rcases h with h | ⟨row0, l, h, h5, hs, hl, rfl⟩ | ⟨row0, h, h5, rfl, hs⟩
  · obtain ⟨s1, s2, s3, s4⟩ := h.sm
    have := h.len
    refine ⟨⟨fun x hx => (s1 x hx).1.mono (by decide), ⟨s2.mono (by decide), s3, s4⟩, by omega, by decide, by decide⟩, by omega, fun z => ?_⟩
    rcases Classical.em (step = (0, 1)) with y | y
    · exact y
    · exact absurd z (h.ne y)
  · obtain ⟨s1, s2, s3, s4⟩ := h.sm
    have hlen : (row0 ++ [rT l step]).length ≤ 6 := by
      rw [List.length_append, List.length_singleton]
      omega
    refine ⟨⟨fun x hx => ?_, ⟨s2.mono (by decide), s3, s4⟩, by omega, by decide, by decide⟩, by omega, fun z => ?_⟩
    · rcases List.mem_append.mp hx with z | z
      · exact (s1 x z).1.mono (by decide)
      · rw [List.mem_singleton.mp z]
        exact (rT_sm (s1 l (List.mem_of_getElem? hl)).1 s2).mono (by decide)
    · have := congrArg List.length z
      simp at this
  · obtain ⟨s1, s2, s3, s4⟩ := h.sm
    have hlen : (row0 ++ [((0 : Int), (1 : Int))]).length ≤ 6 := by
      rw [List.length_append, List.length_singleton]
      omega
    refine ⟨⟨fun x hx => ?_, ?_, by omega, by decide, by decide⟩, by omega, fun z => ?_⟩
    · rcases List.mem_append.mp hx with z | z
      · exact (s1 x z).1.mono (by decide)
      · rw [List.mem_singleton.mp z]
        exact nought
    · rcases hs with rfl | rfl
      · exact ⟨⟨⟨by decide, by decide⟩, by unfold Sm; decide, by unfold Sm; decide⟩, by decide, by decide⟩
      · exact ⟨⟨⟨by decide, by decide⟩, by unfold Sm; decide, by unfold Sm; decide⟩, by decide, by decide⟩
    · have := congrArg List.length z
      simp at this

end Fp

set_option Elab.async false
set_option linter.all false
set_option maxRecDepth 100000
set_option maxHeartbeats 4000000
set_option exponentiation.threshold 10000
namespace Fp
open PySem PySem.Spec PyProof.Rows L2
/-! ### a life cut at a beat -/
theorem ch_ex {row : List RT} {step : RT} {n : Nat} (L : LifeOk n row step) : ∀ i, ∃ x, SmR (n + 5 * i) x ∧ qv x = chR row step i := by
  intro i
  induction i with
  | zero =>
    rcases Classical.em (0 < row.length) with hi | hi
    · exact ⟨row[0], (L.sm _ (List.getElem_mem hi)).mono (by omega), (chR_in (List.getElem?_eq_getElem hi)).symm⟩
    · have er : row = [] := List.length_eq_zero_iff.mp (by omega)
      subst er
      exact ⟨(0, 1), SmR.mono (n := 1) ⟨⟨by decide, by decide⟩, by unfold Sm; decide, by unfold Sm; decide⟩ (by have := L.n1; omega), by rw [chR_nil, qv_nought]⟩
  | succ j ih =>
    rcases Classical.em (j + 1 < row.length) with hi | hi
    · exact ⟨row[j + 1], (L.sm _ (List.getElem_mem hi)).mono (by omega), (chR_in (List.getElem?_eq_getElem hi)).symm⟩
    · rcases Classical.em (row = []) with er | er
      · subst er
        exact ⟨(0, 1), SmR.mono (n := 1) ⟨⟨by decide, by decide⟩, by unfold Sm; decide, by unfold Sm; decide⟩ (by have := L.n1; omega), by rw [chR_nil, qv_nought]⟩
      · obtain ⟨x, h1, h2⟩ := ih
        refine ⟨rT x step, (rT_sm h1 L.st.1).mono (by omega), ?_⟩
        rw [(qv_rT h1.1 L.st.1.1).2, h2, chR_next (by omega) er]
def chsR (row : List RT) (step : RT) (m : Nat) : List RT := (List.range m).map fun k => rdq (chR row step k)
def cutR (row : List RT) (step : RT) (m : Nat) : List RT := chsR row step m ++ [rdq (1 - sumCh row step m)]
theorem chsR_at {row : List RT} {step : RT} {m i : Nat} {x : RT} (h : (chsR row step m)[i]? = some x) : i < m ∧ x = rdq (chR row step i) := by
  unfold chsR at h
  rw [List.getElem?_map] at h
  rcases Classical.em (i < m) with z | z
  · rw [List.getElem?_range z] at h
    exact ⟨z, (Option.some.inj h).symm⟩
  · rw [List.getElem?_eq_none (by rw [List.length_range]; omega)] at h
    cases h
theorem chsR_len {row : List RT} {step : RT} {m : Nat} : (chsR row step m).length = m := by
  unfold chsR
  rw [List.length_map, List.length_range]
theorem IsCh.is {row : List RT} {step : RT} {n m : Nat} {chs : List RT} (h : IsCh row step n m chs) : chs = chsR row step m := by
  refine List.ext_getElem (by rw [h.len, chsR_len]) fun i h1 h2 => ?_
  have e1 := h.ok i _ (List.getElem?_eq_getElem h1)
  have e2 := chsR_at (List.getElem?_eq_getElem h2)
  rw [e2.2]
  exact is_rdq e1.1.1 e1.2
theorem ch_all {row : List RT} {step : RT} {n : Nat} (L : LifeOk n row step) (m : Nat) : IsCh row step n m (chsR row step m) := by
  refine ⟨chsR_len, fun i x hx => ?_⟩
  obtain ⟨_, rfl⟩ := chsR_at hx
  obtain ⟨y, h1, h2⟩ := ch_ex L i
  rw [← is_rdq h1.1 h2]
  exact ⟨h1, h2⟩
theorem chsR_sm {row : List RT} {step : RT} {n m : Nat} (L : LifeOk n row step) (hm : m ≤ 70) : ∀ x ∈ chsR row step m, SmR 500 x := by
  intro x hx
  obtain ⟨i, hi⟩ := List.mem_iff_getElem?.mp hx
  have := (chsR_at hi).1
  have := L.n64
  exact ((ch_all L m).ok i x hi).1.mono (by omega)
theorem cut_sm {row : List RT} {step : RT} {n m : Nat} (L : LifeOk n row step) (hm : m ≤ 70) : ∀ x ∈ cutR row step m, SmR 1900 x := by
  intro x hx
  rcases List.mem_append.mp hx with z | z
  · exact (chsR_sm L hm x z).mono (by decide)
  · rw [List.mem_singleton.mp z]
    have I := ch_all L m
    have O := over_ch L.sm L.st.1 L.len L.n64 hm I
    have hs := tops_sum O.pos (xs := chsR row step m) fun y hy => ⟨(O.ok y hy).1, (O.ok y hy).2.1⟩
    have hb := tops_sm O.pos O.pos (Int.dvd_refl _) O.sm (xs := chsR row step m) fun y hy => ⟨(O.ok y hy).1, (O.ok y hy).2.2⟩
    rw [I.sum] at hs
    have hD := O.pos
    have sD := O.sm
    generalize prodB row * step.2 ^ m = D at hs hb hD sD
    generalize (topsOn D (chsR row step m)).sum = T at hs hb
    have sT : Sm 1800 T := by
      unfold Sm
      refine Nat.lt_of_le_of_lt hb ?_
      rw [chsR_len]
      have h64 := L.n64
      have e1 : m * 2 ^ (n + 350 + 1300) ≤ 70 * 2 ^ (64 + 350 + 1300) := Nat.mul_le_mul hm (Nat.pow_le_pow_right (by decide) (by omega))
      exact Nat.lt_of_le_of_lt e1 (by decide)
    have sN : Sm 1801 (D - T) := (sD.mono (show 1300 ≤ 1800 by decide)).sub sT
    have sy : SmR 1801 (low2 (D - T) D) := low2_sm hD sN (sD.mono (by decide))
    have e : low2 (D - T) D = rdq (1 - sumCh row step m) := by
      refine is_rdq sy.1 ?_
      rw [qv_low2 hD, ← hs, Rat.intCast_sub]
      have := cast_ne (Int.ne_of_gt hD)
      grind
    rw [← e]
    exact sy.mono (by decide)
/-- each one with noughts before it -/
def wideR (m : Nat) (row : List RT) : List RT := row.flatMap fun x => List.replicate m ((0 : Int), (1 : Int)) ++ [x]
theorem wide_snoc {m : Nat} {xs : List RT} {x : RT} : wideR m (xs ++ [x]) = wideR m xs ++ (List.replicate m (0, 1) ++ [x]) := by
  unfold wideR
  rw [List.flatMap_append]
  simp
theorem wide_mem {m : Nat} {row : List RT} {x : RT} (h : x ∈ wideR m row) : x = (0, 1) ∨ x ∈ row := by
  unfold wideR at h
  obtain ⟨y, h1, h2⟩ := List.mem_flatMap.mp h
  rcases List.mem_append.mp h2 with z | z
  · exact .inl (List.eq_of_mem_replicate z)
  · rw [List.mem_singleton.mp z]
    exact .inr h1
theorem wide_len {m : Nat} : ∀ {row : List RT}, (wideR m row).length = row.length * (m + 1)
  | [] => by
    show 0 = 0 * (m + 1)
    omega
  | x :: r => by
    show ((List.replicate m (0, 1) ++ [x]) ++ wideR m r).length = _
    rw [List.length_append, List.length_append, List.length_replicate, List.length_singleton, wide_len, List.length_cons, Nat.add_mul]
    omega
theorem take_snoc {α : Type} {xs : List α} {i : Nat} {x : α} (h : xs[i]? = some x) : xs.take (i + 1) = xs.take i ++ [x] := by
  rw [List.take_add_one, h]
  rfl
theorem nought_sm {n : Nat} (h : 1 ≤ n) : SmR n (0, 1) := SmR.mono (n := 1) ⟨⟨by decide, by decide⟩, by unfold Sm; decide, by unfold Sm; decide⟩ h
theorem nought_step {n : Nat} (h : 1 ≤ n) : StepOk n (0, 1) := ⟨nought_sm h, by decide, by decide⟩

end Fp

set_option Elab.async false
set_option linter.all false
set_option maxRecDepth 100000
set_option maxHeartbeats 4000000
set_option exponentiation.threshold 10000
namespace Fp
open PySem PySem.Spec PyProof.Rows L2
/-! ### chances of drawn lives are from nought to one -/
theorem div_01 {t b : Int} (h0 : 0 ≤ t) (hb : 0 < b) (h : t ≤ b) : (0 : Rat) ≤ (t : Rat) / (b : Rat) ∧ (t : Rat) / (b : Rat) ≤ 1 := by
  have hc : (0 : Rat) < (b : Rat) := Rat.intCast_pos.mpr hb
  have ht : (0 : Rat) ≤ (t : Rat) := Rat.intCast_nonneg.mpr h0
  have hl : (t : Rat) ≤ (b : Rat) := Rat.intCast_le_intCast.mpr h
  have hi : (0 : Rat) ≤ (b : Rat)⁻¹ := Rat.le_of_lt (Rat.inv_pos.mpr hc)
  rw [Rat.div_def]
  refine ⟨Rat.mul_nonneg ht hi, ?_⟩
  have := Rat.mul_le_mul_of_nonneg_right hl hi
  have e : (b : Rat) * (b : Rat)⁻¹ = 1 := Rat.mul_inv_cancel _ (Rat.ne_of_gt hc)
  rw [e] at this
  exact this
theorem mem_sum : ∀ {ws : List Int}, (∀ x ∈ ws, 0 ≤ x ∧ x ≤ 5) → ∀ y ∈ ws, y ≤ ws.sum
  | [], _, y, hy => by simp at hy
  | x :: r, h, y, hy => by
    have h1 := h x (List.mem_cons_self ..)
    have h2 := (sum_bound (ws := r) fun z hz => h z (List.mem_cons_of_mem _ hz)).1
    rw [List.sum_cons]
    rcases List.mem_cons.mp hy with z | z
    · omega
    · have := mem_sum (ws := r) (fun z hz => h z (List.mem_cons_of_mem _ hz)) y z
      omega
theorem mul_01 {p q : Rat} (hp : 0 ≤ p ∧ p ≤ 1) (hq : 0 ≤ q ∧ q ≤ 1) : 0 ≤ p * q ∧ p * q ≤ 1 := by
  refine ⟨Rat.mul_nonneg hp.1 hq.1, ?_⟩
  have := Rat.mul_le_mul_of_nonneg_right hp.2 hq.1
  have h2 := hq.2
  grind
theorem pow_01 {q : Rat} (hq : 0 ≤ q ∧ q ≤ 1) : ∀ k : Nat, 0 ≤ q ^ k ∧ q ^ k ≤ 1
  | 0 => by
    rw [Rat.pow_zero]
    exact ⟨by decide, Rat.le_refl⟩
  | k + 1 => by
    rw [Rat.pow_succ]
    exact mul_01 (pow_01 hq k) hq
theorem BaseLife.q01 {row : List RT} {step : RT} (h : BaseLife row step) : (∀ x ∈ row, 0 ≤ qv x ∧ qv x ≤ 1) ∧ 0 ≤ qv step ∧ qv step ≤ 1 := by
  have hs := h.sm
  refine ⟨fun x hx => ?_, div_01 hs.2.2.1 hs.2.1.1.1 (Int.le_of_lt hs.2.2.2)⟩
  rcases h with ⟨ws, extra, m, rfl⟩ | ⟨rfl, rfl⟩
  · obtain ⟨w0, _⟩ := m.whole
    unfold rowOf at hx
    obtain ⟨y, hy, rfl⟩ := List.mem_map.mp hx
    rw [qv_low2 w0]
    have h1 := (m.nn y hy).1
    have hd : 0 ≤ step.2 - step.1 := by
      have := hs.2.2.2
      omega
    refine div_01 (Int.mul_nonneg hd h1) w0 ?_
    have h2 := mem_sum m.nn y hy
    have h3 : (step.2 - step.1) * y ≤ (step.2 - step.1) * (ws.sum + extra) := Int.mul_le_mul_of_nonneg_left (by have := m.ex.1; omega) hd
    have h4 : 0 ≤ step.1 * lastW ws := Int.mul_nonneg hs.2.2.1 (Int.le_of_lt m.last)
    unfold wholeOf
    omega
  · simp at hx
theorem AnyLife.q01 {row : List RT} {step : RT} (h : AnyLife row step) : (∀ x ∈ row, 0 ≤ qv x ∧ qv x ≤ 1) ∧ 0 ≤ qv step ∧ qv step ≤ 1 := by
  rcases h with h | ⟨row0, l, h, h5, hs, hl, rfl⟩ | ⟨row0, h, h5, rfl, hs⟩
  · exact h.q01
  · obtain ⟨q1, q2⟩ := h.q01
    obtain ⟨s1, s2, _, _⟩ := h.sm
    refine ⟨fun x hx => ?_, q2⟩
    rcases List.mem_append.mp hx with z | z
    · exact q1 x z
    · rw [List.mem_singleton.mp z]
      have hm := List.mem_of_getElem? hl
      rw [(qv_rT (s1 l hm).1.1 s2.1).2]
      exact mul_01 (q1 l hm) q2
  · obtain ⟨q1, q2⟩ := h.q01
    refine ⟨fun x hx => ?_, ?_⟩
    · rcases List.mem_append.mp hx with z | z
      · exact q1 x z
      · rw [List.mem_singleton.mp z, qv_nought]
        exact ⟨Rat.le_refl, by decide⟩
    · rcases hs with rfl | rfl
      · exact div_01 (by decide) (by decide) (by decide)
      · exact div_01 (by decide) (by decide) (by decide)
theorem chR_01 {row : List RT} {step : RT} (h1 : ∀ x ∈ row, 0 ≤ qv x ∧ qv x ≤ 1) (h2 : 0 ≤ qv step ∧ qv step ≤ 1) (i : Nat) : 0 ≤ chR row step i ∧ chR row step i ≤ 1 := by
  match e : row[i]? with
  | some x =>
    rw [chR_in e]
    exact h1 x (List.mem_of_getElem? e)
  | none =>
    have hle : row.length ≤ i := List.getElem?_eq_none_iff.mp e
    match el : row.getLast? with
    | none =>
      rw [List.getLast?_eq_none_iff.mp el, chR_nil]
      exact ⟨Rat.le_refl, by decide⟩
    | some l =>
      rw [chR_out hle el]
      exact mul_01 (h1 l (List.mem_of_getLast? el)) (pow_01 h2 _)
theorem AnyLife.step4 {row : List RT} {step : RT} (h : AnyLife row step) : 0 < step.2 ∧ step.2 ≤ 4 := by
  have b : ∀ {row : List RT} {step : RT}, BaseLife row step → 0 < step.2 ∧ step.2 ≤ 4 := fun h => by
    rcases h with ⟨ws, extra, m, _⟩ | ⟨_, rfl⟩
    · rcases m.st with rfl | rfl | rfl | rfl | rfl <;> decide
    · decide
  rcases h with h | ⟨_, _, h, _⟩ | ⟨_, _, _, _, hs⟩
  · exact b h
  · exact b h
  · rcases hs with rfl | rfl <;> decide
theorem pow_four {x : Int} (h : 0 < x ∧ x ≤ 4) : ∀ k : Nat, 0 < x ^ k ∧ x ^ k ≤ 4 ^ k
  | 0 => by
    rw [Int.pow_zero, Int.pow_zero]
    decide
  | k + 1 => by
    obtain ⟨h1, h2⟩ := pow_four h k
    rw [Int.pow_succ, Int.pow_succ]
    exact ⟨Int.mul_pos h1 h.1, Int.mul_le_mul h2 h.2 (Int.le_of_lt h.1) (Int.le_of_lt (Int.lt_of_lt_of_le h1 h2))⟩
theorem AnyLife.ch01 {row : List RT} {step : RT} (h : AnyLife row step) : ∃ D : Int, Ch01 D (chR row step) 20 := by
  obtain ⟨W, hW⟩ := h.w
  obtain ⟨L, _, _⟩ := h.ok
  obtain ⟨q1, q2⟩ := h.q01
  have sm20 : Sm 41 (step.2 ^ 20) := by
    obtain ⟨z1, z2⟩ := pow_four h.step4 20
    have e : (4 : Int) ^ 20 = 1099511627776 := by decide
    have e2 : (2 : Nat) ^ 41 = 2199023255552 := by decide
    unfold Sm
    rw [e2]
    rw [e] at z2
    omega
  have hD : 0 < W * step.2 ^ 20 := Int.mul_pos hW.pos (Int.pow_pos L.st.1.1.1)
  refine ⟨W * step.2 ^ 20, hD, (hW.sm.mul (show Sm 41 (step.2 ^ 20) from sm20)).mono (by decide), fun k _ => (chR_01 q1 q2 k).1, fun k _ => (chR_01 q1 q2 k).2, fun k hk => ?_⟩
  obtain ⟨x, sx, vx⟩ := ch_ex L k
  rw [← vx]
  exact Den.of hD sx.1.1 (ch_dvdW hW.dvd L.sm L.st.1.1 sx.1 vx hk)

end Fp

set_option Elab.async false
set_option linter.all false
set_option maxRecDepth 100000
set_option maxHeartbeats 4000000
set_option exponentiation.threshold 10000
namespace Fp
open PySem PySem.Spec PyProof.Rows L2
/-! ### the law's own puts -/
abbrev N_lp : List Str := ["_law_life_here", "_law_most_here", "_law_some", "_law_n", "_law_here"]
def retScope (b : List Stmt) (d : Scope) : Scope := match b with
  | [_, .Return (some (.ListComp _ _ sc _)) _] => sc
  | _ => d
section
variable {P : Program} {w : World} {K : PySem.W.Frag} {mg : Str → Option Value} {base : Heap}
def spLmost : Sp := fun vs H Q _ => ∃ (d c : Addr) (t : Int), vs = [.ref d] ∧ Feed H d c t ∧ t ≤ 800000 ∧ ∀ (r : Nat) H', r ≤ 20 → Keep d H H' → Feed H' d c (t + 1 + 1) → Q (.int (r : Int)) H'
def spLputs (K : PySem.W.Frag) : Sp := fun vs H Q _ => ∃ (p : Addr) (row : List RT) (step : RT) (n most : Nat) (D : Int), vs = [.ref p, .int (most : Int)] ∧ LifeAt K H p row step ∧ LifeOk n row step ∧ (row = [] → step = (0, 1)) ∧ Ch01 D (chR row step) 20 ∧ most ≤ 20 ∧
  ∀ z H', Same H H' → LsM K H' z (mkL (most + 1) (putQ row step)) → Q (.ref z) H'
theorem mkL_succ {i : Nat} {g : Nat → Rat} : mkL (i + 1) g = mkL i g ++ [rdq (g i)] := by
  unfold mkL
  rw [List.range_succ, List.map_append]
  rfl
theorem mkL_sum {n : Nat} {g : Nat → Rat} : ((mkL n g).map qv).sum = sumTo n g := by
  induction n with
  | zero => rfl
  | succ n ih =>
    rw [mkL_succ, List.map_append, sumTo_succ, ← ih]
    simp only [List.map_cons, List.map_nil]
    rw [sum_snoc, qv_rdq]
end

end Fp

set_option Elab.async false
set_option linter.all false
set_option maxRecDepth 100000
set_option maxHeartbeats 4000000
set_option exponentiation.threshold 10000
namespace Fp
open PySem PySem.Spec PyProof.Rows L2
/-! ### what is told anew is what is told times the puts -/
theorem tri_swap (f : Nat → Nat → Rat) : ∀ n, sumTo n (fun k => sumTo (n - k) (f k)) = sumTo n fun j => sumTo (n - j) fun k => f k j := by
  have key : ∀ (g : Nat → Nat → Rat) (n : Nat), sumTo (n + 1) (fun k => sumTo (n + 1 - k) (g k)) = sumTo n (fun k => sumTo (n - k) (g k)) + sumTo (n + 1) fun k => g k (n - k) := by
    intro g n
    rw [sumTo_succ, sumTo_succ (f := fun k => g k (n - k))]
    have e1 : sumTo n (fun k => sumTo (n + 1 - k) (g k)) = sumTo n (fun k => sumTo (n - k) (g k)) + sumTo n fun k => g k (n - k) := by
      rw [← sumTo_add]
      refine sumTo_congr fun k hk => ?_
      rw [show n + 1 - k = (n - k) + 1 by omega, sumTo_succ]
    have e2 : sumTo (n + 1 - n) (g n) = g n (n - n) := by
      rw [show n + 1 - n = 0 + 1 by omega, sumTo_succ, sumTo_zero, Nat.sub_self]
      grind
    rw [e1, e2]
    grind
  intro n
  induction n with
  | zero => rfl
  | succ n ih =>
    rw [key f n, key (fun j k => f k j) n, ih]
    congr 1
    have := sumTo_rev (n + 1) fun k => f k (n - k)
    rw [← this]
    refine sumTo_congr fun k hk => ?_
    rw [show n - (n + 1 - 1 - k) = k by omega, show n + 1 - 1 - k = n - k by omega]
theorem conv (a b : Nat → Rat) : ∀ n, renQ a b n = sumTo (n + 1) fun k => b k * renQ a oneAt (n - k) := by
  intro n
  induction n using Nat.strongRecOn with
  | ind n ih =>
    have p0 : renQ a oneAt 0 = 1 := by
      rw [renQ_is, sumTo_zero]
      show (1 : Rat) + 0 = 1
      grind
    rw [renQ_is a b n, sumTo_succ, Nat.sub_self, p0]
    have e : sumTo n (fun k => b k * renQ a oneAt (n - k)) = sumTo n fun k => sumTo (n - k) fun j => a j * (b k * renQ a oneAt (n - k - 1 - j)) := by
      refine sumTo_congr fun k hk => ?_
      rw [renQ_is a oneAt (n - k)]
      have : oneAt (n - k) = 0 := if_neg (by omega)
      rw [this]
      have e2 : sumTo (n - k) (fun j => a j * (b k * renQ a oneAt (n - k - 1 - j))) = b k * sumTo (n - k) fun j => a j * renQ a oneAt (n - k - 1 - j) := by
        rw [sumTo_mul]
        refine sumTo_congr fun j _ => ?_
        grind
      rw [e2]
      grind
    rw [e, tri_swap fun k j => a j * (b k * renQ a oneAt (n - k - 1 - j))]
    have e3 : (sumTo n fun j => sumTo (n - j) fun k => a j * (b k * renQ a oneAt (n - k - 1 - j))) = sumTo n fun j => a j * renQ a b (n - 1 - j) := by
      refine sumTo_congr fun j hj => ?_
      rw [← sumTo_mul, ih (n - 1 - j) (by omega), show n - 1 - j + 1 = n - j by omega]
      congr 1
      refine sumTo_congr fun k hk => ?_
      rw [show n - 1 - j - k = n - k - 1 - j by omega]
    rw [e3]
    grind
/-- told one beat later -/
def laterF (c : Nat → Rat) : Nat → Rat
  | 0 => 0
  | k + 1 => c k
theorem conv_later (a c : Nat → Rat) (n : Nat) : renQ a (laterF c) n = sumTo n fun k => c k * renQ a oneAt (n - 1 - k) := by
  rw [conv, sumTo_head]
  have e : (sumTo n fun j => laterF c (j + 1) * renQ a oneAt (n - (j + 1))) = sumTo n fun k => c k * renQ a oneAt (n - 1 - k) := by
    refine sumTo_congr fun k hk => ?_
    rw [show n - (k + 1) = n - 1 - k by omega]
    rfl
  rw [e]
  show (0 : Rat) * _ + _ = _
  grind

end Fp

set_option Elab.async false
set_option linter.all false
set_option maxRecDepth 100000
set_option maxHeartbeats 4000000
set_option exponentiation.threshold 10000
namespace Fp
open PySem PySem.Spec PyProof.Rows L2
/-! ### how great puts are -/
/-- a whole number over P -/
def Ov (P : Int) (q : Rat) : Prop := ∃ T : Int, q = (T : Rat) / (P : Rat)
theorem Ov.red {P : Int} {q : Rat} {s k : Nat} (hP : 0 < P) (h : Ov P q) (sP : Sm s P) (h0 : 0 ≤ q) (h1 : q ≤ 2 ^ k) : (rdq q).2 ∣ P ∧ Sm (s + k + 1) (rdq q).1 ∧ Sm s (rdq q).2 := by
  obtain ⟨T, hT⟩ := h
  have hc := cast_ne (Int.ne_of_gt hP)
  obtain ⟨r1, r2⟩ := red_small (rdq_red q) hP (by rw [qv_rdq]; exact hT)
  refine ⟨r1, ?_, dvd_small r1 hP sP⟩
  have hcp : (0 : Rat) < (P : Rat) := Rat.intCast_pos.mpr hP
  have e1 : (T : Rat) = q * (P : Rat) := by
    rw [hT]
    grind
  have t0 : 0 ≤ T := by
    have := Rat.mul_nonneg h0 (Rat.le_of_lt hcp)
    rw [← e1] at this
    exact Rat.intCast_nonneg.mp this
  have t1 : T ≤ 2 ^ k * P := by
    have := Rat.mul_le_mul_of_nonneg_right h1 (Rat.le_of_lt hcp)
    rw [← e1] at this
    have e2 : (2 : Rat) ^ k * (P : Rat) = ((2 ^ k * P : Int) : Rat) := by
      rw [Rat.intCast_mul, cast_pow 2 k]
      rfl
    rw [e2] at this
    exact Rat.intCast_le_intCast.mp this
  unfold Sm at *
  have t2 : T.natAbs ≤ 2 ^ k * P.natAbs := by
    have : (2 ^ k * P : Int).natAbs = 2 ^ k * P.natAbs := by
      rw [Int.natAbs_mul, Int.natAbs_pow]
      rfl
    omega
  have t3 : 2 ^ k * P.natAbs ≤ 2 ^ k * 2 ^ s := Nat.mul_le_mul_left _ (Nat.le_of_lt sP)
  have t4 : 2 ^ (s + k + 1) = 2 * (2 ^ k * 2 ^ s) := by
    rw [Nat.pow_succ, Nat.pow_add, Nat.mul_comm, Nat.mul_comm (2 ^ s)]
  have t5 : 0 < 2 ^ k * 2 ^ s := Nat.mul_pos (Nat.pow_pos (by decide)) (Nat.pow_pos (by decide))
  omega
theorem Ov.zero {P : Int} : Ov P 0 := ⟨0, by
  show (0 : Rat) = ((0 : Int) : Rat) / _
  rw [show ((0 : Int) : Rat) = 0 from rfl]
  grind⟩
theorem Ov.add {P : Int} {p q : Rat} (hP : 0 < P) (hp : Ov P p) (hq : Ov P q) : Ov P (p + q) := by
  obtain ⟨T, rfl⟩ := hp
  obtain ⟨S, rfl⟩ := hq
  refine ⟨T + S, ?_⟩
  have h2 := cast_ne (Int.ne_of_gt hP)
  rw [Rat.intCast_add]
  grind
theorem Ov.sum {P : Int} (hP : 0 < P) {n : Nat} {g : Nat → Rat} (h : ∀ j, j < n → Ov P (g j)) : Ov P (sumTo n g) := by
  induction n with
  | zero => exact Ov.zero
  | succ n ih =>
    rw [sumTo_succ]
    exact (ih fun j hj => h j (by omega)).add hP (h n (by omega))
theorem Den.ov {D : Int} {e : Nat} {q : Rat} (h : Den D e q) : Ov (D ^ e) q := h
theorem Ov.mul {P R : Int} {p q : Rat} (hP : 0 < P) (hR : 0 < R) (hp : Ov P p) (hq : Ov R q) : Ov (P * R) (p * q) := by
  obtain ⟨T, rfl⟩ := hp
  obtain ⟨S, rfl⟩ := hq
  refine ⟨T * S, ?_⟩
  have h1 := cast_ne (Int.ne_of_gt hP)
  have h2 := cast_ne (Int.ne_of_gt hR)
  rw [Rat.intCast_mul, Rat.intCast_mul]
  grind
section
variable {D : Int} {a : Nat → Rat} {M : Nat}
/-- puts: from nought to a power of two, over a power of the one number -/
theorem Ch01.put (h : Ch01 D a M) : ∀ n, n ≤ M → 0 ≤ renQ a oneAt n ∧ renQ a oneAt n ≤ 2 ^ n ∧ Den D n (renQ a oneAt n) := by
  have pp : ∀ m : Nat, (0 : Rat) < 2 ^ m := fun m => Rat.pow_pos (by decide)
  intro n
  induction n using Nat.strongRecOn with
  | ind n ih =>
    intro hn
    cases n with
    | zero =>
      have e : renQ a oneAt 0 = 1 := by
        rw [renQ_is, sumTo_zero]
        show (1 : Rat) + 0 = 1
        grind
      rw [e, Rat.pow_zero]
      refine ⟨by decide, Rat.le_refl, 1, ?_⟩
      rw [Int.pow_zero]
      grind
    | succ n =>
      have e : renQ a oneAt (n + 1) = sumTo (n + 1) fun j => a j * renQ a oneAt (n + 1 - 1 - j) := by
        rw [renQ_is]
        show (0 : Rat) + _ = _
        grind
      rw [e]
      refine ⟨?_, ?_, Den.sum h.pos fun j hj => ?_⟩
      · have := sumTo_le (n := n + 1) (f := fun _ => 0) (g := fun j => a j * renQ a oneAt (n + 1 - 1 - j)) fun j hj => Rat.mul_nonneg (h.ge j (by omega)) (ih (n + 1 - 1 - j) (by omega) (by omega)).1
        rw [sumTo_nought] at this
        exact this
      · have h2 : sumTo (n + 1) (fun j => a j * renQ a oneAt (n + 1 - 1 - j)) ≤ sumTo (n + 1) fun j => (2 : Rat) ^ (n + 1 - 1 - j) := sumTo_le fun j hj => by
          obtain ⟨i1, i2, _⟩ := ih (n + 1 - 1 - j) (by omega) (by omega)
          have h3 := Rat.mul_le_mul_of_nonneg_right (h.le j (by omega)) i1
          grind
        rw [sumTo_rev (n + 1) fun k => (2 : Rat) ^ k, two_sum] at h2
        grind
      · have := (h.den j (by omega)).mul h.pos (ih (n + 1 - 1 - j) (by omega) (by omega)).2.2
        exact this.mono h.pos (by omega)
end
/-- behind a first: over the product, from nought to a power of two -/
theorem after_ok {D D2 : Int} {a c : Nat → Rat} (h : Ch01 D a 20) (h2 : Ch01 D2 c 20) {n : Nat} (hn : n ≤ 20) : 0 ≤ renQ a (laterF c) n ∧ renQ a (laterF c) n ≤ 2 ^ n ∧ Ov (D2 * D ^ 20) (renQ a (laterF c) n) := by
  rw [conv_later]
  have hP : (0 : Int) < D ^ 20 := Int.pow_pos h.pos
  refine ⟨?_, ?_, Ov.sum (Int.mul_pos h2.pos hP) fun j hj => ?_⟩
  · have := sumTo_le (n := n) (f := fun _ => 0) (g := fun k => c k * renQ a oneAt (n - 1 - k)) fun j hj => Rat.mul_nonneg (h2.ge j (by omega)) (h.put (n - 1 - j) (by omega)).1
    rw [sumTo_nought] at this
    exact this
  · have h3 : sumTo n (fun k => c k * renQ a oneAt (n - 1 - k)) ≤ sumTo n fun j => (2 : Rat) ^ (n - 1 - j) := sumTo_le fun j hj => by
      obtain ⟨i1, i2, _⟩ := h.put (n - 1 - j) (by omega)
      have h4 := Rat.mul_le_mul_of_nonneg_right (h2.le j (by omega)) i1
      grind
    rw [sumTo_rev n fun k => (2 : Rat) ^ k, two_sum] at h3
    grind
  · have e1 := (h2.den j (by omega)).ov
    rw [Int.pow_succ, Int.pow_zero, Int.one_mul] at e1
    exact e1.mul h2.pos hP ((h.put (n - 1 - j) (by omega)).2.2.mono h.pos (show n - 1 - j ≤ 20 by omega)).ov
theorem cutV_from1 (vs : List V) : cutV vs (some 1) none = vs.drop 1 := by
  unfold cutV
  rw [HT.sIx_none, show (1 : Int) = ((1 : Nat) : Int) from rfl, HT.sIx_nat]
  rcases (by omega : 1 ≤ vs.length ∨ vs.length = 0) with z | z
  · rw [Nat.min_eq_left z, List.take_of_length_le (by rw [List.length_drop]; exact Nat.le_refl _)]
  · rw [List.length_eq_zero_iff.mp z]
    rfl

end Fp

set_option Elab.async false
set_option linter.all false
set_option maxRecDepth 100000
set_option maxHeartbeats 4000000
set_option exponentiation.threshold 10000
namespace Fp
open PySem PySem.Spec PyProof.Rows L2
/-! ### values with their size -/
/-- a whole number over P, within the k-th power of two -/
structure Sz (P : Int) (k : Nat) (q : Rat) : Prop where
  ov : Ov P q
  lo : -((2 : Rat) ^ k) ≤ q
  hi : q ≤ (2 : Rat) ^ k
theorem two_pos (k : Nat) : (0 : Rat) < (2 : Rat) ^ k := Rat.pow_pos (by decide)
theorem Sz.pos {P : Int} {k : Nat} {q : Rat} (h : Ov P q) (h0 : 0 ≤ q) (h1 : q ≤ (2 : Rat) ^ k) : Sz P k q := ⟨h, by have := two_pos k; grind, h1⟩
theorem Sz.mono {P : Int} {k j : Nat} {q : Rat} (h : Sz P k q) (l : k ≤ j) : Sz P j q := by
  have e := pow2_le l
  have h1 := h.lo
  have h2 := h.hi
  exact ⟨h.ov, by grind, by grind⟩
theorem Sz.neg {P : Int} {k : Nat} {q : Rat} (h : Sz P k q) : Sz P k (-q) := by
  obtain ⟨⟨T, hT⟩, h1, h2⟩ := h
  refine ⟨⟨-T, ?_⟩, by grind, by grind⟩
  rw [hT, Rat.intCast_neg]
  grind
theorem Sz.add {P : Int} {k : Nat} {p q : Rat} (hP : 0 < P) (h1 : Sz P k p) (h2 : Sz P k q) : Sz P (k + 1) (p + q) := by
  have a1 := h1.lo
  have a2 := h1.hi
  have b1 := h2.lo
  have b2 := h2.hi
  refine ⟨h1.ov.add hP h2.ov, ?_, ?_⟩ <;> (rw [Rat.pow_succ]; grind)
theorem Sz.mul {P R : Int} {k j : Nat} {p q : Rat} (hP : 0 < P) (hR : 0 < R) (h1 : Sz P k p) (h2 : Sz R j q) : Sz (P * R) (k + j) (p * q) := by
  have a1 : 0 ≤ (2 : Rat) ^ k + p := by have := h1.lo; grind
  have a2 : 0 ≤ (2 : Rat) ^ k - p := by have := h1.hi; grind
  have b1 : 0 ≤ (2 : Rat) ^ j + q := by have := h2.lo; grind
  have b2 : 0 ≤ (2 : Rat) ^ j - q := by have := h2.hi; grind
  have x1 := Rat.mul_nonneg a1 b1
  have x2 := Rat.mul_nonneg a1 b2
  have x3 := Rat.mul_nonneg a2 b1
  have x4 := Rat.mul_nonneg a2 b2
  refine ⟨h1.ov.mul hP hR h2.ov, ?_, ?_⟩ <;> (rw [pow_plus]; grind)
theorem Ov.dvd {P R : Int} {q : Rat} (h : Ov P q) (hP : 0 < P) (hR : 0 < R) (d : P ∣ R) : Ov R q := by
  obtain ⟨T, rfl⟩ := h
  obtain ⟨u, rfl⟩ := d
  refine ⟨T * u, ?_⟩
  have h1 := cast_ne (Int.ne_of_gt hP)
  have h2 := cast_ne (Int.ne_of_gt hR)
  rw [Rat.intCast_mul] at h2
  rw [Rat.intCast_mul, Rat.intCast_mul]
  grind
theorem Sz.dvd {P R : Int} {k : Nat} {q : Rat} (h : Sz P k q) (hP : 0 < P) (hR : 0 < R) (d : P ∣ R) : Sz R k q := ⟨h.ov.dvd hP hR d, h.lo, h.hi⟩
theorem Sz.sum {P : Int} {k n : Nat} {g : Nat → Rat} (hP : 0 < P) (h : ∀ j, j < n → Sz P k (g j)) (hn : n ≤ 128) : Sz P (k + 7) (sumTo n g) := by
  have key : ∀ m : Nat, m ≤ n → -(((m : Int) : Rat) * (2 : Rat) ^ k) ≤ sumTo m g ∧ sumTo m g ≤ ((m : Int) : Rat) * (2 : Rat) ^ k := by
    intro m
    induction m with
    | zero =>
      intro _
      rw [sumTo_zero, show (((0 : Nat) : Int) : Rat) = 0 from rfl]
      constructor <;> grind
    | succ m ih =>
      intro hm
      obtain ⟨i1, i2⟩ := ih (by omega)
      have z := h m (by omega)
      have z1 := z.lo
      have z2 := z.hi
      rw [sumTo_succ, show ((m + 1 : Nat) : Int) = (m : Int) + 1 by omega, Rat.intCast_add]
      rw [show ((1 : Int) : Rat) = 1 from rfl]
      constructor <;> grind
  obtain ⟨k1, k2⟩ := key n (Nat.le_refl _)
  have e : ((n : Int) : Rat) * (2 : Rat) ^ k ≤ (2 : Rat) ^ (k + 7) := by
    rw [pow_plus]
    have l : ((n : Int) : Rat) ≤ ((128 : Int) : Rat) := Rat.intCast_le_intCast.mpr (by omega)
    have := Rat.mul_le_mul_of_nonneg_right l (Rat.le_of_lt (two_pos k))
    have e2 : (2 : Rat) ^ 7 = ((128 : Int) : Rat) := by decide +kernel
    rw [e2]
    grind
  exact ⟨Ov.sum hP fun j hj => (h j hj).ov, by grind, by grind⟩
theorem Sz.red {P : Int} {q : Rat} {s k : Nat} (h : Sz P k q) (hP : 0 < P) (sP : Sm s P) : (rdq q).2 ∣ P ∧ Sm (s + k + 1) (rdq q).1 ∧ Sm s (rdq q).2 := by
  obtain ⟨⟨T, hT⟩, h0, h1⟩ := h
  have hc := cast_ne (Int.ne_of_gt hP)
  obtain ⟨r1, r2⟩ := red_small (rdq_red q) hP (by rw [qv_rdq]; exact hT)
  refine ⟨r1, ?_, dvd_small r1 hP sP⟩
  have hcp : (0 : Rat) < (P : Rat) := Rat.intCast_pos.mpr hP
  have e1 : (T : Rat) = q * (P : Rat) := by
    rw [hT]
    grind
  have e2 : (2 : Rat) ^ k * (P : Rat) = ((2 ^ k * P : Int) : Rat) := by
    rw [Rat.intCast_mul, cast_pow 2 k]
    rfl
  have t1 : T ≤ 2 ^ k * P := by
    have := Rat.mul_le_mul_of_nonneg_right h1 (Rat.le_of_lt hcp)
    rw [← e1, e2] at this
    exact Rat.intCast_le_intCast.mp this
  have t0 : -(2 ^ k * P) ≤ T := by
    have := Rat.mul_le_mul_of_nonneg_right h0 (Rat.le_of_lt hcp)
    rw [← e1] at this
    refine Rat.intCast_le_intCast.mp ?_
    rw [Rat.intCast_neg, ← e2]
    grind
  unfold Sm at *
  have t2 : T.natAbs ≤ 2 ^ k * P.natAbs := by
    have : (2 ^ k * P : Int).natAbs = 2 ^ k * P.natAbs := by
      rw [Int.natAbs_mul, Int.natAbs_pow]
      rfl
    omega
  have t3 : 2 ^ k * P.natAbs ≤ 2 ^ k * 2 ^ s := Nat.mul_le_mul_left _ (Nat.le_of_lt sP)
  have t4 : 2 ^ (s + k + 1) = 2 * (2 ^ k * 2 ^ s) := by
    rw [Nat.pow_succ, Nat.pow_add, Nat.mul_comm, Nat.mul_comm (2 ^ s)]
  have t5 : 0 < 2 ^ k * 2 ^ s := Nat.mul_pos (Nat.pow_pos (by decide)) (Nat.pow_pos (by decide))
  omega
theorem Sz.smr {P : Int} {q : Rat} {s k n : Nat} (h : Sz P k q) (hP : 0 < P) (sP : Sm s P) (hn : s + k + 1 ≤ n) : SmR n (rdq q) := by
  obtain ⟨_, h2, h3⟩ := h.red hP sP
  exact ⟨rdq_red _, h2.mono hn, h3.mono (by omega)⟩
/-- a put: its size -/
theorem Ch01.putSz {D : Int} {a : Nat → Rat} {M : Nat} (h : Ch01 D a M) {n e : Nat} (hn : n ≤ M) (he : n ≤ e) : Sz (D ^ e) n (renQ a oneAt n) := by
  obtain ⟨x1, x2, x3⟩ := h.put n hn
  exact Sz.pos (x3.mono h.pos he).ov x1 x2
theorem Ch01.chSz {D : Int} {a : Nat → Rat} {M : Nat} (h : Ch01 D a M) {n : Nat} (hn : n < M) : Sz D 0 (a n) := by
  refine Sz.pos ?_ (h.ge n hn) (by rw [Rat.pow_zero]; exact h.le n hn)
  have := (h.den n hn).ov
  rw [Int.pow_succ, Int.pow_zero, Int.one_mul] at this
  exact this
theorem Ch01.powSm {D : Int} {a : Nat → Rat} {M : Nat} (h : Ch01 D a M) (e : Nat) : 0 < D ^ e ∧ Sm (60 * e + 1) (D ^ e) := ⟨Int.pow_pos h.pos, sm_pow h.sm (by decide) e⟩
theorem Sz.nought {P : Int} {k : Nat} : Sz P k 0 := ⟨Ov.zero, by have := two_pos k; grind, by have := two_pos k; grind⟩
theorem Sz.one {k : Nat} {P : Int} (hP : 0 < P) : Sz P k 1 := by
  refine ⟨⟨P, ?_⟩, ?_, ?_⟩
  · have := cast_ne (Int.ne_of_gt hP)
    grind
  · have := two_pos k
    grind
  · have := pow2_le (Nat.zero_le k)
    rw [Rat.pow_zero] at this
    exact this
/-! ### lists told by value -/
theorem mem_mkL {n : Nat} {f : Nat → Rat} {x : RT} (h : x ∈ mkL n f) : ∃ j, j < n ∧ x = rdq (f j) := by
  obtain ⟨j, hj⟩ := List.mem_iff_getElem?.mp h
  have hj2 := (List.getElem?_eq_some_iff.mp hj).1
  rw [mkL_len] at hj2
  rw [mkL_at hj2] at hj
  exact ⟨j, hj2, (Option.some.inj hj).symm⟩
theorem over_mkL {P : Int} {n s k : Nat} {f : Nat → Rat} (hP : 0 < P) (sP : Sm s P) (z : ∀ j, j < n → Sz P k (f j)) (hn : n ≤ 1000) : Over1 (s + k + 1) s P (mkL n f) := by
  refine ⟨hP, sP, fun x hx => ?_, by rw [mkL_len]; exact hn⟩
  obtain ⟨j, hj, rfl⟩ := mem_mkL hx
  obtain ⟨h1, h2, h3⟩ := (z j hj).red hP sP
  exact ⟨(rdq_red _).1, h1, h2⟩
section
variable {K : PySem.W.Frag} {H : Hp} {Q : VK}
theorem tnil_go {σ : L2.St} {R : List V → Hp → Prop} (h : R [] H) : tNil σ H R := h
theorem lsum_go {p : Addr} {P : Int} {n s k : Nat} {f : Nat → Rat} (h : LsM K H p (mkL n f)) (hP : 0 < P) (sP : Sm s P) (z : ∀ j, j < n → Sz P k (f j)) (hn : n ≤ 1000) (hs : s ≤ 2500) (hk : k ≤ 900)
    (q : ∀ r H', Same H H' → RAt K H' r (rdq (sumTo n f)) → Q (.ref r) H') : spLsum K LstAt [.ref p] H Q E0 := by
  obtain ⟨rs, h1, h2⟩ := h
  refine ⟨p, _, _, _, P, rfl, ⟨rs, SqL.of h1, h2⟩, over_mkL hP sP z hn, by omega, by omega, fun y x HF sF hy rx vx _ _ => ?_⟩
  have ex : x = rdq (sumTo n f) := is_rdq rx (by rw [vx, mkL_sum])
  rw [ex] at hy
  exact q y HF sF hy
theorem lsumT_go {p : Addr} {P : Int} {n s k : Nat} {f : Nat → Rat} (h : RowAt K H p (mkL n f)) (hP : 0 < P) (sP : Sm s P) (z : ∀ j, j < n → Sz P k (f j)) (hn : n ≤ 1000) (hs : s ≤ 2500) (hk : k ≤ 900)
    (q : ∀ r H', Same H H' → RAt K H' r (rdq (sumTo n f)) → Q (.ref r) H') : spLsum K RowAt [.ref p] H Q E0 := by
  refine ⟨p, _, _, _, P, rfl, h, over_mkL hP sP z hn, by omega, by omega, fun y x HF sF hy rx vx _ _ => ?_⟩
  have ex : x = rdq (sumTo n f) := is_rdq rx (by rw [vx, mkL_sum])
  rw [ex] at hy
  exact q y HF sF hy
theorem times_go {p1 p2 : Addr} {x y : Rat} (h1 : RAt K H p1 (rdq x)) (h2 : RAt K H p2 (rdq y)) (s1 : SmR 3000 (rdq x)) (s2 : SmR 3000 (rdq y)) (q : ∀ r H', Same H H' → RAt K H' r (rdq (x * y)) → Q (.ref r) H') : spTwo K (fun a b c d => a * c) [.ref p1, .ref p2] H Q E0 := by
  refine ⟨p1, p2, _, _, _, _, rfl, ⟨h1, h2, s1.2.1, s1.2.2, s2.2.1, s2.2.2, s1.1.1, s2.1.1⟩, fun b nb => ?_⟩
  have e := same_new (o := HO.tup [.int (rT (rdq x) (rdq y)).1, .int (rT (rdq x) (rdq y)).2]) nb
  obtain ⟨y1, y2⟩ := qv_rT s1.1 s2.1
  have ep : rT (rdq x) (rdq y) = rdq (x * y) := is_rdq y1 (by rw [y2, qv_rdq, qv_rdq])
  refine q b _ e ?_
  rw [← ep]
  exact SqT.of upd_same
theorem minus_go {p1 p2 : Addr} {x y : Rat} (h1 : RAt K H p1 (rdq x)) (h2 : RAt K H p2 (rdq y)) (s1 : SmR 3000 (rdq x)) (s2 : SmR 3000 (rdq y)) (q : ∀ r H', Same H H' → RAt K H' r (rdq (x - y)) → Q (.ref r) H') : spTwo K (fun a b c d => a * d - c * b) [.ref p1, .ref p2] H Q E0 := by
  refine ⟨p1, p2, _, _, _, _, rfl, ⟨h1, h2, s1.2.1, s1.2.2, s2.2.1, s2.2.2, s1.1.1, s2.1.1⟩, fun b nb => ?_⟩
  have e := same_new (o := HO.tup [.int (rM (rdq x) (rdq y)).1, .int (rM (rdq x) (rdq y)).2]) nb
  obtain ⟨y1, y2⟩ := qv_rM s1.1 s2.1
  have ep : rM (rdq x) (rdq y) = rdq (x - y) := is_rdq y1 (by rw [y2, qv_rdq, qv_rdq])
  refine q b _ e ?_
  rw [← ep]
  exact SqT.of upd_same
/-- a tuple of a list -/
theorem RowAt.of_ls {p b : Addr} {xs : List RT} {rs : List Addr} (h1 : H p = some (.lst (rs.map V.ref))) (h2 : RsAt K H rs xs) (nb : H b = none) : RowAt K (upd H b (.tup (rs.map V.ref))) b xs := ⟨rs, SqT.of upd_same, h2.tk (Tk.same (same_new nb))⟩
/-- a wish of an object alone -/
@[reducible] def refQ (Qd : Addr → Hp → Prop) : VK := fun v H2 => match v with
  | .ref D => Qd D H2
  | _ => False
/-- a comprehension each turn of which gives a ratio told by its value -/
theorem lc_mkW {J : It} {n : Nat} {G : Hp → Prop} {Y : Nat → Hp → V → Hp → Prop} (w : Walk J n G Y) {g : TG} {te : TE} {vs : List Nat} {σ : L2.St} {H1 : Hp} (f : Nat → Rat) (hn : n ≤ 900) (hG : ∀ HE, Same H1 HE → G HE)
    (hs : ∀ (k : Nat) (x : V) (HE HE' : Hp) (R : VK), k < n → Same H1 HE → Y k HE x HE' → (∀ r HF, Same HE HF → RAt K HF r (rdq (f k)) → R (.ref r) HF) → g x (wipe σ vs) HE' fun σ2 H2 => wipe σ2 vs = wipe σ vs ∧ te σ2 H2 R)
    {Qd : Addr → Hp → Prop} (hd : ∀ D H2, Same H1 H2 → LsM K H2 D (mkL n f) → Qd D H2) : tLc (fun _ H2 R => R J H2) g tYes te vs σ H1 (refQ Qd) := by
  intro D nD
  have e1 := same_new (o := HO.lst []) nD
  refine lc_it w (fun k HE => ∃ qs : List Addr, Same H1 HE ∧ HE D = some (.lst (qs.map V.ref)) ∧ RsAt K HE qs (mkL k f)) ⟨[], e1, upd_same, .nil⟩ ?_ ?_ ?_
  · rintro i HE _ ⟨_, sE, _⟩
    exact hG HE sE
  · rintro k x HE HE' hk ⟨qs, sE, hE, hqs⟩ hY
    have hql := hqs.length
    rw [mkL_len] at hql
    refine hs k x HE HE' _ hk sE hY fun r HF sF hr => ?_
    have hE5 := sF _ _ hE
    refine ⟨_, hE5, by rw [List.length_map, hql]; exact small1000 (by omega), qs ++ [r], ?_, ?_, ?_⟩
    · intro b2 o hb2
      rw [upd_ne (ne_of_none hb2 nD)]
      exact (sE.trans sF) _ _ hb2
    · rw [upd_same, List.map_append]
      rfl
    · rw [mkL_succ]
      exact ((hqs.tk (Tk.same sF)).append (.cons hr .nil)).tk (tk_lst hE5)
  · rintro HE ⟨qs, sE, hE, hqs⟩
    exact hd D HE sE ⟨qs, hE, hqs⟩
theorem lc_mk {lo : Int} {n : Nat} {g : TG} {te : TE} {vs : List Nat} {σ : L2.St} {H1 : Hp} (f : Nat → Rat) (hn : n ≤ 900)
    (hs : ∀ (k : Nat) (HE : Hp) (R : VK), k < n → Same H1 HE → (∀ r HF, Same HE HF → RAt K HF r (rdq (f k)) → R (.ref r) HF) → g (.int (lo + k)) (wipe σ vs) HE fun σ2 H2 => wipe σ2 vs = wipe σ vs ∧ te σ2 H2 R)
    {Qd : Addr → Hp → Prop} (hd : ∀ D H2, Same H1 H2 → LsM K H2 D (mkL n f) → Qd D H2) : tLc (fun _ H2 R => R (Itr lo n) H2) g tYes te vs σ H1 (refQ Qd) := by
  refine lc_mkW walk_range f hn (fun _ _ => trivial) (fun k x HE HE' R hk sE hY q => ?_) hd
  obtain ⟨rfl, rfl⟩ := hY
  exact hs k _ R hk sE q
end

end Fp

set_option Elab.async false
set_option linter.all false
set_option maxRecDepth 100000
set_option maxHeartbeats 4000000
set_option exponentiation.threshold 10000
namespace Fp
open PySem PySem.Spec PyProof.Rows L2
/-! ### lists of ratios: parts, joined, cut -/
section
variable {K : PySem.W.Frag} {H H' : Hp}
theorem LsM.keep {d c p : Addr} {t : Int} {xs : List RT} (h : LsM K H p xs) (f : Feed H d c t) (k : Keep d H H') : LsM K H' p xs := by
  obtain ⟨rs, h1, h2⟩ := h
  exact ⟨rs, keep_at f k h1 (by intro _ z; cases z), h2.tk (Tk.keep f k)⟩
theorem LsM.ix {p : Addr} {xs : List RT} {m : Nat} {x : RT} {k : Int} {Q : VK} (h : LsM K H p xs) (hk : k = (m : Int)) (hm : xs[m]? = some x) (q : ∀ r, RAt K H r x → Q (.ref r) H) : rIxL K (.ref p) (.int k) H Q := by
  obtain ⟨rs, h1, h2⟩ := h
  obtain ⟨r, e1, e2⟩ := h2.get hm
  have g2 : (rs.map V.ref)[m]? = some (.ref r) := by
    rw [List.getElem?_map, e1]
    rfl
  exact ⟨p, _, _, _, rfl, rfl, SqL.of h1, at_of hk g2, q r e2⟩
/-- [x] * k -/
theorem rep_ls {p a : Addr} {x : RT} {k : Nat} {Q : VK} (h : H p = some (.lst [.ref a])) (ha : RAt K H a x) (hk : k ≤ 900) (q : ∀ r H', Same H H' → LsM K H' r (List.replicate k x) → Q (.ref r) H') : rRep (.ref p) (.int (k : Int)) H Q := by
  refine ⟨p, _, _, rfl, rfl, h, by omega, by omega, ?_, fun b nb => ?_⟩
  · rw [Int.toNat_natCast]
    show 1 * k ≤ sizeLine
    exact Nat.le_trans (show 1 * k ≤ 1000 by omega) (by decide)
  have ef : (List.replicate (k : Int).toNat [V.ref a]).flatten = (List.replicate k a).map V.ref := by
    rw [flat_rep, List.map_replicate, Int.toNat_natCast]
  rw [ef] at *
  have e := same_new (o := HO.lst ((List.replicate k a).map V.ref)) nb
  exact q b _ e ⟨_, upd_same, RsAt.rep (ha.tk (Tk.same e)) k⟩
theorem cat_ls {p r : Addr} {xs ys : List RT} {Q : VK} (h1 : LsM K H p xs) (h2 : LsM K H r ys) (hl : xs.length + ys.length ≤ 900) (q : ∀ b H', Same H H' → LsM K H' b (xs ++ ys) → Q (.ref b) H') : rCat (.ref p) (.ref r) H Q := by
  obtain ⟨as, a1, a2⟩ := h1
  obtain ⟨bs, b1, b2⟩ := h2
  have la := a2.length
  have lb := b2.length
  refine ⟨p, r, _, _, rfl, rfl, a1, b1, ?_, fun b nb => ?_⟩
  · rw [List.length_map, List.length_map, sizeLine_eq]
    omega
  have e := same_new (o := HO.lst (as.map V.ref ++ bs.map V.ref)) nb
  refine q b _ e ⟨as ++ bs, ?_, (a2.append b2).tk (Tk.same e)⟩
  rw [upd_same, List.map_append]
/-- xs[:n] of a list -/
theorem take_ls {p : Addr} {xs : List RT} {n : Nat} {Q : VK} (h : LsM K H p xs) (q : ∀ b H', Same H H' → LsM K H' b (xs.take n) → Q (.ref b) H') : rSlL K (.ref p) none (some (n : Int)) H Q := by
  obtain ⟨as, a1, a2⟩ := h
  refine ⟨p, _, rfl, SqL.of a1, fun b nb => ?_⟩
  rw [cutV_take]
  have e := same_new (o := HO.lst ((as.map V.ref).take n)) nb
  refine q b _ e ⟨as.take n, ?_, (a2.take n).tk (Tk.same e)⟩
  rw [upd_same, List.map_take]
/-- the same, and that it is new -/
theorem rep_ls2 {p a : Addr} {x : RT} {k : Nat} {Q : VK} (h : H p = some (.lst [.ref a])) (ha : RAt K H a x) (hk : k ≤ 900) (q : ∀ r H', Same H H' → H r = none → LsM K H' r (List.replicate k x) → Q (.ref r) H') : rRep (.ref p) (.int (k : Int)) H Q := by
  refine ⟨p, _, _, rfl, rfl, h, by omega, by omega, ?_, fun b nb => ?_⟩
  · rw [Int.toNat_natCast]
    show 1 * k ≤ sizeLine
    exact Nat.le_trans (show 1 * k ≤ 1000 by omega) (by decide)
  have ef : (List.replicate (k : Int).toNat [V.ref a]).flatten = (List.replicate k a).map V.ref := by
    rw [flat_rep, List.map_replicate, Int.toNat_natCast]
  rw [ef] at *
  have e := same_new (o := HO.lst ((List.replicate k a).map V.ref)) nb
  exact q b _ e nb ⟨_, upd_same, RsAt.rep (ha.tk (Tk.same e)) k⟩
/-- appending to a list that stands beside others -/
theorem LsM.push {p r : Addr} {xs : List RT} {x : RT} {rs : List Addr} (h1 : H p = some (.lst (rs.map V.ref))) (h2 : RsAt K H rs xs) (hr : RAt K H r x) : LsM K (upd H p (.lst (rs.map V.ref ++ [.ref r]))) p (xs ++ [x]) := by
  refine ⟨rs ++ [r], ?_, (h2.append (.cons hr .nil)).tk (tk_lst h1)⟩
  rw [upd_same, List.map_append]
  rfl
end
section
variable {K : PySem.W.Frag} {H : Hp}
theorem set_ls {p r : Addr} {xs : List RT} {x : RT} {m : Nat} {k : Int} {Q : Hp → Prop} (h : LsM K H p xs) (hr : RAt K H r x) (hk : k = (m : Int)) (hm : m < xs.length) (q : ∀ H', Tk K H H' → (∀ b, b ≠ p → H' b = H b) → LsM K H' p (xs.set m x) → Q H') : rSetL (.ref p) (.int k) (.ref r) H Q := by
  obtain ⟨rs, h1, h2⟩ := h
  have hl := h2.length
  refine ⟨p, _, _, m, rfl, rfl, h1, ?_, ?_⟩
  · subst hk
    unfold ixN
    rw [List.length_map, hl, if_pos (by omega), if_pos (by omega)]
    congr 1
  · refine q _ (tk_lst h1) (fun b hb => upd_ne hb) ⟨rs.set m r, ?_, (RsAt.set hr m h2).tk (tk_lst h1)⟩
    rw [upd_same, List.map_set]
end

end Fp

set_option Elab.async false
set_option linter.all false
set_option maxRecDepth 100000
set_option maxHeartbeats 4000000
set_option exponentiation.threshold 10000
namespace Fp
open PySem PySem.Spec PyProof.Rows L2
/-! ### lists of objects of one sort -/
def Obs {α : Type} (At : Hp → Addr → α → Prop) (H : Hp) (rs : List Addr) (ys : List α) : Prop := rs.length = ys.length ∧ ∀ (i : Nat) (r : Addr) (y : α), rs[i]? = some r → ys[i]? = some y → At H r y
/-- a sort of object that stands while tuples stand -/
def Stays {α : Type} (K : PySem.W.Frag) (At : Hp → Addr → α → Prop) : Prop := ∀ H H' r y, Tk K H H' → At H r y → At H' r y
section
variable {α : Type} {At : Hp → Addr → α → Prop} {K : PySem.W.Frag} {H H' : Hp}
theorem Obs.nil : Obs At H [] [] := ⟨rfl, fun i r y h => by simp at h⟩
theorem Obs.tk {rs : List Addr} {ys : List α} (st : Stays K At) (h : Obs At H rs ys) (e : Tk K H H') : Obs At H' rs ys := ⟨h.1, fun i r y h1 h2 => st _ _ _ _ e (h.2 i r y h1 h2)⟩
theorem Obs.append {rs qs : List Addr} {ys zs : List α} (h : Obs At H rs ys) (g : Obs At H qs zs) : Obs At H (rs ++ qs) (ys ++ zs) := by
  refine ⟨by rw [List.length_append, List.length_append, h.1, g.1], fun i r y h1 h2 => ?_⟩
  rcases Nat.lt_or_ge i rs.length with z | z
  · rw [List.getElem?_append_left z] at h1
    rw [List.getElem?_append_left (by rw [← h.1]; exact z)] at h2
    exact h.2 i r y h1 h2
  · rw [List.getElem?_append_right z] at h1
    rw [List.getElem?_append_right (by rw [← h.1]; exact z), ← h.1] at h2
    exact g.2 _ r y h1 h2
theorem Obs.one {r : Addr} {y : α} (h : At H r y) : Obs At H [r] [y] := by
  refine ⟨rfl, fun i q z h1 h2 => ?_⟩
  match i, h1, h2 with
  | 0, h1, h2 =>
    cases Option.some.inj h1
    cases Option.some.inj h2
    exact h
theorem Obs.get {rs : List Addr} {ys : List α} {i : Nat} {y : α} (h : Obs At H rs ys) (e : ys[i]? = some y) : ∃ r, rs[i]? = some r ∧ At H r y := by
  have hi := (List.getElem?_eq_some_iff.mp e).1
  rw [← h.1] at hi
  exact ⟨rs[i], List.getElem?_eq_getElem hi, h.2 i _ y (List.getElem?_eq_getElem hi) e⟩
/-- a list that may be changed, of such objects -/
def OLs (At : Hp → Addr → α → Prop) (H : Hp) (p : Addr) (ys : List α) : Prop := ∃ rs : List Addr, H p = some (.lst (rs.map V.ref)) ∧ Obs At H rs ys
theorem OLs.same {p : Addr} {ys : List α} (st : Stays K At) (h : OLs At H p ys) (e : Same H H') : OLs At H' p ys := by
  obtain ⟨rs, h1, h2⟩ := h
  exact ⟨rs, e _ _ h1, h2.tk st (Tk.same e)⟩
/-- a comprehension each turn of which gives such an object -/
theorem lc_obsW (st : Stays K At) {J : It} {n : Nat} {G : Hp → Prop} {Y : Nat → Hp → V → Hp → Prop} (w : Walk J n G Y) {g : TG} {te : TE} {vs : List Nat} {σ : L2.St} {H1 : Hp} (f : List α) (hf : f.length = n) (hn : n ≤ 900) (hG : ∀ HE, Same H1 HE → G HE)
    (hs : ∀ (k : Nat) (y : α) (x : V) (HE HE' : Hp) (R : VK), f[k]? = some y → Same H1 HE → Y k HE x HE' → (∀ r HF, Same HE HF → At HF r y → R (.ref r) HF) → g x (wipe σ vs) HE' fun σ2 H2 => wipe σ2 vs = wipe σ vs ∧ te σ2 H2 R)
    {Qd : Addr → Hp → Prop} (hd : ∀ D H2, Same H1 H2 → OLs At H2 D f → Qd D H2) : tLc (fun _ H2 R => R J H2) g tYes te vs σ H1 (refQ Qd) := by
  intro D nD
  have e1 := same_new (o := HO.lst []) nD
  refine lc_it w (fun k HE => ∃ qs : List Addr, Same H1 HE ∧ HE D = some (.lst (qs.map V.ref)) ∧ Obs At HE qs (f.take k)) ⟨[], e1, upd_same, Obs.nil⟩ ?_ ?_ ?_
  · rintro i HE _ ⟨_, sE, _⟩
    exact hG HE sE
  · rintro k x HE HE' hk ⟨qs, sE, hE, hqs⟩ hY
    have hql := hqs.1
    rw [List.length_take] at hql
    obtain ⟨y, hy⟩ : ∃ y, f[k]? = some y := ⟨f[k], List.getElem?_eq_getElem (by omega)⟩
    refine hs k y x HE HE' _ hy sE hY fun r HF sF hr => ?_
    have hE5 := sF _ _ hE
    refine ⟨_, hE5, by rw [List.length_map, hql]; exact small1000 (by omega), qs ++ [r], ?_, ?_, ?_⟩
    · intro b2 o hb2
      rw [upd_ne (ne_of_none hb2 nD)]
      exact (sE.trans sF) _ _ hb2
    · rw [upd_same, List.map_append]
      rfl
    · rw [List.take_add_one, hy]
      exact ((hqs.tk st (Tk.same sF)).append (Obs.one hr)).tk st (tk_lst hE5)
  · rintro HE ⟨qs, sE, hE, hqs⟩
    rw [List.take_of_length_le (by omega)] at hqs
    exact hd D HE sE ⟨qs, hE, hqs⟩
end
section
variable {K : PySem.W.Frag} {H : Hp} {Q : VK}
theorem cat_ints {p q : Addr} {xs ys : List Int} (a1 : SqT K H p (xs.map V.int)) (b1 : SqT K H q (ys.map V.int)) (hl : xs.length + ys.length ≤ 1000) (h : ∀ r H', Same H H' → SqT K H' r ((xs ++ ys).map V.int) → Q (.ref r) H') : rCatA K (.ref p) (.ref q) H Q := by
  refine ⟨p, q, _, _, rfl, rfl, a1, b1, ?_, fun z => ?_, fun _ z => ?_, fun _ _ r nr => ?_⟩
  · rw [List.length_map, List.length_map, sizeLine_eq]
    omega
  · have e : xs = [] := List.map_eq_nil_iff.mp z
    subst e
    exact h q H (Same.refl H) b1
  · have e : ys = [] := List.map_eq_nil_iff.mp z
    subst e
    refine h p H (Same.refl H) ?_
    rw [List.append_nil]
    exact a1
  · have s := same_new (o := HO.tup (xs.map V.int ++ ys.map V.int)) nr
    refine h r _ s ?_
    rw [List.map_append]
    exact SqT.of upd_same
end

end Fp

set_option Elab.async false
set_option linter.all false
set_option maxRecDepth 100000
set_option maxHeartbeats 4000000
set_option exponentiation.threshold 10000
namespace Fp
open PySem PySem.Spec PyProof.Rows L2
/-! ### what laws share -/
theorem mkL_rowD_sh {n : Nat} {g : Nat → Rat} (hn : n ≤ 21) (h : ∀ m, m < n → SmR 1900 (rdq (g m))) : Shows (.tuple (rowD (mkL n g))) := by
  refine (Shs.row (n := 1900) (by decide) (xs := mkL n g) fun x hx => ?_).tup.shows (by rw [mkL_len]; omega) (by decide)
  obtain ⟨j, hj⟩ := List.mem_iff_getElem?.mp hx
  have hj2 := (List.getElem?_eq_some_iff.mp hj).1
  rw [mkL_len] at hj2
  rw [mkL_at hj2] at hj
  cases Option.some.inj hj
  exact h j hj2
section
variable {P : Program} {w : World} {K : PySem.W.Frag} {mg : Str → Option Value} {base : Heap}
theorem drop1_row {H : Hp} {p : Addr} {xs : List RT} {Q : VK} (h : RowAt K H p xs) (hl : 1 ≤ xs.length) (hq : ∀ r H', Same H H' → RowAt K H' r (xs.drop 1) → Q (.ref r) H') : rSlA K (.ref p) (some 1) none H Q := by
  obtain ⟨rs, h1, h2⟩ := h
  have hl2 := h2.length
  refine ⟨p, _, rfl, h1, fun z => ?_, fun _ r nr => ?_⟩
  · have z1 := z.1
    rw [show (1 : Int) = ((1 : Nat) : Int) from rfl, HT.sIx_nat, List.length_map] at z1
    omega
  · rw [cutV_from1]
    have s := same_new (o := HO.tup ((rs.map V.ref).drop 1)) nr
    refine hq r _ s ⟨rs.drop 1, ?_, (h2.drop 1).tk (Tk.same s)⟩
    rw [List.map_drop]
    exact SqT.of upd_same
theorem noPart_go {σ : L2.St} {H : Hp} {k : Option Int → Hp → Prop} (h : k none H) : tNoPart σ H k := h
def spLaw (K : PySem.W.Frag) : Sp := fun vs H Q _ => ∃ (a : Addr) (ns : List Int), vs = [.ref a] ∧ SqL K H a (ns.map V.int) ∧ ∀ H', Q (.bl true) H'
end

end Fp

set_option Elab.async false
set_option linter.all false
set_option maxRecDepth 100000
set_option maxHeartbeats 4000000
set_option exponentiation.threshold 10000
namespace Fp
open PySem PySem.Spec PyProof.Rows L2
/-! ### laws whose defs have code tables -/
section
variable {K : PySem.W.Frag}
def Tabs (ts : List Addr) (H : Hp) : Prop := ∀ t ∈ ts, H t = some (tabx t)
theorem Tabs.same {ts : List Addr} {H H' : Hp} (h : Tabs ts H) (e : Same H H') : Tabs ts H' := fun t ht => e _ _ (h t ht)
theorem Tabs.keep {ts : List Addr} {H H' : Hp} {d c : Addr} {t : Int} (h : Tabs ts H) (f : Feed H d c t) (k : Keep d H H') : Tabs ts H' := fun t ht => keep_at f k (h t ht) (fun _ z => nomatch z)
theorem Tabs.wr {ts : List Addr} {H : Hp} {a : Addr} {xs : List V} {o : HO} (h : Tabs ts H) (e : H a = some (.lst xs)) : Tabs ts (upd H a o) := fun t ht => by
  rw [upd_ne]
  · exact h t ht
  · intro z
    have := h t ht
    rw [z, e] at this
    cases this
def spLawT (K : PySem.W.Frag) (ts : List Addr) : Sp := fun vs H Q _ => ∃ (a : Addr) (ns : List Int), vs = [.ref a] ∧ SqL K H a (ns.map V.int) ∧ Tabs ts H ∧ ∀ H', Tabs ts H' → Q (.bl true) H'
theorem spLawT_of {cs : List (Addr × Addr)} (H : Hp) (a : Addr) (ns : List Int) (hC : ∀ p ∈ cs, H p.2 = some (tabx p.2)) (hS : SqL K H a (ns.map V.int)) :
    spLawT K (cs.map (·.2)) [.ref a] H (fun v H2 => v = .bl true ∧ ∀ p ∈ cs, H2 p.2 = some (tabx p.2)) fun _ _ _ => False :=
  ⟨a, ns, rfl, hS, fun t ht => by
    obtain ⟨p, hp, rfl⟩ := List.mem_map.mp ht
    exact hC p hp, fun H' hT => ⟨rfl, fun p hp => hT _ (List.mem_map.mpr ⟨p, hp, rfl⟩)⟩⟩
theorem tabOf_of {c P : Addr} {oc : Value} {od : Option Addr} {vs : Array Value} {osl : Array (Option Value)} {r : List Value} (l : K.lookup c = some ⟨oc, od, .fields vs, osl⟩) (h : vs.toList.drop 11 = .ref P :: r) : tabOf K (.ref c) = some P := by
  simp only [tabOf, l, h]
end

end Fp

set_option Elab.async false
set_option linter.all false
set_option maxRecDepth 100000
set_option maxHeartbeats 4000000
set_option exponentiation.threshold 10000
namespace Fp
open PySem PySem.Spec PyProof.Rows L2
/-! ### odd things: as they stand, as they are shown -/
section
variable {K : PySem.W.Frag} {H H' : Hp}
mutual
theorem DpX.tr (t1 : ∀ a xs, SqL K H a xs → SqL K H' a xs) (t2 : ∀ a xs, SqT K H a xs → SqT K H' a xs) (t3 : ∀ a, H a = some (.dK []) → H' a = some (.dK [])) : ∀ (d : PyData) (v : V), DpX K H v d → DpX K H' v d
  | .none, _, h => by cases h; exact .non
  | .bool _, _, h => by cases h; exact .bl _
  | .int _, _, h => by cases h; exact .int _
  | .str _, _, h => by cases h; exact .str _
  | .list ds, _, h => by
    cases h with
    | lst h1 h2 => exact .lst (t1 _ _ h1) (DpX.trAll t1 t2 t3 ds _ h2)
  | .tuple ds, _, h => by
    cases h with
    | tup h1 h2 => exact .tup (t2 _ _ h1) (DpX.trAll t1 t2 t3 ds _ h2)
  | .dict _, _, h => by
    cases h with
    | emp h1 => exact .emp (t3 _ h1)
theorem DpX.trAll (t1 : ∀ a xs, SqL K H a xs → SqL K H' a xs) (t2 : ∀ a xs, SqT K H a xs → SqT K H' a xs) (t3 : ∀ a, H a = some (.dK []) → H' a = some (.dK [])) : ∀ (ds : List PyData) (vs : List V), DpXAll K H vs ds → DpXAll K H' vs ds
  | [], _, h => by cases h; exact .nil
  | d :: ds, _, h => by
    cases h with
    | cons h1 h2 => exact .cons (DpX.tr t1 t2 t3 d _ h1) (DpX.trAll t1 t2 t3 ds _ h2)
end
theorem DpXAll.tr' (t1 : ∀ a xs, SqL K H a xs → SqL K H' a xs) (t2 : ∀ a xs, SqT K H a xs → SqT K H' a xs) (t3 : ∀ a, H a = some (.dK []) → H' a = some (.dK [])) {ds : List PyData} {vs : List V} (h : DpXAll K H vs ds) : DpXAll K H' vs ds := DpX.trAll t1 t2 t3 ds vs h
theorem DpX.same {d : PyData} {v : V} (h : DpX K H v d) (e : Same H H') : DpX K H' v d := DpX.tr (fun _ _ z => e.seq z) (fun _ _ z => sqT_same e z) (fun _ z => e _ _ z) _ _ h
theorem DpXAll.same {ds : List PyData} {vs : List V} (h : DpXAll K H vs ds) (e : Same H H') : DpXAll K H' vs ds := DpX.trAll (fun _ _ z => e.seq z) (fun _ _ z => sqT_same e z) (fun _ z => e _ _ z) _ _ h
theorem sqL_keep {d c : Addr} {t : Int} (f : Feed H d c t) (k : Keep d H H') {a : Addr} {xs : List V} (h : SqL K H a xs) : SqL K H' a xs := by
  rcases h with (h | ⟨o, h⟩) | h
  · exact .inl (.inl (keep_at f k h (fun _ z => nomatch z)))
  · exact .inl (.inr ⟨o, keep_at f k h (fun _ z => nomatch z)⟩)
  · exact .inr h
theorem emp_keep {d c : Addr} {t : Int} (f : Feed H d c t) (k : Keep d H H') {a : Addr} (h : H a = some (.dK [])) : H' a = some (.dK []) := by
  refine k a _ (fun z => ?_) h
  obtain ⟨_, _, _, h1, _⟩ := f
  rw [z, h1] at h
  have := HO.dK.inj (Option.some.inj h)
  unfold feedL at this
  cases this
theorem DpX.keep {d c : Addr} {t : Int} {x : PyData} {v : V} (h : DpX K H v x) (f : Feed H d c t) (k : Keep d H H') : DpX K H' v x := DpX.tr (fun _ _ z => sqL_keep f k z) (fun _ _ z => sqT_keep f k z) (fun _ z => emp_keep f k z) _ _ h
theorem DpXAll.keep {d c : Addr} {t : Int} {ds : List PyData} {vs : List V} (h : DpXAll K H vs ds) (f : Feed H d c t) (k : Keep d H H') : DpXAll K H' vs ds := DpX.trAll (fun _ _ z => sqL_keep f k z) (fun _ _ z => sqT_keep f k z) (fun _ z => emp_keep f k z) _ _ h
theorem DpXAll.len : ∀ {vs : List V} {ds : List PyData}, DpXAll K H vs ds → vs.length = ds.length
  | [], [], _ => rfl
  | [], _ :: _, h => by cases h
  | _ :: _, [], h => by cases h
  | _ :: vs, _ :: ds, h => by
    cases h with
    | cons h1 h2 => simp [DpXAll.len h2]
theorem DpXAll.get : ∀ {vs : List V} {ds : List PyData} {i : Nat} {d : PyData}, DpXAll K H vs ds → ds[i]? = some d → ∃ v, vs[i]? = some v ∧ DpX K H v d
  | _ :: _, _ :: _, 0, _, h, e => by
    cases h with
    | cons h1 h2 =>
      cases e
      exact ⟨_, rfl, h1⟩
  | _ :: _, _ :: _, i + 1, _, h, e => by
    cases h with
    | cons h1 h2 => exact DpXAll.get (i := i) h2 e
  | [], [], _, _, _, e => by cases e
  | [], _ :: _, _, _, h, _ => by cases h
  | _ :: _, [], _, _, h, _ => by cases h
theorem DpXAll.app : ∀ {vs : List V} {ds : List PyData} {ws : List V} {es : List PyData}, DpXAll K H vs ds → DpXAll K H ws es → DpXAll K H (vs ++ ws) (ds ++ es)
  | [], [], _, _, _, g => g
  | [], _ :: _, _, _, h, _ => by cases h
  | _ :: _, [], _, _, h, _ => by cases h
  | _ :: vs, _ :: ds, _, _, h, g => by
    cases h with
    | cons h1 h2 => exact .cons h1 (DpXAll.app h2 g)
end
/-! ### things that do not stand at some addresses -/
open Classical in
noncomputable def hid (A : Addr → Prop) (H : Hp) : Hp := fun a => if A a then none else H a
def Dom (A : Addr → Prop) (H : Hp) : Prop := ∀ a, A a → H a ≠ none
section
variable {K : PySem.W.Frag} {H H' : Hp} {A : Addr → Prop}
theorem hid_no (H : Hp) : hid (fun _ => False) H = H := funext fun _ => if_neg id
theorem hid_in {a : Addr} (h : ¬ A a) : hid A H a = H a := if_neg h
theorem hid_some {a : Addr} {o : HO} (h : hid A H a = some o) : ¬ A a ∧ H a = some o := by
  by_cases z : A a
  · rw [show hid A H a = none from if_pos z] at h
    cases h
  · exact ⟨z, by rw [hid_in z] at h; exact h⟩
theorem hid_mk {a : Addr} {o : HO} (z : ¬ A a) (h : H a = some o) : hid A H a = some o := by rw [hid_in z]; exact h
theorem hid_same (s : Same H H') : Same (hid A H) (hid A H') := fun a o h => hid_mk (hid_some h).1 (s _ _ (hid_some h).2)
theorem hid_un : Same (hid A H) H := fun _ _ h => (hid_some h).2
theorem hid_upd {L : Addr} {o : HO} (h : A L) : hid A (upd H L o) = hid A H := by
  funext a
  by_cases z : A a
  · rw [show hid A H a = none from if_pos z, show hid A (upd H L o) a = none from if_pos z]
  · rw [hid_in z, hid_in z, upd_ne]
    intro e
    rw [e] at z
    exact z h
theorem Dom.new {p : Addr} (h : Dom A H) (n : H p = none) : ¬ A p := fun z => h p z n
theorem Dom.same (h : Dom A H) (s : Same H H') : Dom A H' := fun a z n => by
  cases e : H a with
  | none => exact h a z e
  | some o => rw [s _ _ e] at n; cases n
theorem Dom.keep {d c : Addr} {t' : Int} (h : Dom A H) (f' : Feed H' d c t') (k : Keep d H H') : Dom A H' := fun a z n => by
  cases e : H a with
  | none => exact h a z e
  | some o =>
    by_cases y : a = d
    · obtain ⟨_, _, _, h1, _⟩ := f'
      rw [y, h1] at n
      cases n
    · rw [k a o y e] at n; cases n
theorem Dom.no : Dom (fun _ => False) H := fun _ z => z.elim
theorem Dom.at {L : Addr} {o : HO} (h : H L = some o) : Dom (· = L) H := fun a z n => by rw [z, h] at n; cases n
/-- d is told by v, and nothing of it stands at A -/
def DA (K : PySem.W.Frag) (A : Addr → Prop) (H : Hp) (v : V) (d : PyData) : Prop := DpX K (hid A H) v d
def DAs (K : PySem.W.Frag) (A : Addr → Prop) (H : Hp) (vs : List V) (ds : List PyData) : Prop := DpXAll K (hid A H) vs ds
theorem DA.no {v : V} {d : PyData} : DA K (fun _ => False) H v d ↔ DpX K H v d := by unfold DA; rw [hid_no]
theorem DA.un {v : V} {d : PyData} (h : DA K A H v d) : DpX K H v d := DpX.same h hid_un
theorem DAs.un {vs : List V} {ds : List PyData} (h : DAs K A H vs ds) : DpXAll K H vs ds := DpXAll.same h hid_un
theorem DA.same {v : V} {d : PyData} (h : DA K A H v d) (s : Same H H') : DA K A H' v d := DpX.same h (hid_same s)
theorem DAs.same {vs : List V} {ds : List PyData} (h : DAs K A H vs ds) (s : Same H H') : DAs K A H' vs ds := DpXAll.same h (hid_same s)
theorem DA.wr {v : V} {d : PyData} {L : Addr} {o : HO} (h : DA K A H v d) (z : A L) : DA K A (upd H L o) v d := by
  unfold DA
  rw [hid_upd z]
  exact h
theorem DAs.wr {vs : List V} {ds : List PyData} {L : Addr} {o : HO} (h : DAs K A H vs ds) (z : A L) : DAs K A (upd H L o) vs ds := by
  unfold DAs
  rw [hid_upd z]
  exact h
theorem sqL_keepA {d c : Addr} {t : Int} (f : Feed H d c t) (k : Keep d H H') {a : Addr} {xs : List V} (h : SqL K (hid A H) a xs) : SqL K (hid A H') a xs := by
  rcases h with (h | ⟨o, h⟩) | h
  · exact .inl (.inl (hid_mk (hid_some h).1 (keep_at f k (hid_some h).2 (fun _ z => nomatch z))))
  · exact .inl (.inr ⟨o, hid_mk (hid_some h).1 (keep_at f k (hid_some h).2 (fun _ z => nomatch z))⟩)
  · exact .inr h
theorem sqT_keepA {d c : Addr} {t : Int} (f : Feed H d c t) (k : Keep d H H') {a : Addr} {xs : List V} (h : SqT K (hid A H) a xs) : SqT K (hid A H') a xs := by
  rcases h with (h | ⟨o, h⟩) | h
  · exact .inl (.inl (hid_mk (hid_some h).1 (keep_at f k (hid_some h).2 (fun _ z => nomatch z))))
  · exact .inl (.inr ⟨o, hid_mk (hid_some h).1 (keep_at f k (hid_some h).2 (fun _ z => nomatch z))⟩)
  · exact .inr h
theorem DA.keep {d c : Addr} {t : Int} {x : PyData} {v : V} (h : DA K A H v x) (f : Feed H d c t) (k : Keep d H H') : DA K A H' v x := DpX.tr (fun _ _ z => sqL_keepA f k z) (fun _ _ z => sqT_keepA f k z) (fun _ z => hid_mk (hid_some z).1 (emp_keep f k (hid_some z).2)) _ _ h
theorem DAs.keep {d c : Addr} {t : Int} {ds : List PyData} {vs : List V} (h : DAs K A H vs ds) (f : Feed H d c t) (k : Keep d H H') : DAs K A H' vs ds := DpXAll.tr' (fun _ _ z => sqL_keepA f k z) (fun _ _ z => sqT_keepA f k z) (fun _ z => hid_mk (hid_some z).1 (emp_keep f k (hid_some z).2)) h
theorem DA.tup {p : Addr} {xs : List V} {ds : List PyData} (h : H p = some (.tup xs)) (z : ¬ A p) (g : DAs K A H xs ds) : DA K A H (.ref p) (.tuple ds) := DpX.tup (SqT.of (hid_mk z h)) g
theorem DA.lst {p : Addr} {xs : List V} {ds : List PyData} (h : H p = some (.lst xs)) (z : ¬ A p) (g : DAs K A H xs ds) : DA K A H (.ref p) (.list ds) := DpX.lst (SqL.of (hid_mk z h)) g
theorem DAs.nil : DAs K A H [] [] := DpXAll.nil
theorem DAs.cons {v : V} {d : PyData} {vs : List V} {ds : List PyData} (h : DA K A H v d) (g : DAs K A H vs ds) : DAs K A H (v :: vs) (d :: ds) := DpXAll.cons h g
theorem DAs.len {vs : List V} {ds : List PyData} (h : DAs K A H vs ds) : vs.length = ds.length := DpXAll.len h
theorem DAs.app {vs us : List V} {ds es : List PyData} (h : DAs K A H vs ds) (g : DAs K A H us es) : DAs K A H (vs ++ us) (ds ++ es) := DpXAll.app h g
theorem DAs.get {vs : List V} {ds : List PyData} {i : Nat} {d : PyData} (h : DAs K A H vs ds) (e : ds[i]? = some d) : ∃ v, vs[i]? = some v ∧ DA K A H v d := DpXAll.get h e
theorem DA.non : DA K A H .non .none := DpX.non
theorem DA.bl {b : Bool} : DA K A H (.bl b) (.bool b) := DpX.bl b
theorem DA.int {i : Int} : DA K A H (.int i) (.int i) := DpX.int i
theorem DA.str {x : Str} : DA K A H (.str x) (.str x) := DpX.str x
/-- a new tuple, a new list -/
theorem DA.tupN {p : Addr} {xs : List V} {ds : List PyData} (hA : Dom A H) (n : H p = none) (g : DAs K A H xs ds) : DA K A (upd H p (.tup xs)) (.ref p) (.tuple ds) := .tup upd_same (hA.new n) (g.same (same_new n))
theorem DA.lstN {p : Addr} {xs : List V} {ds : List PyData} (hA : Dom A H) (n : H p = none) (g : DAs K A H xs ds) : DA K A (upd H p (.lst xs)) (.ref p) (.list ds) := .lst upd_same (hA.new n) (g.same (same_new n))
end
/-! ### literals -/
section
variable {K : PySem.W.Frag}
def Lit (K : PySem.W.Frag) (te : TE) (d : PyData) : Prop := ∀ (A : Addr → Prop) σ H (Q : VK), Dom A H → (∀ v H', Same H H' → DA K A H' v d → Q v H') → te σ H Q
def Lits (K : PySem.W.Frag) (ta : TA) (ds : List PyData) : Prop := ∀ (A : Addr → Prop) σ H (R : List V → Hp → Prop), Dom A H → (∀ vs H', Same H H' → DAs K A H' vs ds → R vs H') → ta σ H R
theorem Lit.non : Lit K (tC .non) .none := fun _ _ H _ _ q => q _ H (Same.refl H) .non
theorem Lit.bl {b : Bool} : Lit K (tC (.bl b)) (.bool b) := fun _ _ H _ _ q => q _ H (Same.refl H) .bl
theorem Lit.int {n : Int} : Lit K (tC (.int n)) (.int n) := fun _ _ H _ _ q => q _ H (Same.refl H) .int
theorem Lit.str {x : Str} : Lit K (tC (.str x)) (.str x) := fun _ _ H _ _ q => q _ H (Same.refl H) .str
theorem Lit.neg {n : Int} : Lit K (tUn (rU fun i => .int (-i)) (tC (.int n))) (.int (-n)) := fun _ _ H _ _ q => ⟨n, rfl, q _ H (Same.refl H) .int⟩
theorem Lit.pow {n m : Int} (h : CPow n m) : Lit K (tOp (rI CPow fun i j => .int (i ^ j.toNat)) (tC (.int n)) (tC (.int m))) (.int (n ^ m.toNat)) := fun _ _ H _ _ q => ⟨n, m, rfl, rfl, h, q _ H (Same.refl H) .int⟩
theorem Lit.dict : Lit K tDNewK (.dict []) := fun _ _ H _ dA q p np => q _ _ (same_new np) (DpX.emp (hid_mk (dA.new np) upd_same))
theorem Lits.nil : Lits K tNil [] := fun _ _ H _ _ q => q [] H (Same.refl H) .nil
theorem Lits.cons {te : TE} {ta : TA} {d : PyData} {ds : List PyData} (h : Lit K te d) (g : Lits K ta ds) : Lits K (tCons te ta) (d :: ds) := fun A σ H R dA q =>
  h A σ H _ dA fun v H1 s1 hv => g A σ H1 _ (dA.same s1) fun vs H2 s2 hvs => q (v :: vs) H2 (s1.trans s2) (.cons (hv.same s2) hvs)
theorem Lit.tup {ta : TA} {ds : List PyData} (h : Lits K ta ds) (hl : ds.length ≤ 100) : Lit K (tTup ta) (.tuple ds) := fun A σ H Q dA q =>
  h A σ H _ dA fun vs H1 s1 hv => ⟨by rw [hv.len, sizeLine_eq]; omega, fun p np => q _ _ (s1.trans (same_new np)) (.tupN (dA.same s1) np hv)⟩
theorem Lit.lst {ta : TA} {ds : List PyData} (h : Lits K ta ds) (hl : ds.length ≤ 100) : Lit K (tLst ta) (.list ds) := fun A σ H Q dA q =>
  h A σ H _ dA fun vs H1 s1 hv => ⟨by rw [hv.len, sizeLine_eq]; omega, fun p np => q _ _ (s1.trans (same_new np)) (.lstN (dA.same s1) np hv)⟩
theorem lst_go {ta : TA} {ds : List PyData} {A : Addr → Prop} {σ : L2.St} {H : Hp} {Q : VK} (h : Lits K ta ds) (hl : ds.length ≤ 100) (dA : Dom A H) (q : ∀ D vs H', Same H H' → DAs K A H' vs ds → H' D = some (.lst vs) → Q (.ref D) H') : tLst ta σ H Q :=
  h A σ H _ dA fun vs H1 s1 hv => ⟨by rw [hv.len, sizeLine_eq]; omega, fun p np => q p vs _ (s1.trans (same_new np)) (hv.same (same_new np)) upd_same⟩
end
/-! ### sizes -/
structure O21 (c k : Nat) (d : PyData) : Prop where
  sh : d.showable = true
  lv : d.leavesShort 2000 = true
  wt : d.weight ≤ c
  dp : d.depth ≤ k
structure O21s (c k : Nat) (ds : List PyData) : Prop where
  sh : PyData.showableAll ds = true
  lv : PyData.leavesShortAll 2000 ds = true
  wt : PyData.weightAll ds ≤ c
  dp : PyData.depthAll ds ≤ k
theorem O21s.nil {k : Nat} : O21s 0 k [] := ⟨rfl, rfl, Nat.le_refl _, Nat.zero_le _⟩
theorem O21s.cons {c1 c2 k : Nat} {d : PyData} {ds : List PyData} (h : O21 c1 k d) (hs : O21s c2 k ds) : O21s (c1 + 1 + c2) k (d :: ds) := by
  refine ⟨?_, ?_, ?_, ?_⟩
  · show (d.showable && PyData.showableAll ds) = true
    rw [h.sh, hs.sh]
    rfl
  · show (d.leavesShort 2000 && PyData.leavesShortAll 2000 ds) = true
    rw [h.lv, hs.lv]
    rfl
  · show d.weight + 1 + PyData.weightAll ds ≤ _
    have := h.wt
    have := hs.wt
    omega
  · show max d.depth (PyData.depthAll ds) ≤ k
    have := h.dp
    have := hs.dp
    omega
theorem O21s.tup {c k : Nat} {ds : List PyData} (h : O21s c k ds) : O21 c (k + 1) (.tuple ds) := ⟨h.sh, h.lv, h.wt, Nat.add_le_add_right h.dp 1⟩
theorem O21s.lst {c k : Nat} {ds : List PyData} (h : O21s c k ds) : O21 c (k + 1) (.list ds) := ⟨h.sh, h.lv, h.wt, Nat.add_le_add_right h.dp 1⟩
theorem O21.mono {c c2 k k2 : Nat} {d : PyData} (h : O21 c k d) (h1 : c ≤ c2) (h2 : k ≤ k2) : O21 c2 k2 d := ⟨h.sh, h.lv, Nat.le_trans h.wt h1, Nat.le_trans h.dp h2⟩
theorem O21.len {c k : Nat} {d : PyData} (h : O21 c k d) (hc : c ≤ 8000) : d.shown.length ≤ sizeLine := by
  have e := PyData.shown_le 2000 (by decide) d h.lv
  have w := h.wt
  have e2 : (2000 + 2) * d.weight ≤ (2000 + 2) * 8000 := Nat.mul_le_mul_left _ (Nat.le_trans w hc)
  rw [sizeLine_eq]
  omega
def oddD : List PyData := [.none, .bool true, .bool false, .str "", .str "0", .int 0, .int 1, .int (-1), .tuple [], .list [], .dict [], .tuple [.int 0, .int 1], .tuple [.int 1, .int 1], .tuple [.int 1, .int 0], .tuple [.int 2, .int 4], .list [.int 1, .int 2], .tuple [.bool true, .int 1]]
def oddD2 : List PyData := [.tuple [.int 0, .int 2], .tuple [.int 3, .int 2], .tuple [.int (-1), .int 2], .tuple [.int 1, .int 2, .int 3], .tuple [.tuple [], .tuple [.int 0, .int 1]], .tuple [.tuple [.tuple [.int 1, .int 2]], .tuple [.int 1, .int 2]], .tuple [.tuple [.int 1, .int 2]], .tuple [.int (10 ^ (40 : Int).toNat), .int 1]]
def oddD3 : List PyData := [.str "a", .tuple [.int 1, .bool true], .tuple [.int 1, .int (-2)], .list [.tuple [.int 1, .int 2]], .tuple [.tuple [.int 1, .int 3], .tuple [.int 2, .int 3]]]
def o21B (d : PyData) : Bool := d.showable && d.leavesShort 2000 && decide (d.weight ≤ 300) && decide (d.depth ≤ 4)
theorem o21B_ok {d : PyData} (h : o21B d = true) : O21 300 4 d := by
  unfold o21B at h
  simp only [Bool.and_eq_true, decide_eq_true_eq] at h
  exact ⟨h.1.1.1, h.1.1.2, h.1.2, h.2⟩
theorem odd_sh : ∀ d ∈ oddD ++ oddD2 ++ oddD3, O21 300 4 d := fun d hd => o21B_ok (List.all_eq_true.mp (show (oddD ++ oddD2 ++ oddD3).all o21B = true by decide +kernel) d hd)

end Fp

set_option Elab.async false
set_option linter.all false
set_option maxRecDepth 100000
set_option maxHeartbeats 4000000
set_option exponentiation.threshold 10000
namespace Fp
open PySem PySem.Spec PyProof.Rows L2
/-! ### how great any thing is, shown -/
/-- its numbers below 2 ^ b, its tuples and lists at most w long -/
inductive Itd (b w : Nat) : PyData → Prop
  | non : Itd b w .none
  | bl (x : Bool) : Itd b w (.bool x)
  | int {i : Int} : Sm b i → Itd b w (.int i)
  | str {x : Str} : (∀ c ∈ x.cps.toList, c < 16 ^ 8) → Itd b w (.str x)
  | lst {ds : List PyData} : ds.length ≤ w → (∀ d ∈ ds, Itd b w d) → Itd b w (.list ds)
  | tup {ds : List PyData} : ds.length ≤ w → (∀ d ∈ ds, Itd b w d) → Itd b w (.tuple ds)
  | emp : Itd b w (.dict [])
theorem shA_of {ds : List PyData} (h : ∀ d ∈ ds, d.showable = true) : PyData.showableAll ds = true := by
  induction ds with
  | nil => rfl
  | cons d r ih =>
    show (d.showable && PyData.showableAll r) = true
    rw [h d (List.mem_cons_self ..), ih fun x hx => h x (List.mem_cons_of_mem _ hx)]
    rfl
theorem lvA_of {ds : List PyData} (h : ∀ d ∈ ds, d.leavesShort 2000 = true) : PyData.leavesShortAll 2000 ds = true := by
  induction ds with
  | nil => rfl
  | cons d r ih =>
    show (d.leavesShort 2000 && PyData.leavesShortAll 2000 r) = true
    rw [h d (List.mem_cons_self ..), ih fun x hx => h x (List.mem_cons_of_mem _ hx)]
    rfl
theorem Itd.sh {b w : Nat} {d : PyData} (h : Itd b w d) (hb : b ≤ 1900) : d.showable = true ∧ d.leavesShort 2000 = true := by
  induction h with
  | non => exact ⟨rfl, rfl⟩
  | bl x => exact ⟨rfl, rfl⟩
  | int h => exact sh_int (h.mono hb)
  | str h => exact ⟨rfl, by simpa only [PyData.leavesShort, List.all_eq_true, decide_eq_true_eq] using h⟩
  | lst _ _ ih => exact ⟨shA_of fun d hd => (ih d hd).1, lvA_of fun d hd => (ih d hd).2⟩
  | tup _ _ ih => exact ⟨shA_of fun d hd => (ih d hd).1, lvA_of fun d hd => (ih d hd).2⟩
  | emp => exact ⟨rfl, rfl⟩
theorem Itd.mono {b b2 w w2 : Nat} {d : PyData} (h : Itd b w d) (l : b ≤ b2) (lw : w ≤ w2) : Itd b2 w2 d := by
  induction h with
  | non => exact .non
  | bl x => exact .bl x
  | int h => exact .int (h.mono l)
  | str h => exact .str h
  | lst n _ ih => exact .lst (Nat.le_trans n lw) ih
  | tup n _ ih => exact .tup (Nat.le_trans n lw) ih
  | emp => exact .emp
structure Bk (b w c k : Nat) (d : PyData) : Prop where
  it : Itd b w d
  bk : d.bulk ≤ c
  dp : d.depth ≤ k
structure Bks (b w c k : Nat) (ds : List PyData) : Prop where
  it : ∀ d ∈ ds, Itd b w d
  bk : PyData.bulkAll ds ≤ c
  dp : PyData.depthAll ds ≤ k
theorem Bk.mono {b b2 w w2 c c2 k k2 : Nat} {d : PyData} (h : Bk b w c k d) (h0 : b ≤ b2) (hw : w ≤ w2) (h1 : c ≤ c2) (h2 : k ≤ k2) : Bk b2 w2 c2 k2 d := ⟨h.it.mono h0 hw, Nat.le_trans h.bk h1, Nat.le_trans h.dp h2⟩
theorem Bks.mono {b b2 w w2 c c2 k k2 : Nat} {ds : List PyData} (h : Bks b w c k ds) (h0 : b ≤ b2) (hw : w ≤ w2) (h1 : c ≤ c2) (h2 : k ≤ k2) : Bks b2 w2 c2 k2 ds := ⟨fun d hd => (h.it d hd).mono h0 hw, Nat.le_trans h.bk h1, Nat.le_trans h.dp h2⟩
theorem Bks.nil {b w k : Nat} : Bks b w 0 k [] := ⟨fun _ h => (by cases h), Nat.le_refl _, Nat.zero_le _⟩
theorem Bks.cons {b w c1 c2 k : Nat} {d : PyData} {ds : List PyData} (h : Bk b w c1 k d) (hs : Bks b w c2 k ds) : Bks b w (c1 + 1 + c2) k (d :: ds) := by
  refine ⟨fun x hx => ?_, ?_, ?_⟩
  · rcases List.mem_cons.mp hx with rfl | z
    · exact h.it
    · exact hs.it x z
  · show d.bulk + 1 + PyData.bulkAll ds ≤ _
    have := h.bk
    have := hs.bk
    omega
  · show max d.depth (PyData.depthAll ds) ≤ k
    have := h.dp
    have := hs.dp
    omega
theorem bulkA_app (xs ys : List PyData) : PyData.bulkAll (xs ++ ys) = PyData.bulkAll xs + PyData.bulkAll ys := by
  induction xs with
  | nil => show PyData.bulkAll ys = 0 + _; omega
  | cons d r ih => show d.bulk + 1 + PyData.bulkAll (r ++ ys) = d.bulk + 1 + PyData.bulkAll r + _; omega
theorem depthA_app (xs ys : List PyData) : PyData.depthAll (xs ++ ys) = max (PyData.depthAll xs) (PyData.depthAll ys) := by
  induction xs with
  | nil => show PyData.depthAll ys = max 0 _; omega
  | cons d r ih => show max d.depth (PyData.depthAll (r ++ ys)) = max (max d.depth (PyData.depthAll r)) _; omega
theorem Bks.app {b w c1 c2 k : Nat} {xs ys : List PyData} (h : Bks b w c1 k xs) (g : Bks b w c2 k ys) : Bks b w (c1 + c2) k (xs ++ ys) := by
  refine ⟨fun x hx => (List.mem_append.mp hx).elim (h.it x) (g.it x), ?_, ?_⟩
  · rw [bulkA_app]; have := h.bk; have := g.bk; omega
  · rw [depthA_app]; have := h.dp; have := g.dp; omega
theorem Bks.take {b w c k : Nat} {ds : List PyData} (h : Bks b w c k ds) (i : Nat) : Bks b w c k (ds.take i) := by
  have e1 := bulkA_app (ds.take i) (ds.drop i)
  have e2 := depthA_app (ds.take i) (ds.drop i)
  rw [List.take_append_drop] at e1 e2
  exact ⟨fun x hx => h.it x (List.mem_of_mem_take hx), by have := h.bk; omega, by have := h.dp; omega⟩
theorem Bks.drop {b w c k : Nat} {ds : List PyData} (h : Bks b w c k ds) (i : Nat) : Bks b w c k (ds.drop i) := by
  have e1 := bulkA_app (ds.take i) (ds.drop i)
  have e2 := depthA_app (ds.take i) (ds.drop i)
  rw [List.take_append_drop] at e1 e2
  exact ⟨fun x hx => h.it x (List.mem_of_mem_drop hx), by have := h.bk; omega, by have := h.dp; omega⟩
theorem Bks.rev {b w c k : Nat} {ds : List PyData} (h : Bks b w c k ds) : Bks b w c k ds.reverse := by
  have e : ∀ xs : List PyData, PyData.bulkAll xs.reverse = PyData.bulkAll xs ∧ PyData.depthAll xs.reverse = PyData.depthAll xs := by
    intro xs
    induction xs with
    | nil => exact ⟨rfl, rfl⟩
    | cons d r ih =>
      rw [List.reverse_cons, bulkA_app, depthA_app, ih.1, ih.2]
      exact ⟨show _ + (d.bulk + 1 + 0) = d.bulk + 1 + _ by omega, show max _ (max d.depth 0) = max d.depth _ by omega⟩
  refine ⟨fun x hx => h.it x (List.mem_reverse.mp hx), ?_, ?_⟩
  · rw [(e ds).1]; exact h.bk
  · rw [(e ds).2]; exact h.dp
theorem depthA_mem {ds : List PyData} {d : PyData} (h : d ∈ ds) : d.depth ≤ PyData.depthAll ds := by
  induction ds with
  | nil => cases h
  | cons x r ih =>
    show _ ≤ max x.depth (PyData.depthAll r)
    rcases List.mem_cons.mp h with rfl | z
    · omega
    · have := ih z; omega
theorem Bks.get {b w c k i : Nat} {ds : List PyData} {d : PyData} (h : Bks b w c k ds) (e : ds[i]? = some d) : Bk b w c k d := by
  have hm := List.mem_of_getElem? e
  refine ⟨h.it d hm, ?_, Nat.le_trans (depthA_mem hm) h.dp⟩
  have h1 := (h.drop i).bk
  have e2 : ds.drop i = d :: ds.drop (i + 1) := by
    have hi := (List.getElem?_eq_some_iff.mp e).1
    rw [List.drop_eq_getElem_cons hi, (List.getElem?_eq_some_iff.mp e).2]
  rw [e2] at h1
  have h2 : d.bulk + 1 + PyData.bulkAll (ds.drop (i + 1)) ≤ c := h1
  omega
/-- what stands around place i -/
theorem bulk_split {i : Nat} {ds : List PyData} {d : PyData} (e : ds[i]? = some d) : PyData.bulkAll (ds.take i) + (d.bulk + 1) + PyData.bulkAll (ds.drop (i + 1)) = PyData.bulkAll ds := by
  have hi := (List.getElem?_eq_some_iff.mp e).1
  have e1 := bulkA_app (ds.take i) (ds.drop i)
  rw [List.take_append_drop] at e1
  have e2 : ds.drop i = d :: ds.drop (i + 1) := by
    rw [List.drop_eq_getElem_cons hi, (List.getElem?_eq_some_iff.mp e).2]
  have e3 : PyData.bulkAll (ds.drop i) = d.bulk + 1 + PyData.bulkAll (ds.drop (i + 1)) := by rw [e2]; rfl
  omega
theorem Bks.tup {b w c k : Nat} {ds : List PyData} (h : Bks b w c k ds) (hl : ds.length ≤ w) : Bk b w c (k + 1) (.tuple ds) := ⟨.tup hl h.it, h.bk, Nat.add_le_add_right h.dp 1⟩
theorem Bks.lst {b w c k : Nat} {ds : List PyData} (h : Bks b w c k ds) (hl : ds.length ≤ w) : Bk b w c (k + 1) (.list ds) := ⟨.lst hl h.it, h.bk, Nat.add_le_add_right h.dp 1⟩
theorem Bk.tupI {b w c k : Nat} {ds : List PyData} (h : Bk b w c k (.tuple ds)) : ∃ j, k = j + 1 ∧ ds.length ≤ w ∧ Bks b w c j ds := by
  have hd : PyData.depthAll ds + 1 ≤ k := h.dp
  cases h.it with
  | tup z y => exact ⟨k - 1, by omega, z, y, h.bk, by omega⟩
theorem Bk.int {b w k : Nat} {i : Int} (h : Sm b i) : Bk b w 0 k (.int i) := ⟨.int h, Nat.le_refl _, Nat.zero_le _⟩
theorem Bk.bool {b w k : Nat} {x : Bool} : Bk b w 0 k (.bool x) := ⟨.bl x, Nat.le_refl _, Nat.zero_le _⟩
theorem Bk.none {b w k : Nat} : Bk b w 0 k .none := ⟨.non, Nat.le_refl _, Nat.zero_le _⟩
theorem Bk.text {b w k : Nat} {i : Int} (h : Sm b i) (hb : 0 < b) : Bk b w (b + 1) k (.str (Str.ofString (toString i))) := by
  refine ⟨.str fun c hc => ?_, ?_, Nat.zero_le _⟩
  · rcases Nat.lt_or_ge c (16 ^ 8) with z | z
    · exact z
    · exact absurd hc (int_text_free' c ⟨by omega, by omega⟩ i)
  · have e := int_text_length_le (k := b) hb (h.log hb)
    show (Str.ofString (toString i)).length ≤ b + 1
    rw [PySem.ofString_length]
    exact e
theorem Bk.len {b w c k : Nat} {d : PyData} (h : Bk b w c k d) (hb : b ≤ 1900) (hc : c ≤ 8000) : d.shown.length ≤ sizeLine := by
  have e := PyData.shown_le_bulk 2000 (by decide) d (h.it.sh hb).2
  have e2 : (2000 + 2) * d.bulk ≤ (2000 + 2) * 8000 := Nat.mul_le_mul_left _ (Nat.le_trans h.bk hc)
  rw [sizeLine_eq]
  omega
def itB (b : Nat) : PyData → Bool
  | .none => true
  | .bool _ => true
  | .int i => decide (i.natAbs < 2 ^ b)
  | .str x => x.cps.toList.all fun c => decide (c < 16 ^ 8)
  | .dict [] => true
  | _ => false
/-- things of at most four in one another -/
def itBn (b : Nat) : Nat → PyData → Bool
  | 0, d => itB b d
  | n + 1, .tuple ds => decide (ds.length ≤ 4) && ds.all (itBn b n)
  | n + 1, .list ds => decide (ds.length ≤ 4) && ds.all (itBn b n)
  | _ + 1, d => itB b d
theorem itB_ok {b w : Nat} {d : PyData} (h : itB b d = true) : Itd b w d := by
  cases d with
  | none => exact .non
  | bool x => exact .bl x
  | int i => exact .int (show i.natAbs < 2 ^ b from of_decide_eq_true h)
  | str x => exact .str (by simpa only [itB, List.all_eq_true, decide_eq_true_eq] using h)
  | list ds => cases h
  | tuple ds => cases h
  | dict kv =>
    cases kv with
    | nil => exact .emp
    | cons _ _ => cases h
theorem itBn_ok {b : Nat} : ∀ {n : Nat} {d : PyData}, itBn b n d = true → Itd b 4 d
  | 0, _, h => itB_ok h
  | n + 1, .tuple ds, h => by
    have h2 : (decide (ds.length ≤ 4) && ds.all (itBn b n)) = true := h
    rw [Bool.and_eq_true, decide_eq_true_eq] at h2
    exact .tup h2.1 fun d hd => itBn_ok (List.all_eq_true.mp h2.2 d hd)
  | n + 1, .list ds, h => by
    have h2 : (decide (ds.length ≤ 4) && ds.all (itBn b n)) = true := h
    rw [Bool.and_eq_true, decide_eq_true_eq] at h2
    exact .lst h2.1 fun d hd => itBn_ok (List.all_eq_true.mp h2.2 d hd)
  | _ + 1, .none, h => itB_ok h
  | _ + 1, .bool _, h => itB_ok h
  | _ + 1, .int _, h => itB_ok h
  | _ + 1, .str _, h => itB_ok h
  | _ + 1, .dict _, h => itB_ok h
def bkB (d : PyData) : Bool := itBn 134 4 d && decide (d.bulk ≤ 20) && decide (d.depth ≤ 4)
theorem bkB_ok {d : PyData} (h : bkB d = true) : Bk 134 4 20 4 d := by
  unfold bkB at h
  simp only [Bool.and_eq_true, decide_eq_true_eq] at h
  exact ⟨itBn_ok h.1.1, h.1.2, h.2⟩
theorem odd_bk : ∀ d ∈ oddD ++ oddD2 ++ oddD3, Bk 134 4 20 4 d := fun d hd => bkB_ok (List.all_eq_true.mp (show (oddD ++ oddD2 ++ oddD3).all bkB = true by decide +kernel) d hd)
/-! ### tuples told by their data: cut, laid behind one another -/
section
variable {K : PySem.W.Frag} {H H' : Hp} {A : Addr → Prop}
theorem DpXAll.take : ∀ {xs : List V} {ds : List PyData} (i : Nat), DpXAll K H xs ds → DpXAll K H (xs.take i) (ds.take i)
  | [], [], _, _ => by simp only [List.take_nil]; exact .nil
  | _ :: _, _ :: _, 0, _ => .nil
  | _ :: _, _ :: _, i + 1, h => by
    cases h with
    | cons a b => exact .cons a (b.take i)
  | [], _ :: _, _, h => by cases h
  | _ :: _, [], _, h => by cases h
theorem DpXAll.drop : ∀ {xs : List V} {ds : List PyData} (i : Nat), DpXAll K H xs ds → DpXAll K H (xs.drop i) (ds.drop i)
  | [], [], _, _ => by simp only [List.drop_nil]; exact .nil
  | _ :: _, _ :: _, 0, h => h
  | _ :: _, _ :: _, i + 1, h => by
    cases h with
    | cons a b => exact b.drop i
  | [], _ :: _, _, h => by cases h
  | _ :: _, [], _, h => by cases h
theorem DpXAll.rev : ∀ {xs : List V} {ds : List PyData}, DpXAll K H xs ds → DpXAll K H xs.reverse ds.reverse
  | [], [], _ => .nil
  | x :: xs, d :: ds, h => by
    cases h with
    | cons a b =>
      rw [List.reverse_cons, List.reverse_cons]
      exact b.rev.app (.cons a .nil)
  | [], _ :: _, h => by cases h
  | _ :: _, [], h => by cases h
theorem cutV_to (vs : List V) (n : Nat) : cutV vs none (some (n : Int)) = vs.take n := by
  unfold cutV
  rw [HT.sIx_none, HT.sIx_nat, List.drop_zero, Nat.sub_zero]
  rcases Nat.le_total n vs.length with z | z
  · rw [Nat.min_eq_left z]
  · rw [Nat.min_eq_right z, List.take_of_length_le (Nat.le_refl _), List.take_of_length_le z]
theorem cutV_fr (vs : List V) (n : Nat) : cutV vs (some (n : Int)) none = vs.drop n := by
  unfold cutV
  rw [HT.sIx_none, HT.sIx_nat]
  rcases Nat.le_total n vs.length with z | z
  · rw [Nat.min_eq_left z, List.take_of_length_le (by rw [List.length_drop]; exact Nat.le_refl _)]
  · rw [Nat.min_eq_right z, List.drop_of_length_le (Nat.le_refl _), List.drop_of_length_le z, List.take_nil]
theorem cutV_mid (vs : List V) (a b : Nat) : cutV vs (some (a : Int)) (some (b : Int)) = (vs.take b).drop a := by
  unfold cutV
  rw [HT.sIx_nat, HT.sIx_nat, List.drop_take]
  rcases Nat.le_total b vs.length with z | z
  · rw [Nat.min_eq_left z]
    rcases Nat.le_total a vs.length with y | y
    · rw [Nat.min_eq_left y]
    · rw [Nat.min_eq_right y, List.drop_of_length_le (Nat.le_refl _), List.drop_of_length_le y, List.take_nil, List.take_nil]
  · rw [Nat.min_eq_right z]
    rcases Nat.le_total a vs.length with y | y
    · rw [Nat.min_eq_left y, List.take_of_length_le (by rw [List.length_drop]; exact Nat.le_refl _), List.take_of_length_le (by rw [List.length_drop]; omega)]
    · rw [Nat.min_eq_right y, List.drop_of_length_le (Nat.le_refl _), List.drop_of_length_le y, List.take_nil, List.take_nil]
theorem slD_to {v : V} {ds : List PyData} {i : Nat} {Q : VK} (dA : Dom A H) (h : DA K A H v (.tuple ds)) (q : ∀ w H', Same H H' → DA K A H' w (.tuple (ds.take i)) → Q w H') : rSlA K v none (some (i : Int)) H Q := by
  have hu := h.un
  unfold DA at h
  cases h with
  | @tup p xs _ h1 h2 =>
    have hl := h2.len
    refine ⟨p, xs, rfl, sqT_same hid_un h1, fun z => ?_, fun _ r nr => ?_⟩
    · have z1 := z.2
      rw [HT.sIx_nat] at z1
      refine q _ H (Same.refl H) ?_
      rw [List.take_of_length_le (by omega)]
      exact DpX.tup h1 h2
    · rw [cutV_to]
      exact q _ _ (same_new nr) (.tupN dA nr (h2.take i))
theorem slD_fr {v : V} {ds : List PyData} {i : Nat} {Q : VK} (dA : Dom A H) (h : DA K A H v (.tuple ds)) (q : ∀ w H', Same H H' → DA K A H' w (.tuple (ds.drop i)) → Q w H') : rSlA K v (some (i : Int)) none H Q := by
  unfold DA at h
  cases h with
  | @tup p xs _ h1 h2 =>
    have hl := h2.len
    refine ⟨p, xs, rfl, sqT_same hid_un h1, fun z => ?_, fun _ r nr => ?_⟩
    · have z1 := z.1
      rw [HT.sIx_nat] at z1
      refine q _ H (Same.refl H) ?_
      rcases Nat.eq_zero_or_pos i with y | y
      · rw [y]
        exact DpX.tup h1 h2
      · have : xs.length = 0 := by omega
        rw [List.drop_of_length_le (by omega)]
        have e : ds = [] := List.length_eq_zero_iff.mp (by omega)
        rw [e] at h2
        exact DpX.tup h1 h2
    · rw [cutV_fr]
      exact q _ _ (same_new nr) (.tupN dA nr (h2.drop i))
theorem slD_mid {v : V} {ds : List PyData} {i j : Nat} {Q : VK} (dA : Dom A H) (h : DA K A H v (.tuple ds)) (q : ∀ w H', Same H H' → DA K A H' w (.tuple ((ds.take j).drop i)) → Q w H') : rSlA K v (some (i : Int)) (some (j : Int)) H Q := by
  unfold DA at h
  cases h with
  | @tup p xs _ h1 h2 =>
    have hl := h2.len
    refine ⟨p, xs, rfl, sqT_same hid_un h1, fun z => ?_, fun _ r nr => ?_⟩
    · have z1 := z.1
      have z2 := z.2
      rw [HT.sIx_nat] at z1 z2
      refine q _ H (Same.refl H) ?_
      rw [List.take_of_length_le (by omega)]
      rcases Nat.eq_zero_or_pos i with y | y
      · rw [y]
        exact DpX.tup h1 h2
      · have : xs.length = 0 := by omega
        rw [List.drop_of_length_le (by omega)]
        have e : ds = [] := List.length_eq_zero_iff.mp (by omega)
        rw [e] at h2
        exact DpX.tup h1 h2
    · rw [cutV_mid]
      exact q _ _ (same_new nr) (.tupN dA nr ((h2.take j).drop i))
theorem catD {u v : V} {d1 d2 : List PyData} {Q : VK} (dA : Dom A H) (h : DA K A H u (.tuple d1)) (g : DA K A H v (.tuple d2)) (hl : d1.length + d2.length ≤ sizeLine) (q : ∀ w H', Same H H' → DA K A H' w (.tuple (d1 ++ d2)) → Q w H') : rCatA K u v H Q := by
  unfold DA at h g
  cases h with
  | @tup a xs _ h1 h2 =>
    cases g with
    | @tup b ys _ g1 g2 =>
      have l1 := h2.len
      have l2 := g2.len
      refine ⟨a, b, xs, ys, rfl, rfl, sqT_same hid_un h1, sqT_same hid_un g1, by omega, fun e => ?_, fun _ e => ?_, fun _ _ p np => ?_⟩
      · have e1 : d1 = [] := List.length_eq_zero_iff.mp (by rw [← l1, e]; rfl)
        refine q _ H (Same.refl H) ?_
        rw [e1]
        exact DpX.tup g1 g2
      · have e1 : d2 = [] := List.length_eq_zero_iff.mp (by rw [← l2, e]; rfl)
        refine q _ H (Same.refl H) ?_
        rw [e1, List.append_nil]
        exact DpX.tup h1 h2
      · exact q _ _ (same_new np) (.tupN dA np (h2.app g2))
theorem listD {u : V} {ds : List PyData} {Q : VK} (dA : Dom A H) (h : DA K A H u (.tuple ds)) (q : ∀ w H', Same H H' → DA K A H' w (.list ds) → Q w H') : rLst K [u] H Q := by
  unfold DA at h
  cases h with
  | @tup a xs _ h1 h2 => exact ⟨a, xs, rfl, .inr (sqT_same hid_un h1), fun p np => q _ _ (same_new np) (.lstN dA np h2)⟩
theorem DA.tupE {u : V} {ds : List PyData} (h : DA K A H u (.tuple ds)) : ∃ a xs, u = .ref a ∧ SqT K H a xs ∧ DAs K A H xs ds := by
  unfold DA at h
  cases h with
  | @tup a xs _ h1 h2 => exact ⟨a, xs, rfl, sqT_same hid_un h1, h2⟩
theorem DAs.rev {xs : List V} {ds : List PyData} (h : DAs K A H xs ds) : DAs K A H xs.reverse ds.reverse := DpXAll.rev h
/-- a sublist, by what it weighs itself -/
theorem Bks.own {b w c k : Nat} {ds : List PyData} (h : Bks b w c k ds) : Bks b w (PyData.bulkAll ds) k ds := ⟨h.it, Nat.le_refl _, h.dp⟩
theorem reprD {v : V} {d : PyData} {b l c k : Nat} {Q : VK} (h : DpX K H v d) (g : Bk b l c k d) (hb : b ≤ 1900) (hc : c ≤ 8000) (hk : k ≤ 60) (q : Q (.str d.shown) H) : rRepr K [v] H Q := ⟨v, d, rfl, h, (g.it.sh hb).1, Nat.le_trans g.dp hk, g.len hb hc, q⟩
mutual
theorem DpX.ofD : ∀ {v : V} {d : PyData}, Dp K H v d → DpX K H v d
  | _, _, .non => .non
  | _, _, .bl b => .bl b
  | _, _, .int i => .int i
  | _, _, .str x => .str x
  | _, _, .lst h g => .lst h (DpXAll.ofD g)
  | _, _, .tup h g => .tup h (DpXAll.ofD g)
theorem DpXAll.ofD : ∀ {vs : List V} {ds : List PyData}, DpAll K H vs ds → DpXAll K H vs ds
  | _, _, .nil => .nil
  | _, _, .cons h g => .cons (DpX.ofD h) (DpXAll.ofD g)
end
theorem lenD {u : V} {ds : List PyData} {Q : VK} (h : DpX K H u (.tuple ds)) (q : Q (.int ds.length) H) : rLen K [u] H Q := by
  cases h with
  | @tup a xs _ h1 h2 => exact ⟨a, xs, rfl, .inr h1, by rw [h2.len]; exact q⟩
theorem lenL {u : V} {ds : List PyData} {Q : VK} (h : DpX K H u (.list ds)) (q : Q (.int ds.length) H) : rLen K [u] H Q := by
  cases h with
  | @lst a xs _ h1 h2 => exact ⟨a, xs, rfl, .inl h1, by rw [h2.len]; exact q⟩
theorem idxD {u : V} {ds : List PyData} {i : Nat} {e : PyData} {Q : VK} (h : DA K A H u (.tuple ds)) (he : ds[i]? = some e) (q : ∀ w, DA K A H w e → Q w H) : rIxT K u (.int (i : Int)) H Q := by
  obtain ⟨a, xs, rfl, h1, h2⟩ := h.tupE
  obtain ⟨w, hw, hd⟩ := h2.get he
  exact ⟨a, xs, _, w, rfl, rfl, h1, atI_nat hw, q w hd⟩
theorem atI_neg {α : Type} {xs : List α} {k : Nat} {v : α} (h0 : 0 < k) (h : k ≤ xs.length) (e : xs[xs.length - k]? = some v) : atI xs (-(k : Int)) = some v := by
  have e2 : ixN xs.length (-(k : Int)) = some (xs.length - k) := by
    unfold ixN
    rw [if_neg (by omega), if_pos (by omega)]
    congr 1
    omega
  unfold atI
  rw [e2]
  exact e
/-- a list of things told by their data that may grow: nothing of them stands at it -/
def LsD (K : PySem.W.Frag) (H : Hp) (a : Addr) (ds : List PyData) : Prop := ∃ vs, H a = some (.lst vs) ∧ DAs K (· = a) H vs ds
theorem LsD.same {a : Addr} {ds : List PyData} (h : LsD K H a ds) (s : Same H H') : LsD K H' a ds := by
  obtain ⟨vs, h1, h2⟩ := h
  exact ⟨vs, s _ _ h1, h2.same s⟩
theorem LsD.keep {d c : Addr} {t : Int} {a : Addr} {ds : List PyData} (h : LsD K H a ds) (f : Feed H d c t) (k : Keep d H H') : LsD K H' a ds := by
  obtain ⟨vs, h1, h2⟩ := h
  exact ⟨vs, keep_at f k h1 (fun _ z => nomatch z), h2.keep f k⟩
theorem LsD.new {p : Addr} {vs : List V} {ds : List PyData} (n : H p = none) (h : DpXAll K H vs ds) : LsD K (upd H p (.lst vs)) p ds := by
  refine ⟨vs, upd_same, ?_⟩
  unfold DAs
  rw [hid_upd (A := fun x => x = p) rfl]
  refine DpXAll.same h fun b o e => ?_
  exact hid_mk (ne_of_none e n) e
theorem LsD.dom {a : Addr} {ds : List PyData} (h : LsD K H a ds) : Dom (· = a) H := by
  obtain ⟨vs, h1, _⟩ := h
  exact Dom.at h1
/-- one more behind -/
theorem LsD.push {a : Addr} {ds : List PyData} {v : V} {d : PyData} {Q : Hp → Prop} (h : LsD K H a ds) (hv : DA K (· = a) H v d) (hl : ds.length < 10000) (q : ∀ vs, H a = some (.lst vs) → LsD K (upd H a (.lst (vs ++ [v]))) a (ds ++ [d]) → Q (upd H a (.lst (vs ++ [v])))) :
    ∃ vs, H a = some (.lst vs) ∧ vs.length < sizeLine ∧ Q (upd H a (.lst (vs ++ [v]))) := by
  obtain ⟨vs, h1, h2⟩ := h
  exact ⟨vs, h1, by rw [h2.len, sizeLine_eq]; omega, q vs h1 ⟨_, upd_same, (h2.app (.cons hv .nil)).wr rfl⟩⟩
theorem LsD.push_go {a : Addr} {ds : List PyData} {v : V} {d : PyData} {Q : VK} (h : LsD K H a ds) (hv : DA K (· = a) H v d) (hl : ds.length < 10000) (q : ∀ H', LsD K H' a (ds ++ [d]) → (∀ b o, b ≠ a → H b = some o → H' b = some o) → Q .non H') : rAppend (.ref a) [v] H Q := by
  obtain ⟨vs, h1, h2⟩ := h
  exact ⟨a, vs, v, rfl, rfl, h1, by rw [h2.len, sizeLine_eq]; omega, q _ ⟨_, upd_same, (h2.app (.cons hv .nil)).wr rfl⟩ fun b o n z => by rw [upd_ne n]; exact z⟩
/-- the k-th from behind -/
theorem LsD.back {a : Addr} {ds : List PyData} {k : Nat} {d : PyData} {Q : VK} (h : LsD K H a ds) (h0 : 0 < k) (hk : k ≤ ds.length) (e : ds[ds.length - k]? = some d) (q : ∀ v, DA K (· = a) H v d → Q v H) : rIxL K (.ref a) (.int (-(k : Int))) H Q := by
  obtain ⟨vs, h1, h2⟩ := h
  have hl := h2.len
  obtain ⟨v, hv, hd⟩ := h2.get e
  exact ⟨a, vs, _, v, rfl, rfl, SqL.of h1, atI_neg h0 (by omega) (by rw [hl]; exact hv), q v hd⟩
/-- xs + xs[:n] -/
theorem LsD.cat_go {a : Addr} {ds : List PyData} {n : Nat} {Q : VK} (h : LsD K H a ds) (hl : ds.length ≤ 10000) (q : ∀ p vs H', Same H H' → H' p = some (.lst vs) → DpXAll K H' vs (ds ++ ds.take n) → Q (.ref p) H') : rSlL K (.ref a) none (some (n : Int)) H fun y H1 => rCat (.ref a) y H1 Q := by
  obtain ⟨vs, h1, h2⟩ := h
  have hl2 := h2.len
  refine ⟨a, vs, rfl, SqL.of h1, fun p np => ?_⟩
  have s1 := same_new (o := HO.lst (cutV vs none (some (n : Int)))) np
  refine ⟨a, p, vs, _, rfl, rfl, s1 _ _ h1, upd_same, ?_, fun r nr => ?_⟩
  · have := cutV_length vs none (some (n : Int))
    rw [sizeLine_eq]
    omega
  · have s2 := same_new (o := HO.lst (vs ++ cutV vs none (some (n : Int)))) nr
    refine q r _ _ (s1.trans s2) upd_same ?_
    rw [cutV_to]
    have h3 := h2.un.same (s1.trans s2)
    rw [cutV_to] at h3
    exact h3.app (h3.take n)
end

end Fp

set_option Elab.async false
set_option linter.all false
set_option maxRecDepth 100000
set_option maxHeartbeats 4000000
set_option exponentiation.threshold 10000
namespace Fp
open PySem PySem.Spec PyProof.Rows L2
/-! ### what laws of any things share -/
theorem if_share {c : Bool} {tA tB : TE} {σ : L2.St} {H : Hp} {Qc : VK} (R : V → Hp → Prop) (hA : c = true → ∀ Q' : VK, (∀ v H', R v H' → Q' v H') → tA σ H Q') (hB : c ≠ true → ∀ Q' : VK, (∀ v H', R v H' → Q' v H') → tB σ H Q') (h : ∀ v H', R v H' → Qc v H') : if c = true then tA σ H Qc else tB σ H Qc := by
  split
  · rename_i z
    exact hA z Qc h
  · rename_i z
    exact hB z Qc h
theorem wholeD_bk {b l c k : Nat} {y : Bool} : Bk b l c k (.bool y) := ⟨.bl y, Nat.zero_le _, Nat.zero_le _⟩
theorem bottom_sm {b l c k : Nat} {d : PyData} (h : Bk b l c k d) (hb : b ≤ 8000) : ∀ x y, d = .tuple [.int x, .int y] → Sm 8000 y := by
  rintro x y rfl
  cases h.it with
  | tup _ z =>
    cases z (.int y) (by simp) with
    | int s => exact s.mono hb
theorem feed_push {H H' : Hp} {d c L : Addr} {t : Int} {vs : List V} (f : Feed H d c t) (hL : H L = some (.lst vs)) (n : L ≠ c) (k : ∀ b o, b ≠ L → H b = some o → H' b = some o) : Feed H' d c t := by
  obtain ⟨a, l, ns, h1, h2, h3⟩ := f
  refine ⟨a, l, ns, k _ _ (fun z => ?_) h1, k _ _ (fun z => n z.symm) h2, h3⟩
  rw [z, hL] at h1
  cases h1

end Fp

set_option Elab.async false
set_option linter.all false
set_option maxRecDepth 100000
set_option maxHeartbeats 4000000
set_option exponentiation.threshold 10000
namespace Fp
open PySem PySem.Spec PyProof.Rows L2
/-! ### what is whole, what a ratio: of anything -/
abbrev s_wh : Stmt := topS 6
abbrev N_wh : List Str := ["thing"]
theorem sc_wh : FnScope N_wh ["thing"] (defScope s_wh) := ⟨rfl, rfl, rfl, by decide +kernel, rfl, by decide +kernel, by decide +kernel⟩
abbrev s_ir : Stmt := topS 8
abbrev N_ir : List Str := ["thing", "top", "bottom"]
theorem sc_ir : FnScope N_ir ["thing"] (defScope s_ir) := ⟨rfl, rfl, rfl, by decide +kernel, rfl, by decide +kernel, by decide +kernel⟩
section
variable {P : Program} {w : World} {K : PySem.W.Frag} {mg : Str → Option Value} {base : Heap}
def isInt : PyData → Bool
  | .int _ => true
  | .bool _ => true
  | _ => false
def isBool : PyData → Bool
  | .bool _ => true
  | _ => false
def isTup : PyData → Bool
  | .tuple _ => true
  | _ => false
def wholeD : PyData → Bool
  | .int _ => true
  | _ => false
def ratioD : PyData → Bool
  | .tuple [.int a, .int b] => decide (1 ≤ b) && decide (Int.gcd a b = 1)
  | _ => false
/-- the class of a datum -/
def clsD : PyData → String
  | .none => "NoneType"
  | .bool _ => "bool"
  | .int _ => "int"
  | .str _ => "str"
  | .list _ => "list"
  | .tuple _ => "tuple"
  | .dict _ => "dict"
theorem DpX.ty {H : Hp} {v : V} {d : PyData} (h : DpX K H v d) : TyX K H v (.type (clsD d)) := by
  cases h with
  | non => exact .base .non
  | bl b => exact .base (.bl b)
  | int i => exact .base (.int i)
  | str x => exact .base (.str x)
  | lst h1 h2 =>
    rcases h1 with (h | ⟨o, h⟩) | ⟨o, its, n, e, c, _⟩
    · exact .base (.lst h)
    · exact .base (.frz h)
    · exact .kList e c
  | tup h1 h2 =>
    rcases h1 with (h | ⟨o, h⟩) | ⟨o, its, n, e, c, _⟩
    · exact .base (.tup h)
    · exact .fTuple h
    · exact .kTuple e c
  | emp h => exact .base (.dK h)
theorem isx_int {H : Hp} {v : V} {d : PyData} {Q : VK} (h : DpX K H v d) (q : Q (.bl (isInt d)) H) : rIsi K [v, .ty "int"] H Q := by
  refine ⟨v, _, _, _, isInt d, rfl, .ty _, h.ty, ?_, q⟩
  cases d <;> (simp only [clsD, isInt]; exact kit_ty (by decide +kernel))
theorem isx_bool {H : Hp} {v : V} {d : PyData} {Q : VK} (h : DpX K H v d) (q : Q (.bl (isBool d)) H) : rIsi K [v, .ty "bool"] H Q := by
  refine ⟨v, _, _, _, isBool d, rfl, .ty _, h.ty, ?_, q⟩
  cases d <;> (simp only [clsD, isBool]; exact kit_ty (by decide +kernel))
theorem isx_tup {H : Hp} {v : V} {d : PyData} {Q : VK} (h : DpX K H v d) (q : Q (.bl (isTup d)) H) : rIsi K [v, .ty "tuple"] H Q := by
  refine ⟨v, _, _, _, isTup d, rfl, .ty _, h.ty, ?_, q⟩
  cases d <;> (simp only [clsD, isTup]; exact kit_ty (by decide +kernel))
theorem ratioD_len : ∀ {ds : List PyData}, ds.length ≠ 2 → ratioD (.tuple ds) = false
  | [], _ => rfl
  | [x], _ => by cases x <;> rfl
  | [x, y], h => absurd rfl h
  | x :: y :: z :: r, _ => by cases x <;> first | rfl | (cases y <;> rfl)
theorem ratioD_one {x y : PyData} (h : wholeD x = false) : ratioD (.tuple [x, y]) = false := by
  cases x <;> first | rfl | cases h
theorem ratioD_two {x y : PyData} (h : wholeD y = false) : ratioD (.tuple [x, y]) = false := by
  cases x <;> first | rfl | (cases y <;> first | rfl | cases h)
theorem two_of {H : Hp} : ∀ {xs : List V} {ds : List PyData}, DpXAll K H xs ds → xs.length = 2 → ∃ u1 u2 d1 d2, xs = [u1, u2] ∧ ds = [d1, d2] ∧ DpX K H u1 d1 ∧ DpX K H u2 d2
  | [], _, _, h => by cases h
  | [_], _, _, h => by cases h
  | _ :: _ :: _ :: _, _, _, h => by simp at h
  | [u1, u2], [], h, _ => by cases h
  | [u1, u2], [d], h, _ => by
    cases h with
    | cons _ g => cases g
  | [u1, u2], d1 :: d2 :: r, h, _ => by
    cases h with
    | cons g1 g2 =>
      cases g2 with
      | cons g2 g3 =>
        cases g3
        exact ⟨u1, u2, d1, d2, rfl, rfl, g1, g2⟩
def spWhX (K : PySem.W.Frag) : Sp := fun vs H Q _ => ∃ (v : V) (d : PyData), vs = [v] ∧ DpX K H v d ∧ Q (.bl (wholeD d)) H
def spIrX (K : PySem.W.Frag) : Sp := fun vs H Q _ => ∃ (v : V) (d : PyData), vs = [v] ∧ DpX K H v d ∧ Q (.bl (ratioD d)) H
theorem ok_wh {f  : Addr} {fd  : FuncData} (F : Fun K "is_whole" "is_whole" s_wh f fd)
    (n_bool : mg "bool" = none) (n_int : mg "int" = none) (n_isinstance : mg "isinstance" = none) : FnOk P w K mg base CX0 1 f fd ["thing"] (spWhX K) := by
  refine F.ok sc_wh (fun vs H Q E h => ?_) (fun cdv A outer s H vs Q E hr h => ?_)
  · obtain ⟨_, _, rfl, _⟩ := h
    rfl
  · obtain ⟨v, d, rfl, hd, q⟩ := h
    refine ⟨_, (pss_one (ps_ret (pe_and (pe_callB call_isi (by rfl) n_isinstance (by decide +kernel) (pa_cons (pv 0) (pa_cons (pe_bltn (v := .ty "int") (by rfl) n_int (by decide +kernel) rfl) pa_nil))) (pe_one (pe_not (pe_callB call_isi (by rfl) n_isinstance (by decide +kernel) (pa_cons (pv 0) (pa_cons (pe_bltn (v := .ty "bool") (by rfl) n_bool (by decide +kernel) rfl) pa_nil)))))))), ?_⟩
    refine ⟨_, rfl, ?_⟩
    refine tcn_go ?_
    refine isx_int hd ?_
    refine ⟨_, rfl, ?_⟩
    refine ite2 (fun c => ?_) (fun c => ?_)
    · refine ⟨_, rfl, ?_⟩
      refine tcn_go ?_
      refine isx_bool hd ?_
      refine ⟨_, rfl, ?_⟩
      cases d <;> first | exact q | (simp [isInt] at c)
    · cases d <;> first | exact q | (exact absurd rfl c)
theorem ok_ir {f fWH fC : Addr} {fd fdWH fdC : FuncData} (F : Fun K "is_ratio" "is_ratio" s_ir f fd)
    (FWH : Fun K "is_whole" "is_whole" s_wh fWH fdWH) (bWH : Binds K fdWH ["thing"] []) (gWH : mg "is_whole" = some (.ref fWH)) (GWH : FnOk P w K mg base CX0 1 fWH fdWH ["thing"] (spWhX K))
    (FC : Fun K "common_divisor" "common_divisor" s_cd fC fdC) (bC : Binds K fdC ["one", "other"] []) (gC : mg "common_divisor" = some (.ref fC)) (GC : FnOk P w K mg base CX0 1 fC fdC ["one", "other"] spCd)
    (n_isinstance : mg "isinstance" = none) (n_len : mg "len" = none) (n_tuple : mg "tuple" = none) : FnOk P w K mg base CX0 2 f fd ["thing"] (spIrX K) := by
  refine F.ok sc_ir (fun vs H Q E h => ?_) (fun cdv A outer s H vs Q E hr h => ?_)
  · obtain ⟨_, _, rfl, _⟩ := h
    rfl
  · obtain ⟨v, d, rfl, hd, q⟩ := h
    refine ⟨_, (pss_cons (ps_if (PW.pt (pw_or (pt_not (pt_val (pe_callB call_isi (by rfl) n_isinstance (by decide +kernel) (pa_cons (pv 0) (pa_cons (pe_bltn (v := .ty "tuple") (by rfl) n_tuple (by decide +kernel) rfl) pa_nil))))) (pw_or1 (pt_cmpR op_ne (pe_callB call_lenN (by rfl) n_len PySem.boot_len (pa_cons (pv 0) pa_nil)) pe_int (nomark _))))) (pss_one (ps_ret pe_bl)) pss_nil)
      (pss_cons (ps_asg (pv 0) (pg_tup rfl (pgs_cons (pg_name (i := 1) sc_ir.nd rfl (.inl rfl)) (pgs_cons (pg_name (i := 2) sc_ir.nd rfl (.inl rfl)) pgs_nil))))
      (pss_cons (ps_if (PW.pt (pw_or (pt_not (pt_val (pe_call GWH hr (by rfl) gWH FWH.kp bWH .nil pass0 (pa_cons (pv 1) pa_nil)))) (pw_or1 (pt_not (pt_val (pe_call GWH hr (by rfl) gWH FWH.kp bWH .nil pass0 (pa_cons (pv 2) pa_nil))))))) (pss_one (ps_ret pe_bl)) pss_nil)
      (pss_one (ps_ret (pe_and (pe_cmpR op_ge (pv 2) pe_int (nomark _)) (pe_one (pe_cmpR op_eq (pe_call GC hr (by rfl) gC FC.kp bC .nil pass0 (pa_cons (pv 1) (pa_cons (pv 2) pa_nil))) pe_int (nomark _))))))))), ?_⟩
    refine ⟨_, rfl, ?_⟩
    refine tcn_go ?_
    refine isx_tup hd ?_
    refine ⟨_, rfl, ?_⟩
    by_cases ht : isTup d = true
    · obtain ⟨ds, rfl⟩ : ∃ ds, d = .tuple ds := by cases d <;> first | exact ⟨_, rfl⟩ | cases ht
      cases hd with
      | @tup p xs _ h1 h2 =>
        have hl := h2.len
        refine iteF ?_
        refine ⟨_, rfl, ?_⟩
        refine tnil_go ?_
        refine ⟨p, _, rfl, .inr h1, ?_⟩
        refine tC_go ?_
        refine ⟨rfl, _, rfl, ?_⟩
        refine ite2 (fun c => ?_) (fun c => ?_)
        · have hn : ds.length ≠ 2 := fun z => by
            rw [hl, z] at c
            exact absurd c (by decide)
          show Q (.bl false) H
          rw [ratioD_len hn] at q
          exact q
        · have hn : xs.length = 2 := by
            rcases Classical.em (xs.length = 2) with z | z
            · exact z
            · exact absurd (show (!decide (V.int (xs.length : Int) = V.int 2)) = true by
                rw [decide_eq_false (fun y => z (by have := V.int.inj y; omega))]
                rfl) c
          obtain ⟨u1, u2, d1, d2, rfl, rfl, g1, g2⟩ := two_of h2 hn
          clear h2 hl hn c ht
          refine ⟨_, rfl, p, _, rfl, h1, rfl, _, _, rfl, _, _, rfl, rfl, ?_⟩
          refine ⟨_, rfl, u1, d1, rfl, g1, _, rfl, ?_⟩
          by_cases w1 : wholeD d1 = true
          · obtain ⟨x, rfl⟩ : ∃ x, d1 = .int x := by cases d1 <;> first | exact ⟨_, rfl⟩ | cases w1
            refine iteF ?_
            refine ⟨_, rfl, u2, d2, rfl, g2, _, rfl, ?_⟩
            by_cases w2 : wholeD d2 = true
            · obtain ⟨y, rfl⟩ : ∃ y, d2 = .int y := by cases d2 <;> first | exact ⟨_, rfl⟩ | cases w2
              cases g1
              cases g2
              refine iteF ?_
              refine ⟨_, rfl, _, _, rfl, rfl, _, rfl, ?_⟩
              refine ite2 (fun c1 => ?_) (fun c1 => ?_)
              · refine ⟨_, rfl, _, rfl, _, _, rfl, ?_⟩
                refine tC_go ?_
                refine ⟨rfl, ?_⟩
                show Q (.bl (decide (V.int ((Int.gcd x y : Nat) : Int) = V.int 1))) H
                have e : ratioD (.tuple [.int x, .int y]) = decide (V.int ((Int.gcd x y : Nat) : Int) = V.int 1) := by
                  show (decide (1 ≤ y) && decide (Int.gcd x y = 1)) = _
                  rw [c1, Bool.true_and, Bool.eq_iff_iff, decide_eq_true_eq, decide_eq_true_eq]
                  exact ⟨fun z => by rw [z]; rfl, fun z => by have := V.int.inj z; omega⟩
                rw [← e]
                exact q
              · have e : ratioD (.tuple [.int x, .int y]) = false := by
                  show (decide (1 ≤ y) && decide (Int.gcd x y = 1)) = _
                  rw [show decide (1 ≤ y) = false from Bool.eq_false_iff.mpr c1, Bool.false_and]
                rw [e] at q
                exact q
            · rw [Bool.not_eq_true] at w2
              rw [w2]
              refine iteT ?_
              rw [ratioD_two w2] at q
              exact q
          · rw [Bool.not_eq_true] at w1
            rw [w1]
            refine iteT ?_
            refine iteT ?_
            rw [ratioD_one w1] at q
            exact q
    · rw [Bool.not_eq_true] at ht
      rw [ht]
      refine iteT ?_
      refine iteT ?_
      have e : ratioD d = false := by cases d <;> first | rfl | cases ht
      rw [e] at q
      exact q
end

end Fp

set_option Elab.async false
set_option linter.all false
set_option maxRecDepth 100000
set_option maxHeartbeats 4000000
set_option exponentiation.threshold 10000
namespace Fp
open PySem PySem.Spec PyProof.Rows L2
/-! ### the law's own words for it -/
abbrev s_lwh : Stmt := topS 30
abbrev N_lwh : List Str := ["_law_thing"]
theorem sc_lwh : FnScope N_lwh ["_law_thing"] (defScope s_lwh) := ⟨rfl, rfl, rfl, by decide +kernel, rfl, by decide +kernel, by decide +kernel⟩
abbrev s_lir : Stmt := topS 31
abbrev N_lir : List Str := ["_law_thing"]
theorem sc_lir : FnScope N_lir ["_law_thing"] (defScope s_lir) := ⟨rfl, rfl, rfl, by decide +kernel, rfl, by decide +kernel, by decide +kernel⟩
section
variable {P : Program} {w : World} {K : PySem.W.Frag} {mg : Str → Option Value} {base : Heap}
theorem low_self {x y : Int} (hy : 0 < y) : decide (low2 x y = (x, y)) = decide (Int.gcd x y = 1) := by
  rw [Bool.eq_iff_iff, decide_eq_true_eq, decide_eq_true_eq]
  constructor
  · intro z
    have r := low2_red (t := x) (Int.ne_of_gt hy)
    rw [z] at r
    exact r.2
  · intro z
    exact qv_inj (low2_red (Int.ne_of_gt hy)) ⟨hy, z⟩ (qv_low2 hy)
def spLirX (K : PySem.W.Frag) : Sp := fun vs H Q _ => ∃ (v : V) (d : PyData), vs = [v] ∧ DpX K H v d ∧ (∀ x y, d = .tuple [.int x, .int y] → Sm 8000 y) ∧ ∀ H', Same H H' → Q (.bl (ratioD d)) H'
theorem ok_lwh {f  : Addr} {fd  : FuncData} (F : Fun K "_law_is_whole" "_law_is_whole" s_lwh f fd)
    (n_bool : mg "bool" = none) (n_int : mg "int" = none) (n_isinstance : mg "isinstance" = none) : FnOk P w K mg base CX0 1 f fd ["_law_thing"] (spWhX K) := by
  refine F.ok sc_lwh (fun vs H Q E h => ?_) (fun cdv A outer s H vs Q E hr h => ?_)
  · obtain ⟨_, _, rfl, _⟩ := h
    rfl
  · obtain ⟨v, d, rfl, hd, q⟩ := h
    refine ⟨_, (pss_one (ps_ret (pe_and (pe_callB call_isi (by rfl) n_isinstance (by decide +kernel) (pa_cons (pv 0) (pa_cons (pe_bltn (v := .ty "int") (by rfl) n_int (by decide +kernel) rfl) pa_nil))) (pe_one (pe_not (pe_callB call_isi (by rfl) n_isinstance (by decide +kernel) (pa_cons (pv 0) (pa_cons (pe_bltn (v := .ty "bool") (by rfl) n_bool (by decide +kernel) rfl) pa_nil)))))))), ?_⟩
    refine ⟨_, rfl, ?_⟩
    refine tcn_go ?_
    refine isx_int hd ?_
    refine ⟨_, rfl, ?_⟩
    refine ite2 (fun c => ?_) (fun c => ?_)
    · refine ⟨_, rfl, ?_⟩
      refine tcn_go ?_
      refine isx_bool hd ?_
      refine ⟨_, rfl, ?_⟩
      cases d <;> first | exact q | (simp [isInt] at c)
    · cases d <;> first | exact q | (exact absurd rfl c)
theorem ok_lir {f fLW fL : Addr} {fd fdLW fdL : FuncData} (F : Fun K "_law_is_ratio" "_law_is_ratio" s_lir f fd)
    (FLW : Fun K "_law_is_whole" "_law_is_whole" s_lwh fLW fdLW) (bLW : Binds K fdLW ["_law_thing"] []) (gLW : mg "_law_is_whole" = some (.ref fLW)) (GLW : FnOk P w K mg base CX0 1 fLW fdLW ["_law_thing"] (spWhX K))
    (FL : Fun K "_law_low" "_law_low" s_low fL fdL) (bL : Binds K fdL ["_law_top", "_law_bottom"] []) (gL : mg "_law_low" = some (.ref fL)) (GL : FnOk P w K mg base CX0 1 fL fdL ["_law_top", "_law_bottom"] spLow)
    (n_isinstance : mg "isinstance" = none) (n_len : mg "len" = none) (n_tuple : mg "tuple" = none) : FnOk P w K mg base CX0 2 f fd ["_law_thing"] (spLirX K) := by
  refine F.ok sc_lir (fun vs H Q E h => ?_) (fun cdv A outer s H vs Q E hr h => ?_)
  · obtain ⟨_, _, rfl, _⟩ := h
    rfl
  · obtain ⟨v, d, rfl, hd, hsm, q⟩ := h
    refine ⟨_, (pss_cons (ps_if (PW.pt (pw_or (pt_not (pt_val (pe_callB call_isi (by rfl) n_isinstance (by decide +kernel) (pa_cons (pv 0) (pa_cons (pe_bltn (v := .ty "tuple") (by rfl) n_tuple (by decide +kernel) rfl) pa_nil))))) (pw_or1 (pt_cmpR op_ne (pe_callB call_lenN (by rfl) n_len PySem.boot_len (pa_cons (pv 0) pa_nil)) pe_int (nomark _))))) (pss_one (ps_ret pe_bl)) pss_nil)
      (pss_cons (ps_if (PW.pt (pw_or (pt_not (pt_val (pe_call GLW hr (by rfl) gLW FLW.kp bLW .nil pass0 (pa_cons (pe_ix ix_tup (pv 0) pe_int (fun _ _ => rfl)) pa_nil)))) (pw_or1 (pt_not (pt_val (pe_call GLW hr (by rfl) gLW FLW.kp bLW .nil pass0 (pa_cons (pe_ix ix_tup (pv 0) pe_int (fun _ _ => rfl)) pa_nil))))))) (pss_one (ps_ret pe_bl)) pss_nil)
      (pss_one (ps_ret (pe_and (pe_cmpR op_gt (pe_ix ix_tup (pv 0) pe_int (fun _ _ => rfl)) pe_int (nomark _)) (pe_one (pe_cmpR (op_eqD hr.units) (pe_call GL hr (by rfl) gL FL.kp bL .nil pass0 (pa_cons (pe_ix ix_tup (pv 0) pe_int (fun _ _ => rfl)) (pa_cons (pe_ix ix_tup (pv 0) pe_int (fun _ _ => rfl)) pa_nil))) (pv 0) (nomark _)))))))), ?_⟩
    refine ⟨_, rfl, ?_⟩
    refine tcn_go ?_
    refine isx_tup hd ?_
    refine ⟨_, rfl, ?_⟩
    by_cases ht : isTup d = true
    · obtain ⟨ds, rfl⟩ : ∃ ds, d = .tuple ds := by cases d <;> first | exact ⟨_, rfl⟩ | cases ht
      cases hd with
      | @tup p xs _ h1 h2 =>
        have hl := h2.len
        refine iteF ?_
        refine ⟨_, rfl, ?_⟩
        refine tnil_go ?_
        refine ⟨p, _, rfl, .inr h1, ?_⟩
        refine tC_go ?_
        refine ⟨rfl, _, rfl, ?_⟩
        refine ite2 (fun c => ?_) (fun c => ?_)
        · have hn : ds.length ≠ 2 := fun z => by
            rw [hl, z] at c
            exact absurd c (by decide)
          have q0 := q H (Same.refl H)
          rw [ratioD_len hn] at q0
          exact q0
        · have hn : xs.length = 2 := by
            rcases Classical.em (xs.length = 2) with z | z
            · exact z
            · exact absurd (show (!decide (V.int (xs.length : Int) = V.int 2)) = true by
                rw [decide_eq_false (fun y => z (by have := V.int.inj y; omega))]
                rfl) c
          obtain ⟨u1, u2, d1, d2, rfl, rfl, g1, g2⟩ := two_of h2 hn
          clear h2 hl hn c ht
          refine ⟨_, rfl, p, _, _, _, rfl, rfl, h1, at_of (j := 0) rfl rfl, ?_⟩
          refine tnil_go ?_
          refine ⟨u1, d1, rfl, g1, _, rfl, ?_⟩
          by_cases w1 : wholeD d1 = true
          · obtain ⟨x, rfl⟩ : ∃ x, d1 = .int x := by cases d1 <;> first | exact ⟨_, rfl⟩ | cases w1
            refine iteF ?_
            refine ⟨_, rfl, p, _, _, _, rfl, rfl, h1, at_of (j := 1) rfl rfl, ?_⟩
            refine tnil_go ?_
            refine ⟨u2, d2, rfl, g2, _, rfl, ?_⟩
            by_cases w2 : wholeD d2 = true
            · obtain ⟨y, rfl⟩ : ∃ y, d2 = .int y := by cases d2 <;> first | exact ⟨_, rfl⟩ | cases w2
              cases g1
              cases g2
              refine iteF ?_
              refine ⟨_, rfl, p, _, _, _, rfl, rfl, h1, at_of (j := 1) rfl rfl, ?_⟩
              refine ⟨_, _, rfl, rfl, _, rfl, ?_⟩
              refine ite2 (fun c1 => ?_) (fun c1 => ?_)
              · have hy : 0 < y := of_decide_eq_true c1
                refine ⟨_, rfl, p, _, _, _, rfl, rfl, h1, at_of (j := 0) rfl rfl, ?_⟩
                refine ⟨_, rfl, p, _, _, _, rfl, rfl, h1, at_of (j := 1) rfl rfl, ?_⟩
                refine tnil_go ?_
                refine ⟨x, y, rfl, hy, hsm x y rfl, fun r nr => ?_⟩
                have gr := same_new (o := HO.tup [.int (ratT x y), .int (ratB x y)]) nr
                refine ⟨_, rfl, ?_⟩
                have e1 : RAt K (upd H r (.tup [.int (ratT x y), .int (ratB x y)])) r (low2 x y) := SqT.of upd_same
                have e2 : RAt K (upd H r (.tup [.int (ratT x y), .int (ratB x y)])) p (x, y) := sqT_same gr h1
                refine eq_rat e1 e2 ?_
                have e : ratioD (.tuple [.int x, .int y]) = decide (low2 x y = (x, y)) := by
                  show (decide (1 ≤ y) && decide (Int.gcd x y = 1)) = _
                  rw [low_self hy, show decide (1 ≤ y) = true from decide_eq_true hy, Bool.true_and]
                rw [← e]
                exact q _ gr
              · have q0 := q H (Same.refl H)
                have e : ratioD (.tuple [.int x, .int y]) = false := by
                  show (decide (1 ≤ y) && decide (Int.gcd x y = 1)) = _
                  rw [show decide (1 ≤ y) = false from Bool.eq_false_iff.mpr c1, Bool.false_and]
                rw [e] at q0
                exact q0
            · rw [Bool.not_eq_true] at w2
              rw [w2]
              refine iteT ?_
              have q0 := q H (Same.refl H)
              rw [ratioD_two w2] at q0
              exact q0
          · rw [Bool.not_eq_true] at w1
            rw [w1]
            refine iteT ?_
            refine iteT ?_
            have q0 := q H (Same.refl H)
            rw [ratioD_one w1] at q0
            exact q0
    · rw [Bool.not_eq_true] at ht
      rw [ht]
      refine iteT ?_
      refine iteT ?_
      have e : ratioD d = false := by cases d <;> first | rfl | cases ht
      have q0 := q H (Same.refl H)
      rw [e] at q0
      exact q0
end

end Fp

set_option Elab.async false
set_option linter.all false
set_option maxRecDepth 100000
set_option maxHeartbeats 4000000
set_option exponentiation.threshold 10000
namespace Fp
open PySem PySem.Spec PyProof.Rows L2
/-! ### what a chance is: of anything -/
abbrev s_ic : Stmt := topS 17
abbrev N_ic : List Str := ["thing"]
theorem sc_ic : FnScope N_ic ["thing"] (defScope s_ic) := ⟨rfl, rfl, rfl, by decide +kernel, rfl, by decide +kernel, by decide +kernel⟩
abbrev s_lic : Stmt := topS 32
abbrev N_lic : List Str := ["_law_thing"]
theorem sc_lic : FnScope N_lic ["_law_thing"] (defScope s_lic) := ⟨rfl, rfl, rfl, by decide +kernel, rfl, by decide +kernel, by decide +kernel⟩
abbrev s_ib : Stmt := topS 13
abbrev N_ib : List Str := ["one", "other"]
theorem sc_ib : FnScope N_ib ["one", "other"] (defScope s_ib) := ⟨rfl, rfl, rfl, by decide +kernel, rfl, by decide +kernel, by decide +kernel⟩
section
variable {P : Program} {w : World} {K : PySem.W.Frag} {mg : Str → Option Value} {base : Heap}
def chanceD : PyData → Bool
  | .tuple [.int a, .int b] => ratioD (.tuple [.int a, .int b]) && (decide (0 ≤ a) && decide (a ≤ b))
  | _ => false
theorem ratioD_inv : ∀ {d : PyData}, ratioD d = true → ∃ a b : Int, d = .tuple [.int a, .int b] ∧ Red (a, b)
  | .tuple [.int a, .int b], h => by
    have h2 : (decide (1 ≤ b) && decide (Int.gcd a b = 1)) = true := h
    rw [Bool.and_eq_true, decide_eq_true_eq, decide_eq_true_eq] at h2
    exact ⟨a, b, rfl, by show 0 < b; omega, h2.2⟩
  | .tuple [], h => by cases h
  | .tuple [x], h => by cases x <;> cases h
  | .tuple (x :: y :: z :: r), h => by rw [ratioD_len (by simp)] at h; cases h
  | .tuple [.none, y], h => by cases h
  | .tuple [.bool _, y], h => by cases h
  | .tuple [.str _, y], h => by cases h
  | .tuple [.list _, y], h => by cases h
  | .tuple [.tuple _, y], h => by cases h
  | .tuple [.dict _, y], h => by cases h
  | .tuple [.int _, .none], h => by cases h
  | .tuple [.int _, .bool _], h => by cases h
  | .tuple [.int _, .str _], h => by cases h
  | .tuple [.int _, .list _], h => by cases h
  | .tuple [.int _, .tuple _], h => by cases h
  | .tuple [.int _, .dict _], h => by cases h
  | .none, h => by cases h
  | .bool _, h => by cases h
  | .int _, h => by cases h
  | .str _, h => by cases h
  | .list _, h => by cases h
  | .dict _, h => by cases h
theorem ratioD_red {a b : Int} (h : Red (a, b)) : ratioD (.tuple [.int a, .int b]) = true := by
  show (decide (1 ≤ b) && decide (Int.gcd a b = 1)) = true
  rw [Bool.and_eq_true, decide_eq_true_eq, decide_eq_true_eq]
  exact ⟨h.1, h.2⟩
theorem chanceD_inv {d : PyData} (h : chanceD d = true) : ∃ x : RT, d = ratD x ∧ Red x ∧ 0 ≤ x.1 ∧ x.1 ≤ x.2 := by
  by_cases hr : ratioD d = true
  · obtain ⟨a, b, rfl, r⟩ := ratioD_inv hr
    have h2 : (ratioD (.tuple [.int a, .int b]) && (decide (0 ≤ a) && decide (a ≤ b))) = true := h
    rw [Bool.and_eq_true, Bool.and_eq_true, decide_eq_true_eq, decide_eq_true_eq] at h2
    exact ⟨(a, b), rfl, r, h2.2.1, h2.2.2⟩
  · exfalso
    unfold chanceD at h
    split at h
    · rw [Bool.and_eq_true] at h
      exact hr h.1
    · cases h
theorem chanceD_rat {x : RT} (r : Red x) (h0 : 0 ≤ x.1) (h1 : x.1 ≤ x.2) : chanceD (ratD x) = true := by
  show (ratioD (.tuple [.int x.1, .int x.2]) && (decide (0 ≤ x.1) && decide (x.1 ≤ x.2))) = true
  rw [ratioD_red r, decide_eq_true h0, decide_eq_true h1]
  rfl
theorem chanceD_no {d : PyData} (h : ratioD d = false) : chanceD d = false := by
  unfold chanceD
  split
  · rw [h]
    rfl
  · rfl
theorem two_ints {H : Hp} {v : V} {a b : Int} (h : DpX K H v (.tuple [.int a, .int b])) : ∃ p, v = .ref p ∧ RAt K H p (a, b) := by
  cases h with
  | @tup p xs _ h1 h2 =>
    cases h2 with
    | cons g1 g2 =>
      cases g2 with
      | cons g2 g3 =>
        cases g3
        cases g1
        cases g2
        exact ⟨p, rfl, h1⟩
theorem DpX.rat {H : Hp} {v : V} {x : RT} (h : DpX K H v (ratD x)) : ∃ p, v = .ref p ∧ RAt K H p x := two_ints h
def spIcX (K : PySem.W.Frag) : Sp := fun vs H Q _ => ∃ (v : V) (d : PyData), vs = [v] ∧ DpX K H v d ∧ Q (.bl (chanceD d)) H
def spLicX (K : PySem.W.Frag) : Sp := fun vs H Q _ => ∃ (v : V) (d : PyData), vs = [v] ∧ DpX K H v d ∧ (∀ x y, d = .tuple [.int x, .int y] → Sm 8000 y) ∧ ∀ H', Same H H' → Q (.bl (chanceD d)) H'
def spIb (K : PySem.W.Frag) : Sp := fun vs H Q _ => ∃ (p q : Addr) (x y : RT), vs = [.ref p, .ref q] ∧ RAt K H p x ∧ RAt K H q y ∧ Sm 4000 x.1 ∧ Sm 4000 x.2 ∧ Sm 4000 y.1 ∧ Sm 4000 y.2 ∧ Q (.bl (decide (x.1 * y.2 < y.1 * x.2))) H
theorem ok_ic {f fIR : Addr} {fd fdIR : FuncData} (F : Fun K "is_chance" "is_chance" s_ic f fd)
    (FIR : Fun K "is_ratio" "is_ratio" s_ir fIR fdIR) (bIR : Binds K fdIR ["thing"] []) (gIR : mg "is_ratio" = some (.ref fIR)) (GIR : FnOk P w K mg base CX0 2 fIR fdIR ["thing"] (spIrX K))
    : FnOk P w K mg base CX0 3 f fd ["thing"] (spIcX K) := by
  refine F.ok sc_ic (fun vs H Q E h => ?_) (fun cdv A outer s H vs Q E hr h => ?_)
  · obtain ⟨_, _, rfl, _⟩ := h
    rfl
  · obtain ⟨v, d, rfl, hd, q⟩ := h
    refine ⟨_, (pss_one (ps_ret (pe_and (pe_call GIR hr (by rfl) gIR FIR.kp bIR .nil pass0 (pa_cons (pv 0) pa_nil)) (pe_one (pe_chain op_le op_le pe_int (pe_ix ix_tup (pv 0) pe_int (fun _ _ => rfl)) (pe_ix ix_tup (pv 0) pe_int (fun _ _ => rfl))))))), ?_⟩
    refine ⟨_, rfl, v, d, rfl, hd, _, rfl, ?_⟩
    by_cases hr : ratioD d = true
    · obtain ⟨a, b, rfl, r⟩ := ratioD_inv hr
      rw [hr]
      refine iteT ?_
      obtain ⟨p, rfl, hp⟩ := two_ints hd
      refine tC_go ?_
      refine ⟨_, rfl, p, _, _, _, rfl, rfl, hp, at_of (j := 0) rfl rfl, ?_⟩
      refine ⟨_, _, rfl, rfl, _, rfl, ?_⟩
      have e : chanceD (.tuple [.int a, .int b]) = (decide (0 ≤ a) && decide (a ≤ b)) := by
        show (ratioD (.tuple [.int a, .int b]) && (decide (0 ≤ a) && decide (a ≤ b))) = _
        rw [hr, Bool.true_and]
      rw [e] at q
      refine ite2 (fun c => ?_) (fun c => ?_)
      · rw [c, Bool.true_and] at q
        refine ⟨_, rfl, p, _, _, _, rfl, rfl, hp, at_of (j := 1) rfl rfl, ?_⟩
        exact ⟨_, _, rfl, rfl, q⟩
      · have c2 : decide (0 ≤ a) = false := Bool.eq_false_iff.mpr c
        rw [c2, Bool.false_and] at q
        exact q
    · rw [Bool.not_eq_true] at hr
      rw [hr]
      refine iteF ?_
      rw [chanceD_no hr] at q
      exact q
theorem ok_lic {f fLIR : Addr} {fd fdLIR : FuncData} (F : Fun K "_law_is_chance" "_law_is_chance" s_lic f fd)
    (FLIR : Fun K "_law_is_ratio" "_law_is_ratio" s_lir fLIR fdLIR) (bLIR : Binds K fdLIR ["_law_thing"] []) (gLIR : mg "_law_is_ratio" = some (.ref fLIR)) (GLIR : FnOk P w K mg base CX0 2 fLIR fdLIR ["_law_thing"] (spLirX K))
    : FnOk P w K mg base CX0 3 f fd ["_law_thing"] (spLicX K) := by
  refine F.ok sc_lic (fun vs H Q E h => ?_) (fun cdv A outer s H vs Q E hr h => ?_)
  · obtain ⟨_, _, rfl, _⟩ := h
    rfl
  · obtain ⟨v, d, rfl, hd, sm, q⟩ := h
    refine ⟨_, (pss_one (ps_ret (pe_and (pe_call GLIR hr (by rfl) gLIR FLIR.kp bLIR .nil pass0 (pa_cons (pv 0) pa_nil)) (pe_one (pe_chain op_le op_le pe_int (pe_ix ix_tup (pv 0) pe_int (fun _ _ => rfl)) (pe_ix ix_tup (pv 0) pe_int (fun _ _ => rfl))))))), ?_⟩
    refine ⟨_, rfl, v, d, rfl, hd, sm, fun H1 s1 => ⟨_, rfl, ?_⟩⟩
    have hd1 := hd.same s1
    have q := q H1 s1
    by_cases hr : ratioD d = true
    · obtain ⟨a, b, rfl, r⟩ := ratioD_inv hr
      rw [hr]
      refine iteT ?_
      obtain ⟨p, rfl, hp⟩ := two_ints hd1
      refine tC_go ?_
      refine ⟨_, rfl, p, _, _, _, rfl, rfl, hp, at_of (j := 0) rfl rfl, ?_⟩
      refine ⟨_, _, rfl, rfl, _, rfl, ?_⟩
      have e : chanceD (.tuple [.int a, .int b]) = (decide (0 ≤ a) && decide (a ≤ b)) := by
        show (ratioD (.tuple [.int a, .int b]) && (decide (0 ≤ a) && decide (a ≤ b))) = _
        rw [hr, Bool.true_and]
      rw [e] at q
      refine ite2 (fun c => ?_) (fun c => ?_)
      · rw [c, Bool.true_and] at q
        refine ⟨_, rfl, p, _, _, _, rfl, rfl, hp, at_of (j := 1) rfl rfl, ?_⟩
        exact ⟨_, _, rfl, rfl, q⟩
      · have c2 : decide (0 ≤ a) = false := Bool.eq_false_iff.mpr c
        rw [c2, Bool.false_and] at q
        exact q
    · rw [Bool.not_eq_true] at hr
      rw [hr]
      refine iteF ?_
      rw [chanceD_no hr] at q
      exact q
theorem ok_ib {f  : Addr} {fd  : FuncData} (F : Fun K "is_below" "is_below" s_ib f fd)
    : FnOk P w K mg base CX0 1 f fd ["one", "other"] (spIb K) := by
  refine F.ok sc_ib (fun vs H Q E h => ?_) (fun cdv A outer s H vs Q E hr h => ?_)
  · obtain ⟨_, _, _, _, rfl, _⟩ := h
    rfl
  · obtain ⟨p, r, x, y, rfl, h1, h2, a1, a2, b1, b2, q⟩ := h
    refine ⟨_, (pss_one (ps_ret (pe_cmpR op_lt (pe_op op_mulA (pe_ix ix_tup (pv 0) pe_int (fun _ _ => rfl)) (pe_ix ix_tup (pv 1) pe_int (fun _ _ => rfl))) (pe_op op_mulA (pe_ix ix_tup (pv 1) pe_int (fun _ _ => rfl)) (pe_ix ix_tup (pv 0) pe_int (fun _ _ => rfl))) (nomark _)))), ?_⟩
    refine ⟨_, rfl, p, _, _, _, rfl, rfl, h1, at_of (j := 0) rfl rfl, ?_⟩
    refine ⟨_, rfl, r, _, _, _, rfl, rfl, h2, at_of (j := 1) rfl rfl, ?_⟩
    refine ⟨_, _, rfl, rfl, a1.cmul b2 (by decide) (by decide) (by decide), ?_⟩
    refine ⟨_, rfl, r, _, _, _, rfl, rfl, h2, at_of (j := 0) rfl rfl, ?_⟩
    refine ⟨_, rfl, p, _, _, _, rfl, rfl, h1, at_of (j := 1) rfl rfl, ?_⟩
    refine ⟨_, _, rfl, rfl, b1.cmul a2 (by decide) (by decide) (by decide), ?_⟩
    exact ⟨_, _, rfl, rfl, q⟩
end

end Fp

set_option Elab.async false
set_option linter.all false
set_option maxRecDepth 100000
set_option maxHeartbeats 4000000
set_option exponentiation.threshold 10000
namespace Fp
open PySem PySem.Spec PyProof.Rows L2
/-! ### odd things drawn -/
abbrev s_odd : Stmt := topS 28
abbrev N_odd : List Str := ["_law_feed_here", "_law_some"]
theorem sc_odd : FnScope N_odd ["_law_feed_here"] (defScope s_odd) := ⟨rfl, rfl, rfl, by decide +kernel, rfl, by decide +kernel, by decide +kernel⟩
def odT1 : TA := (tCons (tC .non) (tCons (tC (.bl true)) (tCons (tC (.bl false)) (tCons (tC (.str "")) (tCons (tC (.str "0")) (tCons (tC (.int 0)) (tCons (tC (.int 1)) (tCons (tUn (rU fun i => .int (-i)) (tC (.int 1))) (tCons (tTup tNil) (tCons (tLst tNil) (tCons tDNewK (tCons (tTup (tCons (tC (.int 0)) (tCons (tC (.int 1)) tNil))) (tCons (tTup (tCons (tC (.int 1)) (tCons (tC (.int 1)) tNil))) (tCons (tTup (tCons (tC (.int 1)) (tCons (tC (.int 0)) tNil))) (tCons (tTup (tCons (tC (.int 2)) (tCons (tC (.int 4)) tNil))) (tCons (tLst (tCons (tC (.int 1)) (tCons (tC (.int 2)) tNil))) (tCons (tTup (tCons (tC (.bl true)) (tCons (tC (.int 1)) tNil))) tNil)))))))))))))))))
theorem odL1 {K : PySem.W.Frag} : Lits K odT1 oddD := by
  unfold odT1 oddD
  exact (.cons .non (.cons .bl (.cons .bl (.cons .str (.cons .str (.cons .int (.cons .int (.cons .neg (.cons (.tup .nil (by decide)) (.cons (.lst .nil (by decide)) (.cons .dict (.cons (.tup (.cons .int (.cons .int .nil)) (by decide)) (.cons (.tup (.cons .int (.cons .int .nil)) (by decide)) (.cons (.tup (.cons .int (.cons .int .nil)) (by decide)) (.cons (.tup (.cons .int (.cons .int .nil)) (by decide)) (.cons (.lst (.cons .int (.cons .int .nil)) (by decide)) (.cons (.tup (.cons .bl (.cons .int .nil)) (by decide)) .nil)))))))))))))))))
def odT2 : TA := (tCons (tTup (tCons (tC (.int 0)) (tCons (tC (.int 2)) tNil))) (tCons (tTup (tCons (tC (.int 3)) (tCons (tC (.int 2)) tNil))) (tCons (tTup (tCons (tUn (rU fun i => .int (-i)) (tC (.int 1))) (tCons (tC (.int 2)) tNil))) (tCons (tTup (tCons (tC (.int 1)) (tCons (tC (.int 2)) (tCons (tC (.int 3)) tNil)))) (tCons (tTup (tCons (tTup tNil) (tCons (tTup (tCons (tC (.int 0)) (tCons (tC (.int 1)) tNil))) tNil))) (tCons (tTup (tCons (tTup (tCons (tTup (tCons (tC (.int 1)) (tCons (tC (.int 2)) tNil))) tNil)) (tCons (tTup (tCons (tC (.int 1)) (tCons (tC (.int 2)) tNil))) tNil))) (tCons (tTup (tCons (tTup (tCons (tC (.int 1)) (tCons (tC (.int 2)) tNil))) tNil)) (tCons (tTup (tCons (tOp (rI CPow fun i j => .int (i ^ j.toNat)) (tC (.int 10)) (tC (.int 40))) (tCons (tC (.int 1)) tNil))) tNil))))))))
theorem odL2 {K : PySem.W.Frag} : Lits K odT2 oddD2 := by
  unfold odT2 oddD2
  exact (.cons (.tup (.cons .int (.cons .int .nil)) (by decide)) (.cons (.tup (.cons .int (.cons .int .nil)) (by decide)) (.cons (.tup (.cons .neg (.cons .int .nil)) (by decide)) (.cons (.tup (.cons .int (.cons .int (.cons .int .nil))) (by decide)) (.cons (.tup (.cons (.tup .nil (by decide)) (.cons (.tup (.cons .int (.cons .int .nil)) (by decide)) .nil)) (by decide)) (.cons (.tup (.cons (.tup (.cons (.tup (.cons .int (.cons .int .nil)) (by decide)) .nil) (by decide)) (.cons (.tup (.cons .int (.cons .int .nil)) (by decide)) .nil)) (by decide)) (.cons (.tup (.cons (.tup (.cons .int (.cons .int .nil)) (by decide)) .nil) (by decide)) (.cons (.tup (.cons (.pow ⟨by decide, by decide, by decide⟩) (.cons .int .nil)) (by decide)) .nil))))))))
def odT3 : TA := (tCons (tC (.str "a")) (tCons (tTup (tCons (tC (.int 1)) (tCons (tC (.bl true)) tNil))) (tCons (tTup (tCons (tC (.int 1)) (tCons (tUn (rU fun i => .int (-i)) (tC (.int 2))) tNil))) (tCons (tLst (tCons (tTup (tCons (tC (.int 1)) (tCons (tC (.int 2)) tNil))) tNil)) (tCons (tTup (tCons (tTup (tCons (tC (.int 1)) (tCons (tC (.int 3)) tNil))) (tCons (tTup (tCons (tC (.int 2)) (tCons (tC (.int 3)) tNil))) tNil))) tNil)))))
theorem odL3 {K : PySem.W.Frag} : Lits K odT3 oddD3 := by
  unfold odT3 oddD3
  exact (.cons .str (.cons (.tup (.cons .int (.cons .bl .nil)) (by decide)) (.cons (.tup (.cons .int (.cons .neg .nil)) (by decide)) (.cons (.lst (.cons (.tup (.cons .int (.cons .int .nil)) (by decide)) .nil) (by decide)) (.cons (.tup (.cons (.tup (.cons .int (.cons .int .nil)) (by decide)) (.cons (.tup (.cons .int (.cons .int .nil)) (by decide)) .nil)) (by decide)) .nil)))))
theorem asg_go {te : TE} {g : TG} {b : TS} {D : Ends} {σ : L2.St} {H : Hp} (h : te σ H fun v H1 => g v σ H1 fun σ2 H2 => b D σ2 H2) : tSeq (tAsg te g) b D σ H := h
section
variable {P : Program} {w : World} {K : PySem.W.Frag} {mg : Str → Option Value} {base : Heap}
def spOdd (K : PySem.W.Frag) : Sp := fun vs H Q _ => ∃ (A : Addr → Prop) (d c : Addr) (t : Int), vs = [.ref d] ∧ Feed H d c t ∧ Dom A H ∧ t ≤ 800000 ∧ ∀ v x t' H', Keep d H H' → Feed H' d c t' → t' ≤ t + 1 → DA K A H' v x → Bk 134 4 20 4 x → Q v H'
theorem ok_odd {f fD : Addr} {fd fdD : FuncData} (F : Fun K "_law_odd" "_law_odd" s_odd f fd)
    (FD : Fun K "_law_draw" "_law_draw" s_draw fD fdD) (bD : Binds K fdD ["_law_feed_here", "_law_many"] []) (gD : mg "_law_draw" = some (.ref fD)) (GD : FnOk P w K mg base CX0 1 fD fdD ["_law_feed_here", "_law_many"] spDraw)
    (n_len : mg "len" = none) : FnOk P w K mg base CX0 2 f fd ["_law_feed_here"] (spOdd K) := by
  refine F.ok sc_odd (fun vs H Q E h => ?_) (fun cdv A outer s H vs Q E hr h => ?_)
  · obtain ⟨_, _, _, _, rfl, _⟩ := h
    rfl
  · obtain ⟨A, d, c, t, rfl, f0, dA, ht, q⟩ := h
    refine ⟨_, (pss_cons (ps_set (i := 1) sc_odd.nd rfl (.inl rfl) (pe_lst (pa_cons pe_non (pa_cons pe_bl (pa_cons pe_bl (pa_cons pe_str (pa_cons pe_str (pa_cons pe_int (pa_cons pe_int (pa_cons (pe_un un_neg pe_int) (pa_cons (pe_tup pa_nil) (pa_cons (pe_lst pa_nil) (pa_cons pe_dnewK (pa_cons (pe_tup (pa_cons pe_int (pa_cons pe_int pa_nil))) (pa_cons (pe_tup (pa_cons pe_int (pa_cons pe_int pa_nil))) (pa_cons (pe_tup (pa_cons pe_int (pa_cons pe_int pa_nil))) (pa_cons (pe_tup (pa_cons pe_int (pa_cons pe_int pa_nil))) (pa_cons (pe_lst (pa_cons pe_int (pa_cons pe_int pa_nil))) (pa_cons (pe_tup (pa_cons pe_bl (pa_cons pe_int pa_nil))) pa_nil)))))))))))))))))))
      (pss_cons (ps_set (i := 1) sc_odd.nd rfl (.inl rfl) (pe_op op_cat (pv 1) (pe_lst (pa_cons (pe_tup (pa_cons pe_int (pa_cons pe_int pa_nil))) (pa_cons (pe_tup (pa_cons pe_int (pa_cons pe_int pa_nil))) (pa_cons (pe_tup (pa_cons (pe_un un_neg pe_int) (pa_cons pe_int pa_nil))) (pa_cons (pe_tup (pa_cons pe_int (pa_cons pe_int (pa_cons pe_int pa_nil)))) (pa_cons (pe_tup (pa_cons (pe_tup pa_nil) (pa_cons (pe_tup (pa_cons pe_int (pa_cons pe_int pa_nil))) pa_nil))) (pa_cons (pe_tup (pa_cons (pe_tup (pa_cons (pe_tup (pa_cons pe_int (pa_cons pe_int pa_nil))) pa_nil)) (pa_cons (pe_tup (pa_cons pe_int (pa_cons pe_int pa_nil))) pa_nil))) (pa_cons (pe_tup (pa_cons (pe_tup (pa_cons pe_int (pa_cons pe_int pa_nil))) pa_nil)) (pa_cons (pe_tup (pa_cons (pe_op op_pow pe_int pe_int) (pa_cons pe_int pa_nil))) pa_nil)))))))))))
      (pss_cons (ps_set (i := 1) sc_odd.nd rfl (.inl rfl) (pe_op op_cat (pv 1) (pe_lst (pa_cons pe_str (pa_cons (pe_tup (pa_cons pe_int (pa_cons pe_bl pa_nil))) (pa_cons (pe_tup (pa_cons pe_int (pa_cons (pe_un un_neg pe_int) pa_nil))) (pa_cons (pe_lst (pa_cons (pe_tup (pa_cons pe_int (pa_cons pe_int pa_nil))) pa_nil)) (pa_cons (pe_tup (pa_cons (pe_tup (pa_cons pe_int (pa_cons pe_int pa_nil))) (pa_cons (pe_tup (pa_cons pe_int (pa_cons pe_int pa_nil))) pa_nil))) pa_nil))))))))
      (pss_one (ps_ret (pe_ix ix_list (pv 1) (pe_call GD hr (by rfl) gD FD.kp bD .nil pass0 (pa_cons (pv 0) (pa_cons (pe_callB call_lenN (by rfl) n_len PySem.boot_len (pa_cons (pv 1) pa_nil)) pa_nil))) (fun _ _ => rfl))))))), ?_⟩
    refine asg_go ?_
    refine lst_go (K := K) (ta := odT1) odL1 (by decide) dA fun D1 vs1 H1 s1 h1 e1 => ?_
    refine ⟨_, rfl, ?_⟩
    refine lst_go (K := K) (ta := odT2) odL2 (by decide) (dA.same s1) fun D2 vs2 H2 s2 h2 e2 => ?_
    have l1 := h1.len
    have l2 := h2.len
    refine ⟨D1, D2, _, _, rfl, rfl, s2 _ _ e1, e2, by rw [l1, l2]; decide, fun D3 n3 => ?_⟩
    have g3 := same_new (o := HO.lst (vs1 ++ vs2)) n3
    have e3 : upd H2 D3 (.lst (vs1 ++ vs2)) D3 = some (.lst (vs1 ++ vs2)) := upd_same
    generalize upd H2 D3 (.lst (vs1 ++ vs2)) = H3 at *
    refine ⟨_, rfl, ?_⟩
    refine lst_go (K := K) (ta := odT3) odL3 (by decide) (dA.same (s1.trans (s2.trans g3))) fun D4 vs4 H4 s4 h4 e4 => ?_
    have l4 := h4.len
    refine ⟨D3, D4, _, _, rfl, rfl, s4 _ _ e3, e4, by rw [List.length_append, l1, l2, l4]; decide, fun D5 n5 => ?_⟩
    have g5 := same_new (o := HO.lst (vs1 ++ vs2 ++ vs4)) n5
    have e5 : upd H4 D5 (.lst (vs1 ++ vs2 ++ vs4)) D5 = some (.lst (vs1 ++ vs2 ++ vs4)) := upd_same
    generalize upd H4 D5 (.lst (vs1 ++ vs2 ++ vs4)) = H5 at *
    have S5 := s1.trans (s2.trans (g3.trans (s4.trans g5)))
    have hA : DAs K A H5 (vs1 ++ vs2 ++ vs4) (oddD ++ oddD2 ++ oddD3) := ((h1.same (s2.trans (g3.trans (s4.trans g5)))).app (h2.same (g3.trans (s4.trans g5)))).app (h4.same g5)
    have lA := hA.len
    refine ⟨_, rfl, _, rfl, _, rfl, ?_⟩
    refine tnil_go ?_
    refine ⟨D5, _, rfl, .inl (SqL.of e5), ?_⟩
    refine tnil_go ?_
    rw [lA]
    have f5 := f0.same S5
    refine ⟨d, c, 30, t, rfl, f5, by omega, by decide, by decide, fun r H6 h60 h61 k6 f6 => ?_⟩
    obtain ⟨n, rfl⟩ : ∃ n : Nat, r = (n : Int) := ⟨r.toNat, by omega⟩
    obtain ⟨x, hx⟩ : ∃ x, (oddD ++ oddD2 ++ oddD3)[n]? = some x := ⟨(oddD ++ oddD2 ++ oddD3)[n]'(by show n < 30; omega), List.getElem?_eq_getElem _⟩
    obtain ⟨v, hv, hd⟩ := hA.get hx
    refine ⟨D5, _, _, v, rfl, rfl, sqL_keep f5 k6 (SqL.of e5), atI_nat hv, ?_⟩
    exact q v x _ _ ((Keep.of_same S5).trans k6) f6 (by omega) (hd.keep f5 k6) (odd_bk x (List.mem_of_getElem? hx))
end

end Fp

set_option Elab.async false
set_option linter.all false
set_option maxRecDepth 100000
set_option maxHeartbeats 4000000
set_option exponentiation.threshold 10000
namespace Fp
open PySem PySem.Spec PyProof.Rows L2
/-! ### texts of numbers are texts; a text told twice -/
theorem strOk_of (s : String) : PyData.strOk (Str.ofString s) = true := by
  rw [Str.ofString_eq_toList]
  unfold PyData.strOk
  rw [List.all_toArray, List.all_eq_true]
  intro c hc
  obtain ⟨ch, _, rfl⟩ := List.mem_map.mp hc
  refine decide_eq_true ?_
  have := ch.valid
  show ch.val.toNat < 0x110000
  rcases this with h | h
  · have h2 : ch.val.toNat < 0xd800 := h
    omega
  · have h2 : ch.val.toNat < 0x110000 := h.2
    omega
theorem strOk_app {a b : Str} (ha : PyData.strOk a = true) (hb : PyData.strOk b = true) : PyData.strOk (a ++ b) = true := by
  unfold PyData.strOk at *
  show (a.cps ++ b.cps).all _ = true
  rw [Array.all_append, ha, hb]
  rfl
theorem strOk_join : ∀ {ts : List Str}, (∀ t ∈ ts, PyData.strOk t = true) → PyData.strOk (Str.join ", " ts) = true
  | [], _ => by
    have e : Str.join ", " [] = ⟨#[]⟩ := by simp [Str.join, Str.empty]
    rw [e]
    simp [PyData.strOk]
  | [x], h => h x (List.mem_cons_self ..)
  | x :: y :: r, h => by
    show PyData.strOk (x ++ _ ++ Str.join ", " (y :: r)) = true
    exact strOk_app (strOk_app (h x (List.mem_cons_self ..)) (strOk_of _)) (strOk_join fun t ht => h t (List.mem_cons_of_mem _ ht))
theorem strOk_tup {ts : List Str} (h : ∀ t ∈ ts, PyData.strOk t = true) : PyData.strOk (tupleText ts) = true := by
  unfold tupleText
  refine strOk_app (strOk_app (strOk_of _) (strOk_join h)) ?_
  exact strOk_of _
theorem strOk_rat (x : RT) : PyData.strOk (PyData.shown (ratD x)) = true := by
  show PyData.strOk (tupleText [Str.ofString (toString x.1), Str.ofString (toString x.2)]) = true
  refine strOk_tup fun t ht => ?_
  rcases List.mem_cons.mp ht with z | z
  · rw [z]
    exact strOk_of _
  · rw [List.mem_singleton.mp z]
    exact strOk_of _
theorem strOk_row (xs : List RT) : PyData.strOk (PyData.shown (.tuple (rowD xs))) = true := by
  show PyData.strOk (tupleText (PyData.shownAll (rowD xs))) = true
  refine strOk_tup fun t ht => ?_
  induction xs with
  | nil => cases ht
  | cons x r ih =>
    rcases List.mem_cons.mp (show t ∈ PyData.shown (ratD x) :: PyData.shownAll (rowD r) from ht) with z | z
    · rw [z]
      exact strOk_rat x
    · exact ih z
theorem strOk_rows (xss : List (List RT)) : PyData.strOk (PyData.shown (.tuple (xss.map fun xs => .tuple (rowD xs)))) = true := by
  show PyData.strOk (tupleText (PyData.shownAll (xss.map fun xs => PyData.tuple (rowD xs)))) = true
  refine strOk_tup fun t ht => ?_
  induction xss with
  | nil => cases ht
  | cons x r ih =>
    rcases List.mem_cons.mp (show t ∈ PyData.shown (.tuple (rowD x)) :: PyData.shownAll (r.map fun xs => PyData.tuple (rowD xs)) from ht) with z | z
    · rw [z]
      exact strOk_row x
    · exact ih z
/-- the same text twice -/
theorem ne_twice {K : PySem.W.Frag} {H : Hp} {p q : Addr} {s : Str} {Q : VK} (hs : PyData.strOk s = true) (h1 : H p = some (.lst [.str s, .str s])) (h2 : H q = some (.lst [.str s, .str s])) (h : Q (.bl false) H) : rNeD K (.ref p) (.ref q) H Q := by
  have sh : SeqAt.shaped (.list [.str s, .str s]) = true := by
    show (PyData.strOk s && (PyData.strOk s && true) && decide (_ ≤ 64)) = true
    rw [hs]
    rfl
  refine ⟨_, _, .lst (SqL.of h1) (.cons (.str s) (.cons (.str s) .nil)), .lst (SqL.of h2) (.cons (.str s) (.cons (.str s) .nil)), sh, sh, ?_⟩
  have e : PyData.eqv (.list [.str s, .str s]) (.list [.str s, .str s]) = true := by
    show ((s == s) && ((s == s) && true)) = true
    rw [beq_self_eq_true]
    rfl
  rw [e]
  exact h
section
variable {K : PySem.W.Frag}
/-- a comprehension each turn of which gives one text -/
theorem lc_txt {J : It} {n : Nat} {G : Hp → Prop} {Y : Nat → Hp → V → Hp → Prop} (w : Walk J n G Y) {g : TG} {te : TE} {vs : List Nat} {σ : L2.St} {H1 : Hp} (s : Str) (hn : n ≤ 900) (hG : ∀ HE, Same H1 HE → G HE)
    (hs : ∀ (k : Nat) (x : V) (HE HE' : Hp) (R : VK), k < n → Same H1 HE → Y k HE x HE' → (∀ HF, Same HE HF → R (.str s) HF) → g x (wipe σ vs) HE' fun σ2 H2 => wipe σ2 vs = wipe σ vs ∧ te σ2 H2 R)
    {Qd : Addr → Hp → Prop} (hd : ∀ D H2, Same H1 H2 → H2 D = some (.lst (List.replicate n (V.str s))) → Qd D H2) : tLc (fun _ H2 R => R J H2) g tYes te vs σ H1 (refQ Qd) := by
  intro D nD
  have e1 := same_new (o := HO.lst []) nD
  refine lc_it w (fun k HE => Same H1 HE ∧ HE D = some (.lst (List.replicate k (V.str s)))) ⟨e1, upd_same⟩ ?_ ?_ ?_
  · rintro i HE _ ⟨sE, _⟩
    exact hG HE sE
  · rintro k x HE HE' hk ⟨sE, hE⟩ hY
    refine hs k x HE HE' _ hk sE hY fun HF sF => ?_
    refine ⟨_, sF _ _ hE, by rw [List.length_replicate]; exact small1000 (by omega), ?_, ?_⟩
    · intro b2 o hb2
      rw [upd_ne (ne_of_none hb2 nD)]
      exact (sE.trans sF) _ _ hb2
    · rw [upd_same, List.replicate_succ']
  · rintro HE ⟨sE, hE⟩
    exact hd D HE sE hE
end

end Fp

set_option Elab.async false
set_option linter.all false
set_option maxRecDepth 100000
set_option maxHeartbeats 4000000
set_option exponentiation.threshold 10000
namespace Fp
open PySem PySem.Spec PyProof.Rows L2
/-! ### enumerate(xs) of a tuple -/
theorem enum1_meets {y : Value} {ob : Obj} {Hh : Heap → Prop} (B : Begins y ob Hh) :
    Meets (Builtin.«enumerate.__new__» ⟨[.type "enumerate", y], []⟩) (fun _ R0 st => Hh st.heap ∧
      R0 (.ok (.ret (.ref (st.heap.push ob).objs.size))) { st with heap := (st.heap.push ob).push { cls := .type "enumerate", data := .fields #[.none, .bool false, .ref st.heap.objs.size, rawInt 0, .none, .none] } }) :=
  .of_wp fun pr wo Ar Rr st hst => by
    obtain ⟨hh, gg, dd, kk, oo⟩ := st
    obtain ⟨b1, b2⟩ := hst
    have subE := sub_enumerate
    have goes : ∀ {A2 : Around} {E2 : Value → Shared → Prop} {Q2 : Value → Shared → Prop}, Q2 (.ref hh.objs.size) ⟨hh.push ob, gg, dd, kk, oo⟩ → wpAny (model pr wo) A2 (pyIter y) Q2 E2 ⟨hh, gg, dd, kk, oo⟩ :=
      fun q2 => B.iter pr wo _ _ ⟨hh, gg, dd, kk, oo⟩ _ b1 q2
    wp_walk using goes
    refine wpAny_stack_any fun sk => wpAny_pure ?_
    split
    · rename_i cc _ _ _ _ _
      cases (cc == Value.type "enumerate")
      · wp_walk using goes
        exact ⟨_, rfl, b2⟩
      · wp_walk using goes
        exact ⟨_, rfl, b2⟩
    · wp_walk using goes
      exact ⟨_, rfl, b2⟩
theorem enum1_begins {prog : Program} {w : World} {A : Around} {F0 : Value → Shared → Prop} {st : Shared} {y : Value} {ob : Obj} {Hh : Heap → Prop} {Q0 : Value → Shared → Prop} (B : Begins y ob Hh) (b1 : Hh st.heap)
    (go : ∀ h2, IsEnum h2 (st.heap.objs.size + 1) st.heap.objs.size 0 .none → h2.get? st.heap.objs.size = some ob → (∀ b o, st.heap.get? b = some o → h2.get? b = some o) → Q0 (.ref (st.heap.objs.size + 1)) { st with heap := h2 }) :
    wpAny (model prog w) A (call (.type "enumerate") [y]) Q0 F0 st := by
  refine callType_new F.called_enumerate (by decide) (F.typeCall_enumerate_1 _) (F.newCall_enumerate_1 _) (fun z => F.args_object_init_2 z _) F.entry_enumerate_new (enum1_meets B) ⟨b1, ?_⟩
  have sz : (st.heap.push ob).objs.size = st.heap.objs.size + 1 := Heap.size_push ..
  show _ ∧ _
  rw [sz]
  have is : IsEnum ((st.heap.push ob).push { cls := .type "enumerate", data := .fields #[.none, .bool false, .ref st.heap.objs.size, rawInt 0, .none, .none] }) (st.heap.objs.size + 1) st.heap.objs.size 0 .none := by
    have z := Heap.get?_push_size (st.heap.push ob) (o := { cls := .type "enumerate", data := .fields #[.none, .bool false, .ref st.heap.objs.size, rawInt 0, .none, .none] }) rfl
    rw [sz] at z
    exact z
  exact ⟨⟨_, is, rfl⟩, go _ is (Heap.get?_push_of_some _ (Heap.get?_push_size _ B.free)) fun b o x => Heap.get?_push_of_some _ (Heap.get?_push_of_some _ x)⟩
theorem pi_eT {X : Cx} {e : Expr} {ta : TA} {p pos tpos : Pos} {elts : List Expr} {kk : Nat} (hg : Gl X "enumerate") (hm : X.mg "enumerate" = none) (ha : PA X [e] ta) (hs : starEach [e] X.env = [(false, eval e X.env)] := by rfl) :
    PI X (.Tuple elts kk tpos) (.Call (.Name "enumerate" p) [e] [] pos) (iQT X.K 0 ta) := by
  refine ⟨fun pn s sl H R I h => Call_ (ld_blt I hg hm boot_enumerate (PyProof.Rows.callWith_type1 (thn (ha.run pos pn s sl H _ I h) fun us s2 z2 => ?_) hs rfl))⟩
  obtain ⟨vs, H2, I2, r1, a, xs, rfl, sq, q⟩ := z2
  cases r1 with
  | cons ra rn =>
    cases rn
    cases ra
    obtain ⟨us, rv, po, _⟩ := I2.tuple sq
    have oa : s2.heap.IsTuple a us.toArray := po
    refine enum1_begins (begins_tuple a us.toArray) oa fun h2 ee oi kp2 => wpAny_pyIter_enum ee ?_
    have I3 : Inv X pn sl H2 { s2 with heap := h2 } := I2.kept (t' := s2.toks) kp2
    refine ⟨s2.heap.objs.size + 1, [s2.heap.objs.size + 1, s2.heap.objs.size], _, _, H2, rfl, I3, turn_qT 0 a (s2.heap.objs.size + 1) s2.heap.objs.size, ⟨⟨.none, ?_⟩, ⟨_, oi, rfl, rfl⟩, Nat.succ_ne_self _⟩, fun b hb => ?_, q⟩
    · rw [show (0 : Int) + ((0 : Nat) : Int) = 0 by omega]
      exact ee
    · have lb : s2.heap.objs.size ≤ b := by
        rcases (show b = s2.heap.objs.size + 1 ∨ b = s2.heap.objs.size by simpa using hb) with z | z
        · rw [z]
          exact Nat.le_add_right _ _
        · rw [z]
          exact Nat.le_refl _
      exact I2.fpOk lb (I2.hok.fresh lb)

end Fp

set_option Elab.async false
set_option linter.all false
set_option maxRecDepth 100000
set_option maxHeartbeats 4000000
set_option exponentiation.threshold 10000
namespace Fp
open PySem PySem.Spec PyProof.Rows L2
/-! ### xs[::-1] of a tuple -/
theorem rev_adj (n : Nat) : Builtin.Slice.sliceAdjust none none (-1) (n : Int) = ((n : Int) - 1, -1) := rfl
theorem rev_places (n : Nat) : Builtin.Slice.slicePlaces ((n : Int) - 1) (-1) (-1) = n := by
  unfold Builtin.Slice.slicePlaces
  rw [if_neg (by decide)]
  split
  · rw [show -(-1 : Int) = 1 by decide, Int.ediv_one]
    omega
  · show (0 : Int).toNat = n
    omega
theorem fm_congr {f g : Nat → Option Value} : ∀ {l : List Nat}, (∀ m ∈ l, f m = g m) → l.filterMap f = l.filterMap g
  | [], _ => rfl
  | m :: r, h => by
    rw [List.filterMap_cons, List.filterMap_cons, h m (List.mem_cons_self ..), fm_congr fun x hx => h x (List.mem_cons_of_mem _ hx)]
theorem rev_pick (xs : List Value) : ((List.range xs.length).filterMap fun (m : Nat) => xs.toArray[((xs.length : Int) - 1 + (m : Int) * (-1)).toNat]?) = xs.reverse := by
  have e : ((List.range xs.length).filterMap fun (m : Nat) => xs.toArray[((xs.length : Int) - 1 + (m : Int) * (-1)).toNat]?) = (List.range xs.length).filterMap fun m => xs.reverse[m]? := by
    refine fm_congr fun m hm => ?_
    have h := List.mem_range.mp hm
    rw [List.getElem?_toArray, List.getElem?_reverse h]
    congr 1
    omega
  rw [e]
  have key : ∀ ys : List Value, ((List.range ys.length).filterMap fun m => ys[m]?) = ys := by
    intro ys
    induction ys with
    | nil => rfl
    | cons y r ih =>
      rw [List.length_cons, List.range_succ_eq_map, List.filterMap_cons, List.filterMap_map]
      show y :: _ = _
      congr 1
  have k2 := key xs.reverse
  rw [List.length_reverse] at k2
  exact k2
section
variable {prog : Program} {w : World} {A : Around} {E : Value → Shared → Prop} {s : Shared}
theorem rev_applied {sl : Addr} {v3 : Value} {n : Nat} {Q : Int × Int × Nat → Shared → Prop} (is : s.heap.IsSliceOf sl .none .none v3) (p3 : IsPart v3 (some (-1)))
    (h : Q ((n : Int) - 1, -1, n) s) : wpAny (model prog w) A (Builtin.Slice.sliceApplied (.ref sl) (pure (n : Int))) Q E s := by
  obtain ⟨ob, ho, hcl, hdt⟩ := id is
  unfold Builtin.Slice.sliceApplied Builtin.Slice.sliceFields
  refine wpAny_bind (wpAny_bind (wpAny_field ho hdt (x := .none) rfl (wpAny_bind (wpAny_field ho hdt (x := .none) rfl (wpAny_bind (wpAny_field ho hdt (x := v3) rfl (wpAny_pure ?_)))))))
  refine wpAny_bind (HT.slicePart_ p3 ?_)
  show wpAny _ _ (if ((-1 : Int) == 0) = true then _ else _) _ _ s
  rw [if_neg (by decide)]
  refine wpAny_bind (HT.slicePart_ .none (wpAny_bind (HT.slicePart_ .none (wpAny_bind (wpAny_pure ?_)))))
  show wpAny _ _ (match Builtin.Slice.sliceAdjust none none (-1) (n : Int) with | (lo, hi) => pure (lo, (-1 : Int), Builtin.Slice.slicePlaces lo hi (-1))) _ _ s
  rw [rev_adj n]
  show wpAny _ _ (pure ((n : Int) - 1, (-1 : Int), Builtin.Slice.slicePlaces ((n : Int) - 1) (-1) (-1))) _ _ s
  rw [rev_places]
  exact wpAny_pure h
theorem rev_get {t sl : Addr} {xs : List Value} {v3 : Value} {Q : Value → Shared → Prop} (ht : IsTup s.heap t xs.toArray) (is : s.heap.IsSliceOf sl .none .none v3) (p3 : IsPart v3 (some (-1)))
    (h : Q (.ref s.heap.objs.size) { s with heap := s.heap.push { cls := .type "tuple", data := .seq xs.reverse.toArray } }) (hz : xs.length ≤ sizeLine) : wpAny (model prog w) A (getItem (.ref t) (.ref sl)) Q E s := by
  have fits : sizeOk (.seq xs.reverse.toArray) := by
    show xs.reverse.toArray.size ≤ sizeLine
    rw [List.size_toArray, List.length_reverse]
    exact hz
  obtain ⟨ob, ho, hcl, hdt⟩ := id is
  have tS : s.TypeIs (.ref sl) "slice" := ⟨ob, ho, hcl⟩
  unfold getItem
  try with_reducible refine wpAny_holding ?_
  first | refine wpAny_bind (wpAny_pure ?_) | skip
  refine wpAny_bind (wpAny_sequenceKey ht.typeIs (by decide) ?_)
  refine wpAny_bind (wpAny_callSpecial?_slot (name := Str.ofString "__getitem__") ht.typeIs PyProof.Rows.slot_tuple_getitem (wpAny_call_entry PyProof.Rows.slot_tuple_getitem ht.typeIs entry_tuple_getitem ?_ (args_tuple_getitem _ _)))
  show wpAny _ _ (Builtin.Tuple.tupleItemsOf (.ref t) >>= _) _ _ s
  refine wpAny_bind (PyProof.Rows.tupleItemsOf_ ht (wpAny_bind (wpAny_typeOf tS ?_)))
  rw [if_pos (by decide)]
  refine wpAny_bind (rev_applied (n := xs.toArray.size) is p3 ?_)
  have no : ¬ ((((xs.toArray.size : Int) - 1 == 0) && ((-1 : Int) == 1) && (xs.toArray.size == xs.toArray.size)) = true) := by
    intro q
    rw [Bool.and_eq_true, Bool.and_eq_true] at q
    exact absurd q.1.2 (by decide)
  show wpAny _ _ (if (((xs.toArray.size : Int) - 1 == 0) && ((-1 : Int) == 1) && (xs.toArray.size == xs.toArray.size)) = true then _ else _) _ _ s
  rw [if_neg no]
  have ep : ((List.range xs.toArray.size).filterMap fun (m : Nat) => xs.toArray[((xs.toArray.size : Int) - 1 + (m : Int) * (-1)).toNat]?).toArray = xs.reverse.toArray := by
    rw [List.size_toArray, rev_pick]
  rw [ep]
  first
    | exact wpAny_bind (m := Builtin.Tuple.tupleExact _) (wpAny_newObj_type (wpAny_pure ⟨_, rfl, wpAny_pure h⟩) fits)
    | exact wpAny_bind (m := Builtin.Tuple.tupleExact _) (wpAny_newObj_type (wpAny_bind (wpAny_pure (wpAny_pure ⟨_, rfl, wpAny_pure h⟩))) fits)
    | exact wpAny_bind (wpAny_bind (m := Builtin.Tuple.tupleExact _) (wpAny_newObj_type (wpAny_pure (wpAny_pure ⟨_, rfl, wpAny_pure h⟩)) fits))
    | exact wpAny_bind (wpAny_bind (m := Builtin.Tuple.tupleExact _) (wpAny_newObj_type (wpAny_pure ⟨_, rfl, wpAny_pure h⟩) fits))
end
def tRevT (K : PySem.W.Frag) (te : TE) : TE := fun σ H Q => te σ H fun x H1 => ∃ a xs, x = .ref a ∧ SqT K H1 a xs ∧ ∀ p, H1 p = none → Q (.ref p) (upd H1 p (.tup xs.reverse))
theorem pe_revT {X : Cx} {e : Expr} {te : TE} {k : Nat} {p1 p2 p3 pos : Pos} (he : PE X e te) : PE X (.Subscript e (.Slice none none (some (.UnaryOp .USub (.Constant (.int 1) k p1) p2)) p3) pos) (tRevT X.K te) := by
  refine ⟨fun pn s sl H Q I h => Subscript_ (thn (he.run pn s sl H _ I h) fun v s1 z1 => ?_)⟩
  obtain ⟨x, H1, I1, r1, a, xs, rfl, hx, q⟩ := z1
  cases r1
  have pm : PO X (some (.UnaryOp .USub (.Constant (.int 1) k p1) p2)) (tPart (tUn (rU fun i => .int (-i)) (tC (.int 1)))) := po_some (pe_un un_neg pe_int)
  refine wpAny_Slice (thn (po_none.run pn s1 sl H1 (fun o H2 => o = none ∧ H2 = H1) I1 ⟨rfl, rfl⟩) fun vl s2 z2 => ?_)
  obtain ⟨l, H2, I2, pl, rfl, rfl⟩ := z2
  refine thn (po_none.run pn s2 sl H2 (fun o H3 => o = none ∧ H3 = H2) I2 ⟨rfl, rfl⟩) fun vu s3 z3 => ?_
  obtain ⟨u, H3, I3, pu, rfl, rfl⟩ := z3
  refine thn (pm.run pn s3 sl H3 (fun o H4 => o = some (-1) ∧ H4 = H3) I3 ⟨1, rfl, -1, rfl, rfl, rfl⟩) fun vs s4 z4 => ?_
  obtain ⟨o, H4, I4, ps, rfl, rfl⟩ := z4
  have I5 : Inv X pn sl H4 { s4 with heap := s4.heap.push { cls := .type "slice", data := .fields #[vl, vu, vs] } } := I4.kept (t' := s4.toks) fun b ob y => Heap.get?_push_of_some _ y
  obtain ⟨its, r, ht, hz⟩ := I5.tuple hx
  have hlen := r.length
  cases pl
  cases pu
  show wpAny (model X.prog X.w) X.A (subscriptTail e (.Slice none none (some (.UnaryOp .USub (.Constant (.int 1) k p1) p2)) p3) (.ref a) (.ref s4.heap.objs.size)) (EP X pn sl Q) X.xe { s4 with heap := s4.heap.push { cls := .type "slice", data := .fields #[.none, .none, vs] } }
  refine tail_any (ops := [.ref a, .ref s4.heap.objs.size]) ht.typeIs (PyProof.Rows.slot_tuple_getitem.lookup) ?_ (by with_unfolding_all rfl)
  refine rev_get (xs := its) ht (Heap.IsSliceOf.new _ .none .none vs) ps ?_ (by omega)
  refine ⟨.ref _, _, I5.laid (t' := s4.toks) (o := .tup xs.reverse) (fun b ob y => Heap.get?_push_of_some _ y) (Nat.le_refl _) ?_, rfl, q _ (I5.hok.fresh (Nat.le_refl _))⟩
  exact ⟨by rw [List.length_reverse]; exact hz, _, r.reverse, IsTup.new _ _⟩

end Fp

set_option Elab.async false
set_option linter.all false
set_option maxRecDepth 100000
set_option maxHeartbeats 4000000
set_option exponentiation.threshold 10000
namespace Fp
open PySem PySem.Spec PyProof.Rows L2
/-! ### a thing bent once -/
abbrev s_bent : Stmt := topS 29
abbrev N_bent : List Str := ["_law_feed_here", "_law_thing", "_law_at", "_law_other", "_law_odd_here", "_law_some"]
theorem sc_bent : FnScope N_bent ["_law_feed_here", "_law_thing"] (defScope s_bent) := ⟨rfl, rfl, rfl, by decide +kernel, rfl, by decide +kernel, by decide +kernel⟩
section
variable {P : Program} {w : World} {K : PySem.W.Frag} {mg : Str → Option Value} {base : Heap}
def spBent (K : PySem.W.Frag) (n : Nat) : Sp := fun vs H Q _ => ∃ (A : Addr → Prop) (d c : Addr) (t : Int) (v : V) (x : PyData) (b l m k : Nat), vs = [.ref d, v] ∧ Feed H d c t ∧ Dom A H ∧ t + 2 * (n : Int) ≤ 700000 ∧ DA K A H v x ∧ Bk b l m k x ∧ 134 ≤ b ∧ b ≤ 1890 ∧ 4 ≤ l ∧ l ≤ 100000 ∧ k < n ∧ n ≤ 100 ∧
  ∀ v' x' t' H', Keep d H H' → Feed H' d c t' → t' ≤ t + 2 * (n : Int) + 5 → DA K A H' v' x' → Bk (b + 1) (l + 1) (2 * m + b + 60) (k + 5) x' → Q v' H'
theorem spBent_zero {f : Addr} {fd : FuncData} {ps : List Str} {k : Nat} : FnOk P w K mg base CX0 k f fd ps (spBent K 0) := by
  refine ⟨fun vs H Q E h => ?_, fun A outer s H args us vs Q E hr e0 hb r h => ?_⟩
  · obtain ⟨A, d, c, t, v, x, b, l, m, k, _, _, _, _, _, _, _, _, _, _, hn, _⟩ := h
    exact absurd hn (Nat.not_lt_zero _)
  · obtain ⟨A, d, c, t, v, x, b, l, m, k, _, _, _, _, _, _, _, _, _, _, hn, _⟩ := h
    exact absurd hn (Nat.not_lt_zero _)
theorem ok_bents {f : Addr} {fd : FuncData} {ps : List Str} (h : ∀ n, FnOk P w K mg base CX0 (n + 3) f fd ps (spBent K n) → FnOk P w K mg base CX0 (n + 4) f fd ps (spBent K (n + 1))) : ∀ n, FnOk P w K mg base CX0 (n + 3) f fd ps (spBent K n)
  | 0 => spBent_zero
  | n + 1 => h n (ok_bents h n)
theorem ok_bent {n : Nat} {f fD fBN fOD : Addr} {fd fdD fdBN fdOD : FuncData} (F : Fun K "_law_bent" "_law_bent" s_bent f fd)
    (FD : Fun K "_law_draw" "_law_draw" s_draw fD fdD) (bD : Binds K fdD ["_law_feed_here", "_law_many"] []) (gD : mg "_law_draw" = some (.ref fD)) (GD : FnOk P w K mg base CX0 1 fD fdD ["_law_feed_here", "_law_many"] spDraw)
    (FBN : Fun K "_law_bent" "_law_bent" s_bent fBN fdBN) (bBN : Binds K fdBN ["_law_feed_here", "_law_thing"] []) (gBN : mg "_law_bent" = some (.ref fBN)) (GBN : FnOk P w K mg base CX0 (n + 3) fBN fdBN ["_law_feed_here", "_law_thing"] (spBent K n))
    (FOD : Fun K "_law_odd" "_law_odd" s_odd fOD fdOD) (bOD : Binds K fdOD ["_law_feed_here"] []) (gOD : mg "_law_odd" = some (.ref fOD)) (GOD : FnOk P w K mg base CX0 2 fOD fdOD ["_law_feed_here"] (spOdd K))
    (n_bool : mg "bool" = none) (n_int : mg "int" = none) (n_isinstance : mg "isinstance" = none) (n_len : mg "len" = none) (n_list : mg "list" = none) (n_str : mg "str" = none) (n_tuple : mg "tuple" = none) : FnOk P w K mg base CX0 (n + 4) f fd ["_law_feed_here", "_law_thing"] (spBent K (n + 1)) := by
  refine F.ok sc_bent (fun vs H Q E h => ?_) (fun cdv A outer s H vs Q E hr h => ?_)
  · obtain ⟨_, _, _, _, _, _, _, _, _, _, rfl, _⟩ := h
    rfl
  · obtain ⟨A, d, c, t, v, x, b, l, m, k, rfl, f0, dA, ht, hx, hk, hb, hb2, hl0, hl2, hn, hn2, q⟩ := h
    refine ⟨_, (pss_mid (ps_if (PW.pt (pw_and (pt_val (pe_callB call_isi (by rfl) n_isinstance (by decide +kernel) (pa_cons (pv 1) (pa_cons (pe_bltn (v := .ty "tuple") (by rfl) n_tuple (by decide +kernel) rfl) pa_nil)))) (pw_and (pt_cmpR op_gt (pe_callB call_lenN (by rfl) n_len PySem.boot_len (pa_cons (pv 1) pa_nil)) pe_int (nomark _)) (pw_and1 (pt_cmpR op_gt (pe_call GD (hr.mono (by omega)) (by rfl) gD FD.kp bD .nil pass0 (pa_cons (pv 0) (pa_cons pe_int pa_nil))) pe_int (nomark _)))))) (pss_cons (ps_set (i := 2) sc_bent.nd rfl (.inl rfl) (pe_call GD (hr.mono (by omega)) (by rfl) gD FD.kp bD .nil pass0 (pa_cons (pv 0) (pa_cons (pe_callB call_lenN (by rfl) n_len PySem.boot_len (pa_cons (pv 1) pa_nil)) pa_nil))))
      (pss_one (ps_ret (pe_op op_catA (pe_op op_catA (pe_slice sl_tupA (pv 1) po_none (po_some (pv 2))) (pe_tup (pa_cons (pe_call GBN hr (by rfl) gBN FBN.kp bBN .nil pass0 (pa_cons (pv 0) (pa_cons (pe_ix ix_tup (pv 1) (pv 2) (fun _ _ => rfl)) pa_nil))) pa_nil))) (pe_slice sl_tupA (pv 1) (po_some (pe_op op_add (pv 2) pe_int)) po_none))))) pss_nil)
      (pss_cons (ps_if (pt_val (pe_callB call_isi (by rfl) n_isinstance (by decide +kernel) (pa_cons (pv 1) (pa_cons (pe_bltn (v := .ty "tuple") (by rfl) n_tuple (by decide +kernel) rfl) pa_nil)))) (pss_cons (ps_par (i := 2) (j := 3) rfl sc_bent.nd rfl rfl (by decide) rfl rfl (pa_cons (pe_call GD (hr.mono (by omega)) (by rfl) gD FD.kp bD .nil pass0 (pa_cons (pv 0) (pa_cons (pe_op op_add (pe_callB call_lenN (by rfl) n_len PySem.boot_len (pa_cons (pv 1) pa_nil)) pe_int) pa_nil))) (pa_cons (pe_call GD (hr.mono (by omega)) (by rfl) gD FD.kp bD .nil pass0 (pa_cons (pv 0) (pa_cons (pe_op op_add (pe_callB call_lenN (by rfl) n_len PySem.boot_len (pa_cons (pv 1) pa_nil)) pe_int) pa_nil))) pa_nil)) (by rfl))
      (pss_cons (ps_set (i := 4) sc_bent.nd rfl (.inl rfl) (pe_call GOD (hr.mono (by omega)) (by rfl) gOD FOD.kp bOD .nil pass0 (pa_cons (pv 0) pa_nil)))
      (pss_cons (ps_set (i := 5) sc_bent.nd rfl (.inl rfl) (pe_lst (pa_cons (pe_op op_catA (pe_slice sl_tupA (pv 1) po_none (po_some (pv 2))) (pe_slice sl_tupA (pv 1) (po_some (pe_op op_add (pv 2) pe_int)) po_none)) (pa_cons (pe_op op_catA (pe_op op_catA (pe_slice sl_tupA (pv 1) po_none (po_some (pv 2))) (pe_slice sl_tupA (pv 1) (po_some (pv 3)) (po_some (pe_op op_add (pv 3) pe_int)))) (pe_slice sl_tupA (pv 1) (po_some (pv 2)) po_none)) (pa_cons (pe_callTy call_lstN (by rfl) n_list (by decide +kernel) (pa_cons (pv 1) pa_nil)) (pa_cons (pe_tup (pa_cons (pv 1) pa_nil)) pa_nil))))))
      (pss_cons (ps_set (i := 5) sc_bent.nd rfl (.inl rfl) (pe_op op_cat (pv 5) (pe_lst (pa_cons (pe_op op_catA (pe_op op_catA (pe_slice sl_tupA (pv 1) po_none (po_some (pv 2))) (pe_tup (pa_cons (pv 4) pa_nil))) (pe_slice sl_tupA (pv 1) (po_some (pv 2)) po_none)) (pa_cons (pe_op op_catA (pe_op op_catA (pe_slice sl_tupA (pv 1) po_none (po_some (pv 2))) (pe_tup (pa_cons (pv 4) pa_nil))) (pe_slice sl_tupA (pv 1) (po_some (pe_op op_add (pv 2) pe_int)) po_none)) (pa_cons (pe_revT (pv 1)) (pa_cons (pv 4) pa_nil)))))))
      (pss_one (ps_ret (pe_ix ix_list (pv 5) (pe_call GD (hr.mono (by omega)) (by rfl) gD FD.kp bD .nil pass0 (pa_cons (pv 0) (pa_cons pe_int pa_nil))) (fun _ _ => rfl)))))))) pss_nil)
      (pss_cons (ps_if (PW.pt (pw_and (pt_val (pe_callB call_isi (by rfl) n_isinstance (by decide +kernel) (pa_cons (pv 1) (pa_cons (pe_bltn (v := .ty "int") (by rfl) n_int (by decide +kernel) rfl) pa_nil)))) (pw_and1 (pt_not (pt_val (pe_callB call_isi (by rfl) n_isinstance (by decide +kernel) (pa_cons (pv 1) (pa_cons (pe_bltn (v := .ty "bool") (by rfl) n_bool (by decide +kernel) rfl) pa_nil)))))))) (pss_cons (ps_set (i := 5) sc_bent.nd rfl (.inl rfl) (pe_lst (pa_cons (pe_op op_add (pv 1) pe_int) (pa_cons (pe_op op_sub (pv 1) pe_int) (pa_cons (pe_op op_sub pe_int (pv 1)) (pa_cons pe_int (pa_cons (pe_op op_mulA pe_int (pv 1)) (pa_cons (pe_cmpR op_eq (pv 1) pe_int (nomark _)) (pa_cons (pe_callTy call_strN (by rfl) n_str (by decide +kernel) (pa_cons (pv 1) pa_nil)) (pa_cons pe_non (pa_cons (pe_tup (pa_cons (pv 1) pa_nil)) (pa_cons (pe_op op_add (pv 1) pe_int) pa_nil))))))))))))
      (pss_one (ps_ret (pe_ix ix_list (pv 5) (pe_call GD (hr.mono (by omega)) (by rfl) gD FD.kp bD .nil pass0 (pa_cons (pv 0) (pa_cons pe_int pa_nil))) (fun _ _ => rfl))))) pss_nil)
      (pss_one (ps_ret (pe_call GOD (hr.mono (by omega)) (by rfl) gOD FOD.kp bOD .nil pass0 (pa_cons (pv 0) pa_nil))))))), ?_⟩
    refine ⟨fun σ2 H2 => σ2 = start N_bent [.ref d, v] ∧ Keep d H H2 ∧ ∃ t2, Feed H2 d c t2 ∧ t2 ≤ t + 1, ?_, ?_⟩
    · refine ⟨_, rfl, ?_⟩
      refine tcn_go ?_
      refine isx_tup hx.un ?_
      refine ⟨_, rfl, ?_⟩
      by_cases hT : isTup x = true
      · obtain ⟨ds, rfl⟩ : ∃ ds, x = .tuple ds := by cases x <;> first | exact ⟨_, rfl⟩ | cases hT
        obtain ⟨j, rfl, hl, hB⟩ := hk.tupI
        have hx2 := hx.un
        cases hx2 with
        | @tup p xs _ h1 h2 =>
          have hlen := h2.len
          refine iteT ?_
          refine ⟨_, rfl, ?_⟩
          refine tnil_go ?_
          refine ⟨p, _, rfl, .inr h1, ?_⟩
          refine tC_go ?_
          refine ⟨_, _, rfl, rfl, _, rfl, ?_⟩
          refine ite2 (fun c0 => ?_) (fun c0 => ?_)
          · have hp : 0 < ds.length := by
              have := of_decide_eq_true c0
              omega
            refine ⟨_, rfl, ?_⟩
            refine tcn_go ?_
            refine ⟨d, c, 5, t, rfl, f0, by omega, by decide, by decide, fun r1 H1 h10 h11 k1 f1 => ?_⟩
            refine ⟨_, _, rfl, rfl, _, rfl, ?_⟩
            refine ite2 (fun c1 => ?_) (fun c1 => ?_)
            · refine ⟨_, rfl, ?_⟩
              refine ⟨_, rfl, ?_⟩
              refine tnil_go ?_
              have hx1 := hx.keep f0 k1
              refine lenD hx1.un ?_
              refine tnil_go ?_
              refine ⟨d, c, _, t + 1, rfl, f1, by omega, by omega, by omega, fun r2 H2 h20 h21 k2 f2 => ?_⟩
              obtain ⟨i, rfl⟩ : ∃ i : Nat, r2 = (i : Int) := ⟨r2.toNat, by omega⟩
              have hi : i < ds.length := by omega
              obtain ⟨e, he⟩ : ∃ e, ds[i]? = some e := ⟨_, List.getElem?_eq_getElem hi⟩
              have hx2 := hx1.keep f1 k2
              refine ⟨_, rfl, ?_⟩
              refine noPart_go ?_
              refine ⟨_, rfl, _, rfl, ?_⟩
              have dA2 := (dA.keep f1 k1).keep f2 k2
              refine slD_to dA2 hx2 fun w1 H3 s3 p1 => ?_
              have hx3 := hx2.same s3
              refine ⟨_, rfl, ?_⟩
              refine ⟨_, rfl, ?_⟩
              refine ⟨_, rfl, ?_⟩
              refine idxD hx3 he fun we pe => ?_
              refine tnil_go ?_
              have be := hB.get he
              have bs := bulk_split he
              refine ⟨A, d, c, t + 1 + 1, we, e, b, l, e.bulk, j, rfl, f2.same s3, dA2.same s3, by omega, pe, ⟨be.it, Nat.le_refl _, be.dp⟩, hb, hb2, hl0, hl2, by omega, by omega, fun w2 x2 t3 H4 k4 f4 ht3 p2 b2 => ?_⟩
              have hx4 := hx3.keep (f2.same s3) k4
              have dA4 := (dA2.same s3).keep f4 k4
              have q1 := p1.keep (f2.same s3) k4
              refine tnil_go ?_
              refine ⟨by show 1 ≤ sizeLine; decide, fun T1 n1 => ?_⟩
              have g1 := same_new (o := HO.tup [w2]) n1
              have pt : DA K A (upd H4 T1 (.tup [w2])) (.ref T1) (.tuple [x2]) := .tupN dA4 n1 (.cons p2 .nil)
              have li : (ds.take i).length ≤ 100000 := by rw [List.length_take]; omega
              refine catD (dA4.same g1) (q1.same g1) pt (by rw [sizeLine_eq]; show _ + 1 ≤ _; omega) fun w3 H5 s5 p3 => ?_
              refine ⟨_, rfl, ?_⟩
              refine ⟨_, rfl, ?_⟩
              refine ⟨_, _, rfl, rfl, ?_⟩
              refine ⟨_, rfl, ?_⟩
              refine noPart_go ?_
              have hx5 := (hx4.same g1).same s5
              refine slD_fr (i := i + 1) ((dA4.same g1).same s5) hx5 fun w4 H6 s6 p4 => ?_
              have ld : (ds.drop (i + 1)).length ≤ 100000 := by rw [List.length_drop]; omega
              refine catD (((dA4.same g1).same s5).same s6) (p3.same s6) p4 (by rw [sizeLine_eq, List.length_append]; show _ + 1 + _ ≤ _; omega) fun w5 H7 s7 p5 => ?_
              refine q w5 _ t3 H7 (((((k1.trans k2).trans (Keep.of_same s3)).trans k4).trans (Keep.of_same (g1.trans (s5.trans (s6.trans s7)))))) (f4.same (g1.trans (s5.trans (s6.trans s7)))) (by omega) p5 ?_
              have B1 : Bks (b + 1) (l + 1) (PyData.bulkAll (ds.take i)) (k := j + 5) (ds.take i) := ⟨((hB.take i).mono (Nat.le_succ b) (Nat.le_succ l) (Nat.le_refl _) (Nat.le_add_right j 5)).it, Nat.le_refl _, ((hB.take i).mono (Nat.le_succ b) (Nat.le_succ l) (Nat.le_refl _) (Nat.le_add_right j 5)).dp⟩
              have B3 : Bks (b + 1) (l + 1) (PyData.bulkAll (ds.drop (i + 1))) (k := j + 5) (ds.drop (i + 1)) := ⟨((hB.drop (i + 1)).mono (Nat.le_succ b) (Nat.le_succ l) (Nat.le_refl _) (Nat.le_add_right j 5)).it, Nat.le_refl _, ((hB.drop (i + 1)).mono (Nat.le_succ b) (Nat.le_succ l) (Nat.le_refl _) (Nat.le_add_right j 5)).dp⟩
              have ll : (ds.take i ++ [x2] ++ ds.drop (i + 1)).length ≤ l + 1 := by
                rw [List.length_append, List.length_append, List.length_take, List.length_drop]
                show _ + 1 + _ ≤ _
                omega
              have hbk := hB.bk
              exact (((B1.app (Bks.cons b2 Bks.nil)).app B3).tup ll).mono (Nat.le_refl _) (Nat.le_refl _) (by omega) (by omega)
            · exact ⟨rfl, k1, t + 1, f1, by omega⟩
          · exact ⟨rfl, Keep.of_same (Same.refl H), t, f0, by omega⟩
      · rw [Bool.not_eq_true] at hT
        rw [hT]
        refine iteF ?_
        exact ⟨rfl, Keep.of_same (Same.refl H), t, f0, by omega⟩
    · rintro σ2 H2 ⟨rfl, k2, t2, f2, ht2⟩
      have hx2 := hx.keep f0 k2
      have dA2 := dA.keep f2 k2
      clear hx f0
      refine ⟨_, rfl, ?_⟩
      refine tcn_go ?_
      refine isx_tup hx2.un ?_
      refine ⟨_, rfl, ?_⟩
      by_cases hT : isTup x = true
      · obtain ⟨ds, rfl⟩ : ∃ ds, x = .tuple ds := by cases x <;> first | exact ⟨_, rfl⟩ | cases hT
        obtain ⟨j, rfl, hl, hB⟩ := hk.tupI
        refine iteT ?_
        refine ⟨_, rfl, ?_⟩
        refine ⟨_, rfl, ?_⟩
        refine tnil_go ?_
        refine lenD hx2.un ?_
        refine ⟨_, _, rfl, rfl, ?_⟩
        refine tnil_go ?_
        refine ⟨d, c, _, t2, rfl, f2, by omega, by omega, by omega, fun r3 H3 h30 h31 k3 f3 => ?_⟩
        obtain ⟨i, rfl⟩ : ∃ i : Nat, r3 = (i : Int) := ⟨r3.toNat, by omega⟩
        have hx3 := hx2.keep f2 k3
        refine ⟨_, rfl, ?_⟩
        refine ⟨_, rfl, ?_⟩
        refine tnil_go ?_
        refine lenD hx3.un ?_
        refine ⟨_, _, rfl, rfl, ?_⟩
        refine tnil_go ?_
        refine ⟨d, c, _, t2 + 1, rfl, f3, by omega, by omega, by omega, fun r4 H4 h40 h41 k4 f4 => ?_⟩
        obtain ⟨o, rfl⟩ : ∃ o : Nat, r4 = (o : Int) := ⟨r4.toNat, by omega⟩
        have hx4 := hx3.keep f3 k4
        refine tnil_go ?_
        refine ⟨_, _, rfl, ?_⟩
        refine ⟨_, rfl, ?_⟩
        refine tnil_go ?_
        have dA4 := (dA2.keep f3 k3).keep f4 k4
        refine ⟨A, d, c, t2 + 1 + 1, rfl, f4, dA4, by omega, fun vo xo t5 H5 k5 f5 ht5 po bo => ?_⟩
        have hx5 := hx4.keep f4 k5
        have dA5 := dA4.keep f5 k5
        clear hx2 hx3 hx4
        have K5 := ((k2.trans k3).trans k4).trans k5
        clear k2 k3 k4 k5 f2 f3 f4
        have li : (ds.take i).length ≤ 100000 := by rw [List.length_take]; omega
        have ld : (ds.drop i).length ≤ 100000 := by rw [List.length_drop]; omega
        have ld1 : (ds.drop (i + 1)).length ≤ 100000 := by rw [List.length_drop]; omega
        have lm : ((ds.take (o + 1)).drop o).length ≤ 1 := by rw [List.length_drop, List.length_take]; omega
        refine ⟨_, rfl, ?_⟩
        refine noPart_go ?_
        refine ⟨_, rfl, _, rfl, ?_⟩
        refine slD_to dA5 hx5 fun w1 H6 s6 p1 => ?_
        refine ⟨_, rfl, ?_⟩
        refine ⟨_, rfl, ?_⟩
        refine ⟨_, _, rfl, rfl, ?_⟩
        refine ⟨_, rfl, ?_⟩
        refine noPart_go ?_
        refine slD_fr (i := i + 1) (dA5.same s6) (hx5.same s6) fun w2 H7 s7 p2 => ?_
        refine catD (dA5.same (s6.trans s7)) (p1.same s7) p2 (by rw [sizeLine_eq]; omega) fun e1 H8 s8 q1 => ?_
        have S8 := s6.trans (s7.trans s8)
        refine ⟨_, rfl, ?_⟩
        refine noPart_go ?_
        refine ⟨_, rfl, _, rfl, ?_⟩
        refine slD_to (dA5.same S8) (hx5.same S8) fun w3 H9 s9 p3 => ?_
        refine ⟨_, rfl, ?_⟩
        refine ⟨_, rfl, _, rfl, ?_⟩
        refine ⟨_, rfl, ?_⟩
        refine ⟨_, _, rfl, rfl, ?_⟩
        refine ⟨_, rfl, ?_⟩
        refine slD_mid (i := o) (j := o + 1) ((dA5.same S8).same s9) ((hx5.same S8).same s9) fun w4 HA sA p4 => ?_
        refine catD (((dA5.same S8).same s9).same sA) (p3.same sA) p4 (by rw [sizeLine_eq]; omega) fun w5 HB sB p5 => ?_
        refine ⟨_, rfl, ?_⟩
        refine ⟨_, rfl, _, rfl, ?_⟩
        refine noPart_go ?_
        have SB := S8.trans (s9.trans (sA.trans sB))
        refine slD_fr (dA5.same SB) (hx5.same SB) fun w6 HC sC p6 => ?_
        refine catD ((dA5.same SB).same sC) (p5.same sC) p6 (by rw [sizeLine_eq, List.length_append]; omega) fun e2 HD sD q2 => ?_
        have SD := SB.trans (sC.trans sD)
        have TD := s9.trans (sA.trans (sB.trans (sC.trans sD)))
        refine ⟨_, rfl, ?_⟩
        refine tnil_go ?_
        refine listD (dA5.same SD) (hx5.same SD) fun e3 HE sE q3 => ?_
        refine ⟨_, rfl, ?_⟩
        refine tnil_go ?_
        refine ⟨by show 1 ≤ sizeLine; decide, fun T4 n4 => ?_⟩
        have g4 := same_new (o := HO.tup [v]) n4
        have q4 : DA K A (upd HE T4 (.tup [v])) (.ref T4) (.tuple [.tuple ds]) := .tupN ((dA5.same SD).same sE) n4 (.cons (hx5.same (SD.trans sE)) .nil)
        refine tnil_go ?_
        refine ⟨by show 4 ≤ sizeLine; decide, fun L1 nL1 => ?_⟩
        have gL1 := same_new (o := HO.lst [e1, e2, e3, .ref T4]) nL1
        have U := sE.trans (g4.trans gL1)
        have eL1 : upd (upd HE T4 (.tup [v])) L1 (.lst [e1, e2, e3, .ref T4]) L1 = some (.lst [e1, e2, e3, .ref T4]) := upd_same
        have aL1 : DAs K A (upd (upd HE T4 (.tup [v])) L1 (.lst [e1, e2, e3, .ref T4])) [e1, e2, e3, .ref T4] [.tuple (ds.take i ++ ds.drop (i + 1)), .tuple (ds.take i ++ (ds.take (o + 1)).drop o ++ ds.drop i), .list ds, .tuple [.tuple ds]] :=
          .cons (q1.same (TD.trans U)) (.cons (q2.same U) (.cons (q3.same (g4.trans gL1)) (.cons (q4.same gL1) .nil)))
        have SL := SD.trans U
        generalize upd (upd HE T4 (.tup [v])) L1 (.lst [e1, e2, e3, .ref T4]) = HL at *
        have hxL := hx5.same SL
        have poL := po.same SL
        have dL := dA5.same SL
        clear U gL1 q1 q2 q3 q4 g4 p1 p2 p3 p4 p5 p6 TD SD SB S8 s6 s7 s8 s9 sA sB sC sD sE hx5 po
        refine ⟨_, rfl, ?_⟩
        refine ⟨_, rfl, ?_⟩
        refine noPart_go ?_
        refine ⟨_, rfl, _, rfl, ?_⟩
        refine slD_to dL hxL fun w1 H6 s6 p1 => ?_
        refine ⟨_, rfl, ?_⟩
        refine tnil_go ?_
        refine ⟨by show 1 ≤ sizeLine; decide, fun T5 n5 => ?_⟩
        have g5 := same_new (o := HO.tup [vo]) n5
        have pT5 : DA K A (upd H6 T5 (.tup [vo])) (.ref T5) (.tuple [xo]) := .tupN (dL.same s6) n5 (.cons (poL.same s6) .nil)
        refine catD (dL.same (s6.trans g5)) (p1.same g5) pT5 (by rw [sizeLine_eq]; show _ + 1 ≤ _; omega) fun w2 H7 s7 p2 => ?_
        refine ⟨_, rfl, ?_⟩
        refine ⟨_, rfl, _, rfl, ?_⟩
        refine noPart_go ?_
        have S7 := s6.trans (g5.trans s7)
        refine slD_fr (dL.same S7) (hxL.same S7) fun w3 H8 s8 p3 => ?_
        refine catD (dL.same (S7.trans s8)) (p2.same s8) p3 (by rw [sizeLine_eq, List.length_append]; show _ + 1 + _ ≤ _; omega) fun e5 H9 s9 q5 => ?_
        have S9 := S7.trans (s8.trans s9)
        refine ⟨_, rfl, ?_⟩
        refine noPart_go ?_
        refine ⟨_, rfl, _, rfl, ?_⟩
        refine slD_to (dL.same S9) (hxL.same S9) fun w4 HA sA p4 => ?_
        refine ⟨_, rfl, ?_⟩
        refine tnil_go ?_
        refine ⟨by show 1 ≤ sizeLine; decide, fun T6 n6 => ?_⟩
        have g6 := same_new (o := HO.tup [vo]) n6
        have pT6 : DA K A (upd HA T6 (.tup [vo])) (.ref T6) (.tuple [xo]) := .tupN (dL.same (S9.trans sA)) n6 (.cons (poL.same (S9.trans sA)) .nil)
        refine catD (dL.same (S9.trans (sA.trans g6))) (p4.same g6) pT6 (by rw [sizeLine_eq]; show _ + 1 ≤ _; omega) fun w5 HB sB p5 => ?_
        refine ⟨_, rfl, ?_⟩
        refine ⟨_, rfl, ?_⟩
        refine ⟨_, _, rfl, rfl, ?_⟩
        refine ⟨_, rfl, ?_⟩
        refine noPart_go ?_
        have SB := S9.trans (sA.trans (g6.trans sB))
        refine slD_fr (i := i + 1) (dL.same SB) (hxL.same SB) fun w6 HC sC p6 => ?_
        refine catD (dL.same (SB.trans sC)) (p5.same sC) p6 (by rw [sizeLine_eq, List.length_append]; show _ + 1 + _ ≤ _; omega) fun e6 HD sD q6 => ?_
        have TD := sA.trans (g6.trans (sB.trans (sC.trans sD)))
        have SD := S9.trans TD
        refine ⟨_, rfl, ?_⟩
        obtain ⟨a7, xs7, rfl, h7, h7a⟩ := (hxL.same SD).tupE
        refine ⟨a7, xs7, rfl, h7, fun R nR => ?_⟩
        have gR := same_new (o := HO.tup xs7.reverse) nR
        have q7 : DA K A (upd HD R (.tup xs7.reverse)) (.ref R) (.tuple ds.reverse) := .tupN (dL.same SD) nR h7a.rev
        refine ⟨_, rfl, ?_⟩
        refine tnil_go ?_
        refine ⟨by show 4 ≤ sizeLine; decide, fun L2 nL2 => ?_⟩
        have gL2 := same_new (o := HO.lst [e5, e6, .ref R, vo]) nL2
        have h11 := (SD.trans (gR.trans gL2)) _ _ eL1
        have h12 := aL1.same (SD.trans (gR.trans gL2))
        have h22 : DAs K A (upd (upd HD R (.tup xs7.reverse)) L2 (.lst [e5, e6, .ref R, vo])) [e5, e6, .ref R, vo] [.tuple (ds.take i ++ [xo] ++ ds.drop i), .tuple (ds.take i ++ [xo] ++ ds.drop (i + 1)), .tuple ds.reverse, xo] :=
          .cons (q5.same (TD.trans (gR.trans gL2))) (.cons (q6.same (gR.trans gL2)) (.cons (q7.same gL2) (.cons (poL.same (SD.trans (gR.trans gL2))) .nil)))
        refine ⟨L1, L2, _, _, rfl, rfl, h11, upd_same, by rw [sizeLine_eq]; show 4 + 4 ≤ _; decide, fun L3 nL3 => ?_⟩
        have gL3 := same_new (o := HO.lst ([e1, e2, e3, .ref T4] ++ [e5, e6, .ref R, vo])) nL3
        have hA := (h12.app h22).same gL3
        have SZ := SL.trans (SD.trans (gR.trans (gL2.trans gL3)))
        have eZ : upd (upd (upd HD R (.tup xs7.reverse)) L2 (.lst [e5, e6, .ref R, vo])) L3 (.lst ([e1, e2, e3, .ref T4] ++ [e5, e6, .ref R, vo])) L3 = some (.lst ([e1, e2, e3, .ref T4] ++ [e5, e6, .ref R, vo])) := upd_same
        generalize upd (upd (upd HD R (.tup xs7.reverse)) L2 (.lst [e5, e6, .ref R, vo])) L3 (.lst ([e1, e2, e3, .ref T4] ++ [e5, e6, .ref R, vo])) = HZ at *
        refine ⟨_, rfl, ?_⟩
        refine ⟨_, rfl, ?_⟩
        refine tcn_go ?_
        have fZ := f5.same SZ
        refine ⟨d, c, 8, t5, rfl, fZ, by omega, by decide, by decide, fun r H6 h60 h61 k6 f6 => ?_⟩
        obtain ⟨n8, rfl⟩ : ∃ n8 : Nat, r = (n8 : Int) := ⟨r.toNat, by omega⟩
        have hB0 := hB.bk
        have hs1 := bulkA_app (ds.take i) (ds.drop i)
        rw [List.take_append_drop] at hs1
        have bo1 : Bk (b + 1) (l + 1) 20 (j + 5) xo := bo.mono (by omega) (by omega) (Nat.le_refl _) (by omega)
        have up : ∀ {zs : List PyData} {cc : Nat}, Bks b l cc j zs → Bks (b + 1) (l + 1) (PyData.bulkAll zs) (j + 5) zs := fun z => (z.mono (Nat.le_succ b) (Nat.le_succ l) (Nat.le_refl _) (Nat.le_add_right j 5)).own
        have mid1 := ((hB.take (o + 1)).drop o).bk
        have fr1 := (hB.drop (i + 1)).bk
        have to1 := (hB.take i).bk
        have lt : (ds.take i).length = i := by rw [List.length_take]; omega
        have hdl : (ds.drop i).length = ds.length - i := List.length_drop
        have hdl1 : (ds.drop (i + 1)).length = ds.length - (i + 1) := List.length_drop
        obtain ⟨x8, hx8, bx8⟩ : ∃ x8, ([.tuple (ds.take i ++ ds.drop (i + 1)), .tuple (ds.take i ++ (ds.take (o + 1)).drop o ++ ds.drop i), .list ds, .tuple [.tuple ds]] ++ [.tuple (ds.take i ++ [xo] ++ ds.drop i), .tuple (ds.take i ++ [xo] ++ ds.drop (i + 1)), .tuple ds.reverse, xo] : List PyData)[n8]? = some x8 ∧ Bk (b + 1) (l + 1) (2 * m + b + 60) (j + 1 + 5) x8 := by
          rcases (by omega : n8 = 0 ∨ n8 = 1 ∨ n8 = 2 ∨ n8 = 3 ∨ n8 = 4 ∨ n8 = 5 ∨ n8 = 6 ∨ n8 = 7) with rfl | rfl | rfl | rfl | rfl | rfl | rfl | rfl
          · exact ⟨_, rfl, (((up (hB.take i)).app (up (hB.drop (i + 1)))).tup (by rw [List.length_append]; omega)).mono (Nat.le_refl _) (Nat.le_refl _) (by omega) (by omega)⟩
          · exact ⟨_, rfl, ((((up (hB.take i)).app (up ((hB.take (o + 1)).drop o))).app (up (hB.drop i))).tup (by rw [List.length_append, List.length_append]; omega)).mono (Nat.le_refl _) (Nat.le_refl _) (by omega) (by omega)⟩
          · exact ⟨_, rfl, ((up hB).lst (by omega)).mono (Nat.le_refl _) (Nat.le_refl _) (by omega) (by omega)⟩
          · exact ⟨_, rfl, ((Bks.cons (hk.mono (Nat.le_succ b) (Nat.le_succ l) (Nat.le_refl _) (by omega : j + 1 ≤ j + 5)) Bks.nil).tup (by show 1 ≤ _; omega)).mono (Nat.le_refl _) (Nat.le_refl _) (by omega) (by omega)⟩
          · exact ⟨_, rfl, ((((up (hB.take i)).app (Bks.cons bo1 Bks.nil)).app (up (hB.drop i))).tup (by rw [List.length_append, List.length_append]; show _ + 1 + _ ≤ _; omega)).mono (Nat.le_refl _) (Nat.le_refl _) (by omega) (by omega)⟩
          · exact ⟨_, rfl, ((((up (hB.take i)).app (Bks.cons bo1 Bks.nil)).app (up (hB.drop (i + 1)))).tup (by rw [List.length_append, List.length_append]; show _ + 1 + _ ≤ _; omega)).mono (Nat.le_refl _) (Nat.le_refl _) (by omega) (by omega)⟩
          · exact ⟨_, rfl, (hB.rev.tup (by rw [List.length_reverse]; exact hl)).mono (Nat.le_succ b) (Nat.le_succ l) (by omega) (by omega)⟩
          · exact ⟨_, rfl, bo1.mono (Nat.le_refl _) (Nat.le_refl _) (by omega) (by omega)⟩
        obtain ⟨v8, hv8, hd8⟩ := hA.get hx8
        refine ⟨L3, _, _, v8, rfl, rfl, sqL_keep fZ k6 (SqL.of eZ), atI_nat hv8, ?_⟩
        exact q v8 x8 _ _ ((K5.trans (Keep.of_same SZ)).trans k6) f6 (by omega) (hd8.keep fZ k6) bx8
      · rw [Bool.not_eq_true] at hT
        rw [hT]
        refine iteF ?_
        refine ⟨_, rfl, ?_⟩
        refine tcn_go ?_
        refine isx_int hx2.un ?_
        refine ⟨_, rfl, ?_⟩
        by_cases hI : wholeD x = true
        · obtain ⟨i, rfl⟩ : ∃ i, x = .int i := by cases x <;> first | exact ⟨_, rfl⟩ | cases hI
          refine iteT ?_
          refine ⟨_, rfl, ?_⟩
          refine tcn_go ?_
          refine isx_bool hx2.un ?_
          refine ⟨_, rfl, ?_⟩
          refine iteT ?_
          have hxu := hx2.un
          cases hxu
          cases hk.it with
          | int hs =>
            have hp2 : (2 : Nat) ^ (b + 1) = 2 * 2 ^ b := by rw [Nat.pow_succ, Nat.mul_comm]
            have hp7 : 2 ^ 134 ≤ 2 ^ b := Nat.pow_le_pow_right (by decide) hb
            have h7 : (7 : Nat) ≤ 2 ^ 134 := by decide
            have hs0 : i.natAbs < 2 ^ b := hs
            have sm : ∀ {z : Int}, z.natAbs ≤ 2 * i.natAbs + 1 ∨ z.natAbs ≤ i.natAbs + 7 → Bk (b + 1) (l + 1) 0 (k + 5) (.int z) := fun {z} hz => Bk.int (show z.natAbs < 2 ^ (b + 1) by rw [hp2]; rcases hz with hz | hz <;> omega)
            refine ⟨_, rfl, ?_⟩
            refine ⟨_, _, rfl, rfl, ?_⟩
            refine ⟨_, rfl, ?_⟩
            refine ⟨_, _, rfl, rfl, ?_⟩
            refine ⟨_, rfl, ?_⟩
            refine ⟨_, _, rfl, rfl, ?_⟩
            refine ⟨_, rfl, ?_⟩
            refine ⟨_, _, rfl, rfl, (show Sm 2 2 by unfold Sm; decide).cmul hs (by decide) (by omega) (by omega), ?_⟩
            refine ⟨_, rfl, ?_⟩
            refine ⟨rfl, ?_⟩
            refine ⟨_, rfl, ?_⟩
            refine tnil_go ?_
            refine ⟨i, rfl, Nat.lt_trans (hs.log (by omega)) (by omega), ?_⟩
            refine ⟨_, rfl, ?_⟩
            refine tnil_go ?_
            refine ⟨by show 1 ≤ sizeLine; decide, fun T1 n1 => ?_⟩
            have g1 := same_new (o := HO.tup [.int i]) n1
            have pT : DA K A (upd H2 T1 (.tup [.int i])) (.ref T1) (.tuple [.int i]) := .tupN dA2 n1 (.cons .int .nil)
            refine ⟨_, rfl, ?_⟩
            refine ⟨_, _, rfl, rfl, ?_⟩
            refine tnil_go ?_
            refine ⟨by show 10 ≤ sizeLine; decide, fun L1 nL1 => ?_⟩
            have eL := upd_same (H := upd H2 T1 (.tup [.int i])) (a := L1) (o := HO.lst [.int (i + 1), .int (i - 1), .int (0 - i), .int 0, .int (2 * i), .bl (decide (V.int i = V.int 1)), .str (toString i), .non, .ref T1, .int (i + 7)])
            have gL := same_new (o := HO.lst [.int (i + 1), .int (i - 1), .int (0 - i), .int 0, .int (2 * i), .bl (decide (V.int i = V.int 1)), .str (toString i), .non, .ref T1, .int (i + 7)]) nL1
            generalize upd (upd H2 T1 (.tup [.int i])) L1 (.lst [.int (i + 1), .int (i - 1), .int (0 - i), .int 0, .int (2 * i), .bl (decide (V.int i = V.int 1)), .str (toString i), .non, .ref T1, .int (i + 7)]) = HL at *
            have hA : DAs K A HL [.int (i + 1), .int (i - 1), .int (0 - i), .int 0, .int (2 * i), .bl (decide (V.int i = V.int 1)), .str (toString i), .non, .ref T1, .int (i + 7)] [.int (i + 1), .int (i - 1), .int (0 - i), .int 0, .int (2 * i), .bool (decide (V.int i = V.int 1)), .str (Str.ofString (toString i)), .none, .tuple [.int i], .int (i + 7)] :=
              .cons .int (.cons .int (.cons .int (.cons .int (.cons .int (.cons .bl (.cons .str (.cons .non (.cons (pT.same gL) (.cons .int .nil)))))))))
            refine ⟨_, rfl, ?_⟩
            refine ⟨_, rfl, ?_⟩
            refine tcn_go ?_
            have fL := f2.same (g1.trans gL)
            refine ⟨d, c, 10, t2, rfl, fL, by omega, by decide, by decide, fun r H6 h60 h61 k6 f6 => ?_⟩
            obtain ⟨n8, rfl⟩ : ∃ n8 : Nat, r = (n8 : Int) := ⟨r.toNat, by omega⟩
            obtain ⟨x8, hx8, bx8⟩ : ∃ x8, ([.int (i + 1), .int (i - 1), .int (0 - i), .int 0, .int (2 * i), .bool (decide (V.int i = V.int 1)), .str (Str.ofString (toString i)), .none, .tuple [.int i], .int (i + 7)] : List PyData)[n8]? = some x8 ∧ Bk (b + 1) (l + 1) (b + 1) (k + 5) x8 := by
              rcases (by omega : n8 = 0 ∨ n8 = 1 ∨ n8 = 2 ∨ n8 = 3 ∨ n8 = 4 ∨ n8 = 5 ∨ n8 = 6 ∨ n8 = 7 ∨ n8 = 8 ∨ n8 = 9) with rfl | rfl | rfl | rfl | rfl | rfl | rfl | rfl | rfl | rfl
              · exact ⟨_, rfl, (sm (by omega)).mono (Nat.le_refl _) (Nat.le_refl _) (by omega) (Nat.le_refl _)⟩
              · exact ⟨_, rfl, (sm (by omega)).mono (Nat.le_refl _) (Nat.le_refl _) (by omega) (Nat.le_refl _)⟩
              · exact ⟨_, rfl, (sm (by omega)).mono (Nat.le_refl _) (Nat.le_refl _) (by omega) (Nat.le_refl _)⟩
              · exact ⟨_, rfl, (sm (by omega)).mono (Nat.le_refl _) (Nat.le_refl _) (by omega) (Nat.le_refl _)⟩
              · exact ⟨_, rfl, (sm (by omega)).mono (Nat.le_refl _) (Nat.le_refl _) (by omega) (Nat.le_refl _)⟩
              · exact ⟨_, rfl, Bk.bool.mono (Nat.le_refl _) (Nat.le_refl _) (by omega) (Nat.le_refl _)⟩
              · exact ⟨_, rfl, (Bk.text hs (by omega)).mono (Nat.le_succ b) (Nat.le_refl _) (Nat.le_refl _) (Nat.le_refl _)⟩
              · exact ⟨_, rfl, Bk.none.mono (Nat.le_refl _) (Nat.le_refl _) (by omega) (Nat.le_refl _)⟩
              · exact ⟨_, rfl, ((Bks.cons (Bk.int (k := k + 4) (hs.mono (Nat.le_succ b))) Bks.nil).tup (by show 1 ≤ _; omega)).mono (Nat.le_refl _) (Nat.le_refl _) (by omega) (Nat.le_refl _)⟩
              · exact ⟨_, rfl, (sm (by omega)).mono (Nat.le_refl _) (Nat.le_refl _) (by omega) (Nat.le_refl _)⟩
            obtain ⟨v8, hv8, hd8⟩ := hA.get hx8
            refine ⟨L1, _, _, v8, rfl, rfl, sqL_keep fL k6 (SqL.of eL), atI_nat hv8, ?_⟩
            exact q v8 x8 _ _ ((k2.trans (Keep.of_same (g1.trans gL))).trans k6) f6 (by omega) (hd8.keep fL k6) (bx8.mono (Nat.le_refl _) (Nat.le_refl _) (by omega) (Nat.le_refl _))
        · have fin : tRet (tCall (spOdd K) [] E0 (tCons (tVar 0) tNil)) ({ nx := fun _ H' => Q .non H', rt := Q } : Ends) (start N_bent [.ref d, v]) H2 := by
            refine ⟨_, rfl, ?_⟩
            refine tnil_go ?_
            refine ⟨A, d, c, t2, rfl, f2, dA2, by omega, fun vo xo t5 H5 k5 f5 ht5 po bo => ?_⟩
            exact q vo xo t5 H5 (k2.trans k5) f5 (by omega) po (bo.mono (by omega) (by omega) (by omega) (by omega))
          cases x with
          | bool y =>
            refine iteT ?_
            refine ⟨_, rfl, ?_⟩
            refine tcn_go ?_
            refine isx_bool hx2.un ?_
            refine ⟨_, rfl, ?_⟩
            refine iteF ?_
            exact fin
          | int y => exact absurd rfl hI
          | tuple y => cases hT
          | none => refine iteF ?_; exact fin
          | str y => refine iteF ?_; exact fin
          | list y => refine iteF ?_; exact fin
          | dict y => refine iteF ?_; exact fin
end

end Fp

set_option Elab.async false
set_option linter.all false
set_option maxRecDepth 100000
set_option maxHeartbeats 4000000
set_option exponentiation.threshold 10000
namespace Fp
open PySem PySem.Spec PyProof.Rows L2
/-! ### what a life is: of anything -/
abbrev s_il : Stmt := topS 19
abbrev N_il : List Str := ["thing", "row", "step", "tops", "bottom", "chance"]
theorem sc_il : FnScope N_il ["thing"] (defScope s_il) := ⟨rfl, rfl, rfl, by decide +kernel, rfl, by decide +kernel, by decide +kernel⟩
theorem behind_valG {row : List RT} {step : RT} {n m : Nat} (hr : ∀ x ∈ row, SmR n x) (hs : StepOk m step) (hm : 1 ≤ m) : SmR (n + 2 * m + 1) (behindR row step) ∧ qv (behindR row step) = behQ row step := by
  rcases snoc_cases row with rfl | ⟨ys, y, rfl⟩
  · exact ⟨SmR.mono (n := 1) (x := (0, 1)) ⟨⟨by decide, by decide⟩, by unfold Sm; decide, by unfold Sm; decide⟩ (by omega), qv_nought⟩
  · have hy := hr y (by simp)
    rw [behindR_snoc]
    have e : behQ (ys ++ [y]) step = qv y * qv step / (1 - qv step) := by
      have e : (ys ++ [y]).getLast? = some y := by simp
      unfold behQ
      rw [e]
    rw [e]
    obtain ⟨h1, h2, h3⟩ := hs
    obtain ⟨a1, a2⟩ := qv_rT hy.1 h1.1
    obtain ⟨b1, b2⟩ := qv_rM one_red h1.1
    have g := gap_pos h1.1 h3
    obtain ⟨c1, c2⟩ := qv_rO a1 b1 g
    have sT := rT_sm hy h1
    have hden : (0 : Int) < 1 * step.2 := by have := h1.1.1; omega
    have m1 : Sm (m + 1) (1 * step.2 - step.1 * 1) := by
      rw [Int.one_mul, Int.mul_one]
      exact h1.2.2.sub h1.2.1
    have m2 : Sm (m + 1) (1 * step.2) := by
      rw [Int.one_mul]
      exact h1.2.2.mono (by omega)
    have sM : SmR (m + 1) (rM (1, 1) step) := low2_sm hden m1 m2
    refine ⟨⟨c1, ?_, ?_⟩, ?_⟩
    · exact (ratT_sm (Int.mul_pos sT.1.1 g) ((sT.2.1.mul sM.2.2).mono (show n + m + (m + 1) ≤ n + 2 * m + 1 by omega)))
    · exact (ratB_sm (Int.mul_pos sT.1.1 g) ((sT.2.2.mul sM.2.1).mono (show n + m + (m + 1) ≤ n + 2 * m + 1 by omega)))
    · rw [c2, a2, b2, qv_one]
def rtD : PyData → RT
  | .tuple [.int a, .int b] => (a, b)
  | _ => (0, 1)
def totQ (row : List RT) (step : RT) : Rat := (row.map qv).sum + behQ row step
/-- is it a life -/
def lifeB : PyData → Bool
  | .tuple [.tuple rs, s] => rs.all chanceD && (chanceD s && (decide ((rtD s).1 < (rtD s).2) && (if rs.isEmpty then decide (rtD s = (0, 1)) else decide (totQ (rs.map rtD) (rtD s) ≤ 1))))
  | _ => false
theorem lifeB_len : ∀ {ds : List PyData}, ds.length ≠ 2 → lifeB (.tuple ds) = false
  | [], _ => rfl
  | [x], _ => by cases x <;> rfl
  | [_, _], h => absurd rfl h
  | x :: _ :: _ :: _, _ => by cases x <;> rfl
theorem lifeB_tup {d : PyData} (h : isTup d = false) : lifeB d = false := by cases d <;> first | rfl | cases h
theorem lifeB_row {r s : PyData} (h : isTup r = false) : lifeB (.tuple [r, s]) = false := by cases r <;> first | rfl | cases h
def ChR (x : RT) : Prop := Red x ∧ 0 ≤ x.1 ∧ x.1 ≤ x.2
theorem rows_inv : ∀ {rs : List PyData}, rs.all chanceD = true → ∃ xs : List RT, rs = rowD xs ∧ ∀ x ∈ xs, ChR x
  | [], _ => ⟨[], rfl, fun _ h => by cases h⟩
  | r :: rs, h => by
    rw [List.all_cons, Bool.and_eq_true] at h
    obtain ⟨x, rfl, hx⟩ := chanceD_inv h.1
    obtain ⟨xs, rfl, hxs⟩ := rows_inv h.2
    exact ⟨x :: xs, rfl, fun y hy => (List.mem_cons.mp hy).elim (fun e => by rw [e]; exact hx) (hxs y)⟩
theorem rows_rt (xs : List RT) : (rowD xs).map rtD = xs := by
  induction xs with
  | nil => rfl
  | cons x r ih =>
    show x :: (rowD r).map rtD = _
    rw [ih]
theorem rowD_len (xs : List RT) : (rowD xs).length = xs.length := by
  induction xs with
  | nil => rfl
  | cons x r ih => show (rowD r).length + 1 = r.length + 1; rw [ih]
theorem two_ds : ∀ {ds : List PyData}, ds.length = 2 → ∃ r s, ds = [r, s]
  | [r, s], _ => ⟨r, s, rfl⟩
  | [], h => by cases h
  | [_], h => by cases h
  | _ :: _ :: _ :: _, h => by simp at h
theorem qv_le_one {x : RT} (h : 0 < x.2) : qv x ≤ 1 ↔ x.1 ≤ x.2 := by
  have hb := cast_ne (Int.ne_of_gt h)
  have hb2 : (0 : Rat) < (x.2 : Rat) := by exact_mod_cast h
  unfold qv
  constructor
  · intro z
    have : (x.1 : Rat) ≤ (x.2 : Rat) := by
      have e : (x.1 : Rat) = (x.1 : Rat) / (x.2 : Rat) * (x.2 : Rat) := by grind
      rw [e]
      have := Rat.mul_le_mul_of_nonneg_right z (Rat.le_of_lt hb2)
      grind
    exact_mod_cast this
  · intro z
    have z2 : (x.1 : Rat) ≤ (x.2 : Rat) := by exact_mod_cast z
    rcases Classical.em ((x.1 : Rat) / (x.2 : Rat) ≤ 1) with y | y
    · exact y
    · exfalso
      have y2 := Rat.not_le.mp y
      have y3 := Rat.mul_lt_mul_of_pos_right y2 hb2
      have e : (x.1 : Rat) / (x.2 : Rat) * (x.2 : Rat) = (x.1 : Rat) := by grind
      rw [e, Rat.one_mul] at y3
      exact absurd z2 (Rat.not_le.mpr y3)
/-- what the row and what is behind it come to, over one bottom -/
theorem over_tot {xs : List RT} {st : RT} {b l : Nat} (hx : ∀ x ∈ xs, SmR b x) (hs : StepOk b st) (hl : xs.length ≤ l) (hsz : b * (l + 3) ≤ 3400) (hb : 1 ≤ b) (hl2 : l ≤ 900) :
    Over1 4000 4000 (prodB xs * (behindR xs st).2) (xs ++ [behindR xs st]) ∧ SmR 4000 (behindR xs st) ∧ ((xs ++ [behindR xs st]).map qv).sum = totQ xs st := by
  obtain ⟨b1, b2⟩ := behind_valG hx hs hb
  have e1 : b * (l + 3) = b * l + 3 * b := by rw [Nat.mul_add, Nat.mul_comm b 3]
  have e2 : b * xs.length ≤ b * l := Nat.mul_le_mul_left _ hl
  have pp := prodB_pos fun x h => (hx x h).1.1
  have sp := prodB_sm fun x h => (hx x h).2.2
  refine ⟨⟨Int.mul_pos pp b1.1.1, (sp.mul b1.2.2).mono (by omega), fun x h => ?_, by rw [List.length_append]; show xs.length + 1 ≤ 1000; omega⟩, b1.mono (by omega), ?_⟩
  · rcases List.mem_append.mp h with z | z
    · exact ⟨(hx x z).1.1, Int.dvd_trans (prodB_dvd z) (Int.dvd_mul_right ..), (hx x z).2.1.mono (by omega)⟩
    · rw [List.mem_singleton.mp z]
      exact ⟨b1.1.1, Int.dvd_mul_left .., b1.2.1.mono (by omega)⟩
  · rw [List.map_append, List.sum_append]
    show _ + (qv (behindR xs st) + 0) = _
    rw [b2]
    unfold totQ
    grind
section
variable {P : Program} {w : World} {K : PySem.W.Frag} {mg : Str → Option Value} {base : Heap} {aN aO : Addr}
theorem rows_at : ∀ {xs : List RT} {us : List V} {H : Hp}, DpXAll K H us (rowD xs) → ∃ ps : List Addr, us = ps.map V.ref ∧ RsAt K H ps xs
  | [], us, _, h => by
    cases h
    exact ⟨[], rfl, .nil⟩
  | x :: xs, us, _, h => by
    cases h with
    | cons a b =>
      obtain ⟨p, rfl, hp⟩ := DpX.rat a
      obtain ⟨ps, rfl, hps⟩ := rows_at b
      exact ⟨p :: ps, rfl, .cons hp hps⟩
theorem DpX.row {H : Hp} {v : V} {xs : List RT} (h : DpX K H v (.tuple (rowD xs))) : ∃ p, v = .ref p ∧ RowAt K H p xs := by
  cases h with
  | @tup p us _ h1 h2 =>
    obtain ⟨ps, rfl, hps⟩ := rows_at h2
    exact ⟨p, rfl, ps, h1, hps⟩
def spIl (K : PySem.W.Frag) (tIL : Addr) : Sp := fun vs H Q _ => ∃ (v : V) (d : PyData) (b l c k : Nat), vs = [v] ∧ DpX K H v d ∧ Bk b l c k d ∧ b * (l + 3) ≤ 3400 ∧ 1 ≤ b ∧ b ≤ 690 ∧ l ≤ 900 ∧ H tIL = some (tabx tIL) ∧ ∀ H', Same H H' → Q (.bl (lifeB d)) H'
theorem ok_il {f fIC fIB fOB fBR : Addr} {fd fdIC fdIB fdOB fdBR : FuncData} {cIL tIL : Addr} (F : FunC K "is_life" "is_life" s_il f fd (.ref cIL)) (TB : GxR.TabB base mg cIL tIL) (C : Consts K mg aN aO)
    (FIC : Fun K "is_chance" "is_chance" s_ic fIC fdIC) (bIC : Binds K fdIC ["thing"] []) (gIC : mg "is_chance" = some (.ref fIC)) (GIC : FnOk P w K mg base CX0 3 fIC fdIC ["thing"] (spIcX K))
    (FIB : Fun K "is_below" "is_below" s_ib fIB fdIB) (bIB : Binds K fdIB ["one", "other"] []) (gIB : mg "is_below" = some (.ref fIB)) (GIB : FnOk P w K mg base CX0 1 fIB fdIB ["one", "other"] (spIb K))
    (FOB : Fun K "on_one_bottom" "on_one_bottom" s_oob fOB fdOB) (bOB : Binds K fdOB ["told"] []) (gOB : mg "on_one_bottom" = some (.ref fOB)) (GOB : FnOk P w K mg base CX0 2 fOB fdOB ["told"] (spOob K))
    (FBR : Fun K "behind_row" "behind_row" s_behind fBR fdBR) (bBR : Binds K fdBR ["life"] []) (gBR : mg "behind_row" = some (.ref fBR)) (GBR : FnOk P w K mg base CX0 4 fBR fdBR ["life"] (spBehind K))
    (n_all : mg "all" = none) (n_isinstance : mg "isinstance" = none) (n_len : mg "len" = none) (n_sum : mg "sum" = none) (n_tuple : mg "tuple" = none) : FnOk P w K mg base CX0 6 f fd ["thing"] (spIl K tIL) := by
  refine F.ok sc_il (fun vs H Q E h => ?_) (fun A outer s H vs Q E hr h => ?_)
  · obtain ⟨_, _, _, _, _, _, rfl, _⟩ := h
    rfl
  · obtain ⟨v, d, b, l, c, k, rfl, hd, hb, hsz, hb0, hb2, hl2, hT, q⟩ := h
    refine ⟨_, (pss_cons (ps_if (PW.pt (pw_or (pt_not (pt_val (pe_callB call_isi (by rfl) n_isinstance (by decide +kernel) (pa_cons (pv 0) (pa_cons (pe_bltn (v := .ty "tuple") (by rfl) n_tuple (by decide +kernel) rfl) pa_nil))))) (pw_or1 (pt_cmpR op_ne (pe_callB call_lenN (by rfl) n_len PySem.boot_len (pa_cons (pv 0) pa_nil)) pe_int (nomark _))))) (pss_one (ps_ret pe_bl)) pss_nil)
      (pss_cons (ps_asg (pv 0) (pg_tup rfl (pgs_cons (pg_name (i := 1) sc_il.nd rfl (.inl rfl)) (pgs_cons (pg_name (i := 2) sc_il.nd rfl (.inl rfl)) pgs_nil))))
      (pss_cons (ps_if (PW.pt (pw_or (pt_not (pt_val (pe_callB call_isi (by rfl) n_isinstance (by decide +kernel) (pa_cons (pv 1) (pa_cons (pe_bltn (v := .ty "tuple") (by rfl) n_tuple (by decide +kernel) rfl) pa_nil))))) (pw_or1 (pt_not (pt_val (pe_allG (k := 4) (P := tIL) (own := [("chance", 5)]) (g := (gName 5)) (te := (tCall (spIcX K) [] E0 (tCons (tVar 5) tNil))) (by rfl) n_all rfl sc_il.nd hr TB rfl (gxS_by (by decide +kernel)) (pi_tup (pv 1)) (blkOk_by (own := [("chance", 5)]) (N := N_il) (sc := (defScope s_il)) (by decide +kernel)) (fun _ _ _ _ _ _ _ => (pg_name (i := 5) sc_il.nd rfl (.inl rfl))) (fun _ _ _ _ _ _ _ hr => (pe_call GIC (hr.mono (by decide)) (by rfl) gIC FIC.kp bIC .nil pass0 (pa_cons (pv 5) pa_nil))))))))) (pss_one (ps_ret pe_bl)) pss_nil)
      (pss_cons (ps_if (PW.pt (pw_or (pt_not (pt_val (pe_call GIC (hr.mono (by decide)) (by rfl) gIC FIC.kp bIC .nil pass0 (pa_cons (pv 2) pa_nil)))) (pw_or1 (pt_not (pt_val (pe_call GIB (hr.mono (by decide)) (by rfl) gIB FIB.kp bIB .nil pass0 (pa_cons (pv 2) (pa_cons (pe_glob (v := .ref aO) rfl C.gO rfl) pa_nil)))))))) (pss_one (ps_ret pe_bl)) pss_nil)
      (pss_cons (ps_if (pt_cmpR (op_eqD hr.units) (pv 1) (pe_tup pa_nil) (nomark _)) (pss_one (ps_ret (pe_cmpR (op_eqD hr.units) (pv 2) (pe_glob (v := .ref aN) rfl C.gN rfl) (nomark _)))) pss_nil)
      (pss_cons (ps_asg (pe_call GOB (hr.mono (by decide)) (by rfl) gOB FOB.kp bOB .nil pass0 (pa_cons (pe_lst (StX.pa_star (pv 1) (pa_cons (pe_call GBR (hr.mono (by decide)) (by rfl) gBR FBR.kp bBR .nil pass0 (pa_cons (pv 0) pa_nil)) pa_nil))) pa_nil)) (pg_tup rfl (pgs_cons (pg_name (i := 3) sc_il.nd rfl (.inl rfl)) (pgs_cons (pg_name (i := 4) sc_il.nd rfl (.inl rfl)) pgs_nil))))
      (pss_one (ps_ret (pe_cmpR op_le (pe_callB (cr_sum rfl) (by rfl) n_sum (by decide +kernel) (pa_cons (pv 3) pa_nil)) (pv 4) (nomark _)))))))))), ?_⟩
    refine ⟨_, rfl, ?_⟩
    refine tcn_go ?_
    refine isx_tup hd ?_
    refine ⟨_, rfl, ?_⟩
    by_cases ht : isTup d = true
    · obtain ⟨ds, rfl⟩ : ∃ ds, d = .tuple ds := by cases d <;> first | exact ⟨_, rfl⟩ | cases ht
      refine iteF ?_
      refine ⟨_, rfl, ?_⟩
      refine tnil_go ?_
      refine lenD hd ?_
      refine tC_go ?_
      refine ⟨rfl, _, rfl, ?_⟩
      refine ite2 (fun c => ?_) (fun c => ?_)
      · have hn : ds.length ≠ 2 := fun z => by
          rw [z] at c
          exact absurd c (by decide)
        have q0 := q H (Same.refl H)
        rw [lifeB_len hn] at q0
        exact q0
      · have hn : ds.length = 2 := by
          rcases Classical.em (ds.length = 2) with z | z
          · exact z
          · exact absurd (show (!decide (V.int (ds.length : Int) = V.int 2)) = true by
              rw [decide_eq_false (fun y => z (by have := V.int.inj y; omega))]
              rfl) c
        obtain ⟨r, s0, rfl⟩ := two_ds hn
        clear hn c ht
        obtain ⟨a, xs, rfl, h1, h2⟩ := (DA.no.mpr hd).tupE
        cases h2 with
        | @cons u1 us _ _ g1 h2 =>
        cases h2 with
        | @cons u2 us _ _ g2 h2 =>
        cases h2
        have g1 := (DA.no (K := K)).mp g1
        have g2 := (DA.no (K := K)).mp g2
        refine ⟨_, rfl, a, _, rfl, h1, rfl, _, _, rfl, _, _, rfl, rfl, ?_⟩
        refine ⟨_, rfl, ?_⟩
        refine tcn_go ?_
        refine isx_tup g1 ?_
        refine ⟨_, rfl, ?_⟩
        by_cases hr : isTup r = true
        · obtain ⟨rs, rfl⟩ : ∃ rs, r = .tuple rs := by cases r <;> first | exact ⟨_, rfl⟩ | cases hr
          clear hr
          refine iteF ?_
          obtain ⟨ar, ur, rfl, k1, k2⟩ := (DA.no.mpr g1).tupE
          have k2 := (show DpXAll K H ur rs from (by unfold DAs at k2; rw [hid_no] at k2; exact k2))
          have hlr := k2.len
          refine ⟨_, rfl, ar, rfl, ⟨_, k1⟩, hT, ?_⟩
          have qF : lifeB (.tuple [.tuple rs, s0]) = false → Q (.bl false) H := fun e => by
            have q0 := q H (Same.refl H)
            rw [e] at q0
            exact q0
          refine gx_walk (walk_tup (K := K) (a := ar) (xs := ur)) (fun i HE => HE = H ∧ ∀ j, j < i → ∃ e, rs[j]? = some e ∧ chanceD e = true) ⟨rfl, fun j hj => absurd hj (Nat.not_lt_zero _)⟩ (fun i HE _ e => by rw [e.1]; exact k1) (fun i x H2 H3 S hi e hY hS hN => ?_) (fun H2 e => ?_)
          · obtain ⟨rfl, hall⟩ := e
            obtain ⟨rfl, hx⟩ := hY
            obtain ⟨e0, he0⟩ : ∃ e0, rs[i]? = some e0 := ⟨_, List.getElem?_eq_getElem (by omega)⟩
            obtain ⟨v', hv', hde⟩ := k2.get he0
            rw [hx] at hv'
            cases hv'
            refine ⟨rfl, _, rfl, x, e0, rfl, hde, ?_⟩
            by_cases hce : chanceD e0 = true
            · rw [hce]
              refine hS _ ⟨rfl, fun j hj => ?_⟩
              rcases Nat.lt_succ_iff_lt_or_eq.mp hj with z | z
              · exact hall j z
              · rw [z]
                exact ⟨e0, he0, hce⟩
            · rw [Bool.not_eq_true] at hce
              rw [hce]
              refine hN _ ⟨_, rfl, ?_⟩
              refine iteT ?_
              refine qF ?_
              have e9 : rs.all chanceD = false := by
                rw [List.all_eq_false]
                exact ⟨e0, List.mem_of_getElem? he0, by rw [hce]; decide⟩
              show (rs.all chanceD && _) = false
              rw [e9, Bool.false_and]
          · obtain ⟨rfl, hall⟩ := e
            refine ⟨_, rfl, ?_⟩
            refine iteF ?_
            have hac : rs.all chanceD = true := by
              rw [List.all_eq_true]
              intro y hy
              obtain ⟨j, hj⟩ := List.mem_iff_getElem?.mp hy
              have hj2 := (List.getElem?_eq_some_iff.mp hj).1
              obtain ⟨e, he, hce⟩ := hall j (by omega)
              rw [hj] at he
              cases he
              exact hce
            have eB : lifeB (.tuple [.tuple rs, s0]) = (chanceD s0 && (decide ((rtD s0).1 < (rtD s0).2) && (if rs.isEmpty then decide (rtD s0 = (0, 1)) else decide (totQ (rs.map rtD) (rtD s0) ≤ 1)))) := by
              show (rs.all chanceD && _) = _
              rw [hac, Bool.true_and]
            rw [eB] at q qF
            clear eB hall
            refine ⟨_, rfl, u2, s0, rfl, g2, _, rfl, ?_⟩
            by_cases hcs : chanceD s0 = true
            · rw [hcs, Bool.true_and] at q qF
              rw [hcs]
              refine iteF ?_
              obtain ⟨st, rfl, rst, st0, st1⟩ := chanceD_inv hcs
              obtain ⟨ps, rfl, hps⟩ := DpX.rat g2
              obtain ⟨xs, rfl, hxs⟩ := rows_inv hac
              obtain ⟨p', ep, hrow⟩ := DpX.row g1
              cases ep
              rw [rows_rt, show rtD (ratD st) = st from rfl] at q qF
              obtain ⟨j, rfl, _, hBs⟩ := hb.tupI
              have hb1 := hBs.get (i := 0) rfl
              have hb2s := hBs.get (i := 1) rfl
              obtain ⟨j1, rfl, hlx, hBr⟩ := hb1.tupI
              rw [rowD_len] at hlx
              have smx : ∀ x ∈ xs, SmR b x := fun x hx => by
                have hm : ratD x ∈ rowD xs := List.mem_map_of_mem hx
                cases hBr.it _ hm with
                | tup _ z =>
                  have y1 := z (.int x.1) (by simp)
                  have y2 := z (.int x.2) (by simp)
                  cases y1 with
                  | int y1 =>
                    cases y2 with
                    | int y2 => exact ⟨(hxs x hx).1, y1, y2⟩
              have smst : SmR b st := by
                cases hb2s.it with
                | tup _ z =>
                  have y1 := z (.int st.1) (by simp)
                  have y2 := z (.int st.2) (by simp)
                  cases y1 with
                  | int y1 =>
                    cases y2 with
                    | int y2 => exact ⟨rst, y1, y2⟩
              refine ⟨_, rfl, ps, aO, st, (1, 1), rfl, hps, C.tO _, smst.2.1.mono (by omega), smst.2.2.mono (by omega), by unfold Sm; decide, by unfold Sm; decide, _, rfl, ?_⟩
              have e11 : decide (st.1 * (1, (1 : Int)).2 < (1, 1).1 * st.2) = decide (st.1 < st.2) := by
                show decide (st.1 * 1 < 1 * st.2) = _
                rw [Int.mul_one, Int.one_mul]
              rw [e11]
              by_cases hbl : st.1 < st.2
              · rw [decide_eq_true hbl, Bool.true_and] at q qF
                rw [decide_eq_true hbl]
                refine iteF ?_
                refine ⟨_, rfl, by show 0 ≤ sizeLine; decide, fun e ne => ?_⟩
                have ge := same_new (o := HO.tup []) ne
                have hrow1 := hrow.tk (Tk.same ge)
                refine ⟨_, _, hrow1.dp, .tup (SqT.of upd_same) .nil, rowD_shaped xs, rfl, _, rfl, ?_⟩
                rw [rowD_nil]
                by_cases hxe : xs = []
                · subst hxe
                  refine iteT ?_
                  refine ⟨_, rfl, ?_⟩
                  refine eq_rat (hps.tk (Tk.same ge)) (C.tN _) ?_
                  exact q _ ge
                · have ene : xs.isEmpty = false := by
                    cases xs with
                    | nil => exact absurd rfl hxe
                    | cons _ _ => rfl
                  have ene2 : (rowD xs).isEmpty = false := by
                    cases xs with
                    | nil => exact absurd rfl hxe
                    | cons _ _ => rfl
                  rw [ene2] at q
                  rw [ene]
                  refine iteF ?_
                  obtain ⟨rs0, r1, r2⟩ := id hrow1
                  refine ⟨_, rfl, ar, _, rfl, .inl r1, ?_⟩
                  refine ⟨_, rfl, ?_⟩
                  refine tnil_go ?_
                  have stk : StepOk b st := ⟨smst, st0, hbl⟩
                  obtain ⟨ov, smb, etot⟩ := over_tot smx stk hlx hsz hb0 hl2
                  refine ⟨a, xs, st, rfl, ⟨ar, ps, sqT_same ge h1, hrow1, hps.tk (Tk.same ge)⟩, fun x hx => (smx x hx).mono (by omega), ⟨smst.mono (by omega), st0, hbl⟩, fun zb H5 s5 hzb => ?_⟩
                  refine tnil_go ?_
                  have hll : (rs0.map V.ref).length = xs.length := by rw [List.length_map, r2.length]
                  refine ⟨by rw [List.length_append, hll, sizeLine_eq]; show xs.length + 1 ≤ _; omega, fun L nL => ?_⟩
                  have gL := same_new (o := HO.lst (rs0.map V.ref ++ [V.ref zb])) nL
                  refine tnil_go ?_
                  have hLs : LstAt K (upd H5 L (.lst (rs0.map V.ref ++ [V.ref zb]))) L (xs ++ [behindR xs st]) := by
                    refine ⟨rs0 ++ [zb], ?_, (r2.tk (Tk.same (s5.trans gL))).append (.cons (hzb.tk (Tk.same gL)) .nil)⟩
                    rw [List.map_append]
                    exact SqL.of upd_same
                  refine ⟨L, _, _, _, _, rfl, hLs, ov, by decide, by decide, fun z zl cc H6 s6 hz hzl hc0 hcD hdv => ?_⟩
                  refine ⟨z, _, rfl, SqT.of hz, rfl, _, _, rfl, _, _, rfl, rfl, ?_⟩
                  refine ⟨_, rfl, ?_⟩
                  refine tnil_go ?_
                  refine ⟨zl, _, rfl, SqL.of hzl, ?_⟩
                  refine ⟨_, rfl, _, _, rfl, rfl, ?_⟩
                  have q6 := q H6 (ge.trans (s5.trans (gL.trans s6)))
                  have e6 : decide (totQ xs st ≤ 1) = decide ((topsOn cc (xs ++ [behindR xs st])).sum ≤ cc) := by
                    rw [Bool.eq_iff_iff, decide_eq_true_eq, decide_eq_true_eq]
                    have h7 := qv_le_one (x := ((topsOn cc (xs ++ [behindR xs st])).sum, cc)) hc0
                    unfold qv at h7
                    rw [tops_sum hc0 fun x hx => ⟨(ov.ok x hx).1, hdv x hx⟩, etot] at h7
                    exact h7
                  rw [if_neg (by decide), e6] at q6
                  exact q6
              · rw [decide_eq_false hbl, Bool.false_and] at qF
                rw [decide_eq_false hbl]
                refine iteT ?_
                exact qF rfl
            · rw [Bool.not_eq_true] at hcs
              rw [hcs]
              refine iteT ?_
              refine iteT ?_
              refine qF ?_
              rw [hcs, Bool.false_and]
        · rw [Bool.not_eq_true] at hr
          rw [hr]
          refine iteT ?_
          refine iteT ?_
          have q0 := q H (Same.refl H)
          rw [lifeB_row hr] at q0
          exact q0
    · rw [Bool.not_eq_true] at ht
      rw [ht]
      refine iteT ?_
      refine iteT ?_
      have q0 := q H (Same.refl H)
      rw [lifeB_tup ht] at q0
      exact q0
end

end Fp

set_option Elab.async false
set_option linter.all false
set_option maxRecDepth 100000
set_option maxHeartbeats 4000000
set_option exponentiation.threshold 10000
namespace Fp
open PySem PySem.Spec PyProof.Rows L2
/-! ### the law's own word for it -/
abbrev s_lil : Stmt := topS 33
abbrev N_lil : List Str := ["_law_thing", "_law_row", "_law_step", "_law_total", "_law_rest", "_law_one"]
theorem sc_lil : FnScope N_lil ["_law_thing"] (defScope s_lil) := ⟨rfl, rfl, rfl, by decide +kernel, rfl, by decide +kernel, by decide +kernel⟩
section
variable {K : PySem.W.Frag}
/-- a comprehension each turn of which gives a value told by its turn -/
theorem lc_val {J : It} {n : Nat} {G : Hp → Prop} {Y : Nat → Hp → V → Hp → Prop} (w : Walk J n G Y) {g : TG} {te : TE} {vs : List Nat} {σ : L2.St} {H1 : Hp} (f : Nat → V) (hn : n ≤ 900) (hG : ∀ HE, Same H1 HE → G HE)
    (hs : ∀ (k : Nat) (x : V) (HE HE' : Hp) (R : VK), k < n → Same H1 HE → Y k HE x HE' → (∀ HF, Same HE HF → R (f k) HF) → g x (wipe σ vs) HE' fun σ2 H2 => wipe σ2 vs = wipe σ vs ∧ te σ2 H2 R)
    {Qd : Addr → Hp → Prop} (hd : ∀ D H2, Same H1 H2 → H2 D = some (.lst ((List.range n).map f)) → Qd D H2) : tLc (fun _ H2 R => R J H2) g tYes te vs σ H1 (refQ Qd) := by
  intro D nD
  have e1 := same_new (o := HO.lst []) nD
  refine lc_it w (fun k HE => Same H1 HE ∧ HE D = some (.lst ((List.range k).map f))) ⟨e1, upd_same⟩ ?_ ?_ ?_
  · rintro i HE _ ⟨sE, _⟩
    exact hG HE sE
  · rintro k x HE HE' hk ⟨sE, hE⟩ hY
    refine hs k x HE HE' _ hk sE hY fun HF sF => ?_
    refine ⟨_, sF _ _ hE, by rw [List.length_map, List.length_range]; exact small1000 (by omega), ?_, ?_⟩
    · intro b2 o hb2
      rw [upd_ne (ne_of_none hb2 nD)]
      exact (sE.trans sF) _ _ hb2
    · rw [upd_same, List.range_succ, List.map_append]
      rfl
  · rintro HE ⟨sE, hE⟩
    exact hd D HE sE hE
end
theorem one_of_eq {x : RT} (r : Red x) (h : x.1 ≤ x.2) : decide (x = (1, 1)) = !decide (x.1 < x.2) := by
  by_cases z : x.1 < x.2
  · rw [decide_eq_true z]
    refine decide_eq_false fun e => ?_
    rw [e] at z
    exact absurd z (by decide)
  · rw [decide_eq_false z]
    refine decide_eq_true ?_
    have e : x.1 = x.2 := by omega
    have g := r.2
    have p := r.1
    rw [e, Int.gcd_self] at g
    have h2 : x.2 = 1 := by omega
    have h1 : x.1 = 1 := by omega
    exact Prod.ext h1 h2
theorem in_bools {bs : List Bool} : inV (.bl false) (bs.map V.bl) = !(bs.all id) := by
  induction bs with
  | nil => rfl
  | cons b r ih =>
    show (eqV (.bl b) (.bl false) || inV (.bl false) (r.map V.bl)) = !(b && r.all id)
    rw [ih]
    cases b <;> rfl
theorem range_bools (bs : List Bool) : (List.range bs.length).map (fun k => V.bl (bs.getD k false)) = bs.map V.bl := by
  refine List.ext_getElem? fun i => ?_
  rw [List.getElem?_map, List.getElem?_map]
  by_cases h : i < bs.length
  · rw [List.getElem?_range h, List.getElem?_eq_getElem h]
    show some (V.bl (bs.getD i false)) = some (V.bl bs[i])
    rw [List.getD_eq_getElem?_getD, List.getElem?_eq_getElem h]
    rfl
  · rw [List.getElem?_eq_none (by rw [List.length_range]; omega), List.getElem?_eq_none (by omega)]
    rfl
theorem beh_low {y st : RT} (hy : Red y) (hs : Red st) (h : st.1 < st.2) (ys : List RT) : qv (low2 (y.1 * st.1) (y.2 * (st.2 - st.1))) = behQ (ys ++ [y]) st := by
  have e : behQ (ys ++ [y]) st = qv y * qv st / (1 - qv st) := by
    have e : (ys ++ [y]).getLast? = some y := by simp
    unfold behQ
    rw [e]
  rw [e, qv_low2 (Int.mul_pos hy.1 (by omega))]
  unfold qv
  have h1 := cast_ne (Int.ne_of_gt hy.1)
  have h2 := cast_ne (Int.ne_of_gt hs.1)
  have h3 := cast_ne (b := st.2 - st.1) (by omega)
  rw [Rat.intCast_mul, Rat.intCast_mul]
  rw [Rat.intCast_sub] at h3 ⊢
  grind
section
variable {P : Program} {w : World} {K : PySem.W.Frag} {mg : Str → Option Value} {base : Heap}
def spLil (K : PySem.W.Frag) : Sp := fun vs H Q _ => ∃ (v : V) (d : PyData) (b l c k : Nat), vs = [v] ∧ DpX K H v d ∧ Bk b l c k d ∧ b * (l + 3) ≤ 3400 ∧ 1 ≤ b ∧ b ≤ 690 ∧ l ≤ 900 ∧ ∀ H', Same H H' → Q (.bl (lifeB d)) H'
theorem ok_lil {f fLIC fSU fL : Addr} {fd fdLIC fdSU fdL : FuncData} (F : Fun K "_law_is_life" "_law_is_life" s_lil f fd)
    (FLIC : Fun K "_law_is_chance" "_law_is_chance" s_lic fLIC fdLIC) (bLIC : Binds K fdLIC ["_law_thing"] []) (gLIC : mg "_law_is_chance" = some (.ref fLIC)) (GLIC : FnOk P w K mg base CX0 3 fLIC fdLIC ["_law_thing"] (spLicX K))
    (FSU : Fun K "_law_sum" "_law_sum" s_lsum fSU fdSU) (bSU : Binds K fdSU ["_law_some"] []) (gSU : mg "_law_sum" = some (.ref fSU)) (GST : FnOk P w K mg base CX0 2 fSU fdSU ["_law_some"] (spLsum K RowAt)) (GSU : FnOk P w K mg base CX0 2 fSU fdSU ["_law_some"] (spLsum K LstAt))
    (FL : Fun K "_law_low" "_law_low" s_low fL fdL) (bL : Binds K fdL ["_law_top", "_law_bottom"] []) (gL : mg "_law_low" = some (.ref fL)) (GL : FnOk P w K mg base CX0 1 fL fdL ["_law_top", "_law_bottom"] spLow)
    (n_isinstance : mg "isinstance" = none) (n_len : mg "len" = none) (n_tuple : mg "tuple" = none) : FnOk P w K mg base CX0 5 f fd ["_law_thing"] (spLil K) := by
  refine F.ok sc_lil (fun vs H Q E h => ?_) (fun cdv A outer s H vs Q E hr h => ?_)
  · obtain ⟨_, _, _, _, _, _, rfl, _⟩ := h
    rfl
  · obtain ⟨v, d, b, l, c, k, rfl, hd, hb, hsz, hb0, hb2, hl2, q⟩ := h
    refine ⟨_, (pss_cons (ps_if (PW.pt (pw_or (pt_not (pt_val (pe_callB call_isi (by rfl) n_isinstance (by decide +kernel) (pa_cons (pv 0) (pa_cons (pe_bltn (v := .ty "tuple") (by rfl) n_tuple (by decide +kernel) rfl) pa_nil))))) (pw_or (pt_cmpR op_ne (pe_callB call_lenN (by rfl) n_len PySem.boot_len (pa_cons (pv 0) pa_nil)) pe_int (nomark _)) (pw_or1 (pt_not (pt_val (pe_callB call_isi (by rfl) n_isinstance (by decide +kernel) (pa_cons (pe_ix ix_tup (pv 0) pe_int (fun _ _ => rfl)) (pa_cons (pe_bltn (v := .ty "tuple") (by rfl) n_tuple (by decide +kernel) rfl) pa_nil))))))))) (pss_one (ps_ret pe_bl)) pss_nil)
      (pss_cons (ps_asg (pv 0) (pg_tup rfl (pgs_cons (pg_name (i := 1) sc_lil.nd rfl (.inl rfl)) (pgs_cons (pg_name (i := 2) sc_lil.nd rfl (.inl rfl)) pgs_nil))))
      (pss_cons (ps_if (PW.pt (pw_or (pt_not (pt_val (pe_call GLIC (hr.mono (by decide)) (by rfl) gLIC FLIC.kp bLIC .nil pass0 (pa_cons (pv 2) pa_nil)))) (pw_or (pt_cmpR (op_eqD hr.units) (pv 2) (pe_tup (pa_cons pe_int (pa_cons pe_int pa_nil))) (nomark _)) (pw_or1 (pt_cmpR op_in_seq pe_bl (pe_lc (own := [("_law_one", 5)]) (g := (gName 5)) (tt := tYes) (te := (tCall (spLicX K) [] E0 (tCons (tVar 5) tNil))) rfl sc_lil.nd (pi_tup (pv 1)) (blkOk_by (own := [("_law_one", 5)]) (N := N_lil) (sc := (defScope s_lil)) (by decide +kernel)) (fun _ _ _ _ _ => (pg_name (i := 5) sc_lil.nd rfl (.inl rfl))) (fun _ _ _ _ _ => pts_nil) (fun _ _ _ _ _ => (pe_call GLIC (hr.mono (by decide)) (by rfl) gLIC FLIC.kp bLIC .nil pass0 (pa_cons (pv 5) pa_nil)))) rfl))))) (pss_one (ps_ret pe_bl)) pss_nil)
      (pss_cons (ps_if (pt_cmpR (op_eqD hr.units) (pv 1) (pe_tup pa_nil) (nomark _)) (pss_one (ps_ret (pe_cmpR (op_eqD hr.units) (pv 2) (pe_tup (pa_cons pe_int (pa_cons pe_int pa_nil))) (nomark _)))) pss_nil)
      (pss_cons (ps_set (i := 3) sc_lil.nd rfl (.inl rfl) (pe_call GST (hr.mono (by decide)) (by rfl) gSU FSU.kp bSU .nil pass0 (pa_cons (pv 1) pa_nil)))
      (pss_cons (ps_set (i := 4) sc_lil.nd rfl (.inl rfl) (pe_call GL (hr.mono (by decide)) (by rfl) gL FL.kp bL .nil pass0 (pa_cons (pe_op op_mulA (pe_ix ix_tup (pe_ix ix_tup (pv 1) (pe_un un_neg pe_int) (fun _ _ => rfl)) pe_int (fun _ _ => rfl)) (pe_ix ix_tup (pv 2) pe_int (fun _ _ => rfl))) (pa_cons (pe_op op_mulA (pe_ix ix_tup (pe_ix ix_tup (pv 1) (pe_un un_neg pe_int) (fun _ _ => rfl)) pe_int (fun _ _ => rfl)) (pe_op op_sub (pe_ix ix_tup (pv 2) pe_int (fun _ _ => rfl)) (pe_ix ix_tup (pv 2) pe_int (fun _ _ => rfl)))) pa_nil))))
      (pss_cons (ps_set (i := 3) sc_lil.nd rfl (.inl rfl) (pe_call GSU (hr.mono (by decide)) (by rfl) gSU FSU.kp bSU .nil pass0 (pa_cons (pe_lst (pa_cons (pv 3) (pa_cons (pv 4) pa_nil))) pa_nil)))
      (pss_one (ps_ret (pe_cmpR op_le (pe_ix ix_tup (pv 3) pe_int (fun _ _ => rfl)) (pe_ix ix_tup (pv 3) pe_int (fun _ _ => rfl)) (nomark _))))))))))), ?_⟩
    refine ⟨_, rfl, ?_⟩
    refine tcn_go ?_
    refine isx_tup hd ?_
    refine ⟨_, rfl, ?_⟩
    by_cases ht : isTup d = true
    · obtain ⟨ds, rfl⟩ : ∃ ds, d = .tuple ds := by cases d <;> first | exact ⟨_, rfl⟩ | cases ht
      refine iteF ?_
      refine ⟨_, rfl, ?_⟩
      refine tnil_go ?_
      refine lenD hd ?_
      refine tC_go ?_
      refine ⟨rfl, _, rfl, ?_⟩
      refine ite2 (fun c => ?_) (fun c => ?_)
      · have hn : ds.length ≠ 2 := fun z => by
          rw [z] at c
          exact absurd c (by decide)
        have q0 := q H (Same.refl H)
        rw [lifeB_len hn] at q0
        refine iteT ?_
        exact q0
      · have hn : ds.length = 2 := by
          rcases Classical.em (ds.length = 2) with z | z
          · exact z
          · exact absurd (show (!decide (V.int (ds.length : Int) = V.int 2)) = true by
              rw [decide_eq_false (fun y => z (by have := V.int.inj y; omega))]
              rfl) c
        obtain ⟨r, s0, rfl⟩ := two_ds hn
        clear hn c ht
        obtain ⟨a, xs, rfl, h1, h2⟩ := (DA.no.mpr hd).tupE
        cases h2 with
        | @cons u1 us _ _ g1 h2 =>
        cases h2 with
        | @cons u2 us _ _ g2 h2 =>
        cases h2
        have g1 := (DA.no (K := K)).mp g1
        have g2 := (DA.no (K := K)).mp g2
        refine ⟨_, rfl, a, _, _, _, rfl, rfl, h1, atI_nat (j := 0) rfl, ?_⟩
        refine tcn_go ?_
        refine isx_tup g1 ?_
        refine ⟨_, rfl, ?_⟩
        by_cases hr : isTup r = true
        · obtain ⟨rs, rfl⟩ : ∃ rs, r = .tuple rs := by cases r <;> first | exact ⟨_, rfl⟩ | cases hr
          clear hr
          refine iteF ?_
          obtain ⟨ar, ur, rfl, k1, k2⟩ := (DA.no.mpr g1).tupE
          have k2 := (show DpXAll K H ur rs from (by unfold DAs at k2; rw [hid_no] at k2; exact k2))
          have hlr := k2.len
          obtain ⟨j, rfl, _, hBs⟩ := hb.tupI
          have hb1 := hBs.get (i := 0) rfl
          have hb2s := hBs.get (i := 1) rfl
          obtain ⟨j1, rfl, hlx, hBr⟩ := hb1.tupI
          refine ⟨_, rfl, a, _, rfl, h1, rfl, _, _, rfl, _, _, rfl, rfl, ?_⟩
          refine ⟨_, rfl, u2, s0, rfl, g2, bottom_sm hb2s (by omega), fun H2 s2 => ⟨_, rfl, ?_⟩⟩
          have g22 := g2.same s2
          have qF : lifeB (.tuple [.tuple rs, s0]) = false → ∀ H', Same H H' → Q (.bl false) H' := fun e H' z => by
            have q0 := q H' z
            rw [e] at q0
            exact q0
          have eB : lifeB (.tuple [.tuple rs, s0]) = (rs.all chanceD && (chanceD s0 && (decide ((rtD s0).1 < (rtD s0).2) && (if rs.isEmpty then decide (rtD s0 = (0, 1)) else decide (totQ (rs.map rtD) (rtD s0) ≤ 1))))) := rfl
          rw [eB] at q qF
          by_cases hcs : chanceD s0 = true
          · rw [hcs] at q qF ⊢
            refine iteF ?_
            obtain ⟨st, rfl, rst, st0, st1⟩ := chanceD_inv hcs
            obtain ⟨ps, rfl, hps⟩ := DpX.rat g22
            have smst : SmR b st := by
              cases hb2s.it with
              | tup _ z =>
                have y1 := z (.int st.1) (by simp)
                have y2 := z (.int st.2) (by simp)
                cases y1 with
                | int y1 =>
                  cases y2 with
                  | int y2 => exact ⟨rst, y1, y2⟩
            rw [show rtD (ratD st) = st from rfl] at q qF
            refine ⟨_, rfl, by show 2 ≤ sizeLine; decide, fun o1 no1 => ?_⟩
            have go1 := same_new (o := HO.tup [.int 1, .int 1]) no1
            refine eq_rat (hps.tk (Tk.same go1)) (y := (1, 1)) (SqT.of upd_same) ?_
            rw [one_of_eq rst st1]
            refine ⟨_, rfl, ?_⟩
            by_cases hbl : st.1 < st.2
            · rw [decide_eq_true hbl] at q qF ⊢
              refine iteF ?_
              have S3 := s2.trans go1
              refine ⟨_, rfl, ?_⟩
              have k1a := sqT_same S3 k1
              have k2a := k2.same S3
              have hub : ur.length = (rs.map chanceD).length := by rw [List.length_map]; exact hlr
              refine ⟨ar, rfl, ⟨_, k1a⟩, ?_⟩
              refine lc_val (walk_tup (K := K) (a := ar) (xs := ur)) (fun k => .bl ((rs.map chanceD).getD k false)) (by omega) (fun HE sE => sqT_same sE k1a) (fun k x HE HE' R hk sE hY qr => ?_) (fun D H4 s4 hD => ?_)
              · obtain ⟨rfl, hx⟩ := hY
                obtain ⟨e0, he0⟩ : ∃ e0, rs[k]? = some e0 := ⟨_, List.getElem?_eq_getElem (by omega)⟩
                obtain ⟨v', hv', hde⟩ := k2a.get he0
                rw [hx] at hv'
                cases hv'
                refine ⟨rfl, _, rfl, x, e0, rfl, hde.same sE, bottom_sm (hBr.get he0) (by omega), fun HF sF => ?_⟩
                have e9 : (rs.map chanceD).getD k false = chanceD e0 := by
                  rw [List.getD_eq_getElem?_getD, List.getElem?_map, he0]
                  rfl
                rw [← e9]
                exact qr HF sF
              rw [hub, range_bools] at hD
              have S4 := S3.trans s4
              refine ⟨D, _, rfl, .inl (SqL.of hD), rfl, by rw [List.all_map, List.all_eq_true]; intro y _; rfl, ?_⟩
              refine ⟨_, rfl, ?_⟩
              show (fun b H1 => if b = true then _ else _) (inV (V.bl false) ((rs.map chanceD).map V.bl)) H4
              rw [in_bools]
              have eall : (rs.map chanceD).all id = rs.all chanceD := by rw [List.all_map]; rfl
              rw [eall]
              by_cases hac : rs.all chanceD = true
              · rw [hac] at q ⊢
                refine iteF ?_
                obtain ⟨xs, rfl, hxs⟩ := rows_inv hac
                obtain ⟨p', ep, hrow⟩ := DpX.row (g1.same S4)
                cases ep
                have hps4 := hps.tk (Tk.same (go1.trans s4))
                rw [rows_rt] at q
                rw [rowD_len] at hlx
                have smx : ∀ x ∈ xs, SmR b x := fun x hx => by
                  have hm : ratD x ∈ rowD xs := List.mem_map_of_mem hx
                  cases hBr.it _ hm with
                  | tup _ z =>
                    have y1 := z (.int x.1) (by simp)
                    have y2 := z (.int x.2) (by simp)
                    cases y1 with
                    | int y1 =>
                      cases y2 with
                      | int y2 => exact ⟨(hxs x hx).1, y1, y2⟩
                refine ⟨_, rfl, by show 0 ≤ sizeLine; decide, fun e ne => ?_⟩
                have ge := same_new (o := HO.tup []) ne
                have hrow1 := hrow.tk (Tk.same ge)
                have hps5 := hps4.tk (Tk.same ge)
                have S5 := S4.trans ge
                refine ⟨_, _, hrow1.dp, .tup (SqT.of upd_same) .nil, rowD_shaped xs, rfl, _, rfl, ?_⟩
                rw [rowD_nil]
                rcases snoc_cases xs with rfl | ⟨ys, y, rfl⟩
                · refine iteT ?_
                  refine ⟨_, rfl, by show 2 ≤ sizeLine; decide, fun o2 no2 => ?_⟩
                  have go2 := same_new (o := HO.tup [.int 0, .int 1]) no2
                  refine eq_rat (hps5.tk (Tk.same go2)) (y := (0, 1)) (SqT.of upd_same) ?_
                  exact q _ (S5.trans go2)
                · have ene : (ys ++ [y]).isEmpty = false := by simp
                  have ene2 : (rowD (ys ++ [y])).isEmpty = false := by simp [rowD]
                  rw [ene2] at q
                  rw [ene]
                  refine iteF ?_
                  have hyl : (ys ++ [y]).length ≤ l := hlx
                  have e1 : b * (l + 3) = b * l + 3 * b := by rw [Nat.mul_add, Nat.mul_comm b 3]
                  have e2 : b * (ys ++ [y]).length ≤ b * l := Nat.mul_le_mul_left _ hyl
                  have pp := prodB_pos fun x h => (smx x h).1.1
                  have sp := (prodB_sm fun x h => (smx x h).2.2).mono (show b * (ys ++ [y]).length + 1 ≤ b * l + 1 by omega)
                  have O1 : Over1 b (b * l + 1) (prodB (ys ++ [y])) (ys ++ [y]) := ⟨pp, sp, fun x hx => ⟨(smx x hx).1.1, prodB_dvd hx, (smx x hx).2.1⟩, by omega⟩
                  refine ⟨_, rfl, ?_⟩
                  refine tnil_go ?_
                  refine ⟨ar, _, _, _, _, rfl, hrow1, O1, by omega, by omega, fun zt tt H6 s6 hzt redt qvt dvt smt => ?_⟩
                  have hrow6 := hrow1.tk (Tk.same s6)
                  have hps6 := hps5.tk (Tk.same s6)
                  have hy := smx y (by simp)
                  refine ⟨_, rfl, 1, rfl, ?_⟩
                  refine ix_back (k := 1) (j := ys.length) (x := y) hrow6 (by decide) (by simp) (by simp) fun r hr3 => ?_
                  refine tC_go ?_
                  refine ⟨r, _, _, _, rfl, rfl, hr3, at_of (j := 0) rfl rfl, ?_⟩
                  refine ⟨_, rfl, ps, _, _, _, rfl, rfl, hps6, at_of (j := 0) rfl rfl, ?_⟩
                  refine ⟨_, _, rfl, rfl, hy.2.1.cmul smst.2.1 (by omega) (by omega) (by omega), ?_⟩
                  refine ⟨_, rfl, 1, rfl, ?_⟩
                  refine ix_back (k := 1) (j := ys.length) (x := y) hrow6 (by decide) (by simp) (by simp) fun r2 hr32 => ?_
                  refine tC_go ?_
                  refine ⟨r2, _, _, _, rfl, rfl, hr32, at_of (j := 1) rfl rfl, ?_⟩
                  refine ⟨_, rfl, ps, _, _, _, rfl, rfl, hps6, at_of (j := 1) rfl rfl, ?_⟩
                  refine ⟨_, rfl, ps, _, _, _, rfl, rfl, hps6, at_of (j := 0) rfl rfl, ?_⟩
                  refine ⟨_, _, rfl, rfl, ?_⟩
                  have sgap : Sm (b + 1) (st.2 - st.1) := smst.2.2.sub smst.2.1
                  refine ⟨_, _, rfl, rfl, hy.2.2.cmul sgap (by omega) (by omega) (by omega), ?_⟩
                  refine tnil_go ?_
                  have gp : 0 < y.2 * (st.2 - st.1) := Int.mul_pos hy.1.1 (by omega)
                  have gs := hy.2.2.mul sgap
                  refine ⟨_, _, rfl, gp, gs.mono (by omega), fun p np => ?_⟩
                  have gp6 := same_new (o := HO.tup [.int (ratT (y.1 * st.1) (y.2 * (st.2 - st.1))), .int (ratB (y.1 * st.1) (y.2 * (st.2 - st.1)))]) np
                  have srr : SmR (b + (b + 1)) (low2 (y.1 * st.1) (y.2 * (st.2 - st.1))) := low2_sm gp ((hy.2.1.mul smst.2.1).mono (by omega)) gs
                  have hrr : RAt K (upd H6 p (.tup [.int (ratT (y.1 * st.1) (y.2 * (st.2 - st.1))), .int (ratB (y.1 * st.1) (y.2 * (st.2 - st.1)))])) p (low2 (y.1 * st.1) (y.2 * (st.2 - st.1))) := SqT.of upd_same
                  refine ⟨_, rfl, ?_⟩
                  refine ⟨_, rfl, ?_⟩
                  refine tnil_go ?_
                  refine ⟨by show 2 ≤ sizeLine; decide, fun L nL => ?_⟩
                  have gL := same_new (o := HO.lst [.ref zt, .ref p]) nL
                  refine tnil_go ?_
                  have O2 : Over1 3500 3500 (prodB (ys ++ [y]) * (low2 (y.1 * st.1) (y.2 * (st.2 - st.1))).2) [tt, low2 (y.1 * st.1) (y.2 * (st.2 - st.1))] := by
                    refine ⟨Int.mul_pos pp srr.1.1, (sp.mul srr.2.2).mono (by omega), fun x hx => ?_, by show 2 ≤ 1000; decide⟩
                    rcases List.mem_cons.mp hx with z | z
                    · rw [z]
                      exact ⟨redt.1, Int.dvd_trans dvt (Int.dvd_mul_right ..), smt.mono (by omega)⟩
                    · rw [List.mem_singleton.mp z]
                      exact ⟨srr.1.1, Int.dvd_mul_left .., srr.2.1.mono (by omega)⟩
                  refine ⟨L, _, _, _, _, rfl, ⟨[zt, p], SqL.of upd_same, .cons (hzt.tk (Tk.same (gp6.trans gL))) (.cons (hrr.tk (Tk.same gL)) .nil)⟩, O2, by decide, by decide, fun z2 t2 H9 s9 hz2 red2 qv2 _ _ => ?_⟩
                  refine ⟨_, rfl, z2, _, _, _, rfl, rfl, hz2, at_of (j := 0) rfl rfl, ?_⟩
                  refine ⟨_, rfl, z2, _, _, _, rfl, rfl, hz2, at_of (j := 1) rfl rfl, ?_⟩
                  refine ⟨_, _, rfl, rfl, ?_⟩
                  have q9 := q H9 (S5.trans (s6.trans (gp6.trans (gL.trans s9))))
                  have e9 : decide (totQ (ys ++ [y]) st ≤ 1) = decide (t2.1 ≤ t2.2) := by
                    rw [Bool.eq_iff_iff, decide_eq_true_eq, decide_eq_true_eq, ← qv_le_one red2.1, qv2]
                    show _ ↔ qv tt + (qv (low2 (y.1 * st.1) (y.2 * (st.2 - st.1))) + 0) ≤ 1
                    rw [qvt, beh_low hy.1 rst hbl ys]
                    unfold totQ
                    have e0 : ∀ x : Rat, x + 0 = x := fun x => by grind
                    rw [e0]
                  rw [if_neg (by decide), e9] at q9
                  exact q9
              · rw [Bool.not_eq_true] at hac
                rw [hac]
                refine iteT ?_
                exact qF (by rw [hac]; rfl) _ S4
            · rw [decide_eq_false hbl] at qF ⊢
              refine iteT ?_
              refine iteT ?_
              refine qF (by cases rs.all chanceD <;> rfl) _ (s2.trans go1)
          · rw [Bool.not_eq_true] at hcs
            rw [hcs] at qF ⊢
            refine iteT ?_
            refine iteT ?_
            exact qF (by cases rs.all chanceD <;> rfl) _ s2
        · rw [Bool.not_eq_true] at hr
          rw [hr]
          refine iteT ?_
          have q0 := q H (Same.refl H)
          rw [lifeB_row hr] at q0
          exact q0
    · rw [Bool.not_eq_true] at ht
      rw [ht]
      refine iteT ?_
      refine iteT ?_
      have q0 := q H (Same.refl H)
      rw [lifeB_tup ht] at q0
      exact q0
end

end Fp

set_option Elab.async false
set_option linter.all false
set_option maxRecDepth 100000
set_option maxHeartbeats 4000000
set_option exponentiation.threshold 10000
namespace Fp
open PySem PySem.Spec PyProof.Rows L2
/-! ### comprehensions of things told by their data -/
theorem tcons_go {te : TE} {ta : TA} {σ : L2.St} {H : Hp} {k : List V → Hp → Prop} (h : te σ H fun x H1 => ta σ H1 fun vs H2 => k (x :: vs) H2) : tCons te ta σ H k := h
theorem top_go {r : R2} {te tu : TE} {σ : L2.St} {H : Hp} {k : VK} (h : te σ H fun x H1 => tu σ H1 fun y H2 => r x y H2 k) : tOp r te tu σ H k := h
theorem gn_go {i : Nat} {v : V} {σ : L2.St} {H : Hp} {k : L2.St → Hp → Prop} (h : k (σ.set i (some v)) H) : gName i v σ H k := h
section
variable {K : PySem.W.Frag} {H H' : Hp} {A B : Addr → Prop}
theorem hid_sub (h : ∀ a, A a → B a) : Same (hid B H) (hid A H) := fun _ _ e => hid_mk (fun z => (hid_some e).1 (h _ z)) (hid_some e).2
theorem DA.sub {v : V} {d : PyData} (h : DA K B H v d) (s : ∀ a, A a → B a) : DA K A H v d := DpX.same h (hid_sub s)
theorem DAs.sub {vs : List V} {ds : List PyData} (h : DAs K B H vs ds) (s : ∀ a, A a → B a) : DAs K A H vs ds := DpXAll.same h (hid_sub s)
theorem lc_DA {J : It} {n : Nat} {G : Hp → Prop} {Y : Nat → Hp → V → Hp → Prop} (w : Walk J n G Y) {g : TG} {te : TE} {vs : List Nat} {σ : L2.St} {H1 : Hp} (dA : Dom A H1) (f : Nat → PyData) (hn : n ≤ 900) (hG : ∀ HE, Same H1 HE → G HE)
    (hs : ∀ (B : Addr → Prop) (k : Nat) (x : V) (HE HE' : Hp) (R : VK), k < n → Same H1 HE → (∀ a, A a → B a) → Dom B HE → Y k HE x HE' → (∀ v HF, Same HE HF → DA K B HF v (f k) → R v HF) → g x (wipe σ vs) HE' fun σ2 H2 => wipe σ2 vs = wipe σ vs ∧ te σ2 H2 R)
    {Qd : Addr → Hp → Prop} (hd : ∀ D us H2, Same H1 H2 → ¬ A D → H2 D = some (.lst us) → DAs K A H2 us ((List.range n).map f) → Qd D H2) : tLc (fun _ H2 R => R J H2) g tYes te vs σ H1 (refQ Qd) := by
  intro D nD
  have e1 := same_new (o := HO.lst []) nD
  have hAD := dA.new nD
  refine lc_it w (fun k HE => Same H1 HE ∧ ∃ us, HE D = some (.lst us) ∧ DAs K (fun a => A a ∨ a = D) HE us ((List.range k).map f)) ⟨e1, [], upd_same, .nil⟩ ?_ ?_ ?_
  · rintro i HE _ ⟨sE, _⟩
    exact hG HE sE
  · rintro k x HE HE' hk ⟨sE, us, hE, hU⟩ hY
    have dB : Dom (fun a => A a ∨ a = D) HE := fun a z => by
      rcases z with z | z
      · exact (dA.same sE) a z
      · rw [z, hE]
        exact fun y => nomatch y
    refine hs (fun a => A a ∨ a = D) k x HE HE' _ hk sE (fun a z => .inl z) dB hY fun v HF sF hv => ?_
    have hl := hU.len
    rw [List.length_map, List.length_range] at hl
    refine ⟨_, sF _ _ hE, by rw [hl]; exact small1000 (by omega), ?_, us ++ [v], upd_same, ?_⟩
    · intro b2 o hb2
      rw [upd_ne (ne_of_none hb2 nD)]
      exact (sE.trans sF) _ _ hb2
    · rw [List.range_succ, List.map_append]
      exact ((hU.same sF).app (.cons hv .nil)).wr (.inr rfl)
  · rintro HE ⟨sE, us, hE, hU⟩
    exact hd D us HE sE hAD hE (hU.sub fun a z => .inl z)
/-- tuple(xs) of a new list told by its data -/
theorem tupD {D : Addr} {us : List V} {ds : List PyData} {Q : VK} (dA : Dom A H) (h : H D = some (.lst us)) (g : DAs K A H us ds) (q : ∀ v H', Same H H' → DA K A H' v (.tuple ds) → Q v H') :
    rTupl K [.ref D] H Q :=
  ⟨D, us, rfl, .inl ⟨SqL.of h, fun p np => q _ _ (same_new np) (.tupN dA np g)⟩⟩
theorem LifeAt.dx {p : Addr} {row : List RT} {step : RT} (h : LifeAt K H p row step) : DpX K H (.ref p) (lifeD row step) := .ofD h.dp
theorem RowAt.dx {p : Addr} {row : List RT} (h : RowAt K H p row) : DpX K H (.ref p) (.tuple (rowD row)) := .ofD h.dp
theorem RAt.dx {p : Addr} {x : RT} (h : RAt K H p x) : DpX K H (.ref p) (ratD x) := .ofD h.dp
theorem Bk.rat {b l k n : Nat} {x : RT} (h : SmR n x) (hn : n ≤ b) (hl : 2 ≤ l) (hk : 1 ≤ k) : Bk b l 2 k (ratD x) := by
  obtain ⟨j, rfl⟩ : ∃ j, k = j + 1 := ⟨k - 1, by omega⟩
  exact (Bks.cons (Bk.int (h.2.1.mono hn)) (Bks.cons (Bk.int (h.2.2.mono hn)) Bks.nil)).tup (by show 2 ≤ _; omega)
theorem Bks.row {b l k n : Nat} (hn : n ≤ b) (hl : 2 ≤ l) (hk : 1 ≤ k) : ∀ {xs : List RT}, (∀ x ∈ xs, SmR n x) → Bks b l (3 * xs.length) k (rowD xs)
  | [], _ => Bks.nil
  | x :: r, h => (Bks.cons (Bk.rat (h x (List.mem_cons_self ..)) hn hl hk) (Bks.row hn hl hk fun y hy => h y (List.mem_cons_of_mem _ hy))).mono (Nat.le_refl _) (Nat.le_refl _) (by rw [List.length_cons]; omega) (Nat.le_refl _)
theorem rowD_len2 (xs : List RT) : (rowD xs).length = xs.length := by
  induction xs with
  | nil => rfl
  | cons x r ih => show (rowD r).length + 1 = r.length + 1; rw [ih]
theorem Bk.life {b l n m : Nat} {row : List RT} {step : RT} (h : ∀ x ∈ row, SmR n x) (hs : SmR m step) (hn : n ≤ b) (hm : m ≤ b) (hl : row.length ≤ l) (hl2 : 2 ≤ l) : Bk b l (3 * row.length + 4) 3 (lifeD row step) := by
  have h1 := (Bks.row (k := 1) hn hl2 (Nat.le_refl _) h).tup (by rw [rowD_len2]; exact hl)
  exact ((Bks.cons h1 (Bks.cons (Bk.rat hs hm hl2 (by decide)) Bks.nil)).tup hl2).mono (Nat.le_refl _) (Nat.le_refl _) (by omega) (Nat.le_refl _)
theorem Bks.all {b l c k : Nat} : ∀ {ds : List PyData}, (∀ d ∈ ds, Bk b l c k d) → Bks b l ((c + 1) * ds.length) k ds
  | [], _ => Bks.nil
  | d :: r, h => (Bks.cons (h d (List.mem_cons_self ..)) (Bks.all fun y hy => h y (List.mem_cons_of_mem _ hy))).mono (Nat.le_refl _) (Nat.le_refl _) (by rw [List.length_cons, Nat.mul_add]; omega) (Nat.le_refl _)
theorem DpXAll.rep {v : V} {e : PyData} (h : DpX K H v e) : ∀ n : Nat, DpXAll K H (List.replicate n [v]).flatten (List.replicate n e)
  | 0 => .nil
  | n + 1 => by
    rw [List.replicate_succ, List.flatten_cons, List.replicate_succ]
    exact .cons h (DpXAll.rep h n)
/-- (e,) * n -/
theorem repD {v : V} {e : PyData} {n : Nat} {Q : VK} (dA : Dom A H) (h : DA K A H v (.tuple [e])) (h0 : 2 ≤ n) (h1 : n ≤ 1000) (q : ∀ w H', Same H H' → DA K A H' w (.tuple (List.replicate n e)) → Q w H') : rRepA K v (.int (n : Int)) H Q := by
  obtain ⟨a, xs, rfl, h2, h3⟩ := h.tupE
  unfold DAs at h3
  cases h3 with
  | @cons u us _ _ g1 g2 =>
    cases g2
    refine ⟨a, (n : Int), [u], rfl, rfl, h2, by simp, by omega, by omega, by show 1 ≤ 1000; decide, fun z => absurd z (by omega), fun _ p np => ?_⟩
    rw [Int.toNat_natCast]
    exact q _ _ (same_new np) (.tupN dA np (DpXAll.rep g1 n))
theorem repDz {v : V} {e : PyData} {n : Nat} {z : Int} {Q : VK} (hz : z = (n : Int)) (h : DA K (fun _ => False) H v (.tuple [e])) (h0 : 2 ≤ n) (h1 : n ≤ 1000) (q : ∀ w H', Same H H' → DA K (fun _ => False) H' w (.tuple (List.replicate n e)) → Q w H') : rRepA K v (.int z) H Q := by
  rw [hz]
  exact repD .no h h0 h1 q
end

end Fp

set_option Elab.async false
set_option linter.all false
set_option maxRecDepth 100000
set_option maxHeartbeats 4000000
set_option exponentiation.threshold 10000
namespace Fp
open PySem PySem.Spec PyProof.Rows L2
/-! ### a life with one thing turned -/
abbrev s_near : Stmt := topS 34
abbrev N_near : List Str := ["_law_feed_here", "_law_life_here", "_law_row", "_law_step", "_law_way", "_law_at", "_law_more", "_law_less", "_law_steps", "_law_some", "_law_k", "_law_one"]
theorem sc_near : FnScope N_near ["_law_feed_here", "_law_life_here"] (defScope s_near) := ⟨rfl, rfl, rfl, by decide +kernel, rfl, by decide +kernel, by decide +kernel⟩
def stT : TA := (tCons (tTup (tCons (tC (.int 1)) (tCons (tC (.int 1)) tNil))) (tCons (tTup (tCons (tUn (rU fun i => .int (-i)) (tC (.int 1))) (tCons (tC (.int 3)) tNil))) (tCons (tTup (tCons (tC (.int 9)) (tCons (tC (.int 10)) tNil))) (tCons (tTup (tCons (tC (.int 1)) (tCons (tC (.int 2)) tNil))) (tCons (tTup (tCons (tC (.int 2)) (tCons (tC (.int 4)) tNil))) (tCons (tTup (tCons (tC (.int 0)) (tCons (tC (.int 1)) tNil))) tNil))))))
def stD : List PyData := [.tuple [.int 1, .int 1], .tuple [.int (-1), .int 3], .tuple [.int 9, .int 10], .tuple [.int 1, .int 2], .tuple [.int 2, .int 4], .tuple [.int 0, .int 1]]
theorem stL {K : PySem.W.Frag} : Lits K stT stD := by
  unfold stT stD
  exact (.cons (.tup (.cons .int (.cons .int .nil)) (by decide)) (.cons (.tup (.cons .neg (.cons .int .nil)) (by decide)) (.cons (.tup (.cons .int (.cons .int .nil)) (by decide)) (.cons (.tup (.cons .int (.cons .int .nil)) (by decide)) (.cons (.tup (.cons .int (.cons .int .nil)) (by decide)) (.cons (.tup (.cons .int (.cons .int .nil)) (by decide)) .nil))))))
theorem st_bk : ∀ d ∈ stD, Bk 134 4 20 4 d := fun d hd => bkB_ok (List.all_eq_true.mp (show stD.all bkB = true by decide +kernel) d hd)
section
variable {P : Program} {w : World} {K : PySem.W.Frag} {mg : Str → Option Value} {base : Heap}
def spNear (K : PySem.W.Frag) : Sp := fun vs H Q _ => ∃ (d c p : Addr) (t : Int) (row : List RT) (step : RT), vs = [.ref d, .ref p] ∧ Feed H d c t ∧ t ≤ 800000 ∧ LifeAt K H p row step ∧ (∀ x ∈ row, SmR 20 x) ∧ SmR 20 step ∧ row.length ≤ 7 ∧
  ∀ v x t' H', Keep d H H' → Feed H' d c t' → t' ≤ t + 3 → DpX K H' v x → Bk 134 8 100 6 x → Q v H'
theorem ok_near {f fD fL : Addr} {fd fdD fdL : FuncData} (F : Fun K "_law_near" "_law_near" s_near f fd)
    (FD : Fun K "_law_draw" "_law_draw" s_draw fD fdD) (bD : Binds K fdD ["_law_feed_here", "_law_many"] []) (gD : mg "_law_draw" = some (.ref fD)) (GD : FnOk P w K mg base CX0 1 fD fdD ["_law_feed_here", "_law_many"] spDraw)
    (FL : Fun K "_law_low" "_law_low" s_low fL fdL) (bL : Binds K fdL ["_law_top", "_law_bottom"] []) (gL : mg "_law_low" = some (.ref fL)) (GL : FnOk P w K mg base CX0 1 fL fdL ["_law_top", "_law_bottom"] spLow)
    (n_enumerate : mg "enumerate" = none) (n_int : mg "int" = none) (n_len : mg "len" = none) (n_max : mg "max" = none) (n_tuple : mg "tuple" = none) : FnOk P w K mg base CX0 3 f fd ["_law_feed_here", "_law_life_here"] (spNear K) := by
  refine F.ok sc_near (fun vs H Q E h => ?_) (fun cdv A outer s H vs Q E hr h => ?_)
  · obtain ⟨_, _, _, _, _, _, rfl, _⟩ := h
    rfl
  · obtain ⟨d, c, p, t, row, step, rfl, f0, ht, hp, smr, sms, hl, q⟩ := h
    refine ⟨_, (pss_cons (ps_asg (pv 1) (pg_tup rfl (pgs_cons (pg_name (i := 2) sc_near.nd rfl (.inl rfl)) (pgs_cons (pg_name (i := 3) sc_near.nd rfl (.inl rfl)) pgs_nil))))
      (pss_cons (ps_set (i := 4) sc_near.nd rfl (.inl rfl) (pe_call GD (hr.mono (by decide)) (by rfl) gD FD.kp bD .nil pass0 (pa_cons (pv 0) (pa_cons pe_int pa_nil))))
      (pss_cons (ps_set (i := 5) sc_near.nd rfl (.inr rfl) (pe_call GD (hr.mono (by decide)) (by rfl) gD FD.kp bD .nil pass0 (pa_cons (pv 0) (pa_cons (pe_callB (call_max2 rfl) (by rfl) n_max (by decide +kernel) (pa_cons pe_int (pa_cons (pe_callB call_lenN (by rfl) n_len PySem.boot_len (pa_cons (pv 2) pa_nil)) pa_nil))) pa_nil))))
      (pss_cons (ps_set (i := 6) sc_near.nd rfl (.inl rfl) (pe_callTy call_tupN (by rfl) n_tuple (by decide +kernel) (pa_cons (pe_lc (own := [("_law_k", 10), ("_law_one", 11)]) (g := (gTup K 2 (gCons (gName 10) (gCons (gName 11) gNil)))) (tt := tYes) (te := (tCall spLow [] E0 (tCons (tOp (rI0 fun i j => .int (i + j)) (tOp (rIxT K) (tVar 11) (tC (.int 0))) (tCB (fun xs H Q => (∃ i, xs = [.int i] ∧ Q (.int i) H) ∨ ∃ k, xs = [.bl k] ∧ Q (.int (if k then 1 else 0)) H) (tCons (tOp rEq (tVar 10) (tVar 5)) tNil))) (tCons (tOp (rIxT K) (tVar 11) (tC (.int 1))) tNil)))) rfl sc_near.nd (pi_eT (by rfl) n_enumerate (pa_cons (pv 2) pa_nil)) (blkOk_by (own := [("_law_k", 10), ("_law_one", 11)]) (N := N_near) (sc := (defScope s_near)) (by decide +kernel)) (fun _ _ _ _ _ => (pg_tup rfl (pgs_cons (pg_name (i := 10) sc_near.nd rfl (.inl rfl)) (pgs_cons (pg_name (i := 11) sc_near.nd rfl (.inl rfl)) pgs_nil)))) (fun _ _ _ _ _ => pts_nil) (fun _ _ _ _ _ => (pe_call GL (hr.mono (by decide)) (by rfl) gL FL.kp bL .nil pass0 (pa_cons (pe_op op_add (pe_ix ix_tup (pv 11) pe_int (fun _ _ => rfl)) (pe_callTy call_int1 (by rfl) n_int (by decide +kernel) (pa_cons (pe_cmpR op_eq (pv 10) (pv 5) (nomark _)) pa_nil))) (pa_cons (pe_ix ix_tup (pv 11) pe_int (fun _ _ => rfl)) pa_nil))))) pa_nil)))
      (pss_cons (ps_set (i := 7) sc_near.nd rfl (.inl rfl) (pe_callTy call_tupN (by rfl) n_tuple (by decide +kernel) (pa_cons (pe_lc (own := [("_law_k", 10), ("_law_one", 11)]) (g := (gTup K 2 (gCons (gName 10) (gCons (gName 11) gNil)))) (tt := tYes) (te := (tCall spLow [] E0 (tCons (tOp (rI0 fun i j => .int (i - j)) (tOp (rIxT K) (tVar 11) (tC (.int 0))) (tCB (fun xs H Q => (∃ i, xs = [.int i] ∧ Q (.int i) H) ∨ ∃ k, xs = [.bl k] ∧ Q (.int (if k then 1 else 0)) H) (tCons (tOp rEq (tVar 10) (tVar 5)) tNil))) (tCons (tOp (rIxT K) (tVar 11) (tC (.int 1))) tNil)))) rfl sc_near.nd (pi_eT (by rfl) n_enumerate (pa_cons (pv 2) pa_nil)) (blkOk_by (own := [("_law_k", 10), ("_law_one", 11)]) (N := N_near) (sc := (defScope s_near)) (by decide +kernel)) (fun _ _ _ _ _ => (pg_tup rfl (pgs_cons (pg_name (i := 10) sc_near.nd rfl (.inl rfl)) (pgs_cons (pg_name (i := 11) sc_near.nd rfl (.inl rfl)) pgs_nil)))) (fun _ _ _ _ _ => pts_nil) (fun _ _ _ _ _ => (pe_call GL (hr.mono (by decide)) (by rfl) gL FL.kp bL .nil pass0 (pa_cons (pe_op op_sub (pe_ix ix_tup (pv 11) pe_int (fun _ _ => rfl)) (pe_callTy call_int1 (by rfl) n_int (by decide +kernel) (pa_cons (pe_cmpR op_eq (pv 10) (pv 5) (nomark _)) pa_nil))) (pa_cons (pe_ix ix_tup (pv 11) pe_int (fun _ _ => rfl)) pa_nil))))) pa_nil)))
      (pss_cons (ps_set (i := 8) sc_near.nd rfl (.inl rfl) (pe_lst (pa_cons (pe_tup (pa_cons pe_int (pa_cons pe_int pa_nil))) (pa_cons (pe_tup (pa_cons (pe_un un_neg pe_int) (pa_cons pe_int pa_nil))) (pa_cons (pe_tup (pa_cons pe_int (pa_cons pe_int pa_nil))) (pa_cons (pe_tup (pa_cons pe_int (pa_cons pe_int pa_nil))) (pa_cons (pe_tup (pa_cons pe_int (pa_cons pe_int pa_nil))) (pa_cons (pe_tup (pa_cons pe_int (pa_cons pe_int pa_nil))) pa_nil))))))))
      (pss_cons (ps_set (i := 9) sc_near.nd rfl (.inl rfl) (pe_lst (pa_cons (pe_tup (pa_cons (pv 6) (pa_cons (pv 3) pa_nil))) (pa_cons (pe_tup (pa_cons (pv 7) (pa_cons (pv 3) pa_nil))) (pa_cons (pe_tup (pa_cons (pv 2) (pa_cons (pe_ix ix_list (pv 8) (pe_call GD (hr.mono (by decide)) (by rfl) gD FD.kp bD .nil pass0 (pa_cons (pv 0) (pa_cons pe_int pa_nil))) (fun _ _ => rfl)) pa_nil))) (pa_cons (pe_tup (pa_cons (pe_tup pa_nil) (pa_cons (pv 3) pa_nil))) (pa_cons (pe_tup (pa_cons (pe_op op_catA (pe_slice sl_tupA (pv 2) po_none (po_some (pv 5))) (pe_slice sl_tupA (pv 2) (po_some (pe_op op_add (pv 5) pe_int)) po_none)) (pa_cons (pv 3) pa_nil))) pa_nil)))))))
      (pss_one (ps_ret (pe_ix ix_list (pv 9) (pv 4) (fun _ _ => rfl))))))))))), ?_⟩
    obtain ⟨pr, ps, l1, l2, l3⟩ := id hp
    refine ⟨_, rfl, p, _, rfl, l1, rfl, _, _, rfl, _, _, rfl, rfl, ?_⟩
    refine ⟨_, rfl, d, c, 5, t, rfl, f0, by omega, by decide, by decide, fun way H1 h10 h11 k1 f1 => ?_⟩
    have m2 := l2.tk (Tk.keep f0 k1)
    have m3 := l3.tk (Tk.keep f0 k1)
    obtain ⟨rs, r1, r2⟩ := id m2
    have hrl := r2.length
    refine ⟨_, rfl, ?_⟩
    refine ⟨_, rfl, ?_⟩
    refine tnil_go ?_
    refine ⟨pr, _, rfl, .inr r1, ?_⟩
    have hll : (rs.map V.ref).length = row.length := by rw [List.length_map, hrl]
    rw [hll]
    refine tnil_go ?_
    refine ⟨_, _, rfl, ?_⟩
    refine tnil_go ?_
    refine ⟨d, c, _, t + 1, rfl, f1, by omega, by split <;> omega, by split <;> omega, fun r2a H2 h20 h21 k2 f2 => ?_⟩
    obtain ⟨i, rfl⟩ : ∃ i : Nat, r2a = (i : Int) := ⟨r2a.toNat, by omega⟩
    have r1b := sqT_keep f1 k2 r1
    refine ⟨_, rfl, ?_⟩
    refine tnil_go ?_
    refine ⟨pr, _, rfl, r1b, ?_⟩
    refine lc_DA (K := K) (A := fun _ => False) (walk_q (Sq := fun H xs => SqT K H pr xs) (k := 0) (xs := rs.map V.ref)) .no (fun k => ratD (low2 ((row.getD k (0, 1)).1 + (if decide (V.int (0 + ((k : Nat) : Int)) = V.int ((i : Nat) : Int)) = true then 1 else 0)) (row.getD k (0, 1)).2)) (by omega) (fun HE sE => sqT_same sE (r1b)) (fun B k x HE HE' R hk sE hB dB hY qr => ?_) (fun D1 usD1 H3 s3 _ hD1 aD1 => ?_)
    · obtain ⟨T, x1, x2, rfl, nT, rfl, ex1, ex2⟩ := hY
      rw [hll] at hk
      dsimp only at ex1 ex2
      cases Option.some.inj ex1
      obtain ⟨y, hy⟩ : ∃ y, row[k]? = some y := ⟨_, List.getElem?_eq_getElem hk⟩
      obtain ⟨r, er, hr1⟩ := r2.get hy
      rw [List.getElem?_map, er] at ex2
      cases Option.some.inj ex2
      have gT := same_new (o := HO.tup [.int (0 + ((k : Nat) : Int)), .ref r]) nT
      have hr3 := hr1.tk (Tk.trans (Tk.keep f1 k2) (Tk.same (sE.trans gT)))
      have sy := smr y (List.mem_of_getElem? hy)
      refine ⟨T, _, rfl, SqT.of upd_same, rfl, _, _, rfl, _, _, rfl, rfl, rfl, ?_⟩
      refine ⟨_, rfl, r, _, _, _, rfl, rfl, hr3, at_of (j := 0) rfl rfl, ?_⟩
      refine ⟨_, rfl, _, rfl, rfl, ?_⟩
      refine tnil_go ?_
      refine .inr ⟨_, rfl, ?_⟩
      refine ⟨_, _, rfl, rfl, ?_⟩
      refine ⟨_, rfl, r, _, _, _, rfl, rfl, hr3, at_of (j := 1) rfl rfl, ?_⟩
      refine tnil_go ?_
      refine ⟨_, _, rfl, sy.1.1, sy.2.2.mono (by decide), fun p np => ?_⟩
      have e9 : row.getD k (0, 1) = y := by rw [List.getD_eq_getElem?_getD, hy]; rfl
      refine qr _ _ (gT.trans (same_new np)) ?_
      rw [e9]
      exact .tupN (dB.same gT) np (.cons .int (.cons .int .nil))
    refine tnil_go ?_
    refine tupD (A := fun _ => False) .no hD1 aD1 fun w1 H4 s4 q1 => ?_
    have S4 := s3.trans s4
    have r1c := sqT_same S4 r1b
    refine ⟨_, rfl, ?_⟩
    refine tnil_go ?_
    refine ⟨pr, _, rfl, r1c, ?_⟩
    refine lc_DA (K := K) (A := fun _ => False) (walk_q (Sq := fun H xs => SqT K H pr xs) (k := 0) (xs := rs.map V.ref)) .no (fun k => ratD (low2 ((row.getD k (0, 1)).1 - (if decide (V.int (0 + ((k : Nat) : Int)) = V.int ((i : Nat) : Int)) = true then 1 else 0)) (row.getD k (0, 1)).2)) (by omega) (fun HE sE => sqT_same sE (r1c)) (fun B k x HE HE' R hk sE hB dB hY qr => ?_) (fun D2 usD2 H5 s5 _ hD2 aD2 => ?_)
    · obtain ⟨T, x1, x2, rfl, nT, rfl, ex1, ex2⟩ := hY
      rw [hll] at hk
      dsimp only at ex1 ex2
      cases Option.some.inj ex1
      obtain ⟨y, hy⟩ : ∃ y, row[k]? = some y := ⟨_, List.getElem?_eq_getElem hk⟩
      obtain ⟨r, er, hr1⟩ := r2.get hy
      rw [List.getElem?_map, er] at ex2
      cases Option.some.inj ex2
      have gT := same_new (o := HO.tup [.int (0 + ((k : Nat) : Int)), .ref r]) nT
      have hr3 := hr1.tk (Tk.trans (Tk.trans (Tk.keep f1 k2) (Tk.same S4)) (Tk.same (sE.trans gT)))
      have sy := smr y (List.mem_of_getElem? hy)
      refine ⟨T, _, rfl, SqT.of upd_same, rfl, _, _, rfl, _, _, rfl, rfl, rfl, ?_⟩
      refine ⟨_, rfl, r, _, _, _, rfl, rfl, hr3, at_of (j := 0) rfl rfl, ?_⟩
      refine ⟨_, rfl, _, rfl, rfl, ?_⟩
      refine tnil_go ?_
      refine .inr ⟨_, rfl, ?_⟩
      refine ⟨_, _, rfl, rfl, ?_⟩
      refine ⟨_, rfl, r, _, _, _, rfl, rfl, hr3, at_of (j := 1) rfl rfl, ?_⟩
      refine tnil_go ?_
      refine ⟨_, _, rfl, sy.1.1, sy.2.2.mono (by decide), fun p np => ?_⟩
      have e9 : row.getD k (0, 1) = y := by rw [List.getD_eq_getElem?_getD, hy]; rfl
      refine qr _ _ (gT.trans (same_new np)) ?_
      rw [e9]
      exact .tupN (dB.same gT) np (.cons .int (.cons .int .nil))
    refine tnil_go ?_
    refine tupD (A := fun _ => False) .no hD2 aD2 fun w2 H6 s6 q2 => ?_
    have S6 := S4.trans (s5.trans s6)
    have f6 := f2.same S6
    refine gn_go ?_
    dsimp only
    refine asg_go ?_
    refine lst_go (K := K) (A := fun _ => False) (ta := stT) stL (by decide) .no fun Ls vls H7 s7 als eLs => ?_
    have S7 := S6.trans s7
    have f7 := f2.same S7
    have m27 := (m2.tk (Tk.keep f1 k2)).tk (Tk.same S7)
    have m37 := (m3.tk (Tk.keep f1 k2)).tk (Tk.same S7)
    have d7 := RowAt.dx m27
    have s7d := RAt.dx m37
    refine ⟨_, rfl, ?_⟩
    refine ⟨_, rfl, ?_⟩
    refine tnil_go ?_
    refine ⟨by show 2 ≤ sizeLine; decide, fun p1 n1 => ?_⟩
    have g1 := same_new (o := HO.tup [w1, .ref ps]) n1
    have a1 : DpX K (upd H7 p1 (.tup [w1, .ref ps])) (.ref p1) (.tuple [_, ratD step]) := .tup (SqT.of upd_same) (.cons (q1.un.same ((s5.trans s6).trans (s7.trans g1))) (.cons (s7d.same g1) .nil))
    refine ⟨_, rfl, ?_⟩
    refine ⟨_, rfl, ?_⟩
    refine tnil_go ?_
    refine ⟨by show 2 ≤ sizeLine; decide, fun p2 n2 => ?_⟩
    have g2 := same_new (o := HO.tup [w2, .ref ps]) n2
    have a2 : DpX K (upd (upd H7 p1 (.tup [w1, .ref ps])) p2 (.tup [w2, .ref ps])) (.ref p2) (.tuple [_, ratD step]) := .tup (SqT.of upd_same) (.cons (q2.un.same (s7.trans (g1.trans g2))) (.cons (s7d.same (g1.trans g2)) .nil))
    have G2 := g1.trans g2
    have b1 := a1.same g2
    generalize upd (upd H7 p1 (.tup [w1, .ref ps])) p2 (.tup [w2, .ref ps]) = H8 at *
    refine ⟨_, rfl, ?_⟩
    refine ⟨_, rfl, ?_⟩
    refine ⟨_, rfl, d, c, 6, t + 1 + 1, rfl, f7.same G2, by omega, by decide, by decide, fun r9 H9 h90 h91 k9 f9 => ?_⟩
    have f8 := f7.same G2
    obtain ⟨j9, rfl⟩ : ∃ j9 : Nat, r9 = (j9 : Int) := ⟨r9.toNat, by omega⟩
    obtain ⟨x9, hx9⟩ : ∃ x9, stD[j9]? = some x9 := ⟨_, List.getElem?_eq_getElem (by show j9 < 6; omega)⟩
    have als9 := (als.same G2).keep f8 k9
    obtain ⟨v9, hv9, hd9⟩ := als9.get hx9
    refine ⟨Ls, _, _, v9, rfl, rfl, sqL_keep f8 k9 (SqL.of (G2 _ _ eLs)), atI_nat hv9, ?_⟩
    refine tnil_go ?_
    refine ⟨by show 2 ≤ sizeLine; decide, fun p3 n3 => ?_⟩
    have g3 := same_new (o := HO.tup [.ref pr, v9]) n3
    have kd := fun {v : V} {x : PyData} (h : DpX K H8 v x) => ((DA.no.mpr h).keep f8 k9).un
    have a3 : DpX K (upd H9 p3 (.tup [.ref pr, v9])) (.ref p3) (.tuple [.tuple (rowD row), x9]) := .tup (SqT.of upd_same) (.cons ((kd (d7.same G2)).same g3) (.cons (hd9.un.same g3) .nil))
    have c1 := (kd b1).same g3
    have c2 := (kd a2).same g3
    have d9 := (kd (d7.same G2)).same g3
    have s9d := (kd (s7d.same G2)).same g3
    have fa := f9.same g3
    clear als9 hd9
    generalize upd H9 p3 (.tup [.ref pr, v9]) = HA at *
    refine ⟨by show 0 ≤ sizeLine; decide, fun p4 n4 => ?_⟩
    have g4 := same_new (o := HO.tup []) n4
    refine ⟨_, rfl, ?_⟩
    refine tnil_go ?_
    refine ⟨by show 2 ≤ sizeLine; decide, fun p5 n5 => ?_⟩
    have g5 := same_new (o := HO.tup [.ref p4, .ref ps]) n5
    have a5 : DpX K (upd (upd HA p4 (.tup [])) p5 (.tup [.ref p4, .ref ps])) (.ref p5) (.tuple [.tuple [], ratD step]) := .tup (SqT.of upd_same) (.cons (.tup (SqT.of (g5 _ _ upd_same)) .nil) (.cons (s9d.same (g4.trans g5)) .nil))
    have G5 := g4.trans g5
    generalize upd (upd HA p4 (.tup [])) p5 (.tup [.ref p4, .ref ps]) = HB at *
    refine ⟨_, rfl, ?_⟩
    refine noPart_go ?_
    refine ⟨_, rfl, _, rfl, ?_⟩
    refine slD_to (A := fun _ => False) .no (DA.no.mpr (d9.same G5)) fun y1 HC sC e1 => ?_
    refine ⟨_, rfl, ?_⟩
    refine ⟨_, rfl, ?_⟩
    refine ⟨_, _, rfl, rfl, ?_⟩
    refine ⟨_, rfl, ?_⟩
    refine noPart_go ?_
    refine slD_fr (i := i + 1) (A := fun _ => False) .no (DA.no.mpr (d9.same (G5.trans sC))) fun y2 HD sD e2 => ?_
    refine catD (A := fun _ => False) .no (e1.same sD) e2 (by rw [sizeLine_eq, List.length_take, List.length_drop, rowD_len2]; omega) fun y3 HE sE e3 => ?_
    refine ⟨_, rfl, ?_⟩
    refine tnil_go ?_
    refine ⟨by show 2 ≤ sizeLine; decide, fun p6 n6 => ?_⟩
    have g6 := same_new (o := HO.tup [y3, .ref ps]) n6
    have SE := G5.trans (sC.trans (sD.trans sE))
    have a6 : DpX K (upd HE p6 (.tup [y3, .ref ps])) (.ref p6) (.tuple [.tuple ((rowD row).take i ++ (rowD row).drop (i + 1)), ratD step]) := .tup (SqT.of upd_same) (.cons (e3.un.same g6) (.cons (s9d.same (SE.trans g6)) .nil))
    refine tnil_go ?_
    refine ⟨by show 5 ≤ sizeLine; decide, fun L nL => ?_⟩
    have gL := same_new (o := HO.lst [.ref p1, .ref p2, .ref p3, .ref p5, .ref p6]) nL
    have SL := SE.trans (g6.trans gL)
    have SB := sC.trans (sD.trans (sE.trans (g6.trans gL)))
    have hA := DpXAll.cons (c1.same SL) (.cons (c2.same SL) (.cons (a3.same SL) (.cons (a5.same SB) (.cons (a6.same gL) .nil))))
    refine ⟨_, rfl, ?_⟩
    refine ⟨_, rfl, ?_⟩
    obtain ⟨wn, rfl⟩ : ∃ wn : Nat, way = (wn : Int) := ⟨way.toNat, by omega⟩
    have KZ := ((k1.trans k2).trans (Keep.of_same (S7.trans G2))).trans (k9.trans (Keep.of_same (g3.trans SL)))
    have fZ := fa.same SL
    have gd : ∀ k : Nat, SmR 20 (row.getD k (0, 1)) := fun k => by
      rw [List.getD_eq_getElem?_getD]
      cases hk : row[k]? with
      | none => exact SmR.mono (n := 1) (x := (0, 1)) ⟨⟨by decide, by decide⟩, by unfold Sm; decide, by unfold Sm; decide⟩ (by decide)
      | some y => exact smr y (List.mem_of_getElem? hk)
    have one : ∀ {b : Prop} [Decidable b], Sm 20 (if b then (1 : Int) else 0) := fun {b} _ => by
      unfold Sm
      split <;> decide
    have bs : Bk 134 8 2 4 (ratD step) := Bk.rat sms (by decide) (by decide) (by decide)
    have two : ∀ {d : PyData} {cc : Nat}, Bk 134 8 cc 4 d → cc ≤ 90 → Bk 134 8 100 6 (.tuple [d, ratD step]) := fun h hc => ((Bks.cons h (Bks.cons bs Bks.nil)).tup (by show 2 ≤ 8; decide)).mono (Nat.le_refl _) (Nat.le_refl _) (by omega) (by decide)
    have hrow : Bks 134 8 21 3 (rowD row) := (Bks.row (n := 20) (by decide) (by decide) (by decide) smr).mono (Nat.le_refl _) (Nat.le_refl _) (by omega) (Nat.le_refl _)
    rcases (by omega : wn = 0 ∨ wn = 1 ∨ wn = 2 ∨ wn = 3 ∨ wn = 4) with rfl | rfl | rfl | rfl | rfl
    · obtain ⟨v8, hv8, hd8⟩ := hA.get (i := 0) rfl
      refine ⟨L, _, _, v8, rfl, rfl, SqL.of upd_same, atI_nat hv8, q v8 _ _ _ KZ fZ (by omega) hd8 (two ((Bks.all (c := 2) (k := 3) fun x hx => ?_).tup ?_) ?_)⟩
      · obtain ⟨k, _, rfl⟩ := List.mem_map.mp hx
        exact Bk.rat (n := 21) (low2_sm (gd k).1.1 ((gd k).2.1.add one) ((gd k).2.2.mono (by decide))) (by decide) (by decide) (by decide)
      · rw [List.length_map, List.length_range]
        omega
      · rw [List.length_map, List.length_range]
        omega
    · obtain ⟨v8, hv8, hd8⟩ := hA.get (i := 1) rfl
      refine ⟨L, _, _, v8, rfl, rfl, SqL.of upd_same, atI_nat hv8, q v8 _ _ _ KZ fZ (by omega) hd8 (two ((Bks.all (c := 2) (k := 3) fun x hx => ?_).tup ?_) ?_)⟩
      · obtain ⟨k, _, rfl⟩ := List.mem_map.mp hx
        exact Bk.rat (n := 21) (low2_sm (gd k).1.1 ((gd k).2.1.sub one) ((gd k).2.2.mono (by decide))) (by decide) (by decide) (by decide)
      · rw [List.length_map, List.length_range]
        omega
      · rw [List.length_map, List.length_range]
        omega
    · obtain ⟨v8, hv8, hd8⟩ := hA.get (i := 2) rfl
      exact ⟨L, _, _, v8, rfl, rfl, SqL.of upd_same, atI_nat hv8, q v8 _ _ _ KZ fZ (by omega) hd8 (((Bks.cons (hrow.tup (by rw [rowD_len2]; omega)) (Bks.cons ((st_bk x9 (List.mem_of_getElem? hx9)).mono (Nat.le_refl _) (by decide) (Nat.le_refl _) (Nat.le_refl _)) Bks.nil)).tup (by show 2 ≤ 8; decide)).mono (Nat.le_refl _) (Nat.le_refl _) (by decide) (by decide))⟩
    · obtain ⟨v8, hv8, hd8⟩ := hA.get (i := 3) rfl
      exact ⟨L, _, _, v8, rfl, rfl, SqL.of upd_same, atI_nat hv8, q v8 _ _ _ KZ fZ (by omega) hd8 (two ((Bks.nil (k := 3)).tup (by decide)) (by decide))⟩
    · obtain ⟨v8, hv8, hd8⟩ := hA.get (i := 4) rfl
      exact ⟨L, _, _, v8, rfl, rfl, SqL.of upd_same, atI_nat hv8, q v8 _ _ _ KZ fZ (by omega) hd8 (two (((hrow.take i).app (hrow.drop (i + 1))).tup (by rw [List.length_append, List.length_take, List.length_drop, rowD_len2]; omega)) (by decide))⟩
end

end Fp

set_option Elab.async false
set_option linter.all false
set_option maxRecDepth 100000
set_option maxHeartbeats 4000000
set_option exponentiation.threshold 10000
namespace Fp
open PySem PySem.Spec PyProof.Rows L2
/-! ### the cells from the last one on -/
abbrev s_lat : Stmt := topS 35
abbrev N_lat : List Str := ["_law_script", "_law_feed_here"]
theorem sc_lat : FnScope N_lat ["_law_script"] (defScope s_lat) := ⟨rfl, rfl, rfl, by decide +kernel, rfl, by decide +kernel, by decide +kernel⟩
section
variable {P : Program} {w : World} {K : PySem.W.Frag} {mg : Str → Option Value} {base : Heap}
def spLat (K : PySem.W.Frag) : Sp := fun vs H Q _ => ∃ (a : Addr) (ns : List Int), vs = [.ref a] ∧ SqL K H a (ns.map V.int) ∧ ∀ d c H1 H', Same H H1 → Feed H1 d c 0 → Keep d H1 H' → Feed H' d c 700 → Q (.ref d) H'
theorem ok_lat {f fE : Addr} {fd fdE : FuncData} (F : Fun K "_law_later" "_law_later" s_lat f fd)
    (FE : Fun K "_law_feed" "_law_feed" s_feed fE fdE) (bE : Binds K fdE ["_law_script"] []) (gE : mg "_law_feed" = some (.ref fE)) (GE : FnOk P w K mg base CX0 1 fE fdE ["_law_script"] (spFeed K))
    : FnOk P w K mg base CX0 2 f fd ["_law_script"] (spLat K) := by
  refine F.ok sc_lat (fun vs H Q E h => ?_) (fun cdv A outer s H vs Q E hr h => ?_)
  · obtain ⟨_, _, rfl, _⟩ := h
    rfl
  · obtain ⟨a, ns, rfl, hS, q⟩ := h
    refine ⟨_, (pss_cons (ps_set (i := 1) sc_lat.nd rfl (.inl rfl) (pe_call GE hr (by rfl) gE FE.kp bE .nil pass0 (pa_cons (pe_revL (pe_slice sl_list (pv 0) po_none (po_some pe_int))) pa_nil)))
      (pss_cons (ps_dput (hu_of hr) (pv 1) pe_str pe_int rfl)
      (pss_one (ps_ret (pv 1))))), ?_⟩
    refine ⟨_, rfl, ?_⟩
    refine noPart_go ?_
    refine ⟨_, rfl, a, _, rfl, hS, fun p np => ?_⟩
    have gp := same_new (o := HO.lst (cutV (ns.map V.int) none (some 63))) np
    obtain ⟨ms, hms⟩ := cut_ints ns none (some 63)
    refine ⟨p, _, rfl, SqL.of upd_same, fun p2 np2 => ?_⟩
    have g2 := same_new (o := HO.lst (cutV (ns.map V.int) none (some 63)).reverse) np2
    refine tnil_go ?_
    refine ⟨p2, ms.reverse, rfl, ?_, fun d c H1 s1 f1 => ?_⟩
    · rw [List.map_reverse, ← hms]
      exact SqL.of upd_same
    obtain ⟨aa, ll, ks, hd, hc, h0⟩ := id f1
    refine ⟨_, rfl, d, _, rfl, DPut.k (k := .inr "turn") hd (feed_len c aa ll 0), ?_⟩
    rw [put_turn]
    refine ⟨_, rfl, ?_⟩
    refine q d c H1 _ (gp.trans (g2.trans s1)) f1 (fun b o n z => by rw [upd_ne n]; exact z) ⟨aa, ll, ks, upd_same, ?_, by decide⟩
    rw [upd_ne (ne_of hc hd (by intro z; cases z))]
    exact hc
end

end Fp

set_option Elab.async false
set_option linter.all false
set_option maxRecDepth 100000
set_option maxHeartbeats 4000000
set_option exponentiation.threshold 10000
namespace Fp
open PySem PySem.Spec PyProof.Rows L2
/-! ### wide things -/
abbrev s_wt : Stmt := topS 36
abbrev N_wt : List Str := ["_law_feed_here", "_law_many", "_law_step", "_law_great", "_law_found"]
theorem sc_wt : FnScope N_wt ["_law_feed_here"] (defScope s_wt) := ⟨rfl, rfl, rfl, by decide +kernel, rfl, by decide +kernel, by decide +kernel⟩
theorem dig_zeros (n : Nat) : ∀ a : Nat, (List.replicate n 48).foldl (fun acc c => acc * 10 + (c - 48)) a = a * 10 ^ n := by
  induction n with
  | zero => intro a; show a = a * 1; omega
  | succ n ih =>
    intro a
    rw [List.replicate_succ, List.foldl_cons, ih, Nat.pow_succ]
    show (a * 10 + 0) * 10 ^ n = a * (10 ^ n * 10)
    rw [Nat.add_zero, Nat.mul_assoc, Nat.mul_comm 10]
theorem mul_zero {n : Nat} (h : 2 ≤ n) : (Txt.mul (Str.ofString "0") (n : Int)).cps.toList = List.replicate n 48 := by
  unfold Txt.mul
  rw [if_neg (by omega), if_neg (by
    rw [Bool.not_eq_true, Bool.or_eq_false_iff]
    exact ⟨by rw [beq_eq_false_iff_ne]; omega, rfl⟩), Int.toNat_natCast]
  show ((List.replicate n #[48]).foldl (· ++ ·) #[]).toList = _
  have key : ∀ (m : Nat) (b : Array Nat), ((List.replicate m #[48]).foldl (· ++ ·) b).toList = b.toList ++ List.replicate m 48 := by
    intro m
    induction m with
    | zero => intro b; show b.toList = b.toList ++ []; rw [List.append_nil]
    | succ m ih =>
      intro b
      rw [List.replicate_succ, List.foldl_cons, ih, Array.toList_append, List.replicate_succ, List.append_assoc]
      rfl
  rw [key]
  rfl
theorem great_reads {n : Nat} (h : 2 ≤ n) (h2 : n ≤ 300) : PySem.intText? (Str.ofString "1" ++ Txt.mul (Str.ofString "0") (n : Int)) = some ((10 ^ n : Nat) : Int) ∧ (Str.ofString "1" ++ Txt.mul (Str.ofString "0") (n : Int)).length ≤ 640 := by
  have e : (Str.ofString "1" ++ Txt.mul (Str.ofString "0") (n : Int)).cps.toList = 49 :: List.replicate n 48 := by
    show ((Str.ofString "1").cps ++ (Txt.mul (Str.ofString "0") (n : Int)).cps).toList = _
    rw [Array.toList_append, mul_zero h]
    rfl
  have el : (Str.ofString "1" ++ Txt.mul (Str.ofString "0") (n : Int)).length = n + 1 := by
    show (Str.ofString "1" ++ Txt.mul (Str.ofString "0") (n : Int)).cps.size = _
    rw [← Array.length_toList, e, List.length_cons, List.length_replicate]
  refine ⟨?_, by omega⟩
  have z := PySem.intText_digits (x := Str.ofString "1" ++ Txt.mul (Str.ofString "0") (n : Int)) (by
    rw [e]
    intro c hc
    rcases List.mem_cons.mp hc with rfl | hc
    · decide
    · rw [List.eq_of_mem_replicate hc]
      decide) (by rw [e]; exact fun z => nomatch z) (by omega)
  rw [z, e]
  congr 2
  show (List.replicate n 48).foldl (fun acc c => acc * 10 + (c - 48)) (0 * 10 + (49 - 48)) = 10 ^ n
  rw [dig_zeros]
  omega
def wsT : TA := (tCons (tTup (tCons (tC (.int 1)) (tCons (tC (.int 2)) tNil))) (tCons (tTup (tCons (tC (.int 1)) (tCons (tC (.int 9)) tNil))) (tCons (tTup (tCons (tC (.int 39)) (tCons (tC (.int 40)) tNil))) (tCons (tTup (tCons (tC (.int 0)) (tCons (tC (.int 1)) tNil))) tNil))))
def wsD : List PyData := [.tuple [.int 1, .int 2], .tuple [.int 1, .int 9], .tuple [.int 39, .int 40], .tuple [.int 0, .int 1]]
theorem wsL {K : PySem.W.Frag} : Lits K wsT wsD := by
  unfold wsT wsD
  exact (.cons (.tup (.cons .int (.cons .int .nil)) (by decide)) (.cons (.tup (.cons .int (.cons .int .nil)) (by decide)) (.cons (.tup (.cons .int (.cons .int .nil)) (by decide)) (.cons (.tup (.cons .int (.cons .int .nil)) (by decide)) .nil))))
theorem twoB {b l : Nat} {x y : Int} (hx : Sm b x) (hy : Sm b y) (hl : 2 ≤ l) : Bk b l 2 1 (.tuple [.int x, .int y]) := (Bks.cons (Bk.int hx) (Bks.cons (Bk.int hy) Bks.nil)).tup hl
theorem pairB {b l c1 c2 k : Nat} {x y : PyData} (hx : Bk b l c1 k x) (hy : Bk b l c2 k y) (hl : 2 ≤ l) : Bk b l (c1 + c2 + 2) (k + 1) (.tuple [x, y]) := ((Bks.cons hx (Bks.cons hy Bks.nil)).tup hl).mono (Nat.le_refl _) (Nat.le_refl _) (by omega) (Nat.le_refl _)
theorem repB {n : Nat} {e : PyData} (h : Bk 8 41 2 1 e) (hn : n ≤ 40) : Bk 8 41 120 2 (.tuple (List.replicate n e)) :=
  ((Bks.all (ds := List.replicate n e) fun d hd => by rw [List.eq_of_mem_replicate hd]; exact h).tup (by rw [List.length_replicate]; omega)).mono (Nat.le_refl _) (Nat.le_refl _) (by rw [List.length_replicate]; omega) (Nat.le_refl _)
theorem wsB {x : PyData} (h : x ∈ wsD) : Bk 8 41 2 1 x := by
  unfold wsD at h
  simp only [List.mem_cons, List.not_mem_nil, or_false] at h
  rcases h with rfl | rfl | rfl | rfl <;> exact twoB (by unfold Sm; decide) (by unfold Sm; decide) (by decide)
theorem wideB {M G : Nat} {x3 : PyData} (hM1 : 13 ≤ M) (hM2 : M ≤ 40) (sG : 2 ≤ G ∧ G < 2 ^ 662) (h3 : x3 ∈ wsD) : ∀ x ∈ ((([PyData.tuple [PyData.tuple (List.replicate M (PyData.tuple [PyData.int 1, PyData.int 100])), x3], PyData.tuple [PyData.tuple (List.replicate M (PyData.tuple [PyData.int 1, PyData.int 100])), PyData.tuple [PyData.int 0, PyData.int 1]], PyData.tuple [PyData.tuple (List.replicate M (PyData.tuple [PyData.int 1, PyData.int ((M : Nat) : Int)])), PyData.tuple [PyData.int 0, PyData.int 1]]] ++
    [PyData.tuple [PyData.tuple (List.replicate M (PyData.tuple [PyData.int 1, PyData.int ((M : Nat) : Int)])), PyData.tuple [PyData.int 1, PyData.int 9]], PyData.tuple [PyData.tuple (List.replicate (M - 1) (PyData.tuple [PyData.int 0, PyData.int 1]) ++ [PyData.tuple [PyData.int 1, PyData.int 2]]), x3]]) ++
    [PyData.tuple [PyData.tuple [PyData.tuple [PyData.int 1, PyData.int ((G : Nat) : Int)], PyData.tuple [PyData.int (((G : Nat) : Int) - 1), PyData.int ((G : Nat) : Int)]], PyData.tuple [PyData.int 0, PyData.int 1]], PyData.tuple [PyData.tuple [PyData.tuple [PyData.int 2, PyData.int ((G : Nat) : Int)], PyData.tuple [PyData.int (((G : Nat) : Int) - 1), PyData.int ((G : Nat) : Int)]], PyData.tuple [PyData.int 0, PyData.int 1]]]) ++
    [PyData.tuple [PyData.tuple [PyData.tuple [PyData.int 1, PyData.int ((G : Nat) : Int)]], PyData.tuple [PyData.int (((G : Nat) : Int) - 1), PyData.int ((G : Nat) : Int)]], PyData.tuple [PyData.tuple [PyData.tuple [PyData.int 2, PyData.int ((G : Nat) : Int)]], PyData.tuple [PyData.int (((G : Nat) : Int) - 1), PyData.int ((G : Nat) : Int)]]]), Bk 8 41 200 3 x ∨ Bk 662 2 20 3 x := by
  have up : ∀ {e : PyData}, Bk 8 41 2 1 e → Bk 8 41 2 2 e := fun h => h.mono (Nat.le_refl _) (Nat.le_refl _) (Nat.le_refl _) (by decide)
  have sM : Sm 8 ((M : Nat) : Int) := by unfold Sm; omega
  have b100 : Bk 8 41 2 1 (PyData.tuple [PyData.int 1, PyData.int 100]) := twoB (by unfold Sm; decide) (by unfold Sm; decide) (by decide)
  have b01 : Bk 8 41 2 1 (PyData.tuple [PyData.int 0, PyData.int 1]) := twoB (by unfold Sm; decide) (by unfold Sm; decide) (by decide)
  have b19 : Bk 8 41 2 1 (PyData.tuple [PyData.int 1, PyData.int 9]) := twoB (by unfold Sm; decide) (by unfold Sm; decide) (by decide)
  have b12 : Bk 8 41 2 1 (PyData.tuple [PyData.int 1, PyData.int 2]) := twoB (by unfold Sm; decide) (by unfold Sm; decide) (by decide)
  have bM : Bk 8 41 2 1 (PyData.tuple [PyData.int 1, PyData.int ((M : Nat) : Int)]) := twoB (by unfold Sm; decide) sM (by decide)
  have e2 : (2 : Nat) < 2 ^ 662 := by decide
  have g1 : ∀ i : Int, i = 1 ∨ i = 2 ∨ i = 0 → Sm 662 i := fun i z => by unfold Sm; rcases z with rfl | rfl | rfl <;> decide
  have sG0 : Sm 662 ((G : Nat) : Int) := by unfold Sm; omega
  have sG1 : Sm 662 (((G : Nat) : Int) - 1) := by unfold Sm; omega
  have c1 : Bk 662 2 2 1 (PyData.tuple [PyData.int 1, PyData.int ((G : Nat) : Int)]) := twoB (g1 _ (.inl rfl)) sG0 (Nat.le_refl _)
  have c2 : Bk 662 2 2 1 (PyData.tuple [PyData.int 2, PyData.int ((G : Nat) : Int)]) := twoB (g1 _ (.inr (.inl rfl))) sG0 (Nat.le_refl _)
  have c3 : Bk 662 2 2 1 (PyData.tuple [PyData.int (((G : Nat) : Int) - 1), PyData.int ((G : Nat) : Int)]) := twoB sG1 sG0 (Nat.le_refl _)
  have c4 : Bk 662 2 2 1 (PyData.tuple [PyData.int 0, PyData.int 1]) := twoB (g1 _ (.inr (.inr rfl))) (g1 _ (.inl rfl)) (Nat.le_refl _)
  have upG : ∀ {e : PyData}, Bk 662 2 2 1 e → Bk 662 2 2 2 e := fun h => h.mono (Nat.le_refl _) (Nat.le_refl _) (Nat.le_refl _) (by decide)
  have oneG : ∀ {e : PyData}, Bk 662 2 2 1 e → Bk 662 2 3 2 (.tuple [e]) := fun h => (Bks.cons h Bks.nil).tup (by show 1 ≤ 2; decide)
  have long : Bk 8 41 124 2 (PyData.tuple (List.replicate (M - 1) (PyData.tuple [PyData.int 0, PyData.int 1]) ++ [PyData.tuple [PyData.int 1, PyData.int 2]])) := by
    have z := Bks.all (ds := List.replicate (M - 1) (PyData.tuple [PyData.int 0, PyData.int 1])) fun d hd => by rw [List.eq_of_mem_replicate hd]; exact b01
    refine ((z.app (Bks.cons b12 Bks.nil)).tup (by rw [List.length_append, List.length_replicate]; show M - 1 + 1 ≤ 41; omega)).mono (Nat.le_refl _) (Nat.le_refl _) (by rw [List.length_replicate]; omega) (Nat.le_refl _)
  have k8 : ∀ {c : Nat} {x : PyData}, Bk 8 41 c 3 x → c ≤ 200 → Bk 8 41 200 3 x ∨ Bk 662 2 20 3 x := fun h hc => .inl (h.mono (Nat.le_refl _) (Nat.le_refl _) hc (Nat.le_refl _))
  have kG : ∀ {c : Nat} {x : PyData}, Bk 662 2 c 3 x → c ≤ 20 → Bk 8 41 200 3 x ∨ Bk 662 2 20 3 x := fun h hc => .inr (h.mono (Nat.le_refl _) (Nat.le_refl _) hc (Nat.le_refl _))
  intro x hx
  simp only [List.cons_append, List.nil_append, List.mem_cons, List.not_mem_nil, or_false] at hx
  rcases hx with rfl | rfl | rfl | rfl | rfl | rfl | rfl | rfl | rfl
  · exact k8 (pairB (repB b100 hM2) (up (wsB h3)) (by decide)) (by decide)
  · exact k8 (pairB (repB b100 hM2) (up b01) (by decide)) (by decide)
  · exact k8 (pairB (repB bM hM2) (up b01) (by decide)) (by decide)
  · exact k8 (pairB (repB bM hM2) (up b19) (by decide)) (by decide)
  · exact k8 (pairB long (up (wsB h3)) (by decide)) (by decide)
  · exact kG (pairB (pairB c1 c3 (by decide)) (upG c4) (by decide)) (by decide)
  · exact kG (pairB (pairB c2 c3 (by decide)) (upG c4) (by decide)) (by decide)
  · exact kG (pairB (oneG c1) (upG c3) (by decide)) (by decide)
  · exact kG (pairB (oneG c2) (upG c3) (by decide)) (by decide)
section
variable {P : Program} {w : World} {K : PySem.W.Frag} {mg : Str → Option Value} {base : Heap}
def spWt (K : PySem.W.Frag) : Sp := fun vs H Q _ => ∃ (d c : Addr) (t : Int), vs = [.ref d] ∧ Feed H d c t ∧ t ≤ 800000 ∧ ∀ L us ds H', Keep d H H' → H' L = some (.lst us) → DpXAll K H' us ds → ds.length ≤ 10 → (∀ x ∈ ds, Bk 8 41 200 3 x ∨ Bk 662 2 20 3 x) → Q (.ref L) H'
theorem ok_wt {f fD : Addr} {fd fdD : FuncData} (F : Fun K "_law_wide_things" "_law_wide_things" s_wt f fd)
    (FD : Fun K "_law_draw" "_law_draw" s_draw fD fdD) (bD : Binds K fdD ["_law_feed_here", "_law_many"] []) (gD : mg "_law_draw" = some (.ref fD)) (GD : FnOk P w K mg base CX0 1 fD fdD ["_law_feed_here", "_law_many"] spDraw)
    (n_int : mg "int" = none) : FnOk P w K mg base CX0 3 f fd ["_law_feed_here"] (spWt K) := by
  refine F.ok sc_wt (fun vs H Q E h => ?_) (fun cdv A outer s H vs Q E hr h => ?_)
  · obtain ⟨_, _, _, rfl, _⟩ := h
    rfl
  · obtain ⟨d, c, t, rfl, f0, ht, q⟩ := h
    refine ⟨_, (pss_cons (ps_par (i := 1) (j := 2) rfl sc_wt.nd rfl rfl (by decide) rfl rfl (pa_cons (pe_op op_add pe_int (pe_call GD (hr.mono (by decide)) (by rfl) gD FD.kp bD .nil pass0 (pa_cons (pv 0) (pa_cons pe_int pa_nil)))) (pa_cons (pe_ix ix_list (pe_lst (pa_cons (pe_tup (pa_cons pe_int (pa_cons pe_int pa_nil))) (pa_cons (pe_tup (pa_cons pe_int (pa_cons pe_int pa_nil))) (pa_cons (pe_tup (pa_cons pe_int (pa_cons pe_int pa_nil))) (pa_cons (pe_tup (pa_cons pe_int (pa_cons pe_int pa_nil))) pa_nil))))) (pe_call GD (hr.mono (by decide)) (by rfl) gD FD.kp bD .nil pass0 (pa_cons (pv 0) (pa_cons pe_int pa_nil))) (fun _ _ => rfl)) pa_nil)) (by rfl))
      (pss_cons (ps_set (i := 3) sc_wt.nd rfl (.inl rfl) (pe_op op_add (pe_callTy call_intT (by rfl) n_int (by decide +kernel) (pa_cons (pe_op op_addS pe_str (pe_op op_mulS pe_str (pe_op op_add pe_int (pe_call GD (hr.mono (by decide)) (by rfl) gD FD.kp bD .nil pass0 (pa_cons (pv 0) (pa_cons pe_int pa_nil)))))) pa_nil)) pe_int))
      (pss_cons (ps_set (i := 4) sc_wt.nd rfl (.inl rfl) (pe_lst (pa_cons (pe_tup (pa_cons (pe_op op_repA (pe_tup (pa_cons (pe_tup (pa_cons pe_int (pa_cons pe_int pa_nil))) pa_nil)) (pv 1)) (pa_cons (pv 2) pa_nil))) (pa_cons (pe_tup (pa_cons (pe_op op_repA (pe_tup (pa_cons (pe_tup (pa_cons pe_int (pa_cons pe_int pa_nil))) pa_nil)) (pv 1)) (pa_cons (pe_tup (pa_cons pe_int (pa_cons pe_int pa_nil))) pa_nil))) (pa_cons (pe_tup (pa_cons (pe_op op_repA (pe_tup (pa_cons (pe_tup (pa_cons pe_int (pa_cons (pv 1) pa_nil))) pa_nil)) (pv 1)) (pa_cons (pe_tup (pa_cons pe_int (pa_cons pe_int pa_nil))) pa_nil))) pa_nil)))))
      (pss_cons (ps_set (i := 4) sc_wt.nd rfl (.inl rfl) (pe_op op_cat (pv 4) (pe_lst (pa_cons (pe_tup (pa_cons (pe_op op_repA (pe_tup (pa_cons (pe_tup (pa_cons pe_int (pa_cons (pv 1) pa_nil))) pa_nil)) (pv 1)) (pa_cons (pe_tup (pa_cons pe_int (pa_cons pe_int pa_nil))) pa_nil))) (pa_cons (pe_tup (pa_cons (pe_op op_catA (pe_op op_repA (pe_tup (pa_cons (pe_tup (pa_cons pe_int (pa_cons pe_int pa_nil))) pa_nil)) (pe_op op_sub (pv 1) pe_int)) (pe_tup (pa_cons (pe_tup (pa_cons pe_int (pa_cons pe_int pa_nil))) pa_nil))) (pa_cons (pv 2) pa_nil))) pa_nil)))))
      (pss_cons (ps_set (i := 4) sc_wt.nd rfl (.inl rfl) (pe_op op_cat (pv 4) (pe_lst (pa_cons (pe_tup (pa_cons (pe_tup (pa_cons (pe_tup (pa_cons pe_int (pa_cons (pv 3) pa_nil))) (pa_cons (pe_tup (pa_cons (pe_op op_sub (pv 3) pe_int) (pa_cons (pv 3) pa_nil))) pa_nil))) (pa_cons (pe_tup (pa_cons pe_int (pa_cons pe_int pa_nil))) pa_nil))) (pa_cons (pe_tup (pa_cons (pe_tup (pa_cons (pe_tup (pa_cons pe_int (pa_cons (pv 3) pa_nil))) (pa_cons (pe_tup (pa_cons (pe_op op_sub (pv 3) pe_int) (pa_cons (pv 3) pa_nil))) pa_nil))) (pa_cons (pe_tup (pa_cons pe_int (pa_cons pe_int pa_nil))) pa_nil))) pa_nil)))))
      (pss_one (ps_ret (pe_op op_cat (pv 4) (pe_lst (pa_cons (pe_tup (pa_cons (pe_tup (pa_cons (pe_tup (pa_cons pe_int (pa_cons (pv 3) pa_nil))) pa_nil)) (pa_cons (pe_tup (pa_cons (pe_op op_sub (pv 3) pe_int) (pa_cons (pv 3) pa_nil))) pa_nil))) (pa_cons (pe_tup (pa_cons (pe_tup (pa_cons (pe_tup (pa_cons pe_int (pa_cons (pv 3) pa_nil))) pa_nil)) (pa_cons (pe_tup (pa_cons (pe_op op_sub (pv 3) pe_int) (pa_cons (pv 3) pa_nil))) pa_nil))) pa_nil))))))))))), ?_⟩
    refine ⟨_, rfl, d, c, 28, t, rfl, f0, by omega, by decide, by decide, fun r1 H1 h10 h11 k1 f1 => ?_⟩
    refine ⟨_, _, rfl, rfl, ?_⟩
    refine tcons_go ?_
    refine top_go ?_
    refine lst_go (K := K) (A := fun _ => False) (ta := wsT) wsL (by decide) .no fun Ls vls H2 s2 als eLs => ?_
    have f2 := f1.same s2
    refine ⟨_, rfl, d, c, 4, t + 1, rfl, f2, by omega, by decide, by decide, fun r3 H3 h30 h31 k3 f3 => ?_⟩
    obtain ⟨j3, rfl⟩ : ∃ j3 : Nat, r3 = (j3 : Int) := ⟨r3.toNat, by omega⟩
    obtain ⟨x3, hx3⟩ : ∃ x3, wsD[j3]? = some x3 := ⟨_, List.getElem?_eq_getElem (by show j3 < 4; omega)⟩
    obtain ⟨v3, hv3, hd3⟩ := (als.keep f2 k3).get hx3
    refine ⟨Ls, _, _, v3, rfl, rfl, sqL_keep f2 k3 (SqL.of eLs), atI_nat hv3, ?_⟩
    refine tnil_go ?_
    obtain ⟨M, eM, hM1, hM2⟩ : ∃ M : Nat, (13 : Int) + r1 = ((M : Nat) : Int) ∧ 13 ≤ M ∧ M ≤ 40 := ⟨(13 + r1).toNat, by omega, by omega, by omega⟩
    refine ⟨.int ((M : Nat) : Int), v3, by show [V.int (13 + r1), v3] = _; rw [eM], ?_⟩
    refine ⟨_, rfl, d, c, 191, t + 1 + 1, rfl, f3, by omega, by decide, by decide, fun r4 H4 h40 h41 k4 f4 => ?_⟩
    refine ⟨_, _, rfl, rfl, ?_⟩
    obtain ⟨N, eN, hN1, hN2⟩ : ∃ N : Nat, (9 : Int) + r4 = ((N : Nat) : Int) ∧ 9 ≤ N ∧ N ≤ 199 := ⟨(9 + r4).toNat, by omega, by omega, by omega⟩
    obtain ⟨rd1, rd2⟩ := great_reads (n := N) (by omega) (by omega)
    refine ⟨Str.ofString "0", ((N : Nat) : Int), rfl, by show V.int (9 + r4) = _; rw [eN], by omega, by omega, by decide, ?_⟩
    refine ⟨_, _, rfl, rfl, ?_, ?_⟩
    · have e9 : (Str.ofString "1" ++ Txt.mul (Str.ofString "0") ((N : Nat) : Int)).length = (Str.ofString "1").length + (Txt.mul (Str.ofString "0") ((N : Nat) : Int)).length := Array.size_append
      have := sizeLine_eq
      omega
    refine ⟨_, _, rfl, rd2, rd1, ?_⟩
    refine ⟨_, _, rfl, rfl, ?_⟩
    have fs0 := hd3.keep f3 k4
    obtain ⟨G, eG, sG⟩ : ∃ G : Nat, ((10 ^ N : Nat) : Int) + 1 = ((G : Nat) : Int) ∧ (2 ≤ G ∧ G < 2 ^ 662) := by
      refine ⟨10 ^ N + 1, by omega, ?_, ?_⟩
      · have : 1 ≤ 10 ^ N := Nat.one_le_pow _ _ (by decide)
        omega
      · have h1 : 10 ^ N ≤ 10 ^ 199 := Nat.pow_le_pow_right (by decide) hN2
        have h2 : 10 ^ 199 + 1 < 2 ^ 662 := by decide
        omega
    show gName 3 (V.int (((10 ^ N : Nat) : Int) + 1)) _ _ _
    rw [eG]
    clear rd1 rd2 eG eN eM
    refine ⟨by show 2 ≤ sizeLine; decide, fun xp1 xn2 => ?_⟩
    have xg3 := same_new (o := HO.tup [.int 1, .int 100]) xn2
    have xf4 := DA.tupN (K := K) (A := fun _ => False) (xs := [.int 1, .int 100]) (ds := [PyData.int 1, PyData.int 100]) Dom.no xn2 (DAs.cons DA.int (DAs.cons DA.int DAs.nil))
    generalize exH5 : upd H4 xp1 (HO.tup [.int 1, .int 100]) = xH5 at xg3 xf4 ⊢
    have xf6 := fs0.same xg3
    refine ⟨by show 1 ≤ sizeLine; decide, fun xp8 xn9 => ?_⟩
    have xg10 := same_new (o := HO.tup [(.ref xp1)]) xn9
    have xf11 := DA.tupN (K := K) (A := fun _ => False) (xs := [(.ref xp1)]) (ds := [(PyData.tuple [PyData.int 1, PyData.int 100])]) Dom.no xn9 (DAs.cons xf4 DAs.nil)
    generalize exH12 : upd xH5 xp8 (HO.tup [(.ref xp1)]) = xH12 at xg10 xf11 ⊢
    have xf13 := xf6.same xg10
    refine ⟨_, rfl, ?_⟩
    refine repDz (n := M) (by omega) xf11 (by omega) (by omega) fun xw15 xH16 xs17 xf18 => ?_
    have xf19 := xf13.same xs17
    refine ⟨_, rfl, ?_⟩
    refine ⟨by show 2 ≤ sizeLine; decide, fun xp22 xn23 => ?_⟩
    have xg24 := same_new (o := HO.tup [xw15, v3]) xn23
    have xf25 := DA.tupN (K := K) (A := fun _ => False) (xs := [xw15, v3]) (ds := [(PyData.tuple (List.replicate (M) ((PyData.tuple [PyData.int 1, PyData.int 100])))), x3]) Dom.no xn23 (DAs.cons xf18 (DAs.cons xf19 DAs.nil))
    generalize exH26 : upd xH16 xp22 (HO.tup [xw15, v3]) = xH26 at xg24 xf25 ⊢
    have xf27 := xf19.same xg24
    refine ⟨by show 2 ≤ sizeLine; decide, fun xp29 xn30 => ?_⟩
    have xg31 := same_new (o := HO.tup [.int 1, .int 100]) xn30
    have xf32 := DA.tupN (K := K) (A := fun _ => False) (xs := [.int 1, .int 100]) (ds := [PyData.int 1, PyData.int 100]) Dom.no xn30 (DAs.cons DA.int (DAs.cons DA.int DAs.nil))
    generalize exH33 : upd xH26 xp29 (HO.tup [.int 1, .int 100]) = xH33 at xg31 xf32 ⊢
    have xf34 := xf27.same xg31
    have xf35 := xf25.same xg31
    refine ⟨by show 1 ≤ sizeLine; decide, fun xp37 xn38 => ?_⟩
    have xg39 := same_new (o := HO.tup [(.ref xp29)]) xn38
    have xf40 := DA.tupN (K := K) (A := fun _ => False) (xs := [(.ref xp29)]) (ds := [(PyData.tuple [PyData.int 1, PyData.int 100])]) Dom.no xn38 (DAs.cons xf32 DAs.nil)
    generalize exH41 : upd xH33 xp37 (HO.tup [(.ref xp29)]) = xH41 at xg39 xf40 ⊢
    have xf42 := xf34.same xg39
    have xf43 := xf35.same xg39
    refine ⟨_, rfl, ?_⟩
    refine repDz (n := M) (by omega) xf40 (by omega) (by omega) fun xw45 xH46 xs47 xf48 => ?_
    have xf49 := xf42.same xs47
    have xf50 := xf43.same xs47
    refine ⟨by show 2 ≤ sizeLine; decide, fun xp52 xn53 => ?_⟩
    have xg54 := same_new (o := HO.tup [.int 0, .int 1]) xn53
    have xf55 := DA.tupN (K := K) (A := fun _ => False) (xs := [.int 0, .int 1]) (ds := [PyData.int 0, PyData.int 1]) Dom.no xn53 (DAs.cons DA.int (DAs.cons DA.int DAs.nil))
    generalize exH56 : upd xH46 xp52 (HO.tup [.int 0, .int 1]) = xH56 at xg54 xf55 ⊢
    have xf57 := xf49.same xg54
    have xf58 := xf50.same xg54
    have xf59 := xf48.same xg54
    refine ⟨by show 2 ≤ sizeLine; decide, fun xp61 xn62 => ?_⟩
    have xg63 := same_new (o := HO.tup [xw45, (.ref xp52)]) xn62
    have xf64 := DA.tupN (K := K) (A := fun _ => False) (xs := [xw45, (.ref xp52)]) (ds := [(PyData.tuple (List.replicate (M) ((PyData.tuple [PyData.int 1, PyData.int 100])))), (PyData.tuple [PyData.int 0, PyData.int 1])]) Dom.no xn62 (DAs.cons xf59 (DAs.cons xf55 DAs.nil))
    generalize exH65 : upd xH56 xp61 (HO.tup [xw45, (.ref xp52)]) = xH65 at xg63 xf64 ⊢
    have xf66 := xf57.same xg63
    have xf67 := xf58.same xg63
    refine ⟨_, rfl, ?_⟩
    refine ⟨by show 2 ≤ sizeLine; decide, fun xp69 xn70 => ?_⟩
    have xg71 := same_new (o := HO.tup [.int 1, .int ((M : Nat) : Int)]) xn70
    have xf72 := DA.tupN (K := K) (A := fun _ => False) (xs := [.int 1, .int ((M : Nat) : Int)]) (ds := [PyData.int 1, PyData.int ((M : Nat) : Int)]) Dom.no xn70 (DAs.cons DA.int (DAs.cons DA.int DAs.nil))
    generalize exH73 : upd xH65 xp69 (HO.tup [.int 1, .int ((M : Nat) : Int)]) = xH73 at xg71 xf72 ⊢
    have xf74 := xf66.same xg71
    have xf75 := xf67.same xg71
    have xf76 := xf64.same xg71
    refine ⟨by show 1 ≤ sizeLine; decide, fun xp78 xn79 => ?_⟩
    have xg80 := same_new (o := HO.tup [(.ref xp69)]) xn79
    have xf81 := DA.tupN (K := K) (A := fun _ => False) (xs := [(.ref xp69)]) (ds := [(PyData.tuple [PyData.int 1, PyData.int ((M : Nat) : Int)])]) Dom.no xn79 (DAs.cons xf72 DAs.nil)
    generalize exH82 : upd xH73 xp78 (HO.tup [(.ref xp69)]) = xH82 at xg80 xf81 ⊢
    have xf83 := xf74.same xg80
    have xf84 := xf75.same xg80
    have xf85 := xf76.same xg80
    refine ⟨_, rfl, ?_⟩
    refine repDz (n := M) (by omega) xf81 (by omega) (by omega) fun xw87 xH88 xs89 xf90 => ?_
    have xf91 := xf83.same xs89
    have xf92 := xf84.same xs89
    have xf93 := xf85.same xs89
    refine ⟨by show 2 ≤ sizeLine; decide, fun xp95 xn96 => ?_⟩
    have xg97 := same_new (o := HO.tup [.int 0, .int 1]) xn96
    have xf98 := DA.tupN (K := K) (A := fun _ => False) (xs := [.int 0, .int 1]) (ds := [PyData.int 0, PyData.int 1]) Dom.no xn96 (DAs.cons DA.int (DAs.cons DA.int DAs.nil))
    generalize exH99 : upd xH88 xp95 (HO.tup [.int 0, .int 1]) = xH99 at xg97 xf98 ⊢
    have xf100 := xf91.same xg97
    have xf101 := xf92.same xg97
    have xf102 := xf93.same xg97
    have xf103 := xf90.same xg97
    refine ⟨by show 2 ≤ sizeLine; decide, fun xp105 xn106 => ?_⟩
    have xg107 := same_new (o := HO.tup [xw87, (.ref xp95)]) xn106
    have xf108 := DA.tupN (K := K) (A := fun _ => False) (xs := [xw87, (.ref xp95)]) (ds := [(PyData.tuple (List.replicate (M) ((PyData.tuple [PyData.int 1, PyData.int ((M : Nat) : Int)])))), (PyData.tuple [PyData.int 0, PyData.int 1])]) Dom.no xn106 (DAs.cons xf103 (DAs.cons xf98 DAs.nil))
    generalize exH109 : upd xH99 xp105 (HO.tup [xw87, (.ref xp95)]) = xH109 at xg107 xf108 ⊢
    have xf110 := xf100.same xg107
    have xf111 := xf101.same xg107
    have xf112 := xf102.same xg107
    refine ⟨by show 3 ≤ sizeLine; decide, fun xp114 xn115 => ?_⟩
    have xg116 := same_new (o := HO.lst [(.ref xp22), (.ref xp61), (.ref xp105)]) xn115
    have xf120 : DAs K (fun _ => False) xH109 [(.ref xp22), (.ref xp61), (.ref xp105)] [(PyData.tuple [(PyData.tuple (List.replicate (M) ((PyData.tuple [PyData.int 1, PyData.int 100])))), x3]), (PyData.tuple [(PyData.tuple (List.replicate (M) ((PyData.tuple [PyData.int 1, PyData.int 100])))), (PyData.tuple [PyData.int 0, PyData.int 1])]), (PyData.tuple [(PyData.tuple (List.replicate (M) ((PyData.tuple [PyData.int 1, PyData.int ((M : Nat) : Int)])))), (PyData.tuple [PyData.int 0, PyData.int 1])])] := (DAs.cons xf111 (DAs.cons xf112 (DAs.cons xf108 DAs.nil)))
    have xf117 := xf120.same xg116
    have xr119 := upd_same (H := xH109) (a := xp114) (o := HO.lst [(.ref xp22), (.ref xp61), (.ref xp105)])
    generalize exH118 : upd xH109 xp114 (HO.lst [(.ref xp22), (.ref xp61), (.ref xp105)]) = xH118 at xg116 xf117 xr119 ⊢
    have xf121 := xf110.same xg116
    refine ⟨_, rfl, ?_⟩
    refine ⟨_, rfl, ?_⟩
    refine ⟨by show 2 ≤ sizeLine; decide, fun xp124 xn125 => ?_⟩
    have xg126 := same_new (o := HO.tup [.int 1, .int ((M : Nat) : Int)]) xn125
    have xf127 := DA.tupN (K := K) (A := fun _ => False) (xs := [.int 1, .int ((M : Nat) : Int)]) (ds := [PyData.int 1, PyData.int ((M : Nat) : Int)]) Dom.no xn125 (DAs.cons DA.int (DAs.cons DA.int DAs.nil))
    generalize exH128 : upd xH118 xp124 (HO.tup [.int 1, .int ((M : Nat) : Int)]) = xH128 at xg126 xf127 ⊢
    have xf129 := xf121.same xg126
    have xr131 := xg126 _ _ xr119
    have xf130 := xf117.same xg126
    have xr133 := xg126 _ _ xr119
    have xf132 := xf117.same xg126
    refine ⟨by show 1 ≤ sizeLine; decide, fun xp135 xn136 => ?_⟩
    have xg137 := same_new (o := HO.tup [(.ref xp124)]) xn136
    have xf138 := DA.tupN (K := K) (A := fun _ => False) (xs := [(.ref xp124)]) (ds := [(PyData.tuple [PyData.int 1, PyData.int ((M : Nat) : Int)])]) Dom.no xn136 (DAs.cons xf127 DAs.nil)
    generalize exH139 : upd xH128 xp135 (HO.tup [(.ref xp124)]) = xH139 at xg137 xf138 ⊢
    have xf140 := xf129.same xg137
    have xr142 := xg137 _ _ xr131
    have xf141 := xf130.same xg137
    have xr144 := xg137 _ _ xr133
    have xf143 := xf132.same xg137
    refine ⟨_, rfl, ?_⟩
    refine repDz (n := M) (by omega) xf138 (by omega) (by omega) fun xw146 xH147 xs148 xf149 => ?_
    have xf150 := xf140.same xs148
    have xr152 := xs148 _ _ xr142
    have xf151 := xf141.same xs148
    have xr154 := xs148 _ _ xr144
    have xf153 := xf143.same xs148
    refine ⟨by show 2 ≤ sizeLine; decide, fun xp156 xn157 => ?_⟩
    have xg158 := same_new (o := HO.tup [.int 1, .int 9]) xn157
    have xf159 := DA.tupN (K := K) (A := fun _ => False) (xs := [.int 1, .int 9]) (ds := [PyData.int 1, PyData.int 9]) Dom.no xn157 (DAs.cons DA.int (DAs.cons DA.int DAs.nil))
    generalize exH160 : upd xH147 xp156 (HO.tup [.int 1, .int 9]) = xH160 at xg158 xf159 ⊢
    have xf161 := xf150.same xg158
    have xr163 := xg158 _ _ xr152
    have xf162 := xf151.same xg158
    have xr165 := xg158 _ _ xr154
    have xf164 := xf153.same xg158
    have xf166 := xf149.same xg158
    refine ⟨by show 2 ≤ sizeLine; decide, fun xp168 xn169 => ?_⟩
    have xg170 := same_new (o := HO.tup [xw146, (.ref xp156)]) xn169
    have xf171 := DA.tupN (K := K) (A := fun _ => False) (xs := [xw146, (.ref xp156)]) (ds := [(PyData.tuple (List.replicate (M) ((PyData.tuple [PyData.int 1, PyData.int ((M : Nat) : Int)])))), (PyData.tuple [PyData.int 1, PyData.int 9])]) Dom.no xn169 (DAs.cons xf166 (DAs.cons xf159 DAs.nil))
    generalize exH172 : upd xH160 xp168 (HO.tup [xw146, (.ref xp156)]) = xH172 at xg170 xf171 ⊢
    have xf173 := xf161.same xg170
    have xr175 := xg170 _ _ xr163
    have xf174 := xf162.same xg170
    have xr177 := xg170 _ _ xr165
    have xf176 := xf164.same xg170
    refine ⟨by show 2 ≤ sizeLine; decide, fun xp179 xn180 => ?_⟩
    have xg181 := same_new (o := HO.tup [.int 0, .int 1]) xn180
    have xf182 := DA.tupN (K := K) (A := fun _ => False) (xs := [.int 0, .int 1]) (ds := [PyData.int 0, PyData.int 1]) Dom.no xn180 (DAs.cons DA.int (DAs.cons DA.int DAs.nil))
    generalize exH183 : upd xH172 xp179 (HO.tup [.int 0, .int 1]) = xH183 at xg181 xf182 ⊢
    have xf184 := xf173.same xg181
    have xr186 := xg181 _ _ xr175
    have xf185 := xf174.same xg181
    have xr188 := xg181 _ _ xr177
    have xf187 := xf176.same xg181
    have xf189 := xf171.same xg181
    refine ⟨by show 1 ≤ sizeLine; decide, fun xp191 xn192 => ?_⟩
    have xg193 := same_new (o := HO.tup [(.ref xp179)]) xn192
    have xf194 := DA.tupN (K := K) (A := fun _ => False) (xs := [(.ref xp179)]) (ds := [(PyData.tuple [PyData.int 0, PyData.int 1])]) Dom.no xn192 (DAs.cons xf182 DAs.nil)
    generalize exH195 : upd xH183 xp191 (HO.tup [(.ref xp179)]) = xH195 at xg193 xf194 ⊢
    have xf196 := xf184.same xg193
    have xr198 := xg193 _ _ xr186
    have xf197 := xf185.same xg193
    have xr200 := xg193 _ _ xr188
    have xf199 := xf187.same xg193
    have xf201 := xf189.same xg193
    refine ⟨_, rfl, ?_⟩
    refine ⟨_, _, rfl, rfl, ?_⟩
    refine repDz (n := M - 1) (by omega) xf194 (by omega) (by omega) fun xw203 xH204 xs205 xf206 => ?_
    have xf207 := xf196.same xs205
    have xr209 := xs205 _ _ xr198
    have xf208 := xf197.same xs205
    have xr211 := xs205 _ _ xr200
    have xf210 := xf199.same xs205
    have xf212 := xf201.same xs205
    refine ⟨by show 2 ≤ sizeLine; decide, fun xp214 xn215 => ?_⟩
    have xg216 := same_new (o := HO.tup [.int 1, .int 2]) xn215
    have xf217 := DA.tupN (K := K) (A := fun _ => False) (xs := [.int 1, .int 2]) (ds := [PyData.int 1, PyData.int 2]) Dom.no xn215 (DAs.cons DA.int (DAs.cons DA.int DAs.nil))
    generalize exH218 : upd xH204 xp214 (HO.tup [.int 1, .int 2]) = xH218 at xg216 xf217 ⊢
    have xf219 := xf207.same xg216
    have xr221 := xg216 _ _ xr209
    have xf220 := xf208.same xg216
    have xr223 := xg216 _ _ xr211
    have xf222 := xf210.same xg216
    have xf224 := xf212.same xg216
    have xf225 := xf206.same xg216
    refine ⟨by show 1 ≤ sizeLine; decide, fun xp227 xn228 => ?_⟩
    have xg229 := same_new (o := HO.tup [(.ref xp214)]) xn228
    have xf230 := DA.tupN (K := K) (A := fun _ => False) (xs := [(.ref xp214)]) (ds := [(PyData.tuple [PyData.int 1, PyData.int 2])]) Dom.no xn228 (DAs.cons xf217 DAs.nil)
    generalize exH231 : upd xH218 xp227 (HO.tup [(.ref xp214)]) = xH231 at xg229 xf230 ⊢
    have xf232 := xf219.same xg229
    have xr234 := xg229 _ _ xr221
    have xf233 := xf220.same xg229
    have xr236 := xg229 _ _ xr223
    have xf235 := xf222.same xg229
    have xf237 := xf224.same xg229
    have xf238 := xf225.same xg229
    refine catD (A := fun _ => False) .no xf238 xf230 (by rw [sizeLine_eq]; simp; omega) fun xw240 xH241 xs242 xf243 => ?_
    have xf244 := xf232.same xs242
    have xr246 := xs242 _ _ xr234
    have xf245 := xf233.same xs242
    have xr248 := xs242 _ _ xr236
    have xf247 := xf235.same xs242
    have xf249 := xf237.same xs242
    refine ⟨_, rfl, ?_⟩
    refine ⟨by show 2 ≤ sizeLine; decide, fun xp252 xn253 => ?_⟩
    have xg254 := same_new (o := HO.tup [xw240, v3]) xn253
    have xf255 := DA.tupN (K := K) (A := fun _ => False) (xs := [xw240, v3]) (ds := [(PyData.tuple ((List.replicate (M - 1) ((PyData.tuple [PyData.int 0, PyData.int 1]))) ++ [(PyData.tuple [PyData.int 1, PyData.int 2])])), x3]) Dom.no xn253 (DAs.cons xf243 (DAs.cons xf244 DAs.nil))
    generalize exH256 : upd xH241 xp252 (HO.tup [xw240, v3]) = xH256 at xg254 xf255 ⊢
    have xf257 := xf244.same xg254
    have xr259 := xg254 _ _ xr246
    have xf258 := xf245.same xg254
    have xr261 := xg254 _ _ xr248
    have xf260 := xf247.same xg254
    have xf262 := xf249.same xg254
    refine ⟨by show 2 ≤ sizeLine; decide, fun xp264 xn265 => ?_⟩
    have xg266 := same_new (o := HO.lst [(.ref xp168), (.ref xp252)]) xn265
    have xf270 : DAs K (fun _ => False) xH256 [(.ref xp168), (.ref xp252)] [(PyData.tuple [(PyData.tuple (List.replicate (M) ((PyData.tuple [PyData.int 1, PyData.int ((M : Nat) : Int)])))), (PyData.tuple [PyData.int 1, PyData.int 9])]), (PyData.tuple [(PyData.tuple ((List.replicate (M - 1) ((PyData.tuple [PyData.int 0, PyData.int 1]))) ++ [(PyData.tuple [PyData.int 1, PyData.int 2])])), x3])] := (DAs.cons xf262 (DAs.cons xf255 DAs.nil))
    have xf267 := xf270.same xg266
    have xr269 := upd_same (H := xH256) (a := xp264) (o := HO.lst [(.ref xp168), (.ref xp252)])
    generalize exH268 : upd xH256 xp264 (HO.lst [(.ref xp168), (.ref xp252)]) = xH268 at xg266 xf267 xr269 ⊢
    have xf271 := xf257.same xg266
    have xr273 := xg266 _ _ xr259
    have xf272 := xf258.same xg266
    have xr275 := xg266 _ _ xr261
    have xf274 := xf260.same xg266
    refine ⟨xp114, xp264, _, _, rfl, rfl, xr275, xr269, by rw [sizeLine_eq]; simp, fun xp277 xn278 => ?_⟩
    have xg279 := same_new (o := HO.lst ([(.ref xp22), (.ref xp61), (.ref xp105)] ++ [(.ref xp168), (.ref xp252)])) xn278
    have xf280 := (xf274.app xf267).same xg279
    have xr281 := upd_same (H := xH268) (a := xp277) (o := HO.lst ([(.ref xp22), (.ref xp61), (.ref xp105)] ++ [(.ref xp168), (.ref xp252)]))
    generalize exH282 : upd xH268 xp277 (HO.lst ([(.ref xp22), (.ref xp61), (.ref xp105)] ++ [(.ref xp168), (.ref xp252)])) = xH282 at xg279 xf280 xr281 ⊢
    have xf283 := xf271.same xg279
    have xr285 := xg279 _ _ xr273
    have xf284 := xf272.same xg279
    refine ⟨_, rfl, ?_⟩
    refine ⟨_, rfl, ?_⟩
    refine ⟨by show 2 ≤ sizeLine; decide, fun xp288 xn289 => ?_⟩
    have xg290 := same_new (o := HO.tup [.int 1, .int ((G : Nat) : Int)]) xn289
    have xf291 := DA.tupN (K := K) (A := fun _ => False) (xs := [.int 1, .int ((G : Nat) : Int)]) (ds := [PyData.int 1, PyData.int ((G : Nat) : Int)]) Dom.no xn289 (DAs.cons DA.int (DAs.cons DA.int DAs.nil))
    generalize exH292 : upd xH282 xp288 (HO.tup [.int 1, .int ((G : Nat) : Int)]) = xH292 at xg290 xf291 ⊢
    have xf293 := xf283.same xg290
    have xr295 := xg290 _ _ xr281
    have xf294 := xf280.same xg290
    have xr297 := xg290 _ _ xr281
    have xf296 := xf280.same xg290
    refine ⟨_, rfl, ?_⟩
    refine ⟨_, _, rfl, rfl, ?_⟩
    refine ⟨_, rfl, ?_⟩
    refine ⟨by show 2 ≤ sizeLine; decide, fun xp299 xn300 => ?_⟩
    have xg301 := same_new (o := HO.tup [.int (((G : Nat) : Int) - 1), .int ((G : Nat) : Int)]) xn300
    have xf302 := DA.tupN (K := K) (A := fun _ => False) (xs := [.int (((G : Nat) : Int) - 1), .int ((G : Nat) : Int)]) (ds := [PyData.int (((G : Nat) : Int) - 1), PyData.int ((G : Nat) : Int)]) Dom.no xn300 (DAs.cons DA.int (DAs.cons DA.int DAs.nil))
    generalize exH303 : upd xH292 xp299 (HO.tup [.int (((G : Nat) : Int) - 1), .int ((G : Nat) : Int)]) = xH303 at xg301 xf302 ⊢
    have xf304 := xf293.same xg301
    have xr306 := xg301 _ _ xr295
    have xf305 := xf294.same xg301
    have xr308 := xg301 _ _ xr297
    have xf307 := xf296.same xg301
    have xf309 := xf291.same xg301
    refine ⟨by show 2 ≤ sizeLine; decide, fun xp311 xn312 => ?_⟩
    have xg313 := same_new (o := HO.tup [(.ref xp288), (.ref xp299)]) xn312
    have xf314 := DA.tupN (K := K) (A := fun _ => False) (xs := [(.ref xp288), (.ref xp299)]) (ds := [(PyData.tuple [PyData.int 1, PyData.int ((G : Nat) : Int)]), (PyData.tuple [PyData.int (((G : Nat) : Int) - 1), PyData.int ((G : Nat) : Int)])]) Dom.no xn312 (DAs.cons xf309 (DAs.cons xf302 DAs.nil))
    generalize exH315 : upd xH303 xp311 (HO.tup [(.ref xp288), (.ref xp299)]) = xH315 at xg313 xf314 ⊢
    have xf316 := xf304.same xg313
    have xr318 := xg313 _ _ xr306
    have xf317 := xf305.same xg313
    have xr320 := xg313 _ _ xr308
    have xf319 := xf307.same xg313
    refine ⟨by show 2 ≤ sizeLine; decide, fun xp322 xn323 => ?_⟩
    have xg324 := same_new (o := HO.tup [.int 0, .int 1]) xn323
    have xf325 := DA.tupN (K := K) (A := fun _ => False) (xs := [.int 0, .int 1]) (ds := [PyData.int 0, PyData.int 1]) Dom.no xn323 (DAs.cons DA.int (DAs.cons DA.int DAs.nil))
    generalize exH326 : upd xH315 xp322 (HO.tup [.int 0, .int 1]) = xH326 at xg324 xf325 ⊢
    have xf327 := xf316.same xg324
    have xr329 := xg324 _ _ xr318
    have xf328 := xf317.same xg324
    have xr331 := xg324 _ _ xr320
    have xf330 := xf319.same xg324
    have xf332 := xf314.same xg324
    refine ⟨by show 2 ≤ sizeLine; decide, fun xp334 xn335 => ?_⟩
    have xg336 := same_new (o := HO.tup [(.ref xp311), (.ref xp322)]) xn335
    have xf337 := DA.tupN (K := K) (A := fun _ => False) (xs := [(.ref xp311), (.ref xp322)]) (ds := [(PyData.tuple [(PyData.tuple [PyData.int 1, PyData.int ((G : Nat) : Int)]), (PyData.tuple [PyData.int (((G : Nat) : Int) - 1), PyData.int ((G : Nat) : Int)])]), (PyData.tuple [PyData.int 0, PyData.int 1])]) Dom.no xn335 (DAs.cons xf332 (DAs.cons xf325 DAs.nil))
    generalize exH338 : upd xH326 xp334 (HO.tup [(.ref xp311), (.ref xp322)]) = xH338 at xg336 xf337 ⊢
    have xf339 := xf327.same xg336
    have xr341 := xg336 _ _ xr329
    have xf340 := xf328.same xg336
    have xr343 := xg336 _ _ xr331
    have xf342 := xf330.same xg336
    refine ⟨_, rfl, ?_⟩
    refine ⟨by show 2 ≤ sizeLine; decide, fun xp345 xn346 => ?_⟩
    have xg347 := same_new (o := HO.tup [.int 2, .int ((G : Nat) : Int)]) xn346
    have xf348 := DA.tupN (K := K) (A := fun _ => False) (xs := [.int 2, .int ((G : Nat) : Int)]) (ds := [PyData.int 2, PyData.int ((G : Nat) : Int)]) Dom.no xn346 (DAs.cons DA.int (DAs.cons DA.int DAs.nil))
    generalize exH349 : upd xH338 xp345 (HO.tup [.int 2, .int ((G : Nat) : Int)]) = xH349 at xg347 xf348 ⊢
    have xf350 := xf339.same xg347
    have xr352 := xg347 _ _ xr341
    have xf351 := xf340.same xg347
    have xr354 := xg347 _ _ xr343
    have xf353 := xf342.same xg347
    have xf355 := xf337.same xg347
    refine ⟨_, rfl, ?_⟩
    refine ⟨_, _, rfl, rfl, ?_⟩
    refine ⟨_, rfl, ?_⟩
    refine ⟨by show 2 ≤ sizeLine; decide, fun xp357 xn358 => ?_⟩
    have xg359 := same_new (o := HO.tup [.int (((G : Nat) : Int) - 1), .int ((G : Nat) : Int)]) xn358
    have xf360 := DA.tupN (K := K) (A := fun _ => False) (xs := [.int (((G : Nat) : Int) - 1), .int ((G : Nat) : Int)]) (ds := [PyData.int (((G : Nat) : Int) - 1), PyData.int ((G : Nat) : Int)]) Dom.no xn358 (DAs.cons DA.int (DAs.cons DA.int DAs.nil))
    generalize exH361 : upd xH349 xp357 (HO.tup [.int (((G : Nat) : Int) - 1), .int ((G : Nat) : Int)]) = xH361 at xg359 xf360 ⊢
    have xf362 := xf350.same xg359
    have xr364 := xg359 _ _ xr352
    have xf363 := xf351.same xg359
    have xr366 := xg359 _ _ xr354
    have xf365 := xf353.same xg359
    have xf367 := xf355.same xg359
    have xf368 := xf348.same xg359
    refine ⟨by show 2 ≤ sizeLine; decide, fun xp370 xn371 => ?_⟩
    have xg372 := same_new (o := HO.tup [(.ref xp345), (.ref xp357)]) xn371
    have xf373 := DA.tupN (K := K) (A := fun _ => False) (xs := [(.ref xp345), (.ref xp357)]) (ds := [(PyData.tuple [PyData.int 2, PyData.int ((G : Nat) : Int)]), (PyData.tuple [PyData.int (((G : Nat) : Int) - 1), PyData.int ((G : Nat) : Int)])]) Dom.no xn371 (DAs.cons xf368 (DAs.cons xf360 DAs.nil))
    generalize exH374 : upd xH361 xp370 (HO.tup [(.ref xp345), (.ref xp357)]) = xH374 at xg372 xf373 ⊢
    have xf375 := xf362.same xg372
    have xr377 := xg372 _ _ xr364
    have xf376 := xf363.same xg372
    have xr379 := xg372 _ _ xr366
    have xf378 := xf365.same xg372
    have xf380 := xf367.same xg372
    refine ⟨by show 2 ≤ sizeLine; decide, fun xp382 xn383 => ?_⟩
    have xg384 := same_new (o := HO.tup [.int 0, .int 1]) xn383
    have xf385 := DA.tupN (K := K) (A := fun _ => False) (xs := [.int 0, .int 1]) (ds := [PyData.int 0, PyData.int 1]) Dom.no xn383 (DAs.cons DA.int (DAs.cons DA.int DAs.nil))
    generalize exH386 : upd xH374 xp382 (HO.tup [.int 0, .int 1]) = xH386 at xg384 xf385 ⊢
    have xf387 := xf375.same xg384
    have xr389 := xg384 _ _ xr377
    have xf388 := xf376.same xg384
    have xr391 := xg384 _ _ xr379
    have xf390 := xf378.same xg384
    have xf392 := xf380.same xg384
    have xf393 := xf373.same xg384
    refine ⟨by show 2 ≤ sizeLine; decide, fun xp395 xn396 => ?_⟩
    have xg397 := same_new (o := HO.tup [(.ref xp370), (.ref xp382)]) xn396
    have xf398 := DA.tupN (K := K) (A := fun _ => False) (xs := [(.ref xp370), (.ref xp382)]) (ds := [(PyData.tuple [(PyData.tuple [PyData.int 2, PyData.int ((G : Nat) : Int)]), (PyData.tuple [PyData.int (((G : Nat) : Int) - 1), PyData.int ((G : Nat) : Int)])]), (PyData.tuple [PyData.int 0, PyData.int 1])]) Dom.no xn396 (DAs.cons xf393 (DAs.cons xf385 DAs.nil))
    generalize exH399 : upd xH386 xp395 (HO.tup [(.ref xp370), (.ref xp382)]) = xH399 at xg397 xf398 ⊢
    have xf400 := xf387.same xg397
    have xr402 := xg397 _ _ xr389
    have xf401 := xf388.same xg397
    have xr404 := xg397 _ _ xr391
    have xf403 := xf390.same xg397
    have xf405 := xf392.same xg397
    refine ⟨by show 2 ≤ sizeLine; decide, fun xp407 xn408 => ?_⟩
    have xg409 := same_new (o := HO.lst [(.ref xp334), (.ref xp395)]) xn408
    have xf413 : DAs K (fun _ => False) xH399 [(.ref xp334), (.ref xp395)] [(PyData.tuple [(PyData.tuple [(PyData.tuple [PyData.int 1, PyData.int ((G : Nat) : Int)]), (PyData.tuple [PyData.int (((G : Nat) : Int) - 1), PyData.int ((G : Nat) : Int)])]), (PyData.tuple [PyData.int 0, PyData.int 1])]), (PyData.tuple [(PyData.tuple [(PyData.tuple [PyData.int 2, PyData.int ((G : Nat) : Int)]), (PyData.tuple [PyData.int (((G : Nat) : Int) - 1), PyData.int ((G : Nat) : Int)])]), (PyData.tuple [PyData.int 0, PyData.int 1])])] := (DAs.cons xf405 (DAs.cons xf398 DAs.nil))
    have xf410 := xf413.same xg409
    have xr412 := upd_same (H := xH399) (a := xp407) (o := HO.lst [(.ref xp334), (.ref xp395)])
    generalize exH411 : upd xH399 xp407 (HO.lst [(.ref xp334), (.ref xp395)]) = xH411 at xg409 xf410 xr412 ⊢
    have xf414 := xf400.same xg409
    have xr416 := xg409 _ _ xr402
    have xf415 := xf401.same xg409
    have xr418 := xg409 _ _ xr404
    have xf417 := xf403.same xg409
    refine ⟨xp277, xp407, _, _, rfl, rfl, xr418, xr412, by rw [sizeLine_eq]; simp, fun xp420 xn421 => ?_⟩
    have xg422 := same_new (o := HO.lst (([(.ref xp22), (.ref xp61), (.ref xp105)] ++ [(.ref xp168), (.ref xp252)]) ++ [(.ref xp334), (.ref xp395)])) xn421
    have xf423 := (xf417.app xf410).same xg422
    have xr424 := upd_same (H := xH411) (a := xp420) (o := HO.lst (([(.ref xp22), (.ref xp61), (.ref xp105)] ++ [(.ref xp168), (.ref xp252)]) ++ [(.ref xp334), (.ref xp395)]))
    generalize exH425 : upd xH411 xp420 (HO.lst (([(.ref xp22), (.ref xp61), (.ref xp105)] ++ [(.ref xp168), (.ref xp252)]) ++ [(.ref xp334), (.ref xp395)])) = xH425 at xg422 xf423 xr424 ⊢
    have xf426 := xf414.same xg422
    have xr428 := xg422 _ _ xr416
    have xf427 := xf415.same xg422
    refine ⟨_, rfl, ?_⟩
    refine ⟨_, rfl, ?_⟩
    refine ⟨by show 2 ≤ sizeLine; decide, fun xp431 xn432 => ?_⟩
    have xg433 := same_new (o := HO.tup [.int 1, .int ((G : Nat) : Int)]) xn432
    have xf434 := DA.tupN (K := K) (A := fun _ => False) (xs := [.int 1, .int ((G : Nat) : Int)]) (ds := [PyData.int 1, PyData.int ((G : Nat) : Int)]) Dom.no xn432 (DAs.cons DA.int (DAs.cons DA.int DAs.nil))
    generalize exH435 : upd xH425 xp431 (HO.tup [.int 1, .int ((G : Nat) : Int)]) = xH435 at xg433 xf434 ⊢
    have xf436 := xf426.same xg433
    have xr438 := xg433 _ _ xr424
    have xf437 := xf423.same xg433
    have xr440 := xg433 _ _ xr424
    have xf439 := xf423.same xg433
    refine ⟨by show 1 ≤ sizeLine; decide, fun xp442 xn443 => ?_⟩
    have xg444 := same_new (o := HO.tup [(.ref xp431)]) xn443
    have xf445 := DA.tupN (K := K) (A := fun _ => False) (xs := [(.ref xp431)]) (ds := [(PyData.tuple [PyData.int 1, PyData.int ((G : Nat) : Int)])]) Dom.no xn443 (DAs.cons xf434 DAs.nil)
    generalize exH446 : upd xH435 xp442 (HO.tup [(.ref xp431)]) = xH446 at xg444 xf445 ⊢
    have xf447 := xf436.same xg444
    have xr449 := xg444 _ _ xr438
    have xf448 := xf437.same xg444
    have xr451 := xg444 _ _ xr440
    have xf450 := xf439.same xg444
    refine ⟨_, rfl, ?_⟩
    refine ⟨_, _, rfl, rfl, ?_⟩
    refine ⟨_, rfl, ?_⟩
    refine ⟨by show 2 ≤ sizeLine; decide, fun xp453 xn454 => ?_⟩
    have xg455 := same_new (o := HO.tup [.int (((G : Nat) : Int) - 1), .int ((G : Nat) : Int)]) xn454
    have xf456 := DA.tupN (K := K) (A := fun _ => False) (xs := [.int (((G : Nat) : Int) - 1), .int ((G : Nat) : Int)]) (ds := [PyData.int (((G : Nat) : Int) - 1), PyData.int ((G : Nat) : Int)]) Dom.no xn454 (DAs.cons DA.int (DAs.cons DA.int DAs.nil))
    generalize exH457 : upd xH446 xp453 (HO.tup [.int (((G : Nat) : Int) - 1), .int ((G : Nat) : Int)]) = xH457 at xg455 xf456 ⊢
    have xf458 := xf447.same xg455
    have xr460 := xg455 _ _ xr449
    have xf459 := xf448.same xg455
    have xr462 := xg455 _ _ xr451
    have xf461 := xf450.same xg455
    have xf463 := xf445.same xg455
    refine ⟨by show 2 ≤ sizeLine; decide, fun xp465 xn466 => ?_⟩
    have xg467 := same_new (o := HO.tup [(.ref xp442), (.ref xp453)]) xn466
    have xf468 := DA.tupN (K := K) (A := fun _ => False) (xs := [(.ref xp442), (.ref xp453)]) (ds := [(PyData.tuple [(PyData.tuple [PyData.int 1, PyData.int ((G : Nat) : Int)])]), (PyData.tuple [PyData.int (((G : Nat) : Int) - 1), PyData.int ((G : Nat) : Int)])]) Dom.no xn466 (DAs.cons xf463 (DAs.cons xf456 DAs.nil))
    generalize exH469 : upd xH457 xp465 (HO.tup [(.ref xp442), (.ref xp453)]) = xH469 at xg467 xf468 ⊢
    have xf470 := xf458.same xg467
    have xr472 := xg467 _ _ xr460
    have xf471 := xf459.same xg467
    have xr474 := xg467 _ _ xr462
    have xf473 := xf461.same xg467
    refine ⟨_, rfl, ?_⟩
    refine ⟨by show 2 ≤ sizeLine; decide, fun xp476 xn477 => ?_⟩
    have xg478 := same_new (o := HO.tup [.int 2, .int ((G : Nat) : Int)]) xn477
    have xf479 := DA.tupN (K := K) (A := fun _ => False) (xs := [.int 2, .int ((G : Nat) : Int)]) (ds := [PyData.int 2, PyData.int ((G : Nat) : Int)]) Dom.no xn477 (DAs.cons DA.int (DAs.cons DA.int DAs.nil))
    generalize exH480 : upd xH469 xp476 (HO.tup [.int 2, .int ((G : Nat) : Int)]) = xH480 at xg478 xf479 ⊢
    have xf481 := xf470.same xg478
    have xr483 := xg478 _ _ xr472
    have xf482 := xf471.same xg478
    have xr485 := xg478 _ _ xr474
    have xf484 := xf473.same xg478
    have xf486 := xf468.same xg478
    refine ⟨by show 1 ≤ sizeLine; decide, fun xp488 xn489 => ?_⟩
    have xg490 := same_new (o := HO.tup [(.ref xp476)]) xn489
    have xf491 := DA.tupN (K := K) (A := fun _ => False) (xs := [(.ref xp476)]) (ds := [(PyData.tuple [PyData.int 2, PyData.int ((G : Nat) : Int)])]) Dom.no xn489 (DAs.cons xf479 DAs.nil)
    generalize exH492 : upd xH480 xp488 (HO.tup [(.ref xp476)]) = xH492 at xg490 xf491 ⊢
    have xf493 := xf481.same xg490
    have xr495 := xg490 _ _ xr483
    have xf494 := xf482.same xg490
    have xr497 := xg490 _ _ xr485
    have xf496 := xf484.same xg490
    have xf498 := xf486.same xg490
    refine ⟨_, rfl, ?_⟩
    refine ⟨_, _, rfl, rfl, ?_⟩
    refine ⟨_, rfl, ?_⟩
    refine ⟨by show 2 ≤ sizeLine; decide, fun xp500 xn501 => ?_⟩
    have xg502 := same_new (o := HO.tup [.int (((G : Nat) : Int) - 1), .int ((G : Nat) : Int)]) xn501
    have xf503 := DA.tupN (K := K) (A := fun _ => False) (xs := [.int (((G : Nat) : Int) - 1), .int ((G : Nat) : Int)]) (ds := [PyData.int (((G : Nat) : Int) - 1), PyData.int ((G : Nat) : Int)]) Dom.no xn501 (DAs.cons DA.int (DAs.cons DA.int DAs.nil))
    generalize exH504 : upd xH492 xp500 (HO.tup [.int (((G : Nat) : Int) - 1), .int ((G : Nat) : Int)]) = xH504 at xg502 xf503 ⊢
    have xf505 := xf493.same xg502
    have xr507 := xg502 _ _ xr495
    have xf506 := xf494.same xg502
    have xr509 := xg502 _ _ xr497
    have xf508 := xf496.same xg502
    have xf510 := xf498.same xg502
    have xf511 := xf491.same xg502
    refine ⟨by show 2 ≤ sizeLine; decide, fun xp513 xn514 => ?_⟩
    have xg515 := same_new (o := HO.tup [(.ref xp488), (.ref xp500)]) xn514
    have xf516 := DA.tupN (K := K) (A := fun _ => False) (xs := [(.ref xp488), (.ref xp500)]) (ds := [(PyData.tuple [(PyData.tuple [PyData.int 2, PyData.int ((G : Nat) : Int)])]), (PyData.tuple [PyData.int (((G : Nat) : Int) - 1), PyData.int ((G : Nat) : Int)])]) Dom.no xn514 (DAs.cons xf511 (DAs.cons xf503 DAs.nil))
    generalize exH517 : upd xH504 xp513 (HO.tup [(.ref xp488), (.ref xp500)]) = xH517 at xg515 xf516 ⊢
    have xf518 := xf505.same xg515
    have xr520 := xg515 _ _ xr507
    have xf519 := xf506.same xg515
    have xr522 := xg515 _ _ xr509
    have xf521 := xf508.same xg515
    have xf523 := xf510.same xg515
    refine ⟨by show 2 ≤ sizeLine; decide, fun xp525 xn526 => ?_⟩
    have xg527 := same_new (o := HO.lst [(.ref xp465), (.ref xp513)]) xn526
    have xf531 : DAs K (fun _ => False) xH517 [(.ref xp465), (.ref xp513)] [(PyData.tuple [(PyData.tuple [(PyData.tuple [PyData.int 1, PyData.int ((G : Nat) : Int)])]), (PyData.tuple [PyData.int (((G : Nat) : Int) - 1), PyData.int ((G : Nat) : Int)])]), (PyData.tuple [(PyData.tuple [(PyData.tuple [PyData.int 2, PyData.int ((G : Nat) : Int)])]), (PyData.tuple [PyData.int (((G : Nat) : Int) - 1), PyData.int ((G : Nat) : Int)])])] := (DAs.cons xf523 (DAs.cons xf516 DAs.nil))
    have xf528 := xf531.same xg527
    have xr530 := upd_same (H := xH517) (a := xp525) (o := HO.lst [(.ref xp465), (.ref xp513)])
    generalize exH529 : upd xH517 xp525 (HO.lst [(.ref xp465), (.ref xp513)]) = xH529 at xg527 xf528 xr530 ⊢
    have xf532 := xf518.same xg527
    have xr534 := xg527 _ _ xr520
    have xf533 := xf519.same xg527
    have xr536 := xg527 _ _ xr522
    have xf535 := xf521.same xg527
    refine ⟨xp420, xp525, _, _, rfl, rfl, xr536, xr530, by rw [sizeLine_eq]; simp, fun xp538 xn539 => ?_⟩
    have xg540 := same_new (o := HO.lst ((([(.ref xp22), (.ref xp61), (.ref xp105)] ++ [(.ref xp168), (.ref xp252)]) ++ [(.ref xp334), (.ref xp395)]) ++ [(.ref xp465), (.ref xp513)])) xn539
    have xf541 := (xf535.app xf528).same xg540
    have xr542 := upd_same (H := xH529) (a := xp538) (o := HO.lst ((([(.ref xp22), (.ref xp61), (.ref xp105)] ++ [(.ref xp168), (.ref xp252)]) ++ [(.ref xp334), (.ref xp395)]) ++ [(.ref xp465), (.ref xp513)]))
    generalize exH543 : upd xH529 xp538 (HO.lst ((([(.ref xp22), (.ref xp61), (.ref xp105)] ++ [(.ref xp168), (.ref xp252)]) ++ [(.ref xp334), (.ref xp395)]) ++ [(.ref xp465), (.ref xp513)])) = xH543 at xg540 xf541 xr542 ⊢
    have xf544 := xf532.same xg540
    have xr546 := xg540 _ _ xr534
    have xf545 := xf533.same xg540
    have SZ := xg3.trans (xg10.trans (xs17.trans (xg24.trans (xg31.trans (xg39.trans (xs47.trans (xg54.trans (xg63.trans (xg71.trans (xg80.trans (xs89.trans (xg97.trans (xg107.trans (xg116.trans (xg126.trans (xg137.trans (xs148.trans (xg158.trans (xg170.trans (xg181.trans (xg193.trans (xs205.trans (xg216.trans (xg229.trans (xs242.trans (xg254.trans (xg266.trans (xg279.trans (xg290.trans (xg301.trans (xg313.trans (xg324.trans (xg336.trans (xg347.trans (xg359.trans (xg372.trans (xg384.trans (xg397.trans (xg409.trans (xg422.trans (xg433.trans (xg444.trans (xg455.trans (xg467.trans (xg478.trans (xg490.trans (xg502.trans (xg515.trans (xg527.trans (xg540))))))))))))))))))))))))))))))))))))))))))))))))))
    refine q _ _ _ _ ((k1.trans (Keep.of_same s2)).trans (k3.trans (k4.trans (Keep.of_same SZ)))) xr542 xf541.un (by simp) (fun x hx => wideB hM1 hM2 sG (List.mem_of_getElem? hx3) x hx)
end

end Fp

set_option Elab.async false
set_option linter.all false
set_option maxRecDepth 100000
set_option maxHeartbeats 4000000
set_option exponentiation.threshold 10000
namespace Fp
open PySem PySem.Spec PyProof.Rows L2
/-! ### the law: what lives are -/
abbrev s_law : Stmt := topS 37
abbrev N_law : List Str := ["_law_script", "_law_feed_here", "_law_bend", "_law_life_here", "_law_some", "_law_turn", "_law_wide", "_law_thing", "_law_kept"]
theorem sc_law : FnScope N_law ["_law_script"] (defScope s_law) := ⟨rfl, rfl, rfl, by decide +kernel, rfl, by decide +kernel, by decide +kernel⟩
def Fits (x : PyData) : Prop := ∃ b l c k, Bk b l c k x ∧ b * (l + 3) ≤ 3400 ∧ 1 ≤ b ∧ b ≤ 690 ∧ l ≤ 900 ∧ c ≤ 8000 ∧ k ≤ 60
theorem Fits.of {b l c k : Nat} {x : PyData} (h : Bk b l c k x) (h1 : b * (l + 3) ≤ 3400) (h2 : 1 ≤ b) (h3 : b ≤ 690) (h4 : l ≤ 900) (h5 : c ≤ 8000) (h6 : k ≤ 60) : Fits x := ⟨b, l, c, k, h, h1, h2, h3, h4, h5, h6⟩
def lv4T : TA := (tCons (tTup (tCons (tTup (tCons (tTup (tCons (tC (.int 1)) (tCons (tC (.int 4)) tNil))) (tCons (tTup (tCons (tC (.int 1)) (tCons (tC (.int 2)) tNil))) tNil))) (tCons (tTup (tCons (tC (.int 1)) (tCons (tC (.int 3)) tNil))) tNil))) (tCons (tTup (tCons (tTup (tCons (tTup (tCons (tC (.int 1)) (tCons (tC (.int 4)) tNil))) (tCons (tTup (tCons (tC (.int 1)) (tCons (tC (.int 2)) tNil))) tNil))) (tCons (tTup (tCons (tC (.int 3)) (tCons (tC (.int 8)) tNil))) tNil))) (tCons (tTup (tCons (tTup (tCons (tTup (tCons (tC (.int 1)) (tCons (tC (.int 3)) tNil))) tNil)) (tCons (tTup (tCons (tC (.int 2)) (tCons (tC (.int 3)) tNil))) tNil))) (tCons (tTup (tCons (tTup (tCons (tTup (tCons (tC (.int 1)) (tCons (tC (.int 3)) tNil))) tNil)) (tCons (tTup (tCons (tC (.int 3)) (tCons (tC (.int 4)) tNil))) tNil))) tNil))))
def lv4D : List PyData := [.tuple [.tuple [.tuple [.int 1, .int 4], .tuple [.int 1, .int 2]], .tuple [.int 1, .int 3]], .tuple [.tuple [.tuple [.int 1, .int 4], .tuple [.int 1, .int 2]], .tuple [.int 3, .int 8]], .tuple [.tuple [.tuple [.int 1, .int 3]], .tuple [.int 2, .int 3]], .tuple [.tuple [.tuple [.int 1, .int 3]], .tuple [.int 3, .int 4]]]
theorem lv4L {K : PySem.W.Frag} : Lits K lv4T lv4D := by
  unfold lv4T lv4D
  exact (.cons (.tup (.cons (.tup (.cons (.tup (.cons .int (.cons .int .nil)) (by decide)) (.cons (.tup (.cons .int (.cons .int .nil)) (by decide)) .nil)) (by decide)) (.cons (.tup (.cons .int (.cons .int .nil)) (by decide)) .nil)) (by decide)) (.cons (.tup (.cons (.tup (.cons (.tup (.cons .int (.cons .int .nil)) (by decide)) (.cons (.tup (.cons .int (.cons .int .nil)) (by decide)) .nil)) (by decide)) (.cons (.tup (.cons .int (.cons .int .nil)) (by decide)) .nil)) (by decide)) (.cons (.tup (.cons (.tup (.cons (.tup (.cons .int (.cons .int .nil)) (by decide)) .nil) (by decide)) (.cons (.tup (.cons .int (.cons .int .nil)) (by decide)) .nil)) (by decide)) (.cons (.tup (.cons (.tup (.cons (.tup (.cons .int (.cons .int .nil)) (by decide)) .nil) (by decide)) (.cons (.tup (.cons .int (.cons .int .nil)) (by decide)) .nil)) (by decide)) .nil))))
def lv1T : TE := (tTup (tCons (tTup (tCons (tTup (tCons (tC (.int 1)) (tCons (tC (.int 999979)) tNil))) (tCons (tTup (tCons (tC (.int 999982)) (tCons (tC (.int 999983)) tNil))) tNil))) (tCons (tTup (tCons (tC (.int 0)) (tCons (tC (.int 1)) tNil))) tNil)))
def lv1D : PyData := .tuple [.tuple [.tuple [.int 1, .int 999979], .tuple [.int 999982, .int 999983]], .tuple [.int 0, .int 1]]
theorem lv1L {K : PySem.W.Frag} : Lit K lv1T lv1D := by
  unfold lv1T lv1D
  exact (.tup (.cons (.tup (.cons (.tup (.cons .int (.cons .int .nil)) (by decide)) (.cons (.tup (.cons .int (.cons .int .nil)) (by decide)) .nil)) (by decide)) (.cons (.tup (.cons .int (.cons .int .nil)) (by decide)) .nil)) (by decide))
def fitB (d : PyData) : Bool := itBn 134 4 d && decide (d.bulk ≤ 20) && decide (d.depth ≤ 4)
theorem fits_lit {d : PyData} (h : bkB d = true) : Fits d := .of (bkB_ok h) (by decide) (by decide) (by decide) (by decide) (by decide) (by decide)
theorem seq_nx {a b : TS} {D D2 : Ends} {σ : L2.St} {H : Hp} (e : D.nx = tSeq a b D2) (h : tSeq a b D2 σ H) : D.nx σ H := by rw [e]; exact h
section
variable {K : PySem.W.Frag} {H H' : Hp} {ts : List Addr} {a0 L : Addr} {xs : List V}
theorem hid_push (k : ∀ b o, b ≠ L → H b = some o → H' b = some o) : Same (hid (· = L) H) (hid (· = L) H') := fun b o h => hid_mk (hid_some h).1 (k b o (hid_some h).1 (hid_some h).2)
theorem hid_new {HX : Hp} (n : H L = none) (s : Same H HX) : Same H (hid (· = L) HX) := fun b o h => hid_mk (fun z => by rw [z, n] at h; cases h) (s b o h)
structure St (K : PySem.W.Frag) (ts : List Addr) (a0 : Addr) (xs : List V) (A : Addr → Prop) (H : Hp) : Prop where
  sq : SqL K (hid A H) a0 xs
  tb : Tabs ts (hid A H)
theorem St.same {A : Addr → Prop} (h : St K ts a0 xs A H) (s : Same H H') : St K ts a0 xs A H' := ⟨(hid_same s).seq h.sq, h.tb.same (hid_same s)⟩
theorem St.keep {A : Addr → Prop} {d c : Addr} {t : Int} (h : St K ts a0 xs A H) (f : Feed H d c t) (k : Keep d H H') : St K ts a0 xs A H' := ⟨sqL_keepA f k h.sq, fun x hx => hid_mk (hid_some (h.tb x hx)).1 (keep_at f k (hid_some (h.tb x hx)).2 (fun _ z => nomatch z))⟩
theorem St.push (h : St K ts a0 xs (· = L) H) (k : ∀ b o, b ≠ L → H b = some o → H' b = some o) : St K ts a0 xs (· = L) H' := ⟨(hid_push k).seq h.sq, h.tb.same (hid_push k)⟩
theorem St.new {HX : Hp} (hS : SqL K H a0 xs) (hT : Tabs ts H) (n : H L = none) (s : Same H HX) : St K ts a0 xs (· = L) HX := ⟨(hid_new n s).seq hS, hT.same (hid_new n s)⟩
theorem St.un {A : Addr → Prop} (h : St K ts a0 xs A H) : SqL K H a0 xs ∧ Tabs ts H := ⟨hid_un.seq h.sq, h.tb.same hid_un⟩
end
section
variable {P : Program} {w : World} {K : PySem.W.Frag} {mg : Str → Option Value} {base : Heap}
theorem ok_law {tIL : Addr} {f fE fD fAL fNR fBN fOD fWT fLAT fIL fLIL : Addr} {fd fdE fdD fdAL fdNR fdBN fdOD fdWT fdLAT fdIL fdLIL : FuncData} (F : Fun K "law" "law" s_law f fd)
    (FE : Fun K "_law_feed" "_law_feed" s_feed fE fdE) (bE : Binds K fdE ["_law_script"] []) (gE : mg "_law_feed" = some (.ref fE)) (GE : FnOk P w K mg base CX0 1 fE fdE ["_law_script"] (spFeed K))
    (FD : Fun K "_law_draw" "_law_draw" s_draw fD fdD) (bD : Binds K fdD ["_law_feed_here", "_law_many"] []) (gD : mg "_law_draw" = some (.ref fD)) (GD : FnOk P w K mg base CX0 1 fD fdD ["_law_feed_here", "_law_many"] spDraw)
    (FAL : Fun K "_law_any_life" "_law_any_life" s_any fAL fdAL) (bAL : Binds K fdAL ["_law_feed_here"] []) (gAL : mg "_law_any_life" = some (.ref fAL)) (GAL : FnOk P w K mg base CX0 3 fAL fdAL ["_law_feed_here"] (spAny K))
    (FNR : Fun K "_law_near" "_law_near" s_near fNR fdNR) (bNR : Binds K fdNR ["_law_feed_here", "_law_life_here"] []) (gNR : mg "_law_near" = some (.ref fNR)) (GNR : FnOk P w K mg base CX0 3 fNR fdNR ["_law_feed_here", "_law_life_here"] (spNear K))
    (FBN : Fun K "_law_bent" "_law_bent" s_bent fBN fdBN) (bBN : Binds K fdBN ["_law_feed_here", "_law_thing"] []) (gBN : mg "_law_bent" = some (.ref fBN)) (GBN : FnOk P w K mg base CX0 23 fBN fdBN ["_law_feed_here", "_law_thing"] (spBent K 20))
    (FOD : Fun K "_law_odd" "_law_odd" s_odd fOD fdOD) (bOD : Binds K fdOD ["_law_feed_here"] []) (gOD : mg "_law_odd" = some (.ref fOD)) (GOD : FnOk P w K mg base CX0 2 fOD fdOD ["_law_feed_here"] (spOdd K))
    (FWT : Fun K "_law_wide_things" "_law_wide_things" s_wt fWT fdWT) (bWT : Binds K fdWT ["_law_feed_here"] []) (gWT : mg "_law_wide_things" = some (.ref fWT)) (GWT : FnOk P w K mg base CX0 3 fWT fdWT ["_law_feed_here"] (spWt K))
    (FLAT : Fun K "_law_later" "_law_later" s_lat fLAT fdLAT) (bLAT : Binds K fdLAT ["_law_script"] []) (gLAT : mg "_law_later" = some (.ref fLAT)) (GLAT : FnOk P w K mg base CX0 2 fLAT fdLAT ["_law_script"] (spLat K))
    (FIL : Fun K "is_life" "is_life" s_il fIL fdIL) (bIL : Binds K fdIL ["thing"] []) (gIL : mg "is_life" = some (.ref fIL)) (GIL : FnOk P w K mg base CX0 6 fIL fdIL ["thing"] (spIl K tIL))
    (FLIL : Fun K "_law_is_life" "_law_is_life" s_lil fLIL fdLIL) (bLIL : Binds K fdLIL ["_law_thing"] []) (gLIL : mg "_law_is_life" = some (.ref fLIL)) (GLIL : FnOk P w K mg base CX0 5 fLIL fdLIL ["_law_thing"] (spLil K))
   (SY : SysB base)
    (n_range : mg "range" = none) (n_repr : mg "repr" = none) : FnG P w K mg base CX0 25 f fd ["_law_script"] (spLawT K [tIL]) := by
  refine okG F sc_law (fun vs H Q E h => ?_) (fun cdv A outer s H vs Q E hq hr h => ?_)
  · obtain ⟨_, _, rfl, _⟩ := h
    rfl
  · obtain ⟨a0, ns, rfl, hS, hT, q⟩ := h
    refine ⟨_, (pss_cons (ps_set (i := 1) sc_law.nd rfl (.inl rfl) (pe_call GE (hr.mono (by decide)) (by rfl) gE FE.kp bE .nil pass0 (pa_cons (pv 0) pa_nil)))
      (pss_cons (ps_set (i := 2) sc_law.nd rfl (.inl rfl) (pe_call GD (hr.mono (by decide)) (by rfl) gD FD.kp bD .nil pass0 (pa_cons (pv 1) (pa_cons pe_int pa_nil))))
      (pss_cons (ps_set (i := 3) sc_law.nd rfl (.inl rfl) (pe_call GAL (hr.mono (by decide)) (by rfl) gAL FAL.kp bAL .nil pass0 (pa_cons (pv 1) pa_nil)))
      (pss_cons (ps_set (i := 4) sc_law.nd rfl (.inl rfl) (pe_lst (pa_cons (pv 3) (pa_cons (pe_call GNR (hr.mono (by decide)) (by rfl) gNR FNR.kp bNR .nil pass0 (pa_cons (pv 1) (pa_cons (pv 3) pa_nil))) (pa_cons (pe_call GNR (hr.mono (by decide)) (by rfl) gNR FNR.kp bNR .nil pass0 (pa_cons (pv 1) (pa_cons (pv 3) pa_nil))) (pa_cons (pe_call GBN (hr.mono (by decide)) (by rfl) gBN FBN.kp bBN .nil pass0 (pa_cons (pv 1) (pa_cons (pv 3) pa_nil))) (pa_cons (pe_call GOD (hr.mono (by decide)) (by rfl) gOD FOD.kp bOD .nil pass0 (pa_cons (pv 1) pa_nil)) pa_nil)))))))
      (pss_cons (ps_for PassesOwn.never rfl (pi_range1 (by rfl) n_range (pa_cons (pv 2) pa_nil)) (pg_name (i := 5) sc_law.nd rfl (.inl rfl)) (pss_one (ps_expr (pe_bm PySem.F.plainAttrs_list PySem.F.slot_list_append PySem.F.type_list_append mt_append (pv 4) (pa_cons (pe_call GBN (hr.mono (by decide)) (by rfl) gBN FBN.kp bBN .nil pass0 (pa_cons (pv 1) (pa_cons (pe_ix ix_list (pv 4) (pe_un un_neg pe_int) (fun _ _ => rfl)) pa_nil))) pa_nil)))))
      (pss_cons (ps_set (i := 4) sc_law.nd rfl (.inl rfl) (pe_op op_cat (pv 4) (pe_lst (pa_cons (pe_tup (pa_cons (pe_tup (pa_cons (pe_tup (pa_cons pe_int (pa_cons pe_int pa_nil))) (pa_cons (pe_tup (pa_cons pe_int (pa_cons pe_int pa_nil))) pa_nil))) (pa_cons (pe_tup (pa_cons pe_int (pa_cons pe_int pa_nil))) pa_nil))) (pa_cons (pe_tup (pa_cons (pe_tup (pa_cons (pe_tup (pa_cons pe_int (pa_cons pe_int pa_nil))) (pa_cons (pe_tup (pa_cons pe_int (pa_cons pe_int pa_nil))) pa_nil))) (pa_cons (pe_tup (pa_cons pe_int (pa_cons pe_int pa_nil))) pa_nil))) (pa_cons (pe_tup (pa_cons (pe_tup (pa_cons (pe_tup (pa_cons pe_int (pa_cons pe_int pa_nil))) pa_nil)) (pa_cons (pe_tup (pa_cons pe_int (pa_cons pe_int pa_nil))) pa_nil))) (pa_cons (pe_tup (pa_cons (pe_tup (pa_cons (pe_tup (pa_cons pe_int (pa_cons pe_int pa_nil))) pa_nil)) (pa_cons (pe_tup (pa_cons pe_int (pa_cons pe_int pa_nil))) pa_nil))) pa_nil)))))))
      (pss_cons (ps_set (i := 6) sc_law.nd rfl (.inl rfl) (pe_op op_add pe_int (pe_call GD (hr.mono (by decide)) (by rfl) gD FD.kp bD .nil pass0 (pa_cons (pv 1) (pa_cons pe_int pa_nil)))))
      (pss_cons (ps_set (i := 4) sc_law.nd rfl (.inl rfl) (pe_op op_cat (pv 4) (pe_lst (pa_cons (pe_tup (pa_cons (pe_op op_repA (pe_tup (pa_cons (pe_tup (pa_cons pe_int (pa_cons pe_int pa_nil))) pa_nil)) (pv 6)) (pa_cons (pe_tup (pa_cons pe_int (pa_cons pe_int pa_nil))) pa_nil))) (pa_cons (pe_tup (pa_cons (pe_tup (pa_cons (pe_tup (pa_cons pe_int (pa_cons pe_int pa_nil))) (pa_cons (pe_tup (pa_cons pe_int (pa_cons pe_int pa_nil))) pa_nil))) (pa_cons (pe_tup (pa_cons pe_int (pa_cons pe_int pa_nil))) pa_nil))) pa_nil)))))
      (pss_cons (ps_expr (pe_bm PySem.F.plainAttrs_list PySem.F.slot_list_append PySem.F.type_list_append mt_append (pv 4) (pa_cons (pe_tup (pa_cons (pe_tup (pa_cons (pe_tup (pa_cons pe_int (pa_cons pe_int pa_nil))) (pa_cons (pe_tup (pa_cons pe_int (pa_cons pe_int pa_nil))) pa_nil))) (pa_cons (pe_tup (pa_cons pe_int (pa_cons pe_int pa_nil))) pa_nil))) pa_nil)))
      (pss_cons (ps_for PassesOwn.never rfl (pi_list (pe_op op_cat (pe_op op_cat (pv 4) (pe_slice sl_list (pv 4) po_none (po_some pe_int))) (pe_call GWT (hr.mono (by decide)) (by rfl) gWT FWT.kp bWT .nil pass0 (pa_cons (pe_call GLAT (hr.mono (by decide)) (by rfl) gLAT FLAT.kp bLAT .nil pass0 (pa_cons (pv 0) pa_nil)) pa_nil)))) (pg_name (i := 7) sc_law.nd rfl (.inl rfl)) (pss_cons (ps_set (i := 8) sc_law.nd rfl (.inl rfl) (pe_callB (call_reprN hq hr SY) (by rfl) n_repr (by decide +kernel) (pa_cons (pv 7) pa_nil)))
      (pss_one (ps_if (PW.pt (pw_or (pt_cmpR op_ne (pe_callB (call_reprN hq hr SY) (by rfl) n_repr (by decide +kernel) (pa_cons (pe_call GIL (hr.mono (by decide)) (by rfl) gIL FIL.kp bIL .nil pass0 (pa_cons (pv 7) pa_nil)) pa_nil)) (pe_callB (call_reprN hq hr SY) (by rfl) n_repr (by decide +kernel) (pa_cons (pe_call GLIL (hr.mono (by decide)) (by rfl) gLIL FLIL.kp bLIL .nil pass0 (pa_cons (pv 7) pa_nil)) pa_nil)) (nomark _)) (pw_or1 (pt_cmpR op_ne (pe_callB (call_reprN hq hr SY) (by rfl) n_repr (by decide +kernel) (pa_cons (pv 7) pa_nil)) (pv 8) (nomark _))))) (pss_one (ps_ret pe_bl)) pss_nil))))
      (pss_one (ps_ret pe_bl)))))))))))), ?_⟩
    refine ⟨_, rfl, a0, ns, rfl, hS, fun d c H1 s1 f1 => ?_⟩
    refine ⟨_, rfl, d, c, 3, 0, rfl, f1, by omega, by decide, by decide, fun bn H2 h20 h21 k2 f2 => ?_⟩
    refine ⟨_, rfl, ?_⟩
    refine tnil_go ?_
    refine ⟨d, c, _, rfl, f2, by omega, fun p row step t3 H3 k3 f3 ht3 al lf => ?_⟩
    obtain ⟨ok, hl7, _⟩ := al.ok
    have sms : SmR 20 step := ok.st.1.mono (by decide)
    refine ⟨_, rfl, ?_⟩
    refine ⟨_, rfl, ?_⟩
    refine ⟨_, rfl, ?_⟩
    refine tnil_go ?_
    refine ⟨d, c, p, t3, row, step, rfl, f3, by omega, lf, ok.sm, sms, hl7, fun v1 x1 t4 H4 k4 f4 ht4 d1 b1 => ?_⟩
    refine ⟨_, rfl, ?_⟩
    refine ⟨_, rfl, ?_⟩
    refine tnil_go ?_
    refine ⟨d, c, p, t4, row, step, rfl, f4, by omega, lf.tk (Tk.keep f3 k4), ok.sm, sms, hl7, fun v2 x2 t5 H5 k5 f5 ht5 d2 b2 => ?_⟩
    refine ⟨_, rfl, ?_⟩
    refine ⟨_, rfl, ?_⟩
    refine tnil_go ?_
    have lf5 := (lf.tk (Tk.keep f3 k4)).tk (Tk.keep f4 k5)
    have bl := Bk.life (b := 134) (l := 8) ok.sm sms (by decide) (by decide) (by omega) (by decide)
    refine ⟨fun _ => False, d, c, t5, .ref p, lifeD row step, 134, 8, 100, 6, rfl, f5, .no, by omega, DA.no.mpr lf5.dx, bl.mono (Nat.le_refl _) (Nat.le_refl _) (by omega) (by decide), by decide, by decide, by decide, by decide, by decide, by decide, fun v3 x3 t6 H6 k6 f6 ht6 d3 b3 => ?_⟩
    refine ⟨_, rfl, ?_⟩
    refine tnil_go ?_
    refine ⟨fun _ => False, d, c, t6, rfl, f6, .no, by omega, fun v4 x4 t7 H7 k7 f7 ht7 d4 b4 => ?_⟩
    refine tnil_go ?_
    refine ⟨by show 5 ≤ sizeLine; decide, fun L nL => ?_⟩
    have gL := same_new (o := HO.lst [.ref p, v1, v2, v3, v4]) nL
    have lL := LsD.new nL (.cons ((lf5.dx.keep f5 k6).keep f6 k7) (.cons (((d1.keep f4 k5).keep f5 k6).keep f6 k7) (.cons ((d2.keep f5 k6).keep f6 k7) (.cons ((DA.no.mp d3).keep f6 k7) (.cons (DA.no.mp d4) .nil)))))
    have st := St.new (sqL_keep f6 k7 (sqL_keep f5 k6 (sqL_keep f4 k5 (sqL_keep f3 k4 (sqL_keep f2 k3 (sqL_keep f1 k2 (s1.seq hS))))))) ((((((((hT.same s1).keep f1 k2).keep f2 k3).keep f3 k4).keep f4 k5).keep f5 k6).keep f6 k7)) nL gL
    have hLc : L ≠ c := fun z => by
      obtain ⟨_, _, _, _, h2, _⟩ := f7
      rw [← z, nL] at h2
      cases h2
    have fL := f7.same gL
    have hall : ∀ x ∈ [lifeD row step, x1, x2, x3, x4], Bk 135 9 400 11 x := fun x hx => by
      simp only [List.mem_cons, List.not_mem_nil, or_false] at hx
      rcases hx with rfl | rfl | rfl | rfl | rfl
      · exact bl.mono (by decide) (by decide) (by omega) (by decide)
      · exact b1.mono (by decide) (by decide) (by decide) (by decide)
      · exact b2.mono (by decide) (by decide) (by decide) (by decide)
      · exact b3.mono (by decide) (by decide) (by decide) (by decide)
      · exact b4.mono (by decide) (by decide) (by decide) (by decide)
    have hlen : [lifeD row step, x1, x2, x3, x4].length = 5 := rfl
    generalize [lifeD row step, x1, x2, x3, x4] = ds0 at *
    refine ⟨_, rfl, bn, rfl, by omega, by omega, ?_⟩
    refine for_range (lo := 0) (n := bn.toNat) (fun i σ HF => ∃ z5 ds t8, σ = [some (.ref a0), some (.ref d), some (.int bn), some (.ref p), some (.ref L), z5, none, none, none] ∧ LsD K HF L ds ∧ ds.length = 5 + i ∧ (∀ x ∈ ds, Bk (135 + i) (9 + i) (400 * 3 ^ i) (11 + 5 * i) x) ∧ Feed HF d c t8 ∧ t8 ≤ 200 + 100 * (i : Int) ∧ St K [tIL] a0 (ns.map V.int) (· = L) HF) ⟨none, ds0, _, rfl, lL, hlen, hall, fL, by omega, st⟩ ?_ ?_
    · clear lL st hall fL hlen
      rintro i σ HF hi ⟨z5, ds, t8, rfl, lL, hlen, hall, f8, ht8, st⟩
      obtain ⟨vs8, hvs8, _⟩ := id lL
      refine ⟨_, rfl, .inl ⟨rfl, _, SqL.of hvs8⟩, ?_⟩
      refine ⟨_, rfl, ?_⟩
      refine ⟨_, rfl, ?_⟩
      refine ⟨_, rfl, ?_⟩
      obtain ⟨dl, hdl⟩ : ∃ dl, ds[ds.length - 2]? = some dl := ⟨_, List.getElem?_eq_getElem (by omega)⟩
      refine lL.back (k := 2) (d := dl) (by decide) (by omega) hdl fun v9 q9 => ?_
      refine tnil_go ?_
      have h3 : 3 ^ i ≤ 3 := by
        rcases (by omega : i = 0 ∨ i = 1) with rfl | rfl <;> decide
      have h31 : 1 ≤ 3 ^ i := Nat.one_le_pow _ _ (by decide)
      have h32 : 3 ^ (i + 1) = 3 * 3 ^ i := by rw [Nat.pow_succ, Nat.mul_comm]
      have hi2 : i ≤ 1 := by omega
      refine ⟨(· = L), d, c, t8, v9, dl, 135 + i, 9 + i, 400 * 3 ^ i, 11 + 5 * i, rfl, f8, lL.dom, by omega, q9, hall dl (List.mem_of_getElem? hdl), by omega, by omega, by omega, by omega, by omega, by omega, fun vn xn tn HN kn fn htn qn bnn => ?_⟩
      refine tnil_go ?_
      have lN := lL.keep f8 kn
      obtain ⟨vs0, hvs0, _⟩ := id lN
      refine lN.push_go qn (by omega) fun HP lP kP => ?_
      refine ⟨_, _, tn, rfl, lP, by rw [List.length_append]; show ds.length + 1 = _; omega, fun y hy => ?_, feed_push fn hvs0 hLc kP, by omega, (st.keep f8 kn).push kP⟩
      rcases List.mem_append.mp hy with z | z
      · exact (hall y z).mono (by omega) (by omega) (by omega) (by omega)
      · rw [List.mem_singleton.mp z]
        exact bnn.mono (by omega) (by omega) (by omega) (by omega)
    · clear lL st hall fL hlen
      rintro σ HF ⟨z5, ds, t8, rfl, lL, hlen, hall, f8, ht8, st⟩
      have hbn : bn.toNat ≤ 2 := by omega
      have hfit : ∀ x ∈ ds, Fits x := fun x hx => by
        refine .of ((hall x hx).mono (b2 := 137) (w2 := 11) (c2 := 3600) (k2 := 21) (by omega) (by omega) ?_ (by omega)) (by decide) (by decide) (by decide) (by decide) (by decide) (by decide)
        have : 3 ^ bn.toNat ≤ 3 ^ 2 := Nat.pow_le_pow_right (by decide) hbn
        have e : 3 ^ 2 = 9 := rfl
        omega
      have hl7 : ds.length ≤ 7 := by omega
      clear hall hlen h20 h21
      generalize hgb : V.int bn = vbn
      dsimp only
      refine asg_go ?_
      refine top_go ?_
      refine ⟨_, rfl, ?_⟩
      refine lst_go (K := K) (A := fun _ => False) (ta := lv4T) lv4L (by decide) .no fun Ls vls HA sA als eLs => ?_
      obtain ⟨vs, hvs, hD⟩ := id lL
      obtain ⟨st1, st2⟩ := st.un
      refine ⟨L, Ls, vs, vls, rfl, rfl, sA _ _ hvs, eLs, by rw [hD.len, als.len, sizeLine_eq]; show ds.length + 4 ≤ _; omega, fun L2 nL2 => ?_⟩
      have g2 := same_new (o := HO.lst (vs ++ vls)) nL2
      have lL2 := LsD.new nL2 ((hD.un.same sA).app als.un)
      have fA := f8.same (sA.trans g2)
      have stA := St.new (sA.seq st1) (st2.same sA) nL2 g2
      have hfit2 : ∀ x ∈ ds ++ lv4D, Fits x := fun x hx => (List.mem_append.mp hx).elim (hfit x) fun z => fits_lit (List.all_eq_true.mp (show lv4D.all bkB = true by decide +kernel) x z)
      have hl11 : (ds ++ lv4D).length ≤ 11 := by rw [List.length_append]; show ds.length + 4 ≤ 11; omega
      generalize ds ++ lv4D = ds2 at *
      generalize upd HA L2 (HO.lst (vs ++ vls)) = HA2 at *
      clear lL hvs hD als eLs sA g2 f8 st st1 st2 nL2 hfit
      refine ⟨_, rfl, d, c, 4, t8, rfl, fA, by omega, by decide, by decide, fun r HB h10 h11 kB fB => ?_⟩
      refine ⟨_, _, rfl, rfl, ?_⟩
      obtain ⟨W, eW, hW1, hW2⟩ : ∃ W : Nat, (10 : Int) + r = ((W : Nat) : Int) ∧ 10 ≤ W ∧ W ≤ 13 := ⟨(10 + r).toNat, by omega, by omega, by omega⟩
      show gName 6 (V.int ((10 : Int) + r)) _ _ _
      rw [eW]
      refine gn_go ?_
      have lB := lL2.keep fA kB
      have stB := stA.keep fA kB
      clear lL2 stA
      dsimp only
      refine asg_go ?_
      refine top_go ?_
      refine ⟨_, rfl, ?_⟩
      generalize hHC : HB = HC at *
      refine ⟨by show 2 ≤ sizeLine; decide, fun yp1 yn2 => ?_⟩
      have yg3 := same_new (o := HO.tup [.int 1, .int 12]) yn2
      have yf4 := DA.tupN (K := K) (A := fun _ => False) (xs := [.int 1, .int 12]) (ds := [PyData.int 1, PyData.int 12]) Dom.no yn2 (DAs.cons DA.int (DAs.cons DA.int DAs.nil))
      generalize eyH5 : upd HC yp1 (HO.tup [.int 1, .int 12]) = yH5 at yg3 yf4 ⊢
      refine ⟨by show 1 ≤ sizeLine; decide, fun yp7 yn8 => ?_⟩
      have yg9 := same_new (o := HO.tup [(.ref yp1)]) yn8
      have yf10 := DA.tupN (K := K) (A := fun _ => False) (xs := [(.ref yp1)]) (ds := [(PyData.tuple [PyData.int 1, PyData.int 12])]) Dom.no yn8 (DAs.cons yf4 DAs.nil)
      generalize eyH11 : upd yH5 yp7 (HO.tup [(.ref yp1)]) = yH11 at yg9 yf10 ⊢
      refine ⟨_, rfl, ?_⟩
      refine repDz (n := W) (by omega) yf10 (by omega) (by omega) fun yw13 yH14 ys15 yf16 => ?_
      refine ⟨by show 2 ≤ sizeLine; decide, fun yp18 yn19 => ?_⟩
      have yg20 := same_new (o := HO.tup [.int 0, .int 1]) yn19
      have yf21 := DA.tupN (K := K) (A := fun _ => False) (xs := [.int 0, .int 1]) (ds := [PyData.int 0, PyData.int 1]) Dom.no yn19 (DAs.cons DA.int (DAs.cons DA.int DAs.nil))
      generalize eyH22 : upd yH14 yp18 (HO.tup [.int 0, .int 1]) = yH22 at yg20 yf21 ⊢
      have yf23 := yf16.same yg20
      refine ⟨by show 2 ≤ sizeLine; decide, fun yp25 yn26 => ?_⟩
      have yg27 := same_new (o := HO.tup [yw13, (.ref yp18)]) yn26
      have yf28 := DA.tupN (K := K) (A := fun _ => False) (xs := [yw13, (.ref yp18)]) (ds := [(PyData.tuple (List.replicate (W) ((PyData.tuple [PyData.int 1, PyData.int 12])))), (PyData.tuple [PyData.int 0, PyData.int 1])]) Dom.no yn26 (DAs.cons yf23 (DAs.cons yf21 DAs.nil))
      generalize eyH29 : upd yH22 yp25 (HO.tup [yw13, (.ref yp18)]) = yH29 at yg27 yf28 ⊢
      refine ⟨by show 2 ≤ sizeLine; decide, fun yp31 yn32 => ?_⟩
      have yg33 := same_new (o := HO.tup [.int 1, .int 999983]) yn32
      have yf34 := DA.tupN (K := K) (A := fun _ => False) (xs := [.int 1, .int 999983]) (ds := [PyData.int 1, PyData.int 999983]) Dom.no yn32 (DAs.cons DA.int (DAs.cons DA.int DAs.nil))
      generalize eyH35 : upd yH29 yp31 (HO.tup [.int 1, .int 999983]) = yH35 at yg33 yf34 ⊢
      have yf36 := yf28.same yg33
      refine ⟨by show 2 ≤ sizeLine; decide, fun yp38 yn39 => ?_⟩
      have yg40 := same_new (o := HO.tup [.int 999982, .int 999983]) yn39
      have yf41 := DA.tupN (K := K) (A := fun _ => False) (xs := [.int 999982, .int 999983]) (ds := [PyData.int 999982, PyData.int 999983]) Dom.no yn39 (DAs.cons DA.int (DAs.cons DA.int DAs.nil))
      generalize eyH42 : upd yH35 yp38 (HO.tup [.int 999982, .int 999983]) = yH42 at yg40 yf41 ⊢
      have yf43 := yf36.same yg40
      have yf44 := yf34.same yg40
      refine ⟨by show 2 ≤ sizeLine; decide, fun yp46 yn47 => ?_⟩
      have yg48 := same_new (o := HO.tup [(.ref yp31), (.ref yp38)]) yn47
      have yf49 := DA.tupN (K := K) (A := fun _ => False) (xs := [(.ref yp31), (.ref yp38)]) (ds := [(PyData.tuple [PyData.int 1, PyData.int 999983]), (PyData.tuple [PyData.int 999982, PyData.int 999983])]) Dom.no yn47 (DAs.cons yf44 (DAs.cons yf41 DAs.nil))
      generalize eyH50 : upd yH42 yp46 (HO.tup [(.ref yp31), (.ref yp38)]) = yH50 at yg48 yf49 ⊢
      have yf51 := yf43.same yg48
      refine ⟨by show 2 ≤ sizeLine; decide, fun yp53 yn54 => ?_⟩
      have yg55 := same_new (o := HO.tup [.int 0, .int 1]) yn54
      have yf56 := DA.tupN (K := K) (A := fun _ => False) (xs := [.int 0, .int 1]) (ds := [PyData.int 0, PyData.int 1]) Dom.no yn54 (DAs.cons DA.int (DAs.cons DA.int DAs.nil))
      generalize eyH57 : upd yH50 yp53 (HO.tup [.int 0, .int 1]) = yH57 at yg55 yf56 ⊢
      have yf58 := yf51.same yg55
      have yf59 := yf49.same yg55
      refine ⟨by show 2 ≤ sizeLine; decide, fun yp61 yn62 => ?_⟩
      have yg63 := same_new (o := HO.tup [(.ref yp46), (.ref yp53)]) yn62
      have yf64 := DA.tupN (K := K) (A := fun _ => False) (xs := [(.ref yp46), (.ref yp53)]) (ds := [(PyData.tuple [(PyData.tuple [PyData.int 1, PyData.int 999983]), (PyData.tuple [PyData.int 999982, PyData.int 999983])]), (PyData.tuple [PyData.int 0, PyData.int 1])]) Dom.no yn62 (DAs.cons yf59 (DAs.cons yf56 DAs.nil))
      generalize eyH65 : upd yH57 yp61 (HO.tup [(.ref yp46), (.ref yp53)]) = yH65 at yg63 yf64 ⊢
      have yf66 := yf58.same yg63
      refine ⟨by show 2 ≤ sizeLine; decide, fun yp68 yn69 => ?_⟩
      have yg70 := same_new (o := HO.lst [(.ref yp25), (.ref yp61)]) yn69
      have yf74 : DAs K (fun _ => False) yH65 [(.ref yp25), (.ref yp61)] [(PyData.tuple [(PyData.tuple (List.replicate (W) ((PyData.tuple [PyData.int 1, PyData.int 12])))), (PyData.tuple [PyData.int 0, PyData.int 1])]), (PyData.tuple [(PyData.tuple [(PyData.tuple [PyData.int 1, PyData.int 999983]), (PyData.tuple [PyData.int 999982, PyData.int 999983])]), (PyData.tuple [PyData.int 0, PyData.int 1])])] := (DAs.cons yf66 (DAs.cons yf64 DAs.nil))
      have yf71 := yf74.same yg70
      have yr73 := upd_same (H := yH65) (a := yp68) (o := HO.lst [(.ref yp25), (.ref yp61)])
      generalize eyH72 : upd yH65 yp68 (HO.lst [(.ref yp25), (.ref yp61)]) = yH72 at yg70 yf71 yr73 ⊢
      have SY2 := (yg3.trans (yg9.trans (ys15.trans (yg20.trans (yg27.trans (yg33.trans (yg40.trans (yg48.trans (yg55.trans (yg63.trans yg70))))))))))
      obtain ⟨vs, hvs, hD⟩ := id (lB.same SY2)
      obtain ⟨st1, st2⟩ := (stB.same SY2).un
      refine ⟨L2, _, vs, _, rfl, rfl, hvs, yr73, by rw [hD.len, sizeLine_eq]; show ds2.length + 2 ≤ _; omega, fun L3 nL3 => ?_⟩
      have g3 := same_new (o := HO.lst (vs ++ [(.ref yp25), (.ref yp61)])) nL3
      have lL3 := LsD.new nL3 (hD.un.app (yf71).un)
      have st3 := St.new st1 st2 nL3 g3
      clear lB stB SY2 hvs hD st1 st2 fA kB
      have hfit3 : ∀ x ∈ ds2 ++ [(PyData.tuple [(PyData.tuple (List.replicate (W) ((PyData.tuple [PyData.int 1, PyData.int 12])))), (PyData.tuple [PyData.int 0, PyData.int 1])]), (PyData.tuple [(PyData.tuple [(PyData.tuple [PyData.int 1, PyData.int 999983]), (PyData.tuple [PyData.int 999982, PyData.int 999983])]), (PyData.tuple [PyData.int 0, PyData.int 1])])], Fits x := fun x hx => by
        rcases List.mem_append.mp hx with z | z
        · exact hfit2 x z
        · simp only [List.mem_cons, List.not_mem_nil, or_false] at z
          have c12 : Bk 20 13 2 1 (.tuple [.int 1, .int 12]) := twoB (by unfold Sm; decide) (by unfold Sm; decide) (by decide)
          have c0 : Bk 20 13 2 1 (.tuple [.int 0, .int 1]) := twoB (by unfold Sm; decide) (by unfold Sm; decide) (by decide)
          have c1 := c0.mono (k2 := 2) (Nat.le_refl _) (Nat.le_refl _) (Nat.le_refl _) (by decide)
          rcases z with rfl | rfl
          · have r1 := ((Bks.all (ds := List.replicate W (PyData.tuple [PyData.int 1, PyData.int 12])) (b := 20) (l := 13) (c := 2) (k := 1) fun d hd => by rw [List.eq_of_mem_replicate hd]; exact c12).tup (by rw [List.length_replicate]; omega))
            exact .of ((pairB r1 c1 (by decide)).mono (b2 := 20) (w2 := 13) (c2 := 100) (k2 := 3) (Nat.le_refl _) (Nat.le_refl _) (by rw [List.length_replicate]; omega) (Nat.le_refl _)) (by decide) (by decide) (by decide) (by decide) (by decide) (by decide)
          · exact fits_lit (by decide +kernel)
      have hl13 : (ds2 ++ [(PyData.tuple [(PyData.tuple (List.replicate (W) ((PyData.tuple [PyData.int 1, PyData.int 12])))), (PyData.tuple [PyData.int 0, PyData.int 1])]), (PyData.tuple [(PyData.tuple [(PyData.tuple [PyData.int 1, PyData.int 999983]), (PyData.tuple [PyData.int 999982, PyData.int 999983])]), (PyData.tuple [PyData.int 0, PyData.int 1])])]).length ≤ 13 := by rw [List.length_append]; show ds2.length + 2 ≤ 13; omega
      generalize ds2 ++ [(PyData.tuple [(PyData.tuple (List.replicate (W) ((PyData.tuple [PyData.int 1, PyData.int 12])))), (PyData.tuple [PyData.int 0, PyData.int 1])]), (PyData.tuple [(PyData.tuple [(PyData.tuple [PyData.int 1, PyData.int 999983]), (PyData.tuple [PyData.int 999982, PyData.int 999983])]), (PyData.tuple [PyData.int 0, PyData.int 1])])] = ds3 at *
      clear hfit2 hl11
      obtain ⟨vs3, hvs3, _⟩ := id lL3
      refine ⟨_, rfl, .inl ⟨rfl, _, SqL.of hvs3⟩, ?_⟩
      refine tcons_go ?_
      refine lv1L (K := K) (· = L3) _ _ _ lL3.dom fun v4 HD sD d4 => ?_
      refine tnil_go ?_
      refine (lL3.same sD).push_go d4 (by omega) fun HE lE kE => ?_
      have st4 := (st3.same sD).push kE
      have hfit4 : ∀ x ∈ ds3 ++ [lv1D], Fits x := fun x hx => (List.mem_append.mp hx).elim (hfit3 x) fun z => by rw [List.mem_singleton.mp z]; exact fits_lit (by decide +kernel)
      have hl14 : (ds3 ++ [lv1D]).length ≤ 14 := by rw [List.length_append]; show ds3.length + 1 ≤ 14; omega
      generalize ds3 ++ [lv1D] = ds4 at *
      obtain ⟨st1, st2⟩ := st4.un
      clear hfit3 hl13 lL3 st3 hvs3 st4 kE
      refine ⟨_, rfl, ?_⟩
      refine ⟨_, rfl, ?_⟩
      refine noPart_go ?_
      refine ⟨_, rfl, ?_⟩
      refine lE.cat_go (n := 2) (by omega) fun r vs HR sR hr hA => ?_
      refine ⟨_, rfl, a0, ns, rfl, sR.seq st1, fun dq cq HX HY sX fX kX fY => ?_⟩
      refine tnil_go ?_
      refine ⟨dq, cq, 700, rfl, fY, by decide, fun Lw us dw HZ kZ hLw hU hlw hBw => ?_⟩
      have hr2 := keep_at fY kZ (keep_at fX kX (sX _ _ hr) (fun _ z => nomatch z)) (fun _ z => nomatch z)
      have hA2 := ((hA.same sX).keep fX kX).keep fY kZ
      have tbZ := (((st2.same sR).same sX).keep fX kX).keep fY kZ
      refine ⟨r, Lw, vs, us, rfl, rfl, hr2, hLw, by rw [hA2.len, hU.len, sizeLine_eq, List.length_append, List.length_take]; omega, fun R nR => ?_⟩
      have gR := same_new (o := HO.lst (vs ++ us)) nR
      have hAll := (hA2.app hU).same gR
      have tbR := tbZ.same gR
      have hfits : ∀ x ∈ (ds4 ++ ds4.take 2) ++ dw, Fits x := fun x hx => by
        rcases List.mem_append.mp hx with z | z
        · exact (List.mem_append.mp z).elim (hfit4 x) fun y => hfit4 x (List.mem_of_mem_take y)
        · rcases hBw x z with y | y
          · exact .of y (by decide) (by decide) (by decide) (by decide) (by decide) (by decide)
          · exact .of y (by decide) (by decide) (by decide) (by decide) (by decide) (by decide)
      have hRR : upd HZ R (HO.lst (vs ++ us)) R = some (.lst (vs ++ us)) := upd_same
      generalize upd HZ R (HO.lst (vs ++ us)) = HR2 at *
      generalize (ds4 ++ ds4.take 2) ++ dw = dall at *
      clear hA2 hA hU hr hr2 tbZ gR hBw hfit4 lE
      refine ⟨R, rfl, ⟨_, SqL.of hRR⟩, for_list (K := K) (a := R) (xs := vs ++ us) (fun i σ HB => ∃ z7 z8, σ = [some (.ref a0), some (.ref d), some vbn, some (.ref p), some (.ref L3), z5, some (.int ((W : Nat) : Int)), z7, z8] ∧ Same HR2 HB) ⟨_, _, rfl, Same.refl HR2⟩ ?_ ?_ ?_⟩
      · rintro i σ HB _ ⟨_, _, _, sB⟩
        exact SqL.of (sB _ _ hRR)
      · rintro i v σ HB hi ⟨z7, z8, rfl, sBB⟩
        obtain ⟨x, hx, b, l, c', k, hbx, g1, g2, g3, g4, g5, g6⟩ : ∃ x, DpX K HB v x ∧ Fits x := by
          have hl := hAll.len
          have hi2 := (List.getElem?_eq_some_iff.mp hi).1
          obtain ⟨x, hx⟩ : ∃ x, dall[i]? = some x := ⟨_, List.getElem?_eq_getElem (by omega)⟩
          obtain ⟨v', hv', hd'⟩ := hAll.get hx
          rw [hi] at hv'
          cases hv'
          exact ⟨x, hd'.same sBB, hfits x (List.mem_of_getElem? hx)⟩
        refine ⟨_, rfl, ?_⟩
        refine tnil_go ?_
        refine reprD hx hbx (by omega) g5 g6 ?_
        refine ⟨_, rfl, ?_⟩
        refine tnil_go ?_
        refine ⟨v, x, b, l, c', k, rfl, hx, hbx, g1, g2, g3, g4, (tbR.same sBB) tIL (by simp), fun HY sY => ?_⟩
        refine tnil_go ?_
        refine reprD (.bl _) (Bk.bool (b := 1) (w := 1) (k := 1)) (by decide) (by decide) (by decide) ?_
        refine ⟨_, rfl, ?_⟩
        refine tnil_go ?_
        refine ⟨v, x, b, l, c', k, rfl, hx.same sY, hbx, g1, g2, g3, g4, fun HX sX => ?_⟩
        refine tnil_go ?_
        refine reprD (.bl _) (Bk.bool (b := 1) (w := 1) (k := 1)) (by decide) (by decide) (by decide) ?_
        refine ⟨rfl, _, rfl, ?_⟩
        rw [decide_eq_true rfl]
        refine iteF ?_
        refine ⟨_, rfl, ?_⟩
        refine tnil_go ?_
        refine reprD (hx.same (sY.trans sX)) hbx (by omega) g5 g6 ?_
        refine ⟨_, rfl, rfl, _, rfl, ?_⟩
        rw [decide_eq_true rfl]
        refine iteF ?_
        exact ⟨_, _, rfl, sBB.trans (sY.trans sX)⟩
      · rintro σ HB ⟨z7, z8, rfl, sBB⟩
        exact q _ (tbR.same sBB)
end

end Fp

set_option Elab.async false
set_option linter.all false
set_option maxRecDepth 100000
set_option maxHeartbeats 4000000
set_option exponentiation.threshold 10000
namespace Fp
open PySem PySem.Spec PyProof.Rows L2
theorem all_mk {l : PySem.W.OpenLaw} {w : World} {K : PySem.W.Frag} {h : Heap} {mg : Str → Option Value} {fa fWH fC fIR fR fM fT fO fIB fOB fIC fBR fIL fE fD fL fSU fLT fLF fAL fOD fBN fLW fLIR fLIC fLIL fNR fLAT fWT fZ a_NOUGHT a_ONE : Addr} (X : K.In h) (G : h.Ns mainGlobals mg) (hfa : mg "law" = some (.ref fa))
    {odWH anWH : Option Addr} {slWH : Array (Option Value)} {ocWH kVWH dcWH pmWH cdWH ctWH : Value}
    {odC anC : Option Addr} {slC : Array (Option Value)} {ocC kVC dcC pmC cdC ctC : Value}
    {odIR anIR : Option Addr} {slIR : Array (Option Value)} {ocIR kVIR dcIR pmIR cdIR ctIR : Value}
    {odR anR : Option Addr} {slR : Array (Option Value)} {ocR kVR dcR pmR cdR ctR : Value}
    {odM anM : Option Addr} {slM : Array (Option Value)} {ocM kVM dcM pmM cdM ctM : Value}
    {odT anT : Option Addr} {slT : Array (Option Value)} {ocT kVT dcT pmT cdT ctT : Value}
    {odO anO : Option Addr} {slO : Array (Option Value)} {ocO kVO dcO pmO cdO ctO : Value}
    {odIB anIB : Option Addr} {slIB : Array (Option Value)} {ocIB kVIB dcIB pmIB cdIB ctIB : Value}
    {odOB anOB : Option Addr} {slOB : Array (Option Value)} {ocOB kVOB dcOB pmOB cdOB ctOB : Value}
    {odIC anIC : Option Addr} {slIC : Array (Option Value)} {ocIC kVIC dcIC pmIC cdIC ctIC : Value}
    {odBR anBR : Option Addr} {slBR : Array (Option Value)} {ocBR kVBR dcBR pmBR cdBR ctBR : Value}
    {odIL anIL : Option Addr} {slIL : Array (Option Value)} {ocIL kVIL dcIL pmIL ctIL : Value}
    {odE anE : Option Addr} {slE : Array (Option Value)} {ocE kVE dcE pmE cdE ctE : Value}
    {odD anD : Option Addr} {slD : Array (Option Value)} {ocD kVD dcD pmD cdD ctD : Value}
    {odL anL : Option Addr} {slL : Array (Option Value)} {ocL kVL dcL pmL cdL ctL : Value}
    {odSU anSU : Option Addr} {slSU : Array (Option Value)} {ocSU kVSU dcSU pmSU cdSU ctSU : Value}
    {odLT anLT : Option Addr} {slLT : Array (Option Value)} {ocLT kVLT dcLT pmLT cdLT ctLT : Value}
    {odLF anLF : Option Addr} {slLF : Array (Option Value)} {ocLF kVLF dcLF pmLF cdLF ctLF : Value}
    {odAL anAL : Option Addr} {slAL : Array (Option Value)} {ocAL kVAL dcAL pmAL cdAL ctAL : Value}
    {odOD anOD : Option Addr} {slOD : Array (Option Value)} {ocOD kVOD dcOD pmOD cdOD ctOD : Value}
    {odBN anBN : Option Addr} {slBN : Array (Option Value)} {ocBN kVBN dcBN pmBN cdBN ctBN : Value}
    {odLW anLW : Option Addr} {slLW : Array (Option Value)} {ocLW kVLW dcLW pmLW cdLW ctLW : Value}
    {odLIR anLIR : Option Addr} {slLIR : Array (Option Value)} {ocLIR kVLIR dcLIR pmLIR cdLIR ctLIR : Value}
    {odLIC anLIC : Option Addr} {slLIC : Array (Option Value)} {ocLIC kVLIC dcLIC pmLIC cdLIC ctLIC : Value}
    {odLIL anLIL : Option Addr} {slLIL : Array (Option Value)} {ocLIL kVLIL dcLIL pmLIL cdLIL ctLIL : Value}
    {odNR anNR : Option Addr} {slNR : Array (Option Value)} {ocNR kVNR dcNR pmNR cdNR ctNR : Value}
    {odLAT anLAT : Option Addr} {slLAT : Array (Option Value)} {ocLAT kVLAT dcLAT pmLAT cdLAT ctLAT : Value}
    {odWT anWT : Option Addr} {slWT : Array (Option Value)} {ocWT kVWT dcWT pmWT cdWT ctWT : Value}
    {odZ anZ : Option Addr} {slZ : Array (Option Value)} {ocZ kVZ dcZ pmZ cdZ ctZ : Value}
    {od_NOUGHT : Option Addr} {n_NOUGHTx : Nat} {sl_NOUGHT : Array (Option Value)} {t0_NOUGHT t1_NOUGHT : Tok}
    {od_ONE : Option Addr} {n_ONEx : Nat} {sl_ONE : Array (Option Value)} {t0_ONE t1_ONE : Tok}
    {q : Program}
    (aWH : PySem.W.nsIn K mainGlobals "is_whole" = some (some (.ref fWH))) (lWH : K.lookup fWH = some ⟨ocWH, odWH, .func (PySem.W.fnOf "is_whole" "is_whole" (defArgs s_wh) (defBody s_wh) (defScope s_wh) .none kVWH dcWH pmWH anWH cdWH ctWH), slWH⟩) (cWH : PySem.W.codeIn K cdWH "is_whole" = true) (kWH : PySem.W.keepIn K (.ref fWH) = true)
    (aC : PySem.W.nsIn K mainGlobals "common_divisor" = some (some (.ref fC))) (lC : K.lookup fC = some ⟨ocC, odC, .func (PySem.W.fnOf "common_divisor" "common_divisor" (defArgs s_cd) (defBody s_cd) (defScope s_cd) .none kVC dcC pmC anC cdC ctC), slC⟩) (cC : PySem.W.codeIn K cdC "common_divisor" = true) (kC : PySem.W.keepIn K (.ref fC) = true)
    (aIR : PySem.W.nsIn K mainGlobals "is_ratio" = some (some (.ref fIR))) (lIR : K.lookup fIR = some ⟨ocIR, odIR, .func (PySem.W.fnOf "is_ratio" "is_ratio" (defArgs s_ir) (defBody s_ir) (defScope s_ir) .none kVIR dcIR pmIR anIR cdIR ctIR), slIR⟩) (cIR : PySem.W.codeIn K cdIR "is_ratio" = true) (kIR : PySem.W.keepIn K (.ref fIR) = true)
    (aR : PySem.W.nsIn K mainGlobals "ratio" = some (some (.ref fR))) (lR : K.lookup fR = some ⟨ocR, odR, .func (PySem.W.fnOf "ratio" "ratio" (defArgs s_ratio) (defBody s_ratio) (defScope s_ratio) .none kVR dcR pmR anR cdR ctR), slR⟩) (cR : PySem.W.codeIn K cdR "ratio" = true) (kR : PySem.W.keepIn K (.ref fR) = true)
    (aM : PySem.W.nsIn K mainGlobals "minus" = some (some (.ref fM))) (lM : K.lookup fM = some ⟨ocM, odM, .func (PySem.W.fnOf "minus" "minus" (defArgs s_minus) (defBody s_minus) (defScope s_minus) .none kVM dcM pmM anM cdM ctM), slM⟩) (cM : PySem.W.codeIn K cdM "minus" = true) (kM : PySem.W.keepIn K (.ref fM) = true)
    (aT : PySem.W.nsIn K mainGlobals "times" = some (some (.ref fT))) (lT : K.lookup fT = some ⟨ocT, odT, .func (PySem.W.fnOf "times" "times" (defArgs s_times) (defBody s_times) (defScope s_times) .none kVT dcT pmT anT cdT ctT), slT⟩) (cT : PySem.W.codeIn K cdT "times" = true) (kT : PySem.W.keepIn K (.ref fT) = true)
    (aO : PySem.W.nsIn K mainGlobals "over" = some (some (.ref fO))) (lO : K.lookup fO = some ⟨ocO, odO, .func (PySem.W.fnOf "over" "over" (defArgs s_over) (defBody s_over) (defScope s_over) .none kVO dcO pmO anO cdO ctO), slO⟩) (cO : PySem.W.codeIn K cdO "over" = true) (kO : PySem.W.keepIn K (.ref fO) = true)
    (aIB : PySem.W.nsIn K mainGlobals "is_below" = some (some (.ref fIB))) (lIB : K.lookup fIB = some ⟨ocIB, odIB, .func (PySem.W.fnOf "is_below" "is_below" (defArgs s_ib) (defBody s_ib) (defScope s_ib) .none kVIB dcIB pmIB anIB cdIB ctIB), slIB⟩) (cIB : PySem.W.codeIn K cdIB "is_below" = true) (kIB : PySem.W.keepIn K (.ref fIB) = true)
    (aOB : PySem.W.nsIn K mainGlobals "on_one_bottom" = some (some (.ref fOB))) (lOB : K.lookup fOB = some ⟨ocOB, odOB, .func (PySem.W.fnOf "on_one_bottom" "on_one_bottom" (defArgs s_oob) (defBody s_oob) (defScope s_oob) .none kVOB dcOB pmOB anOB cdOB ctOB), slOB⟩) (cOB : PySem.W.codeIn K cdOB "on_one_bottom" = true) (kOB : PySem.W.keepIn K (.ref fOB) = true)
    (aIC : PySem.W.nsIn K mainGlobals "is_chance" = some (some (.ref fIC))) (lIC : K.lookup fIC = some ⟨ocIC, odIC, .func (PySem.W.fnOf "is_chance" "is_chance" (defArgs s_ic) (defBody s_ic) (defScope s_ic) .none kVIC dcIC pmIC anIC cdIC ctIC), slIC⟩) (cIC : PySem.W.codeIn K cdIC "is_chance" = true) (kIC : PySem.W.keepIn K (.ref fIC) = true)
    (aBR : PySem.W.nsIn K mainGlobals "behind_row" = some (some (.ref fBR))) (lBR : K.lookup fBR = some ⟨ocBR, odBR, .func (PySem.W.fnOf "behind_row" "behind_row" (defArgs s_behind) (defBody s_behind) (defScope s_behind) .none kVBR dcBR pmBR anBR cdBR ctBR), slBR⟩) (cBR : PySem.W.codeIn K cdBR "behind_row" = true) (kBR : PySem.W.keepIn K (.ref fBR) = true)
    {ccIL tIL : Addr} {vsIL : Array Value} {wsIL : List Value} {xoIL : Value} {xdIL : Option Addr} {xsIL : Array (Option Value)}
    (aIL : PySem.W.nsIn K mainGlobals "is_life" = some (some (.ref fIL))) (lIL : K.lookup fIL = some ⟨ocIL, odIL, .func (PySem.W.fnOf "is_life" "is_life" (defArgs s_il) (defBody s_il) (defScope s_il) .none kVIL dcIL pmIL anIL (.ref ccIL) ctIL), slIL⟩) (cIL : PySem.W.codeIn K (.ref ccIL) "is_life" = true) (kIL : PySem.W.keepIn K (.ref fIL) = true)
    (xIL : K.lookup ccIL = some ⟨xoIL, xdIL, .fields vsIL, xsIL⟩) (vIL : vsIL.toList.drop 11 = .ref tIL :: wsIL) (oIL : K.lookup tIL = none) (rIL : ((recsOf q).any fun d => d.name == "is_life") = true)
    (aE : PySem.W.nsIn K mainGlobals "_law_feed" = some (some (.ref fE))) (lE : K.lookup fE = some ⟨ocE, odE, .func (PySem.W.fnOf "_law_feed" "_law_feed" (defArgs s_feed) (defBody s_feed) (defScope s_feed) .none kVE dcE pmE anE cdE ctE), slE⟩) (cE : PySem.W.codeIn K cdE "_law_feed" = true) (kE : PySem.W.keepIn K (.ref fE) = true)
    (aD : PySem.W.nsIn K mainGlobals "_law_draw" = some (some (.ref fD))) (lD : K.lookup fD = some ⟨ocD, odD, .func (PySem.W.fnOf "_law_draw" "_law_draw" (defArgs s_draw) (defBody s_draw) (defScope s_draw) .none kVD dcD pmD anD cdD ctD), slD⟩) (cD : PySem.W.codeIn K cdD "_law_draw" = true) (kD : PySem.W.keepIn K (.ref fD) = true)
    (aL : PySem.W.nsIn K mainGlobals "_law_low" = some (some (.ref fL))) (lL : K.lookup fL = some ⟨ocL, odL, .func (PySem.W.fnOf "_law_low" "_law_low" (defArgs s_low) (defBody s_low) (defScope s_low) .none kVL dcL pmL anL cdL ctL), slL⟩) (cL : PySem.W.codeIn K cdL "_law_low" = true) (kL : PySem.W.keepIn K (.ref fL) = true)
    (aSU : PySem.W.nsIn K mainGlobals "_law_sum" = some (some (.ref fSU))) (lSU : K.lookup fSU = some ⟨ocSU, odSU, .func (PySem.W.fnOf "_law_sum" "_law_sum" (defArgs s_lsum) (defBody s_lsum) (defScope s_lsum) .none kVSU dcSU pmSU anSU cdSU ctSU), slSU⟩) (cSU : PySem.W.codeIn K cdSU "_law_sum" = true) (kSU : PySem.W.keepIn K (.ref fSU) = true)
    (aLT : PySem.W.nsIn K mainGlobals "_law_times" = some (some (.ref fLT))) (lLT : K.lookup fLT = some ⟨ocLT, odLT, .func (PySem.W.fnOf "_law_times" "_law_times" (defArgs s_ltimes) (defBody s_ltimes) (defScope s_ltimes) .none kVLT dcLT pmLT anLT cdLT ctLT), slLT⟩) (cLT : PySem.W.codeIn K cdLT "_law_times" = true) (kLT : PySem.W.keepIn K (.ref fLT) = true)
    (aLF : PySem.W.nsIn K mainGlobals "_law_life" = some (some (.ref fLF))) (lLF : K.lookup fLF = some ⟨ocLF, odLF, .func (PySem.W.fnOf "_law_life" "_law_life" (defArgs s_life) (defBody s_life) (defScope s_life) .none kVLF dcLF pmLF anLF cdLF ctLF), slLF⟩) (cLF : PySem.W.codeIn K cdLF "_law_life" = true) (kLF : PySem.W.keepIn K (.ref fLF) = true)
    (aAL : PySem.W.nsIn K mainGlobals "_law_any_life" = some (some (.ref fAL))) (lAL : K.lookup fAL = some ⟨ocAL, odAL, .func (PySem.W.fnOf "_law_any_life" "_law_any_life" (defArgs s_any) (defBody s_any) (defScope s_any) .none kVAL dcAL pmAL anAL cdAL ctAL), slAL⟩) (cAL : PySem.W.codeIn K cdAL "_law_any_life" = true) (kAL : PySem.W.keepIn K (.ref fAL) = true)
    (aOD : PySem.W.nsIn K mainGlobals "_law_odd" = some (some (.ref fOD))) (lOD : K.lookup fOD = some ⟨ocOD, odOD, .func (PySem.W.fnOf "_law_odd" "_law_odd" (defArgs s_odd) (defBody s_odd) (defScope s_odd) .none kVOD dcOD pmOD anOD cdOD ctOD), slOD⟩) (cOD : PySem.W.codeIn K cdOD "_law_odd" = true) (kOD : PySem.W.keepIn K (.ref fOD) = true)
    (aBN : PySem.W.nsIn K mainGlobals "_law_bent" = some (some (.ref fBN))) (lBN : K.lookup fBN = some ⟨ocBN, odBN, .func (PySem.W.fnOf "_law_bent" "_law_bent" (defArgs s_bent) (defBody s_bent) (defScope s_bent) .none kVBN dcBN pmBN anBN cdBN ctBN), slBN⟩) (cBN : PySem.W.codeIn K cdBN "_law_bent" = true) (kBN : PySem.W.keepIn K (.ref fBN) = true)
    (aLW : PySem.W.nsIn K mainGlobals "_law_is_whole" = some (some (.ref fLW))) (lLW : K.lookup fLW = some ⟨ocLW, odLW, .func (PySem.W.fnOf "_law_is_whole" "_law_is_whole" (defArgs s_lwh) (defBody s_lwh) (defScope s_lwh) .none kVLW dcLW pmLW anLW cdLW ctLW), slLW⟩) (cLW : PySem.W.codeIn K cdLW "_law_is_whole" = true) (kLW : PySem.W.keepIn K (.ref fLW) = true)
    (aLIR : PySem.W.nsIn K mainGlobals "_law_is_ratio" = some (some (.ref fLIR))) (lLIR : K.lookup fLIR = some ⟨ocLIR, odLIR, .func (PySem.W.fnOf "_law_is_ratio" "_law_is_ratio" (defArgs s_lir) (defBody s_lir) (defScope s_lir) .none kVLIR dcLIR pmLIR anLIR cdLIR ctLIR), slLIR⟩) (cLIR : PySem.W.codeIn K cdLIR "_law_is_ratio" = true) (kLIR : PySem.W.keepIn K (.ref fLIR) = true)
    (aLIC : PySem.W.nsIn K mainGlobals "_law_is_chance" = some (some (.ref fLIC))) (lLIC : K.lookup fLIC = some ⟨ocLIC, odLIC, .func (PySem.W.fnOf "_law_is_chance" "_law_is_chance" (defArgs s_lic) (defBody s_lic) (defScope s_lic) .none kVLIC dcLIC pmLIC anLIC cdLIC ctLIC), slLIC⟩) (cLIC : PySem.W.codeIn K cdLIC "_law_is_chance" = true) (kLIC : PySem.W.keepIn K (.ref fLIC) = true)
    (aLIL : PySem.W.nsIn K mainGlobals "_law_is_life" = some (some (.ref fLIL))) (lLIL : K.lookup fLIL = some ⟨ocLIL, odLIL, .func (PySem.W.fnOf "_law_is_life" "_law_is_life" (defArgs s_lil) (defBody s_lil) (defScope s_lil) .none kVLIL dcLIL pmLIL anLIL cdLIL ctLIL), slLIL⟩) (cLIL : PySem.W.codeIn K cdLIL "_law_is_life" = true) (kLIL : PySem.W.keepIn K (.ref fLIL) = true)
    (aNR : PySem.W.nsIn K mainGlobals "_law_near" = some (some (.ref fNR))) (lNR : K.lookup fNR = some ⟨ocNR, odNR, .func (PySem.W.fnOf "_law_near" "_law_near" (defArgs s_near) (defBody s_near) (defScope s_near) .none kVNR dcNR pmNR anNR cdNR ctNR), slNR⟩) (cNR : PySem.W.codeIn K cdNR "_law_near" = true) (kNR : PySem.W.keepIn K (.ref fNR) = true)
    (aLAT : PySem.W.nsIn K mainGlobals "_law_later" = some (some (.ref fLAT))) (lLAT : K.lookup fLAT = some ⟨ocLAT, odLAT, .func (PySem.W.fnOf "_law_later" "_law_later" (defArgs s_lat) (defBody s_lat) (defScope s_lat) .none kVLAT dcLAT pmLAT anLAT cdLAT ctLAT), slLAT⟩) (cLAT : PySem.W.codeIn K cdLAT "_law_later" = true) (kLAT : PySem.W.keepIn K (.ref fLAT) = true)
    (aWT : PySem.W.nsIn K mainGlobals "_law_wide_things" = some (some (.ref fWT))) (lWT : K.lookup fWT = some ⟨ocWT, odWT, .func (PySem.W.fnOf "_law_wide_things" "_law_wide_things" (defArgs s_wt) (defBody s_wt) (defScope s_wt) .none kVWT dcWT pmWT anWT cdWT ctWT), slWT⟩) (cWT : PySem.W.codeIn K cdWT "_law_wide_things" = true) (kWT : PySem.W.keepIn K (.ref fWT) = true)
    (aZ : PySem.W.nsIn K mainGlobals "law" = some (some (.ref fZ))) (lZ : K.lookup fZ = some ⟨ocZ, odZ, .func (PySem.W.fnOf "law" "law" (defArgs s_law) (defBody s_law) (defScope s_law) .none kVZ dcZ pmZ anZ cdZ ctZ), slZ⟩) (cZ : PySem.W.codeIn K cdZ "law" = true) (kZ : PySem.W.keepIn K (.ref fZ) = true)
    (g_NOUGHT : PySem.W.nsIn K mainGlobals "NOUGHT" = some (some (.ref a_NOUGHT))) (l_NOUGHT : K.lookup a_NOUGHT = some ⟨.type "tuple", od_NOUGHT, .seq #[.int 0 t0_NOUGHT, .int 1 t1_NOUGHT] n_NOUGHTx, sl_NOUGHT⟩)
    (g_ONE : PySem.W.nsIn K mainGlobals "ONE" = some (some (.ref a_ONE))) (l_ONE : K.lookup a_ONE = some ⟨.type "tuple", od_ONE, .seq #[.int 1 t0_ONE, .int 1 t1_ONE] n_ONEx, sl_ONE⟩)
    (z_abs : PySem.W.nsIn K mainGlobals "abs" = some none)
    (z_all : PySem.W.nsIn K mainGlobals "all" = some none)
    (z_bool : PySem.W.nsIn K mainGlobals "bool" = some none)
    (z_enumerate : PySem.W.nsIn K mainGlobals "enumerate" = some none)
    (z_int : PySem.W.nsIn K mainGlobals "int" = some none)
    (z_isinstance : PySem.W.nsIn K mainGlobals "isinstance" = some none)
    (z_len : PySem.W.nsIn K mainGlobals "len" = some none)
    (z_list : PySem.W.nsIn K mainGlobals "list" = some none)
    (z_max : PySem.W.nsIn K mainGlobals "max" = some none)
    (z_range : PySem.W.nsIn K mainGlobals "range" = some none)
    (z_repr : PySem.W.nsIn K mainGlobals "repr" = some none)
    (z_str : PySem.W.nsIn K mainGlobals "str" = some none)
    (z_sum : PySem.W.nsIn K mainGlobals "sum" = some none)
    (z_tuple : PySem.W.nsIn K mainGlobals "tuple" = some none)
    : ∃ (fd : FuncData) (cs : List (Addr × Addr)) (sp : Sp), (∀ p ∈ cs, TabAt K q mg p.1 p.2) ∧ (∀ (s : Shared) (v : Value), BindsTo s fd ⟨[v], []⟩ [("_law_script", v)]) ∧
      (∀ (H : Hp) (a : Addr) (ns : List Int), ns.length ≤ 63 → (∀ p ∈ cs, H p.2 = some (tabx p.2)) → SqL K H a (ns.map V.int) → sp [.ref a] H (fun v H2 => v = .bl true ∧ ∀ p ∈ cs, H2 p.2 = some (tabx p.2)) fun _ _ _ => False) ∧
        ∀ base : Heap, K.In base → base.Ns mainGlobals mg → SysB base → (∀ p ∈ cs, GxR.TabB base mg p.1 p.2) → FnG l.prog w K mg base CX0 25 fa fd ["_law_script"] sp := by
  have e := hfa.symm.trans (PySem.W.mg_of X G aZ)
  cases e
  have FWH := fun_mk (st := s_wh) lWH cWH kWH
  have bWH := FWH.binds (ps := ["thing"]) fun _ _ _ _ _ _ us hl => match us, hl with | [_], _ => rfl
  have gWH := PySem.W.mg_of X G aWH
  have FC := fun_mk (st := s_cd) lC cC kC
  have bC := FC.binds (ps := ["one", "other"]) fun _ _ _ _ _ _ us hl => match us, hl with | [_, _], _ => rfl
  have gC := PySem.W.mg_of X G aC
  have FIR := fun_mk (st := s_ir) lIR cIR kIR
  have bIR := FIR.binds (ps := ["thing"]) fun _ _ _ _ _ _ us hl => match us, hl with | [_], _ => rfl
  have gIR := PySem.W.mg_of X G aIR
  have FR := fun_mk (st := s_ratio) lR cR kR
  have bR := FR.binds (ps := ["top", "bottom"]) fun _ _ _ _ _ _ us hl => match us, hl with | [_, _], _ => rfl
  have gR := PySem.W.mg_of X G aR
  have FM := fun_mk (st := s_minus) lM cM kM
  have bM := FM.binds (ps := ["one", "other"]) fun _ _ _ _ _ _ us hl => match us, hl with | [_, _], _ => rfl
  have gM := PySem.W.mg_of X G aM
  have FT := fun_mk (st := s_times) lT cT kT
  have bT := FT.binds (ps := ["one", "other"]) fun _ _ _ _ _ _ us hl => match us, hl with | [_, _], _ => rfl
  have gT := PySem.W.mg_of X G aT
  have FO := fun_mk (st := s_over) lO cO kO
  have bO := FO.binds (ps := ["one", "other"]) fun _ _ _ _ _ _ us hl => match us, hl with | [_, _], _ => rfl
  have gO := PySem.W.mg_of X G aO
  have FIB := fun_mk (st := s_ib) lIB cIB kIB
  have bIB := FIB.binds (ps := ["one", "other"]) fun _ _ _ _ _ _ us hl => match us, hl with | [_, _], _ => rfl
  have gIB := PySem.W.mg_of X G aIB
  have FOB := fun_mk (st := s_oob) lOB cOB kOB
  have bOB := FOB.binds (ps := ["told"]) fun _ _ _ _ _ _ us hl => match us, hl with | [_], _ => rfl
  have gOB := PySem.W.mg_of X G aOB
  have FIC := fun_mk (st := s_ic) lIC cIC kIC
  have bIC := FIC.binds (ps := ["thing"]) fun _ _ _ _ _ _ us hl => match us, hl with | [_], _ => rfl
  have gIC := PySem.W.mg_of X G aIC
  have FBR := fun_mk (st := s_behind) lBR cBR kBR
  have bBR := FBR.binds (ps := ["life"]) fun _ _ _ _ _ _ us hl => match us, hl with | [_], _ => rfl
  have gBR := PySem.W.mg_of X G aBR
  have HIL := funC_mk (st := s_il) lIL cIL kIL
  have FIL := HIL.fun
  have bIL := FIL.binds (ps := ["thing"]) fun _ _ _ _ _ _ us hl => match us, hl with | [_], _ => rfl
  have gIL := PySem.W.mg_of X G aIL
  have FE := fun_mk (st := s_feed) lE cE kE
  have bE := FE.binds (ps := ["_law_script"]) fun _ _ _ _ _ _ us hl => match us, hl with | [_], _ => rfl
  have gE := PySem.W.mg_of X G aE
  have FD := fun_mk (st := s_draw) lD cD kD
  have bD := FD.binds (ps := ["_law_feed_here", "_law_many"]) fun _ _ _ _ _ _ us hl => match us, hl with | [_, _], _ => rfl
  have gD := PySem.W.mg_of X G aD
  have FL := fun_mk (st := s_low) lL cL kL
  have bL := FL.binds (ps := ["_law_top", "_law_bottom"]) fun _ _ _ _ _ _ us hl => match us, hl with | [_, _], _ => rfl
  have gL := PySem.W.mg_of X G aL
  have FSU := fun_mk (st := s_lsum) lSU cSU kSU
  have bSU := FSU.binds (ps := ["_law_some"]) fun _ _ _ _ _ _ us hl => match us, hl with | [_], _ => rfl
  have gSU := PySem.W.mg_of X G aSU
  have FLT := fun_mk (st := s_ltimes) lLT cLT kLT
  have bLT := FLT.binds (ps := ["_law_one", "_law_other"]) fun _ _ _ _ _ _ us hl => match us, hl with | [_, _], _ => rfl
  have gLT := PySem.W.mg_of X G aLT
  have FLF := fun_mk (st := s_life) lLF cLF kLF
  have bLF := FLF.binds (ps := ["_law_feed_here", "_law_way"]) fun _ _ _ _ _ _ us hl => match us, hl with | [_, _], _ => rfl
  have gLF := PySem.W.mg_of X G aLF
  have FAL := fun_mk (st := s_any) lAL cAL kAL
  have bAL := FAL.binds (ps := ["_law_feed_here"]) fun _ _ _ _ _ _ us hl => match us, hl with | [_], _ => rfl
  have gAL := PySem.W.mg_of X G aAL
  have FOD := fun_mk (st := s_odd) lOD cOD kOD
  have bOD := FOD.binds (ps := ["_law_feed_here"]) fun _ _ _ _ _ _ us hl => match us, hl with | [_], _ => rfl
  have gOD := PySem.W.mg_of X G aOD
  have FBN := fun_mk (st := s_bent) lBN cBN kBN
  have bBN := FBN.binds (ps := ["_law_feed_here", "_law_thing"]) fun _ _ _ _ _ _ us hl => match us, hl with | [_, _], _ => rfl
  have gBN := PySem.W.mg_of X G aBN
  have FLW := fun_mk (st := s_lwh) lLW cLW kLW
  have bLW := FLW.binds (ps := ["_law_thing"]) fun _ _ _ _ _ _ us hl => match us, hl with | [_], _ => rfl
  have gLW := PySem.W.mg_of X G aLW
  have FLIR := fun_mk (st := s_lir) lLIR cLIR kLIR
  have bLIR := FLIR.binds (ps := ["_law_thing"]) fun _ _ _ _ _ _ us hl => match us, hl with | [_], _ => rfl
  have gLIR := PySem.W.mg_of X G aLIR
  have FLIC := fun_mk (st := s_lic) lLIC cLIC kLIC
  have bLIC := FLIC.binds (ps := ["_law_thing"]) fun _ _ _ _ _ _ us hl => match us, hl with | [_], _ => rfl
  have gLIC := PySem.W.mg_of X G aLIC
  have FLIL := fun_mk (st := s_lil) lLIL cLIL kLIL
  have bLIL := FLIL.binds (ps := ["_law_thing"]) fun _ _ _ _ _ _ us hl => match us, hl with | [_], _ => rfl
  have gLIL := PySem.W.mg_of X G aLIL
  have FNR := fun_mk (st := s_near) lNR cNR kNR
  have bNR := FNR.binds (ps := ["_law_feed_here", "_law_life_here"]) fun _ _ _ _ _ _ us hl => match us, hl with | [_, _], _ => rfl
  have gNR := PySem.W.mg_of X G aNR
  have FLAT := fun_mk (st := s_lat) lLAT cLAT kLAT
  have bLAT := FLAT.binds (ps := ["_law_script"]) fun _ _ _ _ _ _ us hl => match us, hl with | [_], _ => rfl
  have gLAT := PySem.W.mg_of X G aLAT
  have FWT := fun_mk (st := s_wt) lWT cWT kWT
  have bWT := FWT.binds (ps := ["_law_feed_here"]) fun _ _ _ _ _ _ us hl => match us, hl with | [_], _ => rfl
  have gWT := PySem.W.mg_of X G aWT
  have FZ := fun_mk (st := s_law) lZ cZ kZ
  have bZ := FZ.binds (ps := ["_law_script"]) fun _ _ _ _ _ _ us hl => match us, hl with | [_], _ => rfl
  have gZ := PySem.W.mg_of X G aZ
  have n_abs := PySem.W.mg_none_of X G z_abs
  have n_all := PySem.W.mg_none_of X G z_all
  have n_bool := PySem.W.mg_none_of X G z_bool
  have n_enumerate := PySem.W.mg_none_of X G z_enumerate
  have n_int := PySem.W.mg_none_of X G z_int
  have n_isinstance := PySem.W.mg_none_of X G z_isinstance
  have n_len := PySem.W.mg_none_of X G z_len
  have n_list := PySem.W.mg_none_of X G z_list
  have n_max := PySem.W.mg_none_of X G z_max
  have n_range := PySem.W.mg_none_of X G z_range
  have n_repr := PySem.W.mg_none_of X G z_repr
  have n_str := PySem.W.mg_none_of X G z_str
  have n_sum := PySem.W.mg_none_of X G z_sum
  have n_tuple := PySem.W.mg_none_of X G z_tuple
  have m_NOUGHT := PySem.W.mg_of X G g_NOUGHT
  have r_NOUGHT : ∀ H, RAt K H a_NOUGHT (0, 1) := fun H => .inr ⟨_, _, _, l_NOUGHT, rfl, rfl, by show 2 ≤ sizeLine; decide, .cons ⟨_, rfl⟩ (.cons ⟨_, rfl⟩ .nil)⟩
  have m_ONE := PySem.W.mg_of X G g_ONE
  have r_ONE : ∀ H, RAt K H a_ONE (1, 1) := fun H => .inr ⟨_, _, _, l_ONE, rfl, rfl, by show 2 ≤ sizeLine; decide, .cons ⟨_, rfl⟩ (.cons ⟨_, rfl⟩ .nil)⟩
  obtain ⟨c1IL, e1IL, TIL⟩ := tabAt_mk (c := 0) rIL gIL lIL rfl (tabOf_of xIL vIL) oIL
  cases e1IL
  refine ⟨PySem.W.fnOf "law" "law" (defArgs s_law) (defBody s_law) (defScope s_law) .none kVZ dcZ pmZ anZ cdZ ctZ, ([(ccIL, tIL)] : List (Addr × Addr)), spLawT K (([(ccIL, tIL)] : List (Addr × Addr)).map (·.2)), fun p hp => ?_, fun s v => .of_eq rfl, fun H a ns _ hC hS => spLawT_of H a ns hC hS, fun base _ _ SY TBS => ?_⟩
  · rcases List.mem_cons.mp hp with rfl | hp0
    · exact TIL
    exact absurd hp0 (by simp)
  have TBIL := TBS (ccIL, tIL) (by simp)
  have GWH := ok_wh (P := l.prog) (w := w) (base := base) FWH n_bool n_int n_isinstance
  have GIB := ok_ib (P := l.prog) (w := w) (mg := mg) (base := base) FIB
  have GE : FnOk l.prog w K mg base CX0 1 fE _ ["_law_script"] (spFeed K) := ok_feed FE n_list
  have GD : FnOk l.prog w K mg base CX0 1 fD _ ["_law_feed_here", "_law_many"] spDraw := ok_draw FD n_len
  have GC : FnOk l.prog w K mg base CX0 1 fC _ ["one", "other"] spCd := ok_cd (k := 0) FC n_abs
  have GL : FnOk l.prog w K mg base CX0 1 fL _ ["_law_top", "_law_bottom"] spLow := ok_low FL n_abs
  have GLW := ok_lwh (P := l.prog) (w := w) (base := base) FLW n_bool n_int n_isinstance
  have GIR := ok_ir FIR FWH bWH gWH GWH FC bC gC GC n_isinstance n_len n_tuple
  have GR := ok_ratio (P := l.prog) (w := w) (base := base) FR FC bC gC n_abs
  have GOB := ok_oob (P := l.prog) (w := w) (base := base) FOB FC bC gC n_abs
  have GSU := ok_lsumL FSU FL bL gL GL
  have GST := ok_lsumT FSU FL bL gL GL
  have GLT := ok_ltimes FLT FL bL gL GL
  have GLF := ok_life FLF FD bD gD GD FL bL gL GL n_range n_int n_sum n_tuple
  have GOD := ok_odd FOD FD bD gD GD n_len
  have GLIR := ok_lir FLIR FLW bLW gLW GLW FL bL gL GL n_isinstance n_len n_tuple
  have GLAT := ok_lat FLAT FE bE gE GE
  have GM := ok_minus FM FR bR gR GR
  have GT := ok_times FT FR bR gR GR
  have GO := ok_over FO FR bR gR GR
  have GIC := ok_ic FIC FIR bIR gIR GIR
  have GAL := ok_any FAL FD bD gD GD FLF bLF gLF GLF FLT bLT gLT GLT n_len
  have GLIC := ok_lic FLIC FLIR bLIR gLIR GLIR
  have GNR := ok_near FNR FD bD gD GD FL bL gL GL n_enumerate n_int n_len n_max n_tuple
  have GWT := ok_wt FWT FD bD gD GD n_int
  have C : Consts K mg a_NOUGHT a_ONE := ⟨m_NOUGHT, m_ONE, r_NOUGHT, r_ONE⟩
  have GBR := ok_behind FBR C FO bO gO GO FT bT gT GT FM bM gM GM
  have GLIL := ok_lil FLIL FLIC bLIC gLIC GLIC FSU bSU gSU GST GSU FL bL gL GL n_isinstance n_len n_tuple
  have GIL := ok_il HIL TBIL C FIC bIC gIC GIC FIB bIB gIB GIB FOB bOB gOB GOB FBR bBR gBR GBR n_all n_isinstance n_len n_sum n_tuple
  have GBN : FnOk l.prog w K mg base CX0 23 fBN _ _ (spBent K 20) := ok_bents (P := l.prog) (w := w) (base := base) (fun n ih => ok_bent FBN FD bD gD GD FBN bBN gBN ih FOD bOD gOD GOD n_bool n_int n_isinstance n_len n_list n_str n_tuple) 20
  exact ok_law FZ FE bE gE GE FD bD gD GD FAL bAL gAL GAL FNR bNR gNR GNR FBN bBN gBN GBN FOD bOD gOD GOD FWT bWT gWT GWT FLAT bLAT gLAT GLAT FIL bIL gIL GIL FLIL bLIL gLIL GLIL SY n_range n_repr
end Fp
open PySem PySem.W PyProof.Rows
set_option maxHeartbeats 0 in
theorem PySem.Challenge.cw_freshparts_k03_what_lives_are_holds : PySem.Challenge.rw_freshparts_k03_what_lives_are.Holds := by
  w_on; o_law; k_head; (case hw => w_witness2)
  k_fill
  refine Fp.walkGT (l := PySem.Challenge.rw_freshparts_k03_what_lives_are) (n := 63) (lv := 25) (x := "_law_script") rfl (by decide) rfl ⟨rfl, by decide, by decide⟩ (fun w h Y => PySem.W.kIn_of Y) (by first | kernel_rfl | rfl) ?F
  case F =>
    intro w mg fa h KX G hmg
    refine' Fp.all_mk KX G hmg ?aWH ?lWH ?cWH ?kWH ?aC ?lC ?cC ?kC ?aIR ?lIR ?cIR ?kIR ?aR ?lR ?cR ?kR ?aM ?lM ?cM ?kM ?aT ?lT ?cT ?kT ?aO ?lO ?cO ?kO ?aIB ?lIB ?cIB ?kIB ?aOB ?lOB ?cOB ?kOB ?aIC ?lIC ?cIC ?kIC ?aBR ?lBR ?cBR ?kBR ?aIL ?lIL ?cIL ?kIL ?xIL ?vIL ?oIL ?rIL ?aE ?lE ?cE ?kE ?aD ?lD ?cD ?kD ?aL ?lL ?cL ?kL ?aSU ?lSU ?cSU ?kSU ?aLT ?lLT ?cLT ?kLT ?aLF ?lLF ?cLF ?kLF ?aAL ?lAL ?cAL ?kAL ?aOD ?lOD ?cOD ?kOD ?aBN ?lBN ?cBN ?kBN ?aLW ?lLW ?cLW ?kLW ?aLIR ?lLIR ?cLIR ?kLIR ?aLIC ?lLIC ?cLIC ?kLIC ?aLIL ?lLIL ?cLIL ?kLIL ?aNR ?lNR ?cNR ?kNR ?aLAT ?lLAT ?cLAT ?kLAT ?aWT ?lWT ?cWT ?kWT ?aZ ?lZ ?cZ ?kZ ?g_NOUGHT ?l_NOUGHT ?g_ONE ?l_ONE ?z_abs ?z_all ?z_bool ?z_enumerate ?z_int ?z_isinstance ?z_len ?z_list ?z_max ?z_range ?z_repr ?z_str ?z_sum ?z_tuple
    (case aWH => first | k_is | rfl); (case lWH => first | k_is | rfl); (case cWH => first | k_is | rfl); (case kWH => first | k_is | rfl); (case aC => first | k_is | rfl); (case lC => first | k_is | rfl)
    (case cC => first | k_is | rfl); (case kC => first | k_is | rfl); (case aIR => first | k_is | rfl); (case lIR => first | k_is | rfl); (case cIR => first | k_is | rfl); (case kIR => first | k_is | rfl)
    (case aR => first | k_is | rfl); (case lR => first | k_is | rfl); (case cR => first | k_is | rfl); (case kR => first | k_is | rfl); (case aM => first | k_is | rfl); (case lM => first | k_is | rfl)
    (case cM => first | k_is | rfl); (case kM => first | k_is | rfl); (case aT => first | k_is | rfl); (case lT => first | k_is | rfl); (case cT => first | k_is | rfl); (case kT => first | k_is | rfl)
    (case aO => first | k_is | rfl); (case lO => first | k_is | rfl); (case cO => first | k_is | rfl); (case kO => first | k_is | rfl); (case aIB => first | k_is | rfl); (case lIB => first | k_is | rfl)
    (case cIB => first | k_is | rfl); (case kIB => first | k_is | rfl); (case aOB => first | k_is | rfl); (case lOB => first | k_is | rfl); (case cOB => first | k_is | rfl); (case kOB => first | k_is | rfl)
    (case aIC => first | k_is | rfl); (case lIC => first | k_is | rfl); (case cIC => first | k_is | rfl); (case kIC => first | k_is | rfl); (case aBR => first | k_is | rfl); (case lBR => first | k_is | rfl)
    (case cBR => first | k_is | rfl); (case kBR => first | k_is | rfl); (case aIL => first | k_is | rfl); (case lIL => first | k_is | rfl); (case cIL => first | k_is | rfl); (case kIL => first | k_is | rfl)
    (case xIL => first | k_is | rfl); (case vIL => rfl); (case oIL => first | k_is | rfl | kernel_rfl); (case rIL => first | kernel_rfl | rfl); (case aE => first | k_is | rfl); (case lE => first | k_is | rfl)
    (case cE => first | k_is | rfl); (case kE => first | k_is | rfl); (case aD => first | k_is | rfl); (case lD => first | k_is | rfl); (case cD => first | k_is | rfl); (case kD => first | k_is | rfl)
    (case aL => first | k_is | rfl); (case lL => first | k_is | rfl); (case cL => first | k_is | rfl); (case kL => first | k_is | rfl); (case aSU => first | k_is | rfl); (case lSU => first | k_is | rfl)
    (case cSU => first | k_is | rfl); (case kSU => first | k_is | rfl); (case aLT => first | k_is | rfl); (case lLT => first | k_is | rfl); (case cLT => first | k_is | rfl); (case kLT => first | k_is | rfl)
    (case aLF => first | k_is | rfl); (case lLF => first | k_is | rfl); (case cLF => first | k_is | rfl); (case kLF => first | k_is | rfl); (case aAL => first | k_is | rfl); (case lAL => first | k_is | rfl)
    (case cAL => first | k_is | rfl); (case kAL => first | k_is | rfl); (case aOD => first | k_is | rfl); (case lOD => first | k_is | rfl); (case cOD => first | k_is | rfl); (case kOD => first | k_is | rfl)
    (case aBN => first | k_is | rfl); (case lBN => first | k_is | rfl); (case cBN => first | k_is | rfl); (case kBN => first | k_is | rfl); (case aLW => first | k_is | rfl); (case lLW => first | k_is | rfl)
    (case cLW => first | k_is | rfl); (case kLW => first | k_is | rfl); (case aLIR => first | k_is | rfl); (case lLIR => first | k_is | rfl); (case cLIR => first | k_is | rfl); (case kLIR => first | k_is | rfl)
    (case aLIC => first | k_is | rfl); (case lLIC => first | k_is | rfl); (case cLIC => first | k_is | rfl); (case kLIC => first | k_is | rfl); (case aLIL => first | k_is | rfl); (case lLIL => first | k_is | rfl)
    (case cLIL => first | k_is | rfl); (case kLIL => first | k_is | rfl); (case aNR => first | k_is | rfl); (case lNR => first | k_is | rfl); (case cNR => first | k_is | rfl); (case kNR => first | k_is | rfl)
    (case aLAT => first | k_is | rfl); (case lLAT => first | k_is | rfl); (case cLAT => first | k_is | rfl); (case kLAT => first | k_is | rfl); (case aWT => first | k_is | rfl); (case lWT => first | k_is | rfl)
    (case cWT => first | k_is | rfl); (case kWT => first | k_is | rfl); (case aZ => first | k_is | rfl); (case lZ => first | k_is | rfl); (case cZ => first | k_is | rfl); (case kZ => first | k_is | rfl)
    (case g_NOUGHT => first | k_is | rfl); (case l_NOUGHT => first | k_is | rfl); (case g_ONE => first | k_is | rfl); (case l_ONE => first | k_is | rfl); (case z_abs => first | k_is | rfl); (case z_all => first | k_is | rfl)
    (case z_bool => first | k_is | rfl); (case z_enumerate => first | k_is | rfl); (case z_int => first | k_is | rfl); (case z_isinstance => first | k_is | rfl); (case z_len => first | k_is | rfl); (case z_list => first | k_is | rfl)
    (case z_max => first | k_is | rfl); (case z_range => first | k_is | rfl); (case z_repr => first | k_is | rfl); (case z_str => first | k_is | rfl); (case z_sum => first | k_is | rfl); (case z_tuple => first | k_is | rfl)
