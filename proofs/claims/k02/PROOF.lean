import PyProof.Rows.All
import Wide.All
import OpenK.AllK
import Wide.FinOn
import PyProof.ReprRoads
import PyProof.ReprLen
import HandS.Base
import HandS.Call
import HandS.List
import HandS.Ends
import HandS.Exc
import HandS.TryOnly
import HandS.ExcOwn
import HandS.ExcInit
import HandS.Dict
import HandS.Words
import HandS.WordsList
import HandS.WordsDict
import HandS.WordsExc
import HandS.Comp
import HandS.Iter
import HandS.Wide
import PySem.Challenge.RW_freshparts_k02_ratios_reckoned
set_option Elab.async false
set_option linter.all false
set_option maxRecDepth 100000
set_option maxHeartbeats 4000000
namespace Fp
open PySem PySem.Spec PyProof.Rows L2

/-! ### promises of defs that show things: no repr runs around the call -/
structure FnG (P : Program) (w : World) (K : PySem.W.Frag) (mg : Str → Option Value) (base : Heap) (CX : CXT) (lv : Nat) (f : Addr) (fd : FuncData) (ps : List Str) (sp : Sp) : Prop where
  lens : ∀ vs H Q E, sp vs H Q E → vs.length = ps.length
  runs : ∀ (A : Around) (outer : List Env) (s : Shared) (H : Hp) (args : Args) (us : List Value) (vs : List V) (Q : VK) (E : XK), A.guards = some [] → Room lv A → Env0 P w K mg base A outer s H →
    BindsTo s fd args (ps.zip us) → Vals vs us → sp vs H Q E → codeAny (model P w) A (.call (.ref f) args) (CR CX outer P w H s Q E) s

section
variable {X : Cx} {CX : CXT} {lv : Nat} {f : Addr} {fd : FuncData} {ps : List Str} {sp : Sp} {E : XK} {x : Str} {p pos : Pos} {e : Expr} {es : List Expr} {t : TA}
theorem run_g {pins : List (Addr × Obj)} {σ : L2.St} {H : Hp} {s : Shared} {Q : VK} {us : List Value} {vs : List V} (G : FnG X.prog X.w X.K X.mg X.base CX lv f fd ps sp) (hq : X.A.guards = some []) (hr : Room lv X.A) (hb : Binds X.K fd ps [])
    (hx : Passes CX X E) (I : Inv X pins σ H s) (r : Vals vs us) (h : sp vs H Q E) : wpAny (model X.prog X.w) X.A (call (.ref f) us) (EP X pins σ Q) X.xe s := by
  have hl : us.length = ps.length := r.length.symm.trans (G.lens _ _ _ _ h)
  have b := hb s us I.kIn (by rw [List.append_nil]; exact hl)
  rw [List.append_nil] at b
  refine wpAny_call (codeAny_mono (G.runs X.A X.stack s H ⟨us, []⟩ us vs Q E hq hr I.env0 b r h) fun res s2 z => ?_)
  match res, z with
  | .error e, z => exact hx pins σ H s e s2 I z
  | .ok (.ret u), z => exact I.after z
  | .ok .next, z => exact False.elim z
  | .ok .brk, z => exact False.elim z
  | .ok .cont, z => exact False.elim z
def tCallG (sp : Sp) (E : XK) (t : TA) : TE := fun σ H Q => t σ H fun vs H1 => sp vs H1 Q E
theorem pe_callG (G : FnG X.prog X.w X.K X.mg X.base CX lv f fd ps sp) (hq : X.A.guards = some []) (hr : Room lv X.A) (hg : Gl X x) (hm : X.mg x = some (.ref f)) (hk : PySem.W.keepIn X.K (.ref f) = true) (hb : Binds X.K fd ps []) (hx : Passes CX X E)
    (ha : PA X (e :: es) t) (hdb : (x == ("__debug__" : Str)) = false := by decide) (he : starEach (e :: es) X.env = (false, eval e X.env) :: starEach es X.env := by rfl) (hpl : (backTo pos (starEach es X.env)).any (·.1) = false := by rfl) :
    PE X (.Call (.Name x p) (e :: es) [] pos) (tCallG sp E t) := by
  refine ⟨fun pins s σ H Q I h => wpAny_Call_Name_kw (ld_glob I hg hm ?_ hdb)⟩
  refine PySem.W.callWith_K (h₀ := X.base) I.ok.mod.kin hk (thn (ha.run pos pins s σ H _ I h) fun us s1 z => ?_) he hpl
  obtain ⟨vs, H1, I1, r, q⟩ := z
  exact ⟨I1.kIn, run_g G hq hr hb hx I1 r q⟩
end

section
variable {P : Program} {w : World} {K : PySem.W.Frag} {mg : Str → Option Value} {base : Heap}
theorem okG {x qual : Str} {st : Stmt} {f : Addr} {fd : FuncData} {N ps : List Str} {lv : Nat} {sp : Sp} (F : Fun K x qual st f fd) (S : FnScope N ps (defScope st)) (len : ∀ vs H Q E, sp vs H Q E → vs.length = ps.length)
    (hbody : ∀ (cdv : Value) (A : Around) (outer : List Env) (s : Shared) (H : Hp) (vs : List V) (Q : VK) (E : XK), (A.deeper (envOfC qual (defScope st) s.heap.objs.size f cdv)).guards = some [] → Room lv (A.deeper (envOfC qual (defScope st) s.heap.objs.size f cdv)) →
      sp vs H Q E → ∃ t, PSs (cxOf CX0 P w K mg base N qual (defScope st) f cdv A outer s H E).nox (defBody st) t ∧ t { nx := fun _ H' => Q .non H', rt := Q } (start N vs) H) : FnG P w K mg base CX0 (lv + 1) f fd ps sp := by
  obtain ⟨oc, od, kV, doc, pm, an, cdv, ct, osl, rfl, lk, hcd⟩ := F.ex
  refine ⟨len, fun A outer s H args us vs Q E hq hr e0 hb r hsp => ?_⟩
  have hl := len _ _ _ _ hsp
  have KX : K.In s.heap := e0.mod.kin.keeps fun b o z => (e0.bs b o z).1
  have lim : s.heap.NoLimit := e0.mod.nolimit.keeps fun b o z => (e0.bs b o z).1
  have kinds : ∀ y ∈ ps.zip us, (defScope st).names.lookup y.1 = some .local ∨ ((defScope st).names.lookup y.1 = some .cell ∧ ((cellsFrom (s.heap.objs.size + 1) (defScope st).names []).lookup y.1).isSome = true) := by
    rintro ⟨n, v⟩ hy
    exact (S.par n (List.of_mem_zip hy).1).imp id fun q => ⟨q, PySem.W.cellsFrom_some _ _ _ (.inl q)⟩
  refine codeAny_call_function hr.depth (KX _ _ lk) rfl S.co S.gen rfl (PySem.W.codeRec_of KX hcd) (hb _ _ _ _ ?_)
  refine wpAny_newFunctionEnv_cells S.kind kinds fun env he s1 z => ?_
  subst he
  refine ⟨lim.keeps z.toInCall.keep, codeAny_func ?_⟩
  obtain ⟨t, ht, hq2⟩ := hbody cdv A outer s H vs Q E hq (hr.deeper _) hsp
  have I : Inv (cxOf CX0 P w K mg base N qual (defScope st) f cdv A outer s H E) [] (start N vs) H s1 := inv_start S hr.hd e0 hl r z
  refine wpAny_mono (ht.nox.run [] s1 (start N vs) H _ I hq2) (fun fl s2 hs => ?_) fun _ _ hs => hs
  have fin : ∀ {σ' : L2.St} {H' : Hp} {v : V} {u : Value}, Inv (cxOf CX0 P w K mg base N qual (defScope st) f cdv A outer s H E) [] σ' H' s2 → RelV v u → Q v H' → CE outer P w H s Q u s2 :=
    fun {_ H' v _} J rv q => ⟨v, H', J.os, J.bare, J.base, J.hok, rv, q⟩
  match fl, hs with
  | .ret u, ⟨v, σ', H', J, rv, q⟩ => exact fin J rv q
  | .next, ⟨σ', H', J, q⟩ => exact fin (v := V.non) (u := Value.none) J rfl q
  | .brk, ⟨_, _, _, q⟩ => exact False.elim q
  | .cont, ⟨_, _, _, q⟩ => exact False.elim q
end

/-! ### the end of a law that shows things -/
theorem lawG {P : Program} {w : World} {K : PySem.W.Frag} {mg mb : Str → Option Value} {lv : Nat} {fa a : Addr} {fd : FuncData} {x : Str} {sp : Sp} {s1 : Shared} {vs : List Value} {ns : List Int}
    (KX : K.In s1.heap) (hns : s1.heap.Ns mainGlobals mg) (hb : s1.heap.Ns builtinsNs mb) (hbb : ∀ x : Str, x ≠ "__name__" → mb x = bootBuiltins x) (hlim : s1.heap.NoLimit) (hg : s1.gens = #[])
    (ha : s1.heap.get? a = some { cls := .type "list", data := .seq vs.toArray }) (hi : IntsAre vs ns) (hl : ns.length ≤ sizeLine) (hr : Room lv callerA)
    (G : ∀ base : Heap, K.In base → base.Ns mainGlobals mg → FnG P w K mg base CX0 lv fa fd [x] sp) (hbind : ∀ (s : Shared) (u : Value), BindsTo s fd ⟨[u], []⟩ [(x, u)])
    (hsp : ∀ H : Hp, Only H → SqL K H a (ns.map V.int) → sp [.ref a] H (fun v _ => v = .bl true) fun _ _ _ => False) :
    codeAny (model P w) callerA (.call (.ref fa) ⟨[.ref a], []⟩) (fun r s2 => r = .ok (.ret (.bool true)) ∧ OldK s1.heap s2.heap ∧ s2.os = s1.os ∧ AllBare s2.gens) s1 := by
  have rv := vals_ints hi
  have lenV := hi.length
  have main : ∀ H : Hp, Only H → SqL K H a (ns.map V.int) → HOk P w H s1.heap → (∀ b, H b ≠ none → b = a) → (H a ≠ none → K.lookup a = none) →
      codeAny (model P w) callerA (.call (.ref fa) ⟨[.ref a], []⟩) (fun r s2 => r = .ok (.ret (.bool true)) ∧ OldK s1.heap s2.heap ∧ s2.os = s1.os ∧ AllBare s2.gens) s1 := by
    intro H hO hS hok hA hK
    have kept : ∀ {b : Addr} {o : Obj}, s1.heap.get? b = some o → H b = none → (hidT s1.heap H).get? b = some o := fun z n => hidT_get z n
    have isA : ∀ {b : Addr} {u : HO}, H b = some u → b = a := fun {b u} z => hA b (by rw [z]; simp)
    have noD : ∀ {b : Addr} {o : Obj} {es : Array DictEntry} {ep : Nat}, s1.heap.get? b = some o → o.data = .dict es ep → H b = none := by
      intro b o es ep z d
      match q : H b with
      | none => rfl
      | some u =>
        have e2 := isA q
        subst e2
        rw [ha] at z; cases z
        have d2 : Data.seq vs.toArray _ = Data.dict es ep := d
        cases d2
    have nsK : ∀ {b : Addr} {m : Str → Option Value}, s1.heap.Ns b m → (hidT s1.heap H).Ns b m := fun {b m} z => by
      obtain ⟨o, es, ep, e1, d1, r1⟩ := z
      exact ⟨o, es, ep, kept e1 (noD e1 d1), d1, r1⟩
    have kinB : K.In (hidT s1.heap H) := fun b o z => kept (KX b o z) (by
      match q : H b with
      | none => rfl
      | some u =>
        have e2 := isA q
        subst e2
        rw [hK (by rw [q]; simp)] at z; cases z)
    have M : Mod K mg (hidT s1.heap H) := ⟨kinB, nsK hns, ⟨mb, nsK hb, hbb⟩, by obtain ⟨mc, h1, h2⟩ := hlim; exact ⟨mc, nsK h1, h2⟩⟩
    have nil_fr : ∀ {b : Addr}, ¬ b ∈ frs [] := fun {b} z => by
      have z2 : b ∈ ([] : List Addr) := z
      simp at z2
    have e0 : Env0 P w K mg (hidT s1.heap H) callerA [] s1 H := ⟨rfl, M, fun b o z => of_hidT z, Nat.le_of_eq (hidT_size _ _), trivial, fun b z => absurd z nil_fr, hok, .of_eq hg⟩
    refine codeAny_mono ((G _ kinB (nsK hns)).runs callerA [] s1 H ⟨[.ref a], []⟩ [.ref a] [.ref a] _ _ rfl hr e0 (hbind s1 (.ref a)) (.cons rfl .nil) (hsp H hO hS)) fun res s2 z => ?_
    match res, z with
    | .error e, z => exact False.elim z
    | .ok .next, z => exact False.elim z
    | .ok .brk, z => exact False.elim z
    | .ok .cont, z => exact False.elim z
    | .ok (.ret u), z =>
      obtain ⟨v, H2, os, bare, un, hok2, r2, q⟩ := z
      have qv : v = .bl true := q
      subst qv
      obtain rfl : u = Value.bool true := r2
      refine ⟨rfl, OldK.of_keep fun b o e1 => ?_, os, bare⟩
      match q : H b with
      | none => exact un.keep b o e1 q nil_fr (by simp)
      | some u =>
        rcases hO b with z | ⟨ob, xs, z⟩
        · rw [q] at z; cases z
        · obtain ⟨g1, _⟩ := hok b _ z
          obtain ⟨g2, _⟩ := hok2 b _ (un.frzs b ob _ z)
          rw [e1] at g1; cases g1
          exact g2
  match hk : K.lookup a with
  | some o =>
    have z := KX a o hk
    rw [ha] at z
    cases z
    refine main (fun _ => none) (fun _ => .inl rfl) (.inr ⟨_, vs.toArray, _, hk, rfl, rfl, rfl, by rw [List.size_toArray, lenV]; exact hl, by simpa using rv⟩) (fun b u z => ?_) (fun b z => absurd rfl z) fun z => absurd rfl z
    have z2 : (none : Option HO) = some u := z
    cases z2
  | none =>
    have yes : ∀ {b : Addr}, b = a → (if b = a then some (HO.frz { cls := .type "list", data := .seq vs.toArray } (.lst (ns.map V.int))) else none) = some (HO.frz { cls := .type "list", data := .seq vs.toArray } (.lst (ns.map V.int))) := fun z => if_pos z
    have nay : ∀ {b : Addr}, b ≠ a → (if b = a then some (HO.frz { cls := .type "list", data := .seq vs.toArray } (.lst (ns.map V.int))) else none) = none := fun z => if_neg z
    refine main (fun b => if b = a then some (HO.frz { cls := .type "list", data := .seq vs.toArray } (.lst (ns.map V.int))) else none) (fun b => ?_) (.inl (.inr ⟨_, yes rfl⟩)) (fun b u z => ?_) (fun b z => ?_) fun _ => hk
    · rcases Classical.em (b = a) with h | h
      · exact .inr ⟨_, _, yes h⟩
      · exact .inl (nay h)
    · rcases Classical.em (b = a) with h | h
      · have z2 := (yes h).symm.trans z
        cases z2
        subst h
        exact ⟨ha, by rw [List.length_map]; exact hl, vs, _, rv, ha⟩
      · have z2 := (nay h).symm.trans z
        cases z2
    · rcases Classical.em (b = a) with h | h
      · exact h
      · exact absurd (nay h) z

theorem walkG {l : PySem.W.OpenLaw} {n lv : Nat} {q : Program} {loose : List Str} {XP : (Str → Option Value) → Heap → Prop} {YP : World → Heap → Prop} {d : DefRec} {K : Params → PySem.W.Frag} {sp : World → Sp} {x : Str}
    (hn : l.most = some n) (hn2 : n ≤ sizeLine) (hdf : d.params.defaults = []) (hr : Room lv callerA) (hY : ∀ (w : World) (h : Heap), YP w h → (K w.params).In h)
    (G : ∀ (w : World) (mg : Str → Option Value) (fa : Addr) (h : Heap), (K w.params).In h → h.Ns mainGlobals mg → mg d.name = some (.ref fa) →
      ∃ fd : FuncData, (∀ (s : Shared) (u : Value), BindsTo s fd ⟨[u], []⟩ [(x, u)]) ∧ ∀ base : Heap, (K w.params).In base → base.Ns mainGlobals mg → FnG l.prog w (K w.params) mg base CX0 lv fa fd [x] (sp w))
    (hsp : ∀ (w : World) (H : Hp) (a : Addr) (ns : List Int), ns.length ≤ n → Only H → SqL (K w.params) H a (ns.map V.int) → sp w [.ref a] H (fun v _ => v = .bl true) fun _ _ _ => False) :
    PySem.W.WalkO q loose XP YP l.row.toRowW d [] (fun f vs => PySem.call f vs) := by
  refine Att.attach_call hn hdf fun w s0 s1 mg mb fa o pm cd doc a vs ns Gr Y ho hd hcd hmg hobj hints hlen hg => ?_
  have KX := hY w _ Y
  obtain ⟨fd, hb, hF⟩ := G w mg fa _ KX Gr.T.g hmg
  exact lawG KX Gr.T.g Gr.T.b Gr.T.builtins Gr.T.nolimit hg hobj hints (Nat.le_trans hlen hn2) hr hF hb fun H hO hS => hsp w H a ns hlen hO hS

/-! ### repr of tuples and lists -/
mutual
theorem dp_noDict {K : PySem.W.Frag} {H : Hp} : ∀ {v : V} {d : PyData}, Dp K H v d → d.hasDict = false
  | _, _, .non => by simp only [PyData.hasDict]
  | _, _, .bl _ => by simp only [PyData.hasDict]
  | _, _, .int _ => by simp only [PyData.hasDict]
  | _, _, .str _ => by simp only [PyData.hasDict]
  | _, _, .lst _ h => by simp only [PyData.hasDict]; exact dp_noDictAll h
  | _, _, .tup _ h => by simp only [PyData.hasDict]; exact dp_noDictAll h
theorem dp_noDictAll {K : PySem.W.Frag} {H : Hp} : ∀ {vs : List V} {ds : List PyData}, DpAll K H vs ds → PyData.hasDictAll ds = false
  | _, _, .nil => by simp only [PyData.hasDictAll]
  | _, _, .cons h r => by simp only [PyData.hasDictAll, dp_noDict h, dp_noDictAll r, Bool.or_false]
end
/-! how long a thing is, shown, at most -/
mutual
def cost : PyData → Nat
  | .none | .bool _ => 5
  | .int _ => 2000
  | .str x => 10 * x.cps.size + 2
  | .list xs | .tuple xs => costAll xs + 3
  | .dict _ => 0
def costAll : List PyData → Nat
  | [] => 0
  | x :: xs => cost x + 2 + costAll xs
end
mutual
theorem shown_cost : ∀ d : PyData, d.leavesShort 2000 = true → d.hasDict = false → d.shown.length ≤ cost d
  | .none, _, _ => by decide
  | .bool b, _, _ => by cases b <;> decide
  | .int i, h, _ => by
    simp only [PyData.leavesShort, decide_eq_true_eq] at h
    simp only [cost]
    exact h
  | .str x, h, _ => by
    have hx : ∀ c ∈ x.cps.toList, c < 16 ^ 8 := by simpa only [PyData.leavesShort, List.all_eq_true, decide_eq_true_eq] using h
    have e := StrLaws.reprText_len x hx
    have e2 : x.length = x.cps.size := rfl
    simp only [PyData.shown, cost]
    omega
  | .list xs, h, hd => by
    have h1 := shown_costs xs (by simpa only [PyData.leavesShort] using h) (by simpa only [PyData.hasDict] using hd)
    have h2 := listText_len_le (PyData.shownAll xs)
    have h3 := PyData.shownAll_length xs
    simp only [PyData.shown, cost]
    omega
  | .tuple xs, h, hd => by
    have h1 := shown_costs xs (by simpa only [PyData.leavesShort] using h) (by simpa only [PyData.hasDict] using hd)
    have h2 := tupleText_len_le (PyData.shownAll xs)
    have h3 := PyData.shownAll_length xs
    simp only [PyData.shown, cost]
    omega
  | .dict _, _, hd => by simp [PyData.hasDict] at hd
theorem shown_costs : ∀ xs : List PyData, PyData.leavesShortAll 2000 xs = true → PyData.hasDictAll xs = false → ((PyData.shownAll xs).map (·.length)).sum + 2 * xs.length ≤ costAll xs
  | [], _, _ => by simp only [PyData.shownAll, costAll, List.map_nil, List.sum_nil, List.length_nil]; omega
  | x :: xs, h, hd => by
    simp only [PyData.leavesShortAll, Bool.and_eq_true] at h
    simp only [PyData.hasDictAll, Bool.or_eq_false_iff] at hd
    have h1 := shown_cost x h.1 hd.1
    have h2 := shown_costs xs h.2 hd.2
    simp only [PyData.shownAll, costAll, List.map_cons, List.sum_cons, List.length_cons]
    omega
end
/-- what may be shown: ints of at most 1919 bits, texts of plain signs; its length and depth bounded -/
def Shows (d : PyData) : Prop := d.showable = true ∧ d.leavesShort 2000 = true ∧ cost d ≤ 16000000 ∧ d.depth ≤ 60
theorem Shows.len {d : PyData} (h : Shows d) (n : d.hasDict = false) : d.shown.length ≤ sizeLine := by
  have e := shown_cost d h.2.1 n
  have w := h.2.2.1
  rw [sizeLine_eq]
  omega
section
variable {X : Cx}
theorem call_reprD {lv : Nat} (hq : X.A.guards = some []) (hr : Room lv X.A) : CallR X (.builtin "repr") (fun xs H Q => ∃ a d, xs = [.ref a] ∧ Dp X.K H (.ref a) d ∧ Shows d ∧ Q (.str d.shown) H) := by
  intro pins s σ H xs us Q I r h
  obtain ⟨a, d, rfl, hd, hs, q⟩ := h
  obtain ⟨u, rfl, ru⟩ := vals1 r
  obtain ⟨as, rd⟩ := Dp.reads I d _ _ hd ru
  obtain rfl : u = Value.ref a := ru
  have hu := hr.un
  have hdp := hs.2.2.2
  refine repr_of_reads' (h₀ := s.heap) rd hs.1 (PyData.noDict_hsm (dp_noDict hd)) hq (by omega) (fun _ _ z => z) (fun h' t tk k => ?_) (hs.len (dp_noDict hd))
  exact ⟨.str d.shown, H, I.kept k, ⟨t, rfl⟩, q⟩
/-- // by any number but nought, below 2 ^ 9000 in size -/
def CDivA (_ j : Int) : Prop := j ≠ 0 ∧ j.natAbs.log2 < 9000
theorem op_fdivA : OpR X (binaryOp .FloorDiv) (rI CDivA fun i j => .int (i.fdiv j)) := opI fun i j _ _ _ _ _ hc q => floordiv_int hc.1 q (.inl (PyProof.noPylong_of_log2 hc.2))
/-- * of two factors of together less than a million bits -/
def CMulA (i j : Int) : Prop := i.natAbs.log2 + j.natAbs.log2 < 1000000
theorem mulA_ok {i j : Int} (h : CMulA i j) : IntMulOk i j := by
  have bits : ∀ x : Int, Builtin.Int.intBits x ≤ x.natAbs.log2 + 1 := fun x => by
    unfold Builtin.Int.intBits
    split <;> omega
  have h1 := bits i
  have h2 := bits j
  have h3 : i.natAbs.log2 + j.natAbs.log2 < 1000000 := h
  intro z
  rw [Bool.and_eq_true] at z
  have z3 := of_decide_eq_true (show decide _ = true from z.2)
  have e : bitsLine = 134217728 := by decide
  rw [e] at z3
  omega
theorem op_mulA : OpR X (binaryOp .Mult) (rI CMulA fun i j => .int (i * j)) := opI fun _ _ _ _ _ _ _ hc q => mul_int q (mulA_ok hc)
end
end Fp

set_option Elab.async false
set_option linter.all false
set_option maxRecDepth 100000
set_option maxHeartbeats 4000000
namespace Fp
open PySem PySem.Spec PyProof.Rows L2
/-! ### C.f(e, ..), C a class of one's own, f a def of its body -/
structure ClsFn (K : PySem.W.Frag) (C : Addr) (m : Str) (f : Addr) : Prop where
  rd : PySem.W.readsIn K C (.type "type") = true
  fc : PySem.W.findCls K (.ref C) (.type "type") m = some (.val (.ref f))
  hd : PySem.W.handedIn (.ref f) = true
  sp : PySem.W.specialIn K (.ref C) "__getattribute__" = some (some (.builtin "type.__getattribute__"))
  kp : PySem.W.keepIn K (.ref f) = true
section
variable {X : Cx} {CX : CXT} {lv : Nat} {f C : Addr} {fd : FuncData} {ps : List Str} {sp : Sp} {E : XK} {x m : Str} {p pos apos : Pos} {e : Expr} {es : List Expr} {t : TA}
theorem pe_clsfn {pl : Sem Bool} (c : ClsFn X.K C m f) (F : FnOk X.prog X.w X.K X.mg X.base CX lv f fd ps sp) (hr : Room lv X.A) (hg : Gl X x) (hm : X.mg x = some (.ref C)) (hb : Binds X.K fd ps []) (hx : Passes CX X E) (ha : PA X (e :: es) t)
    (hdb : (x == ("__debug__" : Str)) = false := by decide) (hst : starEach (e :: es) X.env = (false, eval e X.env) :: starEach es X.env := by rfl) (hpl : (backTo pos (starEach es X.env)).any (·.1) = false := by rfl)
    (ht : eval (.Call (.Attribute (.Name x p) m apos) (e :: es) [] pos) X.env = (do
      let ov ← eval (.Name x p) X.env
      standAt apos.atName
      let (g, first) ← holding [ov] (getMethod ov m pl)
      callWith pos g first (backTo pos (starEach (e :: es) X.env)) (backToKw pos (keywordEach [] X.env))) := by rfl) :
    PE X (.Call (.Attribute (.Name x p) m apos) (e :: es) [] pos) (tCall sp [] E t) := by
  refine ⟨fun pins s σ H Q I h => PySem.W.methodCall_KW (pl := pl) (ld_glob I hg hm ?_ hdb) ht⟩
  refine PySem.W.method_cls I.kIn c.sp (PySem.W.cls_value I.kIn c.rd c.fc c.hd ?_)
  refine PySem.W.callWith_K (first := []) (h₀ := X.base) I.ok.mod.kin c.kp (thn (ha.run pos pins _ σ H _ (I.tok _) h) fun us s2 z => ?_) hst hpl
  obtain ⟨vs, H2, I2, r, q⟩ := z
  exact ⟨I2.kIn, run_fn F hr hb .nil hx I2 r q⟩
end
/-- an error of the class at S is what an except of S names -/
theorem exm_own {K : PySem.W.Frag} {S : Addr} (h1 : PySem.W.subIn K (.ref S) (.type "BaseException") = some true) (h2 : PySem.W.isClsIn K S = true) (h3 : PySem.W.typeIn K (.ref S) = some (.type "type")) (h4 : PySem.W.subIn K (.ref S) (.ref S) = some true) :
    PySem.W.exmOne K (.ref S) (.ref S) = some true := by
  have y1 : (PySem.W.subIn K (.ref S) (.type "BaseException") == some true) = true := by rw [h1] <;> rfl
  have y2 : ((PySem.W.clsIn K S).isSome && PySem.W.typeIn K (.ref S) == some (.type "type")) = true := by
    have h5 : (PySem.W.clsIn K S).isSome = true := h2
    rw [h5, h3] <;> rfl
  show (if (PySem.W.subIn K (.ref S) (.type "BaseException") == some true) = true then (if ((PySem.W.clsIn K S).isSome && PySem.W.typeIn K (.ref S) == some (.type "type")) = true then PySem.W.subIn K (.ref S) (.ref S) else none) else none) = some true
  rw [if_pos y1, if_pos y2]
  exact h4
/-! ### C(), C an own exception over ValueError whose __init__ stores nothing -/
section
variable {X : Cx}
/-- the promise of such an __init__ of one argument, self -/
def spIni (K : PySem.W.Frag) : Sp := fun vs H Q _ => ∃ a C : Addr, vs = [.ref a] ∧ OexC K C ∧ H a = some (exo a C none) ∧ Q .non H
/-- .. of self and a text -/
def spIni1 (K : PySem.W.Frag) : Sp := fun vs H Q _ => ∃ (a C : Addr) (y : V), vs = [.ref a, y] ∧ OexC K C ∧ H a = some (exo a C none) ∧ Q .non H
theorem let_go {pins : List (Addr × Obj)} {σ : L2.St} {H1 : Hp} {hp hp2 h2 : Heap} {g1 g2 : Array GenState} {d1 d2 : Drawn} {t1 t2 : Nat} {os1 os2 : OsState} {a C : Addr} (I1 : Inv X pins σ H1 ⟨hp, g1, d1, t1, os1⟩)
    (ha : hp.objs.size ≤ a) (k : ∀ b o, hp.get? b = some o → hp2.get? b = some o) (un : Un (frs X.stack) [] (upd H1 a (exo a C none)) (upd H1 a (exo a C none)) hp2 h2) (hok : HOk X.prog X.w (upd H1 a (exo a C none)) h2) (ho : os2 = os1) (hb : AllBare g2) :
    ∃ (t0 : Addr) (G : Heap), Inv X pins σ H1 ⟨G, g2, d2, t2, os2⟩ ∧ (∀ b o, G.get? b = some o → h2.get? b = some o) ∧ G.get? a = none ∧
      h2.get? a = some ({ cls := .ref C, dict := none, data := .fields #[.ref t0, .none, .none, .none, .bool false, .none] } : Obj) := by
  obtain ⟨t0, hoe⟩ := exo_at hok (upd_same (H := H1))
  have hn : H1 a = none := I1.hok.fresh ha
  obtain ⟨G, y1, y2⟩ := restrict h2 fun b => decide (b ≠ a)
  have gk : ∀ b, b ≠ a → G.get? b = h2.get? b := fun b hb => y1 b (decide_eq_true hb)
  have ge : G.get? a = none := y2 a (by simp)
  have old : ∀ {b : Addr} {o : Obj}, hp.get? b = some o → b ≠ a := fun {b o} z => Nat.ne_of_lt (Nat.lt_of_lt_of_le (Heap.lt_size z) ha)
  have up : ∀ {b : Addr}, b ≠ a → H1 b = none → upd H1 a (exo a C none) b = none := fun {b} hb n => by rw [upd_ne hb]; exact n
  have dn : ∀ {b : Addr} {u : HO}, H1 b = some u → upd H1 a (exo a C none) b = some u := fun {b u} z => by rw [upd_ne (ne_of_none z hn)]; exact z
  have ne : ∀ {b : Addr} {u : HO}, H1 b = some u → b ≠ a := fun {b u} z => ne_of_none z hn
  have U : Un (frs X.stack) [] H1 H1 hp G :=
    ⟨fun b o z n hf hx => by rw [gk b (old z)]; exact un.keep b o (k b o z) (up (old z) n) hf hx,
     fun b o z n hf hx => by rw [gk b (old z)]; exact un.slot b o (k b o z) (up (old z) n) hf hx,
     fun b o z n hx => n,
     fun b o z hx => by rw [gk b (old z)]; exact un.there b o (k b o z) hx,
     fun b xs z => z, fun b o v z => z, fun b qs z => ⟨#[], by rw [z]; simp⟩⟩
  have hok3 : HOk X.prog X.w H1 G := fun b o z => by
    refine (hok b o (dn z)).stay (fun c v hc y => ?_) (fun c hc => ?_) (fun c xs hc => ?_)
    · have hca : c ≠ a := by
        rcases hc with hc | hc
        · rw [hc]; exact ne z
        · exact at_ne (upd_same (H := H1)) hc exo_own
      rw [gk c hca]
      exact y
    · have hca : c ≠ a := at_ne (upd_same (H := H1)) hc exo_own
      rw [upd_ne hca] at hc
      exact hc
    · have hca : c ≠ a := at_ne (upd_same (H := H1)) hc exo_tup
      rw [upd_ne hca] at hc
      exact hc
  have J : Inv X pins σ H1 ⟨G, g2, d2, t2, os2⟩ := I1.call' (ch := []) ho U hok3 hb (fun b z => absurd z (by simp))
  refine ⟨t0, G, J, fun b o z => ?_, ge, hoe⟩
  rcases Classical.em (b = a) with hba | hba
  · rw [hba, ge] at z
    cases z
  · exact (gk b hba).symm.trans z
theorem pmk_bare {CX : CXT} {x : Str} {C fI : Addr} {lv : Nat} {fd : FuncData} {ps : List Str} {p pos : Pos} (T : OexC X.K C) (iC : PySem.W.findIn X.K (.ref C) "__init__" = some (some (.ref fI))) (tI : PySem.W.typeIn X.K (.ref fI) = some (.type "function"))
    (F1 : FnOk X.prog X.w X.K X.mg X.base CX lv fI fd ps (spIni X.K)) (hr : Room (lv + 1) X.A) (hb : Binds X.K fd ps []) (hx : Passes CX X (fun _ _ _ => False)) (hg : Gl X x) (hm : X.mg x = some (.ref C)) (hdb : (x == ("__debug__" : Str)) = false := by decide) :
    PMk X (.Call (.Name x p) [] [] pos) (fun _ H Q => Q (.ref C) none H) := by
  intro pins s σ H Q I h
  obtain ⟨nm, q, N, bs, bm, sn, sub, ab, col, dd, k0, k1, k2, k3, k5, hC, hbm⟩ := T.cls
  refine wpAny_Call_Name_kw (ld_glob I hg hm ?_ hdb)
  refine PySem.W.callWith_K0 I.kIn T.kC ?_
  show wpAny _ _ (call (.ref C) []) _ _ _
  obtain ⟨hp, g, dr, tk, os⟩ := s
  have hsz : hp.objs.size ≤ hp.objs.size + 1 := Nat.le_succ _
  have kk : ∀ b o, hp.get? b = some o → ((hp.push (PySem.W.kdv_tup [])).push (PySem.HandSPX.excO C hp.objs.size)).get? b = some o := fun b o z => Heap.get?_push_of_some _ (Heap.get?_push_of_some _ z)
  have hget : ((hp.push (PySem.W.kdv_tup [])).push (PySem.HandSPX.excO C hp.objs.size)).get? (hp.objs.size + 1) = some (PySem.HandSPX.excO C hp.objs.size) := by heap_get
  have I2 : Inv X pins σ (upd H (hp.objs.size + 1) (exo (hp.objs.size + 1) C none)) ⟨(hp.push (PySem.W.kdv_tup [])).push (PySem.HandSPX.excO C hp.objs.size), g, dr, tk, os⟩ :=
    I.laid (t' := tk) (a := hp.objs.size + 1) (o := exo (hp.objs.size + 1) C none) (h' := (hp.push (PySem.W.kdv_tup [])).push (PySem.HandSPX.excO C hp.objs.size)) kk hsz (exo_ok hget)
  have r2 : Vals [V.ref (hp.objs.size + 1)] [Value.ref (hp.objs.size + 1)] := .cons rfl .nil
  have hsp : spIni X.K [V.ref (hp.objs.size + 1)] (upd H (hp.objs.size + 1) (exo (hp.objs.size + 1) C none)) (fun v H2 => v = .non ∧ H2 = upd H (hp.objs.size + 1) (exo (hp.objs.size + 1) C none)) (fun _ _ _ => False) :=
    ⟨_, C, rfl, T, upd_same, rfl, rfl⟩
  have hl : ([Value.ref (hp.objs.size + 1)] ++ []).length = ps.length := by
    have z := F1.len _ _ _ _ hsp
    exact z
  refine wpAny_call (PySem.HandSPX.call_own F.excBase_ValueError (fun Y => PySem.HandSPX.refsVE_contains Y bm hbm) (I.kIn _ _ hC) (PySem.W.looks_findIn I.kIn iC) (fun self => PySem.W.bind_fn I.kIn self tI) (Nat.zero_le _)
    (codeAny_mono (F1.run _ X.stack _ _ ⟨[Value.ref (hp.objs.size + 1)], []⟩ [Value.ref (hp.objs.size + 1)] _ _ (fun _ _ _ => False) (hr.make C [] []) (I2.env0.make C [] []) (hb _ [Value.ref (hp.objs.size + 1)] I2.kIn hl) r2 hsp) fun res s2 z => ?_))
  match res, z with
  | .error er, z => exact hx pins σ _ _ er s2 I2 z
  | .ok .next, z => exact False.elim z
  | .ok .brk, z => exact False.elim z
  | .ok .cont, z => exact False.elim z
  | .ok (.ret u), z =>
    obtain ⟨v, H2, os2, bare2, un2, hok2, rv, ev, eH⟩ := z
    subst ev
    rw [eH] at un2 hok2
    obtain ⟨h2, g2, d2, t2, os3⟩ := s2
    obtain ⟨t0, G, J, kG, ge, hoe⟩ := let_go (d2 := d2) (t2 := t2) I hsz kk un2 hok2 os2 bare2
    exact ⟨rv, _, _, _, ⟨G, g2, d2, t2, os3⟩, _, .ref C, none, rfl, J, kG, ge, hoe, ⟨rfl, rfl⟩, rfl, rfl, I.hok.fresh hsz, rfl, bare2, raises_own T.exC T.tyC, h⟩
end
end Fp

set_option Elab.async false
set_option linter.all false
set_option maxRecDepth 100000
set_option maxHeartbeats 4000000
namespace Fp
open PySem PySem.Spec PyProof.Rows L2
def topS (i : Nat) : Stmt := PySem.Challenge.pw_freshparts_k02_ratios_reckoned.main.body.getD i (.Pass ⟨0, 0, 0, 0⟩)
abbrev s_cd : Stmt := topS 4
abbrev s_ratio : Stmt := topS 5
theorem sc_cd : FnScope ["one", "other", "great", "small"] ["one", "other"] (defScope s_cd) := ⟨rfl, rfl, rfl, by decide +kernel, rfl, by decide +kernel, by decide +kernel⟩
theorem sc_ratio : FnScope ["top", "bottom", "divisor"] ["top", "bottom"] (defScope s_ratio) := ⟨rfl, rfl, rfl, by decide +kernel, rfl, by decide +kernel, by decide +kernel⟩

/-! ### the greatest common divisor -/
theorem abs_if (i : Int) : (if i < 0 then -i else i) = (i.natAbs : Int) := by split <;> omega
theorem gcd_turn {g s : Int} (hs : 0 < s) (hg : 0 ≤ g) : Int.gcd s (g.fmod s) = Int.gcd g s := by
  obtain ⟨n, rfl⟩ := Int.eq_ofNat_of_zero_le hg
  obtain ⟨m, rfl⟩ := Int.eq_ofNat_of_zero_le (Int.le_of_lt hs)
  rw [Int.fmod_eq_emod_of_nonneg _ (Int.le_of_lt hs)]
  show Nat.gcd m ((n : Int) % (m : Int)).natAbs = Nat.gcd n m
  rw [show ((n : Int) % (m : Int)) = ((n % m : Nat) : Int) from (Int.natCast_emod n m).symm, Int.natAbs_natCast, Nat.gcd_comm n m, Nat.gcd_comm m (n % m)]
  exact (Nat.gcd_rec m n).symm

section
variable {P : Program} {w : World} {K : PySem.W.Frag} {mg : Str → Option Value} {base : Heap}
def spCd : Sp := fun vs H Q _ => ∃ a b : Int, vs = [.int a, .int b] ∧ Q (.int (Int.gcd a b : Nat)) H
theorem ok_cd {f : Addr} {fd : FuncData} {k : Nat} (F : Fun K "common_divisor" "common_divisor" s_cd f fd) (ma : mg "abs" = none) : FnOk P w K mg base CX0 (k + 1) f fd ["one", "other"] spCd := by
  refine F.ok sc_cd (fun vs H Q E h => ?_) (fun cdv A outer s H vs Q E hr h => ?_)
  · obtain ⟨a, b, rfl, _⟩ := h
    rfl
  · obtain ⟨a, b, rfl, q⟩ := h
    refine ⟨_, pss_cons (ps_par (i := 2) (j := 3) rfl sc_cd.nd rfl rfl (by decide) rfl rfl (pa_cons (pe_callB call_abs (by rfl) ma (by decide +kernel) (pa_cons (pv 0) pa_nil)) (pa_cons (pe_callB call_abs (by rfl) ma (by decide +kernel) (pa_cons (pv 1) pa_nil)) pa_nil)) (by rfl))
      (pss_cons (ps_while PassesOwn.never (pt_cmpR op_ne (pv 3) pe_int (nomark _)) (pss_one (ps_par (i := 2) (j := 3) rfl sc_cd.nd rfl rfl (by decide) rfl rfl (pa_cons (pv 3) (pa_cons (pe_op op_modN (pv 2) (pv 3)) pa_nil)) (by rfl))))
      (pss_one (ps_ret (pv 2)))), ?_⟩
    refine ⟨_, rfl, a, rfl, _, rfl, b, rfl, _, _, rfl, ?_⟩
    refine while_by (fun σ H1 => H1 = H ∧ ∃ g s : Int, σ = [some (.int a), some (.int b), some (.int g), some (.int s)] ∧ 0 ≤ g ∧ 0 ≤ s ∧ Int.gcd g s = Int.gcd a b)
      (fun σ _ => match σ with | [_, _, _, some (.int s)] => s.toNat | _ => 0) ?_ ?_ ?_
    · refine ⟨rfl, _, _, rfl, ?_, ?_, ?_⟩
      · rw [abs_if]; omega
      · rw [abs_if]; omega
      · rw [abs_if, abs_if]
        show Nat.gcd _ _ = Nat.gcd _ _
        rw [Int.natAbs_natCast, Int.natAbs_natCast]
    · rintro σ H1 ⟨rfl, g, s, rfl, hg, hs, e⟩
      refine ⟨_, rfl, rfl, _, rfl, ite2 (fun c => ?_) (fun c => ?_)⟩
      · have hs0 : s ≠ 0 := fun z => by
          rw [z] at c
          exact absurd c (by decide)
        have hp : 0 < s := by omega
        have lt : s > g.fmod s := Int.fmod_lt_of_pos g hp
        have nn : 0 ≤ g.fmod s := Int.fmod_nonneg_of_pos g hp
        refine ⟨_, rfl, _, rfl, _, rfl, g, s, rfl, rfl, hs0, _, _, rfl, ⟨rfl, s, g.fmod s, rfl, hs, nn, ?_⟩, ?_⟩
        · rw [gcd_turn hp hg]; exact e
        · show (g.fmod s).toNat < s.toNat
          omega
      · have hs0 : s = 0 := by
          rcases Classical.em (s = 0) with z | z
          · exact z
          · exact absurd (show (!decide (V.int s = V.int 0)) = true by simp [z]) c
        subst hs0
        refine ⟨_, rfl, ?_⟩
        have eg : g = ((Int.gcd a b : Nat) : Int) := by
          rw [← e, Int.gcd_zero_right]
          omega
        rw [eg]
        exact q
    · intro σ H1 Q1 Q2 hq h
      obtain ⟨v, e1, e2, k, e3, h⟩ := h
      exact ⟨v, e1, e2, k, e3, hq _ _ h⟩

/-! ### refusals -/
abbrev s_fini : Stmt := inClass (topS 1) 0
abbrev s_nini : Stmt := inClass (topS 2) 0
theorem sc_fini : FnScope ["self", "text"] ["self", "text"] (defScope s_fini) := ⟨rfl, rfl, rfl, by decide +kernel, rfl, by decide +kernel, by decide +kernel⟩
theorem sc_nini : FnScope ["self"] ["self"] (defScope s_nini) := ⟨rfl, rfl, rfl, by decide +kernel, rfl, by decide +kernel, by decide +kernel⟩
/-- what the top has written of the refusals: FreshError at CF, NoRatio at CN -/
structure Err (K : PySem.W.Frag) (mg : Str → Option Value) (CF CN fF fN : Addr) (fdF fdN : FuncData) : Prop where
  gF : mg "FreshError" = some (.ref CF)
  gN : mg "NoRatio" = some (.ref CN)
  oN : OexC K CN
  iN : PySem.W.findIn K (.ref CN) "__init__" = some (some (.ref fN))
  tN : PySem.W.typeIn K (.ref fN) = some (.type "function")
  cF : ClsFn K CF "__init__" fF
  FF : Fun K "__init__" "FreshError.__init__" s_fini fF fdF
  FN : Fun K "__init__" "NoRatio.__init__" s_nini fN fdN
  bF : Binds K fdF ["self", "text"] []
  bN : Binds K fdN ["self"] []
  mV : mg "ValueError" = none
  vV : PySem.W.findCls K (.type "ValueError") (.type "type") "__init__" = some (.val (.builtin "ValueError.__init__"))
variable {CF CN fF fN : Addr} {fdF fdN : FuncData}
theorem ok_fini (T : Err K mg CF CN fF fN fdF fdN) : FnOk P w K mg base CX0 1 fF fdF ["self", "text"] (spIni1 K) := by
  refine T.FF.ok sc_fini (fun vs H Q E h => ?_) (fun cdv A outer s H vs Q E hr h => ?_)
  · obtain ⟨a, C, y, rfl, _⟩ := h
    rfl
  · obtain ⟨a, C, y, rfl, o, ea, q⟩ := h
    refine ⟨_, pss_one (ps_expr (pe_veinit (by rfl) T.mV T.vV (pa_cons (pv 0) (pa_cons (pv 1) pa_nil)))), ?_⟩
    exact ⟨_, rfl, _, rfl, a, C, [y], rfl, by show 1 ≤ 1000; decide, o, ea, q⟩
theorem ok_nini (T : Err K mg CF CN fF fN fdF fdN) : FnOk P w K mg base CX0 2 fN fdN ["self"] (spIni K) := by
  refine T.FN.ok sc_nini (fun vs H Q E h => ?_) (fun cdv A outer s H vs Q E hr h => ?_)
  · obtain ⟨a, C, rfl, _⟩ := h
    rfl
  · obtain ⟨a, C, rfl, o, ea, q⟩ := h
    refine ⟨_, pss_one (ps_expr (pe_clsfn T.cF (ok_fini T) hr (by rfl) T.gF T.bF pass0 (pa_cons (pv 0) (pa_cons pe_str pa_nil)))), ?_⟩
    exact ⟨_, rfl, a, C, _, rfl, o, ea, q⟩
/-! ### ratio -/
def ratG (t b : Int) : Int := if b < 0 then -((Int.gcd t b : Nat) : Int) else ((Int.gcd t b : Nat) : Int)
def ratT (t b : Int) : Int := t.fdiv (ratG t b)
def ratB (t b : Int) : Int := b.fdiv (ratG t b)
theorem gcd_le {t b : Int} (h : b ≠ 0) : 0 < Int.gcd t b ∧ Int.gcd t b ≤ b.natAbs := by
  have hb : 0 < b.natAbs := by omega
  exact ⟨Nat.gcd_pos_of_pos_right _ hb, Nat.gcd_le_right _ hb⟩
theorem ratG_ok {t b : Int} {n : Nat} (h : b ≠ 0) (hb : b.natAbs < 2 ^ n) (hn : n ≤ 9000) (h0 : 0 < n) : CDivA t (ratG t b) ∧ CDivA b (ratG t b) := by
  obtain ⟨h1, h2⟩ := gcd_le (t := t) h
  have e : (ratG t b).natAbs = Int.gcd t b := by
    unfold ratG
    split <;> omega
  have ne : ratG t b ≠ 0 := by omega
  have l : (ratG t b).natAbs.log2 < 9000 := by
    rw [e]
    exact Nat.lt_of_lt_of_le ((Nat.log2_lt (by omega)).mpr (Nat.lt_of_le_of_lt h2 hb)) hn
  exact ⟨⟨ne, l⟩, ⟨ne, l⟩⟩
def spRatio (C : Addr) : Sp := fun vs H Q E => ∃ (t b : Int), vs = [.int t, .int b] ∧ b.natAbs < 2 ^ 8000 ∧ (b = 0 → E (.ref C) none H) ∧
  (b ≠ 0 → ∀ p, H p = none → Q (.ref p) (upd H p (.tup [.int (ratT t b), .int (ratB t b)])))
theorem ok_ratio {f fC : Addr} {fd fdC : FuncData} (F : Fun K "ratio" "ratio" s_ratio f fd) (T : Err K mg CF CN fF fN fdF fdN) (FC : Fun K "common_divisor" "common_divisor" s_cd fC fdC) (bC : Binds K fdC ["one", "other"] [])
    (gC : mg "common_divisor" = some (.ref fC)) (ma : mg "abs" = none) : FnOk P w K mg base (L2.CX P w) 4 f fd ["top", "bottom"] (spRatio CN) := by
  have GC : FnOk P w K mg base CX0 1 fC fdC ["one", "other"] spCd := ok_cd FC ma
  refine F.okX sc_ratio (fun vs H Q E h => ?_) (fun cdv A outer s H vs Q E hr h => ?_)
  · obtain ⟨t, b, rfl, _⟩ := h
    rfl
  · obtain ⟨t, b, rfl, hb, q0, q1⟩ := h
    refine ⟨_, pss_cons (ps_if (pt_cmpR op_eq (pv 1) pe_int (nomark _)) (pss_one (ps_raise rfl (takes_of rfl rfl rfl rfl) (pmk_bare T.oN T.iN T.tN (ok_nini T) hr T.bN pass0 (by rfl) T.gN))) pss_nil)
      (pss_cons (ps_set (i := 2) sc_ratio.nd rfl (.inl rfl) (pe_call GC (hr.mono (by decide)) (by rfl) gC FC.kp bC .nil pass0 (pa_cons (pv 0) (pa_cons (pv 1) pa_nil))))
      (pss_cons (ps_if (pt_cmpR op_lt (pv 1) pe_int (nomark _)) (pss_one (ps_set (i := 2) sc_ratio.nd rfl (.inl rfl) (pe_un un_neg (pv 2)))) pss_nil)
      (pss_one (ps_ret (pe_tup (pa_cons (pe_op op_fdivA (pv 0) (pv 2)) (pa_cons (pe_op op_fdivA (pv 1) (pv 2)) pa_nil))))))), ?_⟩
    refine ⟨_, rfl, rfl, _, rfl, ite2 (fun c => ?_) (fun c => ?_)⟩
    · exact q0 (V.int.inj (of_decide_eq_true c))
    · have h0 : b ≠ 0 := fun z => c (decide_eq_true (by rw [z]))
      obtain ⟨c1, c2⟩ := ratG_ok (t := t) h0 hb (by decide) (by decide)
      refine ⟨_, rfl, _, rfl, t, b, rfl, ?_⟩
      have fin : ∀ g : Int, g = ratG t b → ∀ p, H p = none → Q (.ref p) (upd H p (.tup [.int (t.fdiv g), .int (b.fdiv g)])) := fun g eg p hp => by
        rw [eg]
        exact q1 h0 p hp
      refine ⟨_, rfl, b, 0, rfl, rfl, _, rfl, ite2 (fun c3 => ?_) (fun c3 => ?_)⟩
      · have hneg : b < 0 := of_decide_eq_true c3
        have eg : -((Int.gcd t b : Nat) : Int) = ratG t b := by unfold ratG; rw [if_pos hneg]
        refine ⟨_, rfl, _, rfl, ?_⟩
        refine ⟨_, rfl, _, rfl, t, _, rfl, rfl, by rw [eg]; exact c1, _, rfl, _, rfl, b, _, rfl, rfl, by rw [eg]; exact c2, by show 2 ≤ sizeLine; decide, fin _ eg⟩
      · have hneg : ¬ b < 0 := fun z => c3 (decide_eq_true z)
        have eg : ((Int.gcd t b : Nat) : Int) = ratG t b := by unfold ratG; rw [if_neg hneg]
        refine ⟨_, rfl, _, rfl, t, _, rfl, rfl, by rw [eg]; exact c1, _, rfl, _, rfl, b, _, rfl, rfl, by rw [eg]; exact c2, by show 2 ≤ sizeLine; decide, fin _ eg⟩

/-! ### two ratios reckoned -/
theorem sqT_same {K : PySem.W.Frag} {H H' : Hp} {a : Addr} {xs : List V} (e : Same H H') (h : SqT K H a xs) : SqT K H' a xs := by
  rcases h with (h | ⟨o, h⟩) | h
  · exact .inl (.inl (e _ _ h))
  · exact .inl (.inr ⟨o, e _ _ h⟩)
  · exact .inr h
theorem same_new {H : Hp} {p : Addr} {o : HO} (h : H p = none) : Same H (upd H p o) := fun b x z => by
  rw [upd_ne (ne_of_none z h)]
  exact z
/-- bounds of what is multiplied -/
def Sm (n : Nat) (a : Int) : Prop := a.natAbs < 2 ^ n
theorem Sm.log {n : Nat} {a : Int} (h : Sm n a) (h0 : 0 < n) : a.natAbs.log2 < n := by
  rcases Nat.eq_zero_or_pos a.natAbs with z | z
  · rw [z]; simpa using h0
  · exact (Nat.log2_lt (by omega)).mpr h
theorem Sm.mul {n m : Nat} {a b : Int} (ha : Sm n a) (hb : Sm m b) : Sm (n + m) (a * b) := by
  unfold Sm at *
  rw [Int.natAbs_mul, Nat.pow_add]
  exact Nat.mul_lt_mul'' ha hb
theorem Sm.add {n : Nat} {a b : Int} (ha : Sm n a) (hb : Sm n b) : Sm (n + 1) (a + b) := by
  unfold Sm at *
  rw [Nat.pow_succ]
  omega
theorem Sm.sub {n : Nat} {a b : Int} (ha : Sm n a) (hb : Sm n b) : Sm (n + 1) (a - b) := by
  unfold Sm at *
  rw [Nat.pow_succ]
  omega
theorem Sm.mono {n m : Nat} {a : Int} (h : Sm n a) (l : n ≤ m) : Sm m a := Nat.lt_of_lt_of_le h (Nat.pow_le_pow_right (by decide) l)
theorem Sm.cmul {n m : Nat} {a b : Int} (ha : Sm n a) (hb : Sm m b) (h0 : 0 < n) (h1 : 0 < m) (h : n + m ≤ 1000000) : CMulA a b := by
  have x := ha.log h0
  have y := hb.log h1
  unfold CMulA
  omega
/-- at p1 and p2 the ratios a by b, c by d -/
structure Two (K : PySem.W.Frag) (H : Hp) (p1 p2 : Addr) (a b c d : Int) : Prop where
  t1 : SqT K H p1 [.int a, .int b]
  t2 : SqT K H p2 [.int c, .int d]
  sa : Sm 3000 a
  sb : Sm 3000 b
  sc : Sm 3000 c
  sd : Sm 3000 d
  pb : 0 < b
  pd : 0 < d
theorem Two.den {K : PySem.W.Frag} {H : Hp} {p1 p2 : Addr} {a b c d : Int} (h : Two K H p1 p2 a b c d) : 0 < b * d := Int.mul_pos h.pb h.pd
theorem Two.same {K : PySem.W.Frag} {H H' : Hp} {p1 p2 : Addr} {a b c d : Int} (h : Two K H p1 p2 a b c d) (e : Same H H') : Two K H' p1 p2 a b c d := ⟨sqT_same e h.t1, sqT_same e h.t2, h.sa, h.sb, h.sc, h.sd, h.pb, h.pd⟩
def spTwo (K : PySem.W.Frag) (num : Int → Int → Int → Int → Int) : Sp := fun vs H Q _ => ∃ (p1 p2 : Addr) (a b c d : Int), vs = [.ref p1, .ref p2] ∧ Two K H p1 p2 a b c d ∧
  ∀ p, H p = none → Q (.ref p) (upd H p (.tup [.int (ratT (num a b c d) (b * d)), .int (ratB (num a b c d) (b * d))]))
abbrev s_plus : Stmt := topS 6
theorem sc_plus : FnScope ["one", "other"] ["one", "other"] (defScope s_plus) := ⟨rfl, rfl, rfl, by decide +kernel, rfl, by decide +kernel, by decide +kernel⟩
theorem ok_plus {f fR : Addr} {fd fdR : FuncData} (F : Fun K "plus" "plus" s_plus f fd) (FR : Fun K "ratio" "ratio" s_ratio fR fdR) (bR : Binds K fdR ["top", "bottom"] []) (gR : mg "ratio" = some (.ref fR))
    (GR : FnOk P w K mg base (L2.CX P w) 4 fR fdR ["top", "bottom"] (spRatio CN)) : FnOk P w K mg base CX0 5 f fd ["one", "other"] (spTwo K (fun a b c d => a * d + c * b)) := by
  refine F.ok sc_plus (fun vs H Q E h => ?_) (fun cdv A outer s H vs Q E hr h => ?_)
  · obtain ⟨_, _, _, _, _, _, rfl, _⟩ := h
    rfl
  · obtain ⟨p1, p2, a, b, c, d, rfl, T, q⟩ := h
    refine ⟨_, pss_one (ps_ret (pe_call GR hr (by rfl) gR FR.kp bR .nil passL (pa_cons (pe_op op_add (pe_op op_mulA (pe_ix ix_tup (pv 0) pe_int (fun _ _ => rfl)) (pe_ix ix_tup (pv 1) pe_int (fun _ _ => rfl))) (pe_op op_mulA (pe_ix ix_tup (pv 1) pe_int (fun _ _ => rfl)) (pe_ix ix_tup (pv 0) pe_int (fun _ _ => rfl)))) (pa_cons (pe_op op_mulA (pe_ix ix_tup (pv 0) pe_int (fun _ _ => rfl)) (pe_ix ix_tup (pv 1) pe_int (fun _ _ => rfl))) pa_nil)))), ?_⟩
    refine ⟨_, rfl, p1, _, 0, _, rfl, rfl, T.t1, atI_nat (j := 0) rfl, _, rfl, p2, _, 1, _, rfl, rfl, T.t2, atI_nat (j := 1) rfl, a, d, rfl, rfl, T.sa.cmul T.sd (by decide) (by decide) (by decide), _, rfl, p2, _, 0, _, rfl, rfl, T.t2, atI_nat (j := 0) rfl, _, rfl, p1, _, 1, _, rfl, rfl, T.t1, atI_nat (j := 1) rfl, c, b, rfl, rfl, T.sc.cmul T.sb (by decide) (by decide) (by decide), _, _, rfl, rfl, _, rfl, p1, _, 1, _, rfl, rfl, T.t1, atI_nat (j := 1) rfl, _, rfl, p2, _, 1, _, rfl, rfl, T.t2, atI_nat (j := 1) rfl, b, d, rfl, rfl, T.sb.cmul T.sd (by decide) (by decide) (by decide), ?_⟩
    exact ⟨_, _, rfl, (T.sb.mul T.sd).mono (by decide), fun z => absurd z (Int.ne_of_gt T.den), fun _ => q⟩
abbrev s_minus : Stmt := topS 7
theorem sc_minus : FnScope ["one", "other"] ["one", "other"] (defScope s_minus) := ⟨rfl, rfl, rfl, by decide +kernel, rfl, by decide +kernel, by decide +kernel⟩
theorem ok_minus {f fR : Addr} {fd fdR : FuncData} (F : Fun K "minus" "minus" s_minus f fd) (FR : Fun K "ratio" "ratio" s_ratio fR fdR) (bR : Binds K fdR ["top", "bottom"] []) (gR : mg "ratio" = some (.ref fR))
    (GR : FnOk P w K mg base (L2.CX P w) 4 fR fdR ["top", "bottom"] (spRatio CN)) : FnOk P w K mg base CX0 5 f fd ["one", "other"] (spTwo K (fun a b c d => a * d - c * b)) := by
  refine F.ok sc_minus (fun vs H Q E h => ?_) (fun cdv A outer s H vs Q E hr h => ?_)
  · obtain ⟨_, _, _, _, _, _, rfl, _⟩ := h
    rfl
  · obtain ⟨p1, p2, a, b, c, d, rfl, T, q⟩ := h
    refine ⟨_, pss_one (ps_ret (pe_call GR hr (by rfl) gR FR.kp bR .nil passL (pa_cons (pe_op op_sub (pe_op op_mulA (pe_ix ix_tup (pv 0) pe_int (fun _ _ => rfl)) (pe_ix ix_tup (pv 1) pe_int (fun _ _ => rfl))) (pe_op op_mulA (pe_ix ix_tup (pv 1) pe_int (fun _ _ => rfl)) (pe_ix ix_tup (pv 0) pe_int (fun _ _ => rfl)))) (pa_cons (pe_op op_mulA (pe_ix ix_tup (pv 0) pe_int (fun _ _ => rfl)) (pe_ix ix_tup (pv 1) pe_int (fun _ _ => rfl))) pa_nil)))), ?_⟩
    refine ⟨_, rfl, p1, _, 0, _, rfl, rfl, T.t1, atI_nat (j := 0) rfl, _, rfl, p2, _, 1, _, rfl, rfl, T.t2, atI_nat (j := 1) rfl, a, d, rfl, rfl, T.sa.cmul T.sd (by decide) (by decide) (by decide), _, rfl, p2, _, 0, _, rfl, rfl, T.t2, atI_nat (j := 0) rfl, _, rfl, p1, _, 1, _, rfl, rfl, T.t1, atI_nat (j := 1) rfl, c, b, rfl, rfl, T.sc.cmul T.sb (by decide) (by decide) (by decide), _, _, rfl, rfl, _, rfl, p1, _, 1, _, rfl, rfl, T.t1, atI_nat (j := 1) rfl, _, rfl, p2, _, 1, _, rfl, rfl, T.t2, atI_nat (j := 1) rfl, b, d, rfl, rfl, T.sb.cmul T.sd (by decide) (by decide) (by decide), ?_⟩
    exact ⟨_, _, rfl, (T.sb.mul T.sd).mono (by decide), fun z => absurd z (Int.ne_of_gt T.den), fun _ => q⟩
abbrev s_times : Stmt := topS 8
theorem sc_times : FnScope ["one", "other"] ["one", "other"] (defScope s_times) := ⟨rfl, rfl, rfl, by decide +kernel, rfl, by decide +kernel, by decide +kernel⟩
theorem ok_times {f fR : Addr} {fd fdR : FuncData} (F : Fun K "times" "times" s_times f fd) (FR : Fun K "ratio" "ratio" s_ratio fR fdR) (bR : Binds K fdR ["top", "bottom"] []) (gR : mg "ratio" = some (.ref fR))
    (GR : FnOk P w K mg base (L2.CX P w) 4 fR fdR ["top", "bottom"] (spRatio CN)) : FnOk P w K mg base CX0 5 f fd ["one", "other"] (spTwo K (fun a b c d => a * c)) := by
  refine F.ok sc_times (fun vs H Q E h => ?_) (fun cdv A outer s H vs Q E hr h => ?_)
  · obtain ⟨_, _, _, _, _, _, rfl, _⟩ := h
    rfl
  · obtain ⟨p1, p2, a, b, c, d, rfl, T, q⟩ := h
    refine ⟨_, pss_one (ps_ret (pe_call GR hr (by rfl) gR FR.kp bR .nil passL (pa_cons (pe_op op_mulA (pe_ix ix_tup (pv 0) pe_int (fun _ _ => rfl)) (pe_ix ix_tup (pv 1) pe_int (fun _ _ => rfl))) (pa_cons (pe_op op_mulA (pe_ix ix_tup (pv 0) pe_int (fun _ _ => rfl)) (pe_ix ix_tup (pv 1) pe_int (fun _ _ => rfl))) pa_nil)))), ?_⟩
    refine ⟨_, rfl, p1, _, 0, _, rfl, rfl, T.t1, atI_nat (j := 0) rfl, _, rfl, p2, _, 0, _, rfl, rfl, T.t2, atI_nat (j := 0) rfl, a, c, rfl, rfl, T.sa.cmul T.sc (by decide) (by decide) (by decide), _, rfl, p1, _, 1, _, rfl, rfl, T.t1, atI_nat (j := 1) rfl, _, rfl, p2, _, 1, _, rfl, rfl, T.t2, atI_nat (j := 1) rfl, b, d, rfl, rfl, T.sb.cmul T.sd (by decide) (by decide) (by decide), ?_⟩
    exact ⟨_, _, rfl, (T.sb.mul T.sd).mono (by decide), fun z => absurd z (Int.ne_of_gt T.den), fun _ => q⟩
/-- one by the other; refused where the other is nought -/
def spOver (K : PySem.W.Frag) (C : Addr) : Sp := fun vs H Q E => ∃ (p1 p2 : Addr) (a b c d : Int), vs = [.ref p1, .ref p2] ∧ Two K H p1 p2 a b c d ∧ (b * c = 0 → E (.ref C) none H) ∧
  (b * c ≠ 0 → ∀ p, H p = none → Q (.ref p) (upd H p (.tup [.int (ratT (a * d) (b * c)), .int (ratB (a * d) (b * c))])))
abbrev s_over : Stmt := topS 9
theorem sc_over : FnScope ["one", "other"] ["one", "other"] (defScope s_over) := ⟨rfl, rfl, rfl, by decide +kernel, rfl, by decide +kernel, by decide +kernel⟩
theorem ok_over {f fR : Addr} {fd fdR : FuncData} (F : Fun K "over" "over" s_over f fd) (FR : Fun K "ratio" "ratio" s_ratio fR fdR) (bR : Binds K fdR ["top", "bottom"] []) (gR : mg "ratio" = some (.ref fR))
    (GR : FnOk P w K mg base (L2.CX P w) 4 fR fdR ["top", "bottom"] (spRatio CN)) : FnOk P w K mg base (L2.CX P w) 5 f fd ["one", "other"] (spOver K CN) := by
  refine F.okX sc_over (fun vs H Q E h => ?_) (fun cdv A outer s H vs Q E hr h => ?_)
  · obtain ⟨_, _, _, _, _, _, rfl, _⟩ := h
    rfl
  · obtain ⟨p1, p2, a, b, c, d, rfl, T, q0, q1⟩ := h
    refine ⟨_, pss_one (ps_ret (pe_call (E := E) GR hr (by rfl) gR FR.kp bR .nil (passes_call (W := fun cls d _ H => E cls d H) (takes_of rfl rfl rfl rfl) (fun _ _ _ _ z => z)) (pa_cons (pe_op op_mulA (pe_ix ix_tup (pv 0) pe_int (fun _ _ => rfl)) (pe_ix ix_tup (pv 1) pe_int (fun _ _ => rfl))) (pa_cons (pe_op op_mulA (pe_ix ix_tup (pv 0) pe_int (fun _ _ => rfl)) (pe_ix ix_tup (pv 1) pe_int (fun _ _ => rfl))) pa_nil)))), ?_⟩
    refine ⟨_, rfl, p1, _, 0, _, rfl, rfl, T.t1, atI_nat (j := 0) rfl, _, rfl, p2, _, 1, _, rfl, rfl, T.t2, atI_nat (j := 1) rfl, a, d, rfl, rfl, T.sa.cmul T.sd (by decide) (by decide) (by decide),
      _, rfl, p1, _, 1, _, rfl, rfl, T.t1, atI_nat (j := 1) rfl, _, rfl, p2, _, 0, _, rfl, rfl, T.t2, atI_nat (j := 0) rfl, b, c, rfl, rfl, T.sb.cmul T.sc (by decide) (by decide) (by decide), ?_⟩
    exact ⟨_, _, rfl, (T.sb.mul T.sc).mono (by decide), q0, q1⟩
def spBelow (K : PySem.W.Frag) : Sp := fun vs H Q _ => ∃ (p1 p2 : Addr) (a b c d : Int), vs = [.ref p1, .ref p2] ∧ Two K H p1 p2 a b c d ∧ Q (.bl (decide (a * d < c * b))) H
abbrev s_below : Stmt := topS 10
theorem sc_below : FnScope ["one", "other"] ["one", "other"] (defScope s_below) := ⟨rfl, rfl, rfl, by decide +kernel, rfl, by decide +kernel, by decide +kernel⟩
theorem ok_below {f : Addr} {fd : FuncData} {k : Nat} (F : Fun K "is_below" "is_below" s_below f fd) : FnOk P w K mg base CX0 (k + 1) f fd ["one", "other"] (spBelow K) := by
  refine F.ok sc_below (fun vs H Q E h => ?_) (fun cdv A outer s H vs Q E hr h => ?_)
  · obtain ⟨_, _, _, _, _, _, rfl, _⟩ := h
    rfl
  · obtain ⟨p1, p2, a, b, c, d, rfl, T, q⟩ := h
    refine ⟨_, pss_one (ps_ret (pe_cmpR op_lt (pe_op op_mulA (pe_ix ix_tup (pv 0) pe_int (fun _ _ => rfl)) (pe_ix ix_tup (pv 1) pe_int (fun _ _ => rfl))) (pe_op op_mulA (pe_ix ix_tup (pv 1) pe_int (fun _ _ => rfl)) (pe_ix ix_tup (pv 0) pe_int (fun _ _ => rfl))) (nomark _))), ?_⟩
    exact ⟨_, rfl, p1, _, 0, _, rfl, rfl, T.t1, atI_nat (j := 0) rfl, _, rfl, p2, _, 1, _, rfl, rfl, T.t2, atI_nat (j := 1) rfl, a, d, rfl, rfl, T.sa.cmul T.sd (by decide) (by decide) (by decide),
      _, rfl, p2, _, 0, _, rfl, rfl, T.t2, atI_nat (j := 0) rfl, _, rfl, p1, _, 1, _, rfl, rfl, T.t1, atI_nat (j := 1) rfl, c, b, rfl, rfl, T.sc.cmul T.sb (by decide) (by decide) (by decide), _, _, rfl, rfl, q⟩
end
end Fp

set_option Elab.async false
set_option linter.all false
set_option maxRecDepth 100000
set_option maxHeartbeats 4000000
namespace Fp
open PySem PySem.Spec PyProof.Rows L2
/-! ### the feed of draws -/
abbrev s_feed : Stmt := topS 12
abbrev s_draw : Stmt := topS 13
theorem sc_feed : FnScope ["_law_script"] ["_law_script"] (defScope s_feed) := ⟨rfl, rfl, rfl, by decide +kernel, rfl, by decide +kernel, by decide +kernel⟩
theorem sc_draw : FnScope ["_law_feed_here", "_law_many", "_law_turn", "_law_digit", "_law_at", "_law_cells", "_law_cell", "_law_mixed"] ["_law_feed_here", "_law_many"] (defScope s_draw) := ⟨rfl, rfl, rfl, by decide +kernel, rfl, by decide +kernel, by decide +kernel⟩
def feedL (c : Addr) (a l t : Int) : List (Key × V) := [(.inr "cells", .ref c), (.inr "at", .int a), (.inr "left", .int l), (.inr "turn", .int t)]
theorem feed_at (c : Addr) (a l t : Int) : valV (feedL c a l t) (.inr "at") = some (.int a) := rfl
theorem feed_cells (c : Addr) (a l t : Int) : valV (feedL c a l t) (.inr "cells") = some (.ref c) := rfl
theorem feed_left (c : Addr) (a l t : Int) : valV (feedL c a l t) (.inr "left") = some (.int l) := rfl
theorem feed_turn (c : Addr) (a l t : Int) : valV (feedL c a l t) (.inr "turn") = some (.int t) := rfl
theorem put_at (c : Addr) (a l t x : Int) : putK (feedL c a l t) (.inr "at") (.int x) = feedL c x l t := rfl
theorem put_left (c : Addr) (a l t x : Int) : putK (feedL c a l t) (.inr "left") (.int x) = feedL c a x t := rfl
theorem put_turn (c : Addr) (a l t x : Int) : putK (feedL c a l t) (.inr "turn") (.int x) = feedL c a l x := rfl
theorem feed_len (c : Addr) (a l t : Int) : (feedL c a l t).length < sizeLine := by show 4 < sizeLine; decide
theorem feed_merge (c : Addr) : mergeK [] (feedL c 0 0 0) = feedL c 0 0 0 := rfl
/-- at d a feed that has told t draws -/
def Feed (H : Hp) (d : Addr) (t : Int) : Prop := ∃ (c : Addr) (a l : Int) (ns : List Int), H d = some (.dK (feedL c a l t)) ∧ H c = some (.lst (ns.map V.int)) ∧ 0 ≤ t
/-- all but d as it was -/
def Keep (d : Addr) (H H' : Hp) : Prop := ∀ b o, b ≠ d → H b = some o → H' b = some o
theorem Keep.trans {d : Addr} {H H1 H2 : Hp} (a : Keep d H H1) (b : Keep d H1 H2) : Keep d H H2 := fun c o n z => b c o n (a c o n z)
theorem Keep.of_same {d : Addr} {H H' : Hp} (a : Same H H') : Keep d H H' := fun b o _ z => a b o z
theorem Keep.upd {d : Addr} {H : Hp} {o : HO} : Keep d H (upd H d o) := fun b x n z => by rw [upd_ne n]; exact z
theorem Feed.same {H H' : Hp} {d : Addr} {t : Int} (f : Feed H d t) (e : Same H H') : Feed H' d t := by
  obtain ⟨c, a, l, ns, h1, h2, h3⟩ := f
  exact ⟨c, a, l, ns, e _ _ h1, e _ _ h2, h3⟩
theorem sqT_keep {K : PySem.W.Frag} {H H' : Hp} {a d : Addr} {t : Int} {xs : List V} (f : Feed H d t) (e : Keep d H H') (h : SqT K H a xs) : SqT K H' a xs := by
  obtain ⟨c, x, l, ns, h1, _⟩ := f
  rcases h with (h | ⟨o, h⟩) | h
  · exact .inl (.inl (e _ _ (ne_of h h1 (by intro z; cases z)) h))
  · exact .inl (.inr ⟨o, e _ _ (ne_of h h1 (by intro z; cases z)) h⟩)
  · exact .inr h
theorem cut_ints (ns : List Int) (lo hi : Option Int) : ∃ ms : List Int, cutV (ns.map V.int) lo hi = ms.map V.int := by
  unfold cutV
  exact ⟨_, by rw [← List.map_drop, ← List.map_take]⟩
theorem dpAll_ints {K : PySem.W.Frag} {H : Hp} : ∀ ns : List Int, DpAll K H (ns.map V.int) (ns.map PyData.int)
  | [] => .nil
  | n :: r => .cons (.int n) (dpAll_ints r)
theorem canLay_ints : ∀ ns : List Int, PyData.canLayAll0 (ns.map PyData.int) = true
  | [] => rfl
  | n :: r => by
    show (PyData.canLay0 (.int n) && PyData.canLayAll0 (r.map PyData.int)) = true
    rw [canLay_ints r]
    rfl
theorem depth_ints : ∀ ns : List Int, PyData.depthAll (ns.map PyData.int) = 0
  | [] => rfl
  | n :: r => by
    show max (PyData.depth (.int n)) (PyData.depthAll (r.map PyData.int)) = 0
    rw [depth_ints r]
    rfl
theorem shaped_ints (ns : List Int) : SeqAt.shaped (.list (ns.map PyData.int)) = true := by
  unfold SeqAt.shaped
  have h1 : PyData.canLay0 (.list (ns.map PyData.int)) = true := by
    show PyData.canLayAll0 (ns.map PyData.int) = true
    exact canLay_ints ns
  have h2 : (PyData.list (ns.map PyData.int)).depth = 1 := by
    show PyData.depthAll (ns.map PyData.int) + 1 = 1
    rw [depth_ints]
  rw [h1, h2]
  rfl
theorem eqv_nil (ns : List Int) : PyData.eqv (.list (ns.map PyData.int)) (.list []) = ns.isEmpty := by
  cases ns with
  | nil => rfl
  | cons n r => rfl

section
variable {P : Program} {w : World} {K : PySem.W.Frag} {mg : Str → Option Value} {base : Heap}
def spFeed (K : PySem.W.Frag) : Sp := fun vs H Q _ => ∃ (a : Addr) (ns : List Int), vs = [.ref a] ∧ SqL K H a (ns.map V.int) ∧ ∀ d H', Same H H' → Feed H' d 0 → Q (.ref d) H'
theorem ok_feed {f : Addr} {fd : FuncData} {k : Nat} (F : Fun K "_law_feed" "_law_feed" s_feed f fd) (ml : mg "list" = none) : FnOk P w K mg base CX0 (k + 1) f fd ["_law_script"] (spFeed K) := by
  refine F.ok sc_feed (fun vs H Q E h => ?_) (fun cdv A outer s H vs Q E hr h => ?_)
  · obtain ⟨a, ns, rfl, _⟩ := h
    rfl
  · obtain ⟨a, ns, rfl, hS, q⟩ := h
    refine ⟨_, pss_one (ps_ret (pe_disp (pps_cons pe_str (pe_callTy call_list_of (by rfl) ml (by decide +kernel) (pa_cons (pe_slice sl_list (pv 0) po_none (po_some pe_int)) pa_nil))
      (pps_cons pe_str pe_int (pps_cons pe_str pe_int (pps_cons pe_str pe_int pps_nil)))) (by rfl) (by rfl) (fun z => by cases z) (by decide))), ?_⟩
    refine fun d nd => ?_
    have s1 : Same H (upd H d (.dK [])) := same_new nd
    obtain ⟨ms, em⟩ := cut_ints ns none (some 63)
    refine ⟨_, rfl, 63, rfl, a, ns.map V.int, rfl, s1.seq hS, fun x nx => ?_⟩
    have s2 := same_new (o := HO.lst (cutV (ns.map V.int) none (some 63))) nx
    refine ⟨x, _, rfl, .inl (SqL.of upd_same), fun c nc => ?_⟩
    have s3 := same_new (o := HO.lst (cutV (ns.map V.int) none (some 63))) nc
    refine ⟨?_, feedL c 0 0 0, rfl, by show 4 ≤ 15; decide, ?_⟩
    · exact s3 _ _ (s2 _ _ upd_same)
    · rw [feed_merge]
      have ncd : c ≠ d := fun z => by
        rw [z] at nc
        exact absurd nc (by rw [s2 _ _ upd_same]; exact fun z => nomatch z)
      refine q d _ (fun b o z => ?_) ⟨c, 0, 0, ms, upd_same, ?_, by decide⟩
      · have nb : b ≠ d := ne_of_none z nd
        rw [upd_ne nb]
        exact s3 _ _ (s2 _ _ (s1 _ _ z))
      · rw [upd_ne ncd, upd_same, em]
def spDraw : Sp := fun vs H Q _ => ∃ (d : Addr) (many t : Int), vs = [.ref d, .int many] ∧ Feed H d t ∧ t ≤ 1000000 ∧ 0 < many ∧ many < 1073741824 ∧
  ∀ r H', 0 ≤ r → r < many → Keep d H H' → Feed H' d (t + 1) → Q (.int r) H'
theorem ok_draw {f : Addr} {fd : FuncData} {k : Nat} (F : Fun K "_law_draw" "_law_draw" s_draw f fd) (ml : mg "len" = none) : FnOk P w K mg base CX0 (k + 1) f fd ["_law_feed_here", "_law_many"] spDraw := by
  refine F.ok sc_draw (fun vs H Q E h => ?_) (fun cdv A outer s H vs Q E hr h => ?_)
  · obtain ⟨_, _, _, rfl, _⟩ := h
    rfl
  · obtain ⟨d, many, t, rfl, ⟨c, a, l, ns, hd, hc, ht0⟩, ht, hm0, hm1, q⟩ := h
    have hu := hu_of hr
    refine ⟨_, pss_cons (ps_set (i := 2) sc_draw.nd rfl (.inl rfl) (pe_op op_add (pe_dget hu (pv 0) pe_str (fun _ _ => rfl)) pe_int))
      (pss_cons (ps_dput hu (pv 0) pe_str (pv 2) rfl)
      (pss_cons (ps_if (pt_cmpR op_gt (pe_dget hu (pv 0) pe_str (fun _ _ => rfl)) pe_int (nomark _))
        (pss_cons (ps_set (i := 3) sc_draw.nd rfl (.inl rfl) (pe_op op_modN (pe_dget hu (pv 0) pe_str (fun _ _ => rfl)) (pv 1)))
        (pss_cons (ps_dput hu (pv 0) pe_str (pe_op op_fdiv (pe_dget hu (pv 0) pe_str (fun _ _ => rfl)) (pv 1)) rfl)
        (pss_one (ps_ret (pv 3))))) pss_nil)
      (pss_cons (ps_par (i := 4) (j := 5) rfl sc_draw.nd rfl rfl (by decide) rfl rfl (pa_cons (pe_dget hu (pv 0) pe_str (fun _ _ => rfl)) (pa_cons (pe_dget hu (pv 0) pe_str (fun _ _ => rfl)) pa_nil)) (by rfl))
      (pss_cons (ps_dput hu (pv 0) pe_str (pe_op op_add (pv 4) pe_int) rfl)
      (pss_cons (ps_set (i := 6) sc_draw.nd rfl (.inl rfl) (pe_ifExp (pt_cmpR (op_neD hr.units) (pv 5) (pe_lst pa_nil) (nomark _))
          (pe_ix ix_list (pv 5) (pe_op op_modN (pv 4) (pe_callB call_len_seq (by rfl) ml PySem.boot_len (pa_cons (pv 5) pa_nil))) (fun _ _ => rfl)) pe_int))
      (pss_cons (ps_if (PW.pt (pw_and (pt_cmpR op_ge (pv 6) (pe_op op_pow pe_int pe_int) (nomark _)) (pw_and1 (pt_cmpR op_lt (pv 4) (pe_callB call_len_seq (by rfl) ml PySem.boot_len (pa_cons (pv 5) pa_nil)) (nomark _)))))
        (pss_cons (ps_dput hu (pv 0) pe_str (pe_op op_fdiv (pv 6) (pv 1)) rfl) (pss_one (ps_ret (pe_op op_modN (pv 6) (pv 1))))) pss_nil)
      (pss_cons (ps_set (i := 7) sc_draw.nd rfl (.inl rfl) (pe_op op_modN (pe_op op_pow (pe_op op_add (pe_op op_modN (pv 6) pe_int) (pe_op op_mul pe_int (pv 2))) pe_int) pe_int))
      (pss_one (ps_ret (pe_op op_modN (pe_op op_fdiv (pe_op op_modN (pe_op op_mul (pv 7) (pe_op op_add (pe_op op_mul pe_int (pv 2)) pe_int)) pe_int) pe_int) (pv 1))))))))))), ?_⟩
    have ndc : c ≠ d := ne_of hc hd (by intro z; cases z)
    have mod_ok : ∀ x : Int, 0 ≤ x.fmod many ∧ x.fmod many < many := fun x => ⟨Int.fmod_nonneg_of_pos x hm0, Int.fmod_lt_of_pos x hm0⟩
    -- turn
    refine ⟨_, rfl, d, _, rfl, .inl ⟨_, .inr "turn", .inl hd, rfl, feed_turn c a l t⟩, t, 1, rfl, rfl, ?_⟩
    refine ⟨_, rfl, _, rfl, d, _, rfl, DPut.k (k := .inr "turn") hd (feed_len c a l t), ?_⟩
    rw [put_turn]
    -- left
    refine ⟨_, rfl, d, _, rfl, .inl ⟨_, .inr "left", .inl upd_same, rfl, feed_left c a l (t + 1)⟩, l, 0, rfl, rfl, _, rfl, ite2 (fun cl => ?_) (fun cl => ?_)⟩
    · refine ⟨_, rfl, d, _, rfl, .inl ⟨_, .inr "left", .inl upd_same, rfl, feed_left c a l (t + 1)⟩, _, rfl, l, many, rfl, rfl, Int.ne_of_gt hm0, ?_⟩
      refine ⟨_, rfl, d, _, rfl, .inl ⟨_, .inr "left", .inl upd_same, rfl, feed_left c a l (t + 1)⟩, _, rfl, l, many, rfl, rfl, ⟨hm0, hm1⟩, _, rfl, d, _, rfl, DPut.k (k := .inr "left") upd_same (feed_len c a l (t + 1)), ?_⟩
      rw [put_left, upd_upd]
      refine ⟨_, rfl, q _ _ (mod_ok l).1 (mod_ok l).2 Keep.upd ⟨c, a, _, ns, upd_same, ?_, by omega⟩⟩
      rw [upd_ne ndc]
      exact hc
    · refine ⟨_, rfl, d, _, rfl, .inl ⟨_, .inr "at", .inl upd_same, rfl, feed_at c a l (t + 1)⟩, _, rfl, d, _, rfl, .inl ⟨_, .inr "cells", .inl upd_same, rfl, feed_cells c a l (t + 1)⟩, _, _, rfl, ?_⟩
      refine ⟨_, rfl, a, 1, rfl, rfl, _, rfl, d, _, rfl, DPut.k (k := .inr "at") upd_same (feed_len c a l (t + 1)), ?_⟩
      rw [put_at, upd_upd]
      have hc2 : upd H d (.dK (feedL c (a + 1) l (t + 1))) c = some (.lst (ns.map V.int)) := by
        rw [upd_ne ndc]
        exact hc
      -- cells != []
      refine ⟨_, rfl, Nat.zero_le _, fun e ne => ?_⟩
      have s1 := same_new (o := HO.lst []) ne
      have hc3 := s1 _ _ hc2
      have hd3 := s1 _ _ (upd_same (H := H) (a := d) (o := .dK (feedL c (a + 1) l (t + 1))))
      have k3 : Keep d H (upd (upd H d (.dK (feedL c (a + 1) l (t + 1)))) e (.lst [])) := Keep.upd.trans (Keep.of_same s1)
      refine ⟨.list (ns.map PyData.int), .list [], .lst (SqL.of hc3) (dpAll_ints ns), .lst (SqL.of upd_same) .nil, shaped_ints ns, rfl, _, rfl, ?_⟩
      rw [eqv_nil]
      -- behind the cell
      have rest : ∀ cell : Int, tSeq (tIfS (tAnd (tTest (tOp (rI0 fun i j => .bl (decide (j ≤ i))) (tVar 6) (tOp (rI CPow fun i j => .int (i ^ j.toNat)) (tC (.int 10)) (tC (.int 18))))) (tTest (tOp (rI0 fun i j => .bl (decide (i < j))) (tVar 4) (tCB (fun xs H Q => ∃ p ys, xs = [.ref p] ∧ (SqL K H p ys ∨ SqT K H p ys) ∧ Q (.int ys.length) H) (tCons (tVar 5) tNil)))))
          (tSeq (sDPut (tVar 0) (tC (.str "left")) (tOp (rI CDiv fun i j => .int (i / j)) (tVar 6) (tVar 1))) (tRet (tOp (rI (fun _ j => j ≠ 0) fun i j => .int (i.fmod j)) (tVar 6) (tVar 1)))) tNext)
          (tSeq (tAsg (tOp (rI (fun _ j => j ≠ 0) fun i j => .int (i.fmod j)) (tOp (rI CPow fun i j => .int (i ^ j.toNat)) (tOp (rI0 fun i j => .int (i + j)) (tOp (rI (fun _ j => j ≠ 0) fun i j => .int (i.fmod j)) (tVar 6) (tC (.int 999983))) (tOp (rI CMul fun i j => .int (i * j)) (tC (.int 7919)) (tVar 2))) (tC (.int 5))) (tC (.int 2305843009213693951))) (gName 7))
          (tRet (tOp (rI (fun _ j => j ≠ 0) fun i j => .int (i.fmod j)) (tOp (rI CDiv fun i j => .int (i / j)) (tOp (rI (fun _ j => j ≠ 0) fun i j => .int (i.fmod j)) (tOp (rI CMul fun i j => .int (i * j)) (tVar 7) (tOp (rI0 fun i j => .int (i + j)) (tOp (rI CMul fun i j => .int (i * j)) (tC (.int 2)) (tVar 2)) (tC (.int 104729)))) (tC (.int 2147483629))) (tC (.int 64))) (tVar 1))))
          { nx := fun _ H' => Q .non H', rt := Q } [some (.ref d), some (.int many), some (.int (t + 1)), none, some (.int a), some (.ref c), some (.int cell), none] (upd (upd H d (.dK (feedL c (a + 1) l (t + 1)))) e (.lst [])) := by
        intro cell
        have fin : tSeq (tAsg (tOp (rI (fun _ j => j ≠ 0) fun i j => .int (i.fmod j)) (tOp (rI CPow fun i j => .int (i ^ j.toNat)) (tOp (rI0 fun i j => .int (i + j)) (tOp (rI (fun _ j => j ≠ 0) fun i j => .int (i.fmod j)) (tVar 6) (tC (.int 999983))) (tOp (rI CMul fun i j => .int (i * j)) (tC (.int 7919)) (tVar 2))) (tC (.int 5))) (tC (.int 2305843009213693951))) (gName 7))
          (tRet (tOp (rI (fun _ j => j ≠ 0) fun i j => .int (i.fmod j)) (tOp (rI CDiv fun i j => .int (i / j)) (tOp (rI (fun _ j => j ≠ 0) fun i j => .int (i.fmod j)) (tOp (rI CMul fun i j => .int (i * j)) (tVar 7) (tOp (rI0 fun i j => .int (i + j)) (tOp (rI CMul fun i j => .int (i * j)) (tC (.int 2)) (tVar 2)) (tC (.int 104729)))) (tC (.int 2147483629))) (tC (.int 64))) (tVar 1)))
          { nx := fun _ H' => Q .non H', rt := Q } [some (.ref d), some (.int many), some (.int (t + 1)), none, some (.int a), some (.ref c), some (.int cell), none] (upd (upd H d (.dK (feedL c (a + 1) l (t + 1)))) e (.lst [])) := by
          have hm : 0 ≤ cell.fmod 999983 ∧ cell.fmod 999983 < 999983 := ⟨Int.fmod_nonneg_of_pos _ (by decide), Int.fmod_lt_of_pos _ (by decide)⟩
          refine ⟨_, rfl, cell, 999983, rfl, rfl, by show (999983 : Int) ≠ 0; decide, _, rfl, 7919, t + 1, rfl, rfl, .inl ⟨by decide, by decide⟩, _, _, rfl, rfl, _, 5, rfl, rfl, ⟨by decide, by decide, ?_⟩, _, 2305843009213693951, rfl, rfl, by show (2305843009213693951 : Int) ≠ 0; decide, ?_⟩
          · have e64 : (2 : Nat) ^ 64 = 18446744073709551616 := by decide
            rw [e64]
            omega
          · refine ⟨_, rfl, _, rfl, 2, t + 1, rfl, rfl, .inl ⟨by decide, by decide⟩, _, 104729, rfl, rfl, _, _, rfl, rfl, .inr ⟨?_, ?_⟩, _, 2147483629, rfl, rfl, by show (2147483629 : Int) ≠ 0; decide, _, 64, rfl, rfl, ⟨by decide, by decide⟩, _, rfl, _, many, rfl, rfl, Int.ne_of_gt hm0, ?_⟩
            · have e64 : (2 : Int) ^ 64 = 18446744073709551616 := by decide
              omega
            · have e64 : (2 : Int) ^ 64 = 18446744073709551616 := by decide
              omega
            · exact q _ _ (mod_ok _).1 (mod_ok _).2 k3 ⟨c, a + 1, l, ns, hd3, hc3, by omega⟩
        refine ⟨_, rfl, 10, 18, rfl, rfl, ⟨by decide, by decide, by decide⟩, cell, _, rfl, rfl, _, rfl, ite2 (fun c1 => ?_) (fun c1 => iteF fin)⟩
        refine ⟨_, rfl, _, rfl, c, _, rfl, .inl (SqL.of hc3), a, _, rfl, rfl, _, rfl, ite2 (fun c2 => ?_) (fun c2 => fin)⟩
        refine ⟨_, rfl, _, rfl, cell, many, rfl, rfl, ⟨hm0, hm1⟩, _, rfl, d, _, rfl, DPut.k (k := .inr "left") hd3 (feed_len c (a + 1) l (t + 1)), ?_⟩
        rw [put_left]
        refine ⟨_, rfl, _, rfl, cell, many, rfl, rfl, Int.ne_of_gt hm0, q _ _ (mod_ok cell).1 (mod_ok cell).2 (k3.trans Keep.upd) ⟨c, a + 1, _, ns, upd_same, ?_, by omega⟩⟩
        rw [upd_ne ndc]
        exact hc3
      cases ns with
      | nil => exact iteF (rest 0)
      | cons n r =>
        refine iteT ?_
        have hlen : (0 : Int) < (((n :: r).map V.int).length : Nat) := by simp
        have h1 : 0 ≤ a.fmod ((((n :: r).map V.int).length : Nat) : Int) := Int.fmod_nonneg_of_pos _ hlen
        have h2 : a.fmod ((((n :: r).map V.int).length : Nat) : Int) < ((((n :: r).map V.int).length : Nat) : Int) := Int.fmod_lt_of_pos _ hlen
        have h3 : (a.fmod ((((n :: r).map V.int).length : Nat) : Int)).toNat < ((n :: r).map V.int).length := by omega
        have h4 : ∃ x, ((n :: r).map V.int)[(a.fmod ((((n :: r).map V.int).length : Nat) : Int)).toNat]? = some (.int x) := by
          rw [List.getElem?_map]
          rw [List.length_map] at h3
          rw [List.length_map, List.getElem?_eq_getElem h3]
          exact ⟨_, rfl⟩
        obtain ⟨x, hx⟩ := h4
        refine ⟨_, rfl, _, rfl, _, rfl, c, _, rfl, .inl (SqL.of hc3), a, _, rfl, rfl, Int.ne_of_gt hlen, c, _, _, _, rfl, rfl, SqL.of hc3, at_of (Int.toNat_of_nonneg h1).symm hx, rest x⟩
end
end Fp

set_option Elab.async false
set_option linter.all false
set_option maxRecDepth 100000
set_option maxHeartbeats 4000000
set_option exponentiation.threshold 10000
namespace Fp
open PySem PySem.Spec PyProof.Rows L2
abbrev s_low : Stmt := topS 14
abbrev s_pair : Stmt := topS 15
theorem sc_low : FnScope ["_law_top", "_law_bottom", "_law_one", "_law_other"] ["_law_top", "_law_bottom"] (defScope s_low) := ⟨rfl, rfl, rfl, by decide +kernel, rfl, by decide +kernel, by decide +kernel⟩
theorem sc_pair : FnScope ["_law_feed_here", "_law_sizes", "_law_top", "_law_bottom"] ["_law_feed_here"] (defScope s_pair) := ⟨rfl, rfl, rfl, by decide +kernel, rfl, by decide +kernel, by decide +kernel⟩
section
variable {P : Program} {w : World} {K : PySem.W.Frag} {mg : Str → Option Value} {base : Heap}
/-! ### lowest terms by the law's own division -/
def spLow : Sp := fun vs H Q _ => ∃ t b : Int, vs = [.int t, .int b] ∧ 0 < b ∧ Sm 8000 b ∧ ∀ p, H p = none → Q (.ref p) (upd H p (.tup [.int (ratT t b), .int (ratB t b)]))
theorem ok_low {f : Addr} {fd : FuncData} {k : Nat} (F : Fun K "_law_low" "_law_low" s_low f fd) (ma : mg "abs" = none) : FnOk P w K mg base CX0 (k + 1) f fd ["_law_top", "_law_bottom"] spLow := by
  refine F.ok sc_low (fun vs H Q E h => ?_) (fun cdv A outer s H vs Q E hr h => ?_)
  · obtain ⟨a, b, rfl, _⟩ := h
    rfl
  · obtain ⟨a, b, rfl, hb, sb, q⟩ := h
    refine ⟨_, pss_cons (ps_par (i := 2) (j := 3) rfl sc_low.nd rfl rfl (by decide) rfl rfl (pa_cons (pe_callB call_abs (by rfl) ma (by decide +kernel) (pa_cons (pv 0) pa_nil)) (pa_cons (pv 1) pa_nil)) (by rfl))
      (pss_cons (ps_while PassesOwn.never (pt_cmpR op_gt (pv 3) pe_int (nomark _)) (pss_one (ps_par (i := 2) (j := 3) rfl sc_low.nd rfl rfl (by decide) rfl rfl (pa_cons (pv 3) (pa_cons (pe_op op_modN (pv 2) (pv 3)) pa_nil)) (by rfl))))
      (pss_one (ps_ret (pe_tup (pa_cons (pe_op op_fdivA (pv 0) (pv 2)) (pa_cons (pe_op op_fdivA (pv 1) (pv 2)) pa_nil)))))), ?_⟩
    refine ⟨_, rfl, a, rfl, _, rfl, _, _, rfl, ?_⟩
    refine while_by (fun σ H1 => H1 = H ∧ ∃ g s : Int, σ = [some (.int a), some (.int b), some (.int g), some (.int s)] ∧ 0 ≤ g ∧ 0 ≤ s ∧ Int.gcd g s = Int.gcd a b)
      (fun σ _ => match σ with | [_, _, _, some (.int s)] => s.toNat | _ => 0) ?_ ?_ ?_
    · refine ⟨rfl, _, _, rfl, ?_, Int.le_of_lt hb, ?_⟩
      · rw [abs_if]; omega
      · rw [abs_if]
        show Nat.gcd _ _ = Nat.gcd _ _
        rw [Int.natAbs_natCast]
    · rintro σ H1 ⟨rfl, g, s, rfl, hg, hs, e⟩
      refine ⟨_, rfl, s, 0, rfl, rfl, _, rfl, ite2 (fun c => ?_) (fun c => ?_)⟩
      · have hp : 0 < s := of_decide_eq_true c
        have lt : s > g.fmod s := Int.fmod_lt_of_pos g hp
        have nn : 0 ≤ g.fmod s := Int.fmod_nonneg_of_pos g hp
        refine ⟨_, rfl, _, rfl, _, rfl, g, s, rfl, rfl, Int.ne_of_gt hp, _, _, rfl, ⟨rfl, s, g.fmod s, rfl, hs, nn, ?_⟩, ?_⟩
        · rw [gcd_turn hp hg]; exact e
        · show (g.fmod s).toNat < s.toNat
          omega
      · have hs0 : s = 0 := by
          have : ¬ 0 < s := fun z => c (decide_eq_true z)
          omega
        subst hs0
        have eg : g = ratG a b := by
          unfold ratG
          rw [if_neg (by omega), ← e, Int.gcd_zero_right]
          omega
        obtain ⟨c1, c2⟩ := ratG_ok (t := a) (Int.ne_of_gt hb) sb (by decide) (by decide)
        rw [eg]
        exact ⟨_, rfl, _, rfl, a, _, rfl, rfl, c1, _, rfl, _, rfl, b, _, rfl, rfl, c2, by show 2 ≤ sizeLine; decide, q⟩
    · intro σ H1 Q1 Q2 hq h
      obtain ⟨v, e1, i, j, e2, e3, k, e4, h⟩ := h
      exact ⟨v, e1, i, j, e2, e3, k, e4, hq _ _ h⟩
/-- what comes of lowest terms is no greater -/
theorem fdiv_le {x g : Int} (hg : 0 < g) (hd : g ∣ x) : (x.fdiv g).natAbs ≤ x.natAbs := by
  obtain ⟨y, rfl⟩ := hd
  rw [Int.mul_fdiv_cancel_left y (Int.ne_of_gt hg), Int.natAbs_mul]
  have : 1 ≤ g.natAbs := by omega
  exact Nat.le_mul_of_pos_left _ this
theorem ratG_pos {t b : Int} (hb : 0 < b) : 0 < ratG t b ∧ ratG t b ∣ t ∧ ratG t b ∣ b := by
  have e : ratG t b = ((Int.gcd t b : Nat) : Int) := by
    unfold ratG
    rw [if_neg (by omega)]
  rw [e]
  have := (gcd_le (t := t) (Int.ne_of_gt hb)).1
  exact ⟨by omega, Int.gcd_dvd_left .., Int.gcd_dvd_right ..⟩
theorem ratT_sm {t b : Int} {n : Nat} (hb : 0 < b) (h : Sm n t) : Sm n (ratT t b) := by
  obtain ⟨h1, h2, _⟩ := ratG_pos (t := t) hb
  exact Nat.lt_of_le_of_lt (fdiv_le h1 h2) h
theorem ratB_sm {t b : Int} {n : Nat} (hb : 0 < b) (h : Sm n b) : Sm n (ratB t b) := by
  obtain ⟨h1, _, h2⟩ := ratG_pos (t := t) hb
  exact Nat.lt_of_le_of_lt (fdiv_le h1 h2) h
theorem ratB_pos {t b : Int} (hb : 0 < b) : 0 < ratB t b := by
  obtain ⟨h1, _, y, hy⟩ := ratG_pos (t := t) hb
  unfold ratB
  have e : b.fdiv (ratG t b) = y := by
    have := Int.mul_fdiv_cancel_left y (Int.ne_of_gt h1)
    rw [← hy] at this
    exact this
  rw [e]
  rcases Int.lt_trichotomy y 0 with z | z | z
  · have := Int.mul_neg_of_pos_of_neg h1 z
    omega
  · rw [z, Int.mul_zero] at hy
    omega
  · exact z
/-! ### a drawn ratio -/
theorem pick3 {a b c : V} {r : Int} (h0 : 0 ≤ r) (h1 : r < 3) : ∃ v, atI [a, b, c] r = some v ∧ (v = a ∨ v = b ∨ v = c) := by
  rcases (by omega : r = 0 ∨ r = 1 ∨ r = 2) with rfl | rfl | rfl
  · exact ⟨a, atI_nat (j := 0) rfl, .inl rfl⟩
  · exact ⟨b, atI_nat (j := 1) rfl, .inr (.inl rfl)⟩
  · exact ⟨c, atI_nat (j := 2) rfl, .inr (.inr rfl)⟩
theorem pick2 {a b : V} {r : Int} (h0 : 0 ≤ r) (h1 : r < 2) : ∃ v, atI [a, b] r = some v ∧ (v = a ∨ v = b) := by
  rcases (by omega : r = 0 ∨ r = 1) with rfl | rfl
  · exact ⟨a, atI_nat (j := 0) rfl, .inl rfl⟩
  · exact ⟨b, atI_nat (j := 1) rfl, .inr rfl⟩
theorem Feed.ne {H : Hp} {d p : Addr} {t : Int} {o : HO} (f : Feed H d t) (h : H p = some o) (n : ∀ kvs, o ≠ .dK kvs) : p ≠ d := by
  obtain ⟨c, a, l, ns, h1, _⟩ := f
  exact ne_of h h1 (n _)
theorem Feed.new {H : Hp} {d p : Addr} {t : Int} {o : HO} (f : Feed H d t) (n : H p = none) : Feed (upd H p o) d t := f.same (same_new n)
theorem keep_at {d p : Addr} {H H' : Hp} {t : Int} {o : HO} (f : Feed H d t) (k : Keep d H H') (h : H p = some o) (n : ∀ kvs, o ≠ .dK kvs) : H' p = some o := k p o (f.ne h n) h
theorem keep_new {d p : Addr} {H H' : Hp} {o : HO} (n : H p = none) (k : Keep d (upd H p o) H') : Keep d H H' := (Keep.of_same (same_new n)).trans k
def spPair : Sp := fun vs H Q _ => ∃ (d : Addr) (t : Int), vs = [.ref d] ∧ Feed H d t ∧ t ≤ 900000 ∧
  ∀ p a b t' H', Keep d H H' → Feed H' d t' → t' ≤ t + 8 → H' p = some (.tup [.int a, .int b]) → 0 < b → Sm 110 a → Sm 110 b → Q (.ref p) H'
theorem ok_pair {f fD fL : Addr} {fd fdD fdL : FuncData} (F : Fun K "_law_pair" "_law_pair" s_pair f fd) (FD : Fun K "_law_draw" "_law_draw" s_draw fD fdD) (bD : Binds K fdD ["_law_feed_here", "_law_many"] []) (gD : mg "_law_draw" = some (.ref fD))
    (FL : Fun K "_law_low" "_law_low" s_low fL fdL) (bL : Binds K fdL ["_law_top", "_law_bottom"] []) (gL : mg "_law_low" = some (.ref fL)) (ml : mg "len" = none) (ma : mg "abs" = none) : FnOk P w K mg base CX0 2 f fd ["_law_feed_here"] spPair := by
  have GD : FnOk P w K mg base CX0 1 fD fdD ["_law_feed_here", "_law_many"] spDraw := ok_draw FD ml
  have GL : FnOk P w K mg base CX0 1 fL fdL ["_law_top", "_law_bottom"] spLow := ok_low FL ma
  refine F.ok sc_pair (fun vs H Q E h => ?_) (fun cdv A outer s H vs Q E hr h => ?_)
  · obtain ⟨_, _, rfl, _⟩ := h
    rfl
  · obtain ⟨d, t, rfl, f0, ht, q⟩ := h
    refine ⟨_, pss_cons (ps_set (i := 1) sc_pair.nd rfl (.inl rfl) (pe_lst (pa_cons (pe_ix ix_list (pe_lst (pa_cons pe_int (pa_cons pe_int (pa_cons pe_int pa_nil)))) (pe_call GD hr (by rfl) gD FD.kp bD .nil pass0 (pa_cons (pv 0) (pa_cons pe_int pa_nil))) (fun _ _ => rfl))
        (pa_cons (pe_ix ix_list (pe_lst (pa_cons pe_int (pa_cons pe_int (pa_cons pe_int pa_nil)))) (pe_call GD hr (by rfl) gD FD.kp bD .nil pass0 (pa_cons (pv 0) (pa_cons pe_int pa_nil))) (fun _ _ => rfl)) pa_nil))))
      (pss_cons (ps_par (i := 2) (j := 3) rfl sc_pair.nd rfl rfl (by decide) rfl rfl (pa_cons (pe_call GD hr (by rfl) gD FD.kp bD .nil pass0 (pa_cons (pv 0) (pa_cons (pe_ix ix_list (pv 1) pe_int (fun _ _ => rfl)) pa_nil))) (pa_cons (pe_op op_add pe_int (pe_call GD hr (by rfl) gD FD.kp bD .nil pass0 (pa_cons (pv 0) (pa_cons (pe_ix ix_list (pv 1) pe_int (fun _ _ => rfl)) pa_nil)))) pa_nil)) (by rfl))
      (pss_cons (ps_if (pt_cmpR op_eq (pe_call GD hr (by rfl) gD FD.kp bD .nil pass0 (pa_cons (pv 0) (pa_cons pe_int pa_nil))) pe_int (nomark _))
        (pss_one (ps_par (i := 2) (j := 3) rfl sc_pair.nd rfl rfl (by decide) rfl rfl (pa_cons (pe_op op_add (pe_op op_mulA (pv 2) (pe_op op_pow pe_int pe_int)) (pe_call GD hr (by rfl) gD FD.kp bD .nil pass0 (pa_cons (pv 0) (pa_cons (pe_op op_pow pe_int pe_int) pa_nil)))) (pa_cons (pe_op op_add (pe_op op_mulA (pv 3) (pe_op op_pow pe_int pe_int)) (pe_call GD hr (by rfl) gD FD.kp bD .nil pass0 (pa_cons (pv 0) (pa_cons (pe_op op_pow pe_int pe_int) pa_nil)))) pa_nil)) (by rfl))) pss_nil)
      (pss_one (ps_ret (pe_call GL hr (by rfl) gL FL.kp bL .nil pass0 (pa_cons (pe_ix ix_list (pe_lst (pa_cons (pv 2) (pa_cons (pe_op op_sub pe_int (pv 2)) pa_nil))) (pe_call GD hr (by rfl) gD FD.kp bD .nil pass0 (pa_cons (pv 0) (pa_cons pe_int pa_nil))) (fun _ _ => rfl)) (pa_cons (pv 3) pa_nil))))))), ?_⟩
    -- the sizes
    refine ⟨by show 3 ≤ sizeLine; decide, fun p1 n1 => ?_⟩
    refine ⟨_, rfl, d, 3, t, rfl, f0.new n1, by omega, by decide, by decide, fun r1 H1 h10 h11 k1 f1 => ?_⟩
    obtain ⟨v1, e1, c1⟩ := pick3 (a := V.int 4) (b := V.int 30) (c := V.int 999) h10 h11
    refine ⟨p1, _, r1, v1, rfl, rfl, SqL.of (keep_at (f0.new n1) k1 upd_same (fun _ z => nomatch z)), e1, ?_⟩
    have K1 := keep_new n1 k1
    refine ⟨by show 3 ≤ sizeLine; decide, fun p2 n2 => ?_⟩
    refine ⟨_, rfl, d, 3, t + 1, rfl, f1.new n2, by omega, by decide, by decide, fun r2 H2 h20 h21 k2 f2 => ?_⟩
    obtain ⟨v2, e2, c2⟩ := pick3 (a := V.int 4) (b := V.int 30) (c := V.int 999) h20 h21
    refine ⟨p2, _, r2, v2, rfl, rfl, SqL.of (keep_at (f1.new n2) k2 upd_same (fun _ z => nomatch z)), e2, by show 2 ≤ sizeLine; decide, fun p3 n3 => ?_⟩
    have K2 := K1.trans (keep_new n2 k2)
    obtain ⟨x1, rfl, y1⟩ : ∃ x : Int, v1 = .int x ∧ 0 < x ∧ x ≤ 999 := by
      rcases c1 with z | z | z
      · exact ⟨4, z, by decide, by decide⟩
      · exact ⟨30, z, by decide, by decide⟩
      · exact ⟨999, z, by decide, by decide⟩
    obtain ⟨x2, rfl, y2⟩ : ∃ x : Int, v2 = .int x ∧ 0 < x ∧ x ≤ 999 := by
      rcases c2 with z | z | z
      · exact ⟨4, z, by decide, by decide⟩
      · exact ⟨30, z, by decide, by decide⟩
      · exact ⟨999, z, by decide, by decide⟩
    -- top and bottom
    refine ⟨_, rfl, _, rfl, p3, _, 0, _, rfl, rfl, SqL.of upd_same, atI_nat (j := 0) rfl, ?_⟩
    refine ⟨d, x1, t + 1 + 1, rfl, f2.new n3, by omega, y1.1, by omega, fun r3 H3 h30 h31 k3 f3 => ?_⟩
    have l3 := keep_at (f2.new n3) k3 upd_same (fun _ z => nomatch z)
    refine ⟨_, rfl, _, rfl, p3, _, 1, _, rfl, rfl, SqL.of l3, atI_nat (j := 1) rfl, ?_⟩
    refine ⟨d, x2, t + 1 + 1 + 1, rfl, f3, by omega, y2.1, by omega, fun r4 H4 h40 h41 k4 f4 => ?_⟩
    refine ⟨1, r4, rfl, rfl, _, _, rfl, ?_⟩
    have K4 := K2.trans ((keep_new n3 k3).trans k4)
    have e28 : (10 : Int) ^ (28 : Int).toNat = 10000000000000000000000000000 := by decide +kernel
    have e27 : (10 : Int) ^ (27 : Int).toNat = 1000000000000000000000000000 := by decide +kernel
    have e6 : (10 : Int) ^ (6 : Int).toNat = 1000000 := by decide +kernel
    have e110 : (2 : Nat) ^ 110 = 1298074214633706907132624082305024 := by decide +kernel
    -- behind: the sign
    have rest : ∀ (top bottom : Int) (t5 : Int) (H5 : Hp), Keep d H H5 → Feed H5 d t5 → t5 ≤ t + 7 → 0 ≤ top → top < 1298074214633706907132624082305024 → 0 < bottom → bottom < 1298074214633706907132624082305024 →
        tRet (tCall spLow [] E0 (tCons (tOp (rIxL K) (tLst (tCons (tVar 2) (tCons (tOp (rI0 fun i j => .int (i - j)) (tC (.int 0)) (tVar 2)) tNil))) (tCall spDraw [] E0 (tCons (tVar 0) (tCons (tC (.int 2)) tNil)))) (tCons (tVar 3) tNil)))
          { nx := fun _ H' => Q .non H', rt := Q } [some (.ref d), some (.ref p3), some (.int top), some (.int bottom)] H5 := by
      intro top bottom t5 H5 K5 f5 ht5 hT0 hT1 hB0 hB1
      refine ⟨_, rfl, _, rfl, 0, top, rfl, rfl, by show 2 ≤ sizeLine; decide, fun p6 n6 => ?_⟩
      refine ⟨_, rfl, d, 2, t5, rfl, f5.new n6, by omega, by decide, by decide, fun r6 H6 h60 h61 k6 f6 => ?_⟩
      obtain ⟨v6, e6, c6⟩ := pick2 (a := V.int top) (b := V.int (0 - top)) h60 h61
      obtain ⟨x6, rfl, y6⟩ : ∃ x : Int, v6 = .int x ∧ Sm 110 x := by
        rcases c6 with z | z
        · exact ⟨top, z, by unfold Sm; rw [e110]; omega⟩
        · exact ⟨0 - top, z, by unfold Sm; rw [e110]; omega⟩
      have sB : Sm 110 bottom := by unfold Sm; rw [e110]; omega
      refine ⟨p6, _, r6, _, rfl, rfl, SqL.of (keep_at (f5.new n6) k6 upd_same (fun _ z => nomatch z)), e6, _, rfl, ?_⟩
      refine ⟨x6, bottom, rfl, hB0, sB.mono (by decide), fun p7 n7 => ?_⟩
      exact q p7 _ _ (t5 + 1) _ (K5.trans ((keep_new n6 k6).trans (Keep.of_same (same_new n7)))) (f6.new n7) (by omega) upd_same (ratB_pos hB0) (ratT_sm hB0 y6) (ratB_sm hB0 sB)
    refine ⟨_, rfl, d, 8, t + 1 + 1 + 1 + 1, rfl, f4, by omega, by decide, by decide, fun r5 H5 h50 h51 k5 f5 => ?_⟩
    refine ⟨rfl, _, rfl, ite2 (fun c5 => ?_) (fun c5 => ?_)⟩
    · refine ⟨_, rfl, 10, 28, rfl, rfl, ⟨by decide, by decide, by decide⟩, r3, _, rfl, rfl, ?_, ?_⟩
      · refine Sm.cmul (n := 110) (m := 110) ?_ ?_ (by decide) (by decide) (by decide)
        · unfold Sm; rw [e110]; omega
        · unfold Sm; rw [e110, e28]; decide
      · refine ⟨_, rfl, 10, 6, rfl, rfl, ⟨by decide, by decide, by decide⟩, d, _, t + 1 + 1 + 1 + 1 + 1, rfl, f5, by omega, by rw [e6]; decide, by rw [e6]; decide, fun r6 H6 h60 h61 k6 f6 => ?_⟩
        rw [e6] at h61
        rw [e28]
        refine ⟨_, r6, rfl, rfl, ?_⟩
        refine ⟨_, rfl, 10, 27, rfl, rfl, ⟨by decide, by decide, by decide⟩, 1 + r4, _, rfl, rfl, ?_, ?_⟩
        · refine Sm.cmul (n := 110) (m := 110) ?_ ?_ (by decide) (by decide) (by decide)
          · unfold Sm; rw [e110]; omega
          · unfold Sm; rw [e110, e27]; decide
        · refine ⟨_, rfl, 10, 6, rfl, rfl, ⟨by decide, by decide, by decide⟩, d, _, t + 1 + 1 + 1 + 1 + 1 + 1, rfl, f6, by omega, by rw [e6]; decide, by rw [e6]; decide, fun r7 H7 h70 h71 k7 f7 => ?_⟩
          rw [e6] at h71
          rw [e27]
          refine ⟨_, r7, rfl, rfl, _, _, rfl, ?_⟩
          exact rest _ _ _ H7 (K4.trans (k5.trans (k6.trans k7))) f7 (by omega) (by omega) (by omega) (by omega) (by omega)
    · exact rest _ _ _ H5 (K4.trans k5) f5 (by omega) (by omega) (by omega) (by omega) (by omega)
end
end Fp

set_option Elab.async false
set_option linter.all false
set_option maxRecDepth 100000
set_option maxHeartbeats 4000000
set_option exponentiation.threshold 10000
namespace Fp
open PySem PySem.Spec PyProof.Rows L2
abbrev s_lover : Stmt := topS 16
abbrev s_right : Stmt := topS 17
theorem sc_lover : FnScope ["_law_one", "_law_other", "_law_found"] ["_law_one", "_law_other"] (defScope s_lover) := ⟨rfl, rfl, rfl, by decide +kernel, rfl, by decide +kernel, by decide +kernel⟩
theorem sc_right : FnScope ["_law_one", "_law_other", "_law_bottom", "_law_left", "_law_right_here", "_law_due", "_law_told", "_law_quotient"] ["_law_one", "_law_other"] (defScope s_right) := ⟨rfl, rfl, rfl, by decide +kernel, rfl, by decide +kernel, by decide +kernel⟩
section
variable {P : Program} {w : World} {K : PySem.W.Frag} {mg : Str → Option Value} {base : Heap} {CF CN fF fN : Addr} {fdF fdN : FuncData}
/-! ### what is told of one by the other, or that it is refused -/
def spLover (K : PySem.W.Frag) : Sp := fun vs H Q _ => ∃ (p1 p2 : Addr) (a b c d : Int), vs = [.ref p1, .ref p2] ∧ Two K H p1 p2 a b c d ∧
  (b * c = 0 → ∀ p H', Same H H' → H' p = some (.tup [.str "no ratio"]) → Q (.ref p) H') ∧
  (b * c ≠ 0 → ∀ p q H', Same H H' → H' q = some (.tup [.int (ratT (a * d) (b * c)), .int (ratB (a * d) (b * c))]) → H' p = some (.tup [.str "told", .ref q]) → Q (.ref p) H')
theorem ok_lover {f fO : Addr} {fd fdO : FuncData} (F : Fun K "_law_over" "_law_over" s_lover f fd) (FO : Fun K "over" "over" s_over fO fdO) (bO : Binds K fdO ["one", "other"] []) (gO : mg "over" = some (.ref fO))
    (gN : mg "NoRatio" = some (.ref CN)) (eN : PySem.W.exmOne K (.ref CN) (.ref CN) = some true) (GO : FnOk P w K mg base (L2.CX P w) 5 fO fdO ["one", "other"] (spOver K CN)) : FnOk P w K mg base CX0 6 f fd ["_law_one", "_law_other"] (spLover K) := by
  refine F.ok sc_lover (fun vs H Q E h => ?_) (fun cdv A outer s H vs Q E hr h => ?_)
  · obtain ⟨_, _, _, _, _, _, rfl, _⟩ := h
    rfl
  · obtain ⟨p1, p2, a, b, c, d, rfl, T, q0, q1⟩ := h
    refine ⟨_, pss_cons (ps_set (i := 2) sc_lover.nd rfl (.inl rfl) (pe_tup (pa_cons pe_str pa_nil)))
      (pss_cons (ps_try_only (tb := fun W => tAsg (tTup (tCons (tC (.str "told")) (tCons (tCallS (spOver K CN) (WE W) (tCons (tVar 0) (tCons (tVar 1) tNil))) tNil))) (gName 2)) (ts := fun _ _ _ => tAsg (tTup (tCons (tC (.str "no ratio")) tNil)) (gName 2)) (Wout := fun _ _ _ _ => False) rfl rfl ⟨rfl, by decide, .inl gN⟩ takes0
        (fun W pn xe tk _ => pss_one (ps_set (i := 2) sc_lover.nd rfl (.inl rfl) (pe_tup (pa_cons pe_str (pa_cons (by exact (pe_callS GO hr rfl gO FO.kp bO (fun σ => passAt tk σ) (by exact (pa_cons (pv 0) (pa_cons (pv 1) pa_nil))))) pa_nil)))))
        (fun a oe cls d pn _ _ => pss_one (ps_set (i := 2) sc_lover.nd rfl (.inl rfl) (pe_tup (pa_cons pe_str pa_nil)))))
      (pss_one (ps_ret (pv 2)))), ?_⟩
    refine ⟨by show 1 ≤ sizeLine; decide, fun x nx => ?_⟩
    have s1 := same_new (o := HO.tup [.str "refused"]) nx
    refine ⟨_, rfl, _, rfl, p1, p2, a, b, c, d, rfl, T.same s1, fun z => ?_, fun z y ny => ?_⟩
    · refine ⟨true, eN, fun _ e he => ?_, fun q => nomatch q⟩
      refine ⟨by show 1 ≤ sizeLine; decide, fun p np => ?_⟩
      exact ⟨_, rfl, q0 z p _ (s1.trans (same_new np)) upd_same⟩
    · have s2 := same_new (o := HO.tup [.int (ratT (a * d) (b * c)), .int (ratB (a * d) (b * c))]) ny
      refine ⟨by show 2 ≤ sizeLine; decide, fun p np => ?_⟩
      refine ⟨_, rfl, q1 z p y _ (s1.trans (s2.trans (same_new np))) ?_ upd_same⟩
      exact same_new np _ _ upd_same
end
end Fp

set_option Elab.async false
set_option linter.all false
set_option maxRecDepth 100000
set_option maxHeartbeats 4000000
set_option exponentiation.threshold 10000
namespace Fp
open PySem PySem.Spec PyProof.Rows L2
/-! ### what is shown -/
theorem sh_int {i : Int} (h : Sm 1900 i) : (PyData.int i).showable = true ∧ (PyData.int i).leavesShort 2000 = true := by
  have l : i.natAbs.log2 < 1900 := h.log (by decide)
  refine ⟨?_, ?_⟩
  · simp only [PyData.showable, decide_eq_true_eq]
    omega
  · simp only [PyData.leavesShort, decide_eq_true_eq]
    have e := int_text_length_le (k := 1900) (by decide) l
    show (Str.ofString (toString i)).length ≤ 2000
    rw [PySem.ofString_length]
    omega
def D2 (a b : Int) : PyData := .tuple [.int a, .int b]
theorem sh_two {a b : Int} (ha : Sm 1900 a) (hb : Sm 1900 b) : (D2 a b).showable = true ∧ (D2 a b).leavesShort 2000 = true := by
  have x := sh_int ha
  have y := sh_int hb
  refine ⟨?_, ?_⟩
  · show ((PyData.int a).showable && ((PyData.int b).showable && true)) = true
    rw [x.1, y.1]
    rfl
  · show ((PyData.int a).leavesShort 2000 && ((PyData.int b).leavesShort 2000 && true)) = true
    rw [x.2, y.2]
    rfl
theorem dp_two {K : PySem.W.Frag} {H : Hp} {p : Addr} {a b : Int} (h : SqT K H p [.int a, .int b]) : Dp K H (.ref p) (D2 a b) := .tup h (.cons (.int a) (.cons (.int b) .nil))
theorem shows_two {a b : Int} (ha : Sm 1900 a) (hb : Sm 1900 b) : Shows (D2 a b) := by
  have x := sh_two ha hb
  exact ⟨x.1, x.2, by show 4007 ≤ 16000000; decide, by show 1 ≤ 60; decide⟩
/-! ### the one by the other, by both signs -/
theorem fdiv_flip (t g : Int) : t.fdiv (-g) = (-t).fdiv g := by
  have e := Int.neg_fdiv_neg (-t) g
  rw [Int.neg_neg] at e
  exact e
theorem gcd_flip (t x : Int) : Int.gcd (-t) (-x) = Int.gcd t x := by
  show Nat.gcd _ _ = Nat.gcd _ _
  rw [Int.natAbs_neg, Int.natAbs_neg]
theorem rat_neg {t x : Int} (h : x < 0) : ratT t x = ratT (-t) (-x) ∧ ratB t x = ratB (-t) (-x) := by
  have e1 : ratG t x = -((Int.gcd t x : Nat) : Int) := by unfold ratG; rw [if_pos h]
  have e2 : ratG (-t) (-x) = ((Int.gcd t x : Nat) : Int) := by
    unfold ratG
    rw [if_neg (by omega), gcd_flip]
  unfold ratT ratB
  rw [e1, e2, fdiv_flip, fdiv_flip]
  exact ⟨rfl, rfl⟩
theorem rat_sm {t x : Int} {n m : Nat} (h : x ≠ 0) (ht : Sm n t) (hx : Sm m x) : Sm n (ratT t x) ∧ Sm m (ratB t x) := by
  rcases (by omega : 0 < x ∨ x < 0) with z | z
  · exact ⟨ratT_sm z ht, ratB_sm z hx⟩
  · obtain ⟨e1, e2⟩ := rat_neg (t := t) z
    rw [e1, e2]
    refine ⟨ratT_sm (by omega) ?_, ratB_sm (by omega) ?_⟩
    · unfold Sm; rw [Int.natAbs_neg]; exact ht
    · unfold Sm; rw [Int.natAbs_neg]; exact hx
section
variable {P : Program} {w : World} {K : PySem.W.Frag} {mg : Str → Option Value} {base : Heap} {CF CN fF fN : Addr} {fdF fdN : FuncData}
/-- two ratios as they are drawn -/
structure Duo (K : PySem.W.Frag) (H : Hp) (p1 p2 : Addr) (a b c d : Int) : Prop where
  t1 : SqT K H p1 [.int a, .int b]
  t2 : SqT K H p2 [.int c, .int d]
  sa : Sm 120 a
  sb : Sm 120 b
  sc : Sm 120 c
  sd : Sm 120 d
  pb : 0 < b
  pd : 0 < d
theorem Duo.two {H : Hp} {p1 p2 : Addr} {a b c d : Int} (h : Duo K H p1 p2 a b c d) : Two K H p1 p2 a b c d :=
  ⟨h.t1, h.t2, h.sa.mono (by decide), h.sb.mono (by decide), h.sc.mono (by decide), h.sd.mono (by decide), h.pb, h.pd⟩
theorem Duo.same {H H' : Hp} {p1 p2 : Addr} {a b c d : Int} (h : Duo K H p1 p2 a b c d) (e : Same H H') : Duo K H' p1 p2 a b c d := ⟨sqT_same e h.t1, sqT_same e h.t2, h.sa, h.sb, h.sc, h.sd, h.pb, h.pd⟩
def spRight (K : PySem.W.Frag) : Sp := fun vs H Q _ => ∃ (p1 p2 : Addr) (a b c d : Int), vs = [.ref p1, .ref p2] ∧ Duo K H p1 p2 a b c d ∧ ∀ H', Same H H' → Q (.bl true) H'
theorem ok_right {f fL fP fM fT fB fV : Addr} {fd fdL fdP fdM fdT fdB fdV : FuncData} (F : Fun K "_law_right" "_law_right" s_right f fd)
    (FL : Fun K "_law_low" "_law_low" s_low fL fdL) (bL : Binds K fdL ["_law_top", "_law_bottom"] []) (gL : mg "_law_low" = some (.ref fL)) (GL : FnOk P w K mg base CX0 1 fL fdL ["_law_top", "_law_bottom"] spLow)
    (FP : Fun K "plus" "plus" s_plus fP fdP) (bP : Binds K fdP ["one", "other"] []) (gP : mg "plus" = some (.ref fP)) (GP : FnOk P w K mg base CX0 5 fP fdP ["one", "other"] (spTwo K (fun a b c d => a * d + c * b)))
    (FM : Fun K "minus" "minus" s_minus fM fdM) (bM : Binds K fdM ["one", "other"] []) (gM : mg "minus" = some (.ref fM)) (GM : FnOk P w K mg base CX0 5 fM fdM ["one", "other"] (spTwo K (fun a b c d => a * d - c * b)))
    (FT : Fun K "times" "times" s_times fT fdT) (bT : Binds K fdT ["one", "other"] []) (gT : mg "times" = some (.ref fT)) (GT : FnOk P w K mg base CX0 5 fT fdT ["one", "other"] (spTwo K (fun a b c d => a * c)))
    (FB : Fun K "is_below" "is_below" s_below fB fdB) (bB : Binds K fdB ["one", "other"] []) (gB : mg "is_below" = some (.ref fB)) (GB : FnOk P w K mg base CX0 1 fB fdB ["one", "other"] (spBelow K))
    (FV : Fun K "_law_over" "_law_over" s_lover fV fdV) (bV : Binds K fdV ["_law_one", "_law_other"] []) (gV : mg "_law_over" = some (.ref fV)) (GV : FnOk P w K mg base CX0 6 fV fdV ["_law_one", "_law_other"] (spLover K))
    (mR : mg "repr" = none) (mI : mg "int" = none) (ma : mg "abs" = none) : FnG P w K mg base CX0 7 f fd ["_law_one", "_law_other"] (spRight K) := by
  refine okG F sc_right (fun vs H Q E h => ?_) (fun cdv A outer s H vs Q E hq hr h => ?_)
  · obtain ⟨_, _, _, _, _, _, rfl, _⟩ := h
    rfl
  · obtain ⟨p1, p2, a, b, c, d, rfl, T, q⟩ := h
    have hr1 := hr.mono (show 1 ≤ 6 by decide)
    have hr5 := hr.mono (show 5 ≤ 6 by decide)
    refine ⟨_, (pss_cons (ps_set (i := 2) sc_right.nd rfl (.inl rfl) (pe_op op_mulA (pe_ix ix_tup (pv 0) pe_int (fun _ _ => rfl)) (pe_ix ix_tup (pv 1) pe_int (fun _ _ => rfl)))) (pss_cons (ps_par (i := 3) (j := 4) rfl sc_right.nd rfl rfl (by decide) rfl rfl (pa_cons (pe_op op_mulA (pe_ix ix_tup (pv 0) pe_int (fun _ _ => rfl)) (pe_ix ix_tup (pv 1) pe_int (fun _ _ => rfl))) (pa_cons (pe_op op_mulA (pe_ix ix_tup (pv 1) pe_int (fun _ _ => rfl)) (pe_ix ix_tup (pv 0) pe_int (fun _ _ => rfl))) pa_nil)) (by rfl)) (pss_cons (ps_set (i := 5) sc_right.nd rfl (.inl rfl) (pe_lst (pa_cons (pe_call GL hr1 (by rfl) gL FL.kp bL .nil pass0 (pa_cons (pe_op op_add (pv 3) (pv 4)) (pa_cons (pv 2) pa_nil))) (pa_cons (pe_call GL hr1 (by rfl) gL FL.kp bL .nil pass0 (pa_cons (pe_op op_sub (pv 3) (pv 4)) (pa_cons (pv 2) pa_nil))) (pa_cons (pe_call GL hr1 (by rfl) gL FL.kp bL .nil pass0 (pa_cons (pe_op op_mulA (pe_ix ix_tup (pv 0) pe_int (fun _ _ => rfl)) (pe_ix ix_tup (pv 1) pe_int (fun _ _ => rfl))) (pa_cons (pv 2) pa_nil))) pa_nil))))) (pss_cons (ps_expr (pe_bm PySem.F.plainAttrs_list PySem.F.slot_list_append PySem.F.type_list_append mt_append (pv 5) (pa_cons (pe_cmpR op_lt (pv 3) (pv 4) (nomark _)) pa_nil))) (pss_cons (ps_set (i := 6) sc_right.nd rfl (.inl rfl) (pe_lst (pa_cons (pe_call GP hr5 (by rfl) gP FP.kp bP .nil pass0 (pa_cons (pv 0) (pa_cons (pv 1) pa_nil))) (pa_cons (pe_call GM hr5 (by rfl) gM FM.kp bM .nil pass0 (pa_cons (pv 0) (pa_cons (pv 1) pa_nil)))
          (pa_cons (pe_call GT hr5 (by rfl) gT FT.kp bT .nil pass0 (pa_cons (pv 0) (pa_cons (pv 1) pa_nil))) (pa_cons (pe_call GB hr1 (by rfl) gB FB.kp bB .nil pass0 (pa_cons (pv 0) (pa_cons (pv 1) pa_nil))) pa_nil)))))) (pss_cons (ps_if (pt_cmpR op_ne (pe_callB (call_reprD hq hr) (by rfl) mR (by decide +kernel) (pa_cons (pv 6) pa_nil)) (pe_callB (call_reprD hq hr) (by rfl) mR (by decide +kernel) (pa_cons (pv 5) pa_nil)) (nomark _)) (pss_one (ps_ret pe_bl)) pss_nil) (pss_cons (ps_set (i := 7) sc_right.nd rfl (.inl rfl) (pe_tup (pa_cons pe_str pa_nil))) (pss_cons (ps_if (pt_cmpR op_ne (pv 4) pe_int (nomark _)) (pss_one (ps_set (i := 7) sc_right.nd rfl (.inl rfl) (pe_tup (pa_cons pe_str (pa_cons (pe_call GL hr1 (by rfl) gL FL.kp bL .nil pass0 (pa_cons (pe_op op_mulA (pv 3) (pe_ix ix_list (pe_lst (pa_cons pe_int (pa_cons (pe_un un_neg pe_int) pa_nil)))
          (pe_callTy call_int1 (by rfl) mI (by decide +kernel) (pa_cons (pe_cmpR op_lt (pv 4) pe_int (nomark _)) pa_nil)) (fun _ _ => rfl))) (pa_cons (pe_callB call_abs (by rfl) ma (by decide +kernel) (pa_cons (pv 4) pa_nil)) pa_nil))) pa_nil))))) pss_nil) (pss_one (ps_ret (pe_cmpR op_eq (pe_callB (call_reprD hq hr) (by rfl) mR (by decide +kernel) (pa_cons (pe_call GV hr (by rfl) gV FV.kp bV .nil pass0 (pa_cons (pv 0) (pa_cons (pv 1) pa_nil))) pa_nil)) (pe_callB (call_reprD hq hr) (by rfl) mR (by decide +kernel) (pa_cons (pv 7) pa_nil)) (nomark _)))))))))))), ?_⟩
    have D0 : 0 < b * d := Int.mul_pos T.pb T.pd
    have mab := T.sa.cmul T.sd (by decide) (by decide) (by decide)
    have sAD := T.sa.mul T.sd
    have sCB := T.sc.mul T.sb
    have sBD := T.sb.mul T.sd
    have sAC := T.sa.mul T.sc
    -- bottom, left, right
    refine ⟨_, rfl, p1, _, 1, _, rfl, rfl, T.t1, atI_nat (j := 1) rfl, _, rfl, p2, _, 1, _, rfl, rfl, T.t2, atI_nat (j := 1) rfl, b, d, rfl, rfl, T.sb.cmul T.sd (by decide) (by decide) (by decide), ?_⟩
    refine ⟨_, rfl, p1, _, 0, _, rfl, rfl, T.t1, atI_nat (j := 0) rfl, _, rfl, p2, _, 1, _, rfl, rfl, T.t2, atI_nat (j := 1) rfl, a, d, rfl, rfl, mab,
      _, rfl, p2, _, 0, _, rfl, rfl, T.t2, atI_nat (j := 0) rfl, _, rfl, p1, _, 1, _, rfl, rfl, T.t1, atI_nat (j := 1) rfl, c, b, rfl, rfl, T.sc.cmul T.sb (by decide) (by decide) (by decide), _, _, rfl, ?_⟩
    -- due
    have sB8 : Sm 8000 (b * d) := sBD.mono (by decide)
    refine ⟨_, rfl, _, rfl, a * d, c * b, rfl, rfl, _, rfl, _, _, rfl, D0, sB8, fun u1 n1 => ?_⟩
    refine ⟨_, rfl, _, rfl, a * d, c * b, rfl, rfl, _, rfl, _, _, rfl, D0, sB8, fun u2 n2 => ?_⟩
    have e1 := same_new (o := HO.tup [.int (ratT (a * d + c * b) (b * d)), .int (ratB (a * d + c * b) (b * d))]) n1
    have e2 := same_new (o := HO.tup [.int (ratT (a * d - c * b) (b * d)), .int (ratB (a * d - c * b) (b * d))]) n2
    have T2 := (T.same e1).same e2
    refine ⟨_, rfl, p1, _, 0, _, rfl, rfl, T2.t1, atI_nat (j := 0) rfl, _, rfl, p2, _, 0, _, rfl, rfl, T2.t2, atI_nat (j := 0) rfl, a, c, rfl, rfl, T.sa.cmul T.sc (by decide) (by decide) (by decide), _, rfl, _, _, rfl, D0, sB8, fun u3 n3 => ?_⟩
    have e3 := same_new (o := HO.tup [.int (ratT (a * c) (b * d)), .int (ratB (a * c) (b * d))]) n3
    refine ⟨by show 3 ≤ sizeLine; decide, fun u4 n4 => ?_⟩
    have e4 := same_new (o := HO.lst [.ref u1, .ref u2, .ref u3]) n4
    -- append
    refine ⟨_, rfl, .inl ⟨rfl, _, SqL.of upd_same⟩, _, rfl, _, rfl, a * d, c * b, rfl, rfl, u4, _, _, rfl, rfl, upd_same, by show 3 < sizeLine; decide, ?_⟩
    rw [upd_upd]
    have e5 := same_new (o := HO.lst ([.ref u1, .ref u2, .ref u3] ++ [.bl (decide (a * d < c * b))])) n4
    have s5 := e1.trans (e2.trans (e3.trans e5))
    have T5 := T.same s5
    have g1 := e5 _ _ (e3 _ _ (e2 _ _ (upd_same (H := H) (a := u1) (o := HO.tup [.int (ratT (a * d + c * b) (b * d)), .int (ratB (a * d + c * b) (b * d))]))))
    have g2 := e5 _ _ (e3 _ _ (upd_same (H := upd H u1 (HO.tup [.int (ratT (a * d + c * b) (b * d)), .int (ratB (a * d + c * b) (b * d))])) (a := u2) (o := HO.tup [.int (ratT (a * d - c * b) (b * d)), .int (ratB (a * d - c * b) (b * d))])))
    have g3 := e5 _ _ (upd_same (H := upd (upd H u1 (HO.tup [.int (ratT (a * d + c * b) (b * d)), .int (ratB (a * d + c * b) (b * d))])) u2 (HO.tup [.int (ratT (a * d - c * b) (b * d)), .int (ratB (a * d - c * b) (b * d))])) (a := u3) (o := HO.tup [.int (ratT (a * c) (b * d)), .int (ratB (a * c) (b * d))]))
    generalize hH5 : upd (upd (upd (upd H u1 (HO.tup [.int (ratT (a * d + c * b) (b * d)), .int (ratB (a * d + c * b) (b * d))])) u2 (HO.tup [.int (ratT (a * d - c * b) (b * d)), .int (ratB (a * d - c * b) (b * d))])) u3 (HO.tup [.int (ratT (a * c) (b * d)), .int (ratB (a * c) (b * d))])) u4 (HO.lst ([.ref u1, .ref u2, .ref u3] ++ [.bl (decide (a * d < c * b))])) = H5
    have g4 : H5 u4 = some (.lst [.ref u1, .ref u2, .ref u3, .bl (decide (a * d < c * b))]) := by
      rw [← hH5, upd_same]
      rfl
    rw [hH5] at s5 T5 g1 g2 g3
    clear e1 e2 e3 e4 e5 n1 n2 n3 n4 hH5 T2
    -- told
    refine ⟨_, rfl, _, rfl, p1, p2, a, b, c, d, rfl, T5.two, fun v1 m1 => ?_⟩
    have f1 := same_new (o := HO.tup [.int (ratT (a * d + c * b) (b * d)), .int (ratB (a * d + c * b) (b * d))]) m1
    refine ⟨_, rfl, _, rfl, p1, p2, a, b, c, d, rfl, (T5.same f1).two, fun v2 m2 => ?_⟩
    have f2 := same_new (o := HO.tup [.int (ratT (a * d - c * b) (b * d)), .int (ratB (a * d - c * b) (b * d))]) m2
    refine ⟨_, rfl, _, rfl, p1, p2, a, b, c, d, rfl, ((T5.same f1).same f2).two, fun v3 m3 => ?_⟩
    have f3 := same_new (o := HO.tup [.int (ratT (a * c) (b * d)), .int (ratB (a * c) (b * d))]) m3
    refine ⟨_, rfl, _, rfl, p1, p2, a, b, c, d, rfl, (((T5.same f1).same f2).same f3).two, by show 4 ≤ sizeLine; decide, fun v4 m4 => ?_⟩
    have f4 := same_new (o := HO.lst [.ref v1, .ref v2, .ref v3, .bl (decide (a * d < c * b))]) m4
    have s6 := f1.trans (f2.trans (f3.trans f4))
    have T6 := T5.same s6
    have k1 := f4 _ _ (f3 _ _ (f2 _ _ (upd_same (H := H5) (a := v1) (o := HO.tup [.int (ratT (a * d + c * b) (b * d)), .int (ratB (a * d + c * b) (b * d))]))))
    have k2 := f4 _ _ (f3 _ _ (upd_same (H := upd H5 v1 (HO.tup [.int (ratT (a * d + c * b) (b * d)), .int (ratB (a * d + c * b) (b * d))])) (a := v2) (o := HO.tup [.int (ratT (a * d - c * b) (b * d)), .int (ratB (a * d - c * b) (b * d))])))
    have k3 := f4 _ _ (upd_same (H := upd (upd H5 v1 (HO.tup [.int (ratT (a * d + c * b) (b * d)), .int (ratB (a * d + c * b) (b * d))])) v2 (HO.tup [.int (ratT (a * d - c * b) (b * d)), .int (ratB (a * d - c * b) (b * d))])) (a := v3) (o := HO.tup [.int (ratT (a * c) (b * d)), .int (ratB (a * c) (b * d))]))
    have k4 := upd_same (H := upd (upd (upd H5 v1 (HO.tup [.int (ratT (a * d + c * b) (b * d)), .int (ratB (a * d + c * b) (b * d))])) v2 (HO.tup [.int (ratT (a * d - c * b) (b * d)), .int (ratB (a * d - c * b) (b * d))])) v3 (HO.tup [.int (ratT (a * c) (b * d)), .int (ratB (a * c) (b * d))])) (a := v4) (o := HO.lst [.ref v1, .ref v2, .ref v3, .bl (decide (a * d < c * b))])
    generalize hH6 : upd (upd (upd (upd H5 v1 (HO.tup [.int (ratT (a * d + c * b) (b * d)), .int (ratB (a * d + c * b) (b * d))])) v2 (HO.tup [.int (ratT (a * d - c * b) (b * d)), .int (ratB (a * d - c * b) (b * d))])) v3 (HO.tup [.int (ratT (a * c) (b * d)), .int (ratB (a * c) (b * d))])) v4 (HO.lst [.ref v1, .ref v2, .ref v3, .bl (decide (a * d < c * b))]) = H6
    rw [hH6] at s6 T6 k1 k2 k3 k4
    clear f1 f2 f3 f4 m1 m2 m3 m4 hH6
    have S6 := s5.trans s6
    -- both shown
    have z1 := sh_two (ratT_sm D0 ((sAD.add (sCB.mono (by decide))).mono (show 241 ≤ 1900 by decide))) (ratB_sm (t := a * d + c * b) D0 (sBD.mono (show 240 ≤ 1900 by decide)))
    have z2 := sh_two (ratT_sm D0 ((sAD.sub (sCB.mono (by decide))).mono (show 241 ≤ 1900 by decide))) (ratB_sm (t := a * d - c * b) D0 (sBD.mono (show 240 ≤ 1900 by decide)))
    have z3 := sh_two (ratT_sm D0 (sAC.mono (show 240 ≤ 1900 by decide))) (ratB_sm (t := a * c) D0 (sBD.mono (show 240 ≤ 1900 by decide)))
    have zs : Shows (.list [D2 (ratT (a * d + c * b) (b * d)) (ratB (a * d + c * b) (b * d)), D2 (ratT (a * d - c * b) (b * d)) (ratB (a * d - c * b) (b * d)), D2 (ratT (a * c) (b * d)) (ratB (a * c) (b * d)), .bool (decide (a * d < c * b))]) := by
      refine ⟨?_, ?_, by show 12037 ≤ 16000000; decide, by show 2 ≤ 60; decide⟩
      · show ((D2 _ _).showable && ((D2 _ _).showable && ((D2 _ _).showable && ((PyData.bool _).showable && true)))) = true
        rw [z1.1, z2.1, z3.1]
        rfl
      · show ((D2 _ _).leavesShort 2000 && ((D2 _ _).leavesShort 2000 && ((D2 _ _).leavesShort 2000 && ((PyData.bool _).leavesShort 2000 && true)))) = true
        rw [z1.2, z2.2, z3.2]
        rfl
    refine ⟨_, rfl, v4, _, rfl, .lst (SqL.of k4) (.cons (dp_two (SqT.of k1)) (.cons (dp_two (SqT.of k2)) (.cons (dp_two (SqT.of k3)) (.cons (.bl _) .nil)))), zs, ?_⟩
    refine ⟨_, rfl, u4, _, rfl, .lst (SqL.of (s6 _ _ g4)) (.cons (dp_two (SqT.of (s6 _ _ g1))) (.cons (dp_two (SqT.of (s6 _ _ g2))) (.cons (dp_two (SqT.of (s6 _ _ g3))) (.cons (.bl _) .nil)))), zs, ?_⟩
    refine ⟨rfl, _, rfl, ?_⟩
    rw [decide_eq_true rfl]
    refine iteF ?_
    -- the quotient
    refine ⟨by show 1 ≤ sizeLine; decide, fun w1 o1 => ?_⟩
    have h1 := same_new (o := HO.tup [.str "no ratio"]) o1
    have eCB : b * c = c * b := Int.mul_comm b c
    refine ⟨_, rfl, rfl, _, rfl, ite2 (fun c1 => ?_) (fun c1 => ?_)⟩
    · have ne : c * b ≠ 0 := fun z => by
        have c2 : (!decide (V.int (c * b) = V.int 0)) = true := c1
        rw [z] at c2
        exact absurd c2 (by decide)
      have fin : ∀ (t x : Int) (x0 : Addr) (H8 : Hp), Same H6 H8 → ratT (a * d) (b * c) = ratT t x → ratB (a * d) (b * c) = ratB t x → 0 < x → Sm 8000 x →
          ∀ p, H8 p = none → tAsg (tTup fun σ H Q => Q [.str "told", .ref p] H) (gName 7)
            { nx := tRet (tOp rEq (tCB (fun xs H Q => ∃ a d, xs = [.ref a] ∧ Dp K H (.ref a) d ∧ Shows d ∧ Q (.str d.shown) H) (tCons (tCall (spLover K) [] E0 (tCons (tVar 0) (tCons (tVar 1) tNil))) tNil))
                (tCB (fun xs H Q => ∃ a d, xs = [.ref a] ∧ Dp K H (.ref a) d ∧ Shows d ∧ Q (.str d.shown) H) (tCons (tVar 7) tNil))) { nx := fun _ H' => Q .non H', rt := Q }, rt := Q }
            [some (.ref p1), some (.ref p2), some (.int (b * d)), some (.int (a * d)), some (.int (c * b)), some (.ref u4), some (.ref v4), some (.ref w1)] (upd H8 p (.tup [.int (ratT t x), .int (ratB t x)])) := by
        intro t x x0 H8 s8 eT eB hx sx p np
        have i1 := same_new (o := HO.tup [.int (ratT t x), .int (ratB t x)]) np
        refine ⟨by show 2 ≤ sizeLine; decide, fun y ny => ?_⟩
        have i2 := same_new (o := HO.tup [.str "told", .ref p]) ny
        have s9 := s8.trans (i1.trans i2)
        refine ⟨_, rfl, _, rfl, p1, p2, a, b, c, d, rfl, (T6.same s9).two, fun z => absurd (eCB ▸ z) ne, fun _ r v H9 s10 l1 l2 => ?_⟩
        obtain ⟨y1, y2⟩ := rat_sm (t := a * d) (x := b * c) (by rw [eCB]; exact ne) (sAD.mono (show 240 ≤ 1900 by decide)) ((T.sb.mul T.sc).mono (show 240 ≤ 1900 by decide))
        have x1 := sh_two y1 y2
        have sh : Shows (.tuple [.str "told", D2 (ratT (a * d) (b * c)) (ratB (a * d) (b * c))]) := by
          refine ⟨?_, ?_, by show 4056 ≤ 16000000; decide, by show 2 ≤ 60; decide⟩
          · show ((PyData.str "told").showable && ((D2 _ _).showable && true)) = true
            rw [x1.1]
            rfl
          · show ((PyData.str "told").leavesShort 2000 && ((D2 _ _).leavesShort 2000 && true)) = true
            rw [x1.2]
            decide +kernel
        refine ⟨r, _, rfl, .tup (SqT.of l2) (.cons (.str _) (.cons (dp_two (SqT.of l1)) .nil)), sh, ?_⟩
        have l3 := s10 _ _ (upd_same (H := upd H8 p (HO.tup [.int (ratT t x), .int (ratB t x)])) (a := y) (o := HO.tup [.str "told", .ref p]))
        have l4 := s10 _ _ (i2 _ _ (upd_same (H := H8) (a := p) (o := HO.tup [.int (ratT t x), .int (ratB t x)])))
        refine ⟨_, rfl, y, .tuple [.str "told", D2 (ratT (a * d) (b * c)) (ratB (a * d) (b * c))], rfl, .tup (SqT.of l3) (.cons (.str _) (.cons ?_ .nil)), sh, rfl, ?_⟩
        · rw [eT, eB]
          exact dp_two (SqT.of l4)
        · rw [decide_eq_true rfl]
          exact q _ (S6.trans (s9.trans s10))
      -- left * [1, -1][int(right < 0)], abs(right)
      refine ⟨_, rfl, 1, rfl, by show 2 ≤ sizeLine; decide, fun w2 o2 => ?_⟩
      have h2 := same_new (o := HO.lst [.int 1, .int (-1)]) o2
      refine ⟨_, rfl, c * b, 0, rfl, rfl, .inr ⟨_, rfl, ?_⟩⟩
      rcases (by omega : c * b < 0 ∨ 0 < c * b) with ng | ps
      · rw [decide_eq_true ng]
        refine ⟨w2, _, _, _, rfl, rfl, SqL.of upd_same, atI_nat (j := 1) rfl, a * d, -1, rfl, rfl, ?_, _, rfl, c * b, rfl, ?_⟩
        · exact (sAD.mono (show 240 ≤ 300 by decide)).cmul (m := 10) (by unfold Sm; decide) (by decide) (by decide) (by decide)
        · rw [if_pos ng]
          obtain ⟨e1, e2⟩ := rat_neg (t := a * d) (x := b * c) (by rw [eCB]; exact ng)
          rw [eCB] at e1 e2
          refine ⟨_, _, rfl, by omega, by unfold Sm; rw [Int.natAbs_neg]; exact sCB.mono (by decide), fun p np => ?_⟩
          refine fin _ _ w2 _ (h1.trans h2) ?_ ?_ (by omega) (by unfold Sm; rw [Int.natAbs_neg]; exact sCB.mono (by decide)) p np
          · rw [eCB, show a * d * -1 = -(a * d) by omega]
            exact e1
          · rw [eCB, show a * d * -1 = -(a * d) by omega]
            exact e2
      · rw [decide_eq_false (show ¬ c * b < 0 by omega)]
        refine ⟨w2, _, _, _, rfl, rfl, SqL.of upd_same, atI_nat (j := 0) rfl, a * d, 1, rfl, rfl, ?_, _, rfl, c * b, rfl, ?_⟩
        · exact (sAD.mono (show 240 ≤ 300 by decide)).cmul (m := 10) (by unfold Sm; decide) (by decide) (by decide) (by decide)
        · rw [if_neg (show ¬ c * b < 0 by omega)]
          refine ⟨_, _, rfl, ps, sCB.mono (by decide), fun p np => ?_⟩
          refine fin _ _ w2 _ (h1.trans h2) ?_ ?_ ps (sCB.mono (by decide)) p np
          · rw [eCB, Int.mul_one]
          · rw [eCB, Int.mul_one]
    · have z0 : c * b = 0 := by
        rcases Classical.em (c * b = 0) with z | z
        · exact z
        · exact absurd (show (!decide (V.int (c * b) = V.int 0)) = true by simp [z]) c1
      have sh : Shows (.tuple [.str "no ratio"]) := ⟨rfl, by decide +kernel, by decide +kernel, by decide +kernel⟩
      refine ⟨_, rfl, _, rfl, p1, p2, a, b, c, d, rfl, (T6.same h1).two, fun _ r H9 s10 l1 => ?_, fun z => absurd (eCB.trans z0) z⟩
      refine ⟨r, _, rfl, .tup (SqT.of l1) (.cons (.str _) .nil), sh, ?_⟩
      refine ⟨_, rfl, w1, _, rfl, .tup (SqT.of (s10 _ _ upd_same)) (.cons (.str _) .nil), sh, rfl, ?_⟩
      rw [decide_eq_true rfl]
      exact q _ (S6.trans (h1.trans s10))
end
end Fp

set_option Elab.async false
set_option linter.all false
set_option maxRecDepth 100000
set_option maxHeartbeats 4000000
set_option exponentiation.threshold 10000
namespace Fp
open PySem PySem.Spec PyProof.Rows L2
abbrev s_law : Stmt := topS 18
theorem sc_law : FnScope ["_law_script", "_law_feed_here", "_law_k", "_law_way", "_law_one", "_law_other", "_law_kept", "_law_first", "_law_second"] ["_law_script"] (defScope s_law) := ⟨rfl, rfl, rfl, by decide +kernel, rfl, by decide +kernel, by decide +kernel⟩
section
variable {P : Program} {w : World} {K : PySem.W.Frag} {mg : Str → Option Value} {base : Heap}
def D4 (a b c d : Int) : PyData := .tuple [D2 a b, D2 c d]
theorem shows_four {a b c d : Int} (sa : Sm 120 a) (sb : Sm 120 b) (sc : Sm 120 c) (sd : Sm 120 d) : Shows (D4 a b c d) := by
  have x := sh_two (sa.mono (show 120 ≤ 1900 by decide)) (sb.mono (show 120 ≤ 1900 by decide))
  have y := sh_two (sc.mono (show 120 ≤ 1900 by decide)) (sd.mono (show 120 ≤ 1900 by decide))
  refine ⟨?_, ?_, by show 8021 ≤ 16000000; decide, by show 2 ≤ 60; decide⟩
  · show ((D2 _ _).showable && ((D2 _ _).showable && true)) = true
    rw [x.1, y.1]
    rfl
  · show ((D2 _ _).leavesShort 2000 && ((D2 _ _).leavesShort 2000 && true)) = true
    rw [x.2, y.2]
    rfl
theorem Duo.swap {H : Hp} {p1 p2 : Addr} {a b c d : Int} (h : Duo K H p1 p2 a b c d) : Duo K H p2 p1 c d a b := ⟨h.t2, h.t1, h.sc, h.sd, h.sa, h.sb, h.pd, h.pb⟩
/-- the last two statements of a turn, read -/
def lawTail (K : PySem.W.Frag) : TS :=
  tSeq (tAsg (tCB (fun xs H Q => ∃ a d, xs = [.ref a] ∧ Dp K H (.ref a) d ∧ Shows d ∧ Q (.str d.shown) H) (tCons (tTup (tCons (tVar 4) (tCons (tVar 5) tNil))) tNil)) (gName 6))
    (tFor (iList K (tLst (tCons (tTup (tCons (tVar 4) (tCons (tVar 5) tNil))) (tCons (tTup (tCons (tVar 5) (tCons (tVar 4) tNil))) (tCons (tTup (tCons (tVar 4) (tCons (tVar 5) tNil))) tNil))))) (gTup K 2 (gCons (gName 7) (gCons (gName 8) gNil)))
      (tIfS (tOr (tNot (tB (tCallG (spRight K) E0 (tCons (tVar 7) (tCons (tVar 8) tNil))))) (tTest (tOp rNe (tCB (fun xs H Q => ∃ a d, xs = [.ref a] ∧ Dp K H (.ref a) d ∧ Shows d ∧ Q (.str d.shown) H) (tCons (tTup (tCons (tVar 4) (tCons (tVar 5) tNil))) tNil)) (tVar 6)))) (tRet (tC (.bl false))) tNext))
theorem tail_ok {D : Ends} {H6 : Hp} {v0 v1 v2 v3 y6 y7 y8 : Option V} {p1 p3 : Addr} {a b c e : Int} (T6 : Duo K H6 p1 p3 a b c e)
    (hn : ∀ z6 z7 z8 H8, Same H6 H8 → D.nx [v0, v1, v2, v3, some (.ref p1), some (.ref p3), z6, z7, z8] H8) : lawTail K D [v0, v1, v2, v3, some (.ref p1), some (.ref p3), y6, y7, y8] H6 := by
  have sh := shows_four T6.sa T6.sb T6.sc T6.sd
  have dp : ∀ {H' : Hp} {x : Addr}, Duo K H' p1 p3 a b c e → H' x = some (.tup [.ref p1, .ref p3]) → Dp K H' (.ref x) (D4 a b c e) := fun T hx => .tup (SqT.of hx) (.cons (dp_two T.t1) (.cons (dp_two T.t2) .nil))
  refine ⟨_, rfl, _, rfl, by show 2 ≤ sizeLine; decide, fun x nx => ?_⟩
  have g1 := same_new (o := HO.tup [.ref p1, .ref p3]) nx
  refine ⟨x, _, rfl, dp (T6.same g1) upd_same, sh, ?_⟩
  refine ⟨_, rfl, _, rfl, by show 2 ≤ sizeLine; decide, fun x1 n1 => ?_⟩
  have g2 := same_new (o := HO.tup [.ref p1, .ref p3]) n1
  refine ⟨_, rfl, _, rfl, by show 2 ≤ sizeLine; decide, fun x2 n2 => ?_⟩
  have g3 := same_new (o := HO.tup [.ref p3, .ref p1]) n2
  refine ⟨_, rfl, _, rfl, by show 2 ≤ sizeLine; decide, fun x3 n3 => ?_⟩
  have g4 := same_new (o := HO.tup [.ref p1, .ref p3]) n3
  refine ⟨by show 3 ≤ sizeLine; decide, fun l nl => ?_⟩
  have g5 := same_new (o := HO.lst [.ref x1, .ref x2, .ref x3]) nl
  have G := g1.trans (g2.trans (g3.trans (g4.trans g5)))
  refine ⟨l, rfl, ⟨_, SqL.of upd_same⟩, ?_⟩
  have l1 := g5 _ _ (g4 _ _ (g3 _ _ (upd_same (H := upd H6 x (HO.tup [.ref p1, .ref p3])) (a := x1) (o := HO.tup [.ref p1, .ref p3]))))
  have l2 := g5 _ _ (g4 _ _ (upd_same (H := upd (upd H6 x (HO.tup [.ref p1, .ref p3])) x1 (HO.tup [.ref p1, .ref p3])) (a := x2) (o := HO.tup [.ref p3, .ref p1])))
  have l3 := g5 _ _ (upd_same (H := upd (upd (upd H6 x (HO.tup [.ref p1, .ref p3])) x1 (HO.tup [.ref p1, .ref p3])) x2 (HO.tup [.ref p3, .ref p1])) (a := x3) (o := HO.tup [.ref p1, .ref p3]))
  have l4 := upd_same (H := upd (upd (upd (upd H6 x (HO.tup [.ref p1, .ref p3])) x1 (HO.tup [.ref p1, .ref p3])) x2 (HO.tup [.ref p3, .ref p1])) x3 (HO.tup [.ref p1, .ref p3])) (a := l) (o := HO.lst [.ref x1, .ref x2, .ref x3])
  generalize hH7 : upd (upd (upd (upd (upd H6 x (HO.tup [.ref p1, .ref p3])) x1 (HO.tup [.ref p1, .ref p3])) x2 (HO.tup [.ref p3, .ref p1])) x3 (HO.tup [.ref p1, .ref p3])) l (HO.lst [.ref x1, .ref x2, .ref x3]) = H7
  rw [hH7] at G l1 l2 l3 l4
  refine for_list (K := K) (a := l) (xs := [.ref x1, .ref x2, .ref x3]) (fun j σ H8 => ∃ z7 z8 : Option V, σ = [v0, v1, v2, v3, some (.ref p1), some (.ref p3), some (.str (D4 a b c e).shown), z7, z8] ∧ Same H7 H8) ⟨_, _, rfl, Same.refl _⟩
    (fun j σ H8 _ z => by obtain ⟨_, _, _, s8⟩ := z; exact SqL.of (s8 _ _ l4)) ?_ ?_
  · rintro j y σ H8 hj ⟨z7, z8, rfl, s8⟩
    have T8 := T6.same (G.trans s8)
    obtain ⟨xx, o1, o2, a1, b1, c1, e1, rfl, hxx, TT⟩ : ∃ (xx o1 o2 : Addr) (a1 b1 c1 e1 : Int), y = .ref xx ∧ H8 xx = some (.tup [.ref o1, .ref o2]) ∧ Duo K H8 o1 o2 a1 b1 c1 e1 := by
      match j, hj with
      | 0, hj => exact ⟨x1, p1, p3, a, b, c, e, (Option.some.inj hj).symm, s8 _ _ l1, T8⟩
      | 1, hj => exact ⟨x2, p3, p1, c, e, a, b, (Option.some.inj hj).symm, s8 _ _ l2, T8.swap⟩
      | 2, hj => exact ⟨x3, p1, p3, a, b, c, e, (Option.some.inj hj).symm, s8 _ _ l3, T8⟩
    refine ⟨xx, _, rfl, SqT.of hxx, rfl, _, _, rfl, _, _, rfl, rfl, ?_⟩
    refine ⟨_, rfl, _, rfl, o1, o2, a1, b1, c1, e1, rfl, TT, fun H9 s9 => ?_⟩
    refine ⟨_, rfl, iteF ?_⟩
    refine ⟨_, rfl, _, rfl, by show 2 ≤ sizeLine; decide, fun v nv => ?_⟩
    have g9 := same_new (o := HO.tup [.ref p1, .ref p3]) nv
    refine ⟨v, _, rfl, dp (T8.same (s9.trans g9)) upd_same, sh, _, rfl, rfl, _, rfl, ?_⟩
    rw [decide_eq_true rfl]
    exact iteF ⟨_, _, rfl, s8.trans (s9.trans g9)⟩
  · rintro σ H8 ⟨z7, z8, rfl, s8⟩
    exact hn _ _ _ _ (G.trans s8)
def spLaw (K : PySem.W.Frag) : Sp := fun vs H Q _ => ∃ (a : Addr) (ns : List Int), vs = [.ref a] ∧ SqL K H a (ns.map V.int) ∧ ∀ H', Q (.bl true) H'
theorem ok_law {f fE fD fQ fL fR : Addr} {fd fdE fdD fdQ fdL fdR : FuncData} (F : Fun K "law" "law" s_law f fd)
    (FE : Fun K "_law_feed" "_law_feed" s_feed fE fdE) (bE : Binds K fdE ["_law_script"] []) (gE : mg "_law_feed" = some (.ref fE)) (GE : FnOk P w K mg base CX0 1 fE fdE ["_law_script"] (spFeed K))
    (FD : Fun K "_law_draw" "_law_draw" s_draw fD fdD) (bD : Binds K fdD ["_law_feed_here", "_law_many"] []) (gD : mg "_law_draw" = some (.ref fD)) (GD : FnOk P w K mg base CX0 1 fD fdD ["_law_feed_here", "_law_many"] spDraw)
    (FQ : Fun K "_law_pair" "_law_pair" s_pair fQ fdQ) (bQ : Binds K fdQ ["_law_feed_here"] []) (gQ : mg "_law_pair" = some (.ref fQ)) (GQ : FnOk P w K mg base CX0 2 fQ fdQ ["_law_feed_here"] spPair)
    (FL : Fun K "_law_low" "_law_low" s_low fL fdL) (bL : Binds K fdL ["_law_top", "_law_bottom"] []) (gL : mg "_law_low" = some (.ref fL)) (GL : FnOk P w K mg base CX0 1 fL fdL ["_law_top", "_law_bottom"] spLow)
    (FR : Fun K "_law_right" "_law_right" s_right fR fdR) (bR : Binds K fdR ["_law_one", "_law_other"] []) (gR : mg "_law_right" = some (.ref fR)) (GR : FnG P w K mg base CX0 7 fR fdR ["_law_one", "_law_other"] (spRight K))
    (mR : mg "repr" = none) (mr : mg "range" = none) : FnG P w K mg base CX0 8 f fd ["_law_script"] (spLaw K) := by
  refine okG F sc_law (fun vs H Q E h => ?_) (fun cdv A outer s H vs Q E hq hr h => ?_)
  · obtain ⟨_, _, rfl, _⟩ := h
    rfl
  · obtain ⟨a0, ns, rfl, hS, q⟩ := h
    have hr1 := hr.mono (show 1 ≤ 7 by decide)
    have hr2 := hr.mono (show 2 ≤ 7 by decide)
    refine ⟨_, (pss_cons (ps_set (i := 1) sc_law.nd rfl (.inl rfl) (pe_call GE hr1 (by rfl) gE FE.kp bE .nil pass0 (pa_cons (pv 0) pa_nil))) (pss_cons (ps_for PassesOwn.never rfl (pi_range1 (by rfl) mr (pa_cons pe_int pa_nil)) (pg_name (i := 2) sc_law.nd rfl (.inl rfl))
          (pss_cons (ps_set (i := 3) sc_law.nd rfl (.inl rfl) (pe_call GD (hr.mono (by decide)) (by rfl) gD FD.kp bD .nil pass0 (pa_cons (pv 1) (pa_cons pe_int pa_nil)))) (pss_cons (ps_par (i := 4) (j := 5) rfl sc_law.nd rfl rfl (by decide) rfl rfl (pa_cons (pe_call GQ hr2 (by rfl) gQ FQ.kp bQ .nil pass0 (pa_cons (pv 1) pa_nil)) (pa_cons (pe_call GQ hr2 (by rfl) gQ FQ.kp bQ .nil pass0 (pa_cons (pv 1) pa_nil)) pa_nil)) (by rfl)) (pss_cons (ps_if (pt_cmpR op_eq (pv 3) pe_int (nomark _)) (pss_one (ps_set (i := 5) sc_law.nd rfl (.inl rfl) (pv 4)))
              (pss_one (ps_if (pt_cmpR op_eq (pv 3) pe_int (nomark _)) (pss_one (ps_set (i := 5) sc_law.nd rfl (.inl rfl) (pe_tup (pa_cons (pe_op op_sub pe_int (pe_ix ix_tup (pv 4) pe_int (fun _ _ => rfl))) (pa_cons (pe_ix ix_tup (pv 4) pe_int (fun _ _ => rfl)) pa_nil)))))
                (pss_one (ps_if (pt_cmpR op_eq (pv 3) pe_int (nomark _)) (pss_one (ps_set (i := 5) sc_law.nd rfl (.inl rfl) (pe_tup (pa_cons pe_int (pa_cons pe_int pa_nil)))))
                  (pss_one (ps_if (pt_cmpR op_eq (pv 3) pe_int (nomark _)) (pss_one (ps_set (i := 5) sc_law.nd rfl (.inl rfl) (pe_call GL hr1 (by rfl) gL FL.kp bL .nil pass0 (pa_cons (pe_op op_add (pe_ix ix_tup (pv 4) pe_int (fun _ _ => rfl)) pe_int) (pa_cons (pe_ix ix_tup (pv 4) pe_int (fun _ _ => rfl)) pa_nil))))) pss_nil))))))) (pss_cons (ps_set (i := 6) sc_law.nd rfl (.inl rfl) (pe_callB (call_reprD hq hr) (by rfl) mR (by decide +kernel) (pa_cons (pe_tup (pa_cons (pv 4) (pa_cons (pv 5) pa_nil))) pa_nil))) (pss_one (ps_for PassesOwn.never rfl (pi_list (pe_lst (pa_cons (pe_tup (pa_cons (pv 4) (pa_cons (pv 5) pa_nil))) (pa_cons (pe_tup (pa_cons (pv 5) (pa_cons (pv 4) pa_nil))) (pa_cons (pe_tup (pa_cons (pv 4) (pa_cons (pv 5) pa_nil))) pa_nil)))))
              (pg_tup rfl (pgs_cons (pg_name (i := 7) sc_law.nd rfl (.inl rfl)) (pgs_cons (pg_name (i := 8) sc_law.nd rfl (.inl rfl)) pgs_nil)))
              (pss_one (ps_if (PW.pt (pw_or (pt_not (pt_val (pe_callG GR hq hr (by rfl) gR FR.kp bR pass0 (pa_cons (pv 7) (pa_cons (pv 8) pa_nil))))) (pw_or1 (pt_cmpR op_ne (pe_callB (call_reprD hq hr) (by rfl) mR (by decide +kernel) (pa_cons (pe_tup (pa_cons (pv 4) (pa_cons (pv 5) pa_nil))) pa_nil)) (pv 6) (nomark _))))) (pss_one (ps_ret pe_bl)) pss_nil))))))))) (pss_one (ps_ret pe_bl)))), ?_⟩
    refine ⟨_, rfl, a0, ns, rfl, hS, fun d H1 s1 f1 => ?_⟩
    refine ⟨2, rfl, by decide, by decide, for_range (lo := 0) (n := 2) (fun i σ H2 => ∃ (t : Int) (y2 y3 y4 y5 y6 y7 y8 : Option V), σ = [some (.ref a0), some (.ref d), y2, y3, y4, y5, y6, y7, y8] ∧ Feed H2 d t ∧ t ≤ 20 * (i : Int)) ?_ ?_ ?_⟩
    · exact ⟨0, _, _, _, _, _, _, _, rfl, f1, by decide⟩
    · rintro i σ H2 hi ⟨t, y2, y3, y4, y5, y6, y7, y8, rfl, f2, ht⟩
      -- way, one, other
      refine ⟨_, rfl, d, 6, t, rfl, f2, by omega, by decide, by decide, fun way H3 hw0 hw1 k3 f3 => ?_⟩
      refine ⟨_, rfl, d, t + 1, rfl, f3, by omega, fun p1 a b t4 H4 k4 f4 ht4 e4 pb sa sb => ?_⟩
      refine ⟨_, rfl, d, t4, rfl, f4, by omega, fun p2 c e t5 H5 k5 f5 ht5 e5 pe sc se => ?_⟩
      have u5 : SqT K H5 p1 [.int a, .int b] := SqT.of (keep_at f4 k5 e4 (fun _ z => nomatch z))
      refine ⟨_, _, rfl, ?_⟩
      -- behind the choice
      have fin : ∀ (p3 : Addr) (H6 : Hp), Feed H6 d t5 → ∀ z6 z7 z8 H8, Same H6 H8 →
          ∃ (t : Int) (y2 y3 y4 y5 y6 y7 y8 : Option V), [some (V.ref a0), some (V.ref d), some (V.int (0 + (i : Int))), some (V.int way), some (V.ref p1), some (V.ref p3), z6, z7, z8] = [some (.ref a0), some (.ref d), y2, y3, y4, y5, y6, y7, y8] ∧ Feed H8 d t ∧ t ≤ 20 * ((i + 1 : Nat) : Int) :=
        fun p3 H6 f6 z6 z7 z8 H8 s8 => ⟨t5, _, _, _, _, _, _, _, rfl, f6.same s8, by omega⟩
      have T5 : Duo K H5 p1 p2 a b c e := ⟨u5, SqT.of e5, sa.mono (by decide), sb.mono (by decide), sc.mono (by decide), se.mono (by decide), pb, pe⟩
      refine ⟨_, rfl, rfl, _, rfl, ite2 (fun c0 => ?_) (fun c0 => ?_)⟩
      · exact ⟨_, rfl, tail_ok ⟨u5, u5, T5.sa, T5.sb, T5.sa, T5.sb, pb, pb⟩ (fin _ _ f5)⟩
      refine ⟨_, rfl, rfl, _, rfl, ite2 (fun c1 => ?_) (fun c1 => ?_)⟩
      · refine ⟨_, rfl, p1, _, 0, _, rfl, rfl, u5, atI_nat (j := 0) rfl, 0, a, rfl, rfl, _, rfl, p1, _, 1, _, rfl, rfl, u5, atI_nat (j := 1) rfl, by show 2 ≤ sizeLine; decide, fun v nv => ?_⟩
        refine tail_ok (c := 0 - a) (e := b) ⟨sqT_same (same_new nv) u5, SqT.of upd_same, T5.sa, T5.sb, ?_, T5.sb, pb, pb⟩ (fin _ _ (f5.new nv))
        have := T5.sa
        unfold Sm at this ⊢
        omega
      refine ⟨_, rfl, rfl, _, rfl, ite2 (fun c2 => ?_) (fun c2 => ?_)⟩
      · refine ⟨by show 2 ≤ sizeLine; decide, fun v nv => ?_⟩
        exact tail_ok (c := 0) (e := 1) ⟨sqT_same (same_new nv) u5, SqT.of upd_same, T5.sa, T5.sb, by unfold Sm; decide, by unfold Sm; decide, pb, by decide⟩ (fin _ _ (f5.new nv))
      refine ⟨_, rfl, rfl, _, rfl, ite2 (fun c3 => ?_) (fun c3 => ?_)⟩
      · refine ⟨_, rfl, p1, _, 0, _, rfl, rfl, u5, atI_nat (j := 0) rfl, a, 1, rfl, rfl, _, rfl, p1, _, 1, _, rfl, rfl, u5, atI_nat (j := 1) rfl, ?_⟩
        refine ⟨_, _, rfl, pb, sb.mono (by decide), fun v nv => ?_⟩
        have sa1 : Sm 120 (a + 1) := (sa.add (b := 1) (by unfold Sm; decide)).mono (by decide)
        exact tail_ok ⟨sqT_same (same_new nv) u5, SqT.of upd_same, T5.sa, T5.sb, ratT_sm pb sa1, ratB_sm pb T5.sb, pb, ratB_pos pb⟩ (fin _ _ (f5.new nv))
      · exact tail_ok T5 (fin _ _ f5)
    · rintro σ H2 ⟨t, y2, y3, y4, y5, y6, y7, y8, rfl, f2, ht⟩
      exact q _
end
end Fp

set_option Elab.async false
set_option linter.all false
set_option maxRecDepth 100000
set_option maxHeartbeats 4000000
namespace Fp
open PySem PySem.Spec PyProof.Rows L2
theorem all_mk {l : PySem.W.OpenLaw} {w : World} {K : PySem.W.Frag} {h : Heap} {mg : Str → Option Value} {fa fC fR fP fM fT fO fB fE fD fL fQ fV fX fZ CF CN iF iN : Addr} (X : K.In h) (G : h.Ns mainGlobals mg) (hfa : mg "law" = some (.ref fa))
    {nm q : Str} {NN : Addr} {bs : List Value} {sn : List Str} {sub : List Value} {ab : Bool} {col : Option Bool} {dd : Option Addr} {m0 m1 m2 m3 m5 : Option Value}
    {odC anC : Option Addr} {slC : Array (Option Value)} {ocC kVC dcC pmC cdC ctC : Value}
    {odR anR : Option Addr} {slR : Array (Option Value)} {ocR kVR dcR pmR cdR ctR : Value}
    {odP anP : Option Addr} {slP : Array (Option Value)} {ocP kVP dcP pmP cdP ctP : Value}
    {odM anM : Option Addr} {slM : Array (Option Value)} {ocM kVM dcM pmM cdM ctM : Value}
    {odT anT : Option Addr} {slT : Array (Option Value)} {ocT kVT dcT pmT cdT ctT : Value}
    {odO anO : Option Addr} {slO : Array (Option Value)} {ocO kVO dcO pmO cdO ctO : Value}
    {odB anB : Option Addr} {slB : Array (Option Value)} {ocB kVB dcB pmB cdB ctB : Value}
    {odE anE : Option Addr} {slE : Array (Option Value)} {ocE kVE dcE pmE cdE ctE : Value}
    {odD anD : Option Addr} {slD : Array (Option Value)} {ocD kVD dcD pmD cdD ctD : Value}
    {odL anL : Option Addr} {slL : Array (Option Value)} {ocL kVL dcL pmL cdL ctL : Value}
    {odQ anQ : Option Addr} {slQ : Array (Option Value)} {ocQ kVQ dcQ pmQ cdQ ctQ : Value}
    {odV anV : Option Addr} {slV : Array (Option Value)} {ocV kVV dcV pmV cdV ctV : Value}
    {odX anX : Option Addr} {slX : Array (Option Value)} {ocX kVX dcX pmX cdX ctX : Value}
    {odZ anZ : Option Addr} {slZ : Array (Option Value)} {ocZ kVZ dcZ pmZ cdZ ctZ : Value}
    {od1 an1 : Option Addr} {sl1 : Array (Option Value)} {oc1 kV1 dc1 pm1 cd1 ct1 : Value}
    {od2 an2 : Option Addr} {sl2 : Array (Option Value)} {oc2 kV2 dc2 pm2 cd2 ct2 : Value}
    (aC : PySem.W.nsIn K mainGlobals "common_divisor" = some (some (.ref fC))) (lC : K.lookup fC = some ⟨ocC, odC, .func (PySem.W.fnOf "common_divisor" "common_divisor" (defArgs s_cd) (defBody s_cd) (defScope s_cd) .none kVC dcC pmC anC cdC ctC), slC⟩) (cC : PySem.W.codeIn K cdC "common_divisor" = true) (kC : PySem.W.keepIn K (.ref fC) = true)
    (aR : PySem.W.nsIn K mainGlobals "ratio" = some (some (.ref fR))) (lR : K.lookup fR = some ⟨ocR, odR, .func (PySem.W.fnOf "ratio" "ratio" (defArgs s_ratio) (defBody s_ratio) (defScope s_ratio) .none kVR dcR pmR anR cdR ctR), slR⟩) (cR : PySem.W.codeIn K cdR "ratio" = true) (kR : PySem.W.keepIn K (.ref fR) = true)
    (aP : PySem.W.nsIn K mainGlobals "plus" = some (some (.ref fP))) (lP : K.lookup fP = some ⟨ocP, odP, .func (PySem.W.fnOf "plus" "plus" (defArgs s_plus) (defBody s_plus) (defScope s_plus) .none kVP dcP pmP anP cdP ctP), slP⟩) (cP : PySem.W.codeIn K cdP "plus" = true) (kP : PySem.W.keepIn K (.ref fP) = true)
    (aM : PySem.W.nsIn K mainGlobals "minus" = some (some (.ref fM))) (lM : K.lookup fM = some ⟨ocM, odM, .func (PySem.W.fnOf "minus" "minus" (defArgs s_minus) (defBody s_minus) (defScope s_minus) .none kVM dcM pmM anM cdM ctM), slM⟩) (cM : PySem.W.codeIn K cdM "minus" = true) (kM : PySem.W.keepIn K (.ref fM) = true)
    (aT : PySem.W.nsIn K mainGlobals "times" = some (some (.ref fT))) (lT : K.lookup fT = some ⟨ocT, odT, .func (PySem.W.fnOf "times" "times" (defArgs s_times) (defBody s_times) (defScope s_times) .none kVT dcT pmT anT cdT ctT), slT⟩) (cT : PySem.W.codeIn K cdT "times" = true) (kT : PySem.W.keepIn K (.ref fT) = true)
    (aO : PySem.W.nsIn K mainGlobals "over" = some (some (.ref fO))) (lO : K.lookup fO = some ⟨ocO, odO, .func (PySem.W.fnOf "over" "over" (defArgs s_over) (defBody s_over) (defScope s_over) .none kVO dcO pmO anO cdO ctO), slO⟩) (cO : PySem.W.codeIn K cdO "over" = true) (kO : PySem.W.keepIn K (.ref fO) = true)
    (aB : PySem.W.nsIn K mainGlobals "is_below" = some (some (.ref fB))) (lB : K.lookup fB = some ⟨ocB, odB, .func (PySem.W.fnOf "is_below" "is_below" (defArgs s_below) (defBody s_below) (defScope s_below) .none kVB dcB pmB anB cdB ctB), slB⟩) (cB : PySem.W.codeIn K cdB "is_below" = true) (kB : PySem.W.keepIn K (.ref fB) = true)
    (aE : PySem.W.nsIn K mainGlobals "_law_feed" = some (some (.ref fE))) (lE : K.lookup fE = some ⟨ocE, odE, .func (PySem.W.fnOf "_law_feed" "_law_feed" (defArgs s_feed) (defBody s_feed) (defScope s_feed) .none kVE dcE pmE anE cdE ctE), slE⟩) (cE : PySem.W.codeIn K cdE "_law_feed" = true) (kE : PySem.W.keepIn K (.ref fE) = true)
    (aD : PySem.W.nsIn K mainGlobals "_law_draw" = some (some (.ref fD))) (lD : K.lookup fD = some ⟨ocD, odD, .func (PySem.W.fnOf "_law_draw" "_law_draw" (defArgs s_draw) (defBody s_draw) (defScope s_draw) .none kVD dcD pmD anD cdD ctD), slD⟩) (cD : PySem.W.codeIn K cdD "_law_draw" = true) (kD : PySem.W.keepIn K (.ref fD) = true)
    (aL : PySem.W.nsIn K mainGlobals "_law_low" = some (some (.ref fL))) (lL : K.lookup fL = some ⟨ocL, odL, .func (PySem.W.fnOf "_law_low" "_law_low" (defArgs s_low) (defBody s_low) (defScope s_low) .none kVL dcL pmL anL cdL ctL), slL⟩) (cL : PySem.W.codeIn K cdL "_law_low" = true) (kL : PySem.W.keepIn K (.ref fL) = true)
    (aQ : PySem.W.nsIn K mainGlobals "_law_pair" = some (some (.ref fQ))) (lQ : K.lookup fQ = some ⟨ocQ, odQ, .func (PySem.W.fnOf "_law_pair" "_law_pair" (defArgs s_pair) (defBody s_pair) (defScope s_pair) .none kVQ dcQ pmQ anQ cdQ ctQ), slQ⟩) (cQ : PySem.W.codeIn K cdQ "_law_pair" = true) (kQ : PySem.W.keepIn K (.ref fQ) = true)
    (aV : PySem.W.nsIn K mainGlobals "_law_over" = some (some (.ref fV))) (lV : K.lookup fV = some ⟨ocV, odV, .func (PySem.W.fnOf "_law_over" "_law_over" (defArgs s_lover) (defBody s_lover) (defScope s_lover) .none kVV dcV pmV anV cdV ctV), slV⟩) (cV : PySem.W.codeIn K cdV "_law_over" = true) (kV : PySem.W.keepIn K (.ref fV) = true)
    (aX : PySem.W.nsIn K mainGlobals "_law_right" = some (some (.ref fX))) (lX : K.lookup fX = some ⟨ocX, odX, .func (PySem.W.fnOf "_law_right" "_law_right" (defArgs s_right) (defBody s_right) (defScope s_right) .none kVX dcX pmX anX cdX ctX), slX⟩) (cX : PySem.W.codeIn K cdX "_law_right" = true) (kX : PySem.W.keepIn K (.ref fX) = true)
    (aZ : PySem.W.nsIn K mainGlobals "law" = some (some (.ref fZ))) (lZ : K.lookup fZ = some ⟨ocZ, odZ, .func (PySem.W.fnOf "law" "law" (defArgs s_law) (defBody s_law) (defScope s_law) .none kVZ dcZ pmZ anZ cdZ ctZ), slZ⟩) (cZ : PySem.W.codeIn K cdZ "law" = true) (kZ : PySem.W.keepIn K (.ref fZ) = true)
    (g1 : PySem.W.nsIn K mainGlobals "FreshError" = some (some (.ref CF))) (i1 : PySem.W.findIn K (.ref CF) "__init__" = some (some (.ref iF))) (l1 : K.lookup iF = some ⟨oc1, od1, .func (PySem.W.fnOf "__init__" "FreshError.__init__" (defArgs s_fini) (defBody s_fini) (defScope s_fini) .none kV1 dc1 pm1 an1 cd1 ct1), sl1⟩) (c1 : PySem.W.codeIn K cd1 "FreshError.__init__" = true) (k1 : PySem.W.keepIn K (.ref iF) = true)
    (g2 : PySem.W.nsIn K mainGlobals "NoRatio" = some (some (.ref CN))) (i2 : PySem.W.findIn K (.ref CN) "__init__" = some (some (.ref iN))) (l2 : K.lookup iN = some ⟨oc2, od2, .func (PySem.W.fnOf "__init__" "NoRatio.__init__" (defArgs s_nini) (defBody s_nini) (defScope s_nini) .none kV2 dc2 pm2 an2 cd2 ct2), sl2⟩) (c2 : PySem.W.codeIn K cd2 "NoRatio.__init__" = true) (k2 : PySem.W.keepIn K (.ref iN) = true)
    (t2 : PySem.W.typeIn K (.ref iN) = some (.type "function")) (xN : K.lookup CN = some (excClassObj nm q CN NN bs [.ref CF, .type "ValueError", .type "Exception", .type "BaseException", .type "object"] true sn sub ab col dd m0 m1 m2 m3 m5 "ValueError.__new__"))
    (saN : PySem.W.findIn K (.ref CN) "__setattr__" = some (some (.builtin "object.__setattr__"))) (exN : PySem.W.subIn K (.ref CN) (.type "BaseException") = some true) (tyN : PySem.W.typeIn K (.ref CN) = some (.type "type")) (kpN : PySem.W.keepIn K (.ref CN) = true)
    (isN : PySem.W.isClsIn K CN = true) (suN : PySem.W.subIn K (.ref CN) (.ref CN) = some true)
    (rdF : PySem.W.readsIn K CF (.type "type") = true) (fcF : PySem.W.findCls K (.ref CF) (.type "type") "__init__" = some (.val (.ref iF))) (spF : PySem.W.specialIn K (.ref CF) "__getattribute__" = some (some (.builtin "type.__getattribute__")))
    (vV : PySem.W.findCls K (.type "ValueError") (.type "type") "__init__" = some (.val (.builtin "ValueError.__init__")))
    (z_abs : PySem.W.nsIn K mainGlobals "abs" = some none)
    (z_len : PySem.W.nsIn K mainGlobals "len" = some none)
    (z_list : PySem.W.nsIn K mainGlobals "list" = some none)
    (z_repr : PySem.W.nsIn K mainGlobals "repr" = some none)
    (z_int : PySem.W.nsIn K mainGlobals "int" = some none)
    (z_range : PySem.W.nsIn K mainGlobals "range" = some none)
    (z_ValueError : PySem.W.nsIn K mainGlobals "ValueError" = some none)
    : ∃ fd : FuncData, (∀ (s : Shared) (v : Value), BindsTo s fd ⟨[v], []⟩ [("_law_script", v)]) ∧ ∀ base : Heap, K.In base → base.Ns mainGlobals mg → FnG l.prog w K mg base CX0 8 fa fd ["_law_script"] (spLaw K) := by
  have e := hfa.symm.trans (PySem.W.mg_of X G aZ)
  cases e
  have FC := fun_mk (st := s_cd) lC cC kC
  have bC := FC.binds (ps := ["one", "other"]) fun _ _ _ _ _ _ us hl => match us, hl with | [_, _], _ => rfl
  have gC := PySem.W.mg_of X G aC
  have FR := fun_mk (st := s_ratio) lR cR kR
  have bR := FR.binds (ps := ["top", "bottom"]) fun _ _ _ _ _ _ us hl => match us, hl with | [_, _], _ => rfl
  have gR := PySem.W.mg_of X G aR
  have FP := fun_mk (st := s_plus) lP cP kP
  have bP := FP.binds (ps := ["one", "other"]) fun _ _ _ _ _ _ us hl => match us, hl with | [_, _], _ => rfl
  have gP := PySem.W.mg_of X G aP
  have FM := fun_mk (st := s_minus) lM cM kM
  have bM := FM.binds (ps := ["one", "other"]) fun _ _ _ _ _ _ us hl => match us, hl with | [_, _], _ => rfl
  have gM := PySem.W.mg_of X G aM
  have FT := fun_mk (st := s_times) lT cT kT
  have bT := FT.binds (ps := ["one", "other"]) fun _ _ _ _ _ _ us hl => match us, hl with | [_, _], _ => rfl
  have gT := PySem.W.mg_of X G aT
  have FO := fun_mk (st := s_over) lO cO kO
  have bO := FO.binds (ps := ["one", "other"]) fun _ _ _ _ _ _ us hl => match us, hl with | [_, _], _ => rfl
  have gO := PySem.W.mg_of X G aO
  have FB := fun_mk (st := s_below) lB cB kB
  have bB := FB.binds (ps := ["one", "other"]) fun _ _ _ _ _ _ us hl => match us, hl with | [_, _], _ => rfl
  have gB := PySem.W.mg_of X G aB
  have FE := fun_mk (st := s_feed) lE cE kE
  have bE := FE.binds (ps := ["_law_script"]) fun _ _ _ _ _ _ us hl => match us, hl with | [_], _ => rfl
  have gE := PySem.W.mg_of X G aE
  have FD := fun_mk (st := s_draw) lD cD kD
  have bD := FD.binds (ps := ["_law_feed_here", "_law_many"]) fun _ _ _ _ _ _ us hl => match us, hl with | [_, _], _ => rfl
  have gD := PySem.W.mg_of X G aD
  have FL := fun_mk (st := s_low) lL cL kL
  have bL := FL.binds (ps := ["_law_top", "_law_bottom"]) fun _ _ _ _ _ _ us hl => match us, hl with | [_, _], _ => rfl
  have gL := PySem.W.mg_of X G aL
  have FQ := fun_mk (st := s_pair) lQ cQ kQ
  have bQ := FQ.binds (ps := ["_law_feed_here"]) fun _ _ _ _ _ _ us hl => match us, hl with | [_], _ => rfl
  have gQ := PySem.W.mg_of X G aQ
  have FV := fun_mk (st := s_lover) lV cV kV
  have bV := FV.binds (ps := ["_law_one", "_law_other"]) fun _ _ _ _ _ _ us hl => match us, hl with | [_, _], _ => rfl
  have gV := PySem.W.mg_of X G aV
  have FX := fun_mk (st := s_right) lX cX kX
  have bX := FX.binds (ps := ["_law_one", "_law_other"]) fun _ _ _ _ _ _ us hl => match us, hl with | [_, _], _ => rfl
  have gX := PySem.W.mg_of X G aX
  have FZ := fun_mk (st := s_law) lZ cZ kZ
  have bZ := FZ.binds (ps := ["_law_script"]) fun _ _ _ _ _ _ us hl => match us, hl with | [_], _ => rfl
  have gZ := PySem.W.mg_of X G aZ
  have F1 := fun_mk (st := s_fini) l1 c1 k1
  have F2 := fun_mk (st := s_nini) l2 c2 k2
  have b1 := F1.binds (ps := ["self", "text"]) fun _ _ _ _ _ _ us hl => match us, hl with | [_, _], _ => rfl
  have b2 := F2.binds (ps := ["self"]) fun _ _ _ _ _ _ us hl => match us, hl with | [_], _ => rfl
  have n_abs := PySem.W.mg_none_of X G z_abs
  have n_len := PySem.W.mg_none_of X G z_len
  have n_list := PySem.W.mg_none_of X G z_list
  have n_repr := PySem.W.mg_none_of X G z_repr
  have n_int := PySem.W.mg_none_of X G z_int
  have n_range := PySem.W.mg_none_of X G z_range
  have n_ValueError := PySem.W.mg_none_of X G z_ValueError
  have oN : OexC K CN := ⟨⟨nm, q, NN, bs, _, sn, sub, ab, col, dd, m0, m1, m2, m3, m5, xN, rfl⟩, saN, exN, tyN, kpN⟩
  have T : Err K mg CF CN iF iN _ _ := ⟨PySem.W.mg_of X G g1, PySem.W.mg_of X G g2, oN, i2, t2, ⟨rdF, fcF, rfl, spF, k1⟩, F1, F2, b1, b2, n_ValueError, vV⟩
  have eN := exm_own exN isN tyN suN
  refine ⟨PySem.W.fnOf "law" "law" (defArgs s_law) (defBody s_law) (defScope s_law) .none kVZ dcZ pmZ anZ cdZ ctZ, fun s v => .of_eq rfl, fun base _ _ => ?_⟩
  have GR := ok_ratio (P := l.prog) (w := w) (base := base) FR T FC bC gC n_abs
  have GL : FnOk l.prog w K mg base CX0 1 fL _ ["_law_top", "_law_bottom"] spLow := ok_low FL n_abs
  have GD : FnOk l.prog w K mg base CX0 1 fD _ ["_law_feed_here", "_law_many"] spDraw := ok_draw FD n_len
  have GE : FnOk l.prog w K mg base CX0 1 fE _ ["_law_script"] (spFeed K) := ok_feed FE n_list
  have GB : FnOk l.prog w K mg base CX0 1 fB _ ["one", "other"] (spBelow K) := ok_below FB
  have GO := ok_over FO FR bR gR GR
  have GV := ok_lover FV FO bO gO T.gN eN GO
  have GQ := ok_pair (P := l.prog) (w := w) (base := base) FQ FD bD gD FL bL gL n_len n_abs
  have GX := ok_right FX FL bL gL GL FP bP gP (ok_plus FP FR bR gR GR) FM bM gM (ok_minus FM FR bR gR GR) FT bT gT (ok_times FT FR bR gR GR) FB bB gB GB FV bV gV GV n_repr n_int n_abs
  exact ok_law FZ FE bE gE GE FD bD gD GD FQ bQ gQ GQ FL bL gL GL FX bX gX GX n_repr n_range
end Fp
open PySem PySem.W PyProof.Rows
set_option maxHeartbeats 0 in
theorem PySem.Challenge.cw_freshparts_k02_ratios_reckoned_holds : PySem.Challenge.rw_freshparts_k02_ratios_reckoned.Holds := by
  w_on; o_law; k_head; (case hw => w_witness2)
  k_fill
  refine Fp.walkG (l := PySem.Challenge.rw_freshparts_k02_ratios_reckoned) (n := 63) (lv := 8) (x := "_law_script") (sp := fun w => Fp.spLaw _) rfl (by decide) rfl ⟨rfl, by decide, by decide⟩ (fun w h Y => PySem.W.kIn_of Y) ?F (fun _ _ a ns hl _ hS => ⟨a, ns, rfl, hS, fun _ => rfl⟩)
  case F =>
    intro w mg fa h KX G hmg
    refine' Fp.all_mk KX G hmg ?aC ?lC ?cC ?kC ?aR ?lR ?cR ?kR ?aP ?lP ?cP ?kP ?aM ?lM ?cM ?kM ?aT ?lT ?cT ?kT ?aO ?lO ?cO ?kO ?aB ?lB ?cB ?kB ?aE ?lE ?cE ?kE ?aD ?lD ?cD ?kD ?aL ?lL ?cL ?kL ?aQ ?lQ ?cQ ?kQ ?aV ?lV ?cV ?kV ?aX ?lX ?cX ?kX ?aZ ?lZ ?cZ ?kZ ?g1 ?i1 ?l1 ?c1 ?k1 ?g2 ?i2 ?l2 ?c2 ?k2 ?t2 ?xN ?saN ?exN ?tyN ?kpN ?isN ?suN ?rdF ?fcF ?spF ?vV ?z_abs ?z_len ?z_list ?z_repr ?z_int ?z_range ?z_ValueError
    (case aC => first | k_is | rfl); (case lC => first | k_is | rfl); (case cC => first | k_is | rfl); (case kC => first | k_is | rfl); (case aR => first | k_is | rfl); (case lR => first | k_is | rfl)
    (case cR => first | k_is | rfl); (case kR => first | k_is | rfl); (case aP => first | k_is | rfl); (case lP => first | k_is | rfl); (case cP => first | k_is | rfl); (case kP => first | k_is | rfl)
    (case aM => first | k_is | rfl); (case lM => first | k_is | rfl); (case cM => first | k_is | rfl); (case kM => first | k_is | rfl); (case aT => first | k_is | rfl); (case lT => first | k_is | rfl)
    (case cT => first | k_is | rfl); (case kT => first | k_is | rfl); (case aO => first | k_is | rfl); (case lO => first | k_is | rfl); (case cO => first | k_is | rfl); (case kO => first | k_is | rfl)
    (case aB => first | k_is | rfl); (case lB => first | k_is | rfl); (case cB => first | k_is | rfl); (case kB => first | k_is | rfl); (case aE => first | k_is | rfl); (case lE => first | k_is | rfl)
    (case cE => first | k_is | rfl); (case kE => first | k_is | rfl); (case aD => first | k_is | rfl); (case lD => first | k_is | rfl); (case cD => first | k_is | rfl); (case kD => first | k_is | rfl)
    (case aL => first | k_is | rfl); (case lL => first | k_is | rfl); (case cL => first | k_is | rfl); (case kL => first | k_is | rfl); (case aQ => first | k_is | rfl); (case lQ => first | k_is | rfl)
    (case cQ => first | k_is | rfl); (case kQ => first | k_is | rfl); (case aV => first | k_is | rfl); (case lV => first | k_is | rfl); (case cV => first | k_is | rfl); (case kV => first | k_is | rfl)
    (case aX => first | k_is | rfl); (case lX => first | k_is | rfl); (case cX => first | k_is | rfl); (case kX => first | k_is | rfl); (case aZ => first | k_is | rfl); (case lZ => first | k_is | rfl)
    (case cZ => first | k_is | rfl); (case kZ => first | k_is | rfl); (case g1 => first | k_is | rfl); (case i1 => first | k_is | rfl); (case l1 => first | k_is | rfl); (case c1 => first | k_is | rfl)
    (case k1 => first | k_is | rfl); (case g2 => first | k_is | rfl); (case i2 => first | k_is | rfl); (case l2 => first | k_is | rfl); (case c2 => first | k_is | rfl); (case k2 => first | k_is | rfl)
    (case t2 => first | k_is | rfl); (case xN => first | k_is | rfl); (case saN => first | k_is | rfl); (case exN => first | k_is | rfl); (case tyN => first | k_is | rfl); (case kpN => first | k_is | rfl)
    (case isN => first | k_is | rfl); (case suN => first | k_is | rfl); (case rdF => first | k_is | rfl); (case fcF => first | k_is | rfl); (case spF => first | k_is | rfl); (case vV => first | k_is | rfl)
    (case z_abs => first | k_is | rfl); (case z_len => first | k_is | rfl); (case z_list => first | k_is | rfl); (case z_repr => first | k_is | rfl); (case z_int => first | k_is | rfl); (case z_range => first | k_is | rfl)
    (case z_ValueError => first | k_is | rfl)
