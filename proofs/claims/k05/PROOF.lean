import PyProof.Rows.All
import Wide.All
import OpenK.AllK
import Wide.FinOn
import PyProof.ReprRoads
import PyProof.ReprLen
import HandS.Base
import HandS.Call
import HandS.List
import HandS.Ends
import HandS.Exc
import HandS.TryOnly
import HandS.ExcOwn
import HandS.ExcInit
import HandS.Dict
import HandS.Words
import HandS.WordsList
import HandS.WordsDict
import HandS.WordsExc
import HandS.Comp
import HandS.Iter
import HandS.Wide
import HandS.TupAny
import HandS.TupMul
import HandS.Conv
import PySem.Challenge.RW_freshparts_k05_short_lives
set_option Elab.async false
set_option linter.all false
set_option maxRecDepth 100000
set_option maxHeartbeats 4000000
namespace Fp
open PySem PySem.Spec PyProof.Rows L2

/-! ### promises of defs that show things: no repr runs around the call -/
structure FnG (P : Program) (w : World) (K : PySem.W.Frag) (mg : Str → Option Value) (base : Heap) (CX : CXT) (lv : Nat) (f : Addr) (fd : FuncData) (ps : List Str) (sp : Sp) : Prop where
  lens : ∀ vs H Q E, sp vs H Q E → vs.length = ps.length
  runs : ∀ (A : Around) (outer : List Env) (s : Shared) (H : Hp) (args : Args) (us : List Value) (vs : List V) (Q : VK) (E : XK), A.guards = some [] → Room lv A → Env0 P w K mg base A outer s H →
    BindsTo s fd args (ps.zip us) → Vals vs us → sp vs H Q E → codeAny (model P w) A (.call (.ref f) args) (CR CX outer P w H s Q E) s

section
variable {X : Cx} {CX : CXT} {lv : Nat} {f : Addr} {fd : FuncData} {ps : List Str} {sp : Sp} {E : XK} {x : Str} {p pos : Pos} {e : Expr} {es : List Expr} {t : TA}
theorem run_g {pins : List (Addr × Obj)} {σ : L2.St} {H : Hp} {s : Shared} {Q : VK} {us : List Value} {vs : List V} (G : FnG X.prog X.w X.K X.mg X.base CX lv f fd ps sp) (hq : X.A.guards = some []) (hr : Room lv X.A) (hb : Binds X.K fd ps [])
    (hx : Passes CX X E) (I : Inv X pins σ H s) (r : Vals vs us) (h : sp vs H Q E) : wpAny (model X.prog X.w) X.A (call (.ref f) us) (EP X pins σ Q) X.xe s := by
  have hl : us.length = ps.length := r.length.symm.trans (G.lens _ _ _ _ h)
  have b := hb s us I.kIn (by rw [List.append_nil]; exact hl)
  rw [List.append_nil] at b
  refine wpAny_call (codeAny_mono (G.runs X.A X.stack s H ⟨us, []⟩ us vs Q E hq hr I.env0 b r h) fun res s2 z => ?_)
  match res, z with
  | .error e, z => exact hx pins σ H s e s2 I z
  | .ok (.ret u), z => exact I.after z
  | .ok .next, z => exact False.elim z
  | .ok .brk, z => exact False.elim z
  | .ok .cont, z => exact False.elim z
def tCallG (sp : Sp) (E : XK) (t : TA) : TE := fun σ H Q => t σ H fun vs H1 => sp vs H1 Q E
theorem pe_callG (G : FnG X.prog X.w X.K X.mg X.base CX lv f fd ps sp) (hq : X.A.guards = some []) (hr : Room lv X.A) (hg : Gl X x) (hm : X.mg x = some (.ref f)) (hk : PySem.W.keepIn X.K (.ref f) = true) (hb : Binds X.K fd ps []) (hx : Passes CX X E)
    (ha : PA X (e :: es) t) (hdb : (x == ("__debug__" : Str)) = false := by decide) (he : starEach (e :: es) X.env = (false, eval e X.env) :: starEach es X.env := by rfl) (hpl : (backTo pos (starEach es X.env)).any (·.1) = false := by rfl) :
    PE X (.Call (.Name x p) (e :: es) [] pos) (tCallG sp E t) := by
  refine ⟨fun pins s σ H Q I h => wpAny_Call_Name_kw (ld_glob I hg hm ?_ hdb)⟩
  refine PySem.W.callWith_K (h₀ := X.base) I.ok.mod.kin hk (thn (ha.run pos pins s σ H _ I h) fun us s1 z => ?_) he hpl
  obtain ⟨vs, H1, I1, r, q⟩ := z
  exact ⟨I1.kIn, run_g G hq hr hb hx I1 r q⟩
end

section
variable {P : Program} {w : World} {K : PySem.W.Frag} {mg : Str → Option Value} {base : Heap}
theorem okG {x qual : Str} {st : Stmt} {f : Addr} {fd : FuncData} {N ps : List Str} {lv : Nat} {sp : Sp} (F : Fun K x qual st f fd) (S : FnScope N ps (defScope st)) (len : ∀ vs H Q E, sp vs H Q E → vs.length = ps.length)
    (hbody : ∀ (cdv : Value) (A : Around) (outer : List Env) (s : Shared) (H : Hp) (vs : List V) (Q : VK) (E : XK), (A.deeper (envOfC qual (defScope st) s.heap.objs.size f cdv)).guards = some [] → Room lv (A.deeper (envOfC qual (defScope st) s.heap.objs.size f cdv)) →
      sp vs H Q E → ∃ t, PSs (cxOf CX0 P w K mg base N qual (defScope st) f cdv A outer s H E).nox (defBody st) t ∧ t { nx := fun _ H' => Q .non H', rt := Q } (start N vs) H) : FnG P w K mg base CX0 (lv + 1) f fd ps sp := by
  obtain ⟨oc, od, kV, doc, pm, an, cdv, ct, osl, rfl, lk, hcd⟩ := F.ex
  refine ⟨len, fun A outer s H args us vs Q E hq hr e0 hb r hsp => ?_⟩
  have hl := len _ _ _ _ hsp
  have KX : K.In s.heap := e0.mod.kin.keeps fun b o z => (e0.bs b o z).1
  have lim : s.heap.NoLimit := e0.mod.nolimit.keeps fun b o z => (e0.bs b o z).1
  have kinds : ∀ y ∈ ps.zip us, (defScope st).names.lookup y.1 = some .local ∨ ((defScope st).names.lookup y.1 = some .cell ∧ ((cellsFrom (s.heap.objs.size + 1) (defScope st).names []).lookup y.1).isSome = true) := by
    rintro ⟨n, v⟩ hy
    exact (S.par n (List.of_mem_zip hy).1).imp id fun q => ⟨q, PySem.W.cellsFrom_some _ _ _ (.inl q)⟩
  refine codeAny_call_function hr.depth (KX _ _ lk) rfl S.co S.gen rfl (PySem.W.codeRec_of KX hcd) (hb _ _ _ _ ?_)
  refine wpAny_newFunctionEnv_cells S.kind kinds fun env he s1 z => ?_
  subst he
  refine ⟨lim.keeps z.toInCall.keep, codeAny_func ?_⟩
  obtain ⟨t, ht, hq2⟩ := hbody cdv A outer s H vs Q E hq (hr.deeper _) hsp
  have I : Inv (cxOf CX0 P w K mg base N qual (defScope st) f cdv A outer s H E) [] (start N vs) H s1 := inv_start S hr.hd e0 hl r z
  refine wpAny_mono (ht.nox.run [] s1 (start N vs) H _ I hq2) (fun fl s2 hs => ?_) fun _ _ hs => hs
  have fin : ∀ {σ' : L2.St} {H' : Hp} {v : V} {u : Value}, Inv (cxOf CX0 P w K mg base N qual (defScope st) f cdv A outer s H E) [] σ' H' s2 → RelV v u → Q v H' → CE outer P w H s Q u s2 :=
    fun {_ H' v _} J rv q => ⟨v, H', J.os, J.bare, J.base, J.hok, rv, q⟩
  match fl, hs with
  | .ret u, ⟨v, σ', H', J, rv, q⟩ => exact fin J rv q
  | .next, ⟨σ', H', J, q⟩ => exact fin (v := V.non) (u := Value.none) J rfl q
  | .brk, ⟨_, _, _, q⟩ => exact False.elim q
  | .cont, ⟨_, _, _, q⟩ => exact False.elim q
end

/-! ### the end of a law that shows things -/
theorem lawG {P : Program} {w : World} {K : PySem.W.Frag} {mg mb : Str → Option Value} {lv : Nat} {fa a : Addr} {fd : FuncData} {x : Str} {sp : Sp} {s1 : Shared} {vs : List Value} {ns : List Int}
    (KX : K.In s1.heap) (hns : s1.heap.Ns mainGlobals mg) (hb : s1.heap.Ns builtinsNs mb) (hbb : ∀ x : Str, x ≠ "__name__" → mb x = bootBuiltins x) (hlim : s1.heap.NoLimit) (hg : s1.gens = #[])
    (ha : s1.heap.get? a = some { cls := .type "list", data := .seq vs.toArray }) (hi : IntsAre vs ns) (hl : ns.length ≤ sizeLine) (hr : Room lv callerA)
    (G : ∀ base : Heap, K.In base → base.Ns mainGlobals mg → FnG P w K mg base CX0 lv fa fd [x] sp) (hbind : ∀ (s : Shared) (u : Value), BindsTo s fd ⟨[u], []⟩ [(x, u)])
    (hsp : ∀ H : Hp, Only H → SqL K H a (ns.map V.int) → sp [.ref a] H (fun v _ => v = .bl true) fun _ _ _ => False) :
    codeAny (model P w) callerA (.call (.ref fa) ⟨[.ref a], []⟩) (fun r s2 => r = .ok (.ret (.bool true)) ∧ OldK s1.heap s2.heap ∧ s2.os = s1.os ∧ AllBare s2.gens) s1 := by
  have rv := vals_ints hi
  have lenV := hi.length
  have main : ∀ H : Hp, Only H → SqL K H a (ns.map V.int) → HOk P w H s1.heap → (∀ b, H b ≠ none → b = a) → (H a ≠ none → K.lookup a = none) →
      codeAny (model P w) callerA (.call (.ref fa) ⟨[.ref a], []⟩) (fun r s2 => r = .ok (.ret (.bool true)) ∧ OldK s1.heap s2.heap ∧ s2.os = s1.os ∧ AllBare s2.gens) s1 := by
    intro H hO hS hok hA hK
    have kept : ∀ {b : Addr} {o : Obj}, s1.heap.get? b = some o → H b = none → (hidT s1.heap H).get? b = some o := fun z n => hidT_get z n
    have isA : ∀ {b : Addr} {u : HO}, H b = some u → b = a := fun {b u} z => hA b (by rw [z]; simp)
    have noD : ∀ {b : Addr} {o : Obj} {es : Array DictEntry} {ep : Nat}, s1.heap.get? b = some o → o.data = .dict es ep → H b = none := by
      intro b o es ep z d
      match q : H b with
      | none => rfl
      | some u =>
        have e2 := isA q
        subst e2
        rw [ha] at z; cases z
        have d2 : Data.seq vs.toArray _ = Data.dict es ep := d
        cases d2
    have nsK : ∀ {b : Addr} {m : Str → Option Value}, s1.heap.Ns b m → (hidT s1.heap H).Ns b m := fun {b m} z => by
      obtain ⟨o, es, ep, e1, d1, r1⟩ := z
      exact ⟨o, es, ep, kept e1 (noD e1 d1), d1, r1⟩
    have kinB : K.In (hidT s1.heap H) := fun b o z => kept (KX b o z) (by
      match q : H b with
      | none => rfl
      | some u =>
        have e2 := isA q
        subst e2
        rw [hK (by rw [q]; simp)] at z; cases z)
    have M : Mod K mg (hidT s1.heap H) := ⟨kinB, nsK hns, ⟨mb, nsK hb, hbb⟩, by obtain ⟨mc, h1, h2⟩ := hlim; exact ⟨mc, nsK h1, h2⟩⟩
    have nil_fr : ∀ {b : Addr}, ¬ b ∈ frs [] := fun {b} z => by
      have z2 : b ∈ ([] : List Addr) := z
      simp at z2
    have e0 : Env0 P w K mg (hidT s1.heap H) callerA [] s1 H := ⟨rfl, M, fun b o z => of_hidT z, Nat.le_of_eq (hidT_size _ _), trivial, fun b z => absurd z nil_fr, hok, .of_eq hg⟩
    refine codeAny_mono ((G _ kinB (nsK hns)).runs callerA [] s1 H ⟨[.ref a], []⟩ [.ref a] [.ref a] _ _ rfl hr e0 (hbind s1 (.ref a)) (.cons rfl .nil) (hsp H hO hS)) fun res s2 z => ?_
    match res, z with
    | .error e, z => exact False.elim z
    | .ok .next, z => exact False.elim z
    | .ok .brk, z => exact False.elim z
    | .ok .cont, z => exact False.elim z
    | .ok (.ret u), z =>
      obtain ⟨v, H2, os, bare, un, hok2, r2, q⟩ := z
      have qv : v = .bl true := q
      subst qv
      obtain rfl : u = Value.bool true := r2
      refine ⟨rfl, OldK.of_keep fun b o e1 => ?_, os, bare⟩
      match q : H b with
      | none => exact un.keep b o e1 q nil_fr (by simp)
      | some u =>
        rcases hO b with z | ⟨ob, xs, z⟩
        · rw [q] at z; cases z
        · obtain ⟨g1, _⟩ := hok b _ z
          obtain ⟨g2, _⟩ := hok2 b _ (un.frzs b ob _ z)
          rw [e1] at g1; cases g1
          exact g2
  match hk : K.lookup a with
  | some o =>
    have z := KX a o hk
    rw [ha] at z
    cases z
    refine main (fun _ => none) (fun _ => .inl rfl) (.inr ⟨_, vs.toArray, _, hk, rfl, rfl, rfl, by rw [List.size_toArray, lenV]; exact hl, by simpa using rv⟩) (fun b u z => ?_) (fun b z => absurd rfl z) fun z => absurd rfl z
    have z2 : (none : Option HO) = some u := z
    cases z2
  | none =>
    have yes : ∀ {b : Addr}, b = a → (if b = a then some (HO.frz { cls := .type "list", data := .seq vs.toArray } (.lst (ns.map V.int))) else none) = some (HO.frz { cls := .type "list", data := .seq vs.toArray } (.lst (ns.map V.int))) := fun z => if_pos z
    have nay : ∀ {b : Addr}, b ≠ a → (if b = a then some (HO.frz { cls := .type "list", data := .seq vs.toArray } (.lst (ns.map V.int))) else none) = none := fun z => if_neg z
    refine main (fun b => if b = a then some (HO.frz { cls := .type "list", data := .seq vs.toArray } (.lst (ns.map V.int))) else none) (fun b => ?_) (.inl (.inr ⟨_, yes rfl⟩)) (fun b u z => ?_) (fun b z => ?_) fun _ => hk
    · rcases Classical.em (b = a) with h | h
      · exact .inr ⟨_, _, yes h⟩
      · exact .inl (nay h)
    · rcases Classical.em (b = a) with h | h
      · have z2 := (yes h).symm.trans z
        cases z2
        subst h
        exact ⟨ha, by rw [List.length_map]; exact hl, vs, _, rv, ha⟩
      · have z2 := (nay h).symm.trans z
        cases z2
    · rcases Classical.em (b = a) with h | h
      · exact h
      · exact absurd (nay h) z

theorem walkG {l : PySem.W.OpenLaw} {n lv : Nat} {q : Program} {loose : List Str} {XP : (Str → Option Value) → Heap → Prop} {YP : World → Heap → Prop} {d : DefRec} {K : Params → PySem.W.Frag} {sp : World → Sp} {x : Str}
    (hn : l.most = some n) (hn2 : n ≤ sizeLine) (hdf : d.params.defaults = []) (hr : Room lv callerA) (hY : ∀ (w : World) (h : Heap), YP w h → (K w.params).In h)
    (G : ∀ (w : World) (mg : Str → Option Value) (fa : Addr) (h : Heap), (K w.params).In h → h.Ns mainGlobals mg → mg d.name = some (.ref fa) →
      ∃ fd : FuncData, (∀ (s : Shared) (u : Value), BindsTo s fd ⟨[u], []⟩ [(x, u)]) ∧ ∀ base : Heap, (K w.params).In base → base.Ns mainGlobals mg → FnG l.prog w (K w.params) mg base CX0 lv fa fd [x] (sp w))
    (hsp : ∀ (w : World) (H : Hp) (a : Addr) (ns : List Int), ns.length ≤ n → Only H → SqL (K w.params) H a (ns.map V.int) → sp w [.ref a] H (fun v _ => v = .bl true) fun _ _ _ => False) :
    PySem.W.WalkO q loose XP YP l.row.toRowW d [] (fun f vs => PySem.call f vs) := by
  refine Att.attach_call hn hdf fun w s0 s1 mg mb fa o pm cd doc a vs ns Gr Y ho hd hcd hmg hobj hints hlen hg => ?_
  have KX := hY w _ Y
  obtain ⟨fd, hb, hF⟩ := G w mg fa _ KX Gr.T.g hmg
  exact lawG KX Gr.T.g Gr.T.b Gr.T.builtins Gr.T.nolimit hg hobj hints (Nat.le_trans hlen hn2) hr hF hb fun H hO hS => hsp w H a ns hlen hO hS

/-! ### repr of tuples and lists -/
mutual
theorem dp_noDict {K : PySem.W.Frag} {H : Hp} : ∀ {v : V} {d : PyData}, Dp K H v d → d.hasDict = false
  | _, _, .non => by simp only [PyData.hasDict]
  | _, _, .bl _ => by simp only [PyData.hasDict]
  | _, _, .int _ => by simp only [PyData.hasDict]
  | _, _, .str _ => by simp only [PyData.hasDict]
  | _, _, .lst _ h => by simp only [PyData.hasDict]; exact dp_noDictAll h
  | _, _, .tup _ h => by simp only [PyData.hasDict]; exact dp_noDictAll h
theorem dp_noDictAll {K : PySem.W.Frag} {H : Hp} : ∀ {vs : List V} {ds : List PyData}, DpAll K H vs ds → PyData.hasDictAll ds = false
  | _, _, .nil => by simp only [PyData.hasDictAll]
  | _, _, .cons h r => by simp only [PyData.hasDictAll, dp_noDict h, dp_noDictAll r, Bool.or_false]
end
/-! how long a thing is, shown, at most -/
mutual
def cost : PyData → Nat
  | .none | .bool _ => 5
  | .int _ => 2000
  | .str x => 10 * x.cps.size + 2
  | .list xs | .tuple xs => costAll xs + 3
  | .dict _ => 0
def costAll : List PyData → Nat
  | [] => 0
  | x :: xs => cost x + 2 + costAll xs
end
mutual
theorem shown_cost : ∀ d : PyData, d.leavesShort 2000 = true → d.hasDict = false → d.shown.length ≤ cost d
  | .none, _, _ => by decide
  | .bool b, _, _ => by cases b <;> decide
  | .int i, h, _ => by
    simp only [PyData.leavesShort, decide_eq_true_eq] at h
    simp only [cost]
    exact h
  | .str x, h, _ => by
    have hx : ∀ c ∈ x.cps.toList, c < 16 ^ 8 := by simpa only [PyData.leavesShort, List.all_eq_true, decide_eq_true_eq] using h
    have e := StrLaws.reprText_len x hx
    have e2 : x.length = x.cps.size := rfl
    simp only [PyData.shown, cost]
    omega
  | .list xs, h, hd => by
    have h1 := shown_costs xs (by simpa only [PyData.leavesShort] using h) (by simpa only [PyData.hasDict] using hd)
    have h2 := listText_len_le (PyData.shownAll xs)
    have h3 := PyData.shownAll_length xs
    simp only [PyData.shown, cost]
    omega
  | .tuple xs, h, hd => by
    have h1 := shown_costs xs (by simpa only [PyData.leavesShort] using h) (by simpa only [PyData.hasDict] using hd)
    have h2 := tupleText_len_le (PyData.shownAll xs)
    have h3 := PyData.shownAll_length xs
    simp only [PyData.shown, cost]
    omega
  | .dict _, _, hd => by simp [PyData.hasDict] at hd
theorem shown_costs : ∀ xs : List PyData, PyData.leavesShortAll 2000 xs = true → PyData.hasDictAll xs = false → ((PyData.shownAll xs).map (·.length)).sum + 2 * xs.length ≤ costAll xs
  | [], _, _ => by simp only [PyData.shownAll, costAll, List.map_nil, List.sum_nil, List.length_nil]; omega
  | x :: xs, h, hd => by
    simp only [PyData.leavesShortAll, Bool.and_eq_true] at h
    simp only [PyData.hasDictAll, Bool.or_eq_false_iff] at hd
    have h1 := shown_cost x h.1 hd.1
    have h2 := shown_costs xs h.2 hd.2
    simp only [PyData.shownAll, costAll, List.map_cons, List.sum_cons, List.length_cons]
    omega
end
/-- what may be shown: ints of at most 1919 bits, texts of plain signs; its length and depth bounded -/
def Shows (d : PyData) : Prop := d.showable = true ∧ d.leavesShort 2000 = true ∧ cost d ≤ 16000000 ∧ d.depth ≤ 60
theorem Shows.len {d : PyData} (h : Shows d) (n : d.hasDict = false) : d.shown.length ≤ sizeLine := by
  have e := shown_cost d h.2.1 n
  have w := h.2.2.1
  rw [sizeLine_eq]
  omega
section
variable {X : Cx}
theorem call_reprD {lv : Nat} (hq : X.A.guards = some []) (hr : Room lv X.A) : CallR X (.builtin "repr") (fun xs H Q => ∃ a d, xs = [.ref a] ∧ Dp X.K H (.ref a) d ∧ Shows d ∧ Q (.str d.shown) H) := by
  intro pins s σ H xs us Q I r h
  obtain ⟨a, d, rfl, hd, hs, q⟩ := h
  obtain ⟨u, rfl, ru⟩ := vals1 r
  obtain ⟨as, rd⟩ := Dp.reads I d _ _ hd ru
  obtain rfl : u = Value.ref a := ru
  have hu := hr.un
  have hdp := hs.2.2.2
  refine repr_of_reads' (h₀ := s.heap) rd hs.1 (PyData.noDict_hsm (dp_noDict hd)) hq (by omega) (fun _ _ z => z) (fun h' t tk k => ?_) (hs.len (dp_noDict hd))
  exact ⟨.str d.shown, H, I.kept k, ⟨t, rfl⟩, q⟩
/-- // by any number but nought, below 2 ^ 9000 in size -/
def CDivA (_ j : Int) : Prop := j ≠ 0 ∧ j.natAbs.log2 < 9000
theorem op_fdivA : OpR X (binaryOp .FloorDiv) (rI CDivA fun i j => .int (i.fdiv j)) := opI fun i j _ _ _ _ _ hc q => floordiv_int hc.1 q (.inl (PyProof.noPylong_of_log2 hc.2))
/-- * of two factors of together less than a million bits -/
def CMulA (i j : Int) : Prop := i.natAbs.log2 + j.natAbs.log2 < 1000000
theorem mulA_ok {i j : Int} (h : CMulA i j) : IntMulOk i j := by
  have bits : ∀ x : Int, Builtin.Int.intBits x ≤ x.natAbs.log2 + 1 := fun x => by
    unfold Builtin.Int.intBits
    split <;> omega
  have h1 := bits i
  have h2 := bits j
  have h3 : i.natAbs.log2 + j.natAbs.log2 < 1000000 := h
  intro z
  rw [Bool.and_eq_true] at z
  have z3 := of_decide_eq_true (show decide _ = true from z.2)
  have e : bitsLine = 134217728 := by decide
  rw [e] at z3
  omega
theorem op_mulA : OpR X (binaryOp .Mult) (rI CMulA fun i j => .int (i * j)) := opI fun _ _ _ _ _ _ _ hc q => mul_int q (mulA_ok hc)
end
/-! ### a word between two statements -/
def tMid (t u : TS) : TS := fun D σ H => ∃ M : L2.St → Hp → Prop, t { D with nx := M } σ H ∧ ∀ σ2 H2, M σ2 H2 → u D σ2 H2
theorem pss_mid {X : Cx} {st : Stmt} {more : List Stmt} {t u : TS} (a : PS X st t) (b : PSs X more u) : PSs X (st :: more) (tMid t u) := by
  refine ⟨fun pins s σ H D I h => ?_⟩
  obtain ⟨M, hm, hu⟩ := h
  refine wpAny_execs_cons (thn (a.run pins s σ H { D with nx := M } I hm) fun fl s1 z => ?_)
  match fl, z with
  | .next, ⟨σ2, H2, I2, z⟩ => exact b.run pins s1 σ2 H2 D I2 (hu σ2 H2 z)
  | .ret v, z => exact z
  | .brk, z => exact z
  | .cont, z => exact z
end Fp

set_option Elab.async false
set_option linter.all false
set_option maxRecDepth 100000
set_option maxHeartbeats 4000000
namespace Fp
open PySem PySem.Spec PyProof.Rows L2
/-! ### C.f(e, ..), C a class of one's own, f a def of its body -/
structure ClsFn (K : PySem.W.Frag) (C : Addr) (m : Str) (f : Addr) : Prop where
  rd : PySem.W.readsIn K C (.type "type") = true
  fc : PySem.W.findCls K (.ref C) (.type "type") m = some (.val (.ref f))
  hd : PySem.W.handedIn (.ref f) = true
  sp : PySem.W.specialIn K (.ref C) "__getattribute__" = some (some (.builtin "type.__getattribute__"))
  kp : PySem.W.keepIn K (.ref f) = true
section
variable {X : Cx} {CX : CXT} {lv : Nat} {f C : Addr} {fd : FuncData} {ps : List Str} {sp : Sp} {E : XK} {x m : Str} {p pos apos : Pos} {e : Expr} {es : List Expr} {t : TA}
theorem pe_clsfn {pl : Sem Bool} (c : ClsFn X.K C m f) (F : FnOk X.prog X.w X.K X.mg X.base CX lv f fd ps sp) (hr : Room lv X.A) (hg : Gl X x) (hm : X.mg x = some (.ref C)) (hb : Binds X.K fd ps []) (hx : Passes CX X E) (ha : PA X (e :: es) t)
    (hdb : (x == ("__debug__" : Str)) = false := by decide) (hst : starEach (e :: es) X.env = (false, eval e X.env) :: starEach es X.env := by rfl) (hpl : (backTo pos (starEach es X.env)).any (·.1) = false := by rfl)
    (ht : eval (.Call (.Attribute (.Name x p) m apos) (e :: es) [] pos) X.env = (do
      let ov ← eval (.Name x p) X.env
      standAt apos.atName
      let (g, first) ← holding [ov] (getMethod ov m pl)
      callWith pos g first (backTo pos (starEach (e :: es) X.env)) (backToKw pos (keywordEach [] X.env))) := by rfl) :
    PE X (.Call (.Attribute (.Name x p) m apos) (e :: es) [] pos) (tCall sp [] E t) := by
  refine ⟨fun pins s σ H Q I h => PySem.W.methodCall_KW (pl := pl) (ld_glob I hg hm ?_ hdb) ht⟩
  refine PySem.W.method_cls I.kIn c.sp (PySem.W.cls_value I.kIn c.rd c.fc c.hd ?_)
  refine PySem.W.callWith_K (first := []) (h₀ := X.base) I.ok.mod.kin c.kp (thn (ha.run pos pins _ σ H _ (I.tok _) h) fun us s2 z => ?_) hst hpl
  obtain ⟨vs, H2, I2, r, q⟩ := z
  exact ⟨I2.kIn, run_fn F hr hb .nil hx I2 r q⟩
end
/-- an error of the class at S is what an except of S names -/
theorem exm_own {K : PySem.W.Frag} {S : Addr} (h1 : PySem.W.subIn K (.ref S) (.type "BaseException") = some true) (h2 : PySem.W.isClsIn K S = true) (h3 : PySem.W.typeIn K (.ref S) = some (.type "type")) (h4 : PySem.W.subIn K (.ref S) (.ref S) = some true) :
    PySem.W.exmOne K (.ref S) (.ref S) = some true := by
  have y1 : (PySem.W.subIn K (.ref S) (.type "BaseException") == some true) = true := by rw [h1] <;> rfl
  have y2 : ((PySem.W.clsIn K S).isSome && PySem.W.typeIn K (.ref S) == some (.type "type")) = true := by
    have h5 : (PySem.W.clsIn K S).isSome = true := h2
    rw [h5, h3] <;> rfl
  show (if (PySem.W.subIn K (.ref S) (.type "BaseException") == some true) = true then (if ((PySem.W.clsIn K S).isSome && PySem.W.typeIn K (.ref S) == some (.type "type")) = true then PySem.W.subIn K (.ref S) (.ref S) else none) else none) = some true
  rw [if_pos y1, if_pos y2]
  exact h4
/-! ### C(), C an own exception over ValueError whose __init__ stores nothing -/
section
variable {X : Cx}
/-- the promise of such an __init__ of one argument, self -/
def spIni (K : PySem.W.Frag) : Sp := fun vs H Q _ => ∃ a C : Addr, vs = [.ref a] ∧ OexC K C ∧ H a = some (exo a C none) ∧ Q .non H
/-- .. of self and a text -/
def spIni1 (K : PySem.W.Frag) : Sp := fun vs H Q _ => ∃ (a C : Addr) (y : V), vs = [.ref a, y] ∧ OexC K C ∧ H a = some (exo a C none) ∧ Q .non H
theorem let_go {pins : List (Addr × Obj)} {σ : L2.St} {H1 : Hp} {hp hp2 h2 : Heap} {g1 g2 : Array GenState} {d1 d2 : Drawn} {t1 t2 : Nat} {os1 os2 : OsState} {a C : Addr} (I1 : Inv X pins σ H1 ⟨hp, g1, d1, t1, os1⟩)
    (ha : hp.objs.size ≤ a) (k : ∀ b o, hp.get? b = some o → hp2.get? b = some o) (un : Un (frs X.stack) [] (upd H1 a (exo a C none)) (upd H1 a (exo a C none)) hp2 h2) (hok : HOk X.prog X.w (upd H1 a (exo a C none)) h2) (ho : os2 = os1) (hb : AllBare g2) :
    ∃ (t0 : Addr) (G : Heap), Inv X pins σ H1 ⟨G, g2, d2, t2, os2⟩ ∧ (∀ b o, G.get? b = some o → h2.get? b = some o) ∧ G.get? a = none ∧
      h2.get? a = some ({ cls := .ref C, dict := none, data := .fields #[.ref t0, .none, .none, .none, .bool false, .none] } : Obj) := by
  obtain ⟨t0, hoe⟩ := exo_at hok (upd_same (H := H1))
  have hn : H1 a = none := I1.hok.fresh ha
  obtain ⟨G, y1, y2⟩ := restrict h2 fun b => decide (b ≠ a)
  have gk : ∀ b, b ≠ a → G.get? b = h2.get? b := fun b hb => y1 b (decide_eq_true hb)
  have ge : G.get? a = none := y2 a (by simp)
  have old : ∀ {b : Addr} {o : Obj}, hp.get? b = some o → b ≠ a := fun {b o} z => Nat.ne_of_lt (Nat.lt_of_lt_of_le (Heap.lt_size z) ha)
  have up : ∀ {b : Addr}, b ≠ a → H1 b = none → upd H1 a (exo a C none) b = none := fun {b} hb n => by rw [upd_ne hb]; exact n
  have dn : ∀ {b : Addr} {u : HO}, H1 b = some u → upd H1 a (exo a C none) b = some u := fun {b u} z => by rw [upd_ne (ne_of_none z hn)]; exact z
  have ne : ∀ {b : Addr} {u : HO}, H1 b = some u → b ≠ a := fun {b u} z => ne_of_none z hn
  have U : Un (frs X.stack) [] H1 H1 hp G :=
    ⟨fun b o z n hf hx => by rw [gk b (old z)]; exact un.keep b o (k b o z) (up (old z) n) hf hx,
     fun b o z n hf hx => by rw [gk b (old z)]; exact un.slot b o (k b o z) (up (old z) n) hf hx,
     fun b o z n hx => n,
     fun b o z hx => by rw [gk b (old z)]; exact un.there b o (k b o z) hx,
     fun b xs z => z, fun b o v z => z, fun b qs z => ⟨#[], by rw [z]; simp⟩⟩
  have hok3 : HOk X.prog X.w H1 G := fun b o z => by
    refine (hok b o (dn z)).stay (fun c v hc y => ?_) (fun c hc => ?_) (fun c xs hc => ?_)
    · have hca : c ≠ a := by
        rcases hc with hc | hc
        · rw [hc]; exact ne z
        · exact at_ne (upd_same (H := H1)) hc exo_own
      rw [gk c hca]
      exact y
    · have hca : c ≠ a := at_ne (upd_same (H := H1)) hc exo_own
      rw [upd_ne hca] at hc
      exact hc
    · have hca : c ≠ a := at_ne (upd_same (H := H1)) hc exo_tup
      rw [upd_ne hca] at hc
      exact hc
  have J : Inv X pins σ H1 ⟨G, g2, d2, t2, os2⟩ := I1.call' (ch := []) ho U hok3 hb (fun b z => absurd z (by simp))
  refine ⟨t0, G, J, fun b o z => ?_, ge, hoe⟩
  rcases Classical.em (b = a) with hba | hba
  · rw [hba, ge] at z
    cases z
  · exact (gk b hba).symm.trans z
theorem pmk_bare {CX : CXT} {x : Str} {C fI : Addr} {lv : Nat} {fd : FuncData} {ps : List Str} {p pos : Pos} (T : OexC X.K C) (iC : PySem.W.findIn X.K (.ref C) "__init__" = some (some (.ref fI))) (tI : PySem.W.typeIn X.K (.ref fI) = some (.type "function"))
    (F1 : FnOk X.prog X.w X.K X.mg X.base CX lv fI fd ps (spIni X.K)) (hr : Room (lv + 1) X.A) (hb : Binds X.K fd ps []) (hx : Passes CX X (fun _ _ _ => False)) (hg : Gl X x) (hm : X.mg x = some (.ref C)) (hdb : (x == ("__debug__" : Str)) = false := by decide) :
    PMk X (.Call (.Name x p) [] [] pos) (fun _ H Q => Q (.ref C) none H) := by
  intro pins s σ H Q I h
  obtain ⟨nm, q, N, bs, bm, sn, sub, ab, col, dd, k0, k1, k2, k3, k5, hC, hbm⟩ := T.cls
  refine wpAny_Call_Name_kw (ld_glob I hg hm ?_ hdb)
  refine PySem.W.callWith_K0 I.kIn T.kC ?_
  show wpAny _ _ (call (.ref C) []) _ _ _
  obtain ⟨hp, g, dr, tk, os⟩ := s
  have hsz : hp.objs.size ≤ hp.objs.size + 1 := Nat.le_succ _
  have kk : ∀ b o, hp.get? b = some o → ((hp.push (PySem.W.kdv_tup [])).push (PySem.HandSPX.excO C hp.objs.size)).get? b = some o := fun b o z => Heap.get?_push_of_some _ (Heap.get?_push_of_some _ z)
  have hget : ((hp.push (PySem.W.kdv_tup [])).push (PySem.HandSPX.excO C hp.objs.size)).get? (hp.objs.size + 1) = some (PySem.HandSPX.excO C hp.objs.size) := by heap_get
  have I2 : Inv X pins σ (upd H (hp.objs.size + 1) (exo (hp.objs.size + 1) C none)) ⟨(hp.push (PySem.W.kdv_tup [])).push (PySem.HandSPX.excO C hp.objs.size), g, dr, tk, os⟩ :=
    I.laid (t' := tk) (a := hp.objs.size + 1) (o := exo (hp.objs.size + 1) C none) (h' := (hp.push (PySem.W.kdv_tup [])).push (PySem.HandSPX.excO C hp.objs.size)) kk hsz (exo_ok hget)
  have r2 : Vals [V.ref (hp.objs.size + 1)] [Value.ref (hp.objs.size + 1)] := .cons rfl .nil
  have hsp : spIni X.K [V.ref (hp.objs.size + 1)] (upd H (hp.objs.size + 1) (exo (hp.objs.size + 1) C none)) (fun v H2 => v = .non ∧ H2 = upd H (hp.objs.size + 1) (exo (hp.objs.size + 1) C none)) (fun _ _ _ => False) :=
    ⟨_, C, rfl, T, upd_same, rfl, rfl⟩
  have hl : ([Value.ref (hp.objs.size + 1)] ++ []).length = ps.length := by
    have z := F1.len _ _ _ _ hsp
    exact z
  refine wpAny_call (PySem.HandSPX.call_own F.excBase_ValueError (fun Y => PySem.HandSPX.refsVE_contains Y bm hbm) (I.kIn _ _ hC) (PySem.W.looks_findIn I.kIn iC) (fun self => PySem.W.bind_fn I.kIn self tI) (Nat.zero_le _)
    (codeAny_mono (F1.run _ X.stack _ _ ⟨[Value.ref (hp.objs.size + 1)], []⟩ [Value.ref (hp.objs.size + 1)] _ _ (fun _ _ _ => False) (hr.make C [] []) (I2.env0.make C [] []) (hb _ [Value.ref (hp.objs.size + 1)] I2.kIn hl) r2 hsp) fun res s2 z => ?_))
  match res, z with
  | .error er, z => exact hx pins σ _ _ er s2 I2 z
  | .ok .next, z => exact False.elim z
  | .ok .brk, z => exact False.elim z
  | .ok .cont, z => exact False.elim z
  | .ok (.ret u), z =>
    obtain ⟨v, H2, os2, bare2, un2, hok2, rv, ev, eH⟩ := z
    subst ev
    rw [eH] at un2 hok2
    obtain ⟨h2, g2, d2, t2, os3⟩ := s2
    obtain ⟨t0, G, J, kG, ge, hoe⟩ := let_go (d2 := d2) (t2 := t2) I hsz kk un2 hok2 os2 bare2
    exact ⟨rv, _, _, _, ⟨G, g2, d2, t2, os3⟩, _, .ref C, none, rfl, J, kG, ge, hoe, ⟨rfl, rfl⟩, rfl, rfl, I.hok.fresh hsz, rfl, bare2, raises_own T.exC T.tyC, h⟩
end
end Fp

set_option Elab.async false
set_option linter.all false
set_option maxRecDepth 100000
set_option maxHeartbeats 4000000
namespace Fp
open PySem PySem.Spec PyProof.Rows L2
/-! ### a tuple taken some times, none and once too -/
theorem tuple_mul_one (l : Addr) (items : Array Value) (n : Nat) (dd : Option Addr) (sl : Array (Option Value)) (u : Tok) :
    Meets (Builtin.«tuple.__mul__» ⟨[.ref l, .int 1 u], []⟩) (fun _ R s => s.heap.get? l = some { cls := .type "tuple", dict := dd, data := .seq items n, slots := sl } ∧ R (.ok (.ret (Value.ref l))) s) :=
  .of_wp fun prog w A R s h => by
    obtain ⟨hp, g, d, tk, os⟩ := s
    obtain ⟨hl, h⟩ := h
    have f1 := AutoSeq1.idx_int
    have c1 : (items.isEmpty || (1 : Int) == 1) = true := by simp
    wp_walk using wpAny_loadPart' hl
    exact ⟨_, rfl, h⟩
theorem tuple_mul_nil (l : Addr) (items : Array Value) (n : Nat) (dd : Option Addr) (sl : Array (Option Value)) (u : Tok) (c1 : items.isEmpty = false) :
    Meets (Builtin.«tuple.__mul__» ⟨[.ref l, .int 0 u], []⟩) (fun _ R s => s.heap.get? l = some { cls := .type "tuple", dict := dd, data := .seq items n, slots := sl } ∧
      R (.ok (.ret (Value.ref s.heap.objs.size))) { s with heap := s.heap.push { cls := Value.type "tuple", data := Data.seq #[] }, toks := s.toks }) :=
  .of_wp fun prog w A R s h => by
    obtain ⟨hp, g, d, tk, os⟩ := s
    obtain ⟨hl, h⟩ := h
    have f1 := AutoSeq1.idx_int
    have c2 : (items.isEmpty || (0 : Int) == 1) = false := by rw [c1]; rfl
    wp_walk using wpAny_loadPart' hl
    exact ⟨_, rfl, h⟩
def rRepA (K : PySem.W.Frag) : R2 := fun x y H Q => ∃ l k xs, x = .ref l ∧ y = .int k ∧ SqT K H l xs ∧ xs ≠ [] ∧ 0 ≤ k ∧ k ≤ 1000 ∧ xs.length ≤ 1000 ∧ (k = 1 → Q (.ref l) H) ∧ (k ≠ 1 → ∀ p, H p = none → Q (.ref p) (upd H p (.tup (List.replicate k.toNat xs).flatten)))
section
variable {X : Cx}
theorem op_repA : OpR X (binaryOp .Mult) (rRepA X.K) := by
  intro pins s σ H x y v u Q I rx ry h
  obtain ⟨l, k, xs, rfl, rfl, hT, hne, h0, h2, hz, q1, q2⟩ := h
  rcases (by omega : k = 0 ∨ k = 1 ∨ 2 ≤ k) with rfl | rfl | hk
  · cases rx
    obtain ⟨t, rfl⟩ := ry
    obtain ⟨its, r, ⟨⟨cls, dd, data, sl⟩, ho, hc, n, hd⟩, hs⟩ := I.tuple hT
    simp only at hc hd
    subst hc hd
    have hle : its.length = xs.length := r.length.symm
    have hi : its.toArray.isEmpty = false := by
      cases its with
      | nil => exact absurd (List.eq_nil_of_length_eq_zero hle.symm) hne
      | cons a b => rfl
    refine wpAny_binaryOp_repeat_ref (T := "tuple") (U := "int") (by decide) ⟨_, ho, rfl⟩ (fun s2 => typeIs_int s2 0 t) noFill_tuple_mul F.fills_int_mul F.slot_int_rmul repeat_tuple F.slot_int_index.lookup
      (call_meets F.slot_int_rmul (typeIs_int s 0 t) F.entry_int_rmul (F.args_int_rmul_2 _ _) (int_rmul_tuple 0 t l its.toArray n dd sl)
        ⟨ho, rfl, ⟨_, ho, rfl⟩, call_meets F.slot_tuple_mul ⟨_, ho, rfl⟩ F.entry_tuple_mul (F.args_tuple_mul_2 _ _) (tuple_mul_nil l its.toArray n dd sl t hi) ⟨ho, ?_⟩⟩)
    refine ⟨.ref s.heap.objs.size, _, I.laid (t' := s.toks) (o := .tup []) (fun b ob z => Heap.get?_push_of_some _ z) (Nat.le_refl _) ?_, rfl, q2 (by decide) _ (I.hok.fresh (Nat.le_refl _))⟩
    exact ⟨Nat.zero_le _, [], .nil, IsTup.new _ _⟩
  · cases rx
    obtain ⟨t, rfl⟩ := ry
    obtain ⟨its, r, ⟨⟨cls, dd, data, sl⟩, ho, hc, n, hd⟩, hs⟩ := I.tuple hT
    simp only at hc hd
    subst hc hd
    refine wpAny_binaryOp_repeat_ref (T := "tuple") (U := "int") (by decide) ⟨_, ho, rfl⟩ (fun s2 => typeIs_int s2 1 t) noFill_tuple_mul F.fills_int_mul F.slot_int_rmul repeat_tuple F.slot_int_index.lookup
      (call_meets F.slot_int_rmul (typeIs_int s 1 t) F.entry_int_rmul (F.args_int_rmul_2 _ _) (int_rmul_tuple 1 t l its.toArray n dd sl)
        ⟨ho, rfl, ⟨_, ho, rfl⟩, call_meets F.slot_tuple_mul ⟨_, ho, rfl⟩ F.entry_tuple_mul (F.args_tuple_mul_2 _ _) (tuple_mul_one l its.toArray n dd sl t) ⟨ho, ?_⟩⟩)
    exact ⟨.ref l, H, I, rfl, q1 rfl⟩
  · exact op_repT pins s σ H _ _ v u Q I rx ry ⟨l, k, xs, rfl, rfl, hT, hne, hk, h2, hz, q2 (by omega)⟩
end
end Fp

set_option Elab.async false
set_option linter.all false
set_option maxRecDepth 100000
set_option maxHeartbeats 4000000
set_option exponentiation.threshold 10000
namespace Fp
open PySem PySem.Spec PyProof.Rows L2
def topS (i : Nat) : Stmt := PySem.Challenge.pw_freshparts_k05_short_lives.main.body.getD i (.Pass ⟨0, 0, 0, 0⟩)
abbrev s_cd : Stmt := topS 6
theorem sc_cd : FnScope ["one", "other", "great", "small"] ["one", "other"] (defScope s_cd) := ⟨rfl, rfl, rfl, by decide +kernel, rfl, by decide +kernel, by decide +kernel⟩

/-! ### the greatest common divisor -/
theorem abs_if (i : Int) : (if i < 0 then -i else i) = (i.natAbs : Int) := by split <;> omega
theorem gcd_turn {g s : Int} (hs : 0 < s) (hg : 0 ≤ g) : Int.gcd s (g.fmod s) = Int.gcd g s := by
  obtain ⟨n, rfl⟩ := Int.eq_ofNat_of_zero_le hg
  obtain ⟨m, rfl⟩ := Int.eq_ofNat_of_zero_le (Int.le_of_lt hs)
  rw [Int.fmod_eq_emod_of_nonneg _ (Int.le_of_lt hs)]
  show Nat.gcd m ((n : Int) % (m : Int)).natAbs = Nat.gcd n m
  rw [show ((n : Int) % (m : Int)) = ((n % m : Nat) : Int) from (Int.natCast_emod n m).symm, Int.natAbs_natCast, Nat.gcd_comm n m, Nat.gcd_comm m (n % m)]
  exact (Nat.gcd_rec m n).symm

section
variable {P : Program} {w : World} {K : PySem.W.Frag} {mg : Str → Option Value} {base : Heap}
def spCd : Sp := fun vs H Q _ => ∃ a b : Int, vs = [.int a, .int b] ∧ Q (.int (Int.gcd a b : Nat)) H
theorem ok_cd {f : Addr} {fd : FuncData} {k : Nat} (F : Fun K "common_divisor" "common_divisor" s_cd f fd) (ma : mg "abs" = none) : FnOk P w K mg base CX0 (k + 1) f fd ["one", "other"] spCd := by
  refine F.ok sc_cd (fun vs H Q E h => ?_) (fun cdv A outer s H vs Q E hr h => ?_)
  · obtain ⟨a, b, rfl, _⟩ := h
    rfl
  · obtain ⟨a, b, rfl, q⟩ := h
    refine ⟨_, pss_cons (ps_par (i := 2) (j := 3) rfl sc_cd.nd rfl rfl (by decide) rfl rfl (pa_cons (pe_callB call_abs (by rfl) ma (by decide +kernel) (pa_cons (pv 0) pa_nil)) (pa_cons (pe_callB call_abs (by rfl) ma (by decide +kernel) (pa_cons (pv 1) pa_nil)) pa_nil)) (by rfl))
      (pss_cons (ps_while PassesOwn.never (pt_cmpR op_ne (pv 3) pe_int (nomark _)) (pss_one (ps_par (i := 2) (j := 3) rfl sc_cd.nd rfl rfl (by decide) rfl rfl (pa_cons (pv 3) (pa_cons (pe_op op_modN (pv 2) (pv 3)) pa_nil)) (by rfl))))
      (pss_one (ps_ret (pv 2)))), ?_⟩
    refine ⟨_, rfl, a, rfl, _, rfl, b, rfl, _, _, rfl, ?_⟩
    refine while_by (fun σ H1 => H1 = H ∧ ∃ g s : Int, σ = [some (.int a), some (.int b), some (.int g), some (.int s)] ∧ 0 ≤ g ∧ 0 ≤ s ∧ Int.gcd g s = Int.gcd a b)
      (fun σ _ => match σ with | [_, _, _, some (.int s)] => s.toNat | _ => 0) ?_ ?_ ?_
    · refine ⟨rfl, _, _, rfl, ?_, ?_, ?_⟩
      · rw [abs_if]; omega
      · rw [abs_if]; omega
      · rw [abs_if, abs_if]
        show Nat.gcd _ _ = Nat.gcd _ _
        rw [Int.natAbs_natCast, Int.natAbs_natCast]
    · rintro σ H1 ⟨rfl, g, s, rfl, hg, hs, e⟩
      refine ⟨_, rfl, rfl, _, rfl, ite2 (fun c => ?_) (fun c => ?_)⟩
      · have hs0 : s ≠ 0 := fun z => by
          rw [z] at c
          exact absurd c (by decide)
        have hp : 0 < s := by omega
        have lt : s > g.fmod s := Int.fmod_lt_of_pos g hp
        have nn : 0 ≤ g.fmod s := Int.fmod_nonneg_of_pos g hp
        refine ⟨_, rfl, _, rfl, _, rfl, g, s, rfl, rfl, hs0, _, _, rfl, ⟨rfl, s, g.fmod s, rfl, hs, nn, ?_⟩, ?_⟩
        · rw [gcd_turn hp hg]; exact e
        · show (g.fmod s).toNat < s.toNat
          omega
      · have hs0 : s = 0 := by
          rcases Classical.em (s = 0) with z | z
          · exact z
          · exact absurd (show (!decide (V.int s = V.int 0)) = true by simp [z]) c
        subst hs0
        refine ⟨_, rfl, ?_⟩
        have eg : g = ((Int.gcd a b : Nat) : Int) := by
          rw [← e, Int.gcd_zero_right]
          omega
        rw [eg]
        exact q
    · intro σ H1 Q1 Q2 hq h
      obtain ⟨v, e1, e2, k, e3, h⟩ := h
      exact ⟨v, e1, e2, k, e3, hq _ _ h⟩
end

end Fp

set_option Elab.async false
set_option linter.all false
set_option maxRecDepth 100000
set_option maxHeartbeats 4000000
set_option exponentiation.threshold 10000
namespace Fp
open PySem PySem.Spec PyProof.Rows L2
/-! ### ratio -/
def ratG (t b : Int) : Int := if b < 0 then -((Int.gcd t b : Nat) : Int) else ((Int.gcd t b : Nat) : Int)
def ratT (t b : Int) : Int := t.fdiv (ratG t b)
def ratB (t b : Int) : Int := b.fdiv (ratG t b)
theorem gcd_le {t b : Int} (h : b ≠ 0) : 0 < Int.gcd t b ∧ Int.gcd t b ≤ b.natAbs := by
  have hb : 0 < b.natAbs := by omega
  exact ⟨Nat.gcd_pos_of_pos_right _ hb, Nat.gcd_le_right _ hb⟩
theorem ratG_ok {t b : Int} {n : Nat} (h : b ≠ 0) (hb : b.natAbs < 2 ^ n) (hn : n ≤ 9000) (h0 : 0 < n) : CDivA t (ratG t b) ∧ CDivA b (ratG t b) := by
  obtain ⟨h1, h2⟩ := gcd_le (t := t) h
  have e : (ratG t b).natAbs = Int.gcd t b := by
    unfold ratG
    split <;> omega
  have ne : ratG t b ≠ 0 := by omega
  have l : (ratG t b).natAbs.log2 < 9000 := by
    rw [e]
    exact Nat.lt_of_lt_of_le ((Nat.log2_lt (by omega)).mpr (Nat.lt_of_le_of_lt h2 hb)) hn
  exact ⟨⟨ne, l⟩, ⟨ne, l⟩⟩

end Fp

set_option Elab.async false
set_option linter.all false
set_option maxRecDepth 100000
set_option maxHeartbeats 4000000
set_option exponentiation.threshold 10000
namespace Fp
open PySem PySem.Spec PyProof.Rows L2
abbrev s_ratio : Stmt := topS 7
theorem sc_ratio : FnScope ["top", "bottom", "divisor"] ["top", "bottom"] (defScope s_ratio) := ⟨rfl, rfl, rfl, by decide +kernel, rfl, by decide +kernel, by decide +kernel⟩
section
variable {P : Program} {w : World} {K : PySem.W.Frag} {mg : Str → Option Value} {base : Heap}
def spRat0 : Sp := fun vs H Q _ => ∃ (t b : Int), vs = [.int t, .int b] ∧ b.natAbs < 2 ^ 8000 ∧ b ≠ 0 ∧ ∀ p, H p = none → Q (.ref p) (upd H p (.tup [.int (ratT t b), .int (ratB t b)]))
theorem ok_ratio {f fC : Addr} {fd fdC : FuncData} (F : Fun K "ratio" "ratio" s_ratio f fd) (FC : Fun K "common_divisor" "common_divisor" s_cd fC fdC) (bC : Binds K fdC ["one", "other"] [])
    (gC : mg "common_divisor" = some (.ref fC)) (ma : mg "abs" = none) : FnOk P w K mg base CX0 2 f fd ["top", "bottom"] spRat0 := by
  have GC : FnOk P w K mg base CX0 1 fC fdC ["one", "other"] spCd := ok_cd FC ma
  refine F.ok sc_ratio (fun vs H Q E h => ?_) (fun cdv A outer s H vs Q E hr h => ?_)
  · obtain ⟨t, b, rfl, _⟩ := h
    rfl
  · obtain ⟨t, b, rfl, hb, h0, q1⟩ := h
    refine ⟨_, (pss_cons (ps_if (pt_cmpR op_eq (pv 1) pe_int (nomark _)) (pss_one ps_never) pss_nil) (pss_cons (ps_set (i := 2) sc_ratio.nd rfl (.inl rfl) (pe_call GC hr (by rfl) gC FC.kp bC .nil pass0 (pa_cons (pv 0) (pa_cons (pv 1) pa_nil)))) (pss_cons (ps_if (pt_cmpR op_lt (pv 1) pe_int (nomark _)) (pss_one (ps_set (i := 2) sc_ratio.nd rfl (.inl rfl) (pe_un un_neg (pv 2)))) pss_nil) (pss_one (ps_ret (pe_tup (pa_cons (pe_op op_fdivA (pv 0) (pv 2)) (pa_cons (pe_op op_fdivA (pv 1) (pv 2)) pa_nil)))))))), ?_⟩
    refine ⟨_, rfl, rfl, _, rfl, ite2 (fun c => ?_) (fun c => ?_)⟩
    · exact absurd (V.int.inj (of_decide_eq_true c)) h0
    · obtain ⟨c1, c2⟩ := ratG_ok (t := t) h0 hb (by decide) (by decide)
      refine ⟨_, rfl, _, rfl, t, b, rfl, ?_⟩
      have fin : ∀ g : Int, g = ratG t b → ∀ p, H p = none → Q (.ref p) (upd H p (.tup [.int (t.fdiv g), .int (b.fdiv g)])) := fun g eg p hp => by
        rw [eg]
        exact q1 p hp
      refine ⟨_, rfl, b, 0, rfl, rfl, _, rfl, ite2 (fun c3 => ?_) (fun c3 => ?_)⟩
      · have hneg : b < 0 := of_decide_eq_true c3
        have eg : -((Int.gcd t b : Nat) : Int) = ratG t b := by unfold ratG; rw [if_pos hneg]
        refine ⟨_, rfl, _, rfl, ?_⟩
        refine ⟨_, rfl, _, rfl, t, _, rfl, rfl, by rw [eg]; exact c1, _, rfl, _, rfl, b, _, rfl, rfl, by rw [eg]; exact c2, by show 2 ≤ sizeLine; decide, fin _ eg⟩
      · have hneg : ¬ b < 0 := fun z => c3 (decide_eq_true z)
        have eg : ((Int.gcd t b : Nat) : Int) = ratG t b := by unfold ratG; rw [if_neg hneg]
        refine ⟨_, rfl, _, rfl, t, _, rfl, rfl, by rw [eg]; exact c1, _, rfl, _, rfl, b, _, rfl, rfl, by rw [eg]; exact c2, by show 2 ≤ sizeLine; decide, fin _ eg⟩
end

end Fp

set_option Elab.async false
set_option linter.all false
set_option maxRecDepth 100000
set_option maxHeartbeats 4000000
set_option exponentiation.threshold 10000
namespace Fp
open PySem PySem.Spec PyProof.Rows L2
/-! ### two ratios reckoned -/
theorem sqT_same {K : PySem.W.Frag} {H H' : Hp} {a : Addr} {xs : List V} (e : Same H H') (h : SqT K H a xs) : SqT K H' a xs := by
  rcases h with (h | ⟨o, h⟩) | h
  · exact .inl (.inl (e _ _ h))
  · exact .inl (.inr ⟨o, e _ _ h⟩)
  · exact .inr h
theorem same_new {H : Hp} {p : Addr} {o : HO} (h : H p = none) : Same H (upd H p o) := fun b x z => by
  rw [upd_ne (ne_of_none z h)]
  exact z
/-- bounds of what is multiplied -/
def Sm (n : Nat) (a : Int) : Prop := a.natAbs < 2 ^ n
theorem Sm.log {n : Nat} {a : Int} (h : Sm n a) (h0 : 0 < n) : a.natAbs.log2 < n := by
  rcases Nat.eq_zero_or_pos a.natAbs with z | z
  · rw [z]; simpa using h0
  · exact (Nat.log2_lt (by omega)).mpr h
theorem Sm.mul {n m : Nat} {a b : Int} (ha : Sm n a) (hb : Sm m b) : Sm (n + m) (a * b) := by
  unfold Sm at *
  rw [Int.natAbs_mul, Nat.pow_add]
  exact Nat.mul_lt_mul'' ha hb
theorem Sm.add {n : Nat} {a b : Int} (ha : Sm n a) (hb : Sm n b) : Sm (n + 1) (a + b) := by
  unfold Sm at *
  rw [Nat.pow_succ]
  omega
theorem Sm.sub {n : Nat} {a b : Int} (ha : Sm n a) (hb : Sm n b) : Sm (n + 1) (a - b) := by
  unfold Sm at *
  rw [Nat.pow_succ]
  omega
theorem Sm.mono {n m : Nat} {a : Int} (h : Sm n a) (l : n ≤ m) : Sm m a := Nat.lt_of_lt_of_le h (Nat.pow_le_pow_right (by decide) l)
theorem Sm.cmul {n m : Nat} {a b : Int} (ha : Sm n a) (hb : Sm m b) (h0 : 0 < n) (h1 : 0 < m) (h : n + m ≤ 1000000) : CMulA a b := by
  have x := ha.log h0
  have y := hb.log h1
  unfold CMulA
  omega
/-- at p1 and p2 the ratios a by b, c by d -/
structure Two (K : PySem.W.Frag) (H : Hp) (p1 p2 : Addr) (a b c d : Int) : Prop where
  t1 : SqT K H p1 [.int a, .int b]
  t2 : SqT K H p2 [.int c, .int d]
  sa : Sm 3000 a
  sb : Sm 3000 b
  sc : Sm 3000 c
  sd : Sm 3000 d
  pb : 0 < b
  pd : 0 < d
theorem Two.den {K : PySem.W.Frag} {H : Hp} {p1 p2 : Addr} {a b c d : Int} (h : Two K H p1 p2 a b c d) : 0 < b * d := Int.mul_pos h.pb h.pd
theorem Two.same {K : PySem.W.Frag} {H H' : Hp} {p1 p2 : Addr} {a b c d : Int} (h : Two K H p1 p2 a b c d) (e : Same H H') : Two K H' p1 p2 a b c d := ⟨sqT_same e h.t1, sqT_same e h.t2, h.sa, h.sb, h.sc, h.sd, h.pb, h.pd⟩
def spTwo (K : PySem.W.Frag) (num : Int → Int → Int → Int → Int) : Sp := fun vs H Q _ => ∃ (p1 p2 : Addr) (a b c d : Int), vs = [.ref p1, .ref p2] ∧ Two K H p1 p2 a b c d ∧
  ∀ p, H p = none → Q (.ref p) (upd H p (.tup [.int (ratT (num a b c d) (b * d)), .int (ratB (num a b c d) (b * d))]))

end Fp

set_option Elab.async false
set_option linter.all false
set_option maxRecDepth 100000
set_option maxHeartbeats 4000000
set_option exponentiation.threshold 10000
namespace Fp
open PySem PySem.Spec PyProof.Rows L2
abbrev s_minus : Stmt := topS 8
theorem sc_minus : FnScope ["one", "other"] ["one", "other"] (defScope s_minus) := ⟨rfl, rfl, rfl, by decide +kernel, rfl, by decide +kernel, by decide +kernel⟩
section
variable {P : Program} {w : World} {K : PySem.W.Frag} {mg : Str → Option Value} {base : Heap}
theorem ok_minus {f fR : Addr} {fd fdR : FuncData} (F : Fun K "minus" "minus" s_minus f fd) (FR : Fun K "ratio" "ratio" s_ratio fR fdR) (bR : Binds K fdR ["top", "bottom"] []) (gR : mg "ratio" = some (.ref fR)) (GR : FnOk P w K mg base CX0 2 fR fdR ["top", "bottom"] spRat0) : FnOk P w K mg base CX0 3 f fd ["one", "other"] (spTwo K (fun a b c d => a * d - c * b)) := by
  refine F.ok sc_minus (fun vs H Q E h => ?_) (fun cdv A outer s H vs Q E hr h => ?_)
  · obtain ⟨_, _, _, _, _, _, rfl, _⟩ := h
    rfl
  · obtain ⟨p1, p2, a, b, c, d, rfl, T, q⟩ := h
    refine ⟨_, pss_one (ps_ret (pe_call GR hr (by rfl) gR FR.kp bR .nil pass0 (pa_cons (pe_op op_sub (pe_op op_mulA (pe_ix ix_tup (pv 0) pe_int (fun _ _ => rfl)) (pe_ix ix_tup (pv 1) pe_int (fun _ _ => rfl))) (pe_op op_mulA (pe_ix ix_tup (pv 1) pe_int (fun _ _ => rfl)) (pe_ix ix_tup (pv 0) pe_int (fun _ _ => rfl)))) (pa_cons (pe_op op_mulA (pe_ix ix_tup (pv 0) pe_int (fun _ _ => rfl)) (pe_ix ix_tup (pv 1) pe_int (fun _ _ => rfl))) pa_nil)))), ?_⟩
    refine ⟨_, rfl, p1, _, 0, _, rfl, rfl, T.t1, atI_nat (j := 0) rfl, _, rfl, p2, _, 1, _, rfl, rfl, T.t2, atI_nat (j := 1) rfl, a, d, rfl, rfl, T.sa.cmul T.sd (by decide) (by decide) (by decide), _, rfl, p2, _, 0, _, rfl, rfl, T.t2, atI_nat (j := 0) rfl, _, rfl, p1, _, 1, _, rfl, rfl, T.t1, atI_nat (j := 1) rfl, c, b, rfl, rfl, T.sc.cmul T.sb (by decide) (by decide) (by decide), _, _, rfl, rfl, _, rfl, p1, _, 1, _, rfl, rfl, T.t1, atI_nat (j := 1) rfl, _, rfl, p2, _, 1, _, rfl, rfl, T.t2, atI_nat (j := 1) rfl, b, d, rfl, rfl, T.sb.cmul T.sd (by decide) (by decide) (by decide), ?_⟩
    exact ⟨_, _, rfl, (T.sb.mul T.sd).mono (by decide), Int.ne_of_gt T.den, q⟩
end

end Fp

set_option Elab.async false
set_option linter.all false
set_option maxRecDepth 100000
set_option maxHeartbeats 4000000
set_option exponentiation.threshold 10000
namespace Fp
open PySem PySem.Spec PyProof.Rows L2
abbrev s_times : Stmt := topS 9
theorem sc_times : FnScope ["one", "other"] ["one", "other"] (defScope s_times) := ⟨rfl, rfl, rfl, by decide +kernel, rfl, by decide +kernel, by decide +kernel⟩
section
variable {P : Program} {w : World} {K : PySem.W.Frag} {mg : Str → Option Value} {base : Heap}
theorem ok_times {f fR : Addr} {fd fdR : FuncData} (F : Fun K "times" "times" s_times f fd) (FR : Fun K "ratio" "ratio" s_ratio fR fdR) (bR : Binds K fdR ["top", "bottom"] []) (gR : mg "ratio" = some (.ref fR)) (GR : FnOk P w K mg base CX0 2 fR fdR ["top", "bottom"] spRat0) : FnOk P w K mg base CX0 3 f fd ["one", "other"] (spTwo K (fun a b c d => a * c)) := by
  refine F.ok sc_times (fun vs H Q E h => ?_) (fun cdv A outer s H vs Q E hr h => ?_)
  · obtain ⟨_, _, _, _, _, _, rfl, _⟩ := h
    rfl
  · obtain ⟨p1, p2, a, b, c, d, rfl, T, q⟩ := h
    refine ⟨_, pss_one (ps_ret (pe_call GR hr (by rfl) gR FR.kp bR .nil pass0 (pa_cons (pe_op op_mulA (pe_ix ix_tup (pv 0) pe_int (fun _ _ => rfl)) (pe_ix ix_tup (pv 1) pe_int (fun _ _ => rfl))) (pa_cons (pe_op op_mulA (pe_ix ix_tup (pv 0) pe_int (fun _ _ => rfl)) (pe_ix ix_tup (pv 1) pe_int (fun _ _ => rfl))) pa_nil)))), ?_⟩
    refine ⟨_, rfl, p1, _, 0, _, rfl, rfl, T.t1, atI_nat (j := 0) rfl, _, rfl, p2, _, 0, _, rfl, rfl, T.t2, atI_nat (j := 0) rfl, a, c, rfl, rfl, T.sa.cmul T.sc (by decide) (by decide) (by decide), _, rfl, p1, _, 1, _, rfl, rfl, T.t1, atI_nat (j := 1) rfl, _, rfl, p2, _, 1, _, rfl, rfl, T.t2, atI_nat (j := 1) rfl, b, d, rfl, rfl, T.sb.cmul T.sd (by decide) (by decide) (by decide), ?_⟩
    exact ⟨_, _, rfl, (T.sb.mul T.sd).mono (by decide), Int.ne_of_gt T.den, q⟩
end

end Fp

set_option Elab.async false
set_option linter.all false
set_option maxRecDepth 100000
set_option maxHeartbeats 4000000
set_option exponentiation.threshold 10000
namespace Fp
open PySem PySem.Spec PyProof.Rows L2
abbrev s_over : Stmt := topS 10
theorem sc_over : FnScope ["one", "other"] ["one", "other"] (defScope s_over) := ⟨rfl, rfl, rfl, by decide +kernel, rfl, by decide +kernel, by decide +kernel⟩
section
variable {P : Program} {w : World} {K : PySem.W.Frag} {mg : Str → Option Value} {base : Heap}
def spOver0 (K : PySem.W.Frag) : Sp := fun vs H Q _ => ∃ (p1 p2 : Addr) (a b c d : Int), vs = [.ref p1, .ref p2] ∧ Two K H p1 p2 a b c d ∧ b * c ≠ 0 ∧
  ∀ p, H p = none → Q (.ref p) (upd H p (.tup [.int (ratT (a * d) (b * c)), .int (ratB (a * d) (b * c))]))
theorem ok_over {f fR : Addr} {fd fdR : FuncData} (F : Fun K "over" "over" s_over f fd) (FR : Fun K "ratio" "ratio" s_ratio fR fdR) (bR : Binds K fdR ["top", "bottom"] []) (gR : mg "ratio" = some (.ref fR)) (GR : FnOk P w K mg base CX0 2 fR fdR ["top", "bottom"] spRat0) : FnOk P w K mg base CX0 3 f fd ["one", "other"] (spOver0 K) := by
  refine F.ok sc_over (fun vs H Q E h => ?_) (fun cdv A outer s H vs Q E hr h => ?_)
  · obtain ⟨_, _, _, _, _, _, rfl, _⟩ := h
    rfl
  · obtain ⟨p1, p2, a, b, c, d, rfl, T, ne, q⟩ := h
    refine ⟨_, pss_one (ps_ret (pe_call GR hr (by rfl) gR FR.kp bR .nil pass0 (pa_cons (pe_op op_mulA (pe_ix ix_tup (pv 0) pe_int (fun _ _ => rfl)) (pe_ix ix_tup (pv 1) pe_int (fun _ _ => rfl))) (pa_cons (pe_op op_mulA (pe_ix ix_tup (pv 0) pe_int (fun _ _ => rfl)) (pe_ix ix_tup (pv 1) pe_int (fun _ _ => rfl))) pa_nil)))), ?_⟩
    refine ⟨_, rfl, p1, _, 0, _, rfl, rfl, T.t1, atI_nat (j := 0) rfl, _, rfl, p2, _, 1, _, rfl, rfl, T.t2, atI_nat (j := 1) rfl, a, d, rfl, rfl, T.sa.cmul T.sd (by decide) (by decide) (by decide), _, rfl, p1, _, 1, _, rfl, rfl, T.t1, atI_nat (j := 1) rfl, _, rfl, p2, _, 0, _, rfl, rfl, T.t2, atI_nat (j := 0) rfl, b, c, rfl, rfl, T.sb.cmul T.sc (by decide) (by decide) (by decide), ?_⟩
    exact ⟨_, _, rfl, (T.sb.mul T.sc).mono (by decide), ne, q⟩
end

end Fp

set_option Elab.async false
set_option linter.all false
set_option maxRecDepth 100000
set_option maxHeartbeats 4000000
set_option exponentiation.threshold 10000
namespace Fp
open PySem PySem.Spec PyProof.Rows L2
/-! ### the feed of draws -/
abbrev s_feed : Stmt := topS 16
abbrev s_draw : Stmt := topS 17
theorem sc_feed : FnScope ["_law_script"] ["_law_script"] (defScope s_feed) := ⟨rfl, rfl, rfl, by decide +kernel, rfl, by decide +kernel, by decide +kernel⟩
theorem sc_draw : FnScope ["_law_feed_here", "_law_many", "_law_turn", "_law_digit", "_law_at", "_law_cells", "_law_cell", "_law_mixed"] ["_law_feed_here", "_law_many"] (defScope s_draw) := ⟨rfl, rfl, rfl, by decide +kernel, rfl, by decide +kernel, by decide +kernel⟩
def feedL (c : Addr) (a l t : Int) : List (Key × V) := [(.inr "cells", .ref c), (.inr "at", .int a), (.inr "left", .int l), (.inr "turn", .int t)]
theorem feed_at (c : Addr) (a l t : Int) : valV (feedL c a l t) (.inr "at") = some (.int a) := rfl
theorem feed_cells (c : Addr) (a l t : Int) : valV (feedL c a l t) (.inr "cells") = some (.ref c) := rfl
theorem feed_left (c : Addr) (a l t : Int) : valV (feedL c a l t) (.inr "left") = some (.int l) := rfl
theorem feed_turn (c : Addr) (a l t : Int) : valV (feedL c a l t) (.inr "turn") = some (.int t) := rfl
theorem put_at (c : Addr) (a l t x : Int) : putK (feedL c a l t) (.inr "at") (.int x) = feedL c x l t := rfl
theorem put_left (c : Addr) (a l t x : Int) : putK (feedL c a l t) (.inr "left") (.int x) = feedL c a x t := rfl
theorem put_turn (c : Addr) (a l t x : Int) : putK (feedL c a l t) (.inr "turn") (.int x) = feedL c a l x := rfl
theorem feed_len (c : Addr) (a l t : Int) : (feedL c a l t).length < sizeLine := by show 4 < sizeLine; decide
theorem feed_merge (c : Addr) : mergeK [] (feedL c 0 0 0) = feedL c 0 0 0 := rfl
/-- at d a feed that has told t draws -/
def Feed (H : Hp) (d c : Addr) (t : Int) : Prop := ∃ (a l : Int) (ns : List Int), H d = some (.dK (feedL c a l t)) ∧ H c = some (.lst (ns.map V.int)) ∧ 0 ≤ t
/-- all but d as it was -/
def Keep (d : Addr) (H H' : Hp) : Prop := ∀ b o, b ≠ d → H b = some o → H' b = some o
theorem Keep.trans {d : Addr} {H H1 H2 : Hp} (a : Keep d H H1) (b : Keep d H1 H2) : Keep d H H2 := fun c o n z => b c o n (a c o n z)
theorem Keep.of_same {d : Addr} {H H' : Hp} (a : Same H H') : Keep d H H' := fun b o _ z => a b o z
theorem Keep.upd {d : Addr} {H : Hp} {o : HO} : Keep d H (upd H d o) := fun b x n z => by rw [upd_ne n]; exact z
theorem Feed.same {H H' : Hp} {d c : Addr} {t : Int} (f : Feed H d c t) (e : Same H H') : Feed H' d c t := by
  obtain ⟨a, l, ns, h1, h2, h3⟩ := f
  exact ⟨a, l, ns, e _ _ h1, e _ _ h2, h3⟩
theorem Feed.wr {H : Hp} {d c p : Addr} {t : Int} {o : HO} (f : Feed H d c t) (h1 : p ≠ d) (h2 : p ≠ c) : Feed (upd H p o) d c t := by
  obtain ⟨a, l, ns, e1, e2, e3⟩ := f
  exact ⟨a, l, ns, by rw [upd_ne h1.symm]; exact e1, by rw [upd_ne h2.symm]; exact e2, e3⟩
theorem Feed.ne {H : Hp} {d c p : Addr} {t : Int} {o : HO} (f : Feed H d c t) (h : H p = some o) (n : ∀ kvs, o ≠ .dK kvs) : p ≠ d := by
  obtain ⟨a, l, ns, h1, _⟩ := f
  exact ne_of h h1 (n _)
theorem Feed.nd {H : Hp} {d c p : Addr} {t : Int} (f : Feed H d c t) (h : H p = none) : p ≠ d := by
  obtain ⟨a, l, ns, h1, _⟩ := f
  exact (ne_of_none h1 h).symm
theorem Feed.nc {H : Hp} {d c p : Addr} {t : Int} (f : Feed H d c t) (h : H p = none) : p ≠ c := by
  obtain ⟨a, l, ns, _, h1, _⟩ := f
  exact (ne_of_none h1 h).symm
theorem Feed.new {H : Hp} {d c p : Addr} {t : Int} {o : HO} (f : Feed H d c t) (n : H p = none) : Feed (upd H p o) d c t := f.same (same_new n)
theorem keep_at {d c p : Addr} {H H' : Hp} {t : Int} {o : HO} (f : Feed H d c t) (k : Keep d H H') (h : H p = some o) (n : ∀ kvs, o ≠ .dK kvs) : H' p = some o := k p o (f.ne h n) h
theorem keep_new {d p : Addr} {H H' : Hp} {o : HO} (n : H p = none) (k : Keep d (upd H p o) H') : Keep d H H' := (Keep.of_same (same_new n)).trans k
theorem Keep.none {d c p : Addr} {t : Int} {H H' : Hp} (k : Keep d H H') (f : Feed H' d c t) (n : H' p = none) : H p = none := by
  match z : H p with
  | Option.none => rfl
  | some o =>
    have := k p o (f.nd n) z
    rw [n] at this
    cases this
/-- what was not there when k began may be written -/
theorem Keep.wr {d p : Addr} {H H' : Hp} {o : HO} (k : Keep d H H') (n : H p = Option.none) : Keep d H (L2.upd H' p o) := fun b x hb z => by
  rw [upd_ne (ne_of_none z n)]
  exact k b x hb z
theorem Keep.refl {d : Addr} {H : Hp} : Keep d H H := fun _ _ _ z => z
theorem sqT_keep {K : PySem.W.Frag} {H H' : Hp} {a d c : Addr} {t : Int} {xs : List V} (f : Feed H d c t) (e : Keep d H H') (h : SqT K H a xs) : SqT K H' a xs := by
  obtain ⟨x, l, ns, h1, _⟩ := f
  rcases h with (h | ⟨o, h⟩) | h
  · exact .inl (.inl (e _ _ (ne_of h h1 (by intro z; cases z)) h))
  · exact .inl (.inr ⟨o, e _ _ (ne_of h h1 (by intro z; cases z)) h⟩)
  · exact .inr h
theorem cut_ints (ns : List Int) (lo hi : Option Int) : ∃ ms : List Int, cutV (ns.map V.int) lo hi = ms.map V.int := by
  unfold cutV
  exact ⟨_, by rw [← List.map_drop, ← List.map_take]⟩
theorem dpAll_ints {K : PySem.W.Frag} {H : Hp} : ∀ ns : List Int, DpAll K H (ns.map V.int) (ns.map PyData.int)
  | [] => .nil
  | n :: r => .cons (.int n) (dpAll_ints r)
theorem canLay_ints : ∀ ns : List Int, PyData.canLayAll0 (ns.map PyData.int) = true
  | [] => rfl
  | n :: r => by
    show (PyData.canLay0 (.int n) && PyData.canLayAll0 (r.map PyData.int)) = true
    rw [canLay_ints r]
    rfl
theorem depth_ints : ∀ ns : List Int, PyData.depthAll (ns.map PyData.int) = 0
  | [] => rfl
  | n :: r => by
    show max (PyData.depth (.int n)) (PyData.depthAll (r.map PyData.int)) = 0
    rw [depth_ints r]
    rfl
theorem shaped_ints (ns : List Int) : SeqAt.shaped (.list (ns.map PyData.int)) = true := by
  unfold SeqAt.shaped
  have h1 : PyData.canLay0 (.list (ns.map PyData.int)) = true := by
    show PyData.canLayAll0 (ns.map PyData.int) = true
    exact canLay_ints ns
  have h2 : (PyData.list (ns.map PyData.int)).depth = 1 := by
    show PyData.depthAll (ns.map PyData.int) + 1 = 1
    rw [depth_ints]
  rw [h1, h2]
  rfl
theorem eqv_nil (ns : List Int) : PyData.eqv (.list (ns.map PyData.int)) (.list []) = ns.isEmpty := by
  cases ns with
  | nil => rfl
  | cons n r => rfl

section
variable {P : Program} {w : World} {K : PySem.W.Frag} {mg : Str → Option Value} {base : Heap}
def spFeed (K : PySem.W.Frag) : Sp := fun vs H Q _ => ∃ (a : Addr) (ns : List Int), vs = [.ref a] ∧ SqL K H a (ns.map V.int) ∧ ∀ d c H', Same H H' → Feed H' d c 0 → Q (.ref d) H'
theorem ok_feed {f : Addr} {fd : FuncData} {k : Nat} (F : Fun K "_law_feed" "_law_feed" s_feed f fd) (ml : mg "list" = none) : FnOk P w K mg base CX0 (k + 1) f fd ["_law_script"] (spFeed K) := by
  refine F.ok sc_feed (fun vs H Q E h => ?_) (fun cdv A outer s H vs Q E hr h => ?_)
  · obtain ⟨a, ns, rfl, _⟩ := h
    rfl
  · obtain ⟨a, ns, rfl, hS, q⟩ := h
    refine ⟨_, pss_one (ps_ret (pe_disp (pps_cons pe_str (pe_callTy call_list_of (by rfl) ml (by decide +kernel) (pa_cons (pe_slice sl_list (pv 0) po_none (po_some pe_int)) pa_nil))
      (pps_cons pe_str pe_int (pps_cons pe_str pe_int (pps_cons pe_str pe_int pps_nil)))) (by rfl) (by rfl) (fun z => by cases z) (by decide))), ?_⟩
    refine fun d nd => ?_
    have s1 : Same H (upd H d (.dK [])) := same_new nd
    obtain ⟨ms, em⟩ := cut_ints ns none (some 63)
    refine ⟨_, rfl, 63, rfl, a, ns.map V.int, rfl, s1.seq hS, fun x nx => ?_⟩
    have s2 := same_new (o := HO.lst (cutV (ns.map V.int) none (some 63))) nx
    refine ⟨x, _, rfl, .inl (SqL.of upd_same), fun c nc => ?_⟩
    have s3 := same_new (o := HO.lst (cutV (ns.map V.int) none (some 63))) nc
    refine ⟨?_, feedL c 0 0 0, rfl, by show 4 ≤ 15; decide, ?_⟩
    · exact s3 _ _ (s2 _ _ upd_same)
    · rw [feed_merge]
      have ncd : c ≠ d := fun z => by
        rw [z] at nc
        exact absurd nc (by rw [s2 _ _ upd_same]; exact fun z => nomatch z)
      refine q d c _ (fun b o z => ?_) ⟨0, 0, ms, upd_same, ?_, by decide⟩
      · have nb : b ≠ d := ne_of_none z nd
        rw [upd_ne nb]
        exact s3 _ _ (s2 _ _ (s1 _ _ z))
      · rw [upd_ne ncd, upd_same, em]
def spDraw : Sp := fun vs H Q _ => ∃ (d c : Addr) (many t : Int), vs = [.ref d, .int many] ∧ Feed H d c t ∧ t ≤ 1000000 ∧ 0 < many ∧ many < 1073741824 ∧
  ∀ r H', 0 ≤ r → r < many → Keep d H H' → Feed H' d c (t + 1) → Q (.int r) H'
theorem ok_draw {f : Addr} {fd : FuncData} {k : Nat} (F : Fun K "_law_draw" "_law_draw" s_draw f fd) (ml : mg "len" = none) : FnOk P w K mg base CX0 (k + 1) f fd ["_law_feed_here", "_law_many"] spDraw := by
  refine F.ok sc_draw (fun vs H Q E h => ?_) (fun cdv A outer s H vs Q E hr h => ?_)
  · obtain ⟨_, _, _, _, rfl, _⟩ := h
    rfl
  · obtain ⟨d, c, many, t, rfl, ⟨a, l, ns, hd, hc, ht0⟩, ht, hm0, hm1, q⟩ := h
    have hu := hu_of hr
    refine ⟨_, pss_cons (ps_set (i := 2) sc_draw.nd rfl (.inl rfl) (pe_op op_add (pe_dget hu (pv 0) pe_str (fun _ _ => rfl)) pe_int))
      (pss_cons (ps_dput hu (pv 0) pe_str (pv 2) rfl)
      (pss_cons (ps_if (pt_cmpR op_gt (pe_dget hu (pv 0) pe_str (fun _ _ => rfl)) pe_int (nomark _))
        (pss_cons (ps_set (i := 3) sc_draw.nd rfl (.inl rfl) (pe_op op_modN (pe_dget hu (pv 0) pe_str (fun _ _ => rfl)) (pv 1)))
        (pss_cons (ps_dput hu (pv 0) pe_str (pe_op op_fdiv (pe_dget hu (pv 0) pe_str (fun _ _ => rfl)) (pv 1)) rfl)
        (pss_one (ps_ret (pv 3))))) pss_nil)
      (pss_cons (ps_par (i := 4) (j := 5) rfl sc_draw.nd rfl rfl (by decide) rfl rfl (pa_cons (pe_dget hu (pv 0) pe_str (fun _ _ => rfl)) (pa_cons (pe_dget hu (pv 0) pe_str (fun _ _ => rfl)) pa_nil)) (by rfl))
      (pss_cons (ps_dput hu (pv 0) pe_str (pe_op op_add (pv 4) pe_int) rfl)
      (pss_cons (ps_set (i := 6) sc_draw.nd rfl (.inl rfl) (pe_ifExp (pt_cmpR (op_neD hr.units) (pv 5) (pe_lst pa_nil) (nomark _))
          (pe_ix ix_list (pv 5) (pe_op op_modN (pv 4) (pe_callB call_len_seq (by rfl) ml PySem.boot_len (pa_cons (pv 5) pa_nil))) (fun _ _ => rfl)) pe_int))
      (pss_cons (ps_if (PW.pt (pw_and (pt_cmpR op_ge (pv 6) (pe_op op_pow pe_int pe_int) (nomark _)) (pw_and1 (pt_cmpR op_lt (pv 4) (pe_callB call_len_seq (by rfl) ml PySem.boot_len (pa_cons (pv 5) pa_nil)) (nomark _)))))
        (pss_cons (ps_dput hu (pv 0) pe_str (pe_op op_fdiv (pv 6) (pv 1)) rfl) (pss_one (ps_ret (pe_op op_modN (pv 6) (pv 1))))) pss_nil)
      (pss_cons (ps_set (i := 7) sc_draw.nd rfl (.inl rfl) (pe_op op_modN (pe_op op_pow (pe_op op_add (pe_op op_modN (pv 6) pe_int) (pe_op op_mul pe_int (pv 2))) pe_int) pe_int))
      (pss_one (ps_ret (pe_op op_modN (pe_op op_fdiv (pe_op op_modN (pe_op op_mul (pv 7) (pe_op op_add (pe_op op_mul pe_int (pv 2)) pe_int)) pe_int) pe_int) (pv 1))))))))))), ?_⟩
    have ndc : c ≠ d := ne_of hc hd (by intro z; cases z)
    have mod_ok : ∀ x : Int, 0 ≤ x.fmod many ∧ x.fmod many < many := fun x => ⟨Int.fmod_nonneg_of_pos x hm0, Int.fmod_lt_of_pos x hm0⟩
    -- turn
    refine ⟨_, rfl, d, _, rfl, .inl ⟨_, .inr "turn", .inl hd, rfl, feed_turn c a l t⟩, t, 1, rfl, rfl, ?_⟩
    refine ⟨_, rfl, _, rfl, d, _, rfl, DPut.k (k := .inr "turn") hd (feed_len c a l t), ?_⟩
    rw [put_turn]
    -- left
    refine ⟨_, rfl, d, _, rfl, .inl ⟨_, .inr "left", .inl upd_same, rfl, feed_left c a l (t + 1)⟩, l, 0, rfl, rfl, _, rfl, ite2 (fun cl => ?_) (fun cl => ?_)⟩
    · refine ⟨_, rfl, d, _, rfl, .inl ⟨_, .inr "left", .inl upd_same, rfl, feed_left c a l (t + 1)⟩, _, rfl, l, many, rfl, rfl, Int.ne_of_gt hm0, ?_⟩
      refine ⟨_, rfl, d, _, rfl, .inl ⟨_, .inr "left", .inl upd_same, rfl, feed_left c a l (t + 1)⟩, _, rfl, l, many, rfl, rfl, ⟨hm0, hm1⟩, _, rfl, d, _, rfl, DPut.k (k := .inr "left") upd_same (feed_len c a l (t + 1)), ?_⟩
      rw [put_left, upd_upd]
      refine ⟨_, rfl, q _ _ (mod_ok l).1 (mod_ok l).2 Keep.upd ⟨a, _, ns, upd_same, ?_, by omega⟩⟩
      rw [upd_ne ndc]
      exact hc
    · refine ⟨_, rfl, d, _, rfl, .inl ⟨_, .inr "at", .inl upd_same, rfl, feed_at c a l (t + 1)⟩, _, rfl, d, _, rfl, .inl ⟨_, .inr "cells", .inl upd_same, rfl, feed_cells c a l (t + 1)⟩, _, _, rfl, ?_⟩
      refine ⟨_, rfl, a, 1, rfl, rfl, _, rfl, d, _, rfl, DPut.k (k := .inr "at") upd_same (feed_len c a l (t + 1)), ?_⟩
      rw [put_at, upd_upd]
      have hc2 : upd H d (.dK (feedL c (a + 1) l (t + 1))) c = some (.lst (ns.map V.int)) := by
        rw [upd_ne ndc]
        exact hc
      -- cells != []
      refine ⟨_, rfl, Nat.zero_le _, fun e ne => ?_⟩
      have s1 := same_new (o := HO.lst []) ne
      have hc3 := s1 _ _ hc2
      have hd3 := s1 _ _ (upd_same (H := H) (a := d) (o := .dK (feedL c (a + 1) l (t + 1))))
      have k3 : Keep d H (upd (upd H d (.dK (feedL c (a + 1) l (t + 1)))) e (.lst [])) := Keep.upd.trans (Keep.of_same s1)
      refine ⟨.list (ns.map PyData.int), .list [], .lst (SqL.of hc3) (dpAll_ints ns), .lst (SqL.of upd_same) .nil, shaped_ints ns, rfl, _, rfl, ?_⟩
      rw [eqv_nil]
      -- behind the cell
      have rest : ∀ cell : Int, tSeq (tIfS (tAnd (tTest (tOp (rI0 fun i j => .bl (decide (j ≤ i))) (tVar 6) (tOp (rI CPow fun i j => .int (i ^ j.toNat)) (tC (.int 10)) (tC (.int 18))))) (tTest (tOp (rI0 fun i j => .bl (decide (i < j))) (tVar 4) (tCB (fun xs H Q => ∃ p ys, xs = [.ref p] ∧ (SqL K H p ys ∨ SqT K H p ys) ∧ Q (.int ys.length) H) (tCons (tVar 5) tNil)))))
          (tSeq (sDPut (tVar 0) (tC (.str "left")) (tOp (rI CDiv fun i j => .int (i / j)) (tVar 6) (tVar 1))) (tRet (tOp (rI (fun _ j => j ≠ 0) fun i j => .int (i.fmod j)) (tVar 6) (tVar 1)))) tNext)
          (tSeq (tAsg (tOp (rI (fun _ j => j ≠ 0) fun i j => .int (i.fmod j)) (tOp (rI CPow fun i j => .int (i ^ j.toNat)) (tOp (rI0 fun i j => .int (i + j)) (tOp (rI (fun _ j => j ≠ 0) fun i j => .int (i.fmod j)) (tVar 6) (tC (.int 999983))) (tOp (rI CMul fun i j => .int (i * j)) (tC (.int 7919)) (tVar 2))) (tC (.int 5))) (tC (.int 2305843009213693951))) (gName 7))
          (tRet (tOp (rI (fun _ j => j ≠ 0) fun i j => .int (i.fmod j)) (tOp (rI CDiv fun i j => .int (i / j)) (tOp (rI (fun _ j => j ≠ 0) fun i j => .int (i.fmod j)) (tOp (rI CMul fun i j => .int (i * j)) (tVar 7) (tOp (rI0 fun i j => .int (i + j)) (tOp (rI CMul fun i j => .int (i * j)) (tC (.int 2)) (tVar 2)) (tC (.int 104729)))) (tC (.int 2147483629))) (tC (.int 64))) (tVar 1))))
          { nx := fun _ H' => Q .non H', rt := Q } [some (.ref d), some (.int many), some (.int (t + 1)), none, some (.int a), some (.ref c), some (.int cell), none] (upd (upd H d (.dK (feedL c (a + 1) l (t + 1)))) e (.lst [])) := by
        intro cell
        have fin : tSeq (tAsg (tOp (rI (fun _ j => j ≠ 0) fun i j => .int (i.fmod j)) (tOp (rI CPow fun i j => .int (i ^ j.toNat)) (tOp (rI0 fun i j => .int (i + j)) (tOp (rI (fun _ j => j ≠ 0) fun i j => .int (i.fmod j)) (tVar 6) (tC (.int 999983))) (tOp (rI CMul fun i j => .int (i * j)) (tC (.int 7919)) (tVar 2))) (tC (.int 5))) (tC (.int 2305843009213693951))) (gName 7))
          (tRet (tOp (rI (fun _ j => j ≠ 0) fun i j => .int (i.fmod j)) (tOp (rI CDiv fun i j => .int (i / j)) (tOp (rI (fun _ j => j ≠ 0) fun i j => .int (i.fmod j)) (tOp (rI CMul fun i j => .int (i * j)) (tVar 7) (tOp (rI0 fun i j => .int (i + j)) (tOp (rI CMul fun i j => .int (i * j)) (tC (.int 2)) (tVar 2)) (tC (.int 104729)))) (tC (.int 2147483629))) (tC (.int 64))) (tVar 1)))
          { nx := fun _ H' => Q .non H', rt := Q } [some (.ref d), some (.int many), some (.int (t + 1)), none, some (.int a), some (.ref c), some (.int cell), none] (upd (upd H d (.dK (feedL c (a + 1) l (t + 1)))) e (.lst [])) := by
          have hm : 0 ≤ cell.fmod 999983 ∧ cell.fmod 999983 < 999983 := ⟨Int.fmod_nonneg_of_pos _ (by decide), Int.fmod_lt_of_pos _ (by decide)⟩
          refine ⟨_, rfl, cell, 999983, rfl, rfl, by show (999983 : Int) ≠ 0; decide, _, rfl, 7919, t + 1, rfl, rfl, .inl ⟨by decide, by decide⟩, _, _, rfl, rfl, _, 5, rfl, rfl, ⟨by decide, by decide, ?_⟩, _, 2305843009213693951, rfl, rfl, by show (2305843009213693951 : Int) ≠ 0; decide, ?_⟩
          · have e64 : (2 : Nat) ^ 64 = 18446744073709551616 := by decide
            rw [e64]
            omega
          · refine ⟨_, rfl, _, rfl, 2, t + 1, rfl, rfl, .inl ⟨by decide, by decide⟩, _, 104729, rfl, rfl, _, _, rfl, rfl, .inr ⟨?_, ?_⟩, _, 2147483629, rfl, rfl, by show (2147483629 : Int) ≠ 0; decide, _, 64, rfl, rfl, ⟨by decide, by decide⟩, _, rfl, _, many, rfl, rfl, Int.ne_of_gt hm0, ?_⟩
            · have e64 : (2 : Int) ^ 64 = 18446744073709551616 := by decide
              omega
            · have e64 : (2 : Int) ^ 64 = 18446744073709551616 := by decide
              omega
            · exact q _ _ (mod_ok _).1 (mod_ok _).2 k3 ⟨a + 1, l, ns, hd3, hc3, by omega⟩
        refine ⟨_, rfl, 10, 18, rfl, rfl, ⟨by decide, by decide, by decide⟩, cell, _, rfl, rfl, _, rfl, ite2 (fun c1 => ?_) (fun c1 => iteF fin)⟩
        refine ⟨_, rfl, _, rfl, c, _, rfl, .inl (SqL.of hc3), a, _, rfl, rfl, _, rfl, ite2 (fun c2 => ?_) (fun c2 => fin)⟩
        refine ⟨_, rfl, _, rfl, cell, many, rfl, rfl, ⟨hm0, hm1⟩, _, rfl, d, _, rfl, DPut.k (k := .inr "left") hd3 (feed_len c (a + 1) l (t + 1)), ?_⟩
        rw [put_left]
        refine ⟨_, rfl, _, rfl, cell, many, rfl, rfl, Int.ne_of_gt hm0, q _ _ (mod_ok cell).1 (mod_ok cell).2 (k3.trans Keep.upd) ⟨a + 1, _, ns, upd_same, ?_, by omega⟩⟩
        rw [upd_ne ndc]
        exact hc3
      cases ns with
      | nil => exact iteF (rest 0)
      | cons n r =>
        refine iteT ?_
        have hlen : (0 : Int) < (((n :: r).map V.int).length : Nat) := by simp
        have h1 : 0 ≤ a.fmod ((((n :: r).map V.int).length : Nat) : Int) := Int.fmod_nonneg_of_pos _ hlen
        have h2 : a.fmod ((((n :: r).map V.int).length : Nat) : Int) < ((((n :: r).map V.int).length : Nat) : Int) := Int.fmod_lt_of_pos _ hlen
        have h3 : (a.fmod ((((n :: r).map V.int).length : Nat) : Int)).toNat < ((n :: r).map V.int).length := by omega
        have h4 : ∃ x, ((n :: r).map V.int)[(a.fmod ((((n :: r).map V.int).length : Nat) : Int)).toNat]? = some (.int x) := by
          rw [List.getElem?_map]
          rw [List.length_map] at h3
          rw [List.length_map, List.getElem?_eq_getElem h3]
          exact ⟨_, rfl⟩
        obtain ⟨x, hx⟩ := h4
        refine ⟨_, rfl, _, rfl, _, rfl, c, _, rfl, .inl (SqL.of hc3), a, _, rfl, rfl, Int.ne_of_gt hlen, c, _, _, _, rfl, rfl, SqL.of hc3, at_of (Int.toNat_of_nonneg h1).symm hx, rest x⟩
end

end Fp

set_option Elab.async false
set_option linter.all false
set_option maxRecDepth 100000
set_option maxHeartbeats 4000000
set_option exponentiation.threshold 10000
namespace Fp
open PySem PySem.Spec PyProof.Rows L2
abbrev s_low : Stmt := topS 18
theorem sc_low : FnScope ["_law_top", "_law_bottom", "_law_one", "_law_other"] ["_law_top", "_law_bottom"] (defScope s_low) := ⟨rfl, rfl, rfl, by decide +kernel, rfl, by decide +kernel, by decide +kernel⟩
section
variable {P : Program} {w : World} {K : PySem.W.Frag} {mg : Str → Option Value} {base : Heap}
/-! ### lowest terms by the law's own division -/
def spLow : Sp := fun vs H Q _ => ∃ t b : Int, vs = [.int t, .int b] ∧ 0 < b ∧ Sm 8000 b ∧ ∀ p, H p = none → Q (.ref p) (upd H p (.tup [.int (ratT t b), .int (ratB t b)]))
theorem ok_low {f : Addr} {fd : FuncData} {k : Nat} (F : Fun K "_law_low" "_law_low" s_low f fd) (ma : mg "abs" = none) : FnOk P w K mg base CX0 (k + 1) f fd ["_law_top", "_law_bottom"] spLow := by
  refine F.ok sc_low (fun vs H Q E h => ?_) (fun cdv A outer s H vs Q E hr h => ?_)
  · obtain ⟨a, b, rfl, _⟩ := h
    rfl
  · obtain ⟨a, b, rfl, hb, sb, q⟩ := h
    refine ⟨_, pss_cons (ps_par (i := 2) (j := 3) rfl sc_low.nd rfl rfl (by decide) rfl rfl (pa_cons (pe_callB call_abs (by rfl) ma (by decide +kernel) (pa_cons (pv 0) pa_nil)) (pa_cons (pv 1) pa_nil)) (by rfl))
      (pss_cons (ps_while PassesOwn.never (pt_cmpR op_gt (pv 3) pe_int (nomark _)) (pss_one (ps_par (i := 2) (j := 3) rfl sc_low.nd rfl rfl (by decide) rfl rfl (pa_cons (pv 3) (pa_cons (pe_op op_modN (pv 2) (pv 3)) pa_nil)) (by rfl))))
      (pss_one (ps_ret (pe_tup (pa_cons (pe_op op_fdivA (pv 0) (pv 2)) (pa_cons (pe_op op_fdivA (pv 1) (pv 2)) pa_nil)))))), ?_⟩
    refine ⟨_, rfl, a, rfl, _, rfl, _, _, rfl, ?_⟩
    refine while_by (fun σ H1 => H1 = H ∧ ∃ g s : Int, σ = [some (.int a), some (.int b), some (.int g), some (.int s)] ∧ 0 ≤ g ∧ 0 ≤ s ∧ Int.gcd g s = Int.gcd a b)
      (fun σ _ => match σ with | [_, _, _, some (.int s)] => s.toNat | _ => 0) ?_ ?_ ?_
    · refine ⟨rfl, _, _, rfl, ?_, Int.le_of_lt hb, ?_⟩
      · rw [abs_if]; omega
      · rw [abs_if]
        show Nat.gcd _ _ = Nat.gcd _ _
        rw [Int.natAbs_natCast]
    · rintro σ H1 ⟨rfl, g, s, rfl, hg, hs, e⟩
      refine ⟨_, rfl, s, 0, rfl, rfl, _, rfl, ite2 (fun c => ?_) (fun c => ?_)⟩
      · have hp : 0 < s := of_decide_eq_true c
        have lt : s > g.fmod s := Int.fmod_lt_of_pos g hp
        have nn : 0 ≤ g.fmod s := Int.fmod_nonneg_of_pos g hp
        refine ⟨_, rfl, _, rfl, _, rfl, g, s, rfl, rfl, Int.ne_of_gt hp, _, _, rfl, ⟨rfl, s, g.fmod s, rfl, hs, nn, ?_⟩, ?_⟩
        · rw [gcd_turn hp hg]; exact e
        · show (g.fmod s).toNat < s.toNat
          omega
      · have hs0 : s = 0 := by
          have : ¬ 0 < s := fun z => c (decide_eq_true z)
          omega
        subst hs0
        have eg : g = ratG a b := by
          unfold ratG
          rw [if_neg (by omega), ← e, Int.gcd_zero_right]
          omega
        obtain ⟨c1, c2⟩ := ratG_ok (t := a) (Int.ne_of_gt hb) sb (by decide) (by decide)
        rw [eg]
        exact ⟨_, rfl, _, rfl, a, _, rfl, rfl, c1, _, rfl, _, rfl, b, _, rfl, rfl, c2, by show 2 ≤ sizeLine; decide, q⟩
    · intro σ H1 Q1 Q2 hq h
      obtain ⟨v, e1, i, j, e2, e3, k, e4, h⟩ := h
      exact ⟨v, e1, i, j, e2, e3, k, e4, hq _ _ h⟩
/-- what comes of lowest terms is no greater -/
theorem fdiv_le {x g : Int} (hg : 0 < g) (hd : g ∣ x) : (x.fdiv g).natAbs ≤ x.natAbs := by
  obtain ⟨y, rfl⟩ := hd
  rw [Int.mul_fdiv_cancel_left y (Int.ne_of_gt hg), Int.natAbs_mul]
  have : 1 ≤ g.natAbs := by omega
  exact Nat.le_mul_of_pos_left _ this
theorem ratG_pos {t b : Int} (hb : 0 < b) : 0 < ratG t b ∧ ratG t b ∣ t ∧ ratG t b ∣ b := by
  have e : ratG t b = ((Int.gcd t b : Nat) : Int) := by
    unfold ratG
    rw [if_neg (by omega)]
  rw [e]
  have := (gcd_le (t := t) (Int.ne_of_gt hb)).1
  exact ⟨by omega, Int.gcd_dvd_left .., Int.gcd_dvd_right ..⟩
theorem ratT_sm {t b : Int} {n : Nat} (hb : 0 < b) (h : Sm n t) : Sm n (ratT t b) := by
  obtain ⟨h1, h2, _⟩ := ratG_pos (t := t) hb
  exact Nat.lt_of_le_of_lt (fdiv_le h1 h2) h
theorem ratB_sm {t b : Int} {n : Nat} (hb : 0 < b) (h : Sm n b) : Sm n (ratB t b) := by
  obtain ⟨h1, _, h2⟩ := ratG_pos (t := t) hb
  exact Nat.lt_of_le_of_lt (fdiv_le h1 h2) h
theorem ratB_pos {t b : Int} (hb : 0 < b) : 0 < ratB t b := by
  obtain ⟨h1, _, y, hy⟩ := ratG_pos (t := t) hb
  unfold ratB
  have e : b.fdiv (ratG t b) = y := by
    have := Int.mul_fdiv_cancel_left y (Int.ne_of_gt h1)
    rw [← hy] at this
    exact this
  rw [e]
  rcases Int.lt_trichotomy y 0 with z | z | z
  · have := Int.mul_neg_of_pos_of_neg h1 z
    omega
  · rw [z, Int.mul_zero] at hy
    omega
  · exact z
end

end Fp

set_option Elab.async false
set_option linter.all false
set_option maxRecDepth 100000
set_option maxHeartbeats 4000000
set_option exponentiation.threshold 10000
namespace Fp
open PySem PySem.Spec PyProof.Rows L2
abbrev s_ltimes : Stmt := topS 19
theorem sc_ltimes : FnScope ["_law_one", "_law_other"] ["_law_one", "_law_other"] (defScope s_ltimes) := ⟨rfl, rfl, rfl, by decide +kernel, rfl, by decide +kernel, by decide +kernel⟩
section
variable {P : Program} {w : World} {K : PySem.W.Frag} {mg : Str → Option Value} {base : Heap}
theorem ok_ltimes {f fR : Addr} {fd fdR : FuncData} (F : Fun K "_law_times" "_law_times" s_ltimes f fd) (FR : Fun K "_law_low" "_law_low" s_low fR fdR) (bR : Binds K fdR ["_law_top", "_law_bottom"] []) (gR : mg "_law_low" = some (.ref fR)) (GR : FnOk P w K mg base CX0 1 fR fdR ["_law_top", "_law_bottom"] spLow) : FnOk P w K mg base CX0 2 f fd ["_law_one", "_law_other"] (spTwo K (fun a b c d => a * c)) := by
  refine F.ok sc_ltimes (fun vs H Q E h => ?_) (fun cdv A outer s H vs Q E hr h => ?_)
  · obtain ⟨_, _, _, _, _, _, rfl, _⟩ := h
    rfl
  · obtain ⟨p1, p2, a, b, c, d, rfl, T, q⟩ := h
    refine ⟨_, pss_one (ps_ret (pe_call GR hr (by rfl) gR FR.kp bR .nil pass0 (pa_cons (pe_op op_mulA (pe_ix ix_tup (pv 0) pe_int (fun _ _ => rfl)) (pe_ix ix_tup (pv 1) pe_int (fun _ _ => rfl))) (pa_cons (pe_op op_mulA (pe_ix ix_tup (pv 0) pe_int (fun _ _ => rfl)) (pe_ix ix_tup (pv 1) pe_int (fun _ _ => rfl))) pa_nil)))), ?_⟩
    refine ⟨_, rfl, p1, _, 0, _, rfl, rfl, T.t1, atI_nat (j := 0) rfl, _, rfl, p2, _, 0, _, rfl, rfl, T.t2, atI_nat (j := 0) rfl, a, c, rfl, rfl, T.sa.cmul T.sc (by decide) (by decide) (by decide), _, rfl, p1, _, 1, _, rfl, rfl, T.t1, atI_nat (j := 1) rfl, _, rfl, p2, _, 1, _, rfl, rfl, T.t2, atI_nat (j := 1) rfl, b, d, rfl, rfl, T.sb.cmul T.sd (by decide) (by decide) (by decide), ?_⟩
    exact ⟨_, _, rfl, T.den, (T.sb.mul T.sd).mono (by decide), q⟩
end

end Fp

set_option Elab.async false
set_option linter.all false
set_option maxRecDepth 100000
set_option maxHeartbeats 4000000
set_option exponentiation.threshold 10000
namespace Fp
open PySem PySem.Spec PyProof.Rows L2
theorem tC_go {v : V} {σ : L2.St} {H : Hp} {Q : VK} (h : Q v H) : tC v σ H Q := h
theorem tYes_go {σ : L2.St} {H : Hp} {Q : Bool → Hp → Prop} (h : Q true H) : tYes σ H Q := h
/-! ### lives as they stand in the heap -/
abbrev RT := Int × Int
def RAt (K : PySem.W.Frag) (H : Hp) (p : Addr) (x : RT) : Prop := SqT K H p [.int x.1, .int x.2]
inductive RsAt (K : PySem.W.Frag) (H : Hp) : List Addr → List RT → Prop
  | nil : RsAt K H [] []
  | cons {p : Addr} {x : RT} {ps : List Addr} {xs : List RT} : RAt K H p x → RsAt K H ps xs → RsAt K H (p :: ps) (x :: xs)
def RowAt (K : PySem.W.Frag) (H : Hp) (p : Addr) (xs : List RT) : Prop := ∃ rs : List Addr, SqT K H p (rs.map V.ref) ∧ RsAt K H rs xs
def LifeAt (K : PySem.W.Frag) (H : Hp) (p : Addr) (row : List RT) (step : RT) : Prop := ∃ pr ps : Addr, SqT K H p [.ref pr, .ref ps] ∧ RowAt K H pr row ∧ RAt K H ps step
/-- tuples stay -/
def Tk (K : PySem.W.Frag) (H H' : Hp) : Prop := ∀ a xs, SqT K H a xs → SqT K H' a xs
section
variable {K : PySem.W.Frag} {H H' H2 : Hp}
theorem Tk.refl : Tk K H H := fun _ _ h => h
theorem Tk.trans (a : Tk K H H') (b : Tk K H' H2) : Tk K H H2 := fun p xs h => b p xs (a p xs h)
theorem Tk.same (e : Same H H') : Tk K H H' := fun _ _ h => sqT_same e h
theorem Tk.new {p : Addr} {o : HO} (n : H p = none) : Tk K H (upd H p o) := Tk.same (same_new n)
theorem Tk.keep {d c : Addr} {t : Int} (f : Feed H d c t) (e : Keep d H H') : Tk K H H' := fun _ _ h => sqT_keep f e h
theorem RAt.tk {p : Addr} {x : RT} (h : RAt K H p x) (e : Tk K H H') : RAt K H' p x := e _ _ h
theorem RsAt.tk : ∀ {ps : List Addr} {xs : List RT}, RsAt K H ps xs → Tk K H H' → RsAt K H' ps xs
  | _, _, .nil, _ => .nil
  | _, _, .cons h r, e => .cons (h.tk e) (r.tk e)
theorem RowAt.tk {p : Addr} {xs : List RT} (h : RowAt K H p xs) (e : Tk K H H') : RowAt K H' p xs := by
  obtain ⟨rs, h1, h2⟩ := h
  exact ⟨rs, e _ _ h1, h2.tk e⟩
theorem LifeAt.tk {p : Addr} {row : List RT} {step : RT} (h : LifeAt K H p row step) (e : Tk K H H') : LifeAt K H' p row step := by
  obtain ⟨pr, ps, h1, h2, h3⟩ := h
  exact ⟨pr, ps, e _ _ h1, h2.tk e, h3.tk e⟩
theorem RsAt.length : ∀ {ps : List Addr} {xs : List RT}, RsAt K H ps xs → ps.length = xs.length
  | _, _, .nil => rfl
  | _, _, .cons _ r => congrArg (· + 1) r.length
theorem RsAt.get : ∀ {ps : List Addr} {xs : List RT} {i : Nat} {x : RT}, RsAt K H ps xs → xs[i]? = some x → ∃ p, ps[i]? = some p ∧ RAt K H p x
  | _, _, _, _, .nil, e => by simp at e
  | _, _, 0, _, .cons h _, e => by
    cases Option.some.inj e
    exact ⟨_, rfl, h⟩
  | _, _, i + 1, x, .cons _ r, e => RsAt.get (i := i) (x := x) r e
theorem RsAt.append : ∀ {ps qs : List Addr} {xs ys : List RT}, RsAt K H ps xs → RsAt K H qs ys → RsAt K H (ps ++ qs) (xs ++ ys)
  | _, _, _, _, .nil, s => s
  | _, _, _, _, .cons h r, s => .cons h (r.append s)
theorem RsAt.take : ∀ {ps : List Addr} {xs : List RT} (n : Nat), RsAt K H ps xs → RsAt K H (ps.take n) (xs.take n)
  | _, _, 0, _ => .nil
  | _, _, _ + 1, .nil => .nil
  | _, _, n + 1, .cons h r => .cons h (r.take n)
theorem RsAt.drop : ∀ {ps : List Addr} {xs : List RT} (n : Nat), RsAt K H ps xs → RsAt K H (ps.drop n) (xs.drop n)
  | _, _, 0, r => r
  | _, _, _ + 1, .nil => .nil
  | _, _, n + 1, .cons _ r => RsAt.drop n r
end
/-! ### lowest terms -/
def low2 (t b : Int) : RT := (ratT t b, ratB t b)
/-- a ratio in lowest terms -/
def Red (x : RT) : Prop := 0 < x.2 ∧ Int.gcd x.1 x.2 = 1
theorem low2_red {t b : Int} (hb : b ≠ 0) : Red (low2 t b) := by
  have main : ∀ (t b : Int), 0 < b → Red (low2 t b) := fun t b hb => by
    refine ⟨ratB_pos hb, ?_⟩
    have e : ratG t b = ((Int.gcd t b : Nat) : Int) := by
      unfold ratG
      rw [if_neg (by omega)]
    have hg := (gcd_le (t := t) (Int.ne_of_gt hb)).1
    obtain ⟨h1, ⟨x, hx⟩, ⟨y, hy⟩⟩ := ratG_pos (t := t) hb
    have ex : t.fdiv (ratG t b) = x := by
      have := Int.mul_fdiv_cancel_left x (Int.ne_of_gt h1)
      rw [← hx] at this
      exact this
    have ey : b.fdiv (ratG t b) = y := by
      have := Int.mul_fdiv_cancel_left y (Int.ne_of_gt h1)
      rw [← hy] at this
      exact this
    show Int.gcd (t.fdiv (ratG t b)) (b.fdiv (ratG t b)) = 1
    rw [ex, ey]
    have z : Int.gcd t b = (ratG t b).natAbs * Int.gcd x y := by
      have := Int.gcd_mul_left (ratG t b) x y
      rw [← hx, ← hy] at this
      exact this
    have z2 : (ratG t b).natAbs = Int.gcd t b := by rw [e]; exact Int.natAbs_natCast _
    rw [z2] at z
    exact (Nat.eq_of_mul_eq_mul_left hg (by rw [Nat.mul_one]; exact z)).symm
  rcases (by omega : 0 < b ∨ b < 0) with z | z
  · exact main t b z
  · have e1 : ratG t b = -((Int.gcd t b : Nat) : Int) := by unfold ratG; rw [if_pos z]
    have e2 : ratG (-t) (-b) = ((Int.gcd t b : Nat) : Int) := by
      unfold ratG
      rw [if_neg (by omega)]
      show ((Nat.gcd _ _ : Nat) : Int) = ((Nat.gcd _ _ : Nat) : Int)
      rw [Int.natAbs_neg, Int.natAbs_neg]
    have fl : ∀ x g : Int, x.fdiv (-g) = (-x).fdiv g := fun x g => by
      have y := Int.neg_fdiv_neg (-x) g
      rw [Int.neg_neg] at y
      exact y
    have e : low2 t b = low2 (-t) (-b) := by
      unfold low2 ratT ratB
      rw [e1, e2, fl, fl]
    rw [e]
    exact main _ _ (by omega)
/-- the value of it: a by b, told crosswise -/
theorem low2_cross {t b : Int} (hb : 0 < b) : (low2 t b).1 * b = t * (low2 t b).2 := by
  obtain ⟨h1, ⟨x, hx⟩, ⟨y, hy⟩⟩ := ratG_pos (t := t) hb
  have ex : (low2 t b).1 = x := by
    show t.fdiv (ratG t b) = x
    have := Int.mul_fdiv_cancel_left x (Int.ne_of_gt h1)
    rw [← hx] at this
    exact this
  have ey : (low2 t b).2 = y := by
    show b.fdiv (ratG t b) = y
    have := Int.mul_fdiv_cancel_left y (Int.ne_of_gt h1)
    rw [← hy] at this
    exact this
  rw [ex, ey]
  generalize ratG t b = g at hx hy
  subst hx hy
  rw [Int.mul_comm g y, Int.mul_comm g x, Int.mul_assoc x g y, Int.mul_comm g y, ← Int.mul_assoc]
theorem dvd_cop {b a d : Int} (h : b ∣ a * d) (g : Int.gcd b a = 1) : b ∣ d := by
  rw [← Int.natAbs_dvd_natAbs] at h ⊢
  rw [Int.natAbs_mul] at h
  exact Nat.Coprime.dvd_of_dvd_mul_left g h
/-- two ratios in lowest terms of one value are one -/
theorem red_eq {x y : RT} (hx : Red x) (hy : Red y) (h : x.1 * y.2 = y.1 * x.2) : x = y := by
  obtain ⟨a, b⟩ := x
  obtain ⟨c, d⟩ := y
  obtain ⟨hb, g1⟩ := hx
  obtain ⟨hd, g2⟩ := hy
  dsimp only at *
  have b_d : b ∣ d := by
    have h1 : b ∣ a * d := ⟨c, by rw [h, Int.mul_comm]⟩
    exact dvd_cop h1 (by rw [Int.gcd_comm]; exact g1)
  have d_b : d ∣ b := by
    have h1 : d ∣ c * b := ⟨a, by rw [← h, Int.mul_comm]⟩
    exact dvd_cop h1 (by rw [Int.gcd_comm]; exact g2)
  have e : b = d := Int.dvd_antisymm (Int.le_of_lt hb) (Int.le_of_lt hd) b_d d_b
  subst e
  have e2 : a = c := Int.eq_of_mul_eq_mul_right (Int.ne_of_gt hb) h
  rw [e2]
def rT (x y : RT) : RT := low2 (x.1 * y.1) (x.2 * y.2)
/-! ### drawn lives -/
def lastW (ws : List Int) : Int := ws.getLastD 0
def wholeOf (ws : List Int) (extra : Int) (step : RT) : Int := (step.2 - step.1) * (ws.sum + extra) + step.1 * lastW ws
def rowOf (ws : List Int) (extra : Int) (step : RT) : List RT := ws.map fun x => low2 ((step.2 - step.1) * x) (wholeOf ws extra step)
structure Made (ws : List Int) (extra : Int) (step : RT) : Prop where
  ne : ws ≠ []
  len : ws.length ≤ 6
  nn : ∀ x ∈ ws, 0 ≤ x ∧ x ≤ 5
  last : 0 < lastW ws
  ex : 0 ≤ extra ∧ extra ≤ 8
  st : step = (0, 1) ∨ step = (1, 2) ∨ step = (1, 3) ∨ step = (2, 3) ∨ step = (3, 4)
theorem sum_bound : ∀ {ws : List Int}, (∀ x ∈ ws, 0 ≤ x ∧ x ≤ 5) → 0 ≤ ws.sum ∧ ws.sum ≤ 5 * (ws.length : Int)
  | [], _ => ⟨by decide, by decide⟩
  | x :: r, h => by
    have h1 := h x (List.mem_cons_self ..)
    have h2 := sum_bound fun y hy => h y (List.mem_cons_of_mem _ hy)
    rw [List.sum_cons, List.length_cons]
    omega
theorem last_le_sum : ∀ {ws : List Int}, (∀ x ∈ ws, 0 ≤ x ∧ x ≤ 5) → lastW ws ≤ ws.sum
  | [], _ => by decide
  | [x], h => by
    show x ≤ _
    rw [List.sum_cons, List.sum_nil]
    omega
  | x :: y :: r, h => by
    have h1 := h x (List.mem_cons_self ..)
    have h2 := last_le_sum (ws := y :: r) fun z hz => h z (List.mem_cons_of_mem _ hz)
    have e : lastW (x :: y :: r) = lastW (y :: r) := by
      unfold lastW
      rw [List.getLastD_cons, List.getLastD_cons]
      show _ = (y :: r).getLastD 0
      rw [List.getLastD_cons]
    rw [e, List.sum_cons]
    omega
theorem Made.step_ok {ws : List Int} {extra : Int} {step : RT} (m : Made ws extra step) : 0 ≤ step.1 ∧ step.1 < step.2 ∧ step.2 ≤ 4 ∧ Red step := by
  rcases m.st with rfl | rfl | rfl | rfl | rfl <;> exact ⟨by decide, by decide, by decide, by decide, by decide⟩
theorem Made.whole {ws : List Int} {extra : Int} {step : RT} (m : Made ws extra step) : 0 < wholeOf ws extra step ∧ wholeOf ws extra step ≤ 200 := by
  have h1 := sum_bound m.nn
  have h2 := last_le_sum m.nn
  have h3 := m.last
  have h4 := m.ex
  have h5 := m.len
  unfold wholeOf
  generalize ws.sum = S at *
  generalize lastW ws = L at *
  rcases m.st with rfl | rfl | rfl | rfl | rfl <;> dsimp only <;> omega

end Fp

set_option Elab.async false
set_option linter.all false
set_option maxRecDepth 100000
set_option maxHeartbeats 4000000
set_option exponentiation.threshold 10000
namespace Fp
open PySem PySem.Spec PyProof.Rows L2
abbrev s_life : Stmt := topS 20
abbrev N_life : List Str := ["_law_feed_here", "_law_way", "_law_many", "_law_part", "_law_weights", "_law_top", "_law_bottom", "_law_extra", "_law_whole", "_law_k", "_law_weight"]
theorem sc_life : FnScope N_life ["_law_feed_here", "_law_way"] (defScope s_life) := ⟨rfl, rfl, rfl, by decide +kernel, rfl, by decide +kernel, by decide +kernel⟩
theorem pick4 {a b c d : V} {r : Int} (h0 : 0 ≤ r) (h1 : r < 4) : ∃ v, atI [a, b, c, d] r = some v ∧ (v = a ∨ v = b ∨ v = c ∨ v = d) := by
  rcases (by omega : r = 0 ∨ r = 1 ∨ r = 2 ∨ r = 3) with rfl | rfl | rfl | rfl
  · exact ⟨a, atI_nat (j := 0) rfl, .inl rfl⟩
  · exact ⟨b, atI_nat (j := 1) rfl, .inr (.inl rfl)⟩
  · exact ⟨c, atI_nat (j := 2) rfl, .inr (.inr (.inl rfl))⟩
  · exact ⟨d, atI_nat (j := 3) rfl, .inr (.inr (.inr rfl))⟩
theorem pick2' {a b : V} {r : Int} (h0 : 0 ≤ r) (h1 : r < 2) : ∃ v, atI [a, b] r = some v ∧ (v = a ∨ v = b) := by
  rcases (by omega : r = 0 ∨ r = 1) with rfl | rfl
  · exact ⟨a, atI_nat (j := 0) rfl, .inl rfl⟩
  · exact ⟨b, atI_nat (j := 1) rfl, .inr rfl⟩
theorem tk_lst {K : PySem.W.Frag} {H : Hp} {p : Addr} {xs ys : List V} (h : H p = some (.lst xs)) : Tk K H (upd H p (.lst ys)) := fun a zs z => by
  rcases z with (z | ⟨o, z⟩) | z
  · exact .inl (.inl (by rw [upd_ne (ne_of z h (by intro y; cases y))]; exact z))
  · exact .inl (.inr ⟨o, by rw [upd_ne (ne_of z h (by intro y; cases y))]; exact z⟩)
  · exact .inr z
theorem last_set {ws : List Int} (h : ws ≠ []) (x : Int) : lastW (ws.set (ws.length - 1) x) = x := by
  unfold lastW
  rw [List.getLastD_eq_getLast?, List.getLast?_eq_getElem?, List.length_set, List.getElem?_set_self (by
    have := List.length_pos_iff.mpr h
    omega)]
  rfl
theorem last_get {ws : List Int} (h : ws ≠ []) : ws[ws.length - 1]? = some (lastW ws) := by
  unfold lastW
  rw [List.getLastD_eq_getLast?, List.getLast?_eq_getElem?]
  have := List.length_pos_iff.mpr h
  rw [List.getElem?_eq_getElem (by omega)]
  rfl
theorem atI_lastW {ws : List Int} (h : ws ≠ []) : atI (ws.map V.int) (-1) = some (.int (lastW ws)) := by
  have e : ws.map V.int = ws.dropLast.map V.int ++ [V.int (ws.getLast h)] := by
    rw [← List.map_singleton, ← List.map_append, List.dropLast_concat_getLast]
  rw [e, atI_last]
  unfold lastW
  rw [List.getLastD_eq_getLast?, List.getLast?_eq_some_getLast h]
  rfl
section
variable {P : Program} {w : World} {K : PySem.W.Frag} {mg : Str → Option Value} {base : Heap}
def spLife (K : PySem.W.Frag) : Sp := fun vs H Q _ => ∃ (d c : Addr) (way t : Int), vs = [.ref d, .int way] ∧ Feed H d c t ∧ t ≤ 900000 ∧
  ∀ p ws extra step t' H', Keep d H H' → Feed H' d c t' → t' ≤ t + 12 → Made ws extra step → (way ≠ 2 → way ≠ 4 → extra = 0) → (way = 2 ∨ way = 4 → 0 < extra) → (way ≠ 3 → way ≠ 4 → step = (0, 1)) → LifeAt K H' p (rowOf ws extra step) step → Q (.ref p) H'
theorem draws_row {K : PySem.W.Frag} {H : Hp} {rs : List Addr} {xs : List RT} {p : Addr} {x : RT} (h : RsAt K H rs xs) (e : RAt K H p x) : RsAt K H (rs ++ [p]) (xs ++ [x]) := h.append (.cons e .nil)
theorem in_two {a b x : Int} : inV (.int x) [.int a, .int b] = (decide (x = a) || decide (x = b)) := by
  have e : ∀ y : Int, eqV (.int y) (.int x) = decide (x = y) := fun y => by
    show (y == x) = _
    rw [Bool.eq_iff_iff]
    simp
    exact ⟨fun z => z.symm, fun z => z.symm⟩
  unfold inV
  rw [List.any_cons, List.any_cons, List.any_nil, e, e, Bool.or_false]
theorem map_last {ws : List Int} (h : ws ≠ []) (x : Int) : ws.set (ws.length - 1) x ≠ [] := by
  intro z
  have := congrArg List.length z
  rw [List.length_set, List.length_nil] at this
  exact h (List.length_eq_zero_iff.mp this)
theorem ixN_last {n : Nat} (h : 0 < n) : ixN n (-1) = some (n - 1) := by
  unfold ixN
  rw [if_neg (by omega)]
  first
    | (rw [if_pos (by omega)]; congr 1; omega)
    | (simp; omega)
theorem ok_life {f fD fL : Addr} {fd fdD fdL : FuncData} (F : Fun K "_law_life" "_law_life" s_life f fd) (FD : Fun K "_law_draw" "_law_draw" s_draw fD fdD) (bD : Binds K fdD ["_law_feed_here", "_law_many"] []) (gD : mg "_law_draw" = some (.ref fD))
    (GD : FnOk P w K mg base CX0 1 fD fdD ["_law_feed_here", "_law_many"] spDraw)
    (FL : Fun K "_law_low" "_law_low" s_low fL fdL) (bL : Binds K fdL ["_law_top", "_law_bottom"] []) (gL : mg "_law_low" = some (.ref fL)) (GL : FnOk P w K mg base CX0 1 fL fdL ["_law_top", "_law_bottom"] spLow)
    (mr : mg "range" = none) (mi : mg "int" = none) (ms : mg "sum" = none) (mt : mg "tuple" = none) : FnOk P w K mg base CX0 2 f fd ["_law_feed_here", "_law_way"] (spLife K) := by
  refine F.ok sc_life (fun vs H Q E h => ?_) (fun cdv A outer s H vs Q E hr h => ?_)
  · obtain ⟨_, _, _, _, rfl, _⟩ := h
    rfl
  · obtain ⟨d, c, way, t, rfl, f0, ht, q⟩ := h
    have hr1 := hr
    refine ⟨_, (pss_cons (ps_set (i := 2) sc_life.nd rfl (.inl rfl) (pe_op op_add pe_int (pe_call GD hr (by rfl) gD FD.kp bD .nil pass0 (pa_cons (pv 0) (pa_cons (pe_ix ix_list (pe_lst (pa_cons pe_int (pa_cons pe_int pa_nil))) (pe_call GD hr (by rfl) gD FD.kp bD .nil pass0 (pa_cons (pv 0) (pa_cons pe_int pa_nil))) (fun _ _ => rfl)) pa_nil))))) (pss_cons (ps_set (i := 3) sc_life.nd rfl (.inr rfl) (pe_op op_add pe_int (pe_call GD hr (by rfl) gD FD.kp bD .nil pass0 (pa_cons (pv 0) (pa_cons pe_int pa_nil))))) (pss_mid (ps_if (pt_cmpR op_eq (pv 1) pe_int (nomark _)) (pss_one (ps_set (i := 2) sc_life.nd rfl (.inl rfl) (pe_op op_mul (pv 3) (pe_op op_add pe_int (pe_call GD hr (by rfl) gD FD.kp bD .nil pass0 (pa_cons (pv 0) (pa_cons (pe_op op_fdiv pe_int (pv 3)) pa_nil))))))) pss_nil) (pss_mid (ps_set (i := 4) sc_life.nd rfl (.inr rfl) (pe_lc (own := [("_law_k", 9)]) (g := gName 9) (tt := tYes) rfl sc_life.nd (pi_range1 (by rfl) mr (pa_cons (pv 2) pa_nil)) (blkOk_by (own := [("_law_k", 9)]) (N := N_life) (sc := defScope s_life) (by decide +kernel))
          (fun _ _ _ _ _ => pg_name (i := 9) sc_life.nd rfl (.inl rfl)) (fun _ _ _ _ _ => pts_nil) (fun _ _ _ _ _ => (pe_call GD hr (by rfl) gD FD.kp bD .nil pass0 (pa_cons (pv 0) (pa_cons pe_int pa_nil)))))) (pss_mid (ps_asg (pe_ifExp (pt_cmpR op_in_seq (pv 1) (pe_tup (pa_cons pe_int (pa_cons pe_int pa_nil))) (by rfl))
          (pe_ix ix_list (pe_lst (pa_cons (pe_tup (pa_cons pe_int (pa_cons pe_int pa_nil))) (pa_cons (pe_tup (pa_cons pe_int (pa_cons pe_int pa_nil))) (pa_cons (pe_tup (pa_cons pe_int (pa_cons pe_int pa_nil))) (pa_cons (pe_tup (pa_cons pe_int (pa_cons pe_int pa_nil))) pa_nil))))) (pe_call GD hr (by rfl) gD FD.kp bD .nil pass0 (pa_cons (pv 0) (pa_cons pe_int pa_nil))) (fun _ _ => rfl))
          (pe_tup (pa_cons pe_int (pa_cons pe_int pa_nil)))) (pg_tup rfl (pgs_cons (pg_name (i := 5) sc_life.nd rfl (.inr rfl)) (pgs_cons (pg_name (i := 6) sc_life.nd rfl (.inr rfl)) pgs_nil)))) (pss_mid (ps_if (pt_cmpR op_eq (pv 1) pe_int (nomark _)) (pss_one (ps_set (i := 4) sc_life.nd rfl (.inr rfl) (pe_lc (own := [("_law_k", 9)]) (g := gName 9) (tt := tYes) (te := tOp (rI CMul fun i j => .int (i * j)) (tOp (rIxL K) (tVar 4) (tVar 9)) (tCB (fun xs H Q => (∃ i, xs = [.int i] ∧ Q (.int i) H) ∨ ∃ k, xs = [.bl k] ∧ Q (.int (if k then 1 else 0)) H) (tCons (tOp rEq (tOp (rI (fun _ j => j ≠ 0) fun i j => .int (i.fmod j)) (tOp (rI0 fun i j => .int (i + j)) (tVar 9) (tC (.int 1))) (tVar 3)) (tC (.int 0))) tNil))) rfl sc_life.nd (pi_range1 (by rfl) mr (pa_cons (pv 2) pa_nil)) (blkOk_by (own := [("_law_k", 9)]) (N := N_life) (sc := defScope s_life) (by decide +kernel))
          (fun _ _ _ _ _ => pg_name (i := 9) sc_life.nd rfl (.inl rfl)) (fun _ _ _ _ _ => pts_nil)
          (fun _ _ _ _ _ => (pe_op op_mul (pe_ix ix_list (pv 4) (pv 9) (fun _ _ => rfl)) (pe_callTy call_int1 (by rfl) mi (by decide +kernel) (pa_cons (pe_cmpR op_eq (pe_op op_modN (pe_op op_add (pv 9) pe_int) (pv 3)) pe_int (nomark _)) pa_nil))))))) pss_nil) (pss_mid (ps_asg (pe_op op_add (pe_ix ix_list (pv 4) (pe_un un_neg pe_int) (fun _ _ => rfl)) pe_int) (pg_sub (pv 4) (pe_un un_neg pe_int) set_list)) (pss_mid (ps_set (i := 7) sc_life.nd rfl (.inl rfl) (pe_ifExp (pt_cmpR op_in_seq (pv 1) (pe_tup (pa_cons pe_int (pa_cons pe_int pa_nil))) (by rfl)) (pe_op op_add pe_int (pe_call GD hr (by rfl) gD FD.kp bD .nil pass0 (pa_cons (pv 0) (pa_cons pe_int pa_nil)))) pe_int)) (pss_cons (ps_set (i := 8) sc_life.nd rfl (.inr rfl) (pe_op op_add (pe_op op_mul (pe_op op_sub (pv 6) (pv 5)) (pe_op op_add (pe_callB (cr_sum rfl) (by rfl) ms (by decide +kernel) (pa_cons (pv 4) pa_nil)) (pv 7))) (pe_op op_mul (pv 5) (pe_ix ix_list (pv 4) (pe_un un_neg pe_int) (fun _ _ => rfl))))) (pss_one (ps_ret (pe_tup (pa_cons (pe_callTy call_tuple_of (by rfl) mt (by decide +kernel) (pa_cons (pe_lc (own := [("_law_weight", 10)]) (g := gName 10) (tt := tYes) rfl sc_life.nd (pi_list (pv 4)) (blkOk_by (own := [("_law_weight", 10)]) (N := N_life) (sc := defScope s_life) (by decide +kernel))
          (fun _ _ _ _ _ => pg_name (i := 10) sc_life.nd rfl (.inl rfl)) (fun _ _ _ _ _ => pts_nil) (fun _ _ _ _ _ => (pe_call GL hr1 (by rfl) gL FL.kp bL .nil pass0 (pa_cons (pe_op op_mul (pe_op op_sub (pv 6) (pv 5)) (pv 10)) (pa_cons (pv 8) pa_nil))))) pa_nil))
          (pa_cons (pe_tup (pa_cons (pv 5) (pa_cons (pv 6) pa_nil))) pa_nil)))))))))))))), ?_⟩
    -- many, part
    refine ⟨_, rfl, by show 2 ≤ sizeLine; decide, fun p1 n1 => ?_⟩
    refine ⟨_, rfl, d, c, 2, t, rfl, f0.new n1, by omega, by decide, by decide, fun r1 H1 h10 h11 k1 f1 => ?_⟩
    obtain ⟨v1, e1, c1⟩ := pick2' (a := V.int 3) (b := V.int 6) h10 h11
    obtain ⟨x1, rfl, y1⟩ : ∃ x : Int, v1 = .int x ∧ 0 < x ∧ x ≤ 6 := by
      rcases c1 with z | z
      · exact ⟨3, z, by decide, by decide⟩
      · exact ⟨6, z, by decide, by decide⟩
    refine ⟨p1, _, r1, _, rfl, rfl, SqL.of (keep_at (f0.new n1) k1 upd_same (fun _ z => nomatch z)), e1, ?_⟩
    refine ⟨d, c, x1, t + 1, rfl, f1, by omega, y1.1, by omega, fun r2 H2 h20 h21 k2 f2 => ?_⟩
    refine ⟨1, r2, rfl, rfl, ?_⟩
    refine ⟨_, rfl, d, c, 2, t + 1 + 1, rfl, f2, by omega, by decide, by decide, fun r3 H3 h30 h31 k3 f3 => ?_⟩
    refine ⟨2, r3, rfl, rfl, ?_⟩
    have K3 := (keep_new n1 k1).trans (k2.trans k3)
    -- way 5
    refine ⟨fun σ H4 => ∃ many t4 : Int, σ = [some (.ref d), some (.int way), some (.int many), some (.int (2 + r3)), none, none, none, none, none, none, none] ∧ Keep d H H4 ∧ Feed H4 d c t4 ∧ t4 ≤ t + 4 ∧ 1 ≤ many ∧ many ≤ 6, ?_, ?_⟩
    · refine ⟨_, rfl, rfl, _, rfl, ite2 (fun c5 => ?_) (fun c5 => ?_)⟩
      · refine ⟨_, rfl, _, rfl, _, rfl, 6, 2 + r3, rfl, rfl, ⟨by omega, by omega⟩, ?_⟩
        have m6 : 1 ≤ 6 / (2 + r3) ∧ (2 + r3) * (6 / (2 + r3)) ≤ 6 := by
          rcases (by omega : r3 = 0 ∨ r3 = 1) with rfl | rfl <;> decide
        refine ⟨d, c, _, t + 1 + 1 + 1, rfl, f3, by omega, by omega, ?_, fun r4 H4 h40 h41 k4 f4 => ?_⟩
        · rcases (by omega : r3 = 0 ∨ r3 = 1) with rfl | rfl <;> decide
        · refine ⟨1, r4, rfl, rfl, 2 + r3, 1 + r4, rfl, rfl, .inl ⟨by omega, by omega⟩, _, _, rfl, K3.trans k4, f4, by omega, ?_, ?_⟩
          · rcases (by omega : r3 = 0 ∨ r3 = 1) with rfl | rfl <;> omega
          · rcases (by omega : r3 = 0 ∨ r3 = 1) with rfl | rfl
            · have : r4 < 3 := h41
              omega
            · have : r4 < 2 := h41
              omega
      · exact ⟨_, _, rfl, K3, f3, by omega, by omega, by omega⟩
    rintro σ H4 ⟨many, t4, rfl, K4, f4, ht4, hm1, hm6⟩
    -- weights
    refine ⟨fun σ H5 => ∃ (W : Addr) (ws : List Int) (t5 : Int), σ = [some (.ref d), some (.int way), some (.int many), some (.int (2 + r3)), some (.ref W), none, none, none, none, none, none] ∧ Keep d H H5 ∧ Feed H5 d c t5 ∧ t5 ≤ t4 + many ∧ H W = none ∧ W ≠ c ∧
      H5 W = some (.lst (ws.map V.int)) ∧ (ws.length : Int) = many ∧ ∀ x ∈ ws, 0 ≤ x ∧ x ≤ 4, ?_, ?_⟩
    · refine ⟨_, rfl, many, rfl, by omega, by omega, fun W nW => ?_⟩
      have nW0 := K4.none f4 nW
      have nWc := f4.nc nW
      have nWd := f4.nd nW
      refine lc_range (lo := 0) (n := many.toNat) (fun i H5 => ∃ (ws : List Int) (t5 : Int), Keep d H H5 ∧ Feed H5 d c t5 ∧ t5 = t4 + i ∧ H5 W = some (.lst (ws.map V.int)) ∧ ws.length = i ∧ ∀ x ∈ ws, 0 ≤ x ∧ x ≤ 4) ?_ ?_ ?_
      · exact ⟨[], t4, K4.wr nW0, f4.wr nWd nWc, by omega, upd_same, rfl, fun x hx => by simp at hx⟩
      · rintro i H5 hi ⟨ws, t5, K5, f5, et, hW, hl, hx⟩
        refine ⟨rfl, tYes_go ?_⟩
        refine iteT ?_
        refine ⟨_, rfl, d, c, 5, t5, rfl, f5, by omega, by decide, by decide, fun r H6 h0 h1 k6 f6 => ?_⟩
        refine ⟨ws.map V.int, keep_at f5 k6 hW (fun _ z => nomatch z), by rw [List.length_map, hl]; exact small1000 (by omega), ?_⟩
        refine ⟨ws ++ [r], t5 + 1, (K5.trans k6).wr nW0, f6.wr nWd nWc, by omega, ?_, by simp [hl], fun x hx2 => ?_⟩
        · rw [upd_same, List.map_append]
          rfl
        · rcases List.mem_append.mp hx2 with z | z
          · exact hx x z
          · have := List.mem_singleton.mp z
            omega
      · rintro H5 ⟨ws, t5, K5, f5, et, hW, hl, hx⟩
        exact ⟨W, ws, t5, rfl, K5, f5, by omega, nW0, nWc, hW, by omega, hx⟩
    rintro σ H5 ⟨W, ws, t5, rfl, K5, f5, ht5, nW0, nWc, hW, hl, hx⟩
    -- top, bottom
    refine ⟨fun σ H6 => ∃ (step : RT) (t6 : Int), σ = [some (.ref d), some (.int way), some (.int many), some (.int (2 + r3)), some (.ref W), some (.int step.1), some (.int step.2), none, none, none, none] ∧ Keep d H H6 ∧ Feed H6 d c t6 ∧ t6 ≤ t5 + 1 ∧ H6 W = some (.lst (ws.map V.int)) ∧
      (step = (0, 1) ∨ step = (1, 2) ∨ step = (1, 3) ∨ step = (2, 3) ∨ step = (3, 4)) ∧ (way ≠ 3 → way ≠ 4 → step = (0, 1)), ?_, ?_⟩
    · refine ⟨_, rfl, by show 2 ≤ sizeLine; decide, fun p2 n2 => ?_⟩
      refine ⟨p2, _, rfl, .inr (SqT.of upd_same), rfl, rfl, _, rfl, ?_⟩
      rw [in_two]
      have a2 := same_new (o := HO.tup [.int 3, .int 4]) n2
      refine ite2 (fun c6 => ?_) (fun c6 => ?_)
      · refine ⟨by show 2 ≤ sizeLine; decide, fun q1 m1 => ?_⟩
        have a3 := same_new (o := HO.tup [.int 1, .int 2]) m1
        refine ⟨by show 2 ≤ sizeLine; decide, fun q2 m2 => ?_⟩
        have a4 := same_new (o := HO.tup [.int 1, .int 3]) m2
        refine ⟨by show 2 ≤ sizeLine; decide, fun q3 m3 => ?_⟩
        have a5 := same_new (o := HO.tup [.int 2, .int 3]) m3
        refine ⟨by show 2 ≤ sizeLine; decide, fun q4 m4 => ?_⟩
        have a6 := same_new (o := HO.tup [.int 3, .int 4]) m4
        refine ⟨by show 4 ≤ sizeLine; decide, fun q5 m5 => ?_⟩
        have a7 := same_new (o := HO.lst [.ref q1, .ref q2, .ref q3, .ref q4]) m5
        have S := a2.trans (a3.trans (a4.trans (a5.trans (a6.trans a7))))
        have g1 := a7 _ _ (a6 _ _ (a5 _ _ (a4 _ _ (upd_same (H := upd H5 p2 (HO.tup [.int 3, .int 4])) (a := q1) (o := HO.tup [.int 1, .int 2])))))
        have g2 := a7 _ _ (a6 _ _ (a5 _ _ (upd_same (H := upd (upd H5 p2 (HO.tup [.int 3, .int 4])) q1 (HO.tup [.int 1, .int 2])) (a := q2) (o := HO.tup [.int 1, .int 3]))))
        have g3 := a7 _ _ (a6 _ _ (upd_same (H := upd (upd (upd H5 p2 (HO.tup [.int 3, .int 4])) q1 (HO.tup [.int 1, .int 2])) q2 (HO.tup [.int 1, .int 3])) (a := q3) (o := HO.tup [.int 2, .int 3])))
        have g4 := a7 _ _ (upd_same (H := upd (upd (upd (upd H5 p2 (HO.tup [.int 3, .int 4])) q1 (HO.tup [.int 1, .int 2])) q2 (HO.tup [.int 1, .int 3])) q3 (HO.tup [.int 2, .int 3])) (a := q4) (o := HO.tup [.int 3, .int 4]))
        have fS := f5.same S
        refine ⟨_, rfl, d, c, 4, t5, rfl, fS, by omega, by decide, by decide, fun r H6 h0 h1 k6 f6 => ?_⟩
        have tk : Tk K _ H6 := Tk.keep fS k6
        obtain ⟨v, ev, cv⟩ := pick4 (a := V.ref q1) (b := V.ref q2) (c := V.ref q3) (d := V.ref q4) h0 h1
        obtain ⟨qq, step, rfl, hs, hq⟩ : ∃ (qq : Addr) (step : RT), v = .ref qq ∧ (step = (0, 1) ∨ step = (1, 2) ∨ step = (1, 3) ∨ step = (2, 3) ∨ step = (3, 4)) ∧ SqT K H6 qq [.int step.1, .int step.2] := by
          rcases cv with z | z | z | z
          · exact ⟨q1, (1, 2), z, by decide, tk _ _ (SqT.of g1)⟩
          · exact ⟨q2, (1, 3), z, by decide, tk _ _ (SqT.of g2)⟩
          · exact ⟨q3, (2, 3), z, by decide, tk _ _ (SqT.of g3)⟩
          · exact ⟨q4, (3, 4), z, by decide, tk _ _ (SqT.of g4)⟩
        refine ⟨q5, _, r, _, rfl, rfl, SqL.of (keep_at fS k6 upd_same (fun _ z => nomatch z)), ev, ?_⟩
        refine ⟨qq, _, rfl, hq, rfl, _, _, rfl, _, _, rfl, rfl, step, t5 + 1, rfl, K5.trans ((Keep.of_same S).trans k6), f6, by omega, keep_at fS k6 (S _ _ hW) (fun _ z => nomatch z), hs, fun z1 z2 => ?_⟩
        simp [z1, z2] at c6
      · refine ⟨by show 2 ≤ sizeLine; decide, fun q1 m1 => ?_⟩
        have a3 := same_new (o := HO.tup [.int 0, .int 1]) m1
        exact ⟨q1, _, rfl, SqT.of upd_same, rfl, _, _, rfl, _, _, rfl, rfl, (0, 1), t5, rfl, K5.trans ((Keep.of_same a2).trans (Keep.of_same a3)), (f5.same a2).same a3, by omega, a3 _ _ (a2 _ _ hW), .inl rfl, fun _ _ => rfl⟩
    rintro σ H6 ⟨step, t6, rfl, K6, f6, ht6, hW6, hst, hs34⟩
    -- way 5 again
    refine ⟨fun σ H7 => ∃ (W : Addr) (ws : List Int) (y9 : Option V), σ = [some (.ref d), some (.int way), some (.int many), some (.int (2 + r3)), some (.ref W), some (.int step.1), some (.int step.2), none, none, y9, none] ∧ Keep d H H7 ∧ Feed H7 d c t6 ∧ H W = none ∧ W ≠ c ∧
      H7 W = some (.lst (ws.map V.int)) ∧ (ws.length : Int) = many ∧ ∀ x ∈ ws, 0 ≤ x ∧ x ≤ 4, ?_, ?_⟩
    · refine ⟨_, rfl, rfl, _, rfl, ite2 (fun c5 => ?_) (fun c5 => ?_)⟩
      · refine ⟨_, rfl, many, rfl, by omega, by omega, fun W2 n2 => ?_⟩
        have m0 := K6.none f6 n2
        have mc := f6.nc n2
        have md := f6.nd n2
        have nWW : W ≠ W2 := ne_of_none hW6 n2
        refine lc_range (lo := 0) (n := many.toNat) (fun i H7 => ∃ us : List Int, Keep d H H7 ∧ Feed H7 d c t6 ∧ H7 W = some (.lst (ws.map V.int)) ∧ H7 W2 = some (.lst (us.map V.int)) ∧ us.length = i ∧ ∀ x ∈ us, 0 ≤ x ∧ x ≤ 4) ?_ ?_ ?_
        · refine ⟨[], K6.wr m0, f6.wr md mc, ?_, upd_same, rfl, fun x hx => by simp at hx⟩
          rw [upd_ne nWW]
          exact hW6
        · rintro i H7 hi ⟨us, K7, f7, hW7, hU7, hul, hux⟩
          have hi2 : i < ws.length := by omega
          have hg : (ws.map V.int)[i]? = some (.int ws[i]) := by
            rw [List.getElem?_map, List.getElem?_eq_getElem hi2]
            rfl
          have hwi := hx ws[i] (List.getElem_mem hi2)
          refine ⟨rfl, tYes_go ?_⟩
          refine iteT ?_
          refine ⟨_, rfl, _, rfl, W, _, _, _, rfl, rfl, SqL.of hW7, at_of (by omega) hg, ?_⟩
          refine ⟨_, rfl, _, 1, rfl, rfl, _, rfl, _, 2 + r3, rfl, rfl, by show (2 + r3 : Int) ≠ 0; omega, rfl, .inr ⟨_, rfl, ?_⟩⟩
          have fin : ∀ b : Bool, 0 ≤ ws[i] * (if b = true then 1 else 0) ∧ ws[i] * (if b = true then 1 else 0) ≤ 4 := fun b => by
            cases b
            · rw [if_neg (by decide), Int.mul_zero]
              exact ⟨by decide, by decide⟩
            · rw [if_pos rfl, Int.mul_one]
              exact hwi
          refine ⟨_, _, rfl, rfl, .inl ⟨by omega, by omega⟩, us.map V.int, hU7, by rw [List.length_map, hul]; exact small1000 (by omega), us ++ [ws[i] * (if decide (V.int ((0 + (i : Int) + 1).fmod (2 + r3)) = V.int 0) = true then 1 else 0)], K7.wr m0, f7.wr md mc, ?_, ?_, by simp [hul], fun x hx2 => ?_⟩
          · rw [upd_ne nWW]
            exact hW7
          · rw [upd_same, List.map_append]
            rfl
          · rcases List.mem_append.mp hx2 with z | z
            · exact hux x z
            · have := List.mem_singleton.mp z
              subst this
              exact fin _
        · rintro H7 ⟨us, K7, f7, hW7, hU7, hul, hux⟩
          exact ⟨W2, us, _, rfl, K7, f7, m0, mc, hU7, by omega, hux⟩
      · exact ⟨W, ws, _, rfl, K6, f6, nW0, nWc, hW6, hl, hx⟩
    clear hx hl hW6 hW nWc nW0
    rintro σ H7 ⟨W, ws, y9, rfl, K7, f7, nW0, nWc, hW, hl, hx⟩
    have hne : ws ≠ [] := fun z => by
      rw [z] at hl
      simp at hl
      omega
    have nWd : W ≠ d := f7.ne hW (fun _ z => nomatch z)
    -- the last one
    refine ⟨fun σ H8 => ∃ us : List Int, σ = [some (.ref d), some (.int way), some (.int many), some (.int (2 + r3)), some (.ref W), some (.int step.1), some (.int step.2), none, none, y9, none] ∧ Keep d H H8 ∧ Feed H8 d c t6 ∧ H8 W = some (.lst (us.map V.int)) ∧
      us ≠ [] ∧ us.length ≤ 6 ∧ (∀ x ∈ us, 0 ≤ x ∧ x ≤ 5) ∧ 0 < lastW us, ?_, ?_⟩
    · have hlast : 0 ≤ lastW ws ∧ lastW ws ≤ 4 := hx _ (by
        have := last_get hne
        exact List.mem_of_getElem? this)
      refine ⟨_, rfl, 1, rfl, W, _, -1, _, rfl, rfl, SqL.of hW, atI_lastW hne, lastW ws, 1, rfl, rfl, ?_⟩
      refine ⟨_, rfl, 1, rfl, W, _, -1, ws.length - 1, rfl, rfl, hW, ?_, ?_⟩
      · rw [List.length_map]
        exact ixN_last (List.length_pos_iff.mpr hne)
      · refine ⟨ws.set (ws.length - 1) (lastW ws + 1), rfl, K7.wr nW0, f7.wr nWd nWc, ?_, map_last hne _, ?_, fun x hx2 => ?_, ?_⟩
        · rw [upd_same, List.map_set]
        · rw [List.length_set]
          omega
        · rcases List.mem_or_eq_of_mem_set hx2 with z | z
          · have := hx x z
            omega
          · omega
        · rw [last_set hne]
          omega
    clear hx hl hW hne
    rintro σ H8 ⟨us, rfl, K8, f8, hW, hne, hl, hx, hlast⟩
    -- extra
    refine ⟨fun σ H9 => ∃ extra t9 : Int, σ = [some (.ref d), some (.int way), some (.int many), some (.int (2 + r3)), some (.ref W), some (.int step.1), some (.int step.2), some (.int extra), none, y9, none] ∧ Keep d H H9 ∧ Feed H9 d c t9 ∧ t9 ≤ t6 + 1 ∧ H9 W = some (.lst (us.map V.int)) ∧
      0 ≤ extra ∧ extra ≤ 8 ∧ (way ≠ 2 → way ≠ 4 → extra = 0) ∧ (way = 2 ∨ way = 4 → 0 < extra), ?_, ?_⟩
    · refine ⟨_, rfl, by show 2 ≤ sizeLine; decide, fun p2 n2 => ?_⟩
      refine ⟨p2, _, rfl, .inr (SqT.of upd_same), rfl, rfl, _, rfl, ?_⟩
      rw [in_two]
      have a2 := same_new (o := HO.tup [.int 2, .int 4]) n2
      refine ite2 (fun c6 => ?_) (fun c6 => ?_)
      · refine ⟨_, rfl, d, c, 8, t6, rfl, f8.same a2, by omega, by decide, by decide, fun r H9 h0 h1 k9 f9 => ?_⟩
        refine ⟨1, r, rfl, rfl, 1 + r, t6 + 1, rfl, K8.trans ((Keep.of_same a2).trans k9), f9, by omega, keep_at (f8.same a2) k9 (a2 _ _ hW) (fun _ z => nomatch z), by omega, by omega, fun z1 z2 => ?_, fun _ => by omega⟩
        simp [z1, z2] at c6
      · refine ⟨0, t6, rfl, K8.trans (Keep.of_same a2), f8.same a2, by omega, a2 _ _ hW, by decide, by decide, fun _ _ => rfl, fun z => ?_⟩
        rcases z with z | z <;> simp [z] at c6
    rintro σ H9 ⟨extra, t9, rfl, K9, f9, ht9, hW9, he0, he8, he24, hep⟩
    have M : Made us extra step := ⟨hne, hl, hx, hlast, ⟨he0, he8⟩, hst⟩
    obtain ⟨s1, s2, s3, s4⟩ := M.step_ok
    have hsum := sum_bound hx
    have hll := last_le_sum hx
    obtain ⟨w0, w1⟩ := M.whole
    -- whole
    refine ⟨_, rfl, _, rfl, step.2, step.1, rfl, rfl, _, rfl, W, us, rfl, SqL.of hW9, _, rfl, us.sum, extra, rfl, rfl, _, _, rfl, rfl, .inl ⟨by omega, by omega⟩,
      _, rfl, _, rfl, 1, rfl, W, _, -1, _, rfl, rfl, SqL.of hW9, atI_lastW hne, step.1, lastW us, rfl, rfl, .inl ⟨by omega, by omega⟩, _, _, rfl, rfl, ?_⟩
    -- the row
    refine ⟨_, rfl, W, rfl, ⟨_, SqL.of hW9⟩, fun R nR => ?_⟩
    have nRW : W ≠ R := ne_of_none hW9 nR
    have nR0 := K9.none f9 nR
    have nRc := f9.nc nR
    have nRd := f9.nd nR
    refine lc_list (K := K) (a := W) (xs := us.map V.int) (fun i HA => ∃ rs : List Addr, Keep d H HA ∧ Feed HA d c t9 ∧ HA W = some (.lst (us.map V.int)) ∧ HA R = some (.lst (rs.map V.ref)) ∧ RsAt K HA rs ((rowOf us extra step).take i)) ?_ ?_ ?_ ?_
    · refine ⟨[], K9.wr nR0, f9.wr nRd nRc, ?_, upd_same, .nil⟩
      rw [upd_ne nRW]
      exact hW9
    · rintro i HA hi ⟨rs, KA, fA, hWA, hRA, hrs⟩
      exact SqL.of hWA
    · rintro i y HA hi ⟨rs, KA, fA, hWA, hRA, hrs⟩
      obtain ⟨x, hxi, rfl⟩ : ∃ x, us[i]? = some x ∧ y = V.int x := by
        rw [List.getElem?_map] at hi
        match e : us[i]? with
        | none =>
          rw [e] at hi
          cases hi
        | some z =>
          rw [e] at hi
          exact ⟨z, rfl, (Option.some.inj hi).symm⟩
      have hx5 := hx x (List.mem_of_getElem? hxi)
      have hlen : i < us.length := (List.getElem?_eq_some_iff.mp hxi).1
      refine ⟨rfl, tYes_go ?_⟩
      refine iteT ?_
      refine ⟨_, rfl, _, rfl, step.2, step.1, rfl, rfl, _, rfl, _, x, rfl, rfl, .inl ⟨by omega, by omega⟩, _, rfl, ?_⟩
      refine ⟨_, _, rfl, w0, ?_, fun p np => ?_⟩
      · have : Sm 8 (wholeOf us extra step) := by
          unfold Sm
          omega
        exact this.mono (by decide)
      have nRp : R ≠ p := ne_of_none hRA np
      have hr2 := same_new (o := HO.tup [.int (ratT ((step.2 - step.1) * x) (wholeOf us extra step)), .int (ratB ((step.2 - step.1) * x) (wholeOf us extra step))]) np
      refine ⟨rs.map V.ref, hr2 _ _ hRA, ?_, rs ++ [p], (KA.trans (Keep.of_same hr2)).wr nR0, (fA.same hr2).wr nRd nRc, ?_, ?_, ?_⟩
      · have := hrs.length
        rw [List.length_map, this, List.length_take]
        exact small1000 (by omega)
      · rw [upd_ne nRW]
        exact hr2 _ _ hWA
      · rw [upd_same, List.map_append]
        rfl
      · have tk1 : Tk K HA (upd HA p _) := Tk.same hr2
        have tk2 : Tk K (upd HA p _) (upd (upd HA p (HO.tup [.int (ratT ((step.2 - step.1) * x) (wholeOf us extra step)), .int (ratB ((step.2 - step.1) * x) (wholeOf us extra step))])) R (.lst (rs.map V.ref ++ [V.ref p]))) := tk_lst (hr2 _ _ hRA)
        have e : (rowOf us extra step).take (i + 1) = (rowOf us extra step).take i ++ [low2 ((step.2 - step.1) * x) (wholeOf us extra step)] := by
          rw [List.take_add_one]
          congr 1
          unfold rowOf
          rw [List.getElem?_map, hxi]
          rfl
        rw [e]
        exact draws_row ((hrs.tk tk1).tk tk2) (tk2 _ _ (SqT.of upd_same))
    · rintro HA ⟨rs, KA, fA, hWA, hRA, hrs⟩
      rw [List.length_map] at hrs
      have e : (rowOf us extra step).take us.length = rowOf us extra step := by
        rw [List.take_of_length_le]
        unfold rowOf
        rw [List.length_map]
        exact Nat.le_refl _
      rw [e] at hrs
      refine ⟨R, _, rfl, .inl ⟨SqL.of hRA, fun T nT => ?_⟩⟩
      have b1 := same_new (o := HO.tup (rs.map V.ref)) nT
      refine ⟨_, rfl, _, rfl, by show 2 ≤ sizeLine; decide, fun S nS => ?_⟩
      have b2 := same_new (o := HO.tup [.int step.1, .int step.2]) nS
      refine ⟨by show 2 ≤ sizeLine; decide, fun Z nZ => ?_⟩
      have b3 := same_new (o := HO.tup [.ref T, .ref S]) nZ
      have B := b1.trans (b2.trans b3)
      refine q Z us extra step t9 _ (KA.trans (Keep.of_same B)) (fA.same B) (by omega) M he24 hep hs34 ⟨T, S, SqT.of upd_same, ⟨rs, SqT.of (b3 _ _ (b2 _ _ upd_same)), hrs.tk (Tk.same B)⟩, SqT.of (b3 _ _ upd_same)⟩
end

end Fp

set_option Elab.async false
set_option linter.all false
set_option maxRecDepth 100000
set_option maxHeartbeats 4000000
set_option exponentiation.threshold 10000
namespace Fp
open PySem PySem.Spec PyProof.Rows L2
/-! ### rows joined, cut, compared -/
theorem eqv_D2 (x y : RT) : PyData.eqv (.tuple [.int x.1, .int x.2]) (.tuple [.int y.1, .int y.2]) = decide (x = y) := by
  show ((x.1 == y.1) && ((x.2 == y.2) && true)) = _
  rw [Bool.eq_iff_iff]
  simp only [Bool.and_true, Bool.and_eq_true, beq_iff_eq, decide_eq_true_eq]
  exact ⟨fun z => Prod.ext z.1 z.2, fun z => ⟨congrArg Prod.fst z, congrArg Prod.snd z⟩⟩
section
variable {K : PySem.W.Frag} {H : Hp}
theorem RAt.dp {p : Addr} {x : RT} (h : RAt K H p x) : Dp K H (.ref p) (.tuple [.int x.1, .int x.2]) := .tup h (.cons (.int _) (.cons (.int _) .nil))
theorem ne_rat {p q : Addr} {x y : RT} {Q : VK} (h1 : RAt K H p x) (h2 : RAt K H q y) (h : Q (.bl (!decide (x = y))) H) : rNeD K (.ref p) (.ref q) H Q := by
  refine ⟨_, _, h1.dp, h2.dp, rfl, rfl, ?_⟩
  rw [eqv_D2]
  exact h
theorem eq_rat {p q : Addr} {x y : RT} {Q : VK} (h1 : RAt K H p x) (h2 : RAt K H q y) (h : Q (.bl (decide (x = y))) H) : rEqD K (.ref p) (.ref q) H Q := by
  refine ⟨_, _, h1.dp, h2.dp, rfl, rfl, ?_⟩
  rw [eqv_D2]
  exact h
theorem cat_row {p q : Addr} {xs ys : List RT} {Q : VK} (h1 : RowAt K H p xs) (h2 : RowAt K H q ys) (hl : xs.length + ys.length ≤ 1000) (h : ∀ r H', Same H H' → RowAt K H' r (xs ++ ys) → Q (.ref r) H') : rCatA K (.ref p) (.ref q) H Q := by
  obtain ⟨as, a1, a2⟩ := h1
  obtain ⟨bs, b1, b2⟩ := h2
  have la := a2.length
  have lb := b2.length
  refine ⟨p, q, _, _, rfl, rfl, a1, b1, ?_, fun z => ?_, fun _ z => ?_, fun _ _ r nr => ?_⟩
  · rw [List.length_map, List.length_map, sizeLine_eq]
    omega
  · have e : as = [] := List.map_eq_nil_iff.mp z
    subst e
    have e2 : xs = [] := List.length_eq_zero_iff.mp la.symm
    subst e2
    exact h q H (Same.refl H) ⟨bs, b1, b2⟩
  · have e : bs = [] := List.map_eq_nil_iff.mp z
    subst e
    have e2 : ys = [] := List.length_eq_zero_iff.mp lb.symm
    subst e2
    refine h p H (Same.refl H) ?_
    rw [List.append_nil]
    exact ⟨as, a1, a2⟩
  · have s := same_new (o := HO.tup (as.map V.ref ++ bs.map V.ref)) nr
    refine h r _ s ⟨as ++ bs, ?_, (a2.append b2).tk (Tk.same s)⟩
    rw [List.map_append]
    exact SqT.of upd_same
theorem row_at {p : Addr} {xs : List RT} {i : Nat} {x : RT} (h : RowAt K H p xs) (e : xs[i]? = some x) : ∃ (rs : List Addr) (r : Addr), SqT K H p (rs.map V.ref) ∧ rs.length = xs.length ∧ (rs.map V.ref)[i]? = some (.ref r) ∧ RAt K H r x := by
  obtain ⟨rs, h1, h2⟩ := h
  obtain ⟨r, e1, e2⟩ := h2.get e
  refine ⟨rs, r, h1, h2.length, ?_, e2⟩
  rw [List.getElem?_map, e1]
  rfl
/-- row[i] from the front -/
theorem ix_row {p : Addr} {xs : List RT} {i : Int} {j : Nat} {x : RT} {Q : VK} (h : RowAt K H p xs) (ei : i = (j : Int)) (e : xs[j]? = some x) (hq : ∀ r, RAt K H r x → Q (.ref r) H) : rIxT K (.ref p) (.int i) H Q := by
  obtain ⟨rs, r, h1, _, h3, h4⟩ := row_at h e
  exact ⟨p, _, i, _, rfl, rfl, h1, at_of ei h3, hq r h4⟩
/-- row[-k] from the end -/
theorem ix_back {p : Addr} {xs : List RT} {k j : Nat} {x : RT} {Q : VK} (h : RowAt K H p xs) (hk : 0 < k) (ej : j + k = xs.length) (e : xs[j]? = some x) (hq : ∀ r, RAt K H r x → Q (.ref r) H) : rIxT K (.ref p) (.int (-(k : Int))) H Q := by
  obtain ⟨rs, r, h1, h2, h3, h4⟩ := row_at h e
  refine ⟨p, _, _, _, rfl, rfl, h1, ?_, hq r h4⟩
  unfold atI
  have : ixN (rs.map V.ref).length (-(k : Int)) = some j := by
    unfold ixN
    rw [List.length_map, if_neg (by omega), if_pos (by omega)]
    congr 1
    omega
  rw [this]
  exact h3
theorem cutV_take (vs : List V) (n : Nat) : cutV vs none (some (n : Int)) = vs.take n := by
  unfold cutV
  rw [HT.sIx_none, HT.sIx_nat]
  show (vs.drop 0).take (min n vs.length - 0) = _
  rw [List.drop_zero, Nat.sub_zero]
  rcases Nat.le_total n vs.length with z | z
  · rw [Nat.min_eq_left z]
  · rw [Nat.min_eq_right z, List.take_length, List.take_of_length_le z]
/-- row[:n] -/
theorem take_row {p : Addr} {xs : List RT} {n : Nat} {Q : VK} (h : RowAt K H p xs) (hq : ∀ r H', Same H H' → RowAt K H' r (xs.take n) → Q (.ref r) H') : rSlA K (.ref p) none (some (n : Int)) H Q := by
  obtain ⟨rs, h1, h2⟩ := h
  have hl := h2.length
  refine ⟨p, _, rfl, h1, fun z => ?_, fun _ r nr => ?_⟩
  · have z2 := z.2
    rw [HT.sIx_nat, List.length_map] at z2
    refine hq p H (Same.refl H) ?_
    rw [List.take_of_length_le (by omega)]
    exact ⟨rs, h1, h2⟩
  · rw [cutV_take]
    have s := same_new (o := HO.tup ((rs.map V.ref).take n)) nr
    refine hq r _ s ⟨rs.take n, ?_, (h2.take n).tk (Tk.same s)⟩
    rw [List.map_take]
    exact SqT.of upd_same
end

end Fp

set_option Elab.async false
set_option linter.all false
set_option maxRecDepth 100000
set_option maxHeartbeats 4000000
set_option exponentiation.threshold 10000
namespace Fp
open PySem PySem.Spec PyProof.Rows L2
abbrev s_any : Stmt := topS 21
theorem sc_any : FnScope ["_law_feed_here", "_law_way", "_law_row", "_law_step", "_law_turn"] ["_law_feed_here"] (defScope s_any) := ⟨rfl, rfl, rfl, by decide +kernel, rfl, by decide +kernel, by decide +kernel⟩
/-- a life as it is first drawn -/
def BaseLife (row : List RT) (step : RT) : Prop := (∃ ws extra, Made ws extra step ∧ row = rowOf ws extra step) ∨ (row = [] ∧ step = (0, 1))
/-- .. and made longer by one -/
def AnyLife (row : List RT) (step : RT) : Prop := BaseLife row step ∨
  (∃ row0 l, BaseLife row0 step ∧ row0.length ≤ 5 ∧ step ≠ (0, 1) ∧ row0[row0.length - 1]? = some l ∧ row = row0 ++ [rT l step]) ∨
  (∃ row0, BaseLife row0 (0, 1) ∧ row0.length ≤ 5 ∧ row = row0 ++ [(0, 1)] ∧ (step = (0, 1) ∨ step = (1, 3)))
theorem rowOf_len {ws : List Int} {extra : Int} {step : RT} : (rowOf ws extra step).length = ws.length := by
  unfold rowOf
  rw [List.length_map]
theorem BaseLife.len {row : List RT} {step : RT} (h : BaseLife row step) : row.length ≤ 6 := by
  rcases h with ⟨ws, extra, m, rfl⟩ | ⟨rfl, _⟩
  · rw [rowOf_len]
    exact m.len
  · decide
theorem BaseLife.ne {row : List RT} {step : RT} (h : BaseLife row step) (hs : step ≠ (0, 1)) : row ≠ [] := by
  rcases h with ⟨ws, extra, m, rfl⟩ | ⟨rfl, z⟩
  · intro z
    have := congrArg List.length z
    rw [rowOf_len, List.length_nil] at this
    exact m.ne (List.length_eq_zero_iff.mp this)
  · exact absurd z hs
/-- small ratios -/
def SmR (n : Nat) (x : RT) : Prop := Red x ∧ Sm n x.1 ∧ Sm n x.2
theorem low2_sm {t b : Int} {n : Nat} (hb : 0 < b) (h1 : Sm n t) (h2 : Sm n b) : SmR n (low2 t b) := ⟨low2_red (Int.ne_of_gt hb), ratT_sm hb h1, ratB_sm hb h2⟩
theorem SmR.mono {n m : Nat} {x : RT} (h : SmR n x) (l : n ≤ m) : SmR m x := ⟨h.1, h.2.1.mono l, h.2.2.mono l⟩
theorem rT_sm {x y : RT} {n m : Nat} (hx : SmR n x) (hy : SmR m y) : SmR (n + m) (rT x y) :=
  low2_sm (Int.mul_pos hx.1.1 hy.1.1) (hx.2.1.mul hy.2.1) (hx.2.2.mul hy.2.2)
theorem Made.sm {ws : List Int} {extra : Int} {step : RT} (m : Made ws extra step) : ∀ x ∈ rowOf ws extra step, SmR 10 x ∧ 0 ≤ x.1 := by
  intro x hx
  unfold rowOf at hx
  obtain ⟨y, hy, rfl⟩ := List.mem_map.mp hx
  obtain ⟨h1, h2⟩ := m.nn y hy
  obtain ⟨s1, s2, s3, _⟩ := m.step_ok
  obtain ⟨w0, w1⟩ := m.whole
  have hp : 0 ≤ (step.2 - step.1) * y := Int.mul_nonneg (by omega) h1
  have hq : (step.2 - step.1) * y ≤ 20 := by
    have : (step.2 - step.1) * y ≤ 4 * 5 := Int.mul_le_mul (by omega) h2 h1 (by decide)
    omega
  refine ⟨low2_sm w0 ?_ ?_, ?_⟩
  · unfold Sm
    omega
  · unfold Sm
    omega
  · obtain ⟨g1, ⟨z, hz⟩, _⟩ := ratG_pos (t := (step.2 - step.1) * y) w0
    have e : (low2 ((step.2 - step.1) * y) (wholeOf ws extra step)).1 = z := by
      show Int.fdiv _ _ = z
      have := Int.mul_fdiv_cancel_left z (Int.ne_of_gt g1)
      rw [← hz] at this
      exact this
    rw [e]
    rcases (by omega : 0 ≤ z ∨ z < 0) with q | q
    · exact q
    · have := Int.mul_neg_of_pos_of_neg g1 q
      omega
theorem BaseLife.sm {row : List RT} {step : RT} (h : BaseLife row step) : (∀ x ∈ row, SmR 10 x ∧ 0 ≤ x.1) ∧ SmR 4 step ∧ 0 ≤ step.1 ∧ step.1 < step.2 := by
  rcases h with ⟨ws, extra, m, rfl⟩ | ⟨rfl, rfl⟩
  · refine ⟨m.sm, ?_⟩
    rcases m.st with rfl | rfl | rfl | rfl | rfl <;> exact ⟨⟨⟨by decide, by decide⟩, by unfold Sm; decide, by unfold Sm; decide⟩, by decide, by decide⟩
  · exact ⟨fun x hx => by simp at hx, ⟨⟨⟨by decide, by decide⟩, by unfold Sm; decide, by unfold Sm; decide⟩, by decide, by decide⟩⟩
section
variable {P : Program} {w : World} {K : PySem.W.Frag} {mg : Str → Option Value} {base : Heap}
def spAny (K : PySem.W.Frag) : Sp := fun vs H Q _ => ∃ (d c : Addr) (t : Int), vs = [.ref d] ∧ Feed H d c t ∧ t ≤ 800000 ∧
  ∀ p row step t' H', Keep d H H' → Feed H' d c t' → t' ≤ t + 14 → AnyLife row step → LifeAt K H' p row step → Q (.ref p) H'
theorem ok_any {f fD fF fT : Addr} {fd fdD fdF fdT : FuncData} (F : Fun K "_law_any_life" "_law_any_life" s_any f fd) (FD : Fun K "_law_draw" "_law_draw" s_draw fD fdD) (bD : Binds K fdD ["_law_feed_here", "_law_many"] []) (gD : mg "_law_draw" = some (.ref fD))
    (GD : FnOk P w K mg base CX0 1 fD fdD ["_law_feed_here", "_law_many"] spDraw)
    (FF : Fun K "_law_life" "_law_life" s_life fF fdF) (bF : Binds K fdF ["_law_feed_here", "_law_way"] []) (gF : mg "_law_life" = some (.ref fF)) (GF : FnOk P w K mg base CX0 2 fF fdF ["_law_feed_here", "_law_way"] (spLife K))
    (FT : Fun K "_law_times" "_law_times" s_ltimes fT fdT) (bT : Binds K fdT ["_law_one", "_law_other"] []) (gT : mg "_law_times" = some (.ref fT)) (GT : FnOk P w K mg base CX0 2 fT fdT ["_law_one", "_law_other"] (spTwo K (fun a b c d => a * c)))
    (ml : mg "len" = none) : FnOk P w K mg base CX0 3 f fd ["_law_feed_here"] (spAny K) := by
  refine F.ok sc_any (fun vs H Q E h => ?_) (fun cdv A outer s H vs Q E hr2 h => ?_)
  · obtain ⟨_, _, _, rfl, _⟩ := h
    rfl
  · obtain ⟨d, c, t, rfl, f0, ht, q⟩ := h
    have hr := hr2.mono (show 1 ≤ 2 by decide)
    refine ⟨_, (pss_cons (ps_set (i := 1) sc_any.nd rfl (.inl rfl) (pe_call GD hr (by rfl) gD FD.kp bD .nil pass0 (pa_cons (pv 0) (pa_cons pe_int pa_nil)))) (pss_cons (ps_asg (pe_call GF hr2 (by rfl) gF FF.kp bF .nil pass0 (pa_cons (pv 0) (pa_cons (pe_op op_modN (pv 1) pe_int) pa_nil))) (pg_tup rfl (pgs_cons (pg_name (i := 2) sc_any.nd rfl (.inl rfl)) (pgs_cons (pg_name (i := 3) sc_any.nd rfl (.inl rfl)) pgs_nil)))) (pss_mid (ps_if (pt_cmpR op_eq (pv 1) pe_int (nomark _)) (pss_one (ps_asg (pe_tup (pa_cons (pe_tup pa_nil) (pa_cons (pe_tup (pa_cons pe_int (pa_cons pe_int pa_nil))) pa_nil))) (pg_tup rfl (pgs_cons (pg_name (i := 2) sc_any.nd rfl (.inl rfl)) (pgs_cons (pg_name (i := 3) sc_any.nd rfl (.inl rfl)) pgs_nil))))) pss_nil) (pss_cons (ps_set (i := 4) sc_any.nd rfl (.inl rfl) (pe_call GD hr (by rfl) gD FD.kp bD .nil pass0 (pa_cons (pv 0) (pa_cons pe_int pa_nil)))) (pss_cons (ps_if (PW.pt (pw_or (pt_cmpR op_gt (pv 4) pe_int (nomark _)) (pw_or1 (pt_cmpR op_gt (pe_callB call_len_seq (by rfl) ml PySem.boot_len (pa_cons (pv 2) pa_nil)) pe_int (nomark _))))) (pss_one (ps_ret (pe_tup (pa_cons (pv 2) (pa_cons (pv 3) pa_nil))))) pss_nil) (pss_cons (ps_if (pt_cmpR (op_neD hr.units) (pv 3) (pe_tup (pa_cons pe_int (pa_cons pe_int pa_nil))) (nomark _)) (pss_one (ps_ret (pe_tup (pa_cons (pe_op op_catA (pv 2) (pe_tup (pa_cons (pe_call GT hr2 (by rfl) gT FT.kp bT .nil pass0 (pa_cons (pe_ix ix_tup (pv 2) (pe_un un_neg pe_int) (fun _ _ => rfl)) (pa_cons (pv 3) pa_nil))) pa_nil))) (pa_cons (pv 3) pa_nil))))) pss_nil) (pss_one (ps_ret (pe_tup (pa_cons (pe_op op_catA (pv 2) (pe_tup (pa_cons (pe_tup (pa_cons pe_int (pa_cons pe_int pa_nil))) pa_nil))) (pa_cons (pe_ix ix_list (pe_lst (pa_cons (pe_tup (pa_cons pe_int (pa_cons pe_int pa_nil))) (pa_cons (pe_tup (pa_cons pe_int (pa_cons pe_int pa_nil))) pa_nil))) (pv 4) (fun _ _ => rfl)) pa_nil))))))))))), ?_⟩
    refine ⟨_, rfl, d, c, 8, t, rfl, f0, by omega, by decide, by decide, fun way H1 hw0 hw1 k1 f1 => ?_⟩
    refine ⟨_, rfl, _, rfl, way, 6, rfl, rfl, by show (6 : Int) ≠ 0; decide, d, c, _, t + 1, rfl, f1, by omega, fun p ws extra step t2 H2 k2 f2 ht2 M _ _ _ L2' => ?_⟩
    obtain ⟨pr, ps, l1, l2, l3⟩ := L2'
    refine ⟨p, _, rfl, l1, rfl, _, _, rfl, _, _, rfl, rfl, ?_⟩
    have K2 := k1.trans k2
    refine ⟨fun σ H3 => ∃ (pr ps : Addr) (row : List RT) (step : RT), σ = [some (.ref d), some (.int way), some (.ref pr), some (.ref ps), none] ∧ Keep d H H3 ∧ Feed H3 d c t2 ∧ BaseLife row step ∧ RowAt K H3 pr row ∧ RAt K H3 ps step, ?_, ?_⟩
    · refine ⟨_, rfl, rfl, _, rfl, ite2 (fun c7 => ?_) (fun c7 => ?_)⟩
      · refine ⟨by show 0 ≤ sizeLine; decide, fun a na => ?_⟩
        have e1 := same_new (o := HO.tup []) na
        refine ⟨by show 2 ≤ sizeLine; decide, fun b nb => ?_⟩
        have e2 := same_new (o := HO.tup [.int 0, .int 1]) nb
        refine ⟨by show 2 ≤ sizeLine; decide, fun z nz => ?_⟩
        have e3 := same_new (o := HO.tup [.ref a, .ref b]) nz
        have S := e1.trans (e2.trans e3)
        exact ⟨z, _, rfl, SqT.of upd_same, rfl, _, _, rfl, _, _, rfl, rfl, a, b, [], (0, 1), rfl, K2.trans (Keep.of_same S), f2.same S, .inr ⟨rfl, rfl⟩, ⟨[], SqT.of (e3 _ _ (e2 _ _ upd_same)), .nil⟩, SqT.of (e3 _ _ upd_same)⟩
      · exact ⟨pr, ps, _, step, rfl, K2, f2, .inl ⟨ws, extra, M, rfl⟩, l2, l3⟩
    clear l1 l2 l3 M
    rintro σ H3 ⟨pr, ps, row, step, rfl, K3, f3, B, hrow, hstep⟩
    obtain ⟨sm1, sm2, st0, st1⟩ := B.sm
    have hlen := B.len
    refine ⟨_, rfl, d, c, 4, t2, rfl, f3, by omega, by decide, by decide, fun turn H4 h0 h1 k4 f4 => ?_⟩
    have K4 := K3.trans k4
    have tk4 : Tk K H3 H4 := Tk.keep f3 k4
    have hrow4 := hrow.tk tk4
    have hstep4 := hstep.tk tk4
    have keepIt : ∀ a, H4 a = none → Q (.ref a) (upd H4 a (.tup [.ref pr, .ref ps])) := fun a na => by
      have e1 := same_new (o := HO.tup [.ref pr, .ref ps]) na
      exact q a row step (t2 + 1) _ (K4.trans (Keep.of_same e1)) (f4.same e1) (by omega) (.inl B) ⟨pr, ps, SqT.of upd_same, hrow4.tk (Tk.same e1), hstep4.tk (Tk.same e1)⟩
    refine ⟨_, rfl, turn, 1, rfl, rfl, _, rfl, ite2 (fun c1 => ?_) (fun c1 => ?_)⟩
    · exact iteT ⟨_, rfl, _, rfl, by show 2 ≤ sizeLine; decide, keepIt⟩
    have hturn : turn ≤ 1 := by
      have : ¬ (1 < turn) := fun z => c1 (decide_eq_true z)
      omega
    obtain ⟨rs, r1, r2⟩ := id hrow4
    have rlen := r2.length
    refine ⟨_, rfl, pr, _, rfl, .inr r1, _, 5, rfl, rfl, _, rfl, ite2 (fun c2 => ?_) (fun c2 => ?_)⟩
    · exact ⟨_, rfl, _, rfl, by show 2 ≤ sizeLine; decide, keepIt⟩
    have hl5 : row.length ≤ 5 := by
      have : ¬ ((5 : Int) < ((rs.map V.ref).length : Nat)) := fun z => c2 (decide_eq_true z)
      rw [List.length_map] at this
      omega
    -- step != (0, 1)
    refine ⟨_, rfl, by show 2 ≤ sizeLine; decide, fun a na => ?_⟩
    have e1 := same_new (o := HO.tup [.int 0, .int 1]) na
    refine ne_rat (hstep4.tk (Tk.same e1)) (y := (0, 1)) (SqT.of upd_same) ⟨_, rfl, ?_⟩
    have f5 := f4.same e1
    have K5 := K4.trans (Keep.of_same e1)
    have hrow5 := hrow4.tk (Tk.same e1)
    have hstep5 := hstep4.tk (Tk.same e1)
    refine ite2 (fun c3 => ?_) (fun c3 => ?_)
    · have hs : step ≠ (0, 1) := fun z => by
        rw [z] at c3
        exact absurd c3 (by decide)
      have hne := B.ne hs
      have hpos := List.length_pos_iff.mpr hne
      have hget : row[row.length - 1]? = some (row.getLast hne) := by
        rw [List.getLast_eq_getElem]
        exact List.getElem?_eq_getElem _
      have smL := (sm1 (row.getLast hne) (List.getLast_mem hne)).1
      refine ⟨_, rfl, _, rfl, 1, rfl, ?_⟩
      refine ix_back (k := 1) hrow5 (by decide) (by omega) hget fun r hr3 => ?_
      refine ⟨_, rfl, r, ps, _, _, _, _, rfl, ⟨hr3, hstep5, smL.2.1.mono (by decide), smL.2.2.mono (by decide), sm2.2.1.mono (by decide), sm2.2.2.mono (by decide), smL.1.1, sm2.1.1⟩, fun b nb => ?_⟩
      have e2 := same_new (o := HO.tup [.int (rT (row.getLast hne) step).1, .int (rT (row.getLast hne) step).2]) nb
      refine ⟨by show 1 ≤ sizeLine; decide, fun b2 nb2 => ?_⟩
      have e3 := same_new (o := HO.tup [.ref b]) nb2
      refine cat_row (hrow5.tk (Tk.same (e2.trans e3))) (ys := [rT (row.getLast hne) step]) ⟨[b], SqT.of upd_same, .cons (SqT.of (e3 _ _ upd_same)) .nil⟩ (by simp; omega) fun z H6 s6 hz => ?_
      have S := e2.trans (e3.trans s6)
      refine ⟨_, rfl, by show 2 ≤ sizeLine; decide, fun y ny => ?_⟩
      have e4 := same_new (o := HO.tup [.ref z, .ref ps]) ny
      exact q y _ step (t2 + 1) _ (K5.trans ((Keep.of_same S).trans (Keep.of_same e4))) ((f5.same S).same e4) (by omega) (.inr (.inl ⟨row, _, B, hl5, hs, hget, rfl⟩)) ⟨z, ps, SqT.of upd_same, hz.tk (Tk.same e4), hstep5.tk (Tk.same (S.trans e4))⟩
    · have hs : step = (0, 1) := by
        rcases Classical.em (step = (0, 1)) with z | z
        · exact z
        · exact absurd (show (!decide (step = (0, 1))) = true by simp [z]) c3
      subst hs
      refine ⟨_, rfl, by show 2 ≤ sizeLine; decide, fun b nb => ?_⟩
      have e2 := same_new (o := HO.tup [.int 0, .int 1]) nb
      refine ⟨by show 1 ≤ sizeLine; decide, fun b2 nb2 => ?_⟩
      have e3 := same_new (o := HO.tup [.ref b]) nb2
      refine cat_row (hrow5.tk (Tk.same (e2.trans e3))) (ys := [(0, 1)]) ⟨[b], SqT.of upd_same, .cons (SqT.of (e3 _ _ upd_same)) .nil⟩ (by simp; omega) fun z H6 s6 hz => ?_
      have S := e2.trans (e3.trans s6)
      refine ⟨by show 2 ≤ sizeLine; decide, fun g1 m1 => ?_⟩
      have e4 := same_new (o := HO.tup [.int 0, .int 1]) m1
      refine ⟨by show 2 ≤ sizeLine; decide, fun g2 m2 => ?_⟩
      have e5 := same_new (o := HO.tup [.int 1, .int 3]) m2
      refine ⟨by show 2 ≤ sizeLine; decide, fun g3 m3 => ?_⟩
      have e6 := same_new (o := HO.lst [.ref g1, .ref g2]) m3
      have S2 := e4.trans (e5.trans e6)
      obtain ⟨v, ev, cv⟩ := pick2' (a := V.ref g1) (b := V.ref g2) (r := turn) h0 (by omega)
      obtain ⟨g, st, rfl, hst, hg⟩ : ∃ (g : Addr) (st : RT), v = .ref g ∧ (st = (0, 1) ∨ st = (1, 3)) ∧ RAt K (upd (upd (upd H6 g1 (HO.tup [.int 0, .int 1])) g2 (HO.tup [.int 1, .int 3])) g3 (HO.lst [.ref g1, .ref g2])) g st := by
        rcases cv with y | y
        · exact ⟨g1, (0, 1), y, .inl rfl, SqT.of (e6 _ _ (e5 _ _ upd_same))⟩
        · exact ⟨g2, (1, 3), y, .inr rfl, SqT.of (e6 _ _ upd_same)⟩
      refine ⟨_, rfl, g3, _, turn, _, rfl, rfl, SqL.of upd_same, ev, by show 2 ≤ sizeLine; decide, fun y ny => ?_⟩
      have e7 := same_new (o := HO.tup [.ref z, .ref g]) ny
      have S3 := S.trans (S2.trans e7)
      exact q y _ st (t2 + 1) _ (K5.trans (Keep.of_same S3)) (f5.same S3) (by omega) (.inr (.inr ⟨row, B, hl5, rfl, hst⟩)) ⟨z, g, SqT.of upd_same, hz.tk (Tk.same (S2.trans e7)), hg.tk (Tk.same e7)⟩
end

end Fp

set_option Elab.async false
set_option linter.all false
set_option maxRecDepth 100000
set_option maxHeartbeats 4000000
set_option exponentiation.threshold 10000
namespace Fp
open PySem PySem.Spec PyProof.Rows L2
/-! ### the short life with the same chances: what both sides come to -/
def trimZ (xs : List RT) : List RT := (xs.reverse.dropWhile (fun x => decide (x = ((0 : Int), (1 : Int))))).reverse
theorem trimZ_nil : trimZ [] = [] := rfl
theorem trimZ_nought (xs : List RT) : trimZ (xs ++ [(0, 1)]) = trimZ xs := by
  unfold trimZ
  rw [List.reverse_append]
  show (List.dropWhile _ ((0, 1) :: xs.reverse)).reverse = _
  rw [List.dropWhile_cons_of_pos (by decide)]
theorem trimZ_stop (xs : List RT) {x : RT} (h : x ≠ (0, 1)) : trimZ (xs ++ [x]) = xs ++ [x] := by
  unfold trimZ
  rw [List.reverse_append]
  show (List.dropWhile _ (x :: xs.reverse)).reverse = _
  rw [List.dropWhile_cons_of_neg (by simpa using h), List.reverse_cons, List.reverse_reverse]
theorem trimZ_noughts (xs : List RT) : ∀ n, trimZ (xs ++ List.replicate n (0, 1)) = trimZ xs
  | 0 => by rw [List.replicate_zero, List.append_nil]
  | n + 1 => by rw [List.replicate_succ', ← List.append_assoc, trimZ_nought, trimZ_noughts xs n]
theorem snoc_cases {α : Type} (xs : List α) : xs = [] ∨ ∃ ys y, xs = ys ++ [y] := by
  rcases List.eq_nil_or_concat xs with h | ⟨ys, y, h⟩
  · exact .inl h
  · exact .inr ⟨ys, y, by rw [h, List.concat_eq_append]⟩
theorem trimZ_cases (xs : List RT) : trimZ xs = [] ∨ ∃ ys y, trimZ xs = ys ++ [y] ∧ y ≠ (0, 1) := by
  suffices h : ∀ n (xs : List RT), xs.length = n → trimZ xs = [] ∨ ∃ ys y, trimZ xs = ys ++ [y] ∧ y ≠ (0, 1) from h _ xs rfl
  intro n
  induction n with
  | zero =>
    intro xs h
    rw [List.length_eq_zero_iff.mp h]
    exact .inl rfl
  | succ n ih =>
    intro xs h
    rcases snoc_cases xs with rfl | ⟨ys, y, rfl⟩
    · cases h
    · rcases Classical.em (y = (0, 1)) with rfl | hy
      · rw [trimZ_nought]
        exact ih ys (by simpa using h)
      · rw [trimZ_stop _ hy]
        exact .inr ⟨ys, y, rfl, hy⟩
theorem trimZ_idem (xs : List RT) : trimZ (trimZ xs) = trimZ xs := by
  rcases trimZ_cases xs with h | ⟨ys, y, h, hy⟩
  · rw [h]
    rfl
  · rw [h, trimZ_stop _ hy]
def revG (step : RT) : List RT → List RT
  | a :: b :: r => if a = rT b step then revG step (b :: r) else a :: b :: r
  | l => l
def trimG (xs : List RT) (step : RT) : List RT := (revG step xs.reverse).reverse
theorem trimG_one (a step : RT) : trimG [a] step = [a] := rfl
theorem rev_two (xs : List RT) (b a : RT) : (xs ++ [b] ++ [a]).reverse = a :: b :: xs.reverse := by
  rw [List.reverse_append, List.reverse_append]
  rfl
theorem rev_one (xs : List RT) (b : RT) : (xs ++ [b]).reverse = b :: xs.reverse := by
  rw [List.reverse_append]
  rfl
theorem trimG_cut (xs : List RT) (b step : RT) : trimG (xs ++ [b] ++ [rT b step]) step = trimG (xs ++ [b]) step := by
  unfold trimG
  rw [rev_two, rev_one]
  show (if rT b step = rT b step then revG step (b :: xs.reverse) else _).reverse = _
  rw [if_pos rfl]
theorem trimG_stop (xs : List RT) {a b step : RT} (h : a ≠ rT b step) : trimG (xs ++ [b] ++ [a]) step = xs ++ [b] ++ [a] := by
  unfold trimG
  rw [rev_two]
  show (if a = rT b step then _ else a :: b :: xs.reverse).reverse = _
  rw [if_neg h, List.reverse_cons, List.reverse_cons, List.reverse_reverse]
theorem low2_nought {b : Int} (hb : 0 < b) : low2 0 b = (0, 1) :=
  red_eq (low2_red (Int.ne_of_gt hb)) ⟨by decide, by decide⟩ (by
    have := low2_cross (t := 0) hb
    rw [Int.zero_mul] at this
    have e : (low2 0 b).1 = 0 := by
      rcases Int.mul_eq_zero.mp this with z | z
      · exact z
      · omega
    rw [e]
    show (0 : Int) * 1 = 0 * _
    rw [Int.zero_mul, Int.zero_mul])
theorem low2_zero {t b : Int} (hb : 0 < b) : low2 t b = (0, 1) ↔ t = 0 := by
  refine ⟨fun h => ?_, fun h => by rw [h]; exact low2_nought hb⟩
  have := low2_cross (t := t) hb
  rw [h] at this
  dsimp only at this
  omega
theorem red_zero {x : RT} (h : Red x) : x = (0, 1) ↔ x.1 = 0 := by
  refine ⟨fun z => by rw [z], fun z => ?_⟩
  refine red_eq h ⟨by decide, by decide⟩ ?_
  rw [z]
  simp
theorem rT_zero {x y : RT} (hx : Red x) (hy : Red y) : rT x y = (0, 1) ↔ x = (0, 1) ∨ y = (0, 1) := by
  unfold rT
  rw [low2_zero (Int.mul_pos hx.1 hy.1), red_zero hx, red_zero hy, Int.mul_eq_zero]
/-- the last of a trimmed one isn't nought, and it is trimmed -/
theorem trimG_good (step : RT) : ∀ (n : Nat) (xs : List RT) (a : RT), xs.length = n → (∀ x ∈ xs ++ [a], Red x) → Red step → a ≠ (0, 1) → step ≠ (0, 1) →
    ∃ ys b, trimG (xs ++ [a]) step = ys ++ [b] ∧ b ≠ (0, 1) ∧ trimG (ys ++ [b]) step = ys ++ [b] ∧ (ys ++ [b]).length ≤ (xs ++ [a]).length ∧ ∀ x ∈ ys ++ [b], x ∈ xs ++ [a] := by
  intro n
  induction n with
  | zero =>
    intro xs a h _ _ ha _
    rw [List.length_eq_zero_iff.mp h]
    exact ⟨[], a, trimG_one a step, ha, trimG_one a step, Nat.le_refl _, fun x hx => hx⟩
  | succ n ih =>
    intro xs a h hr hs ha hz
    rcases snoc_cases xs with rfl | ⟨ys, b, rfl⟩
    · cases h
    · rcases Classical.em (a = rT b step) with rfl | hn
      · have hb : Red b := hr b (by simp)
        have hb0 : b ≠ (0, 1) := fun z => ha ((rT_zero hb hs).mpr (.inl z))
        obtain ⟨zs, c, e1, e2, e3, e4, e5⟩ := ih ys b (by simpa using h) (fun x hx => hr x (List.mem_append_left _ hx)) hs hb0 hz
        rw [trimG_cut]
        refine ⟨zs, c, e1, e2, e3, ?_, fun x hx => List.mem_append_left _ (e5 x hx)⟩
        rw [List.length_append (as := ys ++ [b])]
        omega
      · rw [trimG_stop _ hn]
        exact ⟨ys ++ [b], a, rfl, ha, trimG_stop _ hn, Nat.le_refl _, fun x hx => hx⟩
/-- the row has a last one that isn't nought, and goes on by the step -/
def GoesOn (row : List RT) (step : RT) : Prop := step ≠ (0, 1) ∧ ∃ ys y, row = ys ++ [y] ∧ y ≠ (0, 1)
open Classical in
noncomputable def shortL (row : List RT) (step : RT) : List RT × RT := if GoesOn row step then (trimG row step, step) else (trimZ row, (0, 1))
theorem shortL_go {row : List RT} {step : RT} (h : GoesOn row step) : shortL row step = (trimG row step, step) := by
  unfold shortL
  rw [if_pos h]
theorem shortL_end {row : List RT} {step : RT} (h : ¬ GoesOn row step) : shortL row step = (trimZ row, (0, 1)) := by
  unfold shortL
  rw [if_neg h]
theorem goes_snoc {ys : List RT} {y step : RT} : GoesOn (ys ++ [y]) step ↔ step ≠ (0, 1) ∧ y ≠ (0, 1) := by
  refine ⟨fun h => ?_, fun h => ⟨h.1, ys, y, rfl, h.2⟩⟩
  obtain ⟨h1, zs, z, e, hz⟩ := h
  have e2 := List.append_inj_right' e rfl
  cases e2
  exact ⟨h1, hz⟩
theorem goes_nil {step : RT} : ¬ GoesOn [] step := by
  rintro ⟨_, ys, y, e, _⟩
  have := congrArg List.length e
  simp at this
theorem shortL_idem {row : List RT} {step : RT} (hr : ∀ x ∈ row, Red x) (hs : Red step) : shortL (shortL row step).1 (shortL row step).2 = shortL row step := by
  rcases Classical.em (GoesOn row step) with h | h
  · obtain ⟨h1, ys, y, rfl, hy⟩ := id h
    obtain ⟨zs, z, e1, e2, e3, _, _⟩ := trimG_good step _ ys y rfl hr hs hy h1
    rw [shortL_go h, e1]
    dsimp only
    rw [shortL_go (goes_snoc.mpr ⟨h1, e2⟩), e3]
  · rw [shortL_end h]
    dsimp only
    rw [shortL_end (fun z => z.1 rfl), trimZ_idem]
theorem shortL_more {row : List RT} {step l : RT} (h : GoesOn (row ++ [l]) step) (hl : Red l) (hs : Red step) : GoesOn (row ++ [l] ++ [rT l step]) step ∧ shortL (row ++ [l] ++ [rT l step]) step = shortL (row ++ [l]) step := by
  obtain ⟨h1, h2⟩ := goes_snoc.mp h
  have g : GoesOn (row ++ [l] ++ [rT l step]) step := goes_snoc.mpr ⟨h1, fun z => by
    rcases (rT_zero hl hs).mp z with y | y
    · exact h2 y
    · exact h1 y⟩
  exact ⟨g, by rw [shortL_go g, shortL_go h, trimG_cut]⟩
theorem shortL_noughts {row : List RT} {step st : RT} {n : Nat} (h : ¬ GoesOn row step) (hn : n = 0 → ¬ GoesOn row st) : ¬ GoesOn (row ++ List.replicate n (0, 1)) st ∧ shortL (row ++ List.replicate n (0, 1)) st = shortL row step := by
  have g : ¬ GoesOn (row ++ List.replicate n (0, 1)) st := by
    match n, hn with
    | 0, hn =>
      rw [List.replicate_zero, List.append_nil]
      exact hn rfl
    | n + 1, _ =>
      rw [List.replicate_succ', ← List.append_assoc]
      exact fun z => (goes_snoc.mp z).2 rfl
  exact ⟨g, by rw [shortL_end g, shortL_end h, trimZ_noughts]⟩
theorem trimZ_mem : ∀ {n : Nat} {xs : List RT}, xs.length = n → ∀ x ∈ trimZ xs, x ∈ xs := by
  intro n
  induction n with
  | zero =>
    intro xs h x hx
    rw [List.length_eq_zero_iff.mp h] at hx
    simp [trimZ] at hx
  | succ n ih =>
    intro xs h x hx
    rcases snoc_cases xs with rfl | ⟨ys, y, rfl⟩
    · cases h
    · rcases Classical.em (y = (0, 1)) with rfl | hy
      · rw [trimZ_nought] at hx
        exact List.mem_append_left _ (ih (by simpa using h) x hx)
      · rw [trimZ_stop _ hy] at hx
        exact hx
theorem trimZ_len : ∀ {n : Nat} {xs : List RT}, xs.length = n → (trimZ xs).length ≤ xs.length := by
  intro n
  induction n with
  | zero =>
    intro xs h
    rw [List.length_eq_zero_iff.mp h]
    exact Nat.le_refl _
  | succ n ih =>
    intro xs h
    rcases snoc_cases xs with rfl | ⟨ys, y, rfl⟩
    · cases h
    · rcases Classical.em (y = (0, 1)) with rfl | hy
      · rw [trimZ_nought]
        have := ih (xs := ys) (by simpa using h)
        rw [List.length_append]
        omega
      · rw [trimZ_stop _ hy]
        exact Nat.le_refl _
theorem shortL_mem {row : List RT} {step : RT} (hr : ∀ x ∈ row, Red x) (hs : Red step) : (∀ x ∈ (shortL row step).1, x ∈ row) ∧ (shortL row step).1.length ≤ row.length ∧ ((shortL row step).2 = step ∨ (shortL row step).2 = (0, 1)) := by
  rcases Classical.em (GoesOn row step) with h | h
  · obtain ⟨h1, ys, y, rfl, hy⟩ := id h
    obtain ⟨zs, z, e1, e2, e3, e4, e5⟩ := trimG_good step _ ys y rfl hr hs hy h1
    rw [shortL_go h, e1]
    exact ⟨e5, e4, .inl rfl⟩
  · rw [shortL_end h]
    exact ⟨trimZ_mem rfl, trimZ_len rfl, .inr rfl⟩

end Fp

set_option Elab.async false
set_option linter.all false
set_option maxRecDepth 100000
set_option maxHeartbeats 4000000
set_option exponentiation.threshold 10000
namespace Fp
open PySem PySem.Spec PyProof.Rows L2
/-! ### the program's own: what lasts behind the row's end, the short life -/
abbrev s_behind : Stmt := topS 12
abbrev s_short : Stmt := topS 13
abbrev s_wn : Stmt := topS 14
theorem sc_behind : FnScope ["life", "row", "step"] ["life"] (defScope s_behind) := ⟨rfl, rfl, rfl, by decide +kernel, rfl, by decide +kernel, by decide +kernel⟩
theorem sc_short : FnScope ["life", "row", "step"] ["life"] (defScope s_short) := ⟨rfl, rfl, rfl, by decide +kernel, rfl, by decide +kernel, by decide +kernel⟩
theorem sc_wn : FnScope ["row", "end"] ["row"] (defScope s_wn) := ⟨rfl, rfl, rfl, by decide +kernel, rfl, by decide +kernel, by decide +kernel⟩
structure Consts (K : PySem.W.Frag) (mg : Str → Option Value) (aN aO : Addr) : Prop where
  gN : mg "NOUGHT" = some (.ref aN)
  gO : mg "ONE" = some (.ref aO)
  tN : ∀ H, RAt K H aN (0, 1)
  tO : ∀ H, RAt K H aO (1, 1)
def rM (x y : RT) : RT := low2 (x.1 * y.2 - y.1 * x.2) (x.2 * y.2)
def rO (x y : RT) : RT := low2 (x.1 * y.2) (x.2 * y.1)
/-- a step: from nought on, below one -/
def StepOk (n : Nat) (s : RT) : Prop := SmR n s ∧ 0 ≤ s.1 ∧ s.1 < s.2
theorem gap_pos {s : RT} (h : Red s) (h1 : s.1 < s.2) : 0 < (rM (1, 1) s).1 := by
  have hb : (0 : Int) < 1 * s.2 := by have := h.1; omega
  have e := low2_cross (t := 1 * s.2 - s.1 * 1) hb
  have hp := ratB_pos (t := 1 * s.2 - s.1 * 1) hb
  show 0 < (low2 (1 * s.2 - s.1 * 1) (1 * s.2)).1
  have hp2 : 0 < (low2 (1 * s.2 - s.1 * 1) (1 * s.2)).2 := hp
  generalize (low2 (1 * s.2 - s.1 * 1) (1 * s.2)).1 = x at *
  generalize (low2 (1 * s.2 - s.1 * 1) (1 * s.2)).2 = y at *
  rcases (by omega : 0 < x ∨ x ≤ 0) with z | z
  · exact z
  · have a1 : 0 < (1 * s.2 - s.1 * 1) * y := Int.mul_pos (by omega) hp2
    have a2 : x * (1 * s.2) ≤ 0 := Int.mul_nonpos_of_nonpos_of_nonneg z (Int.le_of_lt hb)
    omega
def behindR (row : List RT) (step : RT) : RT := match row.getLast? with
  | none => (0, 1)
  | some l => rO (rT l step) (rM (1, 1) step)
theorem behindR_snoc (ys : List RT) (y step : RT) : behindR (ys ++ [y]) step = rO (rT y step) (rM (1, 1) step) := by
  have e : (ys ++ [y]).getLast? = some y := by simp
  unfold behindR
  rw [e]
theorem behindR_zero {row : List RT} {step : RT} (hr : ∀ x ∈ row, Red x) (hs : Red step) (h1 : step.1 < step.2) : behindR row step = (0, 1) ↔ ¬ GoesOn row step := by
  rcases snoc_cases row with rfl | ⟨ys, y, rfl⟩
  · exact ⟨fun _ => goes_nil, fun _ => rfl⟩
  · have hy : Red y := hr y (by simp)
    rw [behindR_snoc, goes_snoc]
    unfold rO
    have hq : Red (rT y step) := low2_red (Int.ne_of_gt (Int.mul_pos hy.1 hs.1))
    rw [low2_zero (Int.mul_pos hq.1 (gap_pos hs h1)), Int.mul_eq_zero]
    have hm := (low2_red (t := 1 * step.2 - step.1 * 1) (b := 1 * step.2) (by have := hs.1; omega)).1
    have e1 : (rT y step).1 = 0 ↔ rT y step = (0, 1) := (red_zero hq).symm
    rw [e1, rT_zero hy hs]
    refine ⟨fun z => ?_, fun z => .inl ?_⟩
    · rcases z with (z | z) | z
      · exact fun g => g.2 z
      · exact fun g => g.1 z
      · have : (0 : Int) < (rM (1, 1) step).2 := hm
        omega
    · rcases Classical.em (y = (0, 1)) with a | a
      · exact .inl a
      · rcases Classical.em (step = (0, 1)) with b | b
        · exact .inr b
        · exact absurd ⟨b, a⟩ z
/-! data of a row -/
def rowD (xs : List RT) : List PyData := xs.map fun x => .tuple [.int x.1, .int x.2]
theorem RsAt.dp {K : PySem.W.Frag} {H : Hp} : ∀ {ps : List Addr} {xs : List RT}, RsAt K H ps xs → DpAll K H (ps.map V.ref) (rowD xs)
  | _, _, .nil => .nil
  | _, _, .cons h r => .cons h.dp r.dp
theorem RowAt.dp {K : PySem.W.Frag} {H : Hp} {p : Addr} {xs : List RT} (h : RowAt K H p xs) : Dp K H (.ref p) (.tuple (rowD xs)) := by
  obtain ⟨rs, h1, h2⟩ := h
  exact .tup h1 h2.dp
theorem rowD_lay : ∀ xs : List RT, PyData.canLayAll0 (rowD xs) = true
  | [] => rfl
  | x :: r => by
    show (PyData.canLay0 (.tuple [.int x.1, .int x.2]) && PyData.canLayAll0 (rowD r)) = true
    rw [rowD_lay r]
    rfl
theorem rowD_depth : ∀ xs : List RT, PyData.depthAll (rowD xs) ≤ 1
  | [] => by decide
  | x :: r => by
    show max (PyData.depth (.tuple [.int x.1, .int x.2])) (PyData.depthAll (rowD r)) ≤ 1
    have := rowD_depth r
    have e : PyData.depth (.tuple [.int x.1, .int x.2]) = 1 := rfl
    omega
theorem rowD_shaped (xs : List RT) : SeqAt.shaped (.tuple (rowD xs)) = true := by
  unfold SeqAt.shaped
  have h1 : PyData.canLay0 (.tuple (rowD xs)) = true := rowD_lay xs
  have h2 : (PyData.tuple (rowD xs)).depth ≤ 64 := by
    show PyData.depthAll (rowD xs) + 1 ≤ 64
    have := rowD_depth xs
    omega
  rw [h1, decide_eq_true h2]
  rfl
theorem rowD_nil (xs : List RT) : PyData.eqv (.tuple (rowD xs)) (.tuple []) = xs.isEmpty := by
  cases xs with
  | nil => rfl
  | cons x r => rfl
section
variable {P : Program} {w : World} {K : PySem.W.Frag} {mg : Str → Option Value} {base : Heap} {aN aO : Addr}
def spBehind (K : PySem.W.Frag) : Sp := fun vs H Q _ => ∃ (p : Addr) (row : List RT) (step : RT), vs = [.ref p] ∧ LifeAt K H p row step ∧ (∀ x ∈ row, SmR 700 x) ∧ StepOk 300 step ∧
  ∀ z H', Same H H' → RAt K H' z (behindR row step) → Q (.ref z) H'
theorem ok_behind {f fO fT fM : Addr} {fd fdO fdT fdM : FuncData} (F : Fun K "behind_row" "behind_row" s_behind f fd) (C : Consts K mg aN aO)
    (FO : Fun K "over" "over" s_over fO fdO) (bO : Binds K fdO ["one", "other"] []) (gO : mg "over" = some (.ref fO)) (GO : FnOk P w K mg base CX0 3 fO fdO ["one", "other"] (spOver0 K))
    (FT : Fun K "times" "times" s_times fT fdT) (bT : Binds K fdT ["one", "other"] []) (gT : mg "times" = some (.ref fT)) (GT : FnOk P w K mg base CX0 3 fT fdT ["one", "other"] (spTwo K (fun a b c d => a * c)))
    (FM : Fun K "minus" "minus" s_minus fM fdM) (bM : Binds K fdM ["one", "other"] []) (gM : mg "minus" = some (.ref fM)) (GM : FnOk P w K mg base CX0 3 fM fdM ["one", "other"] (spTwo K (fun a b c d => a * d - c * b))) :
    FnOk P w K mg base CX0 4 f fd ["life"] (spBehind K) := by
  refine F.ok sc_behind (fun vs H Q E h => ?_) (fun cdv A outer s H vs Q E hr h => ?_)
  · obtain ⟨_, _, _, rfl, _⟩ := h
    rfl
  · obtain ⟨p, row, step, rfl, ⟨pr, ps, l1, l2, l3⟩, hsm, hst, q⟩ := h
    refine ⟨_, (pss_cons (ps_asg (pv 0) (pg_tup rfl (pgs_cons (pg_name (i := 1) sc_behind.nd rfl (.inl rfl)) (pgs_cons (pg_name (i := 2) sc_behind.nd rfl (.inl rfl)) pgs_nil)))) (pss_cons (ps_if (pt_cmpR (op_eqD hr.units) (pv 1) (pe_tup pa_nil) (nomark _)) (pss_one (ps_ret (pe_glob (v := .ref aN) rfl C.gN rfl))) pss_nil) (pss_one (ps_ret (pe_call GO hr (by rfl) gO FO.kp bO .nil pass0 (pa_cons (pe_call GT hr (by rfl) gT FT.kp bT .nil pass0 (pa_cons (pe_ix ix_tup (pv 1) (pe_un un_neg pe_int) (fun _ _ => rfl)) (pa_cons (pv 2) pa_nil))) (pa_cons (pe_call GM hr (by rfl) gM FM.kp bM .nil pass0 (pa_cons (pe_glob (v := .ref aO) rfl C.gO rfl) (pa_cons (pv 2) pa_nil))) pa_nil))))))), ?_⟩
    refine ⟨_, rfl, p, _, rfl, l1, rfl, _, _, rfl, _, _, rfl, rfl, ?_⟩
    refine ⟨_, rfl, by show 0 ≤ sizeLine; decide, fun a na => ?_⟩
    have e1 := same_new (o := HO.tup []) na
    refine ⟨_, _, (l2.tk (Tk.same e1)).dp, .tup (SqT.of upd_same) .nil, rowD_shaped row, rfl, _, rfl, ?_⟩
    rw [rowD_nil]
    rcases snoc_cases row with rfl | ⟨ys, y, rfl⟩
    · exact iteT (q aN _ e1 (C.tN _))
    · have ne : (ys ++ [y]).isEmpty = false := by simp
      rw [ne]
      refine iteF ?_
      obtain ⟨hs1, hs2, hs3⟩ := hst
      have hy := hsm y (by simp)
      refine ⟨_, rfl, 1, rfl, ?_⟩
      refine ix_back (k := 1) (j := ys.length) (x := y) (l2.tk (Tk.same e1)) (by decide) (by simp) (by simp) fun r hr3 => ?_
      refine ⟨_, rfl, r, ps, _, _, _, _, rfl, ⟨hr3, l3.tk (Tk.same e1), hy.2.1.mono (by decide), hy.2.2.mono (by decide), hs1.2.1.mono (by decide), hs1.2.2.mono (by decide), hy.1.1, hs1.1.1⟩, fun b nb => ?_⟩
      have e2 := same_new (o := HO.tup [.int (rT y step).1, .int (rT y step).2]) nb
      refine ⟨_, rfl, aO, ps, _, _, _, _, rfl, ⟨C.tO _, l3.tk (Tk.same (e1.trans e2)), by unfold Sm; decide, by unfold Sm; decide, hs1.2.1.mono (by decide), hs1.2.2.mono (by decide), by decide, hs1.1.1⟩, fun b2 nb2 => ?_⟩
      have e3 := same_new (o := HO.tup [.int (rM (1, 1) step).1, .int (rM (1, 1) step).2]) nb2
      have sT := rT_sm hy hs1
      have hden : (0 : Int) < 1 * step.2 := by have := hs1.1.1; omega
      have a1 : Sm 301 (1 * step.2 - step.1 * 1) := by
        rw [Int.one_mul, Int.mul_one]
        exact hs1.2.2.sub hs1.2.1
      have a2 : Sm 301 (1 * step.2) := by
        rw [Int.one_mul]
        exact hs1.2.2.mono (by decide)
      have sM : SmR 301 (rM (1, 1) step) := low2_sm hden a1 a2
      refine ⟨b, b2, _, _, _, _, rfl, ⟨SqT.of (e3 _ _ upd_same), SqT.of upd_same, sT.2.1.mono (by decide), sT.2.2.mono (by decide), sM.2.1.mono (by decide), sM.2.2.mono (by decide), sT.1.1, sM.1.1⟩, Int.ne_of_gt (Int.mul_pos sT.1.1 (gap_pos hs1.1 hs3)), fun b3 nb3 => ?_⟩
      refine q b3 _ (e1.trans (e2.trans (e3.trans (same_new nb3)))) ?_
      rw [behindR_snoc]
      exact SqT.of upd_same
/-! ### without noughts at the end -/
def spWn (K : PySem.W.Frag) : Sp := fun vs H Q _ => ∃ (p : Addr) (row : List RT), vs = [.ref p] ∧ RowAt K H p row ∧ ∀ z H', Same H H' → LifeAt K H' z (trimZ row) (0, 1) → Q (.ref z) H'
theorem ok_wn {f : Addr} {fd : FuncData} {k : Nat} (F : Fun K "without_noughts" "without_noughts" s_wn f fd) (C : Consts K mg aN aO) (ml : mg "len" = none) : FnOk P w K mg base CX0 (k + 1) f fd ["row"] (spWn K) := by
  refine F.ok sc_wn (fun vs H Q E h => ?_) (fun cdv A outer s H vs Q E hr h => ?_)
  · obtain ⟨_, _, rfl, _⟩ := h
    rfl
  · obtain ⟨p, row, rfl, hrow, q⟩ := h
    refine ⟨_, (pss_cons (ps_set (i := 1) sc_wn.nd rfl (.inl rfl) (pe_callB call_len_seq (by rfl) ml PySem.boot_len (pa_cons (pv 0) pa_nil))) (pss_cons (ps_while PassesOwn.never (PW.pt (pw_and (pt_cmpR op_gt (pv 1) pe_int (nomark _)) (pw_and1 (pt_cmpR (op_eqD hr.units) (pe_ix ix_tup (pv 0) (pe_op op_sub (pv 1) pe_int) (fun _ _ => rfl)) (pe_glob (v := .ref aN) rfl C.gN rfl) (nomark _)))))
          (pss_one (ps_aug (i := 1) sc_wn.nd rfl (.inl rfl) pe_int ip_sub))) (pss_one (ps_ret (pe_tup (pa_cons (pe_slice sl_tupA (pv 0) po_none (po_some (pv 1))) (pa_cons (pe_glob (v := .ref aN) rfl C.gN rfl) pa_nil))))))), ?_⟩
    obtain ⟨rs, r1, r2⟩ := id hrow
    have hl := r2.length
    refine ⟨_, rfl, p, _, rfl, .inr r1, ?_⟩
    refine ⟨fun m σ H1 => H1 = H ∧ m ≤ row.length ∧ σ = [some (.ref p), some (.int (m : Int))] ∧ trimZ (row.take m) = trimZ row, ⟨row.length, rfl, Nat.le_refl _, ?_, by rw [List.take_length]⟩, ?_⟩
    · show [some (V.ref p), some (V.int (((rs.map V.ref).length : Nat) : Int))] = _
      rw [List.length_map, hl]
    · rintro m σ H1 ⟨rfl, hm, rfl, et⟩
      have done : (m = 0 ∨ ∃ x, row[m - 1]? = some x ∧ x ≠ (0, 1)) → trimZ row = row.take m := fun z => by
        rw [← et]
        rcases z with rfl | ⟨x, hx, hne⟩
        · rfl
        · have hm0 : m ≠ 0 ∨ m = 0 := by omega
          match m, hx with
          | 0, hx =>
            rfl
          | m + 1, hx =>
            rw [List.take_add_one, show row[m]? = some x from hx]
            exact trimZ_stop _ hne
      have ends : trimZ row = row.take m → tRet (tTup (tCons (tSl (rSlA K) (tVar 0) tNoPart (tPart (tVar 1))) (tCons (tC (.ref aN)) tNil))) { nx := fun _ H' => Q .non H', rt := Q } [some (.ref p), some (.int (m : Int))] H1 := fun z => by
        refine ⟨_, rfl, _, rfl, m, rfl, ?_⟩
        refine take_row hrow fun r H2 s2 hr2 => ?_
        refine ⟨by show 2 ≤ sizeLine; decide, fun y ny => ?_⟩
        have e := same_new (o := HO.tup [.ref r, .ref aN]) ny
        refine q y _ (s2.trans e) ⟨r, aN, SqT.of upd_same, ?_, C.tN _⟩
        rw [z]
        exact hr2.tk (Tk.same e)
      refine ⟨_, rfl, m, 0, rfl, rfl, _, rfl, ite2 (fun c => ?_) (fun c => ?_)⟩
      · have hm0 : 0 < m := by
          have : (0 : Int) < (m : Int) := of_decide_eq_true c
          omega
        have hg : row[m - 1]? = some row[m - 1] := List.getElem?_eq_getElem (by omega)
        refine ⟨_, rfl, _, rfl, m, 1, rfl, rfl, ?_⟩
        refine ix_row (j := m - 1) hrow (by omega) hg fun r hr2 => ?_
        refine tC_go (eq_rat hr2 (C.tN _) ?_)
        refine ⟨_, rfl, ite2 (fun c2 => ?_) (fun c2 => ?_)⟩
        · have ez : row[m - 1] = (0, 1) := of_decide_eq_true c2
          refine ⟨fun σ' H' => H' = H1 ∧ σ' = [some (.ref p), some (.int ((m - 1 : Nat) : Int))], fun σ' H' z => ?_, ?_⟩
          · obtain ⟨rfl, rfl⟩ := z
            refine ⟨m - 1, by omega, rfl, by omega, rfl, ?_⟩
            rw [← et]
            obtain ⟨k, rfl⟩ : ∃ k, m = k + 1 := ⟨m - 1, by omega⟩
            rw [List.take_add_one, show row[k]? = some (0, 1) from by rw [← ez]; exact hg]
            exact (trimZ_nought _).symm
          · refine ⟨_, rfl, m, 1, rfl, rfl, rfl, ?_⟩
            show [some (V.ref p), some (V.int ((m : Int) - 1))] = _
            rw [show (m : Int) - 1 = ((m - 1 : Nat) : Int) by omega]
        · exact ends (done (.inr ⟨_, hg, fun z => c2 (decide_eq_true z)⟩))
      · have hm0 : m = 0 := by
          have : ¬ (0 : Int) < (m : Int) := fun z => c (decide_eq_true z)
          omega
        exact iteF (ends (done (.inl hm0)))
/-! ### short -/
theorem cutV_drop (vs : List V) (h : vs ≠ []) : cutV vs none (some (-1)) = vs.take (vs.length - 1) := by
  have hp := List.length_pos_iff.mpr h
  unfold cutV
  rw [HT.sIx_none]
  have e0 : HT.sIx vs.length vs.length (some (-1)) = ((-1 : Int) + (vs.length : Int)).toNat := by
    unfold HT.sIx
    rfl
  have e : HT.sIx vs.length vs.length (some (-1)) = vs.length - 1 := by
    rw [e0]
    omega
  rw [e, Nat.sub_zero, List.drop_zero]
theorem drop_row {K : PySem.W.Frag} {H : Hp} {p : Addr} {xs : List RT} {y : RT} {Q : VK} (h : RowAt K H p (xs ++ [y])) (hq : ∀ r H', Same H H' → RowAt K H' r xs → Q (.ref r) H') : rSlA K (.ref p) none (some (-1)) H Q := by
  obtain ⟨rs, h1, h2⟩ := h
  have hl := h2.length
  rw [List.length_append, List.length_singleton] at hl
  have hne : rs.map V.ref ≠ [] := fun z => by
    have := congrArg List.length z
    rw [List.length_map, List.length_nil] at this
    omega
  refine ⟨p, _, rfl, h1, fun z => ?_, fun _ r nr => ?_⟩
  · have z2 := z.2
    have e0 : HT.sIx (rs.map V.ref).length (rs.map V.ref).length (some (-1)) = ((-1 : Int) + ((rs.map V.ref).length : Int)).toNat := by
      unfold HT.sIx
      rfl
    have e : HT.sIx (rs.map V.ref).length (rs.map V.ref).length (some (-1)) = (rs.map V.ref).length - 1 := by
      rw [e0, List.length_map]
      omega
    rw [e, List.length_map] at z2
    omega
  · rw [cutV_drop _ hne, List.length_map]
    have s := same_new (o := HO.tup ((rs.map V.ref).take (rs.length - 1))) nr
    refine hq r _ s ⟨rs.take (rs.length - 1), ?_, ?_⟩
    · rw [List.map_take]
      exact SqT.of upd_same
    · have h3 := (h2.take (rs.length - 1)).tk (Tk.same (K := K) s)
      rw [hl, Nat.add_sub_cancel, List.take_left'] at h3
      · rw [hl, Nat.add_sub_cancel]
        exact h3
      · rfl
def spShort (K : PySem.W.Frag) : Sp := fun vs H Q _ => ∃ (p : Addr) (row : List RT) (step : RT), vs = [.ref p] ∧ LifeAt K H p row step ∧ (∀ x ∈ row, SmR 700 x) ∧ StepOk 300 step ∧
  ∀ z H', Same H H' → LifeAt K H' z (shortL row step).1 (shortL row step).2 → Q (.ref z) H'
theorem ok_short {f fB fW fT : Addr} {fd fdB fdW fdT : FuncData} (F : Fun K "short" "short" s_short f fd) (C : Consts K mg aN aO)
    (FB : Fun K "behind_row" "behind_row" s_behind fB fdB) (bB : Binds K fdB ["life"] []) (gB : mg "behind_row" = some (.ref fB)) (GB : FnOk P w K mg base CX0 4 fB fdB ["life"] (spBehind K))
    (FW : Fun K "without_noughts" "without_noughts" s_wn fW fdW) (bW : Binds K fdW ["row"] []) (gW : mg "without_noughts" = some (.ref fW)) (GW : FnOk P w K mg base CX0 1 fW fdW ["row"] (spWn K))
    (FT : Fun K "times" "times" s_times fT fdT) (bT : Binds K fdT ["one", "other"] []) (gT : mg "times" = some (.ref fT)) (GT : FnOk P w K mg base CX0 3 fT fdT ["one", "other"] (spTwo K (fun a b c d => a * c)))
    (ml : mg "len" = none) : FnOk P w K mg base CX0 5 f fd ["life"] (spShort K) := by
  refine F.ok sc_short (fun vs H Q E h => ?_) (fun cdv A outer s H vs Q E hr h => ?_)
  · obtain ⟨_, _, _, rfl, _⟩ := h
    rfl
  · obtain ⟨p, row, step, rfl, hlife, hsm, hst, q⟩ := h
    obtain ⟨pr, ps, l1, l2, l3⟩ := id hlife
    have hr1 := hr.mono (show 1 ≤ 4 by decide)
    have hr3 := hr.mono (show 3 ≤ 4 by decide)
    refine ⟨_, (pss_cons (ps_asg (pv 0) (pg_tup rfl (pgs_cons (pg_name (i := 1) sc_short.nd rfl (.inl rfl)) (pgs_cons (pg_name (i := 2) sc_short.nd rfl (.inl rfl)) pgs_nil)))) (pss_cons (ps_if (pt_cmpR (op_eqD hr.units) (pe_call GB hr (by rfl) gB FB.kp bB .nil pass0 (pa_cons (pv 0) pa_nil)) (pe_glob (v := .ref aN) rfl C.gN rfl) (nomark _)) (pss_one (ps_ret (pe_call GW hr1 (by rfl) gW FW.kp bW .nil pass0 (pa_cons (pv 1) pa_nil)))) pss_nil) (pss_cons (ps_while PassesOwn.never (PW.pt (pw_and (pt_cmpR op_gt (pe_callB call_len_seq (by rfl) ml PySem.boot_len (pa_cons (pv 1) pa_nil)) pe_int (nomark _)) (pw_and1 (pt_cmpR (op_eqD hr.units) (pe_ix ix_tup (pv 1) (pe_un un_neg pe_int) (fun _ _ => rfl))
            (pe_call GT hr3 (by rfl) gT FT.kp bT .nil pass0 (pa_cons (pe_ix ix_tup (pv 1) (pe_un un_neg pe_int) (fun _ _ => rfl)) (pa_cons (pv 2) pa_nil))) (nomark _)))))
          (pss_one (ps_set (i := 1) sc_short.nd rfl (.inl rfl) (pe_slice sl_tupA (pv 1) po_none (po_some (pe_un un_neg pe_int)))))) (pss_one (ps_ret (pe_tup (pa_cons (pv 1) (pa_cons (pv 2) pa_nil)))))))), ?_⟩
    refine ⟨_, rfl, p, _, rfl, l1, rfl, _, _, rfl, _, _, rfl, rfl, ?_⟩
    refine ⟨_, rfl, p, row, step, rfl, hlife, hsm, hst, fun b H1 s1 hb => ?_⟩
    have hred : ∀ x ∈ row, Red x := fun x hx => (hsm x hx).1
    refine tC_go (eq_rat hb (C.tN _) ?_)
    refine ⟨_, rfl, ite2 (fun c => ?_) (fun c => ?_)⟩
    · have hg : ¬ GoesOn row step := (behindR_zero hred hst.1.1 hst.2.2).mp (of_decide_eq_true c)
      refine ⟨_, rfl, pr, row, rfl, l2.tk (Tk.same s1), fun z H2 s2 hz => ?_⟩
      refine q z _ (s1.trans s2) ?_
      rw [shortL_end hg]
      exact hz
    · have hg : GoesOn row step := by
        rcases Classical.em (GoesOn row step) with z | z
        · exact z
        · exact absurd (decide_eq_true ((behindR_zero hred hst.1.1 hst.2.2).mpr z)) c
      rw [shortL_go hg] at q
      dsimp only at q
      refine ⟨fun m σ H2 => ∃ (pr : Addr) (ys : List RT) (y : RT), m = ys.length ∧ σ = [some (.ref p), some (.ref pr), some (.ref ps)] ∧ Same H H2 ∧ RowAt K H2 pr (ys ++ [y]) ∧ (∀ x ∈ ys ++ [y], SmR 700 x) ∧ trimG (ys ++ [y]) step = trimG row step, ?_, ?_⟩
      · obtain ⟨_, ys, y, rfl, _⟩ := hg
        exact ⟨_, pr, ys, y, rfl, rfl, s1, l2.tk (Tk.same s1), hsm, rfl⟩
      · rintro m σ H2 ⟨pr, ys, y, rfl, rfl, s2, hrow, hsm2, et⟩
        have ends : ∀ H3, Same H2 H3 → trimG (ys ++ [y]) step = ys ++ [y] → tRet (tTup (tCons (tVar 1) (tCons (tVar 2) tNil))) { nx := fun _ H' => Q .non H', rt := Q } [some (.ref p), some (.ref pr), some (.ref ps)] H3 := fun H3 s3 z => by
          refine ⟨_, rfl, _, rfl, by show 2 ≤ sizeLine; decide, fun a na => ?_⟩
          have e := same_new (o := HO.tup [.ref pr, .ref ps]) na
          refine q a _ (s2.trans (s3.trans e)) ⟨pr, ps, SqT.of upd_same, ?_, l3.tk (Tk.same (s2.trans (s3.trans e)))⟩
          rw [← et, z]
          exact hrow.tk (Tk.same (s3.trans e))
        obtain ⟨rs, r1, r2⟩ := id hrow
        have hl := r2.length
        rw [List.length_append, List.length_singleton] at hl
        refine ⟨_, rfl, pr, _, rfl, .inr r1, _, 1, rfl, rfl, _, rfl, ite2 (fun c2 => ?_) (fun c2 => ?_)⟩
        · have h2 : 1 ≤ ys.length := by
            have : (1 : Int) < ((rs.map V.ref).length : Nat) := of_decide_eq_true c2
            rw [List.length_map] at this
            omega
          rcases snoc_cases ys with rfl | ⟨zs, b, rfl⟩
          · simp at h2
          · have sb := hsm2 b (by simp)
            refine ⟨_, rfl, 1, rfl, ?_⟩
            refine ix_back (k := 1) (j := (zs ++ [b]).length) (x := y) hrow (by decide) (by simp) (by simp) fun r hr4 => ?_
            refine ⟨_, rfl, 2, rfl, ?_⟩
            refine ix_back (k := 2) (j := zs.length) (x := b) hrow (by decide) (by simp) (by simp) fun r2 hr5 => ?_
            refine ⟨_, rfl, r2, ps, _, _, _, _, rfl, ⟨hr5, l3.tk (Tk.same s2), sb.2.1.mono (by decide), sb.2.2.mono (by decide), hst.1.2.1.mono (by decide), hst.1.2.2.mono (by decide), sb.1.1, hst.1.1.1⟩, fun a na => ?_⟩
            have e := same_new (o := HO.tup [.int (rT b step).1, .int (rT b step).2]) na
            refine eq_rat (y := rT b step) (hr4.tk (Tk.same e)) (SqT.of upd_same) ?_
            refine ⟨_, rfl, ite2 (fun c3 => ?_) (fun c3 => ?_)⟩
            · have ey : y = rT b step := of_decide_eq_true c3
              refine ⟨fun σ' H' => ∃ pr2 : Addr, σ' = [some (.ref p), some (.ref pr2), some (.ref ps)] ∧ Same H H' ∧ RowAt K H' pr2 (zs ++ [b]), fun σ' H' z => ?_, ?_⟩
              · obtain ⟨pr2, rfl, s4, hrow4⟩ := z
                refine ⟨zs.length, by simp, pr2, zs, b, rfl, rfl, s4, hrow4, fun x hx => hsm2 x (List.mem_append_left _ hx), ?_⟩
                rw [← et, ey, trimG_cut]
              · refine ⟨_, rfl, 1, rfl, -1, rfl, ?_⟩
                refine drop_row (hrow.tk (Tk.same e)) fun r3 H4 s4 hr6 => ?_
                exact ⟨r3, rfl, s2.trans (e.trans s4), hr6⟩
            · exact ends _ e (trimG_stop _ fun z => c3 (decide_eq_true z))
        · have h2 : ys.length = 0 := by
            have : ¬ (1 : Int) < ((rs.map V.ref).length : Nat) := fun z => c2 (decide_eq_true z)
            rw [List.length_map] at this
            omega
          rw [List.length_eq_zero_iff.mp h2]
          rw [List.length_eq_zero_iff.mp h2] at ends
          exact iteF (ends _ (Same.refl _) (trimG_one y step))
end

end Fp

set_option Elab.async false
set_option linter.all false
set_option maxRecDepth 100000
set_option maxHeartbeats 4000000
set_option exponentiation.threshold 10000
namespace Fp
open PySem PySem.Spec PyProof.Rows L2
/-! ### the law's own short life -/
abbrev s_lshort : Stmt := topS 22
abbrev N_lshort : List Str := ["_law_life_here", "_law_row", "_law_step", "_law_some", "_law_first", "_law_k"]
theorem sc_lshort : FnScope N_lshort ["_law_life_here"] (defScope s_lshort) := ⟨rfl, rfl, rfl, by decide +kernel, rfl, by decide +kernel, by decide +kernel⟩
theorem trimZ_all {row : List RT} (h : ∀ y ∈ row, y = (0, 1)) : trimZ row = [] := by
  have e : row = [] ++ List.replicate row.length (0, 1) := by
    rw [List.nil_append]
    exact List.eq_replicate_of_mem h
  rw [e, trimZ_noughts]
  rfl
theorem trimZ_at {row : List RT} {m : Nat} {x : RT} (h : row[m]? = some x) (hx : x ≠ (0, 1)) (hr : ∀ j y, m < j → row[j]? = some y → y = (0, 1)) : trimZ row = row.take (m + 1) := by
  have e : row = row.take (m + 1) ++ List.replicate (row.drop (m + 1)).length (0, 1) := by
    rw [← List.eq_replicate_of_mem (l := row.drop (m + 1)) (a := (0, 1)) ?_, List.take_append_drop]
    intro y hy
    obtain ⟨i, hi⟩ := List.mem_iff_getElem?.mp hy
    rw [List.getElem?_drop] at hi
    exact hr _ y (by omega) hi
  have e2 : trimZ row = trimZ (row.take (m + 1)) := by
    conv => lhs; rw [e]
    exact trimZ_noughts _ _
  rw [e2, List.take_add_one, h]
  exact trimZ_stop _ hx
section
variable {P : Program} {w : World} {K : PySem.W.Frag} {mg : Str → Option Value} {base : Heap}
def spLshort (K : PySem.W.Frag) : Sp := fun vs H Q _ => ∃ (p : Addr) (row : List RT) (step : RT), vs = [.ref p] ∧ LifeAt K H p row step ∧ row.length ≤ 1000 ∧ (row = [] → step = (0, 1)) ∧ (∀ x ∈ row, SmR 700 x) ∧ StepOk 300 step ∧
  ∀ z H', Same H H' → LifeAt K H' z (shortL row step).1 (shortL row step).2 → Q (.ref z) H'
theorem ok_lshort {f fT : Addr} {fd fdT : FuncData} (F : Fun K "_law_short" "_law_short" s_lshort f fd)
    (FT : Fun K "_law_times" "_law_times" s_ltimes fT fdT) (bT : Binds K fdT ["_law_one", "_law_other"] []) (gT : mg "_law_times" = some (.ref fT)) (GT : FnOk P w K mg base CX0 2 fT fdT ["_law_one", "_law_other"] (spTwo K (fun a b c d => a * c)))
    (ml : mg "len" = none) (mr : mg "range" = none) (mm : mg "max" = none) : FnOk P w K mg base CX0 3 f fd ["_law_life_here"] (spLshort K) := by
  refine F.ok sc_lshort (fun vs H Q E h => ?_) (fun cdv A outer s H vs Q E hr h => ?_)
  · obtain ⟨_, _, _, rfl, _⟩ := h
    rfl
  · obtain ⟨p, row, step, rfl, hlife, hlen, hnil, hsm, hst, q⟩ := h
    obtain ⟨pr, ps, l1, l2, l3⟩ := id hlife
    refine ⟨_, (pss_cons (ps_asg (pv 0) (pg_tup rfl (pgs_cons (pg_name (i := 1) sc_lshort.nd rfl (.inr rfl)) (pgs_cons (pg_name (i := 2) sc_lshort.nd rfl (.inl rfl)) pgs_nil)))) (pss_mid (ps_if (PW.pt (pw_and (pt_cmpR (op_neD hr.units) (pv 1) (pe_tup pa_nil) (nomark _)) (pw_and1 (pt_cmpR (op_eqD hr.units) (pe_ix ix_tup (pv 1) (pe_un un_neg pe_int) (fun _ _ => rfl)) (pe_tup (pa_cons pe_int (pa_cons pe_int pa_nil))) (nomark _))))) (pss_one (ps_set (i := 2) sc_lshort.nd rfl (.inl rfl) (pe_tup (pa_cons pe_int (pa_cons pe_int pa_nil))))) pss_nil) (pss_cons (ps_if (pt_cmpR (op_eqD hr.units) (pv 2) (pe_tup (pa_cons pe_int (pa_cons pe_int pa_nil))) (nomark _))
          (pss_cons (ps_setLc (i := 3) (own := [("_law_k", 5)]) (g := gName 5) (tt := tTest (tOp (rNeD K) (tOp (rIxT K) (tVar 1) (tVar 5)) (tTup (tCons (tC (.int 0)) (tCons (tC (.int 1)) tNil))))) (te := tVar 5) rfl sc_lshort.nd rfl rfl (sw_true rfl rfl rfl (by decide +kernel)) (pi_range1 (by rfl) mr (pa_cons (pe_callB call_len_seq (by rfl) ml PySem.boot_len (pa_cons (pv 1) pa_nil)) pa_nil))
                (blkOk_by (own := [("_law_k", 5)]) (N := N_lshort) (sc := defScope s_lshort) (by decide +kernel)) (fun _ _ _ _ _ => pg_name (i := 5) sc_lshort.nd rfl (.inl rfl)) (fun _ _ _ _ _ => pts_one (pt_cmpR (op_neD hr.units) (pe_ix ix_tup (pv 1) (pv 5) (fun _ _ => rfl)) (pe_tup (pa_cons pe_int (pa_cons pe_int pa_nil))) (nomark _))) (fun _ _ _ _ _ => pv 5)) (pss_one (ps_ret (pe_tup (pa_cons (pe_ifExp (pt_cmpR (op_neD hr.units) (pv 3) (pe_lst pa_nil) (nomark _)) (pe_slice sl_tupA (pv 1) po_none (po_some (pe_op op_add (pe_callB (cr_max rfl) (by rfl) mm (by decide +kernel) (pa_cons (pv 3) pa_nil)) pe_int))) (pe_tup pa_nil)) (pa_cons (pv 2) pa_nil)))))) pss_nil) (pss_cons (ps_set (i := 4) sc_lshort.nd rfl (.inl rfl) (pe_op op_sub (pe_callB call_len_seq (by rfl) ml PySem.boot_len (pa_cons (pv 1) pa_nil)) pe_int)) (pss_cons (ps_while PassesOwn.never (PW.pt (pw_and (pt_cmpR op_gt (pv 4) pe_int (nomark _)) (pw_and1 (pt_cmpR (op_eqD hr.units) (pe_call GT hr (by rfl) gT FT.kp bT .nil pass0 (pa_cons (pe_ix ix_tup (pv 1) (pe_op op_sub (pv 4) pe_int) (fun _ _ => rfl)) (pa_cons (pv 2) pa_nil))) (pe_ix ix_tup (pv 1) (pv 4) (fun _ _ => rfl)) (nomark _)))))
          (pss_one (ps_set (i := 4) sc_lshort.nd rfl (.inl rfl) (pe_op op_sub (pv 4) pe_int)))) (pss_one (ps_ret (pe_tup (pa_cons (pe_slice sl_tupA (pv 1) po_none (po_some (pe_op op_add (pv 4) pe_int))) (pa_cons (pv 2) pa_nil)))))))))), ?_⟩
    refine ⟨_, rfl, p, _, rfl, l1, rfl, _, _, rfl, _, _, rfl, rfl, ?_⟩
    -- the step that counts
    refine ⟨fun σ H1 => ∃ (ps1 : Addr) (st : RT), σ = [some (.ref p), some (.ref pr), some (.ref ps1), none, none, none] ∧ Same H H1 ∧ RAt K H1 ps1 st ∧ (GoesOn row step → st = step) ∧ (¬ GoesOn row step → st = (0, 1)), ?_, ?_⟩
    · refine ⟨_, rfl, by show 0 ≤ sizeLine; decide, fun a na => ?_⟩
      have e1 := same_new (o := HO.tup []) na
      refine ⟨_, _, (l2.tk (Tk.same e1)).dp, .tup (SqT.of upd_same) .nil, rowD_shaped row, rfl, _, rfl, ?_⟩
      rw [rowD_nil]
      rcases snoc_cases row with rfl | ⟨ys, y, rfl⟩
      · exact iteF (iteF ⟨ps, step, rfl, e1, l3.tk (Tk.same e1), fun z => absurd z goes_nil, fun _ => hnil rfl⟩)
      · have ne : (ys ++ [y]).isEmpty = false := by simp
        rw [ne]
        refine iteT ?_
        refine ⟨_, rfl, 1, rfl, ?_⟩
        refine ix_back (k := 1) (j := ys.length) (x := y) (l2.tk (Tk.same e1)) (by decide) (by simp) (by simp) fun r hr3 => ?_
        refine ⟨by show 2 ≤ sizeLine; decide, fun b nb => ?_⟩
        have e2 := same_new (o := HO.tup [.int 0, .int 1]) nb
        refine eq_rat (y := (0, 1)) (hr3.tk (Tk.same e2)) (SqT.of upd_same) ?_
        refine ⟨_, rfl, ite2 (fun c => ?_) (fun c => ?_)⟩
        · refine ⟨by show 2 ≤ sizeLine; decide, fun b2 nb2 => ?_⟩
          have e3 := same_new (o := HO.tup [.int 0, .int 1]) nb2
          exact ⟨b2, (0, 1), rfl, e1.trans (e2.trans e3), SqT.of upd_same, fun z => absurd (of_decide_eq_true c) (goes_snoc.mp z).2, fun _ => rfl⟩
        · refine ⟨ps, step, rfl, e1.trans e2, l3.tk (Tk.same (e1.trans e2)), fun _ => rfl, fun z => ?_⟩
          rcases Classical.em (step = (0, 1)) with y1 | y1
          · exact y1
          · exact absurd (goes_snoc.mpr ⟨y1, fun y2 => c (decide_eq_true y2)⟩) z
    rintro σ H1 ⟨ps1, st, rfl, s1, hst1, g1, g2⟩
    have hrow1 := l2.tk (Tk.same (K := K) s1)
    obtain ⟨rs, r1, r2⟩ := id hrow1
    have hl := r2.length
    refine ⟨_, rfl, by show 2 ≤ sizeLine; decide, fun a na => ?_⟩
    have e1 := same_new (o := HO.tup [.int 0, .int 1]) na
    refine eq_rat (y := (0, 1)) (hst1.tk (Tk.same e1)) (SqT.of upd_same) ?_
    have hrow2 := hrow1.tk (Tk.same (K := K) e1)
    refine ⟨_, rfl, ite2 (fun c => ?_) (fun c => ?_)⟩
    · have est : st = (0, 1) := of_decide_eq_true c
      have hg : ¬ GoesOn row step := fun z => by
        have := g1 z
        rw [est] at this
        exact z.1 this.symm
      rw [shortL_end hg] at q
      dsimp only at q
      subst est
      refine ⟨_, rfl, pr, _, rfl, .inr (Tk.same e1 _ _ r1), _, rfl, ?_, ?_, fun D nD => ?_⟩
      · omega
      · rw [List.length_map, hl]
        have : ((row.length : Nat) : Int) ≤ 1000 := by omega
        exact Int.lt_of_le_of_lt this (by decide)
      have e2 := same_new (o := HO.lst []) nD
      refine lc_range (lo := 0) (n := (((rs.map V.ref).length : Nat) : Int).toNat) (fun i H2 => ∃ us : List Int, Same H1 H2 ∧ H2 D = some (.lst (us.map V.int)) ∧ us.length ≤ i ∧ (∀ u ∈ us, ∃ k : Nat, u = (k : Int) ∧ k < i ∧ ∃ x, row[k]? = some x ∧ x ≠ (0, 1)) ∧ ∀ k x, k < i → row[k]? = some x → x ≠ (0, 1) → (k : Int) ∈ us) ?_ ?_ ?_
      · exact ⟨[], e1.trans e2, upd_same, Nat.le_refl _, fun u hu => by simp at hu, fun k x hk => absurd hk (Nat.not_lt_zero _)⟩
      · rintro i H2 hi ⟨us, s2, hD, hul, h1, h2⟩
        have hi2 : i < row.length := by
          rw [List.length_map, hl] at hi
          omega
        have hg2 : row[i]? = some row[i] := List.getElem?_eq_getElem hi2
        refine ⟨rfl, ?_⟩
        refine ⟨_, rfl, _, rfl, ?_⟩
        refine ix_row (j := i) (hrow1.tk (Tk.same s2)) (by omega) hg2 fun r hr3 => ?_
        refine ⟨by show 2 ≤ sizeLine; decide, fun b nb => ?_⟩
        have e3 := same_new (o := HO.tup [.int 0, .int 1]) nb
        refine ne_rat (y := (0, 1)) (hr3.tk (Tk.same e3)) (SqT.of upd_same) ?_
        refine ⟨_, rfl, ite2 (fun c2 => ?_) (fun c2 => ?_)⟩
        · have hne : row[i] ≠ (0, 1) := fun z => by
            rw [z] at c2
            exact absurd c2 (by decide)
          refine ⟨_, rfl, us.map V.int, e3 _ _ hD, ?_, us ++ [0 + (i : Int)], ?_, ?_, ?_, ?_, ?_⟩
          · rw [List.length_map]
            exact Nat.lt_of_le_of_lt (Nat.le_trans hul (Nat.le_of_lt (Nat.lt_of_lt_of_le hi2 hlen))) (by decide)
          · intro b2 o hb2
            rw [upd_ne (ne_of_none hb2 (Same.free e1 nD))]
            exact e3 _ _ (s2 _ _ hb2)
          · rw [upd_same, List.map_append]
            rfl
          · rw [List.length_append, List.length_singleton]
            omega
          · intro u hu
            rcases List.mem_append.mp hu with z | z
            · obtain ⟨k, e, hk, x, hx⟩ := h1 u z
              exact ⟨k, e, by omega, x, hx⟩
            · exact ⟨i, by have := List.mem_singleton.mp z; omega, by omega, _, hg2, hne⟩
          · intro k x hk hx hx0
            rcases (by omega : k < i ∨ k = i) with z | z
            · exact List.mem_append_left _ (h2 k x z hx hx0)
            · subst z
              exact List.mem_append_right _ (List.mem_singleton.mpr (by omega))
        · have hz : row[i] = (0, 1) := by
            rcases Classical.em (row[i] = (0, 1)) with z | z
            · exact z
            · exact absurd (show (!decide (row[i] = (0, 1))) = true by simp [z]) c2
          refine ⟨us, s2.trans e3, e3 _ _ hD, by omega, fun u hu => ?_, fun k x hk hx hx0 => ?_⟩
          · obtain ⟨k, e, hk, x, hx⟩ := h1 u hu
            exact ⟨k, e, by omega, x, hx⟩
          · rcases (by omega : k < i ∨ k = i) with z | z
            · exact h2 k x z hx hx0
            · subst z
              rw [hg2] at hx
              exact absurd ((Option.some.inj hx).symm.trans hz) hx0
      · rintro H2 ⟨us, s2, hD, hul, h1, h2⟩
        have en : (((rs.map V.ref).length : Nat) : Int).toNat = row.length := by
          rw [List.length_map, hl]
          omega
        rw [en] at h1 h2
        refine ⟨_, rfl, by show 0 ≤ sizeLine; decide, fun b nb => ?_⟩
        have e3 := same_new (o := HO.lst []) nb
        refine ⟨.list (us.map PyData.int), .list [], .lst (SqL.of (e3 _ _ hD)) (dpAll_ints us), .lst (SqL.of upd_same) .nil, shaped_ints us, rfl, _, rfl, ?_⟩
        rw [eqv_nil]
        have S := s1.trans (s2.trans e3)
        have ends : ∀ z H3, Same (upd H2 b (HO.lst [])) H3 → RowAt K H3 z (trimZ row) → ∀ y, H3 y = none → Q (.ref y) (upd H3 y (.tup [.ref z, .ref ps1])) := fun z H3 s3 hz y ny => by
          have e4 := same_new (o := HO.tup [.ref z, .ref ps1]) ny
          exact q y _ (S.trans (s3.trans e4)) ⟨z, ps1, SqT.of upd_same, hz.tk (Tk.same e4), hst1.tk (Tk.same (s2.trans (e3.trans (s3.trans e4))))⟩
        match us, h1, h2, hD with
        | [], h1, h2, hD =>
          refine iteF ?_
          refine ⟨by show 0 ≤ sizeLine; decide, fun b2 nb2 => ?_⟩
          have e4 := same_new (o := HO.tup []) nb2
          refine ⟨_, rfl, by show 2 ≤ sizeLine; decide, ends b2 _ e4 ?_⟩
          rw [trimZ_all fun y hy => ?_]
          · exact ⟨[], SqT.of upd_same, .nil⟩
          · obtain ⟨k, hk⟩ := List.mem_iff_getElem?.mp hy
            rcases Classical.em (y = (0, 1)) with z | z
            · exact z
            · have hk2 : k < row.length := (List.getElem?_eq_some_iff.mp hk).1
              have := h2 k y hk2 hk z
              simp at this
        | u :: us, h1, h2, hD =>
          refine iteT ?_
          refine ⟨_, rfl, _, rfl, D, u :: us, rfl, SqL.of (e3 _ _ hD), by simp, fun m hm hmax => ?_⟩
          obtain ⟨k, rfl, hk, x, hx, hx0⟩ := h1 m hm
          refine ⟨k, 1, rfl, rfl, _, rfl, ?_⟩
          have ek : (k : Int) + 1 = ((k + 1 : Nat) : Int) := by omega
          show rSlA K (.ref pr) none (some ((k : Int) + 1)) _ _
          rw [ek]
          refine take_row (hrow1.tk (Tk.same (s2.trans e3))) fun z H3 s3 hz => ?_
          refine ⟨_, rfl, by show 2 ≤ sizeLine; decide, ends z H3 s3 ?_⟩
          rw [trimZ_at hx hx0 fun j y hj hy => ?_]
          · exact hz
          · rcases Classical.em (y = (0, 1)) with z2 | z2
            · exact z2
            · have := hmax _ (h2 j y (List.getElem?_eq_some_iff.mp hy).1 hy z2)
              omega
    · have est : st ≠ (0, 1) := fun z => c (decide_eq_true z)
      have hg : GoesOn row step := by
        rcases Classical.em (GoesOn row step) with z | z
        · exact z
        · exact absurd (g2 z) est
      have es := g1 hg
      subst es
      rw [shortL_go hg] at q
      dsimp only at q
      obtain ⟨_, ys0, y0, erow, _⟩ := id hg
      have hpos : 0 < row.length := by
        rw [erow]
        simp
      refine ⟨_, rfl, pr, _, rfl, .inr (Tk.same e1 _ _ r1), _, 1, rfl, rfl, ?_⟩
      refine ⟨fun m σ H2 => m < row.length ∧ σ = [some (.ref p), some (.ref pr), some (.ref ps1), none, some (.int (m : Int)), none] ∧ Same H1 H2 ∧ trimG (row.take (m + 1)) st = trimG row st, ⟨row.length - 1, by omega, ?_, e1, ?_⟩, ?_⟩
      · show [some (V.ref p), some (V.ref pr), some (V.ref ps1), none, some (V.int ((((rs.map V.ref).length : Nat) : Int) - 1)), none] = _
        rw [List.length_map, hl, show ((row.length : Nat) : Int) - 1 = ((row.length - 1 : Nat) : Int) by omega]
      · rw [List.take_of_length_le (by omega)]
      · rintro m σ H2 ⟨hm, rfl, s2, et⟩
        have ends : ∀ H3, Same H2 H3 → trimG (row.take (m + 1)) st = row.take (m + 1) → tRet (tTup (tCons (tSl (rSlA K) (tVar 1) tNoPart (tPart (tOp (rI0 fun i j => .int (i + j)) (tVar 4) (tC (.int 1))))) (tCons (tVar 2) tNil))) { nx := fun _ H' => Q .non H', rt := Q }
            [some (.ref p), some (.ref pr), some (.ref ps1), none, some (.int (m : Int)), none] H3 := fun H3 s3 z => by
          refine ⟨_, rfl, _, rfl, m, 1, rfl, rfl, _, rfl, ?_⟩
          have ek : (m : Int) + 1 = ((m + 1 : Nat) : Int) := by omega
          show rSlA K (.ref pr) none (some ((m : Int) + 1)) _ _
          rw [ek]
          refine take_row (hrow1.tk (Tk.same (s2.trans s3))) fun z2 H4 s4 hz => ?_
          refine ⟨_, rfl, by show 2 ≤ sizeLine; decide, fun y ny => ?_⟩
          have e4 := same_new (o := HO.tup [.ref z2, .ref ps1]) ny
          refine q y _ (s1.trans (s2.trans (s3.trans (s4.trans e4)))) ⟨z2, ps1, SqT.of upd_same, ?_, hst1.tk (Tk.same (s2.trans (s3.trans (s4.trans e4))))⟩
          rw [← et, z]
          exact hz.tk (Tk.same e4)
        refine ⟨_, rfl, m, 0, rfl, rfl, _, rfl, ite2 (fun c2 => ?_) (fun c2 => ?_)⟩
        · have hm0 : 0 < m := by
            have : (0 : Int) < (m : Int) := of_decide_eq_true c2
            omega
          obtain ⟨k, rfl⟩ : ∃ k, m = k + 1 := ⟨m - 1, by omega⟩
          have hk : row[k]? = some row[k] := List.getElem?_eq_getElem (by omega)
          have hk1 : row[k + 1]? = some row[k + 1] := List.getElem?_eq_getElem (by omega)
          have sb := hsm row[k] (List.getElem_mem _)
          have etk : row.take (k + 1 + 1) = row.take k ++ [row[k]] ++ [row[k + 1]] := by
            rw [List.take_add_one, List.take_add_one, hk, hk1]
            rfl
          refine ⟨_, rfl, _, rfl, ((k + 1 : Nat) : Int), 1, rfl, rfl, ?_⟩
          refine ix_row (j := k) (hrow1.tk (Tk.same s2)) (by omega) hk fun r hr3 => ?_
          refine ⟨_, rfl, r, ps1, _, _, _, _, rfl, ⟨hr3, hst1.tk (Tk.same s2), sb.2.1.mono (by decide), sb.2.2.mono (by decide), hst.1.2.1.mono (by decide), hst.1.2.2.mono (by decide), sb.1.1, hst.1.1.1⟩, fun b nb => ?_⟩
          have e3 := same_new (o := HO.tup [.int (rT row[k] st).1, .int (rT row[k] st).2]) nb
          refine ⟨_, rfl, _, rfl, ?_⟩
          refine ix_row (j := k + 1) (hrow1.tk (Tk.same (s2.trans e3))) rfl hk1 fun r4 hr4 => ?_
          refine eq_rat (x := rT row[k] st) (SqT.of upd_same) hr4 ?_
          refine ⟨_, rfl, ite2 (fun c3 => ?_) (fun c3 => ?_)⟩
          · have ey : rT row[k] st = row[k + 1] := of_decide_eq_true c3
            refine ⟨fun σ' H' => σ' = [some (.ref p), some (.ref pr), some (.ref ps1), none, some (.int (k : Int)), none] ∧ Same H1 H', fun σ' H' z => ?_, ?_⟩
            · obtain ⟨rfl, s4⟩ := z
              refine ⟨k, by omega, by omega, rfl, s4, ?_⟩
              rw [← et, etk, ← ey, trimG_cut, List.take_add_one, hk]
              rfl
            · refine ⟨_, rfl, ((k + 1 : Nat) : Int), 1, rfl, rfl, ?_, s2.trans e3⟩
              show [some (V.ref p), some (V.ref pr), some (V.ref ps1), none, some (V.int (((k + 1 : Nat) : Int) - 1)), none] = _
              rw [show ((k + 1 : Nat) : Int) - 1 = (k : Int) by omega]
          · refine ends _ e3 ?_
            rw [etk]
            exact trimG_stop _ fun z => c3 (decide_eq_true z.symm)
        · have hm0 : m = 0 := by
            have : ¬ (0 : Int) < (m : Int) := fun z => c2 (decide_eq_true z)
            omega
          subst hm0
          refine iteF (ends _ (Same.refl _) ?_)
          have h0 : row[0]? = some row[0] := List.getElem?_eq_getElem hm
          have e0 : row.take (0 + 1) = [row[0]] := by
            rw [List.take_add_one, h0]
            rfl
          rw [e0]
          exact trimG_one _ _
end

end Fp

set_option Elab.async false
set_option linter.all false
set_option maxRecDepth 100000
set_option maxHeartbeats 4000000
set_option exponentiation.threshold 10000
namespace Fp
open PySem PySem.Spec PyProof.Rows L2
/-! ### lives made longer -/
abbrev s_longer : Stmt := topS 23
theorem sc_longer : FnScope ["_law_feed_here", "_law_life_here", "_law_row", "_law_step", "_law_by", "_law_turn"] ["_law_feed_here", "_law_life_here"] (defScope s_longer) := ⟨rfl, rfl, rfl, by decide +kernel, rfl, by decide +kernel, by decide +kernel⟩
/-- may be made longer, to twelve -/
structure Lng (n : Nat) (row : List RT) (step : RT) : Prop where
  len : row.length ≤ 12
  full : row.length = 12 → ¬ GoesOn row step → row.getLast? = some (0, 1)
  nil : row = [] → step = (0, 1)
  sm : ∀ x ∈ row, SmR n x
  st : StepOk 5 step
theorem flat_rep {α : Type} (a : α) : ∀ k : Nat, (List.replicate k [a]).flatten = List.replicate k a
  | 0 => rfl
  | k + 1 => by
    rw [List.replicate_succ, List.flatten_cons, flat_rep a k]
    rfl
theorem RsAt.rep {K : PySem.W.Frag} {H : Hp} {p : Addr} {x : RT} (h : RAt K H p x) : ∀ k : Nat, RsAt K H (List.replicate k p) (List.replicate k x)
  | 0 => .nil
  | k + 1 => .cons h (RsAt.rep h k)
/-- ((0, 1),) * k -/
theorem rep_row {K : PySem.W.Frag} {H : Hp} {p a : Addr} {x : RT} {k : Nat} {Q : VK} (h : SqT K H p [.ref a]) (ha : RAt K H a x) (hk : k ≤ 1000) (q : ∀ r H', Same H H' → RowAt K H' r (List.replicate k x) → Q (.ref r) H') : rRepA K (.ref p) (.int (k : Int)) H Q := by
  refine ⟨p, k, _, rfl, rfl, h, by simp, by omega, by omega, by show 1 ≤ 1000; decide, fun z => ?_, fun _ r nr => ?_⟩
  · have e : k = 1 := by omega
    subst e
    exact q p H (Same.refl H) ⟨[a], h, .cons ha .nil⟩
  · have s := same_new (o := HO.tup (List.replicate (k : Int).toNat [V.ref a]).flatten) nr
    refine q r _ s ⟨List.replicate k a, ?_, (RsAt.rep ha k).tk (Tk.same s)⟩
    have e : (List.replicate k a).map V.ref = (List.replicate (k : Int).toNat [V.ref a]).flatten := by
      rw [flat_rep, List.map_replicate, Int.toNat_natCast]
    rw [e]
    exact SqT.of upd_same
section
variable {P : Program} {w : World} {K : PySem.W.Frag} {mg : Str → Option Value} {base : Heap}
def spLonger (K : PySem.W.Frag) : Sp := fun vs H Q _ => ∃ (d c p : Addr) (t : Int) (n : Nat) (row : List RT) (step : RT), vs = [.ref d, .ref p] ∧ Feed H d c t ∧ t ≤ 800000 ∧ LifeAt K H p row step ∧ Lng n row step ∧ n ≤ 300 ∧
  ∀ z row' step' t' H', Keep d H H' → Feed H' d c t' → t' ≤ t + 2 → LifeAt K H' z row' step' → Lng (n + 60) row' step' → shortL row' step' = shortL row step → Q (.ref z) H'
theorem ok_longer {f fD fT : Addr} {fd fdD fdT : FuncData} (F : Fun K "_law_longer" "_law_longer" s_longer f fd) (FD : Fun K "_law_draw" "_law_draw" s_draw fD fdD) (bD : Binds K fdD ["_law_feed_here", "_law_many"] []) (gD : mg "_law_draw" = some (.ref fD))
    (GD : FnOk P w K mg base CX0 1 fD fdD ["_law_feed_here", "_law_many"] spDraw)
    (FT : Fun K "_law_times" "_law_times" s_ltimes fT fdT) (bT : Binds K fdT ["_law_one", "_law_other"] []) (gT : mg "_law_times" = some (.ref fT)) (GT : FnOk P w K mg base CX0 2 fT fdT ["_law_one", "_law_other"] (spTwo K (fun a b c d => a * c)))
    (ml : mg "len" = none) (mr : mg "range" = none) (mn : mg "min" = none) : FnOk P w K mg base CX0 3 f fd ["_law_feed_here", "_law_life_here"] (spLonger K) := by
  refine F.ok sc_longer (fun vs H Q E h => ?_) (fun cdv A outer s H vs Q E hr2 h => ?_)
  · obtain ⟨_, _, _, _, _, _, _, rfl, _⟩ := h
    rfl
  · obtain ⟨d, c, p, t, n, row, step, rfl, f0, ht, ⟨pr, ps, l1, l2, l3⟩, L, hn, q⟩ := h
    have hr := hr2.mono (show 1 ≤ 2 by decide)
    refine ⟨_, (pss_cons (ps_asg (pv 1) (pg_tup rfl (pgs_cons (pg_name (i := 2) sc_longer.nd rfl (.inl rfl)) (pgs_cons (pg_name (i := 3) sc_longer.nd rfl (.inl rfl)) pgs_nil)))) (pss_cons (ps_set (i := 4) sc_longer.nd rfl (.inl rfl) (pe_callB (call_min2 rfl) (by rfl) mn (by decide +kernel) (pa_cons (pe_ix ix_list (pe_lst (pa_cons pe_int (pa_cons pe_int (pa_cons pe_int pa_nil)))) (pe_call GD hr (by rfl) gD FD.kp bD .nil pass0 (pa_cons (pv 0) (pa_cons pe_int pa_nil))) (fun _ _ => rfl)) (pa_cons (pe_op op_sub pe_int (pe_callB call_len_seq (by rfl) ml PySem.boot_len (pa_cons (pv 2) pa_nil))) pa_nil)))) (pss_cons (ps_if (PW.pt (pw_and (pt_cmpR (op_neD hr.units) (pv 3) (pe_tup (pa_cons pe_int (pa_cons pe_int pa_nil))) (nomark _)) (pw_and1 (pt_cmpR (op_neD hr.units) (pe_ix ix_tup (pv 2) (pe_un un_neg pe_int) (fun _ _ => rfl)) (pe_tup (pa_cons pe_int (pa_cons pe_int pa_nil))) (nomark _)))))
          (pss_cons (ps_for PassesOwn.never rfl (pi_range1 (by rfl) mr (pa_cons (pv 4) pa_nil)) (pg_name (i := 5) sc_longer.nd rfl (.inl rfl)) (pss_one (ps_set (i := 2) sc_longer.nd rfl (.inl rfl) (pe_op op_catA (pv 2) (pe_tup (pa_cons (pe_call GT hr2 (by rfl) gT FT.kp bT .nil pass0 (pa_cons (pe_ix ix_tup (pv 2) (pe_un un_neg pe_int) (fun _ _ => rfl)) (pa_cons (pv 3) pa_nil))) pa_nil)))))) (pss_one (ps_ret (pe_tup (pa_cons (pv 2) (pa_cons (pv 3) pa_nil)))))) pss_nil) (pss_one (ps_ret (pe_tup (pa_cons (pe_op op_catA (pv 2) (pe_op op_repA (pe_tup (pa_cons (pe_tup (pa_cons pe_int (pa_cons pe_int pa_nil))) pa_nil)) (pv 4))) (pa_cons (pe_ix ix_list (pe_lst (pa_cons (pe_tup (pa_cons pe_int (pa_cons pe_int pa_nil))) (pa_cons (pe_tup (pa_cons pe_int (pa_cons pe_int pa_nil))) (pa_cons (pe_tup (pa_cons pe_int (pa_cons pe_int pa_nil))) pa_nil)))) (pe_call GD hr (by rfl) gD FD.kp bD .nil pass0 (pa_cons (pv 0) (pa_cons pe_int pa_nil))) (fun _ _ => rfl)) pa_nil)))))))), ?_⟩
    refine ⟨_, rfl, p, _, rfl, l1, rfl, _, _, rfl, _, _, rfl, rfl, ?_⟩
    -- by
    refine ⟨by show 3 ≤ sizeLine; decide, fun p1 n1 => ?_⟩
    refine ⟨_, rfl, d, c, 3, t, rfl, f0.new n1, by omega, by decide, by decide, fun r1 H1 h10 h11 k1 f1 => ?_⟩
    obtain ⟨v1, e1, c1⟩ : ∃ v, atI [V.int 1, V.int 2, V.int 11] r1 = some v ∧ ∃ x : Int, v = .int x ∧ 1 ≤ x ∧ x ≤ 11 := by
      rcases (by omega : r1 = 0 ∨ r1 = 1 ∨ r1 = 2) with rfl | rfl | rfl
      · exact ⟨_, atI_nat (j := 0) rfl, 1, rfl, by decide, by decide⟩
      · exact ⟨_, atI_nat (j := 1) rfl, 2, rfl, by decide, by decide⟩
      · exact ⟨_, atI_nat (j := 2) rfl, 11, rfl, by decide, by decide⟩
    obtain ⟨x1, rfl, x1a, x1b⟩ := c1
    have K1 := keep_new n1 k1
    have tk1 : Tk K H H1 := Tk.trans (Tk.new n1) (Tk.keep (f0.new n1) k1)
    have hrow := l2.tk tk1
    have hstep := l3.tk tk1
    obtain ⟨rs, r1', r2'⟩ := id hrow
    have hl := r2'.length
    have hlen := L.len
    refine ⟨p1, _, r1, _, rfl, rfl, SqL.of (keep_at (f0.new n1) k1 upd_same (fun _ z => nomatch z)), e1, ?_⟩
    refine ⟨_, rfl, pr, _, rfl, .inr r1', 12, _, rfl, rfl, x1, _, rfl, ?_⟩
    obtain ⟨by', hby, hby1, hby2, hby3⟩ : ∃ b : Nat, (if (12 : Int) - (((rs.map V.ref).length : Nat) : Int) < x1 then (12 : Int) - (((rs.map V.ref).length : Nat) : Int) else x1) = (b : Int) ∧ b ≤ 11 + 1 ∧ row.length + b ≤ 12 ∧ (b = 0 → row.length = 12) := by
      rw [List.length_map, hl]
      split
      · exact ⟨12 - row.length, by omega, by omega, by omega, by omega⟩
      · exact ⟨x1.toNat, by omega, by omega, by omega, by omega⟩
    rw [hby]
    -- does it go on?
    refine ⟨_, rfl, by show 2 ≤ sizeLine; decide, fun a na => ?_⟩
    have e2 := same_new (o := HO.tup [.int 0, .int 1]) na
    refine ne_rat (y := (0, 1)) (hstep.tk (Tk.same e2)) (SqT.of upd_same) ?_
    have endB : ∀ H2, Same H1 H2 → ¬ GoesOn row step → tRet (tTup (tCons (tOp (rCatA K) (tVar 2) (tOp (rRepA K) (tTup (tCons (tTup (tCons (tC (.int 0)) (tCons (tC (.int 1)) tNil))) tNil)) (tVar 4))) (tCons (tOp (rIxL K) (tLst (tCons (tTup (tCons (tC (.int 0)) (tCons (tC (.int 1)) tNil))) (tCons (tTup (tCons (tC (.int 1)) (tCons (tC (.int 2)) tNil))) (tCons (tTup (tCons (tC (.int 5)) (tCons (tC (.int 9)) tNil))) tNil)))) (tCall spDraw [] E0 (tCons (tVar 0) (tCons (tC (.int 3)) tNil)))) tNil)))
        { nx := fun _ H' => Q .non H', rt := Q } [some (.ref d), some (.ref p), some (.ref pr), some (.ref ps), some (.int (by' : Int)), none] H2 := by
      intro H2 s2 hg
      refine ⟨_, rfl, by show 2 ≤ sizeLine; decide, fun a1 m1 => ?_⟩
      have g1 := same_new (o := HO.tup [.int 0, .int 1]) m1
      refine ⟨by show 1 ≤ sizeLine; decide, fun a2 m2 => ?_⟩
      have g2 := same_new (o := HO.tup [.ref a1]) m2
      refine ⟨_, rfl, ?_⟩
      refine rep_row (x := (0, 1)) (SqT.of upd_same) (SqT.of (g2 _ _ upd_same)) (by omega) fun a3 H3 s3 h3 => ?_
      have S3 := s2.trans (g1.trans (g2.trans s3))
      refine cat_row (hrow.tk (Tk.same S3)) h3 (by rw [List.length_replicate]; omega) fun z H4 s4 hz => ?_
      have S4 := S3.trans s4
      refine ⟨by show 2 ≤ sizeLine; decide, fun b1 q1 => ?_⟩
      have w1 := same_new (o := HO.tup [.int 0, .int 1]) q1
      refine ⟨by show 2 ≤ sizeLine; decide, fun b2 q2 => ?_⟩
      have w2 := same_new (o := HO.tup [.int 1, .int 2]) q2
      refine ⟨by show 2 ≤ sizeLine; decide, fun b3 q3 => ?_⟩
      have w3 := same_new (o := HO.tup [.int 5, .int 9]) q3
      refine ⟨by show 3 ≤ sizeLine; decide, fun b4 q4 => ?_⟩
      have w4 := same_new (o := HO.lst [.ref b1, .ref b2, .ref b3]) q4
      have W := w1.trans (w2.trans (w3.trans w4))
      have fW := (f1.same S4).same W
      have j1 := w4 _ _ (w3 _ _ (w2 _ _ (upd_same (H := H4) (a := b1) (o := HO.tup [.int 0, .int 1]))))
      have j2 := w4 _ _ (w3 _ _ (upd_same (H := upd H4 b1 (HO.tup [.int 0, .int 1])) (a := b2) (o := HO.tup [.int 1, .int 2])))
      have j3 := w4 _ _ (upd_same (H := upd (upd H4 b1 (HO.tup [.int 0, .int 1])) b2 (HO.tup [.int 1, .int 2])) (a := b3) (o := HO.tup [.int 5, .int 9]))
      refine ⟨_, rfl, d, c, 3, t + 1, rfl, fW, by omega, by decide, by decide, fun r5 H5 h50 h51 k5 f5 => ?_⟩
      have tk5 : Tk K _ H5 := Tk.keep fW k5
      obtain ⟨v5, e5, b, st, rfl, hb, hst⟩ : ∃ v, atI [V.ref b1, V.ref b2, V.ref b3] r5 = some v ∧ ∃ (b : Addr) (st : RT), v = .ref b ∧ RAt K H5 b st ∧ StepOk 5 st := by
        rcases (by omega : r5 = 0 ∨ r5 = 1 ∨ r5 = 2) with rfl | rfl | rfl
        · exact ⟨_, atI_nat (j := 0) rfl, b1, (0, 1), rfl, tk5 _ _ (SqT.of j1), ⟨⟨by decide, by decide⟩, by unfold Sm; decide, by unfold Sm; decide⟩, by decide, by decide⟩
        · exact ⟨_, atI_nat (j := 1) rfl, b2, (1, 2), rfl, tk5 _ _ (SqT.of j2), ⟨⟨by decide, by decide⟩, by unfold Sm; decide, by unfold Sm; decide⟩, by decide, by decide⟩
        · exact ⟨_, atI_nat (j := 2) rfl, b3, (5, 9), rfl, tk5 _ _ (SqT.of j3), ⟨⟨by decide, by decide⟩, by unfold Sm; decide, by unfold Sm; decide⟩, by decide, by decide⟩
      refine ⟨b4, _, r5, _, rfl, rfl, SqL.of (keep_at fW k5 upd_same (fun _ z => nomatch z)), e5, by show 2 ≤ sizeLine; decide, fun y ny => ?_⟩
      have w5 := same_new (o := HO.tup [.ref z, .ref b]) ny
      have hlast : by' = 0 → row.getLast? = some (0, 1) := fun z0 => L.full (hby3 z0) hg
      have nog : by' = 0 → ¬ GoesOn row st := fun z0 => by
        have hz0 := hlast z0
        rcases snoc_cases row with e0 | ⟨ys, y0, e0⟩
        · rw [e0] at hz0
          simp at hz0
        · subst e0
          have e9 : (ys ++ [y0]).getLast? = some y0 := by simp
          rw [e9] at hz0
          cases Option.some.inj hz0
          exact fun z => (goes_snoc.mp z).2 rfl
      obtain ⟨ng, es⟩ := shortL_noughts (st := st) hg nog
      refine q y _ st (t + 1 + 1) _ (K1.trans ((Keep.of_same S4).trans ((Keep.of_same W).trans (k5.trans (Keep.of_same w5))))) (f5.same w5) (by omega) ⟨z, b, SqT.of upd_same, (hz.tk (Tk.trans (Tk.same W) tk5)).tk (Tk.same w5), hb.tk (Tk.same w5)⟩ ⟨?_, ?_, ?_, ?_, hst⟩ es
      · rw [List.length_append, List.length_replicate]
        exact hby2
      · intro _ _
        rcases Nat.eq_zero_or_pos by' with z0 | z0
        · rw [z0, List.replicate_zero, List.append_nil]
          exact hlast z0
        · obtain ⟨k, rfl⟩ : ∃ k, by' = k + 1 := ⟨by' - 1, by omega⟩
          rw [List.replicate_succ', ← List.append_assoc]
          simp
      · intro z0
        have z1 := congrArg List.length z0
        rw [List.length_append, List.length_replicate, List.length_nil] at z1
        have := hby3 (by omega)
        omega
      · intro x hx
        rcases List.mem_append.mp hx with z0 | z0
        · exact (L.sm x z0).mono (by omega)
        · rw [List.eq_of_mem_replicate z0]
          exact SmR.mono (n := 1) ⟨⟨by decide, by decide⟩, by unfold Sm; decide, by unfold Sm; decide⟩ (by omega)
    refine ⟨_, rfl, ite2 (fun c2 => ?_) (fun c2 => ?_)⟩
    · have hs : step ≠ (0, 1) := fun z => by
        rw [z] at c2
        exact absurd c2 (by decide)
      rcases snoc_cases row with e0 | ⟨ys, y0, e0⟩
      · exact absurd (L.nil e0) hs
      · refine ⟨_, rfl, 1, rfl, ?_⟩
        refine ix_back (k := 1) (j := ys.length) (x := y0) (hrow.tk (Tk.same e2)) (by decide) (by rw [e0]; simp) (by rw [e0]; simp) fun r3 hr3 => ?_
        refine ⟨by show 2 ≤ sizeLine; decide, fun a3 m3 => ?_⟩
        have e3 := same_new (o := HO.tup [.int 0, .int 1]) m3
        refine ne_rat (y := (0, 1)) (hr3.tk (Tk.same e3)) (SqT.of upd_same) ?_
        refine ⟨_, rfl, ite2 (fun c3 => ?_) (fun c3 => ?_)⟩
        · have hy0 : y0 ≠ (0, 1) := fun z => by
            rw [z] at c3
            exact absurd c3 (by decide)
          have hg : GoesOn row step := by
            rw [e0]
            exact goes_snoc.mpr ⟨hs, hy0⟩
          obtain ⟨st1, st2, st3⟩ := L.st
          have S3 := e2.trans e3
          refine ⟨_, rfl, by', rfl, by omega, by omega, for_range (lo := 0) (n := ((by' : Nat) : Int).toNat) (fun i σ H4 => ∃ (pr4 : Addr) (y5 : Option V) (ys : List RT) (l : RT), σ = [some (.ref d), some (.ref p), some (.ref pr4), some (.ref ps), some (.int (by' : Int)), y5] ∧ Same H1 H4 ∧ RowAt K H4 pr4 (ys ++ [l]) ∧ (ys ++ [l]).length = row.length + i ∧
            (∀ x ∈ ys ++ [l], SmR (n + 5 * i) x) ∧ GoesOn (ys ++ [l]) step ∧ shortL (ys ++ [l]) step = shortL row step) ?_ ?_ ?_⟩
          · refine ⟨pr, _, ys, y0, rfl, S3, ?_, by rw [e0]; rfl, ?_, ?_, by rw [e0]⟩
            · rw [← e0]
              exact hrow.tk (Tk.same S3)
            · rw [← e0]
              exact L.sm
            · rw [← e0]
              exact hg
          · rintro i σ H4 hi ⟨pr4, y5, ys, l, rfl, s4, hrow4, hl4, hsm4, hg4, he4⟩
            have hsl := hsm4 l (by simp)
            refine ⟨_, rfl, _, rfl, 1, rfl, ?_⟩
            refine ix_back (k := 1) (j := ys.length) (x := l) hrow4 (by decide) (by simp) (by simp) fun r5 hr5 => ?_
            refine ⟨_, rfl, r5, ps, _, _, _, _, rfl, ⟨hr5, hstep.tk (Tk.same s4), hsl.2.1.mono (by omega), hsl.2.2.mono (by omega), st1.2.1.mono (by decide), st1.2.2.mono (by decide), hsl.1.1, st1.1.1⟩, fun b nb => ?_⟩
            have e5 := same_new (o := HO.tup [.int (rT l step).1, .int (rT l step).2]) nb
            refine ⟨by show 1 ≤ sizeLine; decide, fun b2 nb2 => ?_⟩
            have e6 := same_new (o := HO.tup [.ref b]) nb2
            refine cat_row (hrow4.tk (Tk.same (e5.trans e6))) (ys := [rT l step]) ⟨[b], SqT.of upd_same, .cons (SqT.of (e6 _ _ upd_same)) .nil⟩ (by rw [List.length_singleton]; omega) fun z H5 s5 hz => ?_
            obtain ⟨g5, es5⟩ := shortL_more hg4 hsl.1 st1.1
            refine ⟨z, _, ys ++ [l], rT l step, rfl, s4.trans (e5.trans (e6.trans s5)), hz, ?_, ?_, g5, es5.trans he4⟩
            · rw [List.length_append (as := ys ++ [l]), hl4, List.length_singleton]
              omega
            · intro x hx
              rcases List.mem_append.mp hx with z0 | z0
              · exact (hsm4 x z0).mono (by omega)
              · rw [List.mem_singleton.mp z0]
                exact (rT_sm hsl st1).mono (by omega)
          · rintro σ H4 ⟨pr4, y5, ys, l, rfl, s4, hrow4, hl4, hsm4, hg4, he4⟩
            refine ⟨_, rfl, _, rfl, by show 2 ≤ sizeLine; decide, fun y ny => ?_⟩
            have e5 := same_new (o := HO.tup [.ref pr4, .ref ps]) ny
            have S5 := s4.trans e5
            have hbn : ((by' : Nat) : Int).toNat = by' := by omega
            rw [hbn] at hl4 hsm4
            refine q y _ step (t + 1) _ (K1.trans (Keep.of_same S5)) (f1.same S5) (by omega) ⟨pr4, ps, SqT.of upd_same, hrow4.tk (Tk.same e5), hstep.tk (Tk.same S5)⟩ ⟨by omega, fun _ z => absurd hg4 z, fun z => ?_, fun x hx => (hsm4 x hx).mono (by omega), L.st⟩ he4
            have := congrArg List.length z
            rw [List.length_append, List.length_singleton, List.length_nil] at this
            omega
        · refine endB _ (e2.trans e3) ?_
          rw [e0]
          intro z
          have := (goes_snoc.mp z).2
          exact c3 (show (!decide (y0 = (0, 1))) = true by simp [this])
    · refine iteF (endB _ e2 fun z => ?_)
      have := z.1
      exact c2 (show (!decide (step = (0, 1))) = true by simp [this])
end

end Fp

set_option Elab.async false
set_option linter.all false
set_option maxRecDepth 100000
set_option maxHeartbeats 4000000
set_option exponentiation.threshold 10000
namespace Fp
open PySem PySem.Spec PyProof.Rows L2
/-! ### lives shown -/
theorem sh_int {i : Int} (h : Sm 1900 i) : (PyData.int i).showable = true ∧ (PyData.int i).leavesShort 2000 = true := by
  have l : i.natAbs.log2 < 1900 := h.log (by decide)
  refine ⟨?_, ?_⟩
  · simp only [PyData.showable, decide_eq_true_eq]
    omega
  · simp only [PyData.leavesShort, decide_eq_true_eq]
    have e := int_text_length_le (k := 1900) (by decide) l
    show (Str.ofString (toString i)).length ≤ 2000
    rw [PySem.ofString_length]
    omega
/-- a thing that may be shown within others -/
structure Sh (c k : Nat) (d : PyData) : Prop where
  sh : d.showable = true
  lv : d.leavesShort 2000 = true
  co : cost d ≤ c
  dp : d.depth ≤ k
theorem Sh.shows {c k : Nat} {d : PyData} (h : Sh c k d) (hc : c ≤ 16000000) (hk : k ≤ 60) : Shows d := ⟨h.sh, h.lv, Nat.le_trans h.co hc, Nat.le_trans h.dp hk⟩
structure Shs (c k : Nat) (ds : List PyData) : Prop where
  sh : PyData.showableAll ds = true
  lv : PyData.leavesShortAll 2000 ds = true
  co : costAll ds ≤ c
  dp : PyData.depthAll ds ≤ k
theorem Shs.nil {k : Nat} : Shs 0 k [] := ⟨rfl, rfl, Nat.le_refl _, Nat.zero_le _⟩
theorem Shs.cons {c1 c2 k : Nat} {d : PyData} {ds : List PyData} (h : Sh c1 k d) (hs : Shs c2 k ds) : Shs (c1 + 2 + c2) k (d :: ds) := by
  refine ⟨?_, ?_, ?_, ?_⟩
  · show (d.showable && PyData.showableAll ds) = true
    rw [h.sh, hs.sh]
    rfl
  · show (d.leavesShort 2000 && PyData.leavesShortAll 2000 ds) = true
    rw [h.lv, hs.lv]
    rfl
  · show cost d + 2 + costAll ds ≤ _
    have := h.co
    have := hs.co
    omega
  · show max d.depth (PyData.depthAll ds) ≤ k
    have := h.dp
    have := hs.dp
    omega
theorem Shs.tup {c k : Nat} {ds : List PyData} (h : Shs c k ds) : Sh (c + 3) (k + 1) (.tuple ds) := ⟨h.sh, h.lv, Nat.add_le_add_right h.co 3, Nat.add_le_add_right h.dp 1⟩
theorem Shs.lst {c k : Nat} {ds : List PyData} (h : Shs c k ds) : Sh (c + 3) (k + 1) (.list ds) := ⟨h.sh, h.lv, Nat.add_le_add_right h.co 3, Nat.add_le_add_right h.dp 1⟩
theorem Sh.int {i : Int} (h : Sm 1900 i) : Sh 2000 0 (.int i) := ⟨(sh_int h).1, (sh_int h).2, Nat.le_refl _, Nat.le_refl _⟩
theorem Sh.bool {b : Bool} : Sh 5 0 (.bool b) := ⟨rfl, rfl, Nat.le_refl _, Nat.le_refl _⟩
theorem Sh.mono {c c2 k k2 : Nat} {d : PyData} (h : Sh c k d) (h1 : c ≤ c2) (h2 : k ≤ k2) : Sh c2 k2 d := ⟨h.sh, h.lv, Nat.le_trans h.co h1, Nat.le_trans h.dp h2⟩
theorem Shs.mono {c c2 k k2 : Nat} {ds : List PyData} (h : Shs c k ds) (h1 : c ≤ c2) (h2 : k ≤ k2) : Shs c2 k2 ds := ⟨h.sh, h.lv, Nat.le_trans h.co h1, Nat.le_trans h.dp h2⟩
def ratD (x : RT) : PyData := .tuple [.int x.1, .int x.2]
theorem Sh.rat {x : RT} {n : Nat} (h : SmR n x) (hn : n ≤ 1900) : Sh 4007 1 (ratD x) := (Shs.cons (Sh.int (h.2.1.mono hn)) (Shs.cons (Sh.int (h.2.2.mono hn)) Shs.nil)).tup
theorem Shs.row {n : Nat} (hn : n ≤ 1900) : ∀ {xs : List RT}, (∀ x ∈ xs, SmR n x) → Shs (4009 * xs.length) 1 (rowD xs)
  | [], _ => Shs.nil
  | x :: r, h => by
    have h1 := Shs.cons (Sh.rat (h x (List.mem_cons_self ..)) hn) (Shs.row hn fun y hy => h y (List.mem_cons_of_mem _ hy))
    refine h1.mono ?_ (Nat.le_refl _)
    rw [List.length_cons]
    omega
def lifeD (row : List RT) (step : RT) : PyData := .tuple [.tuple (rowD row), ratD step]
theorem Sh.life {n : Nat} {row : List RT} {step : RT} (hn : n ≤ 1900) (h : ∀ x ∈ row, SmR n x) (hs : SmR n step) (hl : row.length ≤ 100) : Sh 500000 3 (lifeD row step) := by
  have h1 := (Shs.row hn h).tup
  have h2 := (Shs.cons h1 (Shs.cons ((Sh.rat hs hn).mono (Nat.le_refl _) (by decide : 1 ≤ 2)) Shs.nil)).tup
  exact h2.mono (by omega) (Nat.le_refl _)
theorem LifeAt.dp {K : PySem.W.Frag} {H : Hp} {p : Addr} {row : List RT} {step : RT} (h : LifeAt K H p row step) : Dp K H (.ref p) (lifeD row step) := by
  obtain ⟨pr, ps, h1, h2, h3⟩ := h
  exact .tup h1 (.cons h2.dp (.cons h3.dp .nil))

end Fp

set_option Elab.async false
set_option linter.all false
set_option maxRecDepth 100000
set_option maxHeartbeats 4000000
set_option exponentiation.threshold 10000
namespace Fp
open PySem PySem.Spec PyProof.Rows L2
abbrev s_law : Stmt := topS 24
theorem sc_law : FnScope ["_law_script", "_law_feed_here", "_law_life_here", "_law_due", "_law_some", "_law_kept", "_law_one", "_law_told"] ["_law_script"] (defScope s_law) := ⟨rfl, rfl, rfl, by decide +kernel, rfl, by decide +kernel, by decide +kernel⟩
theorem AnyLife.lng {row : List RT} {step : RT} (h : AnyLife row step) : Lng 20 row step ∧ row.length ≤ 7 := by
  have nought : SmR 20 (0, 1) := ⟨⟨by decide, by decide⟩, by unfold Sm; decide, by unfold Sm; decide⟩
  rcases h with h | ⟨row0, l, h, h5, hs, hl, rfl⟩ | ⟨row0, h, h5, rfl, hs⟩
  · obtain ⟨s1, s2, s3, s4⟩ := h.sm
    have := h.len
    refine ⟨⟨by omega, fun z => by omega, fun z => ?_, fun x hx => (s1 x hx).1.mono (by decide), s2.mono (by decide), s3, s4⟩, by omega⟩
    rcases Classical.em (step = (0, 1)) with y | y
    · exact y
    · exact absurd z (h.ne y)
  · obtain ⟨s1, s2, s3, s4⟩ := h.sm
    have hlen : (row0 ++ [rT l step]).length ≤ 6 := by
      rw [List.length_append, List.length_singleton]
      omega
    refine ⟨⟨by omega, fun z => by omega, fun z => ?_, fun x hx => ?_, s2.mono (by decide), s3, s4⟩, by omega⟩
    · have := congrArg List.length z
      simp at this
    · rcases List.mem_append.mp hx with z | z
      · exact (s1 x z).1.mono (by decide)
      · rw [List.mem_singleton.mp z]
        exact (rT_sm (s1 l (List.mem_of_getElem? hl)).1 s2).mono (by decide)
  · obtain ⟨s1, s2, s3, s4⟩ := h.sm
    have hlen : (row0 ++ [((0 : Int), (1 : Int))]).length ≤ 6 := by
      rw [List.length_append, List.length_singleton]
      omega
    refine ⟨⟨by omega, fun z => by omega, fun z => ?_, fun x hx => ?_, ?_⟩, by omega⟩
    · have := congrArg List.length z
      simp at this
    · rcases List.mem_append.mp hx with z | z
      · exact (s1 x z).1.mono (by decide)
      · rw [List.mem_singleton.mp z]
        exact nought
    · rcases hs with rfl | rfl
      · exact ⟨⟨⟨by decide, by decide⟩, by unfold Sm; decide, by unfold Sm; decide⟩, by decide, by decide⟩
      · exact ⟨⟨⟨by decide, by decide⟩, by unfold Sm; decide, by unfold Sm; decide⟩, by decide, by decide⟩
theorem Lng.ok {n : Nat} {row : List RT} {step : RT} (h : Lng n row step) (hn : n ≤ 300) : (∀ x ∈ row, SmR 700 x) ∧ StepOk 300 step := ⟨fun x hx => (h.sm x hx).mono (by omega), h.st.1.mono (by decide), h.st.2⟩
/-- what is short of such a one -/
theorem Lng.short {n : Nat} {row : List RT} {step : RT} (h : Lng n row step) : (∀ x ∈ (shortL row step).1, SmR n x) ∧ StepOk 5 (shortL row step).2 ∧ (shortL row step).1.length ≤ 12 := by
  obtain ⟨h1, h2, h3⟩ := shortL_mem (fun x hx => (h.sm x hx).1) h.st.1.1
  refine ⟨fun x hx => h.sm x (h1 x hx), ?_, Nat.le_trans h2 h.len⟩
  rcases h3 with e | e
  · rw [e]
    exact h.st
  · rw [e]
    exact ⟨⟨⟨by decide, by decide⟩, by unfold Sm; decide, by unfold Sm; decide⟩, by decide, by decide⟩
section
variable {P : Program} {w : World} {K : PySem.W.Frag} {mg : Str → Option Value} {base : Heap}
def spLaw (K : PySem.W.Frag) : Sp := fun vs H Q _ => ∃ (a : Addr) (ns : List Int), vs = [.ref a] ∧ SqL K H a (ns.map V.int) ∧ ∀ H', Q (.bl true) H'
/-- one of the lives that the law looks at: its short one is the due one -/
def Seen (K : PySem.W.Frag) (H : Hp) (S : List RT × RT) (p : Addr) : Prop := ∃ row step, LifeAt K H p row step ∧ (∀ x ∈ row, SmR 700 x) ∧ StepOk 300 step ∧ shortL row step = S
theorem Seen.same {H H' : Hp} {S : List RT × RT} {p : Addr} (h : Seen K H S p) (e : Same H H') : Seen K H' S p := by
  obtain ⟨row, step, h1, h2⟩ := h
  exact ⟨row, step, h1.tk (Tk.same e), h2⟩
theorem ok_law {f fE fD fY fG fS fP : Addr} {fd fdE fdD fdY fdG fdS fdP : FuncData} (F : Fun K "law" "law" s_law f fd)
    (FE : Fun K "_law_feed" "_law_feed" s_feed fE fdE) (bE : Binds K fdE ["_law_script"] []) (gE : mg "_law_feed" = some (.ref fE)) (GE : FnOk P w K mg base CX0 1 fE fdE ["_law_script"] (spFeed K))
    (FD : Fun K "_law_draw" "_law_draw" s_draw fD fdD) (bD : Binds K fdD ["_law_feed_here", "_law_many"] []) (gD : mg "_law_draw" = some (.ref fD)) (GD : FnOk P w K mg base CX0 1 fD fdD ["_law_feed_here", "_law_many"] spDraw)
    (FY : Fun K "_law_any_life" "_law_any_life" s_any fY fdY) (bY : Binds K fdY ["_law_feed_here"] []) (gY : mg "_law_any_life" = some (.ref fY)) (GY : FnOk P w K mg base CX0 3 fY fdY ["_law_feed_here"] (spAny K))
    (FG : Fun K "_law_longer" "_law_longer" s_longer fG fdG) (bG : Binds K fdG ["_law_feed_here", "_law_life_here"] []) (gG : mg "_law_longer" = some (.ref fG)) (GG : FnOk P w K mg base CX0 3 fG fdG ["_law_feed_here", "_law_life_here"] (spLonger K))
    (FS : Fun K "_law_short" "_law_short" s_lshort fS fdS) (bS : Binds K fdS ["_law_life_here"] []) (gS : mg "_law_short" = some (.ref fS)) (GS : FnOk P w K mg base CX0 3 fS fdS ["_law_life_here"] (spLshort K))
    (FP : Fun K "short" "short" s_short fP fdP) (bP : Binds K fdP ["life"] []) (gP : mg "short" = some (.ref fP)) (GP : FnOk P w K mg base CX0 5 fP fdP ["life"] (spShort K))
    (mR : mg "repr" = none) : FnG P w K mg base CX0 6 f fd ["_law_script"] (spLaw K) := by
  refine okG F sc_law (fun vs H Q E h => ?_) (fun cdv A outer s H vs Q E hq hr h => ?_)
  · obtain ⟨_, _, rfl, _⟩ := h
    rfl
  · obtain ⟨a0, ns, rfl, hS, q⟩ := h
    have hr1 := hr.mono (show 1 ≤ 5 by decide)
    have hr3 := hr.mono (show 3 ≤ 5 by decide)
    refine ⟨_, (pss_cons (ps_set (i := 1) sc_law.nd rfl (.inl rfl) (pe_call GE hr1 (by rfl) gE FE.kp bE .nil pass0 (pa_cons (pv 0) pa_nil))) (pss_cons (ps_set (i := 2) sc_law.nd rfl (.inl rfl) (pe_call GY hr3 (by rfl) gY FY.kp bY .nil pass0 (pa_cons (pv 1) pa_nil))) (pss_cons (ps_set (i := 3) sc_law.nd rfl (.inl rfl) (pe_callB (call_reprD hq hr) (by rfl) mR (by decide +kernel) (pa_cons (pe_call GS hr3 (by rfl) gS FS.kp bS .nil pass0 (pa_cons (pv 2) pa_nil)) pa_nil))) (pss_cons (ps_set (i := 4) sc_law.nd rfl (.inl rfl) (pe_lst (pa_cons (pv 2) (pa_cons (pe_call GG hr3 (by rfl) gG FG.kp bG .nil pass0 (pa_cons (pv 1) (pa_cons (pv 2) pa_nil))) (pa_cons (pe_call GG hr3 (by rfl) gG FG.kp bG .nil pass0 (pa_cons (pv 1) (pa_cons (pe_call GG hr3 (by rfl) gG FG.kp bG .nil pass0 (pa_cons (pv 1) (pa_cons (pv 2) pa_nil))) pa_nil))) (pa_cons (pe_call GS hr3 (by rfl) gS FS.kp bS .nil pass0 (pa_cons (pv 2) pa_nil)) pa_nil)))))) (pss_cons (ps_set (i := 5) sc_law.nd rfl (.inl rfl) (pe_callB (call_reprD hq hr) (by rfl) mR (by decide +kernel) (pa_cons (pv 4) pa_nil))) (pss_cons (ps_for PassesOwn.never rfl (pi_list (pe_op op_cat (pv 4) (pe_slice sl_list (pv 4) po_none (po_some pe_int)))) (pg_name (i := 6) sc_law.nd rfl (.inl rfl))
          (pss_cons (ps_set (i := 7) sc_law.nd rfl (.inl rfl) (pe_call GP hr (by rfl) gP FP.kp bP .nil pass0 (pa_cons (pv 6) pa_nil))) (pss_one (ps_if (PW.pt (pw_or (pt_cmpR op_ne (pe_callB (call_reprD hq hr) (by rfl) mR (by decide +kernel) (pa_cons (pv 7) pa_nil)) (pv 3) (nomark _)) (pw_or (pt_cmpR op_ne (pe_callB (call_reprD hq hr) (by rfl) mR (by decide +kernel) (pa_cons (pe_call GP hr (by rfl) gP FP.kp bP .nil pass0 (pa_cons (pv 7) pa_nil)) pa_nil)) (pv 3) (nomark _)) (pw_or1 (pt_cmpR op_ne (pe_callB (call_reprD hq hr) (by rfl) mR (by decide +kernel) (pa_cons (pv 4) pa_nil)) (pv 5) (nomark _)))))) (pss_one (ps_ret pe_bl)) pss_nil)))) (pss_cons (ps_if (pt_cmpR op_ne (pe_callB (call_reprD hq hr) (by rfl) mR (by decide +kernel) (pa_cons (pe_call GP hr (by rfl) gP FP.kp bP .nil pass0 (pa_cons (pe_tup (pa_cons (pe_op op_repA (pe_tup (pa_cons (pe_tup (pa_cons pe_int (pa_cons pe_int pa_nil))) pa_nil)) (pe_op op_add pe_int (pe_call GD hr1 (by rfl) gD FD.kp bD .nil pass0 (pa_cons (pv 1) (pa_cons pe_int pa_nil))))) (pa_cons (pe_tup (pa_cons pe_int (pa_cons pe_int pa_nil))) pa_nil))) pa_nil)) pa_nil)) pe_str (nomark _)) (pss_one (ps_ret pe_bl)) pss_nil) (pss_one (ps_ret pe_bl))))))))), ?_⟩
    -- feed, life
    refine ⟨_, rfl, a0, ns, rfl, hS, fun d c H1 s1 f1 => ?_⟩
    refine ⟨_, rfl, d, c, 0, rfl, f1, by decide, fun p row step t2 H2 k2 f2 ht2 any L2' => ?_⟩
    obtain ⟨lng, hl7⟩ := any.lng
    obtain ⟨ok1, ok2⟩ := lng.ok (by decide)
    obtain ⟨sh1, sh2, sh3⟩ := lng.short
    have shS : ∀ {n : Nat}, n ≤ 1900 → (∀ x ∈ (shortL row step).1, SmR n x) → Shows (lifeD (shortL row step).1 (shortL row step).2) := fun hn hh =>
      (Sh.life (n := 1900) (by decide) (fun x hx => (hh x hx).mono hn) (sh2.1.mono (by decide)) (by omega)).shows (by decide) (by decide)
    have shS1 := shS (n := 20) (by decide) sh1
    have idem := shortL_idem (fun x hx => (lng.sm x hx).1) lng.st.1.1
    -- due
    refine ⟨_, rfl, p, row, step, rfl, L2', by omega, lng.nil, ok1, ok2, fun z1 H3 s3 hz1 => ?_⟩
    refine ⟨z1, _, rfl, hz1.dp, shS1, ?_⟩
    -- some
    have f3 := f2.same s3
    have L3 := L2'.tk (Tk.same (K := K) s3)
    refine ⟨_, rfl, _, rfl, _, rfl, d, c, p, t2, 20, row, step, rfl, f3, by omega, L3, lng, by decide, fun p4 row4 step4 t4 H4 k4 f4 ht4 L4 lng4 e4 => ?_⟩
    have tk4 : Tk K H3 H4 := Tk.keep f3 k4
    refine ⟨_, rfl, _, rfl, _, rfl, d, c, p, t4, 20, row, step, rfl, f4, by omega, L3.tk tk4, lng, by decide, fun p5 row5 step5 t5 H5 k5 f5 ht5 L5 lng5 e5 => ?_⟩
    have tk5 : Tk K H4 H5 := Tk.keep f4 k5
    refine ⟨d, c, p5, t5, 80, row5, step5, rfl, f5, by omega, L5, lng5, by decide, fun p6 row6 step6 t6 H6 k6 f6 ht6 L6 lng6 e6 => ?_⟩
    have tk6 : Tk K H5 H6 := Tk.keep f5 k6
    have L6p := ((L3.tk tk4).tk tk5).tk tk6
    refine ⟨_, rfl, p, row, step, rfl, L6p, by omega, lng.nil, ok1, ok2, fun p7 H7 s7 hz7 => ?_⟩
    have tk7 : Tk K H6 H7 := Tk.same s7
    refine ⟨by show 4 ≤ sizeLine; decide, fun l nl => ?_⟩
    have e8 := same_new (o := HO.lst [.ref p, .ref p4, .ref p6, .ref p7]) nl
    have tk8 : Tk K H7 _ := Tk.same e8
    have g8 := upd_same (H := H7) (a := l) (o := HO.lst [.ref p, .ref p4, .ref p6, .ref p7])
    have f8 := (f6.same s7).same e8
    have M1 := (L6p.tk tk7).tk tk8
    have M2 := (((L4.tk tk5).tk tk6).tk tk7).tk tk8
    have M3 := (L6.tk tk7).tk tk8
    have M4 := hz7.tk tk8
    generalize hH8 : upd H7 l (HO.lst [.ref p, .ref p4, .ref p6, .ref p7]) = H8
    rw [hH8] at M1 M2 M3 M4 f8 g8
    clear hH8 e8 tk8
    -- kept
    have shows4 : Shows (.list [lifeD row step, lifeD row4 step4, lifeD row6 step6, lifeD (shortL row step).1 (shortL row step).2]) := by
      have y1 := Sh.life (n := 1900) (by decide) (fun x hx => (lng.sm x hx).mono (by decide)) (lng.st.1.mono (by decide)) (by omega)
      have y2 := Sh.life (n := 1900) (by decide) (fun x hx => (lng4.sm x hx).mono (by decide)) (lng4.st.1.mono (by decide)) (by have := lng4.len; omega)
      have y3 := Sh.life (n := 1900) (by decide) (fun x hx => (lng6.sm x hx).mono (by decide)) (lng6.st.1.mono (by decide)) (by have := lng6.len; omega)
      have y4 := Sh.life (n := 1900) (by decide) (fun x hx => (sh1 x hx).mono (by decide)) (sh2.1.mono (by decide)) (by omega)
      exact (Shs.cons y1 (Shs.cons y2 (Shs.cons y3 (Shs.cons y4 Shs.nil)))).lst.shows (by decide) (by decide)
    have dp4 : ∀ {H9 : Hp}, Same H8 H9 → Dp K H9 (.ref l) (.list [lifeD row step, lifeD row4 step4, lifeD row6 step6, lifeD (shortL row step).1 (shortL row step).2]) := fun s9 =>
      .lst (SqL.of (s9 _ _ g8)) (.cons (M1.tk (Tk.same s9)).dp (.cons (M2.tk (Tk.same s9)).dp (.cons (M3.tk (Tk.same s9)).dp (.cons (M4.tk (Tk.same s9)).dp .nil))))
    refine ⟨_, rfl, l, _, rfl, dp4 (Same.refl _), shows4, ?_⟩
    -- the list walked
    have ok4 := lng4.ok (by decide)
    have ok6 := lng6.ok (by decide)
    have N1 : Seen K H8 (shortL row step) p := ⟨_, _, M1, ok1, ok2, rfl⟩
    have N2 : Seen K H8 (shortL row step) p4 := ⟨_, _, M2, ok4.1, ok4.2, e4⟩
    have N3 : Seen K H8 (shortL row step) p6 := ⟨_, _, M3, ok6.1, ok6.2, e6.trans e5⟩
    have N4 : Seen K H8 (shortL row step) p7 := ⟨_, _, M4, fun x hx => (sh1 x hx).mono (by decide), ⟨sh2.1.mono (by decide), sh2.2⟩, idem⟩
    refine ⟨_, rfl, _, rfl, 1, rfl, l, _, rfl, SqL.of g8, fun l2 n2 => ?_⟩
    have e9 := same_new (o := HO.lst (cutV [.ref p, .ref p4, .ref p6, .ref p7] none (some 1))) n2
    refine ⟨l, l2, _, _, rfl, rfl, e9 _ _ g8, upd_same, by show 5 ≤ sizeLine; decide, fun l3 n3 => ?_⟩
    have e10 := same_new (o := HO.lst ([.ref p, .ref p4, .ref p6, .ref p7] ++ cutV [.ref p, .ref p4, .ref p6, .ref p7] none (some 1))) n3
    have ecut : cutV [V.ref p, .ref p4, .ref p6, .ref p7] none (some 1) = [V.ref p] := cutV_take _ 1
    have S10 := e9.trans e10
    have g10 := upd_same (H := upd H8 l2 (HO.lst (cutV [.ref p, .ref p4, .ref p6, .ref p7] none (some 1)))) (a := l3) (o := HO.lst ([.ref p, .ref p4, .ref p6, .ref p7] ++ cutV [.ref p, .ref p4, .ref p6, .ref p7] none (some 1)))
    rw [ecut] at g10 S10
    refine ⟨l3, rfl, ⟨_, SqL.of upd_same⟩, ?_⟩
    rw [ecut]
    refine for_list (K := K) (a := l3) (xs := [.ref p, .ref p4, .ref p6, .ref p7, .ref p]) (fun i σ H9 => ∃ z6 z7 : Option V, σ = [some (.ref a0), some (.ref d), some (.ref p), some (.str (lifeD (shortL row step).1 (shortL row step).2).shown), some (.ref l), some (.str (PyData.list [lifeD row step, lifeD row4 step4, lifeD row6 step6, lifeD (shortL row step).1 (shortL row step).2]).shown), z6, z7] ∧ Same H8 H9 ∧ SqL K H9 l3 [.ref p, .ref p4, .ref p6, .ref p7, .ref p]) ?_ ?_ ?_ ?_
    · exact ⟨_, _, rfl, S10, SqL.of g10⟩
    · rintro i σ H9 _ ⟨_, _, _, _, h9⟩
      exact h9
    · rintro i y σ H9 hi ⟨z6, z7, rfl, s9, hl9⟩
      obtain ⟨x, rfl, hx⟩ : ∃ x, y = .ref x ∧ Seen K H8 (shortL row step) x := by
        match i, hi with
        | 0, hi => exact ⟨p, (Option.some.inj hi).symm, N1⟩
        | 1, hi => exact ⟨p4, (Option.some.inj hi).symm, N2⟩
        | 2, hi => exact ⟨p6, (Option.some.inj hi).symm, N3⟩
        | 3, hi => exact ⟨p7, (Option.some.inj hi).symm, N4⟩
        | 4, hi => exact ⟨p, (Option.some.inj hi).symm, N1⟩
      obtain ⟨rw1, st1, y1, y2, y3, y4⟩ := hx.same s9
      refine ⟨_, rfl, x, rw1, st1, rfl, y1, y2, y3, fun z H10 s10 hz => ?_⟩
      rw [y4] at hz
      refine ⟨_, rfl, z, _, rfl, hz.dp, shS1, _, rfl, rfl, _, rfl, ?_⟩
      rw [decide_eq_true rfl]
      refine iteF ?_
      refine ⟨_, rfl, z, _, _, rfl, hz, fun x hx => (sh1 x hx).mono (by decide), ⟨sh2.1.mono (by decide), sh2.2⟩, fun z2 H11 s11 hz2 => ?_⟩
      rw [idem] at hz2
      refine ⟨z2, _, rfl, hz2.dp, shS1, _, rfl, rfl, _, rfl, ?_⟩
      rw [decide_eq_true rfl]
      refine iteF ?_
      have S11 := s9.trans (s10.trans s11)
      refine ⟨_, rfl, l, _, rfl, dp4 S11, shows4, _, rfl, rfl, _, rfl, ?_⟩
      rw [decide_eq_true rfl]
      exact iteF ⟨_, _, rfl, S11, (s10.trans s11).seq hl9⟩
    · rintro σ H9 ⟨z6, z7, rfl, s9, hl9⟩
      -- noughts alone
      have f9 := f8.same s9
      refine ⟨by show 2 ≤ sizeLine; decide, fun b1 m1 => ?_⟩
      have w1 := same_new (o := HO.tup [.int 0, .int 1]) m1
      refine ⟨by show 1 ≤ sizeLine; decide, fun b2 m2 => ?_⟩
      have w2 := same_new (o := HO.tup [.ref b1]) m2
      have fw := (f9.same w1).same w2
      refine ⟨_, rfl, d, c, 5, t6, rfl, fw, by omega, by decide, by decide, fun r H10 h0 h1 k10 f10 => ?_⟩
      have tk10 : Tk K _ H10 := Tk.keep fw k10
      refine ⟨1, r, rfl, rfl, ?_⟩
      have er : (1 : Int) + r = ((1 + r.toNat : Nat) : Int) := by omega
      show rRepA K (.ref b2) (.int (1 + r)) _ _
      rw [er]
      refine rep_row (x := (0, 1)) (tk10 _ _ (SqT.of upd_same)) (tk10 _ _ (SqT.of (w2 _ _ upd_same))) (by omega) fun b3 H11 s11 h3 => ?_
      refine ⟨by show 2 ≤ sizeLine; decide, fun b4 m4 => ?_⟩
      have w4 := same_new (o := HO.tup [.int 1, .int 3]) m4
      refine ⟨by show 2 ≤ sizeLine; decide, fun b5 m5 => ?_⟩
      have w5 := same_new (o := HO.tup [.ref b3, .ref b4]) m5
      have nought : SmR 700 ((0 : Int), (1 : Int)) := ⟨⟨by decide, by decide⟩, by unfold Sm; decide, by unfold Sm; decide⟩
      refine ⟨b5, _, (1, 3), rfl, ⟨b3, b4, SqT.of upd_same, h3.tk (Tk.same (w4.trans w5)), SqT.of (w5 _ _ upd_same)⟩, fun x hx => by rw [List.eq_of_mem_replicate hx]; exact nought, ⟨⟨⟨by decide, by decide⟩, by unfold Sm; decide, by unfold Sm; decide⟩, by decide, by decide⟩, fun z H12 s12 hz => ?_⟩
      have ng : ¬ GoesOn (List.replicate (1 + r.toNat) ((0 : Int), (1 : Int))) (1, 3) := by
        rw [Nat.add_comm, List.replicate_succ']
        exact fun y => (goes_snoc.mp y).2 rfl
      have es : shortL (List.replicate (1 + r.toNat) ((0 : Int), (1 : Int))) (1, 3) = ([], (0, 1)) := by
        rw [shortL_end ng]
        have := trimZ_noughts [] (1 + r.toNat)
        rw [List.nil_append] at this
        rw [this]
        rfl
      rw [es] at hz
      have sh0 : Shows (lifeD [] (0, 1)) := (Sh.life (n := 1900) (row := []) (by decide) (fun x hx => by simp at hx) (nought.mono (by decide)) (by decide)).shows (by decide) (by decide)
      have et : (lifeD [] (0, 1)).shown = ("((), (0, 1))" : Str) := by decide +kernel
      refine ⟨z, _, rfl, hz.dp, sh0, ?_⟩
      rw [et]
      refine ⟨rfl, _, rfl, ?_⟩
      rw [decide_eq_true rfl]
      exact iteF (q _)
end

end Fp

set_option Elab.async false
set_option linter.all false
set_option maxRecDepth 100000
set_option maxHeartbeats 4000000
set_option exponentiation.threshold 10000
namespace Fp
open PySem PySem.Spec PyProof.Rows L2
theorem all_mk {l : PySem.W.OpenLaw} {w : World} {K : PySem.W.Frag} {h : Heap} {mg : Str → Option Value} {fa fC fR fM fT fO fBR fSH fWN fE fD fL fLT fLF fAL fLS fLG fZ a_NOUGHT a_ONE : Addr} (X : K.In h) (G : h.Ns mainGlobals mg) (hfa : mg "law" = some (.ref fa))
    {odC anC : Option Addr} {slC : Array (Option Value)} {ocC kVC dcC pmC cdC ctC : Value}
    {odR anR : Option Addr} {slR : Array (Option Value)} {ocR kVR dcR pmR cdR ctR : Value}
    {odM anM : Option Addr} {slM : Array (Option Value)} {ocM kVM dcM pmM cdM ctM : Value}
    {odT anT : Option Addr} {slT : Array (Option Value)} {ocT kVT dcT pmT cdT ctT : Value}
    {odO anO : Option Addr} {slO : Array (Option Value)} {ocO kVO dcO pmO cdO ctO : Value}
    {odBR anBR : Option Addr} {slBR : Array (Option Value)} {ocBR kVBR dcBR pmBR cdBR ctBR : Value}
    {odSH anSH : Option Addr} {slSH : Array (Option Value)} {ocSH kVSH dcSH pmSH cdSH ctSH : Value}
    {odWN anWN : Option Addr} {slWN : Array (Option Value)} {ocWN kVWN dcWN pmWN cdWN ctWN : Value}
    {odE anE : Option Addr} {slE : Array (Option Value)} {ocE kVE dcE pmE cdE ctE : Value}
    {odD anD : Option Addr} {slD : Array (Option Value)} {ocD kVD dcD pmD cdD ctD : Value}
    {odL anL : Option Addr} {slL : Array (Option Value)} {ocL kVL dcL pmL cdL ctL : Value}
    {odLT anLT : Option Addr} {slLT : Array (Option Value)} {ocLT kVLT dcLT pmLT cdLT ctLT : Value}
    {odLF anLF : Option Addr} {slLF : Array (Option Value)} {ocLF kVLF dcLF pmLF cdLF ctLF : Value}
    {odAL anAL : Option Addr} {slAL : Array (Option Value)} {ocAL kVAL dcAL pmAL cdAL ctAL : Value}
    {odLS anLS : Option Addr} {slLS : Array (Option Value)} {ocLS kVLS dcLS pmLS cdLS ctLS : Value}
    {odLG anLG : Option Addr} {slLG : Array (Option Value)} {ocLG kVLG dcLG pmLG cdLG ctLG : Value}
    {odZ anZ : Option Addr} {slZ : Array (Option Value)} {ocZ kVZ dcZ pmZ cdZ ctZ : Value}
    {od_NOUGHT : Option Addr} {n_NOUGHTx : Nat} {sl_NOUGHT : Array (Option Value)} {t0_NOUGHT t1_NOUGHT : Tok}
    {od_ONE : Option Addr} {n_ONEx : Nat} {sl_ONE : Array (Option Value)} {t0_ONE t1_ONE : Tok}
    (aC : PySem.W.nsIn K mainGlobals "common_divisor" = some (some (.ref fC))) (lC : K.lookup fC = some ⟨ocC, odC, .func (PySem.W.fnOf "common_divisor" "common_divisor" (defArgs s_cd) (defBody s_cd) (defScope s_cd) .none kVC dcC pmC anC cdC ctC), slC⟩) (cC : PySem.W.codeIn K cdC "common_divisor" = true) (kC : PySem.W.keepIn K (.ref fC) = true)
    (aR : PySem.W.nsIn K mainGlobals "ratio" = some (some (.ref fR))) (lR : K.lookup fR = some ⟨ocR, odR, .func (PySem.W.fnOf "ratio" "ratio" (defArgs s_ratio) (defBody s_ratio) (defScope s_ratio) .none kVR dcR pmR anR cdR ctR), slR⟩) (cR : PySem.W.codeIn K cdR "ratio" = true) (kR : PySem.W.keepIn K (.ref fR) = true)
    (aM : PySem.W.nsIn K mainGlobals "minus" = some (some (.ref fM))) (lM : K.lookup fM = some ⟨ocM, odM, .func (PySem.W.fnOf "minus" "minus" (defArgs s_minus) (defBody s_minus) (defScope s_minus) .none kVM dcM pmM anM cdM ctM), slM⟩) (cM : PySem.W.codeIn K cdM "minus" = true) (kM : PySem.W.keepIn K (.ref fM) = true)
    (aT : PySem.W.nsIn K mainGlobals "times" = some (some (.ref fT))) (lT : K.lookup fT = some ⟨ocT, odT, .func (PySem.W.fnOf "times" "times" (defArgs s_times) (defBody s_times) (defScope s_times) .none kVT dcT pmT anT cdT ctT), slT⟩) (cT : PySem.W.codeIn K cdT "times" = true) (kT : PySem.W.keepIn K (.ref fT) = true)
    (aO : PySem.W.nsIn K mainGlobals "over" = some (some (.ref fO))) (lO : K.lookup fO = some ⟨ocO, odO, .func (PySem.W.fnOf "over" "over" (defArgs s_over) (defBody s_over) (defScope s_over) .none kVO dcO pmO anO cdO ctO), slO⟩) (cO : PySem.W.codeIn K cdO "over" = true) (kO : PySem.W.keepIn K (.ref fO) = true)
    (aBR : PySem.W.nsIn K mainGlobals "behind_row" = some (some (.ref fBR))) (lBR : K.lookup fBR = some ⟨ocBR, odBR, .func (PySem.W.fnOf "behind_row" "behind_row" (defArgs s_behind) (defBody s_behind) (defScope s_behind) .none kVBR dcBR pmBR anBR cdBR ctBR), slBR⟩) (cBR : PySem.W.codeIn K cdBR "behind_row" = true) (kBR : PySem.W.keepIn K (.ref fBR) = true)
    (aSH : PySem.W.nsIn K mainGlobals "short" = some (some (.ref fSH))) (lSH : K.lookup fSH = some ⟨ocSH, odSH, .func (PySem.W.fnOf "short" "short" (defArgs s_short) (defBody s_short) (defScope s_short) .none kVSH dcSH pmSH anSH cdSH ctSH), slSH⟩) (cSH : PySem.W.codeIn K cdSH "short" = true) (kSH : PySem.W.keepIn K (.ref fSH) = true)
    (aWN : PySem.W.nsIn K mainGlobals "without_noughts" = some (some (.ref fWN))) (lWN : K.lookup fWN = some ⟨ocWN, odWN, .func (PySem.W.fnOf "without_noughts" "without_noughts" (defArgs s_wn) (defBody s_wn) (defScope s_wn) .none kVWN dcWN pmWN anWN cdWN ctWN), slWN⟩) (cWN : PySem.W.codeIn K cdWN "without_noughts" = true) (kWN : PySem.W.keepIn K (.ref fWN) = true)
    (aE : PySem.W.nsIn K mainGlobals "_law_feed" = some (some (.ref fE))) (lE : K.lookup fE = some ⟨ocE, odE, .func (PySem.W.fnOf "_law_feed" "_law_feed" (defArgs s_feed) (defBody s_feed) (defScope s_feed) .none kVE dcE pmE anE cdE ctE), slE⟩) (cE : PySem.W.codeIn K cdE "_law_feed" = true) (kE : PySem.W.keepIn K (.ref fE) = true)
    (aD : PySem.W.nsIn K mainGlobals "_law_draw" = some (some (.ref fD))) (lD : K.lookup fD = some ⟨ocD, odD, .func (PySem.W.fnOf "_law_draw" "_law_draw" (defArgs s_draw) (defBody s_draw) (defScope s_draw) .none kVD dcD pmD anD cdD ctD), slD⟩) (cD : PySem.W.codeIn K cdD "_law_draw" = true) (kD : PySem.W.keepIn K (.ref fD) = true)
    (aL : PySem.W.nsIn K mainGlobals "_law_low" = some (some (.ref fL))) (lL : K.lookup fL = some ⟨ocL, odL, .func (PySem.W.fnOf "_law_low" "_law_low" (defArgs s_low) (defBody s_low) (defScope s_low) .none kVL dcL pmL anL cdL ctL), slL⟩) (cL : PySem.W.codeIn K cdL "_law_low" = true) (kL : PySem.W.keepIn K (.ref fL) = true)
    (aLT : PySem.W.nsIn K mainGlobals "_law_times" = some (some (.ref fLT))) (lLT : K.lookup fLT = some ⟨ocLT, odLT, .func (PySem.W.fnOf "_law_times" "_law_times" (defArgs s_ltimes) (defBody s_ltimes) (defScope s_ltimes) .none kVLT dcLT pmLT anLT cdLT ctLT), slLT⟩) (cLT : PySem.W.codeIn K cdLT "_law_times" = true) (kLT : PySem.W.keepIn K (.ref fLT) = true)
    (aLF : PySem.W.nsIn K mainGlobals "_law_life" = some (some (.ref fLF))) (lLF : K.lookup fLF = some ⟨ocLF, odLF, .func (PySem.W.fnOf "_law_life" "_law_life" (defArgs s_life) (defBody s_life) (defScope s_life) .none kVLF dcLF pmLF anLF cdLF ctLF), slLF⟩) (cLF : PySem.W.codeIn K cdLF "_law_life" = true) (kLF : PySem.W.keepIn K (.ref fLF) = true)
    (aAL : PySem.W.nsIn K mainGlobals "_law_any_life" = some (some (.ref fAL))) (lAL : K.lookup fAL = some ⟨ocAL, odAL, .func (PySem.W.fnOf "_law_any_life" "_law_any_life" (defArgs s_any) (defBody s_any) (defScope s_any) .none kVAL dcAL pmAL anAL cdAL ctAL), slAL⟩) (cAL : PySem.W.codeIn K cdAL "_law_any_life" = true) (kAL : PySem.W.keepIn K (.ref fAL) = true)
    (aLS : PySem.W.nsIn K mainGlobals "_law_short" = some (some (.ref fLS))) (lLS : K.lookup fLS = some ⟨ocLS, odLS, .func (PySem.W.fnOf "_law_short" "_law_short" (defArgs s_lshort) (defBody s_lshort) (defScope s_lshort) .none kVLS dcLS pmLS anLS cdLS ctLS), slLS⟩) (cLS : PySem.W.codeIn K cdLS "_law_short" = true) (kLS : PySem.W.keepIn K (.ref fLS) = true)
    (aLG : PySem.W.nsIn K mainGlobals "_law_longer" = some (some (.ref fLG))) (lLG : K.lookup fLG = some ⟨ocLG, odLG, .func (PySem.W.fnOf "_law_longer" "_law_longer" (defArgs s_longer) (defBody s_longer) (defScope s_longer) .none kVLG dcLG pmLG anLG cdLG ctLG), slLG⟩) (cLG : PySem.W.codeIn K cdLG "_law_longer" = true) (kLG : PySem.W.keepIn K (.ref fLG) = true)
    (aZ : PySem.W.nsIn K mainGlobals "law" = some (some (.ref fZ))) (lZ : K.lookup fZ = some ⟨ocZ, odZ, .func (PySem.W.fnOf "law" "law" (defArgs s_law) (defBody s_law) (defScope s_law) .none kVZ dcZ pmZ anZ cdZ ctZ), slZ⟩) (cZ : PySem.W.codeIn K cdZ "law" = true) (kZ : PySem.W.keepIn K (.ref fZ) = true)
    (g_NOUGHT : PySem.W.nsIn K mainGlobals "NOUGHT" = some (some (.ref a_NOUGHT))) (l_NOUGHT : K.lookup a_NOUGHT = some ⟨.type "tuple", od_NOUGHT, .seq #[.int 0 t0_NOUGHT, .int 1 t1_NOUGHT] n_NOUGHTx, sl_NOUGHT⟩)
    (g_ONE : PySem.W.nsIn K mainGlobals "ONE" = some (some (.ref a_ONE))) (l_ONE : K.lookup a_ONE = some ⟨.type "tuple", od_ONE, .seq #[.int 1 t0_ONE, .int 1 t1_ONE] n_ONEx, sl_ONE⟩)
    (z_abs : PySem.W.nsIn K mainGlobals "abs" = some none)
    (z_len : PySem.W.nsIn K mainGlobals "len" = some none)
    (z_list : PySem.W.nsIn K mainGlobals "list" = some none)
    (z_range : PySem.W.nsIn K mainGlobals "range" = some none)
    (z_int : PySem.W.nsIn K mainGlobals "int" = some none)
    (z_sum : PySem.W.nsIn K mainGlobals "sum" = some none)
    (z_tuple : PySem.W.nsIn K mainGlobals "tuple" = some none)
    (z_max : PySem.W.nsIn K mainGlobals "max" = some none)
    (z_min : PySem.W.nsIn K mainGlobals "min" = some none)
    (z_repr : PySem.W.nsIn K mainGlobals "repr" = some none)
    : ∃ fd : FuncData, (∀ (s : Shared) (v : Value), BindsTo s fd ⟨[v], []⟩ [("_law_script", v)]) ∧ ∀ base : Heap, K.In base → base.Ns mainGlobals mg → FnG l.prog w K mg base CX0 6 fa fd ["_law_script"] (spLaw K) := by
  have e := hfa.symm.trans (PySem.W.mg_of X G aZ)
  cases e
  have FC := fun_mk (st := s_cd) lC cC kC
  have bC := FC.binds (ps := ["one", "other"]) fun _ _ _ _ _ _ us hl => match us, hl with | [_, _], _ => rfl
  have gC := PySem.W.mg_of X G aC
  have FR := fun_mk (st := s_ratio) lR cR kR
  have bR := FR.binds (ps := ["top", "bottom"]) fun _ _ _ _ _ _ us hl => match us, hl with | [_, _], _ => rfl
  have gR := PySem.W.mg_of X G aR
  have FM := fun_mk (st := s_minus) lM cM kM
  have bM := FM.binds (ps := ["one", "other"]) fun _ _ _ _ _ _ us hl => match us, hl with | [_, _], _ => rfl
  have gM := PySem.W.mg_of X G aM
  have FT := fun_mk (st := s_times) lT cT kT
  have bT := FT.binds (ps := ["one", "other"]) fun _ _ _ _ _ _ us hl => match us, hl with | [_, _], _ => rfl
  have gT := PySem.W.mg_of X G aT
  have FO := fun_mk (st := s_over) lO cO kO
  have bO := FO.binds (ps := ["one", "other"]) fun _ _ _ _ _ _ us hl => match us, hl with | [_, _], _ => rfl
  have gO := PySem.W.mg_of X G aO
  have FBR := fun_mk (st := s_behind) lBR cBR kBR
  have bBR := FBR.binds (ps := ["life"]) fun _ _ _ _ _ _ us hl => match us, hl with | [_], _ => rfl
  have gBR := PySem.W.mg_of X G aBR
  have FSH := fun_mk (st := s_short) lSH cSH kSH
  have bSH := FSH.binds (ps := ["life"]) fun _ _ _ _ _ _ us hl => match us, hl with | [_], _ => rfl
  have gSH := PySem.W.mg_of X G aSH
  have FWN := fun_mk (st := s_wn) lWN cWN kWN
  have bWN := FWN.binds (ps := ["row"]) fun _ _ _ _ _ _ us hl => match us, hl with | [_], _ => rfl
  have gWN := PySem.W.mg_of X G aWN
  have FE := fun_mk (st := s_feed) lE cE kE
  have bE := FE.binds (ps := ["_law_script"]) fun _ _ _ _ _ _ us hl => match us, hl with | [_], _ => rfl
  have gE := PySem.W.mg_of X G aE
  have FD := fun_mk (st := s_draw) lD cD kD
  have bD := FD.binds (ps := ["_law_feed_here", "_law_many"]) fun _ _ _ _ _ _ us hl => match us, hl with | [_, _], _ => rfl
  have gD := PySem.W.mg_of X G aD
  have FL := fun_mk (st := s_low) lL cL kL
  have bL := FL.binds (ps := ["_law_top", "_law_bottom"]) fun _ _ _ _ _ _ us hl => match us, hl with | [_, _], _ => rfl
  have gL := PySem.W.mg_of X G aL
  have FLT := fun_mk (st := s_ltimes) lLT cLT kLT
  have bLT := FLT.binds (ps := ["_law_one", "_law_other"]) fun _ _ _ _ _ _ us hl => match us, hl with | [_, _], _ => rfl
  have gLT := PySem.W.mg_of X G aLT
  have FLF := fun_mk (st := s_life) lLF cLF kLF
  have bLF := FLF.binds (ps := ["_law_feed_here", "_law_way"]) fun _ _ _ _ _ _ us hl => match us, hl with | [_, _], _ => rfl
  have gLF := PySem.W.mg_of X G aLF
  have FAL := fun_mk (st := s_any) lAL cAL kAL
  have bAL := FAL.binds (ps := ["_law_feed_here"]) fun _ _ _ _ _ _ us hl => match us, hl with | [_], _ => rfl
  have gAL := PySem.W.mg_of X G aAL
  have FLS := fun_mk (st := s_lshort) lLS cLS kLS
  have bLS := FLS.binds (ps := ["_law_life_here"]) fun _ _ _ _ _ _ us hl => match us, hl with | [_], _ => rfl
  have gLS := PySem.W.mg_of X G aLS
  have FLG := fun_mk (st := s_longer) lLG cLG kLG
  have bLG := FLG.binds (ps := ["_law_feed_here", "_law_life_here"]) fun _ _ _ _ _ _ us hl => match us, hl with | [_, _], _ => rfl
  have gLG := PySem.W.mg_of X G aLG
  have FZ := fun_mk (st := s_law) lZ cZ kZ
  have bZ := FZ.binds (ps := ["_law_script"]) fun _ _ _ _ _ _ us hl => match us, hl with | [_], _ => rfl
  have gZ := PySem.W.mg_of X G aZ
  have n_abs := PySem.W.mg_none_of X G z_abs
  have n_len := PySem.W.mg_none_of X G z_len
  have n_list := PySem.W.mg_none_of X G z_list
  have n_range := PySem.W.mg_none_of X G z_range
  have n_int := PySem.W.mg_none_of X G z_int
  have n_sum := PySem.W.mg_none_of X G z_sum
  have n_tuple := PySem.W.mg_none_of X G z_tuple
  have n_max := PySem.W.mg_none_of X G z_max
  have n_min := PySem.W.mg_none_of X G z_min
  have n_repr := PySem.W.mg_none_of X G z_repr
  have m_NOUGHT := PySem.W.mg_of X G g_NOUGHT
  have r_NOUGHT : ∀ H, RAt K H a_NOUGHT (0, 1) := fun H => .inr ⟨_, _, _, l_NOUGHT, rfl, rfl, by show 2 ≤ sizeLine; decide, .cons ⟨_, rfl⟩ (.cons ⟨_, rfl⟩ .nil)⟩
  have m_ONE := PySem.W.mg_of X G g_ONE
  have r_ONE : ∀ H, RAt K H a_ONE (1, 1) := fun H => .inr ⟨_, _, _, l_ONE, rfl, rfl, by show 2 ≤ sizeLine; decide, .cons ⟨_, rfl⟩ (.cons ⟨_, rfl⟩ .nil)⟩
  refine ⟨PySem.W.fnOf "law" "law" (defArgs s_law) (defBody s_law) (defScope s_law) .none kVZ dcZ pmZ anZ cdZ ctZ, fun s v => .of_eq rfl, fun base _ _ => ?_⟩
  have GR := ok_ratio (P := l.prog) (w := w) (base := base) FR FC bC gC n_abs
  have GM := ok_minus FM FR bR gR GR
  have GT := ok_times FT FR bR gR GR
  have GO := ok_over FO FR bR gR GR
  have GL : FnOk l.prog w K mg base CX0 1 fL _ ["_law_top", "_law_bottom"] spLow := ok_low FL n_abs
  have GD : FnOk l.prog w K mg base CX0 1 fD _ ["_law_feed_here", "_law_many"] spDraw := ok_draw FD n_len
  have GE : FnOk l.prog w K mg base CX0 1 fE _ ["_law_script"] (spFeed K) := ok_feed FE n_list
  have GLT := ok_ltimes FLT FL bL gL GL
  have GLF := ok_life FLF FD bD gD GD FL bL gL GL n_range n_int n_sum n_tuple
  have GAL := ok_any FAL FD bD gD GD FLF bLF gLF GLF FLT bLT gLT GLT n_len
  have C : Consts K mg a_NOUGHT a_ONE := ⟨m_NOUGHT, m_ONE, r_NOUGHT, r_ONE⟩
  have GBR := ok_behind FBR C FO bO gO GO FT bT gT GT FM bM gM GM
  have GWN : FnOk l.prog w K mg base CX0 1 fWN _ ["row"] (spWn K) := ok_wn FWN C n_len
  have GSH := ok_short FSH C FBR bBR gBR GBR FWN bWN gWN GWN FT bT gT GT n_len
  have GLS := ok_lshort FLS FLT bLT gLT GLT n_len n_range n_max
  have GLG := ok_longer FLG FD bD gD GD FLT bLT gLT GLT n_len n_range n_min
  exact ok_law FZ FE bE gE GE FD bD gD GD FAL bAL gAL GAL FLG bLG gLG GLG FLS bLS gLS GLS FSH bSH gSH GSH n_repr
end Fp
open PySem PySem.W PyProof.Rows
set_option maxHeartbeats 0 in
theorem PySem.Challenge.cw_freshparts_k05_short_lives_holds : PySem.Challenge.rw_freshparts_k05_short_lives.Holds := by
  w_on; o_law; k_head; (case hw => w_witness2)
  k_fill
  refine Fp.walkG (l := PySem.Challenge.rw_freshparts_k05_short_lives) (n := 63) (lv := 6) (x := "_law_script") (sp := fun w => Fp.spLaw _) rfl (by decide) rfl ⟨rfl, by decide, by decide⟩ (fun w h Y => PySem.W.kIn_of Y) ?F (fun _ _ a ns hl _ hS => ⟨a, ns, rfl, hS, fun _ => rfl⟩)
  case F =>
    intro w mg fa h KX G hmg
    refine' Fp.all_mk KX G hmg ?aC ?lC ?cC ?kC ?aR ?lR ?cR ?kR ?aM ?lM ?cM ?kM ?aT ?lT ?cT ?kT ?aO ?lO ?cO ?kO ?aBR ?lBR ?cBR ?kBR ?aSH ?lSH ?cSH ?kSH ?aWN ?lWN ?cWN ?kWN ?aE ?lE ?cE ?kE ?aD ?lD ?cD ?kD ?aL ?lL ?cL ?kL ?aLT ?lLT ?cLT ?kLT ?aLF ?lLF ?cLF ?kLF ?aAL ?lAL ?cAL ?kAL ?aLS ?lLS ?cLS ?kLS ?aLG ?lLG ?cLG ?kLG ?aZ ?lZ ?cZ ?kZ ?g_NOUGHT ?l_NOUGHT ?g_ONE ?l_ONE ?z_abs ?z_len ?z_list ?z_range ?z_int ?z_sum ?z_tuple ?z_max ?z_min ?z_repr
    (case aC => first | k_is | rfl); (case lC => first | k_is | rfl); (case cC => first | k_is | rfl); (case kC => first | k_is | rfl); (case aR => first | k_is | rfl); (case lR => first | k_is | rfl)
    (case cR => first | k_is | rfl); (case kR => first | k_is | rfl); (case aM => first | k_is | rfl); (case lM => first | k_is | rfl); (case cM => first | k_is | rfl); (case kM => first | k_is | rfl)
    (case aT => first | k_is | rfl); (case lT => first | k_is | rfl); (case cT => first | k_is | rfl); (case kT => first | k_is | rfl); (case aO => first | k_is | rfl); (case lO => first | k_is | rfl)
    (case cO => first | k_is | rfl); (case kO => first | k_is | rfl); (case aBR => first | k_is | rfl); (case lBR => first | k_is | rfl); (case cBR => first | k_is | rfl); (case kBR => first | k_is | rfl)
    (case aSH => first | k_is | rfl); (case lSH => first | k_is | rfl); (case cSH => first | k_is | rfl); (case kSH => first | k_is | rfl); (case aWN => first | k_is | rfl); (case lWN => first | k_is | rfl)
    (case cWN => first | k_is | rfl); (case kWN => first | k_is | rfl); (case aE => first | k_is | rfl); (case lE => first | k_is | rfl); (case cE => first | k_is | rfl); (case kE => first | k_is | rfl)
    (case aD => first | k_is | rfl); (case lD => first | k_is | rfl); (case cD => first | k_is | rfl); (case kD => first | k_is | rfl); (case aL => first | k_is | rfl); (case lL => first | k_is | rfl)
    (case cL => first | k_is | rfl); (case kL => first | k_is | rfl); (case aLT => first | k_is | rfl); (case lLT => first | k_is | rfl); (case cLT => first | k_is | rfl); (case kLT => first | k_is | rfl)
    (case aLF => first | k_is | rfl); (case lLF => first | k_is | rfl); (case cLF => first | k_is | rfl); (case kLF => first | k_is | rfl); (case aAL => first | k_is | rfl); (case lAL => first | k_is | rfl)
    (case cAL => first | k_is | rfl); (case kAL => first | k_is | rfl); (case aLS => first | k_is | rfl); (case lLS => first | k_is | rfl); (case cLS => first | k_is | rfl); (case kLS => first | k_is | rfl)
    (case aLG => first | k_is | rfl); (case lLG => first | k_is | rfl); (case cLG => first | k_is | rfl); (case kLG => first | k_is | rfl); (case aZ => first | k_is | rfl); (case lZ => first | k_is | rfl)
    (case cZ => first | k_is | rfl); (case kZ => first | k_is | rfl); (case g_NOUGHT => first | k_is | rfl); (case l_NOUGHT => first | k_is | rfl); (case g_ONE => first | k_is | rfl); (case l_ONE => first | k_is | rfl)
    (case z_abs => first | k_is | rfl); (case z_len => first | k_is | rfl); (case z_list => first | k_is | rfl); (case z_range => first | k_is | rfl); (case z_int => first | k_is | rfl); (case z_sum => first | k_is | rfl)
    (case z_tuple => first | k_is | rfl); (case z_max => first | k_is | rfl); (case z_min => first | k_is | rfl); (case z_repr => first | k_is | rfl)
