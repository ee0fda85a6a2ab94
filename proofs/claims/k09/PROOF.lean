import PyProof.Rows.All
import Wide.All
import OpenK.AllK
import Wide.FinOn
import PyProof.ReprRoads
import PyProof.ReprLen
import HandS.Base
import HandS.Call
import HandS.List
import HandS.Ends
import HandS.Exc
import HandS.TryOnly
import HandS.ExcOwn
import HandS.ExcInit
import HandS.Dict
import HandS.Words
import HandS.WordsList
import HandS.WordsDict
import HandS.WordsExc
import HandS.Comp
import HandS.Iter
import HandS.Wide
import HandS.TupAny
import HandS.TupMul
import HandS.Conv
import HandS.Star
import HandS.Style
import HandS.Walk
import HandS.RaiseMore
import PyProof.CallFns
import HandS.WideBits
import KE.GoesEnumKw
import KE.KExcIs
import HandS.ExcIs
import HandS.ExcField
import HandS.IsInst
import PySem.Challenge.RW_freshparts_k09_left_of_a_part
set_option Elab.async false
set_option linter.all false
set_option maxRecDepth 100000
set_option maxHeartbeats 4000000
namespace Fp
open PySem PySem.Spec PyProof.Rows L2

/-! ### promises of defs that show things: no repr runs around the call -/
structure FnG (P : Program) (w : World) (K : PySem.W.Frag) (mg : Str → Option Value) (base : Heap) (CX : CXT) (lv : Nat) (f : Addr) (fd : FuncData) (ps : List Str) (sp : Sp) : Prop where
  lens : ∀ vs H Q E, sp vs H Q E → vs.length = ps.length
  runs : ∀ (A : Around) (outer : List Env) (s : Shared) (H : Hp) (args : Args) (us : List Value) (vs : List V) (Q : VK) (E : XK), A.guards = some [] → Room lv A → Env0 P w K mg base A outer s H →
    BindsTo s fd args (ps.zip us) → Vals vs us → sp vs H Q E → codeAny (model P w) A (.call (.ref f) args) (CR CX outer P w H s Q E) s

section
variable {X : Cx} {CX : CXT} {lv : Nat} {f : Addr} {fd : FuncData} {ps : List Str} {sp : Sp} {E : XK} {x : Str} {p pos : Pos} {e : Expr} {es : List Expr} {t : TA}
theorem run_g {pins : List (Addr × Obj)} {σ : L2.St} {H : Hp} {s : Shared} {Q : VK} {us : List Value} {vs : List V} (G : FnG X.prog X.w X.K X.mg X.base CX lv f fd ps sp) (hq : X.A.guards = some []) (hr : Room lv X.A) (hb : Binds X.K fd ps [])
    (hx : Passes CX X E) (I : Inv X pins σ H s) (r : Vals vs us) (h : sp vs H Q E) : wpAny (model X.prog X.w) X.A (call (.ref f) us) (EP X pins σ Q) X.xe s := by
  have hl : us.length = ps.length := r.length.symm.trans (G.lens _ _ _ _ h)
  have b := hb s us I.kIn (by rw [List.append_nil]; exact hl)
  rw [List.append_nil] at b
  refine wpAny_call (codeAny_mono (G.runs X.A X.stack s H ⟨us, []⟩ us vs Q E hq hr I.env0 b r h) fun res s2 z => ?_)
  match res, z with
  | .error e, z => exact hx pins σ H s e s2 I z
  | .ok (.ret u), z => exact I.after z
  | .ok .next, z => exact False.elim z
  | .ok .brk, z => exact False.elim z
  | .ok .cont, z => exact False.elim z
def tCallG (sp : Sp) (E : XK) (t : TA) : TE := fun σ H Q => t σ H fun vs H1 => sp vs H1 Q E
theorem pe_callG (G : FnG X.prog X.w X.K X.mg X.base CX lv f fd ps sp) (hq : X.A.guards = some []) (hr : Room lv X.A) (hg : Gl X x) (hm : X.mg x = some (.ref f)) (hk : PySem.W.keepIn X.K (.ref f) = true) (hb : Binds X.K fd ps []) (hx : Passes CX X E)
    (ha : PA X (e :: es) t) (hdb : (x == ("__debug__" : Str)) = false := by decide) (he : starEach (e :: es) X.env = (false, eval e X.env) :: starEach es X.env := by rfl) (hpl : (backTo pos (starEach es X.env)).any (·.1) = false := by rfl) :
    PE X (.Call (.Name x p) (e :: es) [] pos) (tCallG sp E t) := by
  refine ⟨fun pins s σ H Q I h => wpAny_Call_Name_kw (ld_glob I hg hm ?_ hdb)⟩
  refine PySem.W.callWith_K (h₀ := X.base) I.ok.mod.kin hk (thn (ha.run pos pins s σ H _ I h) fun us s1 z => ?_) he hpl
  obtain ⟨vs, H1, I1, r, q⟩ := z
  exact ⟨I1.kIn, run_g G hq hr hb hx I1 r q⟩
end

section
variable {P : Program} {w : World} {K : PySem.W.Frag} {mg : Str → Option Value} {base : Heap}
theorem okG {x qual : Str} {st : Stmt} {f : Addr} {fd : FuncData} {N ps : List Str} {lv : Nat} {sp : Sp} (F : Fun K x qual st f fd) (S : FnScope N ps (defScope st)) (len : ∀ vs H Q E, sp vs H Q E → vs.length = ps.length)
    (hbody : ∀ (cdv : Value) (A : Around) (outer : List Env) (s : Shared) (H : Hp) (vs : List V) (Q : VK) (E : XK), (A.deeper (envOfC qual (defScope st) s.heap.objs.size f cdv)).guards = some [] → Room lv (A.deeper (envOfC qual (defScope st) s.heap.objs.size f cdv)) →
      sp vs H Q E → ∃ t, PSs (cxOf CX0 P w K mg base N qual (defScope st) f cdv A outer s H E).nox (defBody st) t ∧ t { nx := fun _ H' => Q .non H', rt := Q } (start N vs) H) : FnG P w K mg base CX0 (lv + 1) f fd ps sp := by
  obtain ⟨oc, od, kV, doc, pm, an, cdv, ct, osl, rfl, lk, hcd⟩ := F.ex
  refine ⟨len, fun A outer s H args us vs Q E hq hr e0 hb r hsp => ?_⟩
  have hl := len _ _ _ _ hsp
  have KX : K.In s.heap := e0.mod.kin.keeps fun b o z => (e0.bs b o z).1
  have lim : s.heap.NoLimit := e0.mod.nolimit.keeps fun b o z => (e0.bs b o z).1
  have kinds : ∀ y ∈ ps.zip us, (defScope st).names.lookup y.1 = some .local ∨ ((defScope st).names.lookup y.1 = some .cell ∧ ((cellsFrom (s.heap.objs.size + 1) (defScope st).names []).lookup y.1).isSome = true) := by
    rintro ⟨n, v⟩ hy
    exact (S.par n (List.of_mem_zip hy).1).imp id fun q => ⟨q, PySem.W.cellsFrom_some _ _ _ (.inl q)⟩
  refine codeAny_call_function hr.depth (KX _ _ lk) rfl S.co S.gen rfl (PySem.W.codeRec_of KX hcd) (hb _ _ _ _ ?_)
  refine wpAny_newFunctionEnv_cells S.kind kinds fun env he s1 z => ?_
  subst he
  refine ⟨lim.keeps z.toInCall.keep, codeAny_func ?_⟩
  obtain ⟨t, ht, hq2⟩ := hbody cdv A outer s H vs Q E hq (hr.deeper _) hsp
  have I : Inv (cxOf CX0 P w K mg base N qual (defScope st) f cdv A outer s H E) [] (start N vs) H s1 := inv_start S hr.hd e0 hl r z
  refine wpAny_mono (ht.nox.run [] s1 (start N vs) H _ I hq2) (fun fl s2 hs => ?_) fun _ _ hs => hs
  have fin : ∀ {σ' : L2.St} {H' : Hp} {v : V} {u : Value}, Inv (cxOf CX0 P w K mg base N qual (defScope st) f cdv A outer s H E) [] σ' H' s2 → RelV v u → Q v H' → CE outer P w H s Q u s2 :=
    fun {_ H' v _} J rv q => ⟨v, H', J.os, J.bare, J.base, J.hok, rv, q⟩
  match fl, hs with
  | .ret u, ⟨v, σ', H', J, rv, q⟩ => exact fin J rv q
  | .next, ⟨σ', H', J, q⟩ => exact fin (v := V.non) (u := Value.none) J rfl q
  | .brk, ⟨_, _, _, q⟩ => exact False.elim q
  | .cont, ⟨_, _, _, q⟩ => exact False.elim q
end

/-! ### the end of a law that shows things -/
theorem lawG {P : Program} {w : World} {K : PySem.W.Frag} {mg mb : Str → Option Value} {lv : Nat} {fa a : Addr} {fd : FuncData} {x : Str} {sp : Sp} {s1 : Shared} {vs : List Value} {ns : List Int}
    (KX : K.In s1.heap) (hns : s1.heap.Ns mainGlobals mg) (hb : s1.heap.Ns builtinsNs mb) (hbb : ∀ x : Str, x ≠ "__name__" → mb x = bootBuiltins x) (hlim : s1.heap.NoLimit) (hg : s1.gens = #[])
    (ha : s1.heap.get? a = some { cls := .type "list", data := .seq vs.toArray }) (hi : IntsAre vs ns) (hl : ns.length ≤ sizeLine) (hr : Room lv callerA)
    (G : ∀ base : Heap, K.In base → base.Ns mainGlobals mg → FnG P w K mg base CX0 lv fa fd [x] sp) (hbind : ∀ (s : Shared) (u : Value), BindsTo s fd ⟨[u], []⟩ [(x, u)])
    (hsp : ∀ H : Hp, Only H → SqL K H a (ns.map V.int) → sp [.ref a] H (fun v _ => v = .bl true) fun _ _ _ => False) :
    codeAny (model P w) callerA (.call (.ref fa) ⟨[.ref a], []⟩) (fun r s2 => r = .ok (.ret (.bool true)) ∧ OldK s1.heap s2.heap ∧ s2.os = s1.os ∧ AllBare s2.gens) s1 := by
  have rv := vals_ints hi
  have lenV := hi.length
  have main : ∀ H : Hp, Only H → SqL K H a (ns.map V.int) → HOk P w H s1.heap → (∀ b, H b ≠ none → b = a) → (H a ≠ none → K.lookup a = none) →
      codeAny (model P w) callerA (.call (.ref fa) ⟨[.ref a], []⟩) (fun r s2 => r = .ok (.ret (.bool true)) ∧ OldK s1.heap s2.heap ∧ s2.os = s1.os ∧ AllBare s2.gens) s1 := by
    intro H hO hS hok hA hK
    have kept : ∀ {b : Addr} {o : Obj}, s1.heap.get? b = some o → H b = none → (hidT s1.heap H).get? b = some o := fun z n => hidT_get z n
    have isA : ∀ {b : Addr} {u : HO}, H b = some u → b = a := fun {b u} z => hA b (by rw [z]; simp)
    have noD : ∀ {b : Addr} {o : Obj} {es : Array DictEntry} {ep : Nat}, s1.heap.get? b = some o → o.data = .dict es ep → H b = none := by
      intro b o es ep z d
      match q : H b with
      | none => rfl
      | some u =>
        have e2 := isA q
        subst e2
        rw [ha] at z; cases z
        have d2 : Data.seq vs.toArray _ = Data.dict es ep := d
        cases d2
    have nsK : ∀ {b : Addr} {m : Str → Option Value}, s1.heap.Ns b m → (hidT s1.heap H).Ns b m := fun {b m} z => by
      obtain ⟨o, es, ep, e1, d1, r1⟩ := z
      exact ⟨o, es, ep, kept e1 (noD e1 d1), d1, r1⟩
    have kinB : K.In (hidT s1.heap H) := fun b o z => kept (KX b o z) (by
      match q : H b with
      | none => rfl
      | some u =>
        have e2 := isA q
        subst e2
        rw [hK (by rw [q]; simp)] at z; cases z)
    have M : Mod K mg (hidT s1.heap H) := ⟨kinB, nsK hns, ⟨mb, nsK hb, hbb⟩, by obtain ⟨mc, h1, h2⟩ := hlim; exact ⟨mc, nsK h1, h2⟩⟩
    have nil_fr : ∀ {b : Addr}, ¬ b ∈ frs [] := fun {b} z => by
      have z2 : b ∈ ([] : List Addr) := z
      simp at z2
    have e0 : Env0 P w K mg (hidT s1.heap H) callerA [] s1 H := ⟨rfl, M, fun b o z => of_hidT z, Nat.le_of_eq (hidT_size _ _), trivial, fun b z => absurd z nil_fr, hok, .of_eq hg⟩
    refine codeAny_mono ((G _ kinB (nsK hns)).runs callerA [] s1 H ⟨[.ref a], []⟩ [.ref a] [.ref a] _ _ rfl hr e0 (hbind s1 (.ref a)) (.cons rfl .nil) (hsp H hO hS)) fun res s2 z => ?_
    match res, z with
    | .error e, z => exact False.elim z
    | .ok .next, z => exact False.elim z
    | .ok .brk, z => exact False.elim z
    | .ok .cont, z => exact False.elim z
    | .ok (.ret u), z =>
      obtain ⟨v, H2, os, bare, un, hok2, r2, q⟩ := z
      have qv : v = .bl true := q
      subst qv
      obtain rfl : u = Value.bool true := r2
      refine ⟨rfl, OldK.of_keep fun b o e1 => ?_, os, bare⟩
      match q : H b with
      | none => exact un.keep b o e1 q nil_fr (by simp)
      | some u =>
        rcases hO b with z | ⟨ob, xs, z⟩
        · rw [q] at z; cases z
        · obtain ⟨g1, _⟩ := hok b _ z
          obtain ⟨g2, _⟩ := hok2 b _ (un.frzs b ob _ z)
          rw [e1] at g1; cases g1
          exact g2
  match hk : K.lookup a with
  | some o =>
    have z := KX a o hk
    rw [ha] at z
    cases z
    refine main (fun _ => none) (fun _ => .inl rfl) (.inr ⟨_, vs.toArray, _, hk, rfl, rfl, rfl, by rw [List.size_toArray, lenV]; exact hl, by simpa using rv⟩) (fun b u z => ?_) (fun b z => absurd rfl z) fun z => absurd rfl z
    have z2 : (none : Option HO) = some u := z
    cases z2
  | none =>
    have yes : ∀ {b : Addr}, b = a → (if b = a then some (HO.frz { cls := .type "list", data := .seq vs.toArray } (.lst (ns.map V.int))) else none) = some (HO.frz { cls := .type "list", data := .seq vs.toArray } (.lst (ns.map V.int))) := fun z => if_pos z
    have nay : ∀ {b : Addr}, b ≠ a → (if b = a then some (HO.frz { cls := .type "list", data := .seq vs.toArray } (.lst (ns.map V.int))) else none) = none := fun z => if_neg z
    refine main (fun b => if b = a then some (HO.frz { cls := .type "list", data := .seq vs.toArray } (.lst (ns.map V.int))) else none) (fun b => ?_) (.inl (.inr ⟨_, yes rfl⟩)) (fun b u z => ?_) (fun b z => ?_) fun _ => hk
    · rcases Classical.em (b = a) with h | h
      · exact .inr ⟨_, _, yes h⟩
      · exact .inl (nay h)
    · rcases Classical.em (b = a) with h | h
      · have z2 := (yes h).symm.trans z
        cases z2
        subst h
        exact ⟨ha, by rw [List.length_map]; exact hl, vs, _, rv, ha⟩
      · have z2 := (nay h).symm.trans z
        cases z2
    · rcases Classical.em (b = a) with h | h
      · exact h
      · exact absurd (nay h) z

theorem walkG {l : PySem.W.OpenLaw} {n lv : Nat} {q : Program} {loose : List Str} {XP : (Str → Option Value) → Heap → Prop} {YP : World → Heap → Prop} {d : DefRec} {K : Params → PySem.W.Frag} {sp : World → Sp} {x : Str}
    (hn : l.most = some n) (hn2 : n ≤ sizeLine) (hdf : d.params.defaults = []) (hr : Room lv callerA) (hY : ∀ (w : World) (h : Heap), YP w h → (K w.params).In h)
    (G : ∀ (w : World) (mg : Str → Option Value) (fa : Addr) (h : Heap), (K w.params).In h → h.Ns mainGlobals mg → mg d.name = some (.ref fa) →
      ∃ fd : FuncData, (∀ (s : Shared) (u : Value), BindsTo s fd ⟨[u], []⟩ [(x, u)]) ∧ ∀ base : Heap, (K w.params).In base → base.Ns mainGlobals mg → FnG l.prog w (K w.params) mg base CX0 lv fa fd [x] (sp w))
    (hsp : ∀ (w : World) (H : Hp) (a : Addr) (ns : List Int), ns.length ≤ n → Only H → SqL (K w.params) H a (ns.map V.int) → sp w [.ref a] H (fun v _ => v = .bl true) fun _ _ _ => False) :
    PySem.W.WalkO q loose XP YP l.row.toRowW d [] (fun f vs => PySem.call f vs) := by
  refine Att.attach_call hn hdf fun w s0 s1 mg mb fa o pm cd doc a vs ns Gr Y ho hd hcd hmg hobj hints hlen hg => ?_
  have KX := hY w _ Y
  obtain ⟨fd, hb, hF⟩ := G w mg fa _ KX Gr.T.g hmg
  exact lawG KX Gr.T.g Gr.T.b Gr.T.builtins Gr.T.nolimit hg hobj hints (Nat.le_trans hlen hn2) hr hF hb fun H hO hS => hsp w H a ns hlen hO hS

/-! ### repr of tuples and lists -/
mutual
theorem dp_noDict {K : PySem.W.Frag} {H : Hp} : ∀ {v : V} {d : PyData}, Dp K H v d → d.hasDict = false
  | _, _, .non => by simp only [PyData.hasDict]
  | _, _, .bl _ => by simp only [PyData.hasDict]
  | _, _, .int _ => by simp only [PyData.hasDict]
  | _, _, .str _ => by simp only [PyData.hasDict]
  | _, _, .lst _ h => by simp only [PyData.hasDict]; exact dp_noDictAll h
  | _, _, .tup _ h => by simp only [PyData.hasDict]; exact dp_noDictAll h
theorem dp_noDictAll {K : PySem.W.Frag} {H : Hp} : ∀ {vs : List V} {ds : List PyData}, DpAll K H vs ds → PyData.hasDictAll ds = false
  | _, _, .nil => by simp only [PyData.hasDictAll]
  | _, _, .cons h r => by simp only [PyData.hasDictAll, dp_noDict h, dp_noDictAll r, Bool.or_false]
end
/-! how long a thing is, shown, at most -/
mutual
def cost : PyData → Nat
  | .none | .bool _ => 5
  | .int _ => 2000
  | .str x => 10 * x.cps.size + 2
  | .list xs | .tuple xs => costAll xs + 3
  | .dict _ => 0
def costAll : List PyData → Nat
  | [] => 0
  | x :: xs => cost x + 2 + costAll xs
end
mutual
theorem shown_cost : ∀ d : PyData, d.leavesShort 2000 = true → d.hasDict = false → d.shown.length ≤ cost d
  | .none, _, _ => by decide
  | .bool b, _, _ => by cases b <;> decide
  | .int i, h, _ => by
    simp only [PyData.leavesShort, decide_eq_true_eq] at h
    simp only [cost]
    exact h
  | .str x, h, _ => by
    have hx : ∀ c ∈ x.cps.toList, c < 16 ^ 8 := by simpa only [PyData.leavesShort, List.all_eq_true, decide_eq_true_eq] using h
    have e := StrLaws.reprText_len x hx
    have e2 : x.length = x.cps.size := rfl
    simp only [PyData.shown, cost]
    omega
  | .list xs, h, hd => by
    have h1 := shown_costs xs (by simpa only [PyData.leavesShort] using h) (by simpa only [PyData.hasDict] using hd)
    have h2 := listText_len_le (PyData.shownAll xs)
    have h3 := PyData.shownAll_length xs
    simp only [PyData.shown, cost]
    omega
  | .tuple xs, h, hd => by
    have h1 := shown_costs xs (by simpa only [PyData.leavesShort] using h) (by simpa only [PyData.hasDict] using hd)
    have h2 := tupleText_len_le (PyData.shownAll xs)
    have h3 := PyData.shownAll_length xs
    simp only [PyData.shown, cost]
    omega
  | .dict _, _, hd => by simp [PyData.hasDict] at hd
theorem shown_costs : ∀ xs : List PyData, PyData.leavesShortAll 2000 xs = true → PyData.hasDictAll xs = false → ((PyData.shownAll xs).map (·.length)).sum + 2 * xs.length ≤ costAll xs
  | [], _, _ => by simp only [PyData.shownAll, costAll, List.map_nil, List.sum_nil, List.length_nil]; omega
  | x :: xs, h, hd => by
    simp only [PyData.leavesShortAll, Bool.and_eq_true] at h
    simp only [PyData.hasDictAll, Bool.or_eq_false_iff] at hd
    have h1 := shown_cost x h.1 hd.1
    have h2 := shown_costs xs h.2 hd.2
    simp only [PyData.shownAll, costAll, List.map_cons, List.sum_cons, List.length_cons]
    omega
end
/-- what may be shown: ints of at most 1919 bits, texts of plain signs; its length and depth bounded -/
def Shows (d : PyData) : Prop := d.showable = true ∧ d.leavesShort 2000 = true ∧ cost d ≤ 16000000 ∧ d.depth ≤ 60
theorem Shows.len {d : PyData} (h : Shows d) (n : d.hasDict = false) : d.shown.length ≤ sizeLine := by
  have e := shown_cost d h.2.1 n
  have w := h.2.2.1
  rw [sizeLine_eq]
  omega
section
variable {X : Cx}
theorem call_reprD {lv : Nat} (hq : X.A.guards = some []) (hr : Room lv X.A) : CallR X (.builtin "repr") (fun xs H Q => ∃ a d, xs = [.ref a] ∧ Dp X.K H (.ref a) d ∧ Shows d ∧ Q (.str d.shown) H) := by
  intro pins s σ H xs us Q I r h
  obtain ⟨a, d, rfl, hd, hs, q⟩ := h
  obtain ⟨u, rfl, ru⟩ := vals1 r
  obtain ⟨as, rd⟩ := Dp.reads I d _ _ hd ru
  obtain rfl : u = Value.ref a := ru
  have hu := hr.un
  have hdp := hs.2.2.2
  refine repr_of_reads' (h₀ := s.heap) rd hs.1 (PyData.noDict_hsm (dp_noDict hd)) hq (by omega) (fun _ _ z => z) (fun h' t tk k => ?_) (hs.len (dp_noDict hd))
  exact ⟨.str d.shown, H, I.kept k, ⟨t, rfl⟩, q⟩
/-- // by any number but nought, below 2 ^ 9000 in size -/
def CDivA (_ j : Int) : Prop := j ≠ 0 ∧ j.natAbs.log2 < 9000
theorem op_fdivA : OpR X (binaryOp .FloorDiv) (rI CDivA fun i j => .int (i.fdiv j)) := opI fun i j _ _ _ _ _ hc q => floordiv_int hc.1 q (.inl (PyProof.noPylong_of_log2 hc.2))
/-- * of two factors of together less than a million bits -/
def CMulA (i j : Int) : Prop := i.natAbs.log2 + j.natAbs.log2 < 1000000
theorem mulA_ok {i j : Int} (h : CMulA i j) : IntMulOk i j := by
  have bits : ∀ x : Int, Builtin.Int.intBits x ≤ x.natAbs.log2 + 1 := fun x => by
    unfold Builtin.Int.intBits
    split <;> omega
  have h1 := bits i
  have h2 := bits j
  have h3 : i.natAbs.log2 + j.natAbs.log2 < 1000000 := h
  intro z
  rw [Bool.and_eq_true] at z
  have z3 := of_decide_eq_true (show decide _ = true from z.2)
  have e : bitsLine = 134217728 := by decide
  rw [e] at z3
  omega
theorem op_mulA : OpR X (binaryOp .Mult) (rI CMulA fun i j => .int (i * j)) := opI fun _ _ _ _ _ _ _ hc q => mul_int q (mulA_ok hc)
end
/-! ### a word between two statements -/
def tMid (t u : TS) : TS := fun D σ H => ∃ M : L2.St → Hp → Prop, t { D with nx := M } σ H ∧ ∀ σ2 H2, M σ2 H2 → u D σ2 H2
theorem pss_mid {X : Cx} {st : Stmt} {more : List Stmt} {t u : TS} (a : PS X st t) (b : PSs X more u) : PSs X (st :: more) (tMid t u) := by
  refine ⟨fun pins s σ H D I h => ?_⟩
  obtain ⟨M, hm, hu⟩ := h
  refine wpAny_execs_cons (thn (a.run pins s σ H { D with nx := M } I hm) fun fl s1 z => ?_)
  match fl, z with
  | .next, ⟨σ2, H2, I2, z⟩ => exact b.run pins s1 σ2 H2 D I2 (hu σ2 H2 z)
  | .ret v, z => exact z
  | .brk, z => exact z
  | .cont, z => exact z
end Fp

set_option Elab.async false
set_option linter.all false
set_option maxRecDepth 100000
set_option maxHeartbeats 4000000
namespace Fp
open PySem PySem.Spec PyProof.Rows L2
/-! ### C.f(e, ..), C a class of one's own, f a def of its body -/
structure ClsFn (K : PySem.W.Frag) (C : Addr) (m : Str) (f : Addr) : Prop where
  rd : PySem.W.readsIn K C (.type "type") = true
  fc : PySem.W.findCls K (.ref C) (.type "type") m = some (.val (.ref f))
  hd : PySem.W.handedIn (.ref f) = true
  sp : PySem.W.specialIn K (.ref C) "__getattribute__" = some (some (.builtin "type.__getattribute__"))
  kp : PySem.W.keepIn K (.ref f) = true
section
variable {X : Cx} {CX : CXT} {lv : Nat} {f C : Addr} {fd : FuncData} {ps : List Str} {sp : Sp} {E : XK} {x m : Str} {p pos apos : Pos} {e : Expr} {es : List Expr} {t : TA}
theorem pe_clsfn {pl : Sem Bool} (c : ClsFn X.K C m f) (F : FnOk X.prog X.w X.K X.mg X.base CX lv f fd ps sp) (hr : Room lv X.A) (hg : Gl X x) (hm : X.mg x = some (.ref C)) (hb : Binds X.K fd ps []) (hx : Passes CX X E) (ha : PA X (e :: es) t)
    (hdb : (x == ("__debug__" : Str)) = false := by decide) (hst : starEach (e :: es) X.env = (false, eval e X.env) :: starEach es X.env := by rfl) (hpl : (backTo pos (starEach es X.env)).any (·.1) = false := by rfl)
    (ht : eval (.Call (.Attribute (.Name x p) m apos) (e :: es) [] pos) X.env = (do
      let ov ← eval (.Name x p) X.env
      standAt apos.atName
      let (g, first) ← holding [ov] (getMethod ov m pl)
      callWith pos g first (backTo pos (starEach (e :: es) X.env)) (backToKw pos (keywordEach [] X.env))) := by rfl) :
    PE X (.Call (.Attribute (.Name x p) m apos) (e :: es) [] pos) (tCall sp [] E t) := by
  refine ⟨fun pins s σ H Q I h => PySem.W.methodCall_KW (pl := pl) (ld_glob I hg hm ?_ hdb) ht⟩
  refine PySem.W.method_cls I.kIn c.sp (PySem.W.cls_value I.kIn c.rd c.fc c.hd ?_)
  refine PySem.W.callWith_K (first := []) (h₀ := X.base) I.ok.mod.kin c.kp (thn (ha.run pos pins _ σ H _ (I.tok _) h) fun us s2 z => ?_) hst hpl
  obtain ⟨vs, H2, I2, r, q⟩ := z
  exact ⟨I2.kIn, run_fn F hr hb .nil hx I2 r q⟩
end
/-- an error of the class at S is what an except of S names -/
theorem exm_own {K : PySem.W.Frag} {S : Addr} (h1 : PySem.W.subIn K (.ref S) (.type "BaseException") = some true) (h2 : PySem.W.isClsIn K S = true) (h3 : PySem.W.typeIn K (.ref S) = some (.type "type")) (h4 : PySem.W.subIn K (.ref S) (.ref S) = some true) :
    PySem.W.exmOne K (.ref S) (.ref S) = some true := by
  have y1 : (PySem.W.subIn K (.ref S) (.type "BaseException") == some true) = true := by rw [h1] <;> rfl
  have y2 : ((PySem.W.clsIn K S).isSome && PySem.W.typeIn K (.ref S) == some (.type "type")) = true := by
    have h5 : (PySem.W.clsIn K S).isSome = true := h2
    rw [h5, h3] <;> rfl
  show (if (PySem.W.subIn K (.ref S) (.type "BaseException") == some true) = true then (if ((PySem.W.clsIn K S).isSome && PySem.W.typeIn K (.ref S) == some (.type "type")) = true then PySem.W.subIn K (.ref S) (.ref S) else none) else none) = some true
  rw [if_pos y1, if_pos y2]
  exact h4
/-! ### C(), C an own exception over ValueError whose __init__ stores nothing -/
section
variable {X : Cx}
/-- the promise of such an __init__ of one argument, self -/
def spIni (K : PySem.W.Frag) : Sp := fun vs H Q _ => ∃ a C : Addr, vs = [.ref a] ∧ OexC K C ∧ H a = some (exo a C none) ∧ Q .non H
/-- .. of self and a text -/
def spIni1 (K : PySem.W.Frag) : Sp := fun vs H Q _ => ∃ (a C : Addr) (y : V), vs = [.ref a, y] ∧ OexC K C ∧ H a = some (exo a C none) ∧ Q .non H
theorem let_go {pins : List (Addr × Obj)} {σ : L2.St} {H1 : Hp} {hp hp2 h2 : Heap} {g1 g2 : Array GenState} {d1 d2 : Drawn} {t1 t2 : Nat} {os1 os2 : OsState} {a C : Addr} (I1 : Inv X pins σ H1 ⟨hp, g1, d1, t1, os1⟩)
    (ha : hp.objs.size ≤ a) (k : ∀ b o, hp.get? b = some o → hp2.get? b = some o) (un : Un (frs X.stack) [] (upd H1 a (exo a C none)) (upd H1 a (exo a C none)) hp2 h2) (hok : HOk X.prog X.w (upd H1 a (exo a C none)) h2) (ho : os2 = os1) (hb : AllBare g2) :
    ∃ (t0 : Addr) (G : Heap), Inv X pins σ H1 ⟨G, g2, d2, t2, os2⟩ ∧ (∀ b o, G.get? b = some o → h2.get? b = some o) ∧ G.get? a = none ∧
      h2.get? a = some ({ cls := .ref C, dict := none, data := .fields #[.ref t0, .none, .none, .none, .bool false, .none] } : Obj) := by
  obtain ⟨t0, hoe⟩ := exo_at hok (upd_same (H := H1))
  have hn : H1 a = none := I1.hok.fresh ha
  obtain ⟨G, y1, y2⟩ := restrict h2 fun b => decide (b ≠ a)
  have gk : ∀ b, b ≠ a → G.get? b = h2.get? b := fun b hb => y1 b (decide_eq_true hb)
  have ge : G.get? a = none := y2 a (by simp)
  have old : ∀ {b : Addr} {o : Obj}, hp.get? b = some o → b ≠ a := fun {b o} z => Nat.ne_of_lt (Nat.lt_of_lt_of_le (Heap.lt_size z) ha)
  have up : ∀ {b : Addr}, b ≠ a → H1 b = none → upd H1 a (exo a C none) b = none := fun {b} hb n => by rw [upd_ne hb]; exact n
  have dn : ∀ {b : Addr} {u : HO}, H1 b = some u → upd H1 a (exo a C none) b = some u := fun {b u} z => by rw [upd_ne (ne_of_none z hn)]; exact z
  have ne : ∀ {b : Addr} {u : HO}, H1 b = some u → b ≠ a := fun {b u} z => ne_of_none z hn
  have U : Un (frs X.stack) [] H1 H1 hp G :=
    ⟨fun b o z n hf hx => by rw [gk b (old z)]; exact un.keep b o (k b o z) (up (old z) n) hf hx,
     fun b o z n hf hx => by rw [gk b (old z)]; exact un.slot b o (k b o z) (up (old z) n) hf hx,
     fun b o z n hx => n,
     fun b o z hx => by rw [gk b (old z)]; exact un.there b o (k b o z) hx,
     fun b xs z => z, fun b o v z => z, fun b qs z => ⟨#[], by rw [z]; simp⟩⟩
  have hok3 : HOk X.prog X.w H1 G := fun b o z => by
    refine (hok b o (dn z)).stay (fun c v hc y => ?_) (fun c hc => ?_) (fun c xs hc => ?_)
    · have hca : c ≠ a := by
        rcases hc with hc | hc
        · rw [hc]; exact ne z
        · exact at_ne (upd_same (H := H1)) hc exo_own
      rw [gk c hca]
      exact y
    · have hca : c ≠ a := at_ne (upd_same (H := H1)) hc exo_own
      rw [upd_ne hca] at hc
      exact hc
    · have hca : c ≠ a := at_ne (upd_same (H := H1)) hc exo_tup
      rw [upd_ne hca] at hc
      exact hc
  have J : Inv X pins σ H1 ⟨G, g2, d2, t2, os2⟩ := I1.call' (ch := []) ho U hok3 hb (fun b z => absurd z (by simp))
  refine ⟨t0, G, J, fun b o z => ?_, ge, hoe⟩
  rcases Classical.em (b = a) with hba | hba
  · rw [hba, ge] at z
    cases z
  · exact (gk b hba).symm.trans z
theorem pmk_bare {CX : CXT} {x : Str} {C fI : Addr} {lv : Nat} {fd : FuncData} {ps : List Str} {p pos : Pos} (T : OexC X.K C) (iC : PySem.W.findIn X.K (.ref C) "__init__" = some (some (.ref fI))) (tI : PySem.W.typeIn X.K (.ref fI) = some (.type "function"))
    (F1 : FnOk X.prog X.w X.K X.mg X.base CX lv fI fd ps (spIni X.K)) (hr : Room (lv + 1) X.A) (hb : Binds X.K fd ps []) (hx : Passes CX X (fun _ _ _ => False)) (hg : Gl X x) (hm : X.mg x = some (.ref C)) (hdb : (x == ("__debug__" : Str)) = false := by decide) :
    PMk X (.Call (.Name x p) [] [] pos) (fun _ H Q => Q (.ref C) none H) := by
  intro pins s σ H Q I h
  obtain ⟨nm, q, N, bs, bm, sn, sub, ab, col, dd, k0, k1, k2, k3, k5, hC, hbm⟩ := T.cls
  refine wpAny_Call_Name_kw (ld_glob I hg hm ?_ hdb)
  refine PySem.W.callWith_K0 I.kIn T.kC ?_
  show wpAny _ _ (call (.ref C) []) _ _ _
  obtain ⟨hp, g, dr, tk, os⟩ := s
  have hsz : hp.objs.size ≤ hp.objs.size + 1 := Nat.le_succ _
  have kk : ∀ b o, hp.get? b = some o → ((hp.push (PySem.W.kdv_tup [])).push (PySem.HandSPX.excO C hp.objs.size)).get? b = some o := fun b o z => Heap.get?_push_of_some _ (Heap.get?_push_of_some _ z)
  have hget : ((hp.push (PySem.W.kdv_tup [])).push (PySem.HandSPX.excO C hp.objs.size)).get? (hp.objs.size + 1) = some (PySem.HandSPX.excO C hp.objs.size) := by heap_get
  have I2 : Inv X pins σ (upd H (hp.objs.size + 1) (exo (hp.objs.size + 1) C none)) ⟨(hp.push (PySem.W.kdv_tup [])).push (PySem.HandSPX.excO C hp.objs.size), g, dr, tk, os⟩ :=
    I.laid (t' := tk) (a := hp.objs.size + 1) (o := exo (hp.objs.size + 1) C none) (h' := (hp.push (PySem.W.kdv_tup [])).push (PySem.HandSPX.excO C hp.objs.size)) kk hsz (exo_ok hget)
  have r2 : Vals [V.ref (hp.objs.size + 1)] [Value.ref (hp.objs.size + 1)] := .cons rfl .nil
  have hsp : spIni X.K [V.ref (hp.objs.size + 1)] (upd H (hp.objs.size + 1) (exo (hp.objs.size + 1) C none)) (fun v H2 => v = .non ∧ H2 = upd H (hp.objs.size + 1) (exo (hp.objs.size + 1) C none)) (fun _ _ _ => False) :=
    ⟨_, C, rfl, T, upd_same, rfl, rfl⟩
  have hl : ([Value.ref (hp.objs.size + 1)] ++ []).length = ps.length := by
    have z := F1.len _ _ _ _ hsp
    exact z
  refine wpAny_call (PySem.HandSPX.call_own F.excBase_ValueError (fun Y => PySem.HandSPX.refsVE_contains Y bm hbm) (I.kIn _ _ hC) (PySem.W.looks_findIn I.kIn iC) (fun self => PySem.W.bind_fn I.kIn self tI) (Nat.zero_le _)
    (codeAny_mono (F1.run _ X.stack _ _ ⟨[Value.ref (hp.objs.size + 1)], []⟩ [Value.ref (hp.objs.size + 1)] _ _ (fun _ _ _ => False) (hr.make C [] []) (I2.env0.make C [] []) (hb _ [Value.ref (hp.objs.size + 1)] I2.kIn hl) r2 hsp) fun res s2 z => ?_))
  match res, z with
  | .error er, z => exact hx pins σ _ _ er s2 I2 z
  | .ok .next, z => exact False.elim z
  | .ok .brk, z => exact False.elim z
  | .ok .cont, z => exact False.elim z
  | .ok (.ret u), z =>
    obtain ⟨v, H2, os2, bare2, un2, hok2, rv, ev, eH⟩ := z
    subst ev
    rw [eH] at un2 hok2
    obtain ⟨h2, g2, d2, t2, os3⟩ := s2
    obtain ⟨t0, G, J, kG, ge, hoe⟩ := let_go (d2 := d2) (t2 := t2) I hsz kk un2 hok2 os2 bare2
    exact ⟨rv, _, _, _, ⟨G, g2, d2, t2, os3⟩, _, .ref C, none, rfl, J, kG, ge, hoe, ⟨rfl, rfl⟩, rfl, rfl, I.hok.fresh hsz, rfl, bare2, raises_own T.exC T.tyC, h⟩
end
end Fp

set_option Elab.async false
set_option linter.all false
set_option maxRecDepth 100000
set_option maxHeartbeats 4000000
namespace Fp
open PySem PySem.Spec PyProof.Rows L2
/-! ### a tuple taken some times, none and once too -/
theorem tuple_mul_one (l : Addr) (items : Array Value) (n : Nat) (dd : Option Addr) (sl : Array (Option Value)) (u : Tok) :
    Meets (Builtin.«tuple.__mul__» ⟨[.ref l, .int 1 u], []⟩) (fun _ R s => s.heap.get? l = some { cls := .type "tuple", dict := dd, data := .seq items n, slots := sl } ∧ R (.ok (.ret (Value.ref l))) s) :=
  .of_wp fun prog w A R s h => by
    obtain ⟨hp, g, d, tk, os⟩ := s
    obtain ⟨hl, h⟩ := h
    have f1 := AutoSeq1.idx_int
    have c1 : (items.isEmpty || (1 : Int) == 1) = true := by simp
    wp_walk using wpAny_loadPart' hl
    exact ⟨_, rfl, h⟩
theorem tuple_mul_nil (l : Addr) (items : Array Value) (n : Nat) (dd : Option Addr) (sl : Array (Option Value)) (u : Tok) (c1 : items.isEmpty = false) :
    Meets (Builtin.«tuple.__mul__» ⟨[.ref l, .int 0 u], []⟩) (fun _ R s => s.heap.get? l = some { cls := .type "tuple", dict := dd, data := .seq items n, slots := sl } ∧
      R (.ok (.ret (Value.ref s.heap.objs.size))) { s with heap := s.heap.push { cls := Value.type "tuple", data := Data.seq #[] }, toks := s.toks }) :=
  .of_wp fun prog w A R s h => by
    obtain ⟨hp, g, d, tk, os⟩ := s
    obtain ⟨hl, h⟩ := h
    have f1 := AutoSeq1.idx_int
    have c2 : (items.isEmpty || (0 : Int) == 1) = false := by rw [c1]; rfl
    wp_walk using wpAny_loadPart' hl
    exact ⟨_, rfl, h⟩
def rRepA (K : PySem.W.Frag) : R2 := fun x y H Q => ∃ l k xs, x = .ref l ∧ y = .int k ∧ SqT K H l xs ∧ xs ≠ [] ∧ 0 ≤ k ∧ k ≤ 1000 ∧ xs.length ≤ 1000 ∧ (k = 1 → Q (.ref l) H) ∧ (k ≠ 1 → ∀ p, H p = none → Q (.ref p) (upd H p (.tup (List.replicate k.toNat xs).flatten)))
section
variable {X : Cx}
theorem op_repA : OpR X (binaryOp .Mult) (rRepA X.K) := by
  intro pins s σ H x y v u Q I rx ry h
  obtain ⟨l, k, xs, rfl, rfl, hT, hne, h0, h2, hz, q1, q2⟩ := h
  rcases (by omega : k = 0 ∨ k = 1 ∨ 2 ≤ k) with rfl | rfl | hk
  · cases rx
    obtain ⟨t, rfl⟩ := ry
    obtain ⟨its, r, ⟨⟨cls, dd, data, sl⟩, ho, hc, n, hd⟩, hs⟩ := I.tuple hT
    simp only at hc hd
    subst hc hd
    have hle : its.length = xs.length := r.length.symm
    have hi : its.toArray.isEmpty = false := by
      cases its with
      | nil => exact absurd (List.eq_nil_of_length_eq_zero hle.symm) hne
      | cons a b => rfl
    refine wpAny_binaryOp_repeat_ref (T := "tuple") (U := "int") (by decide) ⟨_, ho, rfl⟩ (fun s2 => typeIs_int s2 0 t) noFill_tuple_mul F.fills_int_mul F.slot_int_rmul repeat_tuple F.slot_int_index.lookup
      (call_meets F.slot_int_rmul (typeIs_int s 0 t) F.entry_int_rmul (F.args_int_rmul_2 _ _) (int_rmul_tuple 0 t l its.toArray n dd sl)
        ⟨ho, rfl, ⟨_, ho, rfl⟩, call_meets F.slot_tuple_mul ⟨_, ho, rfl⟩ F.entry_tuple_mul (F.args_tuple_mul_2 _ _) (tuple_mul_nil l its.toArray n dd sl t hi) ⟨ho, ?_⟩⟩)
    refine ⟨.ref s.heap.objs.size, _, I.laid (t' := s.toks) (o := .tup []) (fun b ob z => Heap.get?_push_of_some _ z) (Nat.le_refl _) ?_, rfl, q2 (by decide) _ (I.hok.fresh (Nat.le_refl _))⟩
    exact ⟨Nat.zero_le _, [], .nil, IsTup.new _ _⟩
  · cases rx
    obtain ⟨t, rfl⟩ := ry
    obtain ⟨its, r, ⟨⟨cls, dd, data, sl⟩, ho, hc, n, hd⟩, hs⟩ := I.tuple hT
    simp only at hc hd
    subst hc hd
    refine wpAny_binaryOp_repeat_ref (T := "tuple") (U := "int") (by decide) ⟨_, ho, rfl⟩ (fun s2 => typeIs_int s2 1 t) noFill_tuple_mul F.fills_int_mul F.slot_int_rmul repeat_tuple F.slot_int_index.lookup
      (call_meets F.slot_int_rmul (typeIs_int s 1 t) F.entry_int_rmul (F.args_int_rmul_2 _ _) (int_rmul_tuple 1 t l its.toArray n dd sl)
        ⟨ho, rfl, ⟨_, ho, rfl⟩, call_meets F.slot_tuple_mul ⟨_, ho, rfl⟩ F.entry_tuple_mul (F.args_tuple_mul_2 _ _) (tuple_mul_one l its.toArray n dd sl t) ⟨ho, ?_⟩⟩)
    exact ⟨.ref l, H, I, rfl, q1 rfl⟩
  · exact op_repT pins s σ H _ _ v u Q I rx ry ⟨l, k, xs, rfl, rfl, hT, hne, hk, h2, hz, q2 (by omega)⟩
end
end Fp


set_option Elab.async false
set_option linter.all false
set_option maxRecDepth 100000
set_option maxHeartbeats 4000000
namespace Fp
open PySem PySem.Spec PyProof.Rows L2
/-! ### x *= y of great numbers; xs[i] += y -/
section
variable {X : Cx}
theorem ip_mulA : PIp X .Mult (rI CMulA fun i j => .int (i * j)) := opI fun _ _ _ _ _ _ _ hc q => imul_int q (mulA_ok hc)
def rIxN (K : PySem.W.Frag) : V → V → Hp → VK → Prop := fun x y H Q => ∃ p xs i v, x = .ref p ∧ y = .int i ∧ SqL K H p xs ∧ 0 ≤ i ∧ atI xs i = some v ∧ Q v H
theorem get_listN : PGet X (rIxN X.K) := by
  intro pins s σ H x y v u Q I rx ry h
  obtain ⟨p, xs, i, z, rfl, rfl, hq, h0, he, q⟩ := h
  cases rx
  obtain ⟨t, rfl⟩ := ry
  obtain ⟨its, r, pl, hz⟩ := I.list hq
  obtain ⟨j, h1, h2, h3, h4, h5⟩ := atI_get he
  obtain ⟨w, ew, rw'⟩ := r.get h2
  have hl := r.length
  have hn := line63
  have hj : i.toNat = j := by
    rw [seqIndex_of h0 h5] at h1
    exact Option.some.inj h1
  exact wpAny_getItem_list pl.isList h0 (by omega) (by rw [hj]; simpa using ew) ⟨z, H, I, rw', q⟩
end
end Fp

set_option Elab.async false
set_option linter.all false
set_option maxRecDepth 100000
set_option maxHeartbeats 4000000
namespace Fp
open PySem PySem.Spec PyProof.Rows L2
/-! ### repr of what may be None, a number or an object -/
theorem shown_non : PyData.none.shown = ("None" : Str) := rfl
theorem shown_int (i : Int) : (PyData.int i).shown = Str.ofString (toString i) := rfl
section
variable {X : Cx}
theorem call_reprV {lv : Nat} (hq : X.A.guards = some []) (hr : Room lv X.A) : CallR X (.builtin "repr") (fun xs H Q => ∃ v d, xs = [v] ∧ (v = .non ∨ (∃ i, v = .int i) ∨ ∃ a, v = .ref a) ∧ Dp X.K H v d ∧ Shows d ∧ Q (.str d.shown) H) := by
  intro pins s σ H xs us Q I r h
  obtain ⟨v, d, rfl, hv, hd, hs, q⟩ := h
  rcases hv with rfl | ⟨i, rfl⟩ | ⟨a, rfl⟩
  · cases hd
    obtain ⟨u, rfl, ru⟩ := vals1 r
    obtain rfl : u = Value.none := ru
    exact PySem.P.repr_of_none ⟨.str PyData.none.shown, H, I.tok _, ⟨_, rfl⟩, q⟩
  · cases hd
    refine SkE.call_repr_int pins s σ H _ us Q I r ⟨i, rfl, ?_, q⟩
    have h1 := hs.1
    simp only [PyData.showable, decide_eq_true_eq] at h1
    omega
  · exact call_reprD hq hr pins s σ H _ us Q I r ⟨a, d, rfl, hd, hs, q⟩
end
end Fp


set_option Elab.async false
set_option linter.all false
set_option maxRecDepth 100000
set_option maxHeartbeats 4000000
namespace Fp
open PySem PySem.Spec PyProof.Rows L2
/-! ### enumerate(xs, start=k), of a list and of a tuple -/
/-- the items of a row as it stands, each in a new pair with its number from k on -/
def Itq (Sq : Hp → List V → Prop) (k : Int) : It :=
  ⟨fun i H => ∃ xs x, Sq H xs ∧ xs[i]? = some x, fun i H v H2 => ∃ T x, v = .ref T ∧ H T = none ∧ H2 = upd H T (.tup [.int (k + (i : Nat)), x]) ∧ ∀ zs, Sq H zs → zs[i]? = some x, fun i H => ∃ xs, Sq H xs ∧ xs.length ≤ i⟩
theorem walk_q {Sq : Hp → List V → Prop} {k : Int} {xs : List V} : Walk (Itq Sq k) xs.length (fun H => Sq H xs) (YPair (fun i => some (.int (k + (i : Nat)))) (fun i => xs[i]?)) := by
  refine ⟨fun i _ hi q => ⟨xs, xs[i], q, by simp [hi]⟩, fun _ q => ⟨xs, q, Nat.le_refl _⟩, fun i H v H2 _ q y => ?_⟩
  obtain ⟨T, x, y1, y2, y3, y4⟩ := y
  exact ⟨T, _, x, y1, y2, y3, rfl, y4 xs q⟩
section
variable {M : Model} {A : Around} {E : Value → Shared → Prop} {s : Shared} {env : Env}
theorem cw_typeKw {pos : Pos} {T : String} {args : List (Bool × Sem Value)} {kws : List (Option Str × Sem Value)} {Q : Value → Shared → Prop} (hp : args.any (·.1) = false) (hk : kws.any (·.1.isNone) = false)
    (h : wpAny M A (evalArgs (.type T) true args kws) (fun a t => wpAny M A (call (.type T) a.pos a.kw) Q E t) E s) : wpAny M A (callWith pos (.type T) [] args kws) Q E s := by
  unfold callWith
  refine wpAny_bind (wpAny_holding (wpAny_mono h (fun g t hg => wpAny_bind (wpAny_standAt ?_)) fun _ _ z => z))
  simp only [hp, hk, Bool.or_false]
  refine wpAny_bind (wpAny_pure ?_)
  exact wpAny_bind (wpAny_mono hg (fun r t2 hr => wpAny_bind (wpAny_holding (wpAny_point (wpAny_pure hr)))) fun _ _ z => z)
end
section
variable {prog : Program} {w : World} {A : Around} {E : Value → Shared → Prop} {s : Shared}
theorem enum_end_q {e it : Addr} {i : Int} {old : Value} {Q : Option Value → Shared → Prop} (ee : IsEnum s.heap e it i old)
    (dn : ∀ (Q2 : Value → Shared → Prop) (F : Value → Shared → Prop), (∀ h2 x, Heap.ExtBut it s.heap h2 → (∃ o, h2.get? x = some o ∧ o.cls = .type "StopIteration") → F (.ref x) { s with heap := h2 }) → wpAny (model prog w) A.in1 (Builtin.SmallTypes.nextOf (.ref it)) Q2 F s)
    (hQ : ∀ h2, Heap.ExtBut it s.heap h2 → Q none { s with heap := h2 }) : wpAny (model prog w) A (pyNext (.ref e)) Q E s := by
  have ty : s.TypeIs (.ref e) "enumerate" := ⟨_, ee, rfl⟩
  unfold pyNext
  refine wpAny_bind (wpAny_attempt (wpAny_callSpecial?_slot (name := Str.ofString "__next__") ty F.slot_enumerate_next (wpAny_call_entry F.slot_enumerate_next ty F.entry_enumerate_next ?_ (F.args_enumerate_next_1 _))))
  show wpAny (model prog w) _ (field (.ref e) 2 >>= _) _ _ _
  refine wpAny_bind (wpAny_field ee rfl (x := .ref it) rfl (wpAny_bind (dn _ _ fun h2 x eb ox => ?_)))
  obtain ⟨o, oe, oc⟩ := ox
  exact wpAny_bind (wpAny_isInstance (T := "StopIteration") (b := true) ⟨o, oe, oc⟩ isSubtype_stop (wpAny_pure (hQ _ eb)))
end
theorem turn_qL {P : Program} {w : World} {K : PySem.W.Frag} {elts : List Expr} {kk : Nat} {tpos : Pos} (k : Int) (a e it : Addr) :
    Turn P w K (.Tuple elts kk tpos) (Itq (fun H xs => SqL K H a xs) k) [e, it] e (fun i h => (∃ old, IsEnum h e it (k + (i : Nat)) old) ∧ h.IsListIter it a i ∧ e ≠ it) where
  mem := by simp
  obj := fun i h st b hb => by
    obtain ⟨⟨_, ee⟩, ⟨o, oe, _, od⟩, _⟩ := st
    rcases (show b = e ∨ b = it by simpa using hb) with z | z
    · subst z
      exact ⟨_, ee, fun v q => nomatch q⟩
    · subst z
      exact ⟨o, oe, fun v q => by rw [od] at q; cases q⟩
  keep := fun i h h2 st kp => by
    obtain ⟨⟨old, ee⟩, ie, hne⟩ := st
    exact ⟨⟨old, kp e (by simp) _ ee⟩, ie.at fun o q => kp it (by simp) o q, hne⟩
  item := by
    intro Y yP yw yK yc i pn s sl H F I hf st hg
    subst yP yw yK
    obtain ⟨⟨old, ee⟩, ie, hne⟩ := st
    obtain ⟨xs, x, sq, ex⟩ := hg
    obtain ⟨vs, rv, po, _⟩ := I.list sq
    obtain ⟨u, eu, ru⟩ := rv.get ex
    have oa : s.heap.IsList a vs.toArray := po.isList
    have ai : a ≠ it := fun z => by
      subst z
      obtain ⟨o1, q1, c1, _⟩ := ie
      obtain ⟨o2, q2, c2, _⟩ := id oa
      rw [q1] at q2
      cases q2
      rw [c1] at c2
      injection c2 with c3
      exact absurd c3 (by decide)
    have ae : e ≠ a := fun z => by
      subst z
      obtain ⟨o2, q2, c2, _⟩ := id oa
      have q1 : s.heap.get? e = _ := ee
      rw [q1] at q2
      cases q2
      have c3 := c2
      injection c3 with c4
      exact absurd c4 (by decide)
    have le : e < s.heap.objs.size := Heap.lt_size ee
    have li : it < s.heap.objs.size := by
      obtain ⟨_, q, _⟩ := ie
      exact Heap.lt_size q
    have hi : i < vs.toArray.size := by
      have := (List.getElem?_eq_some_iff.mp eu).1
      simpa using this
    refine wpAny_pyNext_enum_itemC (Draws.list (A := Y.A.in1) (show Y.A.in1.handled = none from I.ok.hd yc) it a ai vs.toArray) ee ⟨ie, oa⟩ hi hne (by simp [hne, ae]) fun u2 h2 tk pu oe st2 oT zT kp => ?_
    have e2 : u2 = u := by
      have : vs[i]? = some u2 := by simpa using pu
      rw [eu] at this
      exact Option.some.inj this.symm
    subst e2
    refine ⟨_, rfl, wpAny_letOwnedTupleGo_enum (s := { s with heap := h2, toks := tk + 1 }) oe fun h3 ee3 sb => ?_⟩
    have oT3 := (sb.2 _ (Nat.ne_of_gt le)).trans oT
    have new : ObjOk Y.prog Y.w (upd H s.heap.objs.size (.tup [.int (k + (i : Nat)), x])) h3 s.heap.objs.size (.tup [.int (k + (i : Nat)), x]) :=
      ⟨by show 2 ≤ sizeLine; decide, [.int (k + (i : Nat)) tk, u2], .cons ⟨_, rfl⟩ (.cons ru .nil), ⟨_, oT3, rfl, _, rfl⟩⟩
    have I3 : Inv Y pn sl (upd H s.heap.objs.size (.tup [.int (k + (i : Nat)), x])) { s with heap := h3, toks := tk + 1 } := by
      refine I.turnedNew (ch := [e, it]) (fun b ob hb q => ?_) hf (Nat.le_refl _) new
      exact (sb.2 b fun z => hb (by simp [z])).trans (kp b ob (fun z => hb (by simp [z])) (fun z => hb (by simp [z])) q)
    refine ⟨.ref s.heap.objs.size, _, I3, rfl, ⟨_, x, rfl, I.hok.fresh (Nat.le_refl _), rfl, fun zs hz => ?_⟩, ⟨⟨u2, ?_⟩, st2.1.at fun o q => (sb.2 it (Ne.symm hne)).trans q, hne⟩, fun b hb => ?_⟩
    · rw [I.list_inj hz sq]
      exact ex
    · rw [show k + ((i + 1 : Nat) : Int) = k + (i : Int) + 1 by omega]
      exact ee3
    · have lb : b < s.heap.objs.size := by
        rcases (show b = e ∨ b = it by simpa using hb) with z | z
        · rw [z]
          exact le
        · rw [z]
          exact li
      rw [upd_ne (Nat.ne_of_lt lb)]
      exact (hf b hb).1
  done := by
    intro Y yP yw yK yc i pn s sl H F I hf st hg
    subst yP yw yK
    obtain ⟨⟨old, ee⟩, ie, hne⟩ := st
    obtain ⟨xs, sq, hx⟩ := hg
    obtain ⟨vs, rv, po, _⟩ := I.list sq
    have oa : s.heap.IsList a vs.toArray := po.isList
    obtain ⟨g0, g1, g2, g3, g4, g5⟩ := hf it (by simp)
    have hl := rv.length
    have ai : a ≠ it := fun z => by
      subst z
      obtain ⟨o1, q1, c1, _⟩ := ie
      obtain ⟨o2, q2, c2, _⟩ := id oa
      rw [q1] at q2
      cases q2
      rw [c1] at c2
      injection c2 with c3
      exact absurd c3 (by decide)
    exact enum_end_q ee (fun Q2 F2 hQ2 => wpAny_nextOf_list_end (show Y.A.in1.handled = none from I.ok.hd yc) ie oa (by simp; omega) hQ2) fun h2 eb => ⟨rfl, I.turned (t' := s.toks) (fun b o hb q => eb b o hb q) g0 g1 g3 g4 g5⟩
  self := fun A2 i s Q F st h => by
    obtain ⟨⟨_, ee⟩, _⟩ := st
    exact wpAny_pyIter_enum ee h
theorem turn_qT {P : Program} {w : World} {K : PySem.W.Frag} {elts : List Expr} {kk : Nat} {tpos : Pos} (k : Int) (a e it : Addr) :
    Turn P w K (.Tuple elts kk tpos) (Itq (fun H xs => SqT K H a xs) k) [e, it] e (fun i h => (∃ old, IsEnum h e it (k + (i : Nat)) old) ∧ h.IsTupleIter it a i ∧ e ≠ it) where
  mem := by simp
  obj := fun i h st b hb => by
    obtain ⟨⟨_, ee⟩, ⟨o, oe, _, od⟩, _⟩ := st
    rcases (show b = e ∨ b = it by simpa using hb) with z | z
    · subst z
      exact ⟨_, ee, fun v q => nomatch q⟩
    · subst z
      exact ⟨o, oe, fun v q => by rw [od] at q; cases q⟩
  keep := fun i h h2 st kp => by
    obtain ⟨⟨old, ee⟩, ie, hne⟩ := st
    exact ⟨⟨old, kp e (by simp) _ ee⟩, ie.at fun o q => kp it (by simp) o q, hne⟩
  item := by
    intro Y yP yw yK yc i pn s sl H F I hf st hg
    subst yP yw yK
    obtain ⟨⟨old, ee⟩, ie, hne⟩ := st
    obtain ⟨xs, x, sq, ex⟩ := hg
    obtain ⟨vs, rv, po, _⟩ := I.tuple sq
    obtain ⟨u, eu, ru⟩ := rv.get ex
    have oa : s.heap.IsTuple a vs.toArray := po
    have ai : a ≠ it := fun z => by
      subst z
      obtain ⟨o1, q1, c1, _⟩ := ie
      obtain ⟨o2, q2, c2, _⟩ := id oa
      rw [q1] at q2
      cases q2
      rw [c1] at c2
      injection c2 with c3
      exact absurd c3 (by decide)
    have ae : e ≠ a := fun z => by
      subst z
      obtain ⟨o2, q2, c2, _⟩ := id oa
      have q1 : s.heap.get? e = _ := ee
      rw [q1] at q2
      cases q2
      have c3 := c2
      injection c3 with c4
      exact absurd c4 (by decide)
    have le : e < s.heap.objs.size := Heap.lt_size ee
    have li : it < s.heap.objs.size := by
      obtain ⟨_, q, _⟩ := ie
      exact Heap.lt_size q
    have hi : i < vs.toArray.size := by
      have := (List.getElem?_eq_some_iff.mp eu).1
      simpa using this
    refine wpAny_pyNext_enum_itemC (Draws.tuple (A := Y.A.in1) (show Y.A.in1.handled = none from I.ok.hd yc) it a ai vs.toArray) ee ⟨ie, oa⟩ hi hne (by simp [hne, ae]) fun u2 h2 tk pu oe st2 oT zT kp => ?_
    have e2 : u2 = u := by
      have : vs[i]? = some u2 := by simpa using pu
      rw [eu] at this
      exact Option.some.inj this.symm
    subst e2
    refine ⟨_, rfl, wpAny_letOwnedTupleGo_enum (s := { s with heap := h2, toks := tk + 1 }) oe fun h3 ee3 sb => ?_⟩
    have oT3 := (sb.2 _ (Nat.ne_of_gt le)).trans oT
    have new : ObjOk Y.prog Y.w (upd H s.heap.objs.size (.tup [.int (k + (i : Nat)), x])) h3 s.heap.objs.size (.tup [.int (k + (i : Nat)), x]) :=
      ⟨by show 2 ≤ sizeLine; decide, [.int (k + (i : Nat)) tk, u2], .cons ⟨_, rfl⟩ (.cons ru .nil), ⟨_, oT3, rfl, _, rfl⟩⟩
    have I3 : Inv Y pn sl (upd H s.heap.objs.size (.tup [.int (k + (i : Nat)), x])) { s with heap := h3, toks := tk + 1 } := by
      refine I.turnedNew (ch := [e, it]) (fun b ob hb q => ?_) hf (Nat.le_refl _) new
      exact (sb.2 b fun z => hb (by simp [z])).trans (kp b ob (fun z => hb (by simp [z])) (fun z => hb (by simp [z])) q)
    refine ⟨.ref s.heap.objs.size, _, I3, rfl, ⟨_, x, rfl, I.hok.fresh (Nat.le_refl _), rfl, fun zs hz => ?_⟩, ⟨⟨u2, ?_⟩, st2.1.at fun o q => (sb.2 it (Ne.symm hne)).trans q, hne⟩, fun b hb => ?_⟩
    · rw [I.tuple_inj hz sq]
      exact ex
    · rw [show k + ((i + 1 : Nat) : Int) = k + (i : Int) + 1 by omega]
      exact ee3
    · have lb : b < s.heap.objs.size := by
        rcases (show b = e ∨ b = it by simpa using hb) with z | z
        · rw [z]
          exact le
        · rw [z]
          exact li
      rw [upd_ne (Nat.ne_of_lt lb)]
      exact (hf b hb).1
  done := by
    intro Y yP yw yK yc i pn s sl H F I hf st hg
    subst yP yw yK
    obtain ⟨⟨old, ee⟩, ie, hne⟩ := st
    obtain ⟨xs, sq, hx⟩ := hg
    obtain ⟨vs, rv, po, _⟩ := I.tuple sq
    have oa : s.heap.IsTuple a vs.toArray := po
    obtain ⟨g0, g1, g2, g3, g4, g5⟩ := hf it (by simp)
    have hl := rv.length
    have ai : a ≠ it := fun z => by
      subst z
      obtain ⟨o1, q1, c1, _⟩ := ie
      obtain ⟨o2, q2, c2, _⟩ := id oa
      rw [q1] at q2
      cases q2
      rw [c1] at c2
      injection c2 with c3
      exact absurd c3 (by decide)
    exact enum_end_q ee (fun Q2 F2 hQ2 => wpAny_nextOf_tuple_end (show Y.A.in1.handled = none from I.ok.hd yc) ie oa (by simp; omega) hQ2) fun h2 eb => ⟨rfl, I.turned (t' := s.toks) (fun b o hb q => eb b o hb q) g0 g1 g3 g4 g5⟩
  self := fun A2 i s Q F st h => by
    obtain ⟨⟨_, ee⟩, _⟩ := st
    exact wpAny_pyIter_enum ee h
def iQL (K : PySem.W.Frag) (k : Int) (ta : TA) : TI := fun σ H R => ta σ H fun vs H1 => ∃ a xs, vs = [.ref a] ∧ SqL K H1 a xs ∧ R (Itq (fun H xs => SqL K H a xs) k) H1
theorem pi_qL {X : Cx} {e : Expr} {ta : TA} {p pos tpos kp cp : Pos} {elts : List Expr} {kk jj : Nat} {k : Int} (k0 : -(2 ^ 63) ≤ k) (k1 : k < 2 ^ 63) (hg : Gl X "enumerate") (hm : X.mg "enumerate" = none) (ha : PA X [e] ta) (hs : starEach [e] X.env = [(false, eval e X.env)] := by rfl) :
    PI X (.Tuple elts kk tpos) (.Call (.Name "enumerate" p) [e] [⟨some "start", .Constant (.int k) jj cp, kp⟩] pos) (iQL X.K k ta) := by
  refine ⟨fun pn s sl H R I h => wpAny_Call_Name_kw (ld_blt I hg hm boot_enumerate ?_)⟩
  have he : backTo pos (starEach [e] X.env) = (false, eval e X.env) :: [] := by
    rw [hs]
    rfl
  refine cw_typeKw (by rw [he]; rfl) (by rfl) ?_
  have go := ha.run pos pn s sl H _ I h
  rw [he] at go ⊢
  refine evalArgs_kwB (by rfl) (thn go fun us s1 z1 => ?_)
  obtain ⟨vs, H1, I1, r1, q1⟩ := z1
  have pkw : PK X [⟨some "start", .Constant (.int k) jj cp, kp⟩] (tCons (tC (.int k)) tNil) := pk_cons pe_int pk_nil
  refine thn (pkw.run pos pn s1 sl H1 (fun zs H2 => zs = [.int k] ∧ H2 = H1) I1 ⟨rfl, rfl⟩) fun ws s2 z2 => ?_
  obtain ⟨zs, H2, I2, r2, rfl, rfl⟩ := z2
  obtain ⟨a, xs, rfl, sq, q⟩ := q1
  cases r1 with
  | cons ra rn =>
    cases rn
    cases ra
    cases r2 with
    | cons rk rn =>
      cases rn
      obtain ⟨tk, rfl⟩ := rk
      obtain ⟨us, rv, po, _⟩ := I2.list sq
      have oa : s2.heap.IsList a us.toArray := po.isList
      refine enum_begins_start (begins_list a us.toArray) oa k0 k1 fun h2 ee oi _ kp2 => wpAny_pyIter_enum ee ?_
      have I3 : Inv X pn sl H2 { s2 with heap := h2 } := I2.kept (t' := s2.toks) kp2
      refine ⟨s2.heap.objs.size + 1, [s2.heap.objs.size + 1, s2.heap.objs.size], _, _, H2, rfl, I3, turn_qL k a (s2.heap.objs.size + 1) s2.heap.objs.size, ⟨⟨.none, ?_⟩, ⟨_, oi, rfl, rfl⟩, Nat.succ_ne_self _⟩, fun b hb => ?_, q⟩
      · rw [show k + ((0 : Nat) : Int) = k by omega]
        exact ee
      · have lb : s2.heap.objs.size ≤ b := by
          rcases (show b = s2.heap.objs.size + 1 ∨ b = s2.heap.objs.size by simpa using hb) with z | z
          · rw [z]
            exact Nat.le_add_right _ _
          · rw [z]
            exact Nat.le_refl _
        exact I2.fpOk lb (I2.hok.fresh lb)
def iQT (K : PySem.W.Frag) (k : Int) (ta : TA) : TI := fun σ H R => ta σ H fun vs H1 => ∃ a xs, vs = [.ref a] ∧ SqT K H1 a xs ∧ R (Itq (fun H xs => SqT K H a xs) k) H1
theorem pi_qT {X : Cx} {e : Expr} {ta : TA} {p pos tpos kp cp : Pos} {elts : List Expr} {kk jj : Nat} {k : Int} (k0 : -(2 ^ 63) ≤ k) (k1 : k < 2 ^ 63) (hg : Gl X "enumerate") (hm : X.mg "enumerate" = none) (ha : PA X [e] ta) (hs : starEach [e] X.env = [(false, eval e X.env)] := by rfl) :
    PI X (.Tuple elts kk tpos) (.Call (.Name "enumerate" p) [e] [⟨some "start", .Constant (.int k) jj cp, kp⟩] pos) (iQT X.K k ta) := by
  refine ⟨fun pn s sl H R I h => wpAny_Call_Name_kw (ld_blt I hg hm boot_enumerate ?_)⟩
  have he : backTo pos (starEach [e] X.env) = (false, eval e X.env) :: [] := by
    rw [hs]
    rfl
  refine cw_typeKw (by rw [he]; rfl) (by rfl) ?_
  have go := ha.run pos pn s sl H _ I h
  rw [he] at go ⊢
  refine evalArgs_kwB (by rfl) (thn go fun us s1 z1 => ?_)
  obtain ⟨vs, H1, I1, r1, q1⟩ := z1
  have pkw : PK X [⟨some "start", .Constant (.int k) jj cp, kp⟩] (tCons (tC (.int k)) tNil) := pk_cons pe_int pk_nil
  refine thn (pkw.run pos pn s1 sl H1 (fun zs H2 => zs = [.int k] ∧ H2 = H1) I1 ⟨rfl, rfl⟩) fun ws s2 z2 => ?_
  obtain ⟨zs, H2, I2, r2, rfl, rfl⟩ := z2
  obtain ⟨a, xs, rfl, sq, q⟩ := q1
  cases r1 with
  | cons ra rn =>
    cases rn
    cases ra
    cases r2 with
    | cons rk rn =>
      cases rn
      obtain ⟨tk, rfl⟩ := rk
      obtain ⟨us, rv, po, _⟩ := I2.tuple sq
      have oa : s2.heap.IsTuple a us.toArray := po
      refine enum_begins_start (begins_tuple a us.toArray) oa k0 k1 fun h2 ee oi _ kp2 => wpAny_pyIter_enum ee ?_
      have I3 : Inv X pn sl H2 { s2 with heap := h2 } := I2.kept (t' := s2.toks) kp2
      refine ⟨s2.heap.objs.size + 1, [s2.heap.objs.size + 1, s2.heap.objs.size], _, _, H2, rfl, I3, turn_qT k a (s2.heap.objs.size + 1) s2.heap.objs.size, ⟨⟨.none, ?_⟩, ⟨_, oi, rfl, rfl⟩, Nat.succ_ne_self _⟩, fun b hb => ?_, q⟩
      · rw [show k + ((0 : Nat) : Int) = k by omega]
        exact ee
      · have lb : s2.heap.objs.size ≤ b := by
          rcases (show b = s2.heap.objs.size + 1 ∨ b = s2.heap.objs.size by simpa using hb) with z | z
          · rw [z]
            exact Nat.le_add_right _ _
          · rw [z]
            exact Nat.le_refl _
        exact I2.fpOk lb (I2.hok.fresh lb)
end Fp

set_option Elab.async false
set_option linter.all false
set_option maxRecDepth 100000
set_option maxHeartbeats 4000000
namespace Fp
open PySem PySem.Spec PyProof.Rows L2
/-! ### a caught exception that is kept in a name, beyond the suite too -/
/-- at a: an exception of the class cls with its dict at d, whatever its own fields say by now -/
def exk (a : Addr) (cls : Value) (d : Option Addr) : HO := .ext fun h => ∃ (oe : Obj) (vs : Array Value), h.get? a = some oe ∧ oe.cls = cls ∧ oe.dict = d ∧ oe.data = .fields vs
theorem exk_at {P : Program} {w : World} {H : Hp} {h : Heap} {a : Addr} {cls : Value} {d : Option Addr} (ok : HOk P w H h) (e : H a = some (exk a cls d)) : ∃ (oe : Obj) (vs : Array Value), h.get? a = some oe ∧ oe.cls = cls ∧ oe.dict = d ∧ oe.data = .fields vs :=
  (show ObjOk P w H h a (.ext fun h => ∃ (oe : Obj) (vs : Array Value), h.get? a = some oe ∧ oe.cls = cls ∧ oe.dict = d ∧ oe.data = .fields vs) from ok a _ e).1
theorem exk_ok {P : Program} {w : World} {H : Hp} {h : Heap} {a : Addr} {cls : Value} {d : Option Addr} {oe : Obj} {vs : Array Value} (e : h.get? a = some oe) (z : Zc cls d oe) (hd : oe.data = .fields vs) : ObjOk P w H h a (exk a cls d) :=
  ⟨⟨oe, vs, e, z.1, z.2, hd⟩, ⟨oe, e⟩, fun _ _ ⟨o, v, e1, e2, e3, e4⟩ k => ⟨o, v, k _ e1, e2, e3, e4⟩⟩
section
variable {X : Cx} {pins : List (Addr × Obj)} {σ : L2.St} {H : Hp} {s : Shared}
/-- such an exception, new to the def, is held from now on -/
theorem track_exc {a : Addr} {oe : Obj} {vs : Array Value} {cls : Value} {d : Option Addr} (I : Inv X pins σ H s) (ha : s.heap.get? a = some oe) (hz : Zc cls d oe) (hd : oe.data = .fields vs) (na : H a = none) (nL : a ≠ X.env.locals)
    (fresh : ∀ o, X.s_0.heap.get? a = some o → a ∈ X.ex) (np : ∀ p ∈ X.pn ++ pins, p.1 ≠ a) : Inv X pins σ (upd H a (exk a cls d)) s := by
  have up : ∀ {b : Addr} {u : HO}, H b = some u → upd H a (exk a cls d) b = some u := fun {b u} z => by
    rw [upd_ne (ne_of_none z na)]
    exact z
  have ck : ∀ x c, X.env.cells.lookup x = some c → c ≠ a := fun x c z y => by
    subst y
    obtain ⟨v, hv⟩ := I.cell x c z
    obtain ⟨o, h1, h2⟩ := hv
    rw [ha] at h1
    cases h1
    rw [hd] at h2
    cases h2
  refine { ok := I.ok, os := I.os, bare := I.bare, loc := I.loc, cell := I.cell, len := I.len, base := ?_, free := ?_, freeC := ?_, pin := ?_, hok := ?_ }
  · exact { keep := I.base.keep, slot := I.base.slot, there := I.base.there
            free := fun b o z n hx => by
              rw [upd_ne (fun y => hx (by subst y; exact fresh o z))]
              exact I.base.free b o z n hx
            tups := fun b xs z => up (I.base.tups b xs z)
            frzs := fun b o u z => up (I.base.frzs b o u z)
            tbls := fun b ps z => by
              obtain ⟨more, y⟩ := I.base.tbls b ps z
              exact ⟨more, up y⟩ }
  · rw [upd_ne (Ne.symm nL)]
    exact I.free
  · intro x c z
    rw [upd_ne (ck x c z)]
    exact I.freeC x c z
  · intro p hp
    obtain ⟨h1, h2, h3⟩ := I.pin p hp
    exact ⟨h1, by rw [upd_ne (np p hp)]; exact h2, h3⟩
  · intro b o z
    by_cases hb : b = a
    · subst hb
      rw [upd_same] at z
      cases z
      exact exk_ok ha hz hd
    · rw [upd_ne hb] at z
      exact ObjOk.stay (I.hok b o z) (fun _ _ _ y => y) (fun _ y => up y) (fun _ _ y => up y)
/-- into the suite, nothing pinned; and out of it -/
theorem into_suite (I : Inv X pins σ H s) (a : Addr) : Inv (X.suite a (X.pn ++ pins)) [] σ H s :=
  { ok := I.ok.suite _ _, os := I.os, bare := I.bare, base := I.base, loc := I.loc, cell := I.cell, free := I.free, freeC := I.freeC, hok := I.hok, len := I.len
    pin := fun p hp => I.pin p (by simpa using hp) }
theorem from_suite {a : Addr} {pn' : List (Addr × Obj)} (I : Inv (X.suite a (X.pn ++ pins)) pn' σ H s) (ok : X.Ok) : Inv X pins σ H s :=
  { ok := ok, os := I.os, bare := I.bare, base := I.base, loc := I.loc, cell := I.cell, free := I.free, freeC := I.freeC, hok := I.hok, len := I.len
    pin := fun p hp => I.pin p (List.mem_append_left _ hp) }
/-- no frame is such an exception -/
theorem not_frame {B : Heap} {l : List Env} {h : Heap} {a : Addr} {o : Obj} {vs : Array Value} (ff : h.FunFrames B l) (e : h.get? a = some o) (d : o.data = .fields vs) : a ∉ frs l := fun m => by
  obtain ⟨_, o2, e2, nf⟩ := ff.mem m
  rw [e] at e2
  cases e2
  exact nf _ d
end
/-- what 'except x as n' wishes, the exception kept -/
def wKeep (K : PySem.W.Frag) (c : Value) (i : Nat) (ts : Addr → Value → Option Addr → TS) (Wout : WX) (D : Ends) : WX := fun cls d σ H =>
  ∃ yes, PySem.W.exmOne K cls c = some yes ∧ (yes = false → Wout cls d σ H) ∧
    (yes = true → ∀ a, H a = none → ts a cls d { nx := fun σ2 H2 => D.nx (σ2.set i none) H2, rt := D.rt, bk := fun σ2 H2 => D.bk (σ2.set i none) H2, ct := fun σ2 H2 => D.ct (σ2.set i none) H2 } (σ.set i (some (.ref a))) (upd H a (exk a cls d)))
section
variable {X : Cx} {x n : Str} {c : Value} {i : Nat} {body suite : List Stmt} {first : Stmt} {np p1 p2 : Pos} {tb : WX → TS} {ts : Addr → Value → Option Addr → TS} {Wout : WX}
theorem ps_try_keep (hs : X.stack = X.env :: X.outer) (hf : X.env.frame = some X.env.locals) (hN : X.N.Nodup) (hi : X.N[i]? = some n) (hln : X.env.kindOf n = some .local) (hc : Names X x c) (tk : Takes X Wout)
    (hb : ∀ (W : WX) (pn : List (Addr × Obj)) (xe : Value → Shared → Prop), Takes (X.tr pn xe) W → PassesOwn (model X.prog X.w) X.A X.env xe → PSs (X.tr pn xe) body (tb W))
    (hsu : ∀ (a : Addr) (cls : Value) (d : Option Addr) (pn : List (Addr × Obj)), PSs (X.suite a pn) (first :: suite) (ts a cls d)) :
    PS X (.Try body [.ExceptHandler (some (.Name x np)) (some n) (first :: suite) p2] [] [] p1) (fun D σ H => tb (wKeep X.K c i ts Wout D) D σ H) := by
  constructor
  intro pins s σ H D I h
  have ok := I.ok
  have ef : X.A.frames = some (X.env :: X.outer) := by
    rw [← hs]
    exact ok.frames
  have isl : Loc X.env.scope n := .inl hln
  apply wpAny_Try_except
  refine wpAny_mono ((hb (wKeep X.K c i ts Wout D) (X.pn ++ pins) (fun e t1 => wpAny (model X.prog X.w) X.A (noteFrame e X.env) (fun _ t2 => wpAny (model X.prog X.w) X.A (setFlight e none) (fun _ t3 =>
    wpAny (model X.prog X.w) X.A (handleBy e X.env [.ExceptHandler (some (.Name x np)) (some n) (first :: suite) p2]) (SP X pins D) X.xe t3) X.xe t2) X.xe t1) (fun u t air => ?caught) PassesOwn.looking).run [] s σ H D (I.toTry _) h) (fun f s1 z => ?ended) (fun _ _ z => z)
  case caught =>
    obtain ⟨a, B, sI, pins2, σ2, H2, cls, d, rfl, J0, nb, up, sky, na, os, ag, yes, hyes, no, go⟩ := air
    have J : Inv X pins σ2 H2 sI := J0.ofTry ok
    have sky2 : Sky B (X.env :: X.outer) a (Zc cls d) X.env.locals t.heap := by
      rw [← hs]
      exact sky
    show wpAny _ X.A (noteFrame (.ref a) X.env) _ _ _
    refine Sky.land Zc.steady ef hf sky2 fun h3 fl3 up3 => ?_
    have J3 : Inv X pins σ2 H2 { t with heap := h3 } := J.landed nb fl3.1 (up.trans up3) os ag
    obtain ⟨oe3, vs3, he3, hz3, hd3⟩ := fl3.there
    have nfr := not_frame fl3.2.2.1 he3 hd3
    have nL : a ≠ X.env.locals := fun z => nfr (List.mem_filterMap.mpr ⟨X.env, by simp, by rw [hf, z]⟩)
    have noB : B.get? a = none := fl3.2.1
    have noI : ∀ o, sI.heap.get? a ≠ some o := fun o z => by
      have y := nb a o z (by rw [hs]; exact nfr)
      rw [noB] at y
      cases y
    have fresh : ∀ o, X.s_0.heap.get? a = some o → a ∈ X.ex := fun o z => Classical.byContradiction fun m => by
      obtain ⟨o2, y⟩ := J.base.there a o z m
      exact noI o2 y
    have apart : ∀ p ∈ X.pn ++ pins, p.1 ≠ a := fun p hp z => by
      have y := (J.pin p hp).1
      rw [z] at y
      exact noI _ y
    have S3 : Inv (X.suite a (X.pn ++ pins)) [] σ2 H2 { t with heap := h3 } := into_suite J3 a
    refine wpAny_handleBy_cons (codeAny_handlers_test ?_) (fun z => nomatch z)
    have isC : PySem.W.Looks (model X.prog X.w) h3 (typeOf (.ref a)) cls := fun A2 Q2 E2 s2 k q => wpAny_typeOf_ref (k _ _ he3) (by rw [hz3.1]; exact q)
    have meets := PySem.W.exm_one (M := model X.prog X.w) J3.kIn isC hyes
    have named : ∀ {Q E : Value → Shared → Prop}, Q c { t with heap := h3 } → wpAny (model X.prog X.w) (X.A.mark (some (.ref a))) (eval (.Name x np) X.env) Q E { t with heap := h3 } := fun {Q E} q => by
      obtain ⟨hg, hdb, m | ⟨m, hv, hn⟩⟩ := hc
      · exact ld_glob (X := X.suite a (X.pn ++ pins)) S3 hg m q hdb
      · exact ld_blt (X := X.suite a (X.pn ++ pins)) S3 hg m hv q hn hdb
    refine named (meets.here ?_)
    match yes, no, go with
    | true, no, go =>
      apply codeAny_handlers_suite_as
      refine HandSPX.lands_againZ fl3 fun h4 fl4 up4 => ?_
      obtain ⟨oe4, vs4, he4, hz4, hd4⟩ := fl4.there
      have J4 : Inv X pins σ2 H2 { t with heap := h4 } := J.landed nb fl4.1 ((up.trans up3).trans up4) os ag
      have K4 := into_suite (track_exc J4 he4 hz4 hd4 na nL fresh apart) a
      refine store_ok (X := X.suite a (X.pn ++ pins)) (v := .ref a) K4 hN hi isl rfl (fun s5 S5 => ?_) (.inr hln)
      refine wpAny_mono ((hsu a cls d (X.pn ++ pins)).run [] s5 _ _ _ S5 (go rfl a na)) (fun f s6 z => ?_) (fun _ _ z => z.elim)
      have out : ∀ {σ6 : L2.St} {H6 : Hp} {Q : Shared → Prop}, Inv (X.suite a (X.pn ++ pins)) [] σ6 H6 s6 → (∀ s7, Inv X pins (σ6.set i none) H6 s7 → Q s7) → wpAny (model X.prog X.w) X.A (do bindName X.env n .none; unbindBehindTheSuite X.env n p2) (fun _ s7 => Q s7) X.xe s6 :=
        fun S6 q => gone_ok (from_suite S6 ok) hN hi hln q
      match f, z with
      | .next, ⟨_, _, S6, q⟩ => exact out S6 fun _ J7 => ⟨_, _, J7, q⟩
      | .brk, ⟨_, _, S6, q⟩ => exact out S6 fun _ J7 => ⟨_, _, J7, q⟩
      | .cont, ⟨_, _, S6, q⟩ => exact out S6 fun _ J7 => ⟨_, _, J7, q⟩
      | .ret u, ⟨_, _, _, S6, r, q⟩ => exact out S6 fun _ J7 => ⟨_, _, _, J7, r, q⟩
    | false, no, go =>
      show wpAny _ X.A (handleBy (.ref a) X.env []) _ _ _
      apply wpAny_handleBy_nil
      obtain ⟨_, _, _, oe, vs, T, oT, _, he, _, hd, h1, _⟩ := id fl3
      unfold PySem.passOn
      refine wpAny_bind (wpAny_field he hd h1 ?_)
      rw [if_neg (show ¬ ((Value.ref T == Value.none) = true) by simp)]
      have on : wpAny (model X.prog X.w) X.A (setFlight (.ref a) X.env.frame) (fun _ t4 => wpAny (model X.prog X.w) X.A (throw (.ref a) : Sem Flow) (SP X pins D) X.xe t4) X.xe { t with heap := h3 } := by
        rw [hf]
        refine HandSPX.setFlight_upZ fl3 fun h4 held up4 => wpAny_throw (tk _ _ ⟨a, B, sI, pins, σ2, H2, cls, d, rfl, J, nb, (up.trans up3).trans up4, .inr (.inr ?_), na, os, ag, no rfl⟩)
        rw [hs]
        exact held
      first
        | exact wpAny_bind on
        | exact wpAny_bind (wpAny_pure (wpAny_bind on))
  case ended =>
    match f, z with
    | .next, ⟨_, _, J, q⟩ => exact wpAny_execs_nil ⟨_, _, J.ofTry ok, q⟩
    | .brk, ⟨_, _, J, q⟩ => exact ⟨_, _, J.ofTry ok, q⟩
    | .cont, ⟨_, _, J, q⟩ => exact ⟨_, _, J.ofTry ok, q⟩
    | .ret u, ⟨_, _, _, J, r, q⟩ => exact ⟨_, _, _, J.ofTry ok, r, q⟩
end
/-! ### isinstance, fields -/
/-- a kept exception of the class at D, its fields fs -/
def ExK (H : Hp) (a D : Addr) (fs : List (Str × V)) : Prop := (fs = [] ∧ H a = some (exk a (.ref D) none)) ∨ ∃ dd, H a = some (exk a (.ref D) (some dd)) ∧ H dd = some (.xd fs)
theorem ExK.inst {X : Cx} {pins : List (Addr × Obj)} {σ : L2.St} {H : Hp} {s : Shared} {a D : Addr} {fs : List (Str × V)} (I : Inv X pins σ H s) (h : ExK H a D fs) : ∃ (oe : Obj) (od : Option Obj), PySem.W.InstAt s.heap a oe D od := by
  rcases h with ⟨_, h⟩ | ⟨dd, h, hd⟩
  · obtain ⟨oe, vs, e, e1, e2, e3⟩ := exk_at I.hok h
    exact ⟨oe, none, ⟨e, e1, by unfold PySem.W.notCls; rw [e3] <;> rfl, by rw [e2]; exact trivial⟩⟩
  · obtain ⟨oe, vs, e, e1, e2, e3⟩ := exk_at I.hok h
    have hx : ObjOk X.prog X.w H s.heap dd (.xd fs) := I.hok dd _ hd
    obtain ⟨mA, hns, _⟩ := hx
    obtain ⟨od, ho, _⟩ := lookIn_ns hns
    exact ⟨oe, some od, ⟨e, e1, by unfold PySem.W.notCls; rw [e3] <;> rfl, by rw [e2]; exact ho⟩⟩
theorem ExK.same {H H' : Hp} {a D : Addr} {fs : List (Str × V)} (h : ExK H a D fs) (e : ∀ b o, H b = some o → H' b = some o) : ExK H' a D fs := by
  rcases h with ⟨z, h⟩ | ⟨dd, h, hd⟩
  · exact .inl ⟨z, e _ _ h⟩
  · exact .inr ⟨dd, e _ _ h, e _ _ hd⟩
def rIsK (K : PySem.W.Frag) : List V → Hp → VK → Prop := fun xs H Q => ∃ (a D : Addr) (fs : List (Str × V)) (c : V) (cv : Value) (b : Bool), xs = [.ref a, c] ∧ ExK H a D fs ∧ ExcC K D ∧ ClsV c cv ∧ PySem.W.kitOne K (.ref D) cv = some b ∧ Q (.bl b) H
theorem clsIn_of {K : PySem.W.Frag} {D : Addr} (C : ExcC K D) : (PySem.W.clsIn K D).isSome = true := by
  obtain ⟨cd, hc, _⟩ := PySem.W.any_some C.hd
  rw [hc]
  rfl
theorem call_isK {X : Cx} : CallR X (.builtin "isinstance") (rIsK X.K) := by
  intro pins s σ H xs us Q I r h
  obtain ⟨a, D, fs, c, cv, b, rfl, hx, C, hcv, e, q⟩ := h
  obtain ⟨u1, u2, rfl, r1, r2⟩ := vals2 r
  obtain rfl : u1 = Value.ref a := r1
  obtain rfl := hcv.eq r2
  obtain ⟨oe, od, J⟩ := hx.inst I
  exact PySem.W.kia_one (PySem.W.kitx_exc (clsIn_of C) C.hg C.hk C.hs C.ha C.hn C.ht C.hm) I.kIn J e (fun z => nomatch z) fun tk => ⟨.bl b, H, I.kept (t' := tk) fun _ _ z => z, rfl, q⟩
def rIsKT (K : PySem.W.Frag) : List V → Hp → VK → Prop := fun xs H Q => ∃ (a D tp : Addr) (fs : List (Str × V)) (cs : List V) (us : List Value) (b : Bool), xs = [.ref a, .ref tp] ∧ ExK H a D fs ∧ ExcC K D ∧ H tp = some (.tup cs) ∧ Paired ClsV cs us ∧ PySem.W.kitAny K (.ref D) us = some b ∧ Q (.bl b) H
theorem call_isKT {X : Cx} : CallR X (.builtin "isinstance") (rIsKT X.K) := by
  intro pins s σ H xs us Q I r h
  obtain ⟨a, D, tp, fs, cs, ws, b, rfl, hx, C, hT, k, e, q⟩ := h
  obtain ⟨u1, u2, rfl, r1, r2⟩ := vals2 r
  obtain rfl : u1 = Value.ref a := r1
  obtain rfl : u2 = Value.ref tp := r2
  obtain ⟨oe, od, J⟩ := hx.inst I
  have hx2 : ObjOk X.prog X.w H s.heap tp (.tup cs) := I.hok tp _ hT
  obtain ⟨_, its, rv, o, h1, h2, n, h3⟩ := hx2
  obtain rfl := ClsV.all k rv
  obtain ⟨oc, od2, dt, sl⟩ := o
  simp only at h2 h3
  subst h2 h3
  exact PySem.W.kia_tup (PySem.W.kitx_exc (clsIn_of C) C.hg C.hk C.hs C.ha C.hn C.ht C.hm) I.kIn J h1 e (fun z => nomatch z) fun tk => ⟨.bl b, H, I.kept (t' := tk) fun _ _ z => z, rfl, q⟩
/-- e.f, e such an exception -/
def tFldK (K : PySem.W.Frag) (f : Str) (te : TE) : TE := fun σ H Q => te σ H fun x H1 => ∃ (a C : Addr) (fs : List (Str × V)) (v : V), x = .ref a ∧ ExK H1 a C fs ∧ XfC K C ∧ PySem.W.findIn K (.ref C) f = some none ∧ fs.lookup f = some v ∧ Q v H1
theorem pe_fldK {X : Cx} {e : Expr} {te : TE} {pos : Pos} {n : Str} (he : PE X e te) (hb : attributeBase e n X.env (eval e X.env) = eval e X.env := by rfl) : PE X (.Attribute e n pos) (tFldK X.K n te) := by
  refine ⟨fun pins s σ H Q I h => ?_⟩
  refine attr_of hb (thn (he.run pins s σ H _ I h) fun u s1 hh => ?_)
  obtain ⟨x, H1, I1, rx, a, C, fs, v, ex, hk, T, hno, l, q⟩ := hh
  subst ex
  obtain rfl : u = Value.ref a := rx
  rcases hk with ⟨z, _⟩ | ⟨dd, ea, ed⟩
  · rw [z] at l
    cases l
  · obtain ⟨oe, vs, e0, e1, e2, e3⟩ := exk_at I1.hok ea
    have hx : ObjOk X.prog X.w H1 s1.heap dd (.xd fs) := I1.hok dd _ ed
    obtain ⟨mA, hns, hr⟩ := hx
    obtain ⟨od, ho, hl⟩ := lookIn_ns hns
    obtain ⟨u, hu, ru⟩ := RelO.some_of (v := v) (o := mA n) (by rw [← l]; exact hr n)
    have J : PySem.W.InstAt s1.heap a oe C (some od) := ⟨e0, e1, by unfold PySem.W.notCls; rw [e3] <;> rfl, by rw [e2]; exact ho⟩
    exact HandSPX.exc_get I1.kIn J T.ga T.gg T.exC (PySem.W.findObj_own T.hdC hno rfl (by rw [hl, hu])) (handed_of ru) ⟨v, H1, I1.tok _, ru, q⟩
end Fp

set_option Elab.async false
set_option linter.all false
set_option maxRecDepth 100000
set_option maxHeartbeats 4000000
set_option exponentiation.threshold 10000
namespace Fp
open PySem PySem.Spec PyProof.Rows L2
def topS (i : Nat) : Stmt := PySem.Challenge.pw_freshparts_k09_left_of_a_part.main.body.getD i (.Pass ⟨0, 0, 0, 0⟩)
abbrev s_cd : Stmt := topS 14
theorem sc_cd : FnScope ["one", "other", "great", "small"] ["one", "other"] (defScope s_cd) := ⟨rfl, rfl, rfl, by decide +kernel, rfl, by decide +kernel, by decide +kernel⟩

/-! ### the greatest common divisor -/
theorem abs_if (i : Int) : (if i < 0 then -i else i) = (i.natAbs : Int) := by split <;> omega
theorem gcd_turn {g s : Int} (hs : 0 < s) (hg : 0 ≤ g) : Int.gcd s (g.fmod s) = Int.gcd g s := by
  obtain ⟨n, rfl⟩ := Int.eq_ofNat_of_zero_le hg
  obtain ⟨m, rfl⟩ := Int.eq_ofNat_of_zero_le (Int.le_of_lt hs)
  rw [Int.fmod_eq_emod_of_nonneg _ (Int.le_of_lt hs)]
  show Nat.gcd m ((n : Int) % (m : Int)).natAbs = Nat.gcd n m
  rw [show ((n : Int) % (m : Int)) = ((n % m : Nat) : Int) from (Int.natCast_emod n m).symm, Int.natAbs_natCast, Nat.gcd_comm n m, Nat.gcd_comm m (n % m)]
  exact (Nat.gcd_rec m n).symm

section
variable {P : Program} {w : World} {K : PySem.W.Frag} {mg : Str → Option Value} {base : Heap}
def spCd : Sp := fun vs H Q _ => ∃ a b : Int, vs = [.int a, .int b] ∧ Q (.int (Int.gcd a b : Nat)) H
theorem ok_cd {f : Addr} {fd : FuncData} {k : Nat} (F : Fun K "common_divisor" "common_divisor" s_cd f fd) (ma : mg "abs" = none) : FnOk P w K mg base CX0 (k + 1) f fd ["one", "other"] spCd := by
  refine F.ok sc_cd (fun vs H Q E h => ?_) (fun cdv A outer s H vs Q E hr h => ?_)
  · obtain ⟨a, b, rfl, _⟩ := h
    rfl
  · obtain ⟨a, b, rfl, q⟩ := h
    refine ⟨_, pss_cons (ps_par (i := 2) (j := 3) rfl sc_cd.nd rfl rfl (by decide) rfl rfl (pa_cons (pe_callB call_abs (by rfl) ma (by decide +kernel) (pa_cons (pv 0) pa_nil)) (pa_cons (pe_callB call_abs (by rfl) ma (by decide +kernel) (pa_cons (pv 1) pa_nil)) pa_nil)) (by rfl))
      (pss_cons (ps_while PassesOwn.never (pt_cmpR op_ne (pv 3) pe_int (nomark _)) (pss_one (ps_par (i := 2) (j := 3) rfl sc_cd.nd rfl rfl (by decide) rfl rfl (pa_cons (pv 3) (pa_cons (pe_op op_modN (pv 2) (pv 3)) pa_nil)) (by rfl))))
      (pss_one (ps_ret (pv 2)))), ?_⟩
    refine ⟨_, rfl, a, rfl, _, rfl, b, rfl, _, _, rfl, ?_⟩
    refine while_by (fun σ H1 => H1 = H ∧ ∃ g s : Int, σ = [some (.int a), some (.int b), some (.int g), some (.int s)] ∧ 0 ≤ g ∧ 0 ≤ s ∧ Int.gcd g s = Int.gcd a b)
      (fun σ _ => match σ with | [_, _, _, some (.int s)] => s.toNat | _ => 0) ?_ ?_ ?_
    · refine ⟨rfl, _, _, rfl, ?_, ?_, ?_⟩
      · rw [abs_if]; omega
      · rw [abs_if]; omega
      · rw [abs_if, abs_if]
        show Nat.gcd _ _ = Nat.gcd _ _
        rw [Int.natAbs_natCast, Int.natAbs_natCast]
    · rintro σ H1 ⟨rfl, g, s, rfl, hg, hs, e⟩
      refine ⟨_, rfl, rfl, _, rfl, ite2 (fun c => ?_) (fun c => ?_)⟩
      · have hs0 : s ≠ 0 := fun z => by
          rw [z] at c
          exact absurd c (by decide)
        have hp : 0 < s := by omega
        have lt : s > g.fmod s := Int.fmod_lt_of_pos g hp
        have nn : 0 ≤ g.fmod s := Int.fmod_nonneg_of_pos g hp
        refine ⟨_, rfl, _, rfl, _, rfl, g, s, rfl, rfl, hs0, _, _, rfl, ⟨rfl, s, g.fmod s, rfl, hs, nn, ?_⟩, ?_⟩
        · rw [gcd_turn hp hg]; exact e
        · show (g.fmod s).toNat < s.toNat
          omega
      · have hs0 : s = 0 := by
          rcases Classical.em (s = 0) with z | z
          · exact z
          · exact absurd (show (!decide (V.int s = V.int 0)) = true by simp [z]) c
        subst hs0
        refine ⟨_, rfl, ?_⟩
        have eg : g = ((Int.gcd a b : Nat) : Int) := by
          rw [← e, Int.gcd_zero_right]
          omega
        rw [eg]
        exact q
    · intro σ H1 Q1 Q2 hq h
      obtain ⟨v, e1, e2, k, e3, h⟩ := h
      exact ⟨v, e1, e2, k, e3, hq _ _ h⟩
end

end Fp

set_option Elab.async false
set_option linter.all false
set_option maxRecDepth 100000
set_option maxHeartbeats 4000000
set_option exponentiation.threshold 10000
namespace Fp
open PySem PySem.Spec PyProof.Rows L2
/-! ### ratio -/
def ratG (t b : Int) : Int := if b < 0 then -((Int.gcd t b : Nat) : Int) else ((Int.gcd t b : Nat) : Int)
def ratT (t b : Int) : Int := t.fdiv (ratG t b)
def ratB (t b : Int) : Int := b.fdiv (ratG t b)
theorem gcd_le {t b : Int} (h : b ≠ 0) : 0 < Int.gcd t b ∧ Int.gcd t b ≤ b.natAbs := by
  have hb : 0 < b.natAbs := by omega
  exact ⟨Nat.gcd_pos_of_pos_right _ hb, Nat.gcd_le_right _ hb⟩
theorem ratG_ok {t b : Int} {n : Nat} (h : b ≠ 0) (hb : b.natAbs < 2 ^ n) (hn : n ≤ 9000) (h0 : 0 < n) : CDivA t (ratG t b) ∧ CDivA b (ratG t b) := by
  obtain ⟨h1, h2⟩ := gcd_le (t := t) h
  have e : (ratG t b).natAbs = Int.gcd t b := by
    unfold ratG
    split <;> omega
  have ne : ratG t b ≠ 0 := by omega
  have l : (ratG t b).natAbs.log2 < 9000 := by
    rw [e]
    exact Nat.lt_of_lt_of_le ((Nat.log2_lt (by omega)).mpr (Nat.lt_of_le_of_lt h2 hb)) hn
  exact ⟨⟨ne, l⟩, ⟨ne, l⟩⟩

end Fp

set_option Elab.async false
set_option linter.all false
set_option maxRecDepth 100000
set_option maxHeartbeats 4000000
set_option exponentiation.threshold 10000
namespace Fp
open PySem PySem.Spec PyProof.Rows L2
/-! ### the refusals -/
/-- where the classes stand -/
structure EC where
  F : Addr
  N : Addr
  A : Addr
  B : Addr
  P : Addr
  T : Addr
  X : Addr
  L : Addr
  M : Addr
  R : Addr
/-- what the written part says of such a class, all at once -/
def errB (K : PySem.W.Frag) (C : Addr) : Bool :=
  decide (PySem.W.findIn K (.ref C) "__setattr__" = some (some (.builtin "object.__setattr__"))) && (decide (PySem.W.subIn K (.ref C) (.type "BaseException") = some true) && (decide (PySem.W.typeIn K (.ref C) = some (.type "type")) && (PySem.W.keepIn K (.ref C) && (PySem.W.hasDictIn K C && (PySem.W.isClsIn K C &&
  (decide (PySem.W.findIn K (.ref C) "__getattribute__" = some (some (.builtin "BaseException.__getattribute__"))) && (decide (PySem.W.findIn K (.ref C) "__getattr__" = some none) && (decide (PySem.W.findIn K (.ref C) "__class__" = some (some (.builtin "object.__class__"))) &&
  (decide (PySem.W.specialIn K (.builtin "object.__class__") "__get__" = some (some (.builtin "getset_descriptor.__get__"))) && (decide (PySem.W.takesIn K (.builtin "object.__class__") = some true) && decide (PySem.W.mroIn K C (.type "object") = some true)))))))))))
theorem errB_ok {K : PySem.W.Frag} {C : Addr} (h : errB K C = true) : ExcC K C ∧ XfC K C ∧ PySem.W.findIn K (.ref C) "__setattr__" = some (some (.builtin "object.__setattr__")) ∧ PySem.W.typeIn K (.ref C) = some (.type "type") ∧ PySem.W.keepIn K (.ref C) = true ∧ PySem.W.isClsIn K C = true := by
  unfold errB at h
  simp only [Bool.and_eq_true, decide_eq_true_eq] at h
  obtain ⟨h1, h2, h3, h4, h5, h6, h7, h8, h9, h10, h11, h12⟩ := h
  exact ⟨⟨h7, h8, h2, h5, h9, h10, h11, h12⟩, ⟨h7, h8, h2, h5⟩, h1, h3, h4, h6⟩
/-- what isinstance tells of an instance of D, class by class -/
def kitsB (K : PySem.W.Frag) (D : Addr) (l : List (Value × Bool)) : Bool := l.all fun p => decide (PySem.W.kitOne K (.ref D) p.1 = some p.2)
theorem kits_at {K : PySem.W.Frag} {D : Addr} {l : List (Value × Bool)} (h : kitsB K D l = true) {c : Value} {b : Bool} (m : (c, b) ∈ l) : PySem.W.kitOne K (.ref D) c = some b := by
  unfold kitsB at h
  exact of_decide_eq_true (List.all_eq_true.mp h _ m)
theorem kits_none {K : PySem.W.Frag} {D : Addr} {l : List (Value × Bool)} (h : kitsB K D l = true) : ∀ (cs : List Value), (∀ c ∈ cs, (c, false) ∈ l) → PySem.W.kitAny K (.ref D) cs = some false
  | [], _ => rfl
  | c :: cs, m => kitAny_cons (kits_at h (m c (List.mem_cons_self ..))) (fun _ => kits_none h cs fun d hd => m d (List.mem_cons_of_mem _ hd)) (fun z => nomatch z)
section
variable {P : Program} {w : World} {K : PySem.W.Frag} {mg : Str → Option Value} {base : Heap}
abbrev s_iF : Stmt := inClass (topS 1) 0
theorem sc_iF : FnScope ["self", "text"] ["self", "text"] (defScope s_iF) := ⟨rfl, rfl, rfl, by decide +kernel, rfl, by decide +kernel, by decide +kernel⟩
/-- the base of them all -/
structure ErrF (K : PySem.W.Frag) (mg : Str → Option Value) (CF fF : Addr) (fdF : FuncData) : Prop where
  g : mg "FreshError" = some (.ref CF)
  c : ClsFn K CF "__init__" fF
  F : Fun K "__init__" "FreshError.__init__" s_iF fF fdF
  b : Binds K fdF ["self", "text"] []
  mV : mg "ValueError" = none
  vV : PySem.W.findCls K (.type "ValueError") (.type "type") "__init__" = some (.val (.builtin "ValueError.__init__"))
theorem ok_iF {CF fF : Addr} {fdF : FuncData} (T : ErrF K mg CF fF fdF) : FnOk P w K mg base CX0 1 fF fdF ["self", "text"] (spIni1 K) := by
  refine T.F.ok sc_iF (fun vs H Q E h => ?_) (fun cdv A outer s H vs Q E hr h => ?_)
  · obtain ⟨a, C, y, rfl, _⟩ := h
    rfl
  · obtain ⟨a, C, y, rfl, o, ea, q⟩ := h
    refine ⟨_, pss_one (ps_expr (pe_veinit (by rfl) T.mV T.vV (pa_cons (pv 0) (pa_cons (pv 1) pa_nil)))), ?_⟩
    exact ⟨_, rfl, _, rfl, a, C, [y], rfl, by show 1 ≤ 1000; decide, o, ea, q⟩
/-- a class over it -/
structure ErrC (K : PySem.W.Frag) (mg : Str → Option Value) (x qual : Str) (st : Stmt) (ps : List Str) (C f : Addr) (fd : FuncData) : Prop where
  g : mg x = some (.ref C)
  o : OexC K C
  i : PySem.W.findIn K (.ref C) "__init__" = some (some (.ref f))
  t : PySem.W.typeIn K (.ref f) = some (.type "function")
  F : Fun K "__init__" qual st f fd
  b : Binds K fd ps []
  x : errB K C = true
theorem ErrC.xc {x qual : Str} {st : Stmt} {ps : List Str} {C f : Addr} {fd : FuncData} (T : ErrC K mg x qual st ps C f fd) : ExcC K C := (errB_ok T.x).1
theorem ErrC.xf {x qual : Str} {st : Stmt} {ps : List Str} {C f : Addr} {fd : FuncData} (T : ErrC K mg x qual st ps C f fd) : XfC K C := (errB_ok T.x).2.1
/-- the promises of their __init__: nothing, one field, two -/
def spI1 (K : PySem.W.Frag) (f : Str) : Sp := fun vs H Q _ => ∃ (a C : Addr) (y : V), vs = [.ref a, y] ∧ OexC K C ∧ PySem.W.findIn K (.ref C) f = some none ∧ H a = some (exo a C none) ∧
  ∀ d, H d = none → d ≠ a → Q .non (upd (upd H d (exd d [(f, y)])) a (exo a C (some d)))
def spI2 (K : PySem.W.Frag) (f1 f2 : Str) : Sp := fun vs H Q _ => ∃ (a C : Addr) (y z : V), vs = [.ref a, y, z] ∧ OexC K C ∧ PySem.W.findIn K (.ref C) f1 = some none ∧ PySem.W.findIn K (.ref C) f2 = some none ∧ H a = some (exo a C none) ∧
  ∀ d, H d = none → d ≠ a → Q .non (upd (upd (upd H d (exd d [(f1, y)])) a (exo a C (some d))) d (exd d [(f2, z), (f1, y)]))
theorem exc_eq {H : Hp} {a C d : Addr} {fs : List (Str × V)} {fo : HO} {G : Hp} (na : H a = none) (nd : d ≠ a) (hG : ∀ b, b ≠ a → b ≠ d → G b = H b) : upd (del G a) d (.xd fs) = upd H d (.xd fs) := by
  funext b
  by_cases e : b = d
  · rw [e, upd_same, upd_same]
  · rw [upd_ne e, upd_ne e]
    by_cases e2 : b = a
    · rw [e2, del_same, na]
    · rw [del_ne e2]
      exact hG b e2 e
/-- C(y) raised -/
theorem raise1 {C : Addr} {f : Str} {y : V} {H : Hp} {W : XK} (o : OexC K C) (no : PySem.W.findIn K (.ref C) f = some none) (q : ∀ d, H d = none → W (.ref C) (some d) (upd H d (.xd [(f, y)]))) :
    [y].length ≤ 1000 ∧ ∀ a, H a = none → spI1 K f (.ref a :: ([y] ++ [])) (upd H a (exo a C none)) (fun v H2 => v = .non ∧ ∃ (d : Addr) (fs : List (Str × V)), H2 a = some (exo a C (some d)) ∧ H2 d = some (exd d fs) ∧ H d = none ∧ W (.ref C) (some d) (upd (del H2 a) d (.xd fs))) (fun _ _ _ => False) := by
  refine ⟨by show 1 ≤ 1000; decide, fun a na => ⟨a, C, y, rfl, o, no, upd_same, fun d nd ne => ?_⟩⟩
  have nd0 : H d = none := by
    rw [upd_ne ne] at nd
    exact nd
  refine ⟨rfl, d, [(f, y)], upd_same, by rw [upd_ne ne, upd_same], nd0, ?_⟩
  rw [exc_eq (H := H) (fo := .xd []) (C := C) na ne fun b h1 h2 => by rw [upd_ne h1, upd_ne h2, upd_ne h1]]
  exact q d nd0
/-- C(y, z) raised -/
theorem raise2 {C : Addr} {f1 f2 : Str} {y z : V} {H : Hp} {W : XK} (o : OexC K C) (no1 : PySem.W.findIn K (.ref C) f1 = some none) (no2 : PySem.W.findIn K (.ref C) f2 = some none) (q : ∀ d, H d = none → W (.ref C) (some d) (upd H d (.xd [(f2, z), (f1, y)]))) :
    [y, z].length ≤ 1000 ∧ ∀ a, H a = none → spI2 K f1 f2 (.ref a :: ([y, z] ++ [])) (upd H a (exo a C none)) (fun v H2 => v = .non ∧ ∃ (d : Addr) (fs : List (Str × V)), H2 a = some (exo a C (some d)) ∧ H2 d = some (exd d fs) ∧ H d = none ∧ W (.ref C) (some d) (upd (del H2 a) d (.xd fs))) (fun _ _ _ => False) := by
  refine ⟨by show 2 ≤ 1000; decide, fun a na => ⟨a, C, y, z, rfl, o, no1, no2, upd_same, fun d nd ne => ?_⟩⟩
  have nd0 : H d = none := by
    rw [upd_ne ne] at nd
    exact nd
  refine ⟨rfl, d, [(f2, z), (f1, y)], by rw [upd_ne (Ne.symm ne), upd_same], upd_same, nd0, ?_⟩
  rw [exc_eq (H := H) (fo := .xd []) (C := C) na ne fun b h1 h2 => by rw [upd_ne h2, upd_ne h1, upd_ne h2, upd_ne h1]]
  exact q d nd0
end
section
variable {P : Program} {w : World} {K : PySem.W.Frag} {mg : Str → Option Value} {base : Heap} {CF fF C f : Addr} {fdF fd : FuncData}
abbrev s_iN : Stmt := inClass (topS 2) 0
theorem sc_iN : FnScope ["self"] ["self"] (defScope s_iN) := ⟨rfl, rfl, rfl, by decide +kernel, rfl, by decide +kernel, by decide +kernel⟩
abbrev ErrN (K : PySem.W.Frag) (mg : Str → Option Value) (C f : Addr) (fd : FuncData) : Prop := ErrC K mg "NoRatio" "NoRatio.__init__" s_iN ["self"] C f fd
theorem ok_iN (TF : ErrF K mg CF fF fdF) (T : ErrN K mg C f fd) : FnOk P w K mg base CX0 2 f fd ["self"] (spIni K) := by
  refine T.F.ok sc_iN (fun vs H Q E h => ?_) (fun cdv A outer s H vs Q E hr h => ?_)
  · obtain ⟨a, C, rfl, _⟩ := h
    rfl
  · obtain ⟨a, C, rfl, o, ea, q⟩ := h
    refine ⟨_, pss_one (ps_expr (pe_clsfn TF.c (ok_iF TF) hr (by rfl) TF.g TF.b pass0 (pa_cons (pv 0) (pa_cons pe_str pa_nil)))), ?_⟩
    exact ⟨_, rfl, a, C, _, rfl, o, ea, q⟩
abbrev s_iA : Stmt := inClass (topS 3) 0
theorem sc_iA : FnScope ["self", "age"] ["self", "age"] (defScope s_iA) := ⟨rfl, rfl, rfl, by decide +kernel, rfl, by decide +kernel, by decide +kernel⟩
abbrev ErrA (K : PySem.W.Frag) (mg : Str → Option Value) (C f : Addr) (fd : FuncData) : Prop := ErrC K mg "NoAge" "NoAge.__init__" s_iA ["self", "age"] C f fd
theorem ok_iA (TF : ErrF K mg CF fF fdF) (T : ErrA K mg C f fd) : FnOk P w K mg base CX0 2 f fd ["self", "age"] (spI1 K "age") := by
  refine T.F.ok sc_iA (fun vs H Q E h => ?_) (fun cdv A outer s H vs Q E hr h => ?_)
  · obtain ⟨a, C, y, rfl, _⟩ := h
    rfl
  · obtain ⟨a, C, y, rfl, o, no, ea, q⟩ := h
    refine ⟨_, pss_cons (ps_expr (pe_clsfn TF.c (ok_iF TF) hr (by rfl) TF.g TF.b pass0 (pa_cons (pv 0) (pa_cons pe_str pa_nil)))) (pss_one (ps_ost (pv 0) (pv 1))), ?_⟩
    refine ⟨_, rfl, a, C, _, rfl, o, ea, _, rfl, _, rfl, a, C, rfl, o, no, .inl ⟨ea, fun d nd ne => q d nd ne⟩⟩
abbrev s_iB : Stmt := inClass (topS 4) 0
theorem sc_iB : FnScope ["self", "beat"] ["self", "beat"] (defScope s_iB) := ⟨rfl, rfl, rfl, by decide +kernel, rfl, by decide +kernel, by decide +kernel⟩
abbrev ErrB (K : PySem.W.Frag) (mg : Str → Option Value) (C f : Addr) (fd : FuncData) : Prop := ErrC K mg "NoBeat" "NoBeat.__init__" s_iB ["self", "beat"] C f fd
theorem ok_iB (TF : ErrF K mg CF fF fdF) (T : ErrB K mg C f fd) : FnOk P w K mg base CX0 2 f fd ["self", "beat"] (spI1 K "beat") := by
  refine T.F.ok sc_iB (fun vs H Q E h => ?_) (fun cdv A outer s H vs Q E hr h => ?_)
  · obtain ⟨a, C, y, rfl, _⟩ := h
    rfl
  · obtain ⟨a, C, y, rfl, o, no, ea, q⟩ := h
    refine ⟨_, pss_cons (ps_expr (pe_clsfn TF.c (ok_iF TF) hr (by rfl) TF.g TF.b pass0 (pa_cons (pv 0) (pa_cons pe_str pa_nil)))) (pss_one (ps_ost (pv 0) (pv 1))), ?_⟩
    refine ⟨_, rfl, a, C, _, rfl, o, ea, _, rfl, _, rfl, a, C, rfl, o, no, .inl ⟨ea, fun d nd ne => q d nd ne⟩⟩
abbrev s_iP : Stmt := inClass (topS 5) 0
theorem sc_iP : FnScope ["self", "word", "place"] ["self", "word", "place"] (defScope s_iP) := ⟨rfl, rfl, rfl, by decide +kernel, rfl, by decide +kernel, by decide +kernel⟩
abbrev ErrP (K : PySem.W.Frag) (mg : Str → Option Value) (C f : Addr) (fd : FuncData) : Prop := ErrC K mg "NoPaper" "NoPaper.__init__" s_iP ["self", "word", "place"] C f fd
theorem ok_iP (TF : ErrF K mg CF fF fdF) (T : ErrP K mg C f fd) : FnOk P w K mg base CX0 2 f fd ["self", "word", "place"] (spI2 K "word" "place") := by
  refine T.F.ok sc_iP (fun vs H Q E h => ?_) (fun cdv A outer s H vs Q E hr h => ?_)
  · obtain ⟨a, C, y, z, rfl, _⟩ := h
    rfl
  · obtain ⟨a, C, y, z, rfl, o, no1, no2, ea, q⟩ := h
    refine ⟨_, pss_cons (ps_expr (pe_clsfn TF.c (ok_iF TF) hr (by rfl) TF.g TF.b pass0 (pa_cons (pv 0) (pa_cons pe_str pa_nil)))) (pss_cons (ps_ost (pv 0) (pv 1)) (pss_one (ps_ost (pv 0) (pv 2)))), ?_⟩
    refine ⟨_, rfl, a, C, _, rfl, o, ea, _, rfl, _, rfl, a, C, rfl, o, no1, .inl ⟨ea, fun d nd ne => ?_⟩⟩
    exact ⟨_, rfl, _, rfl, a, C, rfl, o, no2, .inr ⟨d, _, upd_same, by rw [upd_ne ne, upd_same], by show 1 ≤ 900; decide, q d nd ne⟩⟩
abbrev s_iT : Stmt := inClass (topS 6) 0
theorem sc_iT : FnScope ["self", "word"] ["self", "word"] (defScope s_iT) := ⟨rfl, rfl, rfl, by decide +kernel, rfl, by decide +kernel, by decide +kernel⟩
abbrev ErrT (K : PySem.W.Frag) (mg : Str → Option Value) (C f : Addr) (fd : FuncData) : Prop := ErrC K mg "TooMany" "TooMany.__init__" s_iT ["self", "word"] C f fd
theorem ok_iT (TF : ErrF K mg CF fF fdF) (T : ErrT K mg C f fd) : FnOk P w K mg base CX0 2 f fd ["self", "word"] (spI1 K "word") := by
  refine T.F.ok sc_iT (fun vs H Q E h => ?_) (fun cdv A outer s H vs Q E hr h => ?_)
  · obtain ⟨a, C, y, rfl, _⟩ := h
    rfl
  · obtain ⟨a, C, y, rfl, o, no, ea, q⟩ := h
    refine ⟨_, pss_cons (ps_expr (pe_clsfn TF.c (ok_iF TF) hr (by rfl) TF.g TF.b pass0 (pa_cons (pv 0) (pa_cons pe_str pa_nil)))) (pss_one (ps_ost (pv 0) (pv 1))), ?_⟩
    refine ⟨_, rfl, a, C, _, rfl, o, ea, _, rfl, _, rfl, a, C, rfl, o, no, .inl ⟨ea, fun d nd ne => q d nd ne⟩⟩
abbrev s_iX : Stmt := inClass (topS 7) 0
theorem sc_iX : FnScope ["self", "at"] ["self", "at"] (defScope s_iX) := ⟨rfl, rfl, rfl, by decide +kernel, rfl, by decide +kernel, by decide +kernel⟩
abbrev ErrX (K : PySem.W.Frag) (mg : Str → Option Value) (C f : Addr) (fd : FuncData) : Prop := ErrC K mg "NoText" "NoText.__init__" s_iX ["self", "at"] C f fd
theorem ok_iX (TF : ErrF K mg CF fF fdF) (T : ErrX K mg C f fd) : FnOk P w K mg base CX0 2 f fd ["self", "at"] (spI1 K "at") := by
  refine T.F.ok sc_iX (fun vs H Q E h => ?_) (fun cdv A outer s H vs Q E hr h => ?_)
  · obtain ⟨a, C, y, rfl, _⟩ := h
    rfl
  · obtain ⟨a, C, y, rfl, o, no, ea, q⟩ := h
    refine ⟨_, pss_cons (ps_expr (pe_clsfn TF.c (ok_iF TF) hr (by rfl) TF.g TF.b pass0 (pa_cons (pv 0) (pa_cons pe_str pa_nil)))) (pss_one (ps_ost (pv 0) (pv 1))), ?_⟩
    refine ⟨_, rfl, a, C, _, rfl, o, ea, _, rfl, _, rfl, a, C, rfl, o, no, .inl ⟨ea, fun d nd ne => q d nd ne⟩⟩
abbrev s_iL : Stmt := inClass (topS 8) 0
theorem sc_iL : FnScope ["self", "row", "word"] ["self", "row", "word"] (defScope s_iL) := ⟨rfl, rfl, rfl, by decide +kernel, rfl, by decide +kernel, by decide +kernel⟩
abbrev ErrL (K : PySem.W.Frag) (mg : Str → Option Value) (C f : Addr) (fd : FuncData) : Prop := ErrC K mg "NoLines" "NoLines.__init__" s_iL ["self", "row", "word"] C f fd
theorem ok_iL (TF : ErrF K mg CF fF fdF) (T : ErrL K mg C f fd) : FnOk P w K mg base CX0 2 f fd ["self", "row", "word"] (spI2 K "row" "word") := by
  refine T.F.ok sc_iL (fun vs H Q E h => ?_) (fun cdv A outer s H vs Q E hr h => ?_)
  · obtain ⟨a, C, y, z, rfl, _⟩ := h
    rfl
  · obtain ⟨a, C, y, z, rfl, o, no1, no2, ea, q⟩ := h
    refine ⟨_, pss_cons (ps_expr (pe_clsfn TF.c (ok_iF TF) hr (by rfl) TF.g TF.b pass0 (pa_cons (pv 0) (pa_cons pe_str pa_nil)))) (pss_cons (ps_ost (pv 0) (pv 1)) (pss_one (ps_ost (pv 0) (pv 2)))), ?_⟩
    refine ⟨_, rfl, a, C, _, rfl, o, ea, _, rfl, _, rfl, a, C, rfl, o, no1, .inl ⟨ea, fun d nd ne => ?_⟩⟩
    exact ⟨_, rfl, _, rfl, a, C, rfl, o, no2, .inr ⟨d, _, upd_same, by rw [upd_ne ne, upd_same], by show 1 ≤ 900; decide, q d nd ne⟩⟩
abbrev s_iM : Stmt := inClass (topS 9) 0
theorem sc_iM : FnScope ["self", "name"] ["self", "name"] (defScope s_iM) := ⟨rfl, rfl, rfl, by decide +kernel, rfl, by decide +kernel, by decide +kernel⟩
abbrev ErrM (K : PySem.W.Frag) (mg : Str → Option Value) (C f : Addr) (fd : FuncData) : Prop := ErrC K mg "NoName" "NoName.__init__" s_iM ["self", "name"] C f fd
theorem ok_iM (TF : ErrF K mg CF fF fdF) (T : ErrM K mg C f fd) : FnOk P w K mg base CX0 2 f fd ["self", "name"] (spI1 K "name") := by
  refine T.F.ok sc_iM (fun vs H Q E h => ?_) (fun cdv A outer s H vs Q E hr h => ?_)
  · obtain ⟨a, C, y, rfl, _⟩ := h
    rfl
  · obtain ⟨a, C, y, rfl, o, no, ea, q⟩ := h
    refine ⟨_, pss_cons (ps_expr (pe_clsfn TF.c (ok_iF TF) hr (by rfl) TF.g TF.b pass0 (pa_cons (pv 0) (pa_cons pe_str pa_nil)))) (pss_one (ps_ost (pv 0) (pv 1))), ?_⟩
    refine ⟨_, rfl, a, C, _, rfl, o, ea, _, rfl, _, rfl, a, C, rfl, o, no, .inl ⟨ea, fun d nd ne => q d nd ne⟩⟩
abbrev s_iR : Stmt := inClass (topS 10) 0
theorem sc_iR : FnScope ["self", "row"] ["self", "row"] (defScope s_iR) := ⟨rfl, rfl, rfl, by decide +kernel, rfl, by decide +kernel, by decide +kernel⟩
abbrev ErrR (K : PySem.W.Frag) (mg : Str → Option Value) (C f : Addr) (fd : FuncData) : Prop := ErrC K mg "NoRow" "NoRow.__init__" s_iR ["self", "row"] C f fd
theorem ok_iR (TF : ErrF K mg CF fF fdF) (T : ErrR K mg C f fd) : FnOk P w K mg base CX0 2 f fd ["self", "row"] (spI1 K "row") := by
  refine T.F.ok sc_iR (fun vs H Q E h => ?_) (fun cdv A outer s H vs Q E hr h => ?_)
  · obtain ⟨a, C, y, rfl, _⟩ := h
    rfl
  · obtain ⟨a, C, y, rfl, o, no, ea, q⟩ := h
    refine ⟨_, pss_cons (ps_expr (pe_clsfn TF.c (ok_iF TF) hr (by rfl) TF.g TF.b pass0 (pa_cons (pv 0) (pa_cons pe_str pa_nil)))) (pss_one (ps_ost (pv 0) (pv 1))), ?_⟩
    refine ⟨_, rfl, a, C, _, rfl, o, ea, _, rfl, _, rfl, a, C, rfl, o, no, .inl ⟨ea, fun d nd ne => q d nd ne⟩⟩
end
/-- the names of the classes, all of them -/
structure ErrG (mg : Str → Option Value) (e : EC) : Prop where
  F : mg "FreshError" = some (.ref e.F)
  N : mg "NoRatio" = some (.ref e.N)
  A : mg "NoAge" = some (.ref e.A)
  B : mg "NoBeat" = some (.ref e.B)
  P : mg "NoPaper" = some (.ref e.P)
  T : mg "TooMany" = some (.ref e.T)
  X : mg "NoText" = some (.ref e.X)
  L : mg "NoLines" = some (.ref e.L)
  M : mg "NoName" = some (.ref e.M)
  R : mg "NoRow" = some (.ref e.R)
def ktsN (e : EC) : List (Value × Bool) := [(.ref e.F, true), (.ref e.N, true), (.ref e.A, false), (.ref e.B, false), (.ref e.P, false), (.ref e.T, false), (.ref e.X, false), (.ref e.L, false), (.ref e.M, false), (.ref e.R, false), (.type "ValueError", true)]
def ktsA (e : EC) : List (Value × Bool) := [(.ref e.F, true), (.ref e.N, false), (.ref e.A, true), (.ref e.B, false), (.ref e.P, false), (.ref e.T, false), (.ref e.X, false), (.ref e.L, false), (.ref e.M, false), (.ref e.R, false), (.type "ValueError", true)]
def ktsB (e : EC) : List (Value × Bool) := [(.ref e.F, true), (.ref e.N, false), (.ref e.A, false), (.ref e.B, true), (.ref e.P, false), (.ref e.T, false), (.ref e.X, false), (.ref e.L, false), (.ref e.M, false), (.ref e.R, false), (.type "ValueError", true)]
def ktsP (e : EC) : List (Value × Bool) := [(.ref e.F, true), (.ref e.N, false), (.ref e.A, false), (.ref e.B, false), (.ref e.P, true), (.ref e.T, false), (.ref e.X, false), (.ref e.L, false), (.ref e.M, false), (.ref e.R, false), (.type "ValueError", true)]
def ktsT (e : EC) : List (Value × Bool) := [(.ref e.F, true), (.ref e.N, false), (.ref e.A, false), (.ref e.B, false), (.ref e.P, false), (.ref e.T, true), (.ref e.X, false), (.ref e.L, false), (.ref e.M, false), (.ref e.R, false), (.type "ValueError", true)]
def ktsX (e : EC) : List (Value × Bool) := [(.ref e.F, true), (.ref e.N, false), (.ref e.A, false), (.ref e.B, false), (.ref e.P, false), (.ref e.T, false), (.ref e.X, true), (.ref e.L, false), (.ref e.M, false), (.ref e.R, false), (.type "ValueError", true)]
def ktsL (e : EC) : List (Value × Bool) := [(.ref e.F, true), (.ref e.N, false), (.ref e.A, false), (.ref e.B, false), (.ref e.P, false), (.ref e.T, false), (.ref e.X, false), (.ref e.L, true), (.ref e.M, false), (.ref e.R, false), (.type "ValueError", true)]
def ktsM (e : EC) : List (Value × Bool) := [(.ref e.F, true), (.ref e.N, false), (.ref e.A, false), (.ref e.B, false), (.ref e.P, false), (.ref e.T, false), (.ref e.X, false), (.ref e.L, false), (.ref e.M, true), (.ref e.R, false), (.type "ValueError", true)]
def ktsR (e : EC) : List (Value × Bool) := [(.ref e.F, true), (.ref e.N, false), (.ref e.A, false), (.ref e.B, false), (.ref e.P, false), (.ref e.T, false), (.ref e.X, false), (.ref e.L, false), (.ref e.M, false), (.ref e.R, true), (.type "ValueError", true)]

end Fp

set_option Elab.async false
set_option linter.all false
set_option maxRecDepth 100000
set_option maxHeartbeats 4000000
set_option exponentiation.threshold 10000
namespace Fp
open PySem PySem.Spec PyProof.Rows L2
abbrev s_ratio : Stmt := topS 15
theorem sc_ratio : FnScope ["top", "bottom", "divisor"] ["top", "bottom"] (defScope s_ratio) := ⟨rfl, rfl, rfl, by decide +kernel, rfl, by decide +kernel, by decide +kernel⟩
section
variable {P : Program} {w : World} {K : PySem.W.Frag} {mg : Str → Option Value} {base : Heap}
def spRat0 : Sp := fun vs H Q _ => ∃ (t b : Int), vs = [.int t, .int b] ∧ b.natAbs < 2 ^ 8000 ∧ b ≠ 0 ∧ ∀ p, H p = none → Q (.ref p) (upd H p (.tup [.int (ratT t b), .int (ratB t b)]))
theorem ok_ratio {f fC : Addr} {fd fdC : FuncData} (F : Fun K "ratio" "ratio" s_ratio f fd) (FC : Fun K "common_divisor" "common_divisor" s_cd fC fdC) (bC : Binds K fdC ["one", "other"] [])
    (gC : mg "common_divisor" = some (.ref fC)) (ma : mg "abs" = none) : FnOk P w K mg base CX0 2 f fd ["top", "bottom"] spRat0 := by
  have GC : FnOk P w K mg base CX0 1 fC fdC ["one", "other"] spCd := ok_cd FC ma
  refine F.ok sc_ratio (fun vs H Q E h => ?_) (fun cdv A outer s H vs Q E hr h => ?_)
  · obtain ⟨t, b, rfl, _⟩ := h
    rfl
  · obtain ⟨t, b, rfl, hb, h0, q1⟩ := h
    refine ⟨_, (pss_cons (ps_if (pt_cmpR op_eq (pv 1) pe_int (nomark _)) (pss_one ps_never) pss_nil) (pss_cons (ps_set (i := 2) sc_ratio.nd rfl (.inl rfl) (pe_call GC hr (by rfl) gC FC.kp bC .nil pass0 (pa_cons (pv 0) (pa_cons (pv 1) pa_nil)))) (pss_cons (ps_if (pt_cmpR op_lt (pv 1) pe_int (nomark _)) (pss_one (ps_set (i := 2) sc_ratio.nd rfl (.inl rfl) (pe_un un_neg (pv 2)))) pss_nil) (pss_one (ps_ret (pe_tup (pa_cons (pe_op op_fdivA (pv 0) (pv 2)) (pa_cons (pe_op op_fdivA (pv 1) (pv 2)) pa_nil)))))))), ?_⟩
    refine ⟨_, rfl, rfl, _, rfl, ite2 (fun c => ?_) (fun c => ?_)⟩
    · exact absurd (V.int.inj (of_decide_eq_true c)) h0
    · obtain ⟨c1, c2⟩ := ratG_ok (t := t) h0 hb (by decide) (by decide)
      refine ⟨_, rfl, _, rfl, t, b, rfl, ?_⟩
      have fin : ∀ g : Int, g = ratG t b → ∀ p, H p = none → Q (.ref p) (upd H p (.tup [.int (t.fdiv g), .int (b.fdiv g)])) := fun g eg p hp => by
        rw [eg]
        exact q1 p hp
      refine ⟨_, rfl, b, 0, rfl, rfl, _, rfl, ite2 (fun c3 => ?_) (fun c3 => ?_)⟩
      · have hneg : b < 0 := of_decide_eq_true c3
        have eg : -((Int.gcd t b : Nat) : Int) = ratG t b := by unfold ratG; rw [if_pos hneg]
        refine ⟨_, rfl, _, rfl, ?_⟩
        refine ⟨_, rfl, _, rfl, t, _, rfl, rfl, by rw [eg]; exact c1, _, rfl, _, rfl, b, _, rfl, rfl, by rw [eg]; exact c2, by show 2 ≤ sizeLine; decide, fin _ eg⟩
      · have hneg : ¬ b < 0 := fun z => c3 (decide_eq_true z)
        have eg : ((Int.gcd t b : Nat) : Int) = ratG t b := by unfold ratG; rw [if_neg hneg]
        refine ⟨_, rfl, _, rfl, t, _, rfl, rfl, by rw [eg]; exact c1, _, rfl, _, rfl, b, _, rfl, rfl, by rw [eg]; exact c2, by show 2 ≤ sizeLine; decide, fin _ eg⟩
end

end Fp

set_option Elab.async false
set_option linter.all false
set_option maxRecDepth 100000
set_option maxHeartbeats 4000000
set_option exponentiation.threshold 10000
namespace Fp
open PySem PySem.Spec PyProof.Rows L2
/-! ### two ratios reckoned -/
theorem sqT_same {K : PySem.W.Frag} {H H' : Hp} {a : Addr} {xs : List V} (e : Same H H') (h : SqT K H a xs) : SqT K H' a xs := by
  rcases h with (h | ⟨o, h⟩) | h
  · exact .inl (.inl (e _ _ h))
  · exact .inl (.inr ⟨o, e _ _ h⟩)
  · exact .inr h
theorem same_new {H : Hp} {p : Addr} {o : HO} (h : H p = none) : Same H (upd H p o) := fun b x z => by
  rw [upd_ne (ne_of_none z h)]
  exact z
/-- bounds of what is multiplied -/
def Sm (n : Nat) (a : Int) : Prop := a.natAbs < 2 ^ n
theorem Sm.log {n : Nat} {a : Int} (h : Sm n a) (h0 : 0 < n) : a.natAbs.log2 < n := by
  rcases Nat.eq_zero_or_pos a.natAbs with z | z
  · rw [z]; simpa using h0
  · exact (Nat.log2_lt (by omega)).mpr h
theorem Sm.mul {n m : Nat} {a b : Int} (ha : Sm n a) (hb : Sm m b) : Sm (n + m) (a * b) := by
  unfold Sm at *
  rw [Int.natAbs_mul, Nat.pow_add]
  exact Nat.mul_lt_mul'' ha hb
theorem Sm.add {n : Nat} {a b : Int} (ha : Sm n a) (hb : Sm n b) : Sm (n + 1) (a + b) := by
  unfold Sm at *
  rw [Nat.pow_succ]
  omega
theorem Sm.sub {n : Nat} {a b : Int} (ha : Sm n a) (hb : Sm n b) : Sm (n + 1) (a - b) := by
  unfold Sm at *
  rw [Nat.pow_succ]
  omega
theorem Sm.mono {n m : Nat} {a : Int} (h : Sm n a) (l : n ≤ m) : Sm m a := Nat.lt_of_lt_of_le h (Nat.pow_le_pow_right (by decide) l)
theorem Sm.cmul {n m : Nat} {a b : Int} (ha : Sm n a) (hb : Sm m b) (h0 : 0 < n) (h1 : 0 < m) (h : n + m ≤ 1000000) : CMulA a b := by
  have x := ha.log h0
  have y := hb.log h1
  unfold CMulA
  omega
/-- at p1 and p2 the ratios a by b, c by d -/
structure Two (K : PySem.W.Frag) (H : Hp) (p1 p2 : Addr) (a b c d : Int) : Prop where
  t1 : SqT K H p1 [.int a, .int b]
  t2 : SqT K H p2 [.int c, .int d]
  sa : Sm 3000 a
  sb : Sm 3000 b
  sc : Sm 3000 c
  sd : Sm 3000 d
  pb : 0 < b
  pd : 0 < d
theorem Two.den {K : PySem.W.Frag} {H : Hp} {p1 p2 : Addr} {a b c d : Int} (h : Two K H p1 p2 a b c d) : 0 < b * d := Int.mul_pos h.pb h.pd
theorem Two.same {K : PySem.W.Frag} {H H' : Hp} {p1 p2 : Addr} {a b c d : Int} (h : Two K H p1 p2 a b c d) (e : Same H H') : Two K H' p1 p2 a b c d := ⟨sqT_same e h.t1, sqT_same e h.t2, h.sa, h.sb, h.sc, h.sd, h.pb, h.pd⟩
def spTwo (K : PySem.W.Frag) (num : Int → Int → Int → Int → Int) : Sp := fun vs H Q _ => ∃ (p1 p2 : Addr) (a b c d : Int), vs = [.ref p1, .ref p2] ∧ Two K H p1 p2 a b c d ∧
  ∀ p, H p = none → Q (.ref p) (upd H p (.tup [.int (ratT (num a b c d) (b * d)), .int (ratB (num a b c d) (b * d))]))

end Fp

set_option Elab.async false
set_option linter.all false
set_option maxRecDepth 100000
set_option maxHeartbeats 4000000
set_option exponentiation.threshold 10000
namespace Fp
open PySem PySem.Spec PyProof.Rows L2
abbrev s_minus : Stmt := topS 16
theorem sc_minus : FnScope ["one", "other"] ["one", "other"] (defScope s_minus) := ⟨rfl, rfl, rfl, by decide +kernel, rfl, by decide +kernel, by decide +kernel⟩
section
variable {P : Program} {w : World} {K : PySem.W.Frag} {mg : Str → Option Value} {base : Heap}
theorem ok_minus {f fR : Addr} {fd fdR : FuncData} (F : Fun K "minus" "minus" s_minus f fd) (FR : Fun K "ratio" "ratio" s_ratio fR fdR) (bR : Binds K fdR ["top", "bottom"] []) (gR : mg "ratio" = some (.ref fR)) (GR : FnOk P w K mg base CX0 2 fR fdR ["top", "bottom"] spRat0) : FnOk P w K mg base CX0 3 f fd ["one", "other"] (spTwo K (fun a b c d => a * d - c * b)) := by
  refine F.ok sc_minus (fun vs H Q E h => ?_) (fun cdv A outer s H vs Q E hr h => ?_)
  · obtain ⟨_, _, _, _, _, _, rfl, _⟩ := h
    rfl
  · obtain ⟨p1, p2, a, b, c, d, rfl, T, q⟩ := h
    refine ⟨_, pss_one (ps_ret (pe_call GR hr (by rfl) gR FR.kp bR .nil pass0 (pa_cons (pe_op op_sub (pe_op op_mulA (pe_ix ix_tup (pv 0) pe_int (fun _ _ => rfl)) (pe_ix ix_tup (pv 1) pe_int (fun _ _ => rfl))) (pe_op op_mulA (pe_ix ix_tup (pv 1) pe_int (fun _ _ => rfl)) (pe_ix ix_tup (pv 0) pe_int (fun _ _ => rfl)))) (pa_cons (pe_op op_mulA (pe_ix ix_tup (pv 0) pe_int (fun _ _ => rfl)) (pe_ix ix_tup (pv 1) pe_int (fun _ _ => rfl))) pa_nil)))), ?_⟩
    refine ⟨_, rfl, p1, _, 0, _, rfl, rfl, T.t1, atI_nat (j := 0) rfl, _, rfl, p2, _, 1, _, rfl, rfl, T.t2, atI_nat (j := 1) rfl, a, d, rfl, rfl, T.sa.cmul T.sd (by decide) (by decide) (by decide), _, rfl, p2, _, 0, _, rfl, rfl, T.t2, atI_nat (j := 0) rfl, _, rfl, p1, _, 1, _, rfl, rfl, T.t1, atI_nat (j := 1) rfl, c, b, rfl, rfl, T.sc.cmul T.sb (by decide) (by decide) (by decide), _, _, rfl, rfl, _, rfl, p1, _, 1, _, rfl, rfl, T.t1, atI_nat (j := 1) rfl, _, rfl, p2, _, 1, _, rfl, rfl, T.t2, atI_nat (j := 1) rfl, b, d, rfl, rfl, T.sb.cmul T.sd (by decide) (by decide) (by decide), ?_⟩
    exact ⟨_, _, rfl, (T.sb.mul T.sd).mono (by decide), Int.ne_of_gt T.den, q⟩
end

end Fp

set_option Elab.async false
set_option linter.all false
set_option maxRecDepth 100000
set_option maxHeartbeats 4000000
set_option exponentiation.threshold 10000
namespace Fp
open PySem PySem.Spec PyProof.Rows L2
abbrev s_times : Stmt := topS 17
theorem sc_times : FnScope ["one", "other"] ["one", "other"] (defScope s_times) := ⟨rfl, rfl, rfl, by decide +kernel, rfl, by decide +kernel, by decide +kernel⟩
section
variable {P : Program} {w : World} {K : PySem.W.Frag} {mg : Str → Option Value} {base : Heap}
theorem ok_times {f fR : Addr} {fd fdR : FuncData} (F : Fun K "times" "times" s_times f fd) (FR : Fun K "ratio" "ratio" s_ratio fR fdR) (bR : Binds K fdR ["top", "bottom"] []) (gR : mg "ratio" = some (.ref fR)) (GR : FnOk P w K mg base CX0 2 fR fdR ["top", "bottom"] spRat0) : FnOk P w K mg base CX0 3 f fd ["one", "other"] (spTwo K (fun a b c d => a * c)) := by
  refine F.ok sc_times (fun vs H Q E h => ?_) (fun cdv A outer s H vs Q E hr h => ?_)
  · obtain ⟨_, _, _, _, _, _, rfl, _⟩ := h
    rfl
  · obtain ⟨p1, p2, a, b, c, d, rfl, T, q⟩ := h
    refine ⟨_, pss_one (ps_ret (pe_call GR hr (by rfl) gR FR.kp bR .nil pass0 (pa_cons (pe_op op_mulA (pe_ix ix_tup (pv 0) pe_int (fun _ _ => rfl)) (pe_ix ix_tup (pv 1) pe_int (fun _ _ => rfl))) (pa_cons (pe_op op_mulA (pe_ix ix_tup (pv 0) pe_int (fun _ _ => rfl)) (pe_ix ix_tup (pv 1) pe_int (fun _ _ => rfl))) pa_nil)))), ?_⟩
    refine ⟨_, rfl, p1, _, 0, _, rfl, rfl, T.t1, atI_nat (j := 0) rfl, _, rfl, p2, _, 0, _, rfl, rfl, T.t2, atI_nat (j := 0) rfl, a, c, rfl, rfl, T.sa.cmul T.sc (by decide) (by decide) (by decide), _, rfl, p1, _, 1, _, rfl, rfl, T.t1, atI_nat (j := 1) rfl, _, rfl, p2, _, 1, _, rfl, rfl, T.t2, atI_nat (j := 1) rfl, b, d, rfl, rfl, T.sb.cmul T.sd (by decide) (by decide) (by decide), ?_⟩
    exact ⟨_, _, rfl, (T.sb.mul T.sd).mono (by decide), Int.ne_of_gt T.den, q⟩
end

end Fp

set_option Elab.async false
set_option linter.all false
set_option maxRecDepth 100000
set_option maxHeartbeats 4000000
set_option exponentiation.threshold 10000
namespace Fp
open PySem PySem.Spec PyProof.Rows L2
abbrev s_over : Stmt := topS 18
theorem sc_over : FnScope ["one", "other"] ["one", "other"] (defScope s_over) := ⟨rfl, rfl, rfl, by decide +kernel, rfl, by decide +kernel, by decide +kernel⟩
section
variable {P : Program} {w : World} {K : PySem.W.Frag} {mg : Str → Option Value} {base : Heap}
def spOver0 (K : PySem.W.Frag) : Sp := fun vs H Q _ => ∃ (p1 p2 : Addr) (a b c d : Int), vs = [.ref p1, .ref p2] ∧ Two K H p1 p2 a b c d ∧ b * c ≠ 0 ∧
  ∀ p, H p = none → Q (.ref p) (upd H p (.tup [.int (ratT (a * d) (b * c)), .int (ratB (a * d) (b * c))]))
theorem ok_over {f fR : Addr} {fd fdR : FuncData} (F : Fun K "over" "over" s_over f fd) (FR : Fun K "ratio" "ratio" s_ratio fR fdR) (bR : Binds K fdR ["top", "bottom"] []) (gR : mg "ratio" = some (.ref fR)) (GR : FnOk P w K mg base CX0 2 fR fdR ["top", "bottom"] spRat0) : FnOk P w K mg base CX0 3 f fd ["one", "other"] (spOver0 K) := by
  refine F.ok sc_over (fun vs H Q E h => ?_) (fun cdv A outer s H vs Q E hr h => ?_)
  · obtain ⟨_, _, _, _, _, _, rfl, _⟩ := h
    rfl
  · obtain ⟨p1, p2, a, b, c, d, rfl, T, ne, q⟩ := h
    refine ⟨_, pss_one (ps_ret (pe_call GR hr (by rfl) gR FR.kp bR .nil pass0 (pa_cons (pe_op op_mulA (pe_ix ix_tup (pv 0) pe_int (fun _ _ => rfl)) (pe_ix ix_tup (pv 1) pe_int (fun _ _ => rfl))) (pa_cons (pe_op op_mulA (pe_ix ix_tup (pv 0) pe_int (fun _ _ => rfl)) (pe_ix ix_tup (pv 1) pe_int (fun _ _ => rfl))) pa_nil)))), ?_⟩
    refine ⟨_, rfl, p1, _, 0, _, rfl, rfl, T.t1, atI_nat (j := 0) rfl, _, rfl, p2, _, 1, _, rfl, rfl, T.t2, atI_nat (j := 1) rfl, a, d, rfl, rfl, T.sa.cmul T.sd (by decide) (by decide) (by decide), _, rfl, p1, _, 1, _, rfl, rfl, T.t1, atI_nat (j := 1) rfl, _, rfl, p2, _, 0, _, rfl, rfl, T.t2, atI_nat (j := 0) rfl, b, c, rfl, rfl, T.sb.cmul T.sc (by decide) (by decide) (by decide), ?_⟩
    exact ⟨_, _, rfl, (T.sb.mul T.sc).mono (by decide), ne, q⟩
end

end Fp

set_option Elab.async false
set_option linter.all false
set_option maxRecDepth 100000
set_option maxHeartbeats 4000000
set_option exponentiation.threshold 10000
namespace Fp
open PySem PySem.Spec PyProof.Rows L2
/-! ### the feed of draws -/
abbrev s_feed : Stmt := topS 32
abbrev s_draw : Stmt := topS 33
theorem sc_feed : FnScope ["_law_script"] ["_law_script"] (defScope s_feed) := ⟨rfl, rfl, rfl, by decide +kernel, rfl, by decide +kernel, by decide +kernel⟩
theorem sc_draw : FnScope ["_law_feed_here", "_law_many", "_law_turn", "_law_digit", "_law_at", "_law_cells", "_law_cell", "_law_mixed"] ["_law_feed_here", "_law_many"] (defScope s_draw) := ⟨rfl, rfl, rfl, by decide +kernel, rfl, by decide +kernel, by decide +kernel⟩
def feedL (c : Addr) (a l t : Int) : List (Key × V) := [(.inr "cells", .ref c), (.inr "at", .int a), (.inr "left", .int l), (.inr "turn", .int t)]
theorem feed_at (c : Addr) (a l t : Int) : valV (feedL c a l t) (.inr "at") = some (.int a) := rfl
theorem feed_cells (c : Addr) (a l t : Int) : valV (feedL c a l t) (.inr "cells") = some (.ref c) := rfl
theorem feed_left (c : Addr) (a l t : Int) : valV (feedL c a l t) (.inr "left") = some (.int l) := rfl
theorem feed_turn (c : Addr) (a l t : Int) : valV (feedL c a l t) (.inr "turn") = some (.int t) := rfl
theorem put_at (c : Addr) (a l t x : Int) : putK (feedL c a l t) (.inr "at") (.int x) = feedL c x l t := rfl
theorem put_left (c : Addr) (a l t x : Int) : putK (feedL c a l t) (.inr "left") (.int x) = feedL c a x t := rfl
theorem put_turn (c : Addr) (a l t x : Int) : putK (feedL c a l t) (.inr "turn") (.int x) = feedL c a l x := rfl
theorem feed_len (c : Addr) (a l t : Int) : (feedL c a l t).length < sizeLine := by show 4 < sizeLine; decide
theorem feed_merge (c : Addr) : mergeK [] (feedL c 0 0 0) = feedL c 0 0 0 := rfl
/-- at d a feed that has told t draws -/
def Feed (H : Hp) (d c : Addr) (t : Int) : Prop := ∃ (a l : Int) (ns : List Int), H d = some (.dK (feedL c a l t)) ∧ H c = some (.lst (ns.map V.int)) ∧ 0 ≤ t
/-- all but d as it was -/
def Keep (d : Addr) (H H' : Hp) : Prop := ∀ b o, b ≠ d → H b = some o → H' b = some o
theorem Keep.trans {d : Addr} {H H1 H2 : Hp} (a : Keep d H H1) (b : Keep d H1 H2) : Keep d H H2 := fun c o n z => b c o n (a c o n z)
theorem Keep.of_same {d : Addr} {H H' : Hp} (a : Same H H') : Keep d H H' := fun b o _ z => a b o z
theorem Keep.upd {d : Addr} {H : Hp} {o : HO} : Keep d H (upd H d o) := fun b x n z => by rw [upd_ne n]; exact z
theorem Feed.same {H H' : Hp} {d c : Addr} {t : Int} (f : Feed H d c t) (e : Same H H') : Feed H' d c t := by
  obtain ⟨a, l, ns, h1, h2, h3⟩ := f
  exact ⟨a, l, ns, e _ _ h1, e _ _ h2, h3⟩
theorem Feed.wr {H : Hp} {d c p : Addr} {t : Int} {o : HO} (f : Feed H d c t) (h1 : p ≠ d) (h2 : p ≠ c) : Feed (upd H p o) d c t := by
  obtain ⟨a, l, ns, e1, e2, e3⟩ := f
  exact ⟨a, l, ns, by rw [upd_ne h1.symm]; exact e1, by rw [upd_ne h2.symm]; exact e2, e3⟩
theorem Feed.ne {H : Hp} {d c p : Addr} {t : Int} {o : HO} (f : Feed H d c t) (h : H p = some o) (n : ∀ kvs, o ≠ .dK kvs) : p ≠ d := by
  obtain ⟨a, l, ns, h1, _⟩ := f
  exact ne_of h h1 (n _)
theorem Feed.nd {H : Hp} {d c p : Addr} {t : Int} (f : Feed H d c t) (h : H p = none) : p ≠ d := by
  obtain ⟨a, l, ns, h1, _⟩ := f
  exact (ne_of_none h1 h).symm
theorem Feed.nc {H : Hp} {d c p : Addr} {t : Int} (f : Feed H d c t) (h : H p = none) : p ≠ c := by
  obtain ⟨a, l, ns, _, h1, _⟩ := f
  exact (ne_of_none h1 h).symm
theorem Feed.new {H : Hp} {d c p : Addr} {t : Int} {o : HO} (f : Feed H d c t) (n : H p = none) : Feed (upd H p o) d c t := f.same (same_new n)
theorem keep_at {d c p : Addr} {H H' : Hp} {t : Int} {o : HO} (f : Feed H d c t) (k : Keep d H H') (h : H p = some o) (n : ∀ kvs, o ≠ .dK kvs) : H' p = some o := k p o (f.ne h n) h
theorem keep_new {d p : Addr} {H H' : Hp} {o : HO} (n : H p = none) (k : Keep d (upd H p o) H') : Keep d H H' := (Keep.of_same (same_new n)).trans k
theorem Keep.none {d c p : Addr} {t : Int} {H H' : Hp} (k : Keep d H H') (f : Feed H' d c t) (n : H' p = none) : H p = none := by
  match z : H p with
  | Option.none => rfl
  | some o =>
    have := k p o (f.nd n) z
    rw [n] at this
    cases this
/-- what was not there when k began may be written -/
theorem Keep.wr {d p : Addr} {H H' : Hp} {o : HO} (k : Keep d H H') (n : H p = Option.none) : Keep d H (L2.upd H' p o) := fun b x hb z => by
  rw [upd_ne (ne_of_none z n)]
  exact k b x hb z
theorem Keep.refl {d : Addr} {H : Hp} : Keep d H H := fun _ _ _ z => z
theorem sqT_keep {K : PySem.W.Frag} {H H' : Hp} {a d c : Addr} {t : Int} {xs : List V} (f : Feed H d c t) (e : Keep d H H') (h : SqT K H a xs) : SqT K H' a xs := by
  obtain ⟨x, l, ns, h1, _⟩ := f
  rcases h with (h | ⟨o, h⟩) | h
  · exact .inl (.inl (e _ _ (ne_of h h1 (by intro z; cases z)) h))
  · exact .inl (.inr ⟨o, e _ _ (ne_of h h1 (by intro z; cases z)) h⟩)
  · exact .inr h
theorem cut_ints (ns : List Int) (lo hi : Option Int) : ∃ ms : List Int, cutV (ns.map V.int) lo hi = ms.map V.int := by
  unfold cutV
  exact ⟨_, by rw [← List.map_drop, ← List.map_take]⟩
theorem dpAll_ints {K : PySem.W.Frag} {H : Hp} : ∀ ns : List Int, DpAll K H (ns.map V.int) (ns.map PyData.int)
  | [] => .nil
  | n :: r => .cons (.int n) (dpAll_ints r)
theorem canLay_ints : ∀ ns : List Int, PyData.canLayAll0 (ns.map PyData.int) = true
  | [] => rfl
  | n :: r => by
    show (PyData.canLay0 (.int n) && PyData.canLayAll0 (r.map PyData.int)) = true
    rw [canLay_ints r]
    rfl
theorem depth_ints : ∀ ns : List Int, PyData.depthAll (ns.map PyData.int) = 0
  | [] => rfl
  | n :: r => by
    show max (PyData.depth (.int n)) (PyData.depthAll (r.map PyData.int)) = 0
    rw [depth_ints r]
    rfl
theorem shaped_ints (ns : List Int) : SeqAt.shaped (.list (ns.map PyData.int)) = true := by
  unfold SeqAt.shaped
  have h1 : PyData.canLay0 (.list (ns.map PyData.int)) = true := by
    show PyData.canLayAll0 (ns.map PyData.int) = true
    exact canLay_ints ns
  have h2 : (PyData.list (ns.map PyData.int)).depth = 1 := by
    show PyData.depthAll (ns.map PyData.int) + 1 = 1
    rw [depth_ints]
  rw [h1, h2]
  rfl
theorem eqv_nil (ns : List Int) : PyData.eqv (.list (ns.map PyData.int)) (.list []) = ns.isEmpty := by
  cases ns with
  | nil => rfl
  | cons n r => rfl

section
variable {P : Program} {w : World} {K : PySem.W.Frag} {mg : Str → Option Value} {base : Heap}
def spFeed (K : PySem.W.Frag) : Sp := fun vs H Q _ => ∃ (a : Addr) (ns : List Int), vs = [.ref a] ∧ SqL K H a (ns.map V.int) ∧ ∀ d c H', Same H H' → Feed H' d c 0 → Q (.ref d) H'
theorem ok_feed {f : Addr} {fd : FuncData} {k : Nat} (F : Fun K "_law_feed" "_law_feed" s_feed f fd) (ml : mg "list" = none) : FnOk P w K mg base CX0 (k + 1) f fd ["_law_script"] (spFeed K) := by
  refine F.ok sc_feed (fun vs H Q E h => ?_) (fun cdv A outer s H vs Q E hr h => ?_)
  · obtain ⟨a, ns, rfl, _⟩ := h
    rfl
  · obtain ⟨a, ns, rfl, hS, q⟩ := h
    refine ⟨_, pss_one (ps_ret (pe_disp (pps_cons pe_str (pe_callTy call_list_of (by rfl) ml (by decide +kernel) (pa_cons (pe_slice sl_list (pv 0) po_none (po_some pe_int)) pa_nil))
      (pps_cons pe_str pe_int (pps_cons pe_str pe_int (pps_cons pe_str pe_int pps_nil)))) (by rfl) (by rfl) (fun z => by cases z) (by decide))), ?_⟩
    refine fun d nd => ?_
    have s1 : Same H (upd H d (.dK [])) := same_new nd
    obtain ⟨ms, em⟩ := cut_ints ns none (some 63)
    refine ⟨_, rfl, 63, rfl, a, ns.map V.int, rfl, s1.seq hS, fun x nx => ?_⟩
    have s2 := same_new (o := HO.lst (cutV (ns.map V.int) none (some 63))) nx
    refine ⟨x, _, rfl, .inl (SqL.of upd_same), fun c nc => ?_⟩
    have s3 := same_new (o := HO.lst (cutV (ns.map V.int) none (some 63))) nc
    refine ⟨?_, feedL c 0 0 0, rfl, by show 4 ≤ 15; decide, ?_⟩
    · exact s3 _ _ (s2 _ _ upd_same)
    · rw [feed_merge]
      have ncd : c ≠ d := fun z => by
        rw [z] at nc
        exact absurd nc (by rw [s2 _ _ upd_same]; exact fun z => nomatch z)
      refine q d c _ (fun b o z => ?_) ⟨0, 0, ms, upd_same, ?_, by decide⟩
      · have nb : b ≠ d := ne_of_none z nd
        rw [upd_ne nb]
        exact s3 _ _ (s2 _ _ (s1 _ _ z))
      · rw [upd_ne ncd, upd_same, em]
def spDraw : Sp := fun vs H Q _ => ∃ (d c : Addr) (many t : Int), vs = [.ref d, .int many] ∧ Feed H d c t ∧ t ≤ 1000000 ∧ 0 < many ∧ many < 1073741824 ∧
  ∀ r H', 0 ≤ r → r < many → Keep d H H' → Feed H' d c (t + 1) → Q (.int r) H'
theorem ok_draw {f : Addr} {fd : FuncData} {k : Nat} (F : Fun K "_law_draw" "_law_draw" s_draw f fd) (ml : mg "len" = none) : FnOk P w K mg base CX0 (k + 1) f fd ["_law_feed_here", "_law_many"] spDraw := by
  refine F.ok sc_draw (fun vs H Q E h => ?_) (fun cdv A outer s H vs Q E hr h => ?_)
  · obtain ⟨_, _, _, _, rfl, _⟩ := h
    rfl
  · obtain ⟨d, c, many, t, rfl, ⟨a, l, ns, hd, hc, ht0⟩, ht, hm0, hm1, q⟩ := h
    have hu := hu_of hr
    refine ⟨_, pss_cons (ps_set (i := 2) sc_draw.nd rfl (.inl rfl) (pe_op op_add (pe_dget hu (pv 0) pe_str (fun _ _ => rfl)) pe_int))
      (pss_cons (ps_dput hu (pv 0) pe_str (pv 2) rfl)
      (pss_cons (ps_if (pt_cmpR op_gt (pe_dget hu (pv 0) pe_str (fun _ _ => rfl)) pe_int (nomark _))
        (pss_cons (ps_set (i := 3) sc_draw.nd rfl (.inl rfl) (pe_op op_modN (pe_dget hu (pv 0) pe_str (fun _ _ => rfl)) (pv 1)))
        (pss_cons (ps_dput hu (pv 0) pe_str (pe_op op_fdiv (pe_dget hu (pv 0) pe_str (fun _ _ => rfl)) (pv 1)) rfl)
        (pss_one (ps_ret (pv 3))))) pss_nil)
      (pss_cons (ps_par (i := 4) (j := 5) rfl sc_draw.nd rfl rfl (by decide) rfl rfl (pa_cons (pe_dget hu (pv 0) pe_str (fun _ _ => rfl)) (pa_cons (pe_dget hu (pv 0) pe_str (fun _ _ => rfl)) pa_nil)) (by rfl))
      (pss_cons (ps_dput hu (pv 0) pe_str (pe_op op_add (pv 4) pe_int) rfl)
      (pss_cons (ps_set (i := 6) sc_draw.nd rfl (.inl rfl) (pe_ifExp (pt_cmpR (op_neD hr.units) (pv 5) (pe_lst pa_nil) (nomark _))
          (pe_ix ix_list (pv 5) (pe_op op_modN (pv 4) (pe_callB call_len_seq (by rfl) ml PySem.boot_len (pa_cons (pv 5) pa_nil))) (fun _ _ => rfl)) pe_int))
      (pss_cons (ps_if (PW.pt (pw_and (pt_cmpR op_ge (pv 6) (pe_op op_pow pe_int pe_int) (nomark _)) (pw_and1 (pt_cmpR op_lt (pv 4) (pe_callB call_len_seq (by rfl) ml PySem.boot_len (pa_cons (pv 5) pa_nil)) (nomark _)))))
        (pss_cons (ps_dput hu (pv 0) pe_str (pe_op op_fdiv (pv 6) (pv 1)) rfl) (pss_one (ps_ret (pe_op op_modN (pv 6) (pv 1))))) pss_nil)
      (pss_cons (ps_set (i := 7) sc_draw.nd rfl (.inl rfl) (pe_op op_modN (pe_op op_pow (pe_op op_add (pe_op op_modN (pv 6) pe_int) (pe_op op_mul pe_int (pv 2))) pe_int) pe_int))
      (pss_one (ps_ret (pe_op op_modN (pe_op op_fdiv (pe_op op_modN (pe_op op_mul (pv 7) (pe_op op_add (pe_op op_mul pe_int (pv 2)) pe_int)) pe_int) pe_int) (pv 1))))))))))), ?_⟩
    have ndc : c ≠ d := ne_of hc hd (by intro z; cases z)
    have mod_ok : ∀ x : Int, 0 ≤ x.fmod many ∧ x.fmod many < many := fun x => ⟨Int.fmod_nonneg_of_pos x hm0, Int.fmod_lt_of_pos x hm0⟩
    -- turn
    refine ⟨_, rfl, d, _, rfl, .inl ⟨_, .inr "turn", .inl hd, rfl, feed_turn c a l t⟩, t, 1, rfl, rfl, ?_⟩
    refine ⟨_, rfl, _, rfl, d, _, rfl, DPut.k (k := .inr "turn") hd (feed_len c a l t), ?_⟩
    rw [put_turn]
    -- left
    refine ⟨_, rfl, d, _, rfl, .inl ⟨_, .inr "left", .inl upd_same, rfl, feed_left c a l (t + 1)⟩, l, 0, rfl, rfl, _, rfl, ite2 (fun cl => ?_) (fun cl => ?_)⟩
    · refine ⟨_, rfl, d, _, rfl, .inl ⟨_, .inr "left", .inl upd_same, rfl, feed_left c a l (t + 1)⟩, _, rfl, l, many, rfl, rfl, Int.ne_of_gt hm0, ?_⟩
      refine ⟨_, rfl, d, _, rfl, .inl ⟨_, .inr "left", .inl upd_same, rfl, feed_left c a l (t + 1)⟩, _, rfl, l, many, rfl, rfl, ⟨hm0, hm1⟩, _, rfl, d, _, rfl, DPut.k (k := .inr "left") upd_same (feed_len c a l (t + 1)), ?_⟩
      rw [put_left, upd_upd]
      refine ⟨_, rfl, q _ _ (mod_ok l).1 (mod_ok l).2 Keep.upd ⟨a, _, ns, upd_same, ?_, by omega⟩⟩
      rw [upd_ne ndc]
      exact hc
    · refine ⟨_, rfl, d, _, rfl, .inl ⟨_, .inr "at", .inl upd_same, rfl, feed_at c a l (t + 1)⟩, _, rfl, d, _, rfl, .inl ⟨_, .inr "cells", .inl upd_same, rfl, feed_cells c a l (t + 1)⟩, _, _, rfl, ?_⟩
      refine ⟨_, rfl, a, 1, rfl, rfl, _, rfl, d, _, rfl, DPut.k (k := .inr "at") upd_same (feed_len c a l (t + 1)), ?_⟩
      rw [put_at, upd_upd]
      have hc2 : upd H d (.dK (feedL c (a + 1) l (t + 1))) c = some (.lst (ns.map V.int)) := by
        rw [upd_ne ndc]
        exact hc
      -- cells != []
      refine ⟨_, rfl, Nat.zero_le _, fun e ne => ?_⟩
      have s1 := same_new (o := HO.lst []) ne
      have hc3 := s1 _ _ hc2
      have hd3 := s1 _ _ (upd_same (H := H) (a := d) (o := .dK (feedL c (a + 1) l (t + 1))))
      have k3 : Keep d H (upd (upd H d (.dK (feedL c (a + 1) l (t + 1)))) e (.lst [])) := Keep.upd.trans (Keep.of_same s1)
      refine ⟨.list (ns.map PyData.int), .list [], .lst (SqL.of hc3) (dpAll_ints ns), .lst (SqL.of upd_same) .nil, shaped_ints ns, rfl, _, rfl, ?_⟩
      rw [eqv_nil]
      -- behind the cell
      have rest : ∀ cell : Int, tSeq (tIfS (tAnd (tTest (tOp (rI0 fun i j => .bl (decide (j ≤ i))) (tVar 6) (tOp (rI CPow fun i j => .int (i ^ j.toNat)) (tC (.int 10)) (tC (.int 18))))) (tTest (tOp (rI0 fun i j => .bl (decide (i < j))) (tVar 4) (tCB (fun xs H Q => ∃ p ys, xs = [.ref p] ∧ (SqL K H p ys ∨ SqT K H p ys) ∧ Q (.int ys.length) H) (tCons (tVar 5) tNil)))))
          (tSeq (sDPut (tVar 0) (tC (.str "left")) (tOp (rI CDiv fun i j => .int (i / j)) (tVar 6) (tVar 1))) (tRet (tOp (rI (fun _ j => j ≠ 0) fun i j => .int (i.fmod j)) (tVar 6) (tVar 1)))) tNext)
          (tSeq (tAsg (tOp (rI (fun _ j => j ≠ 0) fun i j => .int (i.fmod j)) (tOp (rI CPow fun i j => .int (i ^ j.toNat)) (tOp (rI0 fun i j => .int (i + j)) (tOp (rI (fun _ j => j ≠ 0) fun i j => .int (i.fmod j)) (tVar 6) (tC (.int 999983))) (tOp (rI CMul fun i j => .int (i * j)) (tC (.int 7919)) (tVar 2))) (tC (.int 5))) (tC (.int 2305843009213693951))) (gName 7))
          (tRet (tOp (rI (fun _ j => j ≠ 0) fun i j => .int (i.fmod j)) (tOp (rI CDiv fun i j => .int (i / j)) (tOp (rI (fun _ j => j ≠ 0) fun i j => .int (i.fmod j)) (tOp (rI CMul fun i j => .int (i * j)) (tVar 7) (tOp (rI0 fun i j => .int (i + j)) (tOp (rI CMul fun i j => .int (i * j)) (tC (.int 2)) (tVar 2)) (tC (.int 104729)))) (tC (.int 2147483629))) (tC (.int 64))) (tVar 1))))
          { nx := fun _ H' => Q .non H', rt := Q } [some (.ref d), some (.int many), some (.int (t + 1)), none, some (.int a), some (.ref c), some (.int cell), none] (upd (upd H d (.dK (feedL c (a + 1) l (t + 1)))) e (.lst [])) := by
        intro cell
        have fin : tSeq (tAsg (tOp (rI (fun _ j => j ≠ 0) fun i j => .int (i.fmod j)) (tOp (rI CPow fun i j => .int (i ^ j.toNat)) (tOp (rI0 fun i j => .int (i + j)) (tOp (rI (fun _ j => j ≠ 0) fun i j => .int (i.fmod j)) (tVar 6) (tC (.int 999983))) (tOp (rI CMul fun i j => .int (i * j)) (tC (.int 7919)) (tVar 2))) (tC (.int 5))) (tC (.int 2305843009213693951))) (gName 7))
          (tRet (tOp (rI (fun _ j => j ≠ 0) fun i j => .int (i.fmod j)) (tOp (rI CDiv fun i j => .int (i / j)) (tOp (rI (fun _ j => j ≠ 0) fun i j => .int (i.fmod j)) (tOp (rI CMul fun i j => .int (i * j)) (tVar 7) (tOp (rI0 fun i j => .int (i + j)) (tOp (rI CMul fun i j => .int (i * j)) (tC (.int 2)) (tVar 2)) (tC (.int 104729)))) (tC (.int 2147483629))) (tC (.int 64))) (tVar 1)))
          { nx := fun _ H' => Q .non H', rt := Q } [some (.ref d), some (.int many), some (.int (t + 1)), none, some (.int a), some (.ref c), some (.int cell), none] (upd (upd H d (.dK (feedL c (a + 1) l (t + 1)))) e (.lst [])) := by
          have hm : 0 ≤ cell.fmod 999983 ∧ cell.fmod 999983 < 999983 := ⟨Int.fmod_nonneg_of_pos _ (by decide), Int.fmod_lt_of_pos _ (by decide)⟩
          refine ⟨_, rfl, cell, 999983, rfl, rfl, by show (999983 : Int) ≠ 0; decide, _, rfl, 7919, t + 1, rfl, rfl, .inl ⟨by decide, by decide⟩, _, _, rfl, rfl, _, 5, rfl, rfl, ⟨by decide, by decide, ?_⟩, _, 2305843009213693951, rfl, rfl, by show (2305843009213693951 : Int) ≠ 0; decide, ?_⟩
          · have e64 : (2 : Nat) ^ 64 = 18446744073709551616 := by decide
            rw [e64]
            omega
          · refine ⟨_, rfl, _, rfl, 2, t + 1, rfl, rfl, .inl ⟨by decide, by decide⟩, _, 104729, rfl, rfl, _, _, rfl, rfl, .inr ⟨?_, ?_⟩, _, 2147483629, rfl, rfl, by show (2147483629 : Int) ≠ 0; decide, _, 64, rfl, rfl, ⟨by decide, by decide⟩, _, rfl, _, many, rfl, rfl, Int.ne_of_gt hm0, ?_⟩
            · have e64 : (2 : Int) ^ 64 = 18446744073709551616 := by decide
              omega
            · have e64 : (2 : Int) ^ 64 = 18446744073709551616 := by decide
              omega
            · exact q _ _ (mod_ok _).1 (mod_ok _).2 k3 ⟨a + 1, l, ns, hd3, hc3, by omega⟩
        refine ⟨_, rfl, 10, 18, rfl, rfl, ⟨by decide, by decide, by decide⟩, cell, _, rfl, rfl, _, rfl, ite2 (fun c1 => ?_) (fun c1 => iteF fin)⟩
        refine ⟨_, rfl, _, rfl, c, _, rfl, .inl (SqL.of hc3), a, _, rfl, rfl, _, rfl, ite2 (fun c2 => ?_) (fun c2 => fin)⟩
        refine ⟨_, rfl, _, rfl, cell, many, rfl, rfl, ⟨hm0, hm1⟩, _, rfl, d, _, rfl, DPut.k (k := .inr "left") hd3 (feed_len c (a + 1) l (t + 1)), ?_⟩
        rw [put_left]
        refine ⟨_, rfl, _, rfl, cell, many, rfl, rfl, Int.ne_of_gt hm0, q _ _ (mod_ok cell).1 (mod_ok cell).2 (k3.trans Keep.upd) ⟨a + 1, _, ns, upd_same, ?_, by omega⟩⟩
        rw [upd_ne ndc]
        exact hc3
      cases ns with
      | nil => exact iteF (rest 0)
      | cons n r =>
        refine iteT ?_
        have hlen : (0 : Int) < (((n :: r).map V.int).length : Nat) := by simp
        have h1 : 0 ≤ a.fmod ((((n :: r).map V.int).length : Nat) : Int) := Int.fmod_nonneg_of_pos _ hlen
        have h2 : a.fmod ((((n :: r).map V.int).length : Nat) : Int) < ((((n :: r).map V.int).length : Nat) : Int) := Int.fmod_lt_of_pos _ hlen
        have h3 : (a.fmod ((((n :: r).map V.int).length : Nat) : Int)).toNat < ((n :: r).map V.int).length := by omega
        have h4 : ∃ x, ((n :: r).map V.int)[(a.fmod ((((n :: r).map V.int).length : Nat) : Int)).toNat]? = some (.int x) := by
          rw [List.getElem?_map]
          rw [List.length_map] at h3
          rw [List.length_map, List.getElem?_eq_getElem h3]
          exact ⟨_, rfl⟩
        obtain ⟨x, hx⟩ := h4
        refine ⟨_, rfl, _, rfl, _, rfl, c, _, rfl, .inl (SqL.of hc3), a, _, rfl, rfl, Int.ne_of_gt hlen, c, _, _, _, rfl, rfl, SqL.of hc3, at_of (Int.toNat_of_nonneg h1).symm hx, rest x⟩
end

end Fp

set_option Elab.async false
set_option linter.all false
set_option maxRecDepth 100000
set_option maxHeartbeats 4000000
set_option exponentiation.threshold 10000
namespace Fp
open PySem PySem.Spec PyProof.Rows L2
abbrev s_low : Stmt := topS 34
theorem sc_low : FnScope ["_law_top", "_law_bottom", "_law_one", "_law_other"] ["_law_top", "_law_bottom"] (defScope s_low) := ⟨rfl, rfl, rfl, by decide +kernel, rfl, by decide +kernel, by decide +kernel⟩
section
variable {P : Program} {w : World} {K : PySem.W.Frag} {mg : Str → Option Value} {base : Heap}
/-! ### lowest terms by the law's own division -/
def spLow : Sp := fun vs H Q _ => ∃ t b : Int, vs = [.int t, .int b] ∧ 0 < b ∧ Sm 8000 b ∧ ∀ p, H p = none → Q (.ref p) (upd H p (.tup [.int (ratT t b), .int (ratB t b)]))
theorem ok_low {f : Addr} {fd : FuncData} {k : Nat} (F : Fun K "_law_low" "_law_low" s_low f fd) (ma : mg "abs" = none) : FnOk P w K mg base CX0 (k + 1) f fd ["_law_top", "_law_bottom"] spLow := by
  refine F.ok sc_low (fun vs H Q E h => ?_) (fun cdv A outer s H vs Q E hr h => ?_)
  · obtain ⟨a, b, rfl, _⟩ := h
    rfl
  · obtain ⟨a, b, rfl, hb, sb, q⟩ := h
    refine ⟨_, pss_cons (ps_par (i := 2) (j := 3) rfl sc_low.nd rfl rfl (by decide) rfl rfl (pa_cons (pe_callB call_abs (by rfl) ma (by decide +kernel) (pa_cons (pv 0) pa_nil)) (pa_cons (pv 1) pa_nil)) (by rfl))
      (pss_cons (ps_while PassesOwn.never (pt_cmpR op_gt (pv 3) pe_int (nomark _)) (pss_one (ps_par (i := 2) (j := 3) rfl sc_low.nd rfl rfl (by decide) rfl rfl (pa_cons (pv 3) (pa_cons (pe_op op_modN (pv 2) (pv 3)) pa_nil)) (by rfl))))
      (pss_one (ps_ret (pe_tup (pa_cons (pe_op op_fdivA (pv 0) (pv 2)) (pa_cons (pe_op op_fdivA (pv 1) (pv 2)) pa_nil)))))), ?_⟩
    refine ⟨_, rfl, a, rfl, _, rfl, _, _, rfl, ?_⟩
    refine while_by (fun σ H1 => H1 = H ∧ ∃ g s : Int, σ = [some (.int a), some (.int b), some (.int g), some (.int s)] ∧ 0 ≤ g ∧ 0 ≤ s ∧ Int.gcd g s = Int.gcd a b)
      (fun σ _ => match σ with | [_, _, _, some (.int s)] => s.toNat | _ => 0) ?_ ?_ ?_
    · refine ⟨rfl, _, _, rfl, ?_, Int.le_of_lt hb, ?_⟩
      · rw [abs_if]; omega
      · rw [abs_if]
        show Nat.gcd _ _ = Nat.gcd _ _
        rw [Int.natAbs_natCast]
    · rintro σ H1 ⟨rfl, g, s, rfl, hg, hs, e⟩
      refine ⟨_, rfl, s, 0, rfl, rfl, _, rfl, ite2 (fun c => ?_) (fun c => ?_)⟩
      · have hp : 0 < s := of_decide_eq_true c
        have lt : s > g.fmod s := Int.fmod_lt_of_pos g hp
        have nn : 0 ≤ g.fmod s := Int.fmod_nonneg_of_pos g hp
        refine ⟨_, rfl, _, rfl, _, rfl, g, s, rfl, rfl, Int.ne_of_gt hp, _, _, rfl, ⟨rfl, s, g.fmod s, rfl, hs, nn, ?_⟩, ?_⟩
        · rw [gcd_turn hp hg]; exact e
        · show (g.fmod s).toNat < s.toNat
          omega
      · have hs0 : s = 0 := by
          have : ¬ 0 < s := fun z => c (decide_eq_true z)
          omega
        subst hs0
        have eg : g = ratG a b := by
          unfold ratG
          rw [if_neg (by omega), ← e, Int.gcd_zero_right]
          omega
        obtain ⟨c1, c2⟩ := ratG_ok (t := a) (Int.ne_of_gt hb) sb (by decide) (by decide)
        rw [eg]
        exact ⟨_, rfl, _, rfl, a, _, rfl, rfl, c1, _, rfl, _, rfl, b, _, rfl, rfl, c2, by show 2 ≤ sizeLine; decide, q⟩
    · intro σ H1 Q1 Q2 hq h
      obtain ⟨v, e1, i, j, e2, e3, k, e4, h⟩ := h
      exact ⟨v, e1, i, j, e2, e3, k, e4, hq _ _ h⟩
/-- what comes of lowest terms is no greater -/
theorem fdiv_le {x g : Int} (hg : 0 < g) (hd : g ∣ x) : (x.fdiv g).natAbs ≤ x.natAbs := by
  obtain ⟨y, rfl⟩ := hd
  rw [Int.mul_fdiv_cancel_left y (Int.ne_of_gt hg), Int.natAbs_mul]
  have : 1 ≤ g.natAbs := by omega
  exact Nat.le_mul_of_pos_left _ this
theorem ratG_pos {t b : Int} (hb : 0 < b) : 0 < ratG t b ∧ ratG t b ∣ t ∧ ratG t b ∣ b := by
  have e : ratG t b = ((Int.gcd t b : Nat) : Int) := by
    unfold ratG
    rw [if_neg (by omega)]
  rw [e]
  have := (gcd_le (t := t) (Int.ne_of_gt hb)).1
  exact ⟨by omega, Int.gcd_dvd_left .., Int.gcd_dvd_right ..⟩
theorem ratT_sm {t b : Int} {n : Nat} (hb : 0 < b) (h : Sm n t) : Sm n (ratT t b) := by
  obtain ⟨h1, h2, _⟩ := ratG_pos (t := t) hb
  exact Nat.lt_of_le_of_lt (fdiv_le h1 h2) h
theorem ratB_sm {t b : Int} {n : Nat} (hb : 0 < b) (h : Sm n b) : Sm n (ratB t b) := by
  obtain ⟨h1, _, h2⟩ := ratG_pos (t := t) hb
  exact Nat.lt_of_le_of_lt (fdiv_le h1 h2) h
theorem ratB_pos {t b : Int} (hb : 0 < b) : 0 < ratB t b := by
  obtain ⟨h1, _, y, hy⟩ := ratG_pos (t := t) hb
  unfold ratB
  have e : b.fdiv (ratG t b) = y := by
    have := Int.mul_fdiv_cancel_left y (Int.ne_of_gt h1)
    rw [← hy] at this
    exact this
  rw [e]
  rcases Int.lt_trichotomy y 0 with z | z | z
  · have := Int.mul_neg_of_pos_of_neg h1 z
    omega
  · rw [z, Int.mul_zero] at hy
    omega
  · exact z
end

end Fp

set_option Elab.async false
set_option linter.all false
set_option maxRecDepth 100000
set_option maxHeartbeats 4000000
set_option exponentiation.threshold 10000
namespace Fp
open PySem PySem.Spec PyProof.Rows L2
abbrev s_ltimes : Stmt := topS 36
theorem sc_ltimes : FnScope ["_law_one", "_law_other"] ["_law_one", "_law_other"] (defScope s_ltimes) := ⟨rfl, rfl, rfl, by decide +kernel, rfl, by decide +kernel, by decide +kernel⟩
section
variable {P : Program} {w : World} {K : PySem.W.Frag} {mg : Str → Option Value} {base : Heap}
theorem ok_ltimes {f fR : Addr} {fd fdR : FuncData} (F : Fun K "_law_times" "_law_times" s_ltimes f fd) (FR : Fun K "_law_low" "_law_low" s_low fR fdR) (bR : Binds K fdR ["_law_top", "_law_bottom"] []) (gR : mg "_law_low" = some (.ref fR)) (GR : FnOk P w K mg base CX0 1 fR fdR ["_law_top", "_law_bottom"] spLow) : FnOk P w K mg base CX0 2 f fd ["_law_one", "_law_other"] (spTwo K (fun a b c d => a * c)) := by
  refine F.ok sc_ltimes (fun vs H Q E h => ?_) (fun cdv A outer s H vs Q E hr h => ?_)
  · obtain ⟨_, _, _, _, _, _, rfl, _⟩ := h
    rfl
  · obtain ⟨p1, p2, a, b, c, d, rfl, T, q⟩ := h
    refine ⟨_, pss_one (ps_ret (pe_call GR hr (by rfl) gR FR.kp bR .nil pass0 (pa_cons (pe_op op_mulA (pe_ix ix_tup (pv 0) pe_int (fun _ _ => rfl)) (pe_ix ix_tup (pv 1) pe_int (fun _ _ => rfl))) (pa_cons (pe_op op_mulA (pe_ix ix_tup (pv 0) pe_int (fun _ _ => rfl)) (pe_ix ix_tup (pv 1) pe_int (fun _ _ => rfl))) pa_nil)))), ?_⟩
    refine ⟨_, rfl, p1, _, 0, _, rfl, rfl, T.t1, atI_nat (j := 0) rfl, _, rfl, p2, _, 0, _, rfl, rfl, T.t2, atI_nat (j := 0) rfl, a, c, rfl, rfl, T.sa.cmul T.sc (by decide) (by decide) (by decide), _, rfl, p1, _, 1, _, rfl, rfl, T.t1, atI_nat (j := 1) rfl, _, rfl, p2, _, 1, _, rfl, rfl, T.t2, atI_nat (j := 1) rfl, b, d, rfl, rfl, T.sb.cmul T.sd (by decide) (by decide) (by decide), ?_⟩
    exact ⟨_, _, rfl, T.den, (T.sb.mul T.sd).mono (by decide), q⟩
end

end Fp

set_option Elab.async false
set_option linter.all false
set_option maxRecDepth 100000
set_option maxHeartbeats 4000000
set_option exponentiation.threshold 10000
namespace Fp
open PySem PySem.Spec PyProof.Rows L2
abbrev s_lless : Stmt := topS 37
theorem sc_lless : FnScope ["_law_one", "_law_other"] ["_law_one", "_law_other"] (defScope s_lless) := ⟨rfl, rfl, rfl, by decide +kernel, rfl, by decide +kernel, by decide +kernel⟩
section
variable {P : Program} {w : World} {K : PySem.W.Frag} {mg : Str → Option Value} {base : Heap}
theorem ok_lless {f fR : Addr} {fd fdR : FuncData} (F : Fun K "_law_less" "_law_less" s_lless f fd) (FR : Fun K "_law_low" "_law_low" s_low fR fdR) (bR : Binds K fdR ["_law_top", "_law_bottom"] []) (gR : mg "_law_low" = some (.ref fR)) (GR : FnOk P w K mg base CX0 1 fR fdR ["_law_top", "_law_bottom"] spLow) : FnOk P w K mg base CX0 2 f fd ["_law_one", "_law_other"] (spTwo K (fun a b c d => a * d - c * b)) := by
  refine F.ok sc_lless (fun vs H Q E h => ?_) (fun cdv A outer s H vs Q E hr h => ?_)
  · obtain ⟨_, _, _, _, _, _, rfl, _⟩ := h
    rfl
  · obtain ⟨p1, p2, a, b, c, d, rfl, T, q⟩ := h
    refine ⟨_, pss_one (ps_ret (pe_call GR hr (by rfl) gR FR.kp bR .nil pass0 (pa_cons (pe_op op_sub (pe_op op_mulA (pe_ix ix_tup (pv 0) pe_int (fun _ _ => rfl)) (pe_ix ix_tup (pv 1) pe_int (fun _ _ => rfl))) (pe_op op_mulA (pe_ix ix_tup (pv 1) pe_int (fun _ _ => rfl)) (pe_ix ix_tup (pv 0) pe_int (fun _ _ => rfl)))) (pa_cons (pe_op op_mulA (pe_ix ix_tup (pv 0) pe_int (fun _ _ => rfl)) (pe_ix ix_tup (pv 1) pe_int (fun _ _ => rfl))) pa_nil)))), ?_⟩
    refine ⟨_, rfl, p1, _, 0, _, rfl, rfl, T.t1, atI_nat (j := 0) rfl, _, rfl, p2, _, 1, _, rfl, rfl, T.t2, atI_nat (j := 1) rfl, a, d, rfl, rfl, T.sa.cmul T.sd (by decide) (by decide) (by decide), _, rfl, p2, _, 0, _, rfl, rfl, T.t2, atI_nat (j := 0) rfl, _, rfl, p1, _, 1, _, rfl, rfl, T.t1, atI_nat (j := 1) rfl, c, b, rfl, rfl, T.sc.cmul T.sb (by decide) (by decide) (by decide), _, _, rfl, rfl, _, rfl, p1, _, 1, _, rfl, rfl, T.t1, atI_nat (j := 1) rfl, _, rfl, p2, _, 1, _, rfl, rfl, T.t2, atI_nat (j := 1) rfl, b, d, rfl, rfl, T.sb.cmul T.sd (by decide) (by decide) (by decide), ?_⟩
    exact ⟨_, _, rfl, T.den, (T.sb.mul T.sd).mono (by decide), q⟩
end

end Fp

set_option Elab.async false
set_option linter.all false
set_option maxRecDepth 100000
set_option maxHeartbeats 4000000
set_option exponentiation.threshold 10000
namespace Fp
open PySem PySem.Spec PyProof.Rows L2
theorem tC_go {v : V} {σ : L2.St} {H : Hp} {Q : VK} (h : Q v H) : tC v σ H Q := h
theorem tYes_go {σ : L2.St} {H : Hp} {Q : Bool → Hp → Prop} (h : Q true H) : tYes σ H Q := h
/-! ### lives as they stand in the heap -/
abbrev RT := Int × Int
def RAt (K : PySem.W.Frag) (H : Hp) (p : Addr) (x : RT) : Prop := SqT K H p [.int x.1, .int x.2]
inductive RsAt (K : PySem.W.Frag) (H : Hp) : List Addr → List RT → Prop
  | nil : RsAt K H [] []
  | cons {p : Addr} {x : RT} {ps : List Addr} {xs : List RT} : RAt K H p x → RsAt K H ps xs → RsAt K H (p :: ps) (x :: xs)
def RowAt (K : PySem.W.Frag) (H : Hp) (p : Addr) (xs : List RT) : Prop := ∃ rs : List Addr, SqT K H p (rs.map V.ref) ∧ RsAt K H rs xs
def LifeAt (K : PySem.W.Frag) (H : Hp) (p : Addr) (row : List RT) (step : RT) : Prop := ∃ pr ps : Addr, SqT K H p [.ref pr, .ref ps] ∧ RowAt K H pr row ∧ RAt K H ps step
/-- tuples stay -/
def Tk (K : PySem.W.Frag) (H H' : Hp) : Prop := ∀ a xs, SqT K H a xs → SqT K H' a xs
section
variable {K : PySem.W.Frag} {H H' H2 : Hp}
theorem Tk.refl : Tk K H H := fun _ _ h => h
theorem Tk.trans (a : Tk K H H') (b : Tk K H' H2) : Tk K H H2 := fun p xs h => b p xs (a p xs h)
theorem Tk.same (e : Same H H') : Tk K H H' := fun _ _ h => sqT_same e h
theorem Tk.new {p : Addr} {o : HO} (n : H p = none) : Tk K H (upd H p o) := Tk.same (same_new n)
theorem Tk.keep {d c : Addr} {t : Int} (f : Feed H d c t) (e : Keep d H H') : Tk K H H' := fun _ _ h => sqT_keep f e h
theorem RAt.tk {p : Addr} {x : RT} (h : RAt K H p x) (e : Tk K H H') : RAt K H' p x := e _ _ h
theorem RsAt.tk : ∀ {ps : List Addr} {xs : List RT}, RsAt K H ps xs → Tk K H H' → RsAt K H' ps xs
  | _, _, .nil, _ => .nil
  | _, _, .cons h r, e => .cons (h.tk e) (r.tk e)
theorem RowAt.tk {p : Addr} {xs : List RT} (h : RowAt K H p xs) (e : Tk K H H') : RowAt K H' p xs := by
  obtain ⟨rs, h1, h2⟩ := h
  exact ⟨rs, e _ _ h1, h2.tk e⟩
theorem LifeAt.tk {p : Addr} {row : List RT} {step : RT} (h : LifeAt K H p row step) (e : Tk K H H') : LifeAt K H' p row step := by
  obtain ⟨pr, ps, h1, h2, h3⟩ := h
  exact ⟨pr, ps, e _ _ h1, h2.tk e, h3.tk e⟩
theorem RsAt.length : ∀ {ps : List Addr} {xs : List RT}, RsAt K H ps xs → ps.length = xs.length
  | _, _, .nil => rfl
  | _, _, .cons _ r => congrArg (· + 1) r.length
theorem RsAt.get : ∀ {ps : List Addr} {xs : List RT} {i : Nat} {x : RT}, RsAt K H ps xs → xs[i]? = some x → ∃ p, ps[i]? = some p ∧ RAt K H p x
  | _, _, _, _, .nil, e => by simp at e
  | _, _, 0, _, .cons h _, e => by
    cases Option.some.inj e
    exact ⟨_, rfl, h⟩
  | _, _, i + 1, x, .cons _ r, e => RsAt.get (i := i) (x := x) r e
theorem RsAt.append : ∀ {ps qs : List Addr} {xs ys : List RT}, RsAt K H ps xs → RsAt K H qs ys → RsAt K H (ps ++ qs) (xs ++ ys)
  | _, _, _, _, .nil, s => s
  | _, _, _, _, .cons h r, s => .cons h (r.append s)
theorem RsAt.take : ∀ {ps : List Addr} {xs : List RT} (n : Nat), RsAt K H ps xs → RsAt K H (ps.take n) (xs.take n)
  | _, _, 0, _ => .nil
  | _, _, _ + 1, .nil => .nil
  | _, _, n + 1, .cons h r => .cons h (r.take n)
theorem RsAt.drop : ∀ {ps : List Addr} {xs : List RT} (n : Nat), RsAt K H ps xs → RsAt K H (ps.drop n) (xs.drop n)
  | _, _, 0, r => r
  | _, _, _ + 1, .nil => .nil
  | _, _, n + 1, .cons _ r => RsAt.drop n r
end
/-! ### lowest terms -/
def low2 (t b : Int) : RT := (ratT t b, ratB t b)
/-- a ratio in lowest terms -/
def Red (x : RT) : Prop := 0 < x.2 ∧ Int.gcd x.1 x.2 = 1
theorem low2_red {t b : Int} (hb : b ≠ 0) : Red (low2 t b) := by
  have main : ∀ (t b : Int), 0 < b → Red (low2 t b) := fun t b hb => by
    refine ⟨ratB_pos hb, ?_⟩
    have e : ratG t b = ((Int.gcd t b : Nat) : Int) := by
      unfold ratG
      rw [if_neg (by omega)]
    have hg := (gcd_le (t := t) (Int.ne_of_gt hb)).1
    obtain ⟨h1, ⟨x, hx⟩, ⟨y, hy⟩⟩ := ratG_pos (t := t) hb
    have ex : t.fdiv (ratG t b) = x := by
      have := Int.mul_fdiv_cancel_left x (Int.ne_of_gt h1)
      rw [← hx] at this
      exact this
    have ey : b.fdiv (ratG t b) = y := by
      have := Int.mul_fdiv_cancel_left y (Int.ne_of_gt h1)
      rw [← hy] at this
      exact this
    show Int.gcd (t.fdiv (ratG t b)) (b.fdiv (ratG t b)) = 1
    rw [ex, ey]
    have z : Int.gcd t b = (ratG t b).natAbs * Int.gcd x y := by
      have := Int.gcd_mul_left (ratG t b) x y
      rw [← hx, ← hy] at this
      exact this
    have z2 : (ratG t b).natAbs = Int.gcd t b := by rw [e]; exact Int.natAbs_natCast _
    rw [z2] at z
    exact (Nat.eq_of_mul_eq_mul_left hg (by rw [Nat.mul_one]; exact z)).symm
  rcases (by omega : 0 < b ∨ b < 0) with z | z
  · exact main t b z
  · have e1 : ratG t b = -((Int.gcd t b : Nat) : Int) := by unfold ratG; rw [if_pos z]
    have e2 : ratG (-t) (-b) = ((Int.gcd t b : Nat) : Int) := by
      unfold ratG
      rw [if_neg (by omega)]
      show ((Nat.gcd _ _ : Nat) : Int) = ((Nat.gcd _ _ : Nat) : Int)
      rw [Int.natAbs_neg, Int.natAbs_neg]
    have fl : ∀ x g : Int, x.fdiv (-g) = (-x).fdiv g := fun x g => by
      have y := Int.neg_fdiv_neg (-x) g
      rw [Int.neg_neg] at y
      exact y
    have e : low2 t b = low2 (-t) (-b) := by
      unfold low2 ratT ratB
      rw [e1, e2, fl, fl]
    rw [e]
    exact main _ _ (by omega)
/-- the value of it: a by b, told crosswise -/
theorem low2_cross {t b : Int} (hb : 0 < b) : (low2 t b).1 * b = t * (low2 t b).2 := by
  obtain ⟨h1, ⟨x, hx⟩, ⟨y, hy⟩⟩ := ratG_pos (t := t) hb
  have ex : (low2 t b).1 = x := by
    show t.fdiv (ratG t b) = x
    have := Int.mul_fdiv_cancel_left x (Int.ne_of_gt h1)
    rw [← hx] at this
    exact this
  have ey : (low2 t b).2 = y := by
    show b.fdiv (ratG t b) = y
    have := Int.mul_fdiv_cancel_left y (Int.ne_of_gt h1)
    rw [← hy] at this
    exact this
  rw [ex, ey]
  generalize ratG t b = g at hx hy
  subst hx hy
  rw [Int.mul_comm g y, Int.mul_comm g x, Int.mul_assoc x g y, Int.mul_comm g y, ← Int.mul_assoc]
theorem dvd_cop {b a d : Int} (h : b ∣ a * d) (g : Int.gcd b a = 1) : b ∣ d := by
  rw [← Int.natAbs_dvd_natAbs] at h ⊢
  rw [Int.natAbs_mul] at h
  exact Nat.Coprime.dvd_of_dvd_mul_left g h
/-- two ratios in lowest terms of one value are one -/
theorem red_eq {x y : RT} (hx : Red x) (hy : Red y) (h : x.1 * y.2 = y.1 * x.2) : x = y := by
  obtain ⟨a, b⟩ := x
  obtain ⟨c, d⟩ := y
  obtain ⟨hb, g1⟩ := hx
  obtain ⟨hd, g2⟩ := hy
  dsimp only at *
  have b_d : b ∣ d := by
    have h1 : b ∣ a * d := ⟨c, by rw [h, Int.mul_comm]⟩
    exact dvd_cop h1 (by rw [Int.gcd_comm]; exact g1)
  have d_b : d ∣ b := by
    have h1 : d ∣ c * b := ⟨a, by rw [← h, Int.mul_comm]⟩
    exact dvd_cop h1 (by rw [Int.gcd_comm]; exact g2)
  have e : b = d := Int.dvd_antisymm (Int.le_of_lt hb) (Int.le_of_lt hd) b_d d_b
  subst e
  have e2 : a = c := Int.eq_of_mul_eq_mul_right (Int.ne_of_gt hb) h
  rw [e2]
def rT (x y : RT) : RT := low2 (x.1 * y.1) (x.2 * y.2)
/-! ### drawn lives -/
def lastW (ws : List Int) : Int := ws.getLastD 0
def wholeOf (ws : List Int) (extra : Int) (step : RT) : Int := (step.2 - step.1) * (ws.sum + extra) + step.1 * lastW ws
def rowOf (ws : List Int) (extra : Int) (step : RT) : List RT := ws.map fun x => low2 ((step.2 - step.1) * x) (wholeOf ws extra step)
structure Made (ws : List Int) (extra : Int) (step : RT) : Prop where
  ne : ws ≠ []
  len : ws.length ≤ 6
  nn : ∀ x ∈ ws, 0 ≤ x ∧ x ≤ 5
  last : 0 < lastW ws
  ex : 0 ≤ extra ∧ extra ≤ 8
  st : step = (0, 1) ∨ step = (1, 2) ∨ step = (1, 3) ∨ step = (2, 3) ∨ step = (3, 4)
theorem sum_bound : ∀ {ws : List Int}, (∀ x ∈ ws, 0 ≤ x ∧ x ≤ 5) → 0 ≤ ws.sum ∧ ws.sum ≤ 5 * (ws.length : Int)
  | [], _ => ⟨by decide, by decide⟩
  | x :: r, h => by
    have h1 := h x (List.mem_cons_self ..)
    have h2 := sum_bound fun y hy => h y (List.mem_cons_of_mem _ hy)
    rw [List.sum_cons, List.length_cons]
    omega
theorem last_le_sum : ∀ {ws : List Int}, (∀ x ∈ ws, 0 ≤ x ∧ x ≤ 5) → lastW ws ≤ ws.sum
  | [], _ => by decide
  | [x], h => by
    show x ≤ _
    rw [List.sum_cons, List.sum_nil]
    omega
  | x :: y :: r, h => by
    have h1 := h x (List.mem_cons_self ..)
    have h2 := last_le_sum (ws := y :: r) fun z hz => h z (List.mem_cons_of_mem _ hz)
    have e : lastW (x :: y :: r) = lastW (y :: r) := by
      unfold lastW
      rw [List.getLastD_cons, List.getLastD_cons]
      show _ = (y :: r).getLastD 0
      rw [List.getLastD_cons]
    rw [e, List.sum_cons]
    omega
theorem Made.step_ok {ws : List Int} {extra : Int} {step : RT} (m : Made ws extra step) : 0 ≤ step.1 ∧ step.1 < step.2 ∧ step.2 ≤ 4 ∧ Red step := by
  rcases m.st with rfl | rfl | rfl | rfl | rfl <;> exact ⟨by decide, by decide, by decide, by decide, by decide⟩
theorem Made.whole {ws : List Int} {extra : Int} {step : RT} (m : Made ws extra step) : 0 < wholeOf ws extra step ∧ wholeOf ws extra step ≤ 200 := by
  have h1 := sum_bound m.nn
  have h2 := last_le_sum m.nn
  have h3 := m.last
  have h4 := m.ex
  have h5 := m.len
  unfold wholeOf
  generalize ws.sum = S at *
  generalize lastW ws = L at *
  rcases m.st with rfl | rfl | rfl | rfl | rfl <;> dsimp only <;> omega

end Fp

set_option Elab.async false
set_option linter.all false
set_option maxRecDepth 100000
set_option maxHeartbeats 4000000
set_option exponentiation.threshold 10000
namespace Fp
open PySem PySem.Spec PyProof.Rows L2
abbrev s_life : Stmt := topS 38
abbrev N_life : List Str := ["_law_feed_here", "_law_way", "_law_many", "_law_part", "_law_weights", "_law_top", "_law_bottom", "_law_extra", "_law_whole", "_law_k", "_law_weight"]
theorem sc_life : FnScope N_life ["_law_feed_here", "_law_way"] (defScope s_life) := ⟨rfl, rfl, rfl, by decide +kernel, rfl, by decide +kernel, by decide +kernel⟩
theorem pick4 {a b c d : V} {r : Int} (h0 : 0 ≤ r) (h1 : r < 4) : ∃ v, atI [a, b, c, d] r = some v ∧ (v = a ∨ v = b ∨ v = c ∨ v = d) := by
  rcases (by omega : r = 0 ∨ r = 1 ∨ r = 2 ∨ r = 3) with rfl | rfl | rfl | rfl
  · exact ⟨a, atI_nat (j := 0) rfl, .inl rfl⟩
  · exact ⟨b, atI_nat (j := 1) rfl, .inr (.inl rfl)⟩
  · exact ⟨c, atI_nat (j := 2) rfl, .inr (.inr (.inl rfl))⟩
  · exact ⟨d, atI_nat (j := 3) rfl, .inr (.inr (.inr rfl))⟩
theorem pick2' {a b : V} {r : Int} (h0 : 0 ≤ r) (h1 : r < 2) : ∃ v, atI [a, b] r = some v ∧ (v = a ∨ v = b) := by
  rcases (by omega : r = 0 ∨ r = 1) with rfl | rfl
  · exact ⟨a, atI_nat (j := 0) rfl, .inl rfl⟩
  · exact ⟨b, atI_nat (j := 1) rfl, .inr rfl⟩
theorem tk_lst {K : PySem.W.Frag} {H : Hp} {p : Addr} {xs ys : List V} (h : H p = some (.lst xs)) : Tk K H (upd H p (.lst ys)) := fun a zs z => by
  rcases z with (z | ⟨o, z⟩) | z
  · exact .inl (.inl (by rw [upd_ne (ne_of z h (by intro y; cases y))]; exact z))
  · exact .inl (.inr ⟨o, by rw [upd_ne (ne_of z h (by intro y; cases y))]; exact z⟩)
  · exact .inr z
theorem last_set {ws : List Int} (h : ws ≠ []) (x : Int) : lastW (ws.set (ws.length - 1) x) = x := by
  unfold lastW
  rw [List.getLastD_eq_getLast?, List.getLast?_eq_getElem?, List.length_set, List.getElem?_set_self (by
    have := List.length_pos_iff.mpr h
    omega)]
  rfl
theorem last_get {ws : List Int} (h : ws ≠ []) : ws[ws.length - 1]? = some (lastW ws) := by
  unfold lastW
  rw [List.getLastD_eq_getLast?, List.getLast?_eq_getElem?]
  have := List.length_pos_iff.mpr h
  rw [List.getElem?_eq_getElem (by omega)]
  rfl
theorem atI_lastW {ws : List Int} (h : ws ≠ []) : atI (ws.map V.int) (-1) = some (.int (lastW ws)) := by
  have e : ws.map V.int = ws.dropLast.map V.int ++ [V.int (ws.getLast h)] := by
    rw [← List.map_singleton, ← List.map_append, List.dropLast_concat_getLast]
  rw [e, atI_last]
  unfold lastW
  rw [List.getLastD_eq_getLast?, List.getLast?_eq_some_getLast h]
  rfl
section
variable {P : Program} {w : World} {K : PySem.W.Frag} {mg : Str → Option Value} {base : Heap}
def spLife (K : PySem.W.Frag) : Sp := fun vs H Q _ => ∃ (d c : Addr) (way t : Int), vs = [.ref d, .int way] ∧ Feed H d c t ∧ t ≤ 900000 ∧
  ∀ p ws extra step t' H', Keep d H H' → Feed H' d c t' → t' ≤ t + 12 → Made ws extra step → (way ≠ 2 → way ≠ 4 → extra = 0) → (way = 2 ∨ way = 4 → 0 < extra) → (way ≠ 3 → way ≠ 4 → step = (0, 1)) → LifeAt K H' p (rowOf ws extra step) step → Q (.ref p) H'
theorem draws_row {K : PySem.W.Frag} {H : Hp} {rs : List Addr} {xs : List RT} {p : Addr} {x : RT} (h : RsAt K H rs xs) (e : RAt K H p x) : RsAt K H (rs ++ [p]) (xs ++ [x]) := h.append (.cons e .nil)
theorem in_two {a b x : Int} : inV (.int x) [.int a, .int b] = (decide (x = a) || decide (x = b)) := by
  have e : ∀ y : Int, eqV (.int y) (.int x) = decide (x = y) := fun y => by
    show (y == x) = _
    rw [Bool.eq_iff_iff]
    simp
    exact ⟨fun z => z.symm, fun z => z.symm⟩
  unfold inV
  rw [List.any_cons, List.any_cons, List.any_nil, e, e, Bool.or_false]
theorem map_last {ws : List Int} (h : ws ≠ []) (x : Int) : ws.set (ws.length - 1) x ≠ [] := by
  intro z
  have := congrArg List.length z
  rw [List.length_set, List.length_nil] at this
  exact h (List.length_eq_zero_iff.mp this)
theorem ixN_last {n : Nat} (h : 0 < n) : ixN n (-1) = some (n - 1) := by
  unfold ixN
  rw [if_neg (by omega)]
  first
    | (rw [if_pos (by omega)]; congr 1; omega)
    | (simp; omega)
theorem ok_life {f fD fL : Addr} {fd fdD fdL : FuncData} (F : Fun K "_law_life" "_law_life" s_life f fd) (FD : Fun K "_law_draw" "_law_draw" s_draw fD fdD) (bD : Binds K fdD ["_law_feed_here", "_law_many"] []) (gD : mg "_law_draw" = some (.ref fD))
    (GD : FnOk P w K mg base CX0 1 fD fdD ["_law_feed_here", "_law_many"] spDraw)
    (FL : Fun K "_law_low" "_law_low" s_low fL fdL) (bL : Binds K fdL ["_law_top", "_law_bottom"] []) (gL : mg "_law_low" = some (.ref fL)) (GL : FnOk P w K mg base CX0 1 fL fdL ["_law_top", "_law_bottom"] spLow)
    (mr : mg "range" = none) (mi : mg "int" = none) (ms : mg "sum" = none) (mt : mg "tuple" = none) : FnOk P w K mg base CX0 2 f fd ["_law_feed_here", "_law_way"] (spLife K) := by
  refine F.ok sc_life (fun vs H Q E h => ?_) (fun cdv A outer s H vs Q E hr h => ?_)
  · obtain ⟨_, _, _, _, rfl, _⟩ := h
    rfl
  · obtain ⟨d, c, way, t, rfl, f0, ht, q⟩ := h
    have hr1 := hr
    refine ⟨_, (pss_cons (ps_set (i := 2) sc_life.nd rfl (.inl rfl) (pe_op op_add pe_int (pe_call GD hr (by rfl) gD FD.kp bD .nil pass0 (pa_cons (pv 0) (pa_cons (pe_ix ix_list (pe_lst (pa_cons pe_int (pa_cons pe_int pa_nil))) (pe_call GD hr (by rfl) gD FD.kp bD .nil pass0 (pa_cons (pv 0) (pa_cons pe_int pa_nil))) (fun _ _ => rfl)) pa_nil))))) (pss_cons (ps_set (i := 3) sc_life.nd rfl (.inr rfl) (pe_op op_add pe_int (pe_call GD hr (by rfl) gD FD.kp bD .nil pass0 (pa_cons (pv 0) (pa_cons pe_int pa_nil))))) (pss_mid (ps_if (pt_cmpR op_eq (pv 1) pe_int (nomark _)) (pss_one (ps_set (i := 2) sc_life.nd rfl (.inl rfl) (pe_op op_mul (pv 3) (pe_op op_add pe_int (pe_call GD hr (by rfl) gD FD.kp bD .nil pass0 (pa_cons (pv 0) (pa_cons (pe_op op_fdiv pe_int (pv 3)) pa_nil))))))) pss_nil) (pss_mid (ps_set (i := 4) sc_life.nd rfl (.inr rfl) (pe_lc (own := [("_law_k", 9)]) (g := gName 9) (tt := tYes) rfl sc_life.nd (pi_range1 (by rfl) mr (pa_cons (pv 2) pa_nil)) (blkOk_by (own := [("_law_k", 9)]) (N := N_life) (sc := defScope s_life) (by decide +kernel))
          (fun _ _ _ _ _ => pg_name (i := 9) sc_life.nd rfl (.inl rfl)) (fun _ _ _ _ _ => pts_nil) (fun _ _ _ _ _ => (pe_call GD hr (by rfl) gD FD.kp bD .nil pass0 (pa_cons (pv 0) (pa_cons pe_int pa_nil)))))) (pss_mid (ps_asg (pe_ifExp (pt_cmpR op_in_seq (pv 1) (pe_tup (pa_cons pe_int (pa_cons pe_int pa_nil))) (by rfl))
          (pe_ix ix_list (pe_lst (pa_cons (pe_tup (pa_cons pe_int (pa_cons pe_int pa_nil))) (pa_cons (pe_tup (pa_cons pe_int (pa_cons pe_int pa_nil))) (pa_cons (pe_tup (pa_cons pe_int (pa_cons pe_int pa_nil))) (pa_cons (pe_tup (pa_cons pe_int (pa_cons pe_int pa_nil))) pa_nil))))) (pe_call GD hr (by rfl) gD FD.kp bD .nil pass0 (pa_cons (pv 0) (pa_cons pe_int pa_nil))) (fun _ _ => rfl))
          (pe_tup (pa_cons pe_int (pa_cons pe_int pa_nil)))) (pg_tup rfl (pgs_cons (pg_name (i := 5) sc_life.nd rfl (.inr rfl)) (pgs_cons (pg_name (i := 6) sc_life.nd rfl (.inr rfl)) pgs_nil)))) (pss_mid (ps_if (pt_cmpR op_eq (pv 1) pe_int (nomark _)) (pss_one (ps_set (i := 4) sc_life.nd rfl (.inr rfl) (pe_lc (own := [("_law_k", 9)]) (g := gName 9) (tt := tYes) (te := tOp (rI CMul fun i j => .int (i * j)) (tOp (rIxL K) (tVar 4) (tVar 9)) (tCB (fun xs H Q => (∃ i, xs = [.int i] ∧ Q (.int i) H) ∨ ∃ k, xs = [.bl k] ∧ Q (.int (if k then 1 else 0)) H) (tCons (tOp rEq (tOp (rI (fun _ j => j ≠ 0) fun i j => .int (i.fmod j)) (tOp (rI0 fun i j => .int (i + j)) (tVar 9) (tC (.int 1))) (tVar 3)) (tC (.int 0))) tNil))) rfl sc_life.nd (pi_range1 (by rfl) mr (pa_cons (pv 2) pa_nil)) (blkOk_by (own := [("_law_k", 9)]) (N := N_life) (sc := defScope s_life) (by decide +kernel))
          (fun _ _ _ _ _ => pg_name (i := 9) sc_life.nd rfl (.inl rfl)) (fun _ _ _ _ _ => pts_nil)
          (fun _ _ _ _ _ => (pe_op op_mul (pe_ix ix_list (pv 4) (pv 9) (fun _ _ => rfl)) (pe_callTy call_int1 (by rfl) mi (by decide +kernel) (pa_cons (pe_cmpR op_eq (pe_op op_modN (pe_op op_add (pv 9) pe_int) (pv 3)) pe_int (nomark _)) pa_nil))))))) pss_nil) (pss_mid (ps_asg (pe_op op_add (pe_ix ix_list (pv 4) (pe_un un_neg pe_int) (fun _ _ => rfl)) pe_int) (pg_sub (pv 4) (pe_un un_neg pe_int) set_list)) (pss_mid (ps_set (i := 7) sc_life.nd rfl (.inl rfl) (pe_ifExp (pt_cmpR op_in_seq (pv 1) (pe_tup (pa_cons pe_int (pa_cons pe_int pa_nil))) (by rfl)) (pe_op op_add pe_int (pe_call GD hr (by rfl) gD FD.kp bD .nil pass0 (pa_cons (pv 0) (pa_cons pe_int pa_nil)))) pe_int)) (pss_cons (ps_set (i := 8) sc_life.nd rfl (.inr rfl) (pe_op op_add (pe_op op_mul (pe_op op_sub (pv 6) (pv 5)) (pe_op op_add (pe_callB (cr_sum rfl) (by rfl) ms (by decide +kernel) (pa_cons (pv 4) pa_nil)) (pv 7))) (pe_op op_mul (pv 5) (pe_ix ix_list (pv 4) (pe_un un_neg pe_int) (fun _ _ => rfl))))) (pss_one (ps_ret (pe_tup (pa_cons (pe_callTy call_tuple_of (by rfl) mt (by decide +kernel) (pa_cons (pe_lc (own := [("_law_weight", 10)]) (g := gName 10) (tt := tYes) rfl sc_life.nd (pi_list (pv 4)) (blkOk_by (own := [("_law_weight", 10)]) (N := N_life) (sc := defScope s_life) (by decide +kernel))
          (fun _ _ _ _ _ => pg_name (i := 10) sc_life.nd rfl (.inl rfl)) (fun _ _ _ _ _ => pts_nil) (fun _ _ _ _ _ => (pe_call GL hr1 (by rfl) gL FL.kp bL .nil pass0 (pa_cons (pe_op op_mul (pe_op op_sub (pv 6) (pv 5)) (pv 10)) (pa_cons (pv 8) pa_nil))))) pa_nil))
          (pa_cons (pe_tup (pa_cons (pv 5) (pa_cons (pv 6) pa_nil))) pa_nil)))))))))))))), ?_⟩
    -- many, part
    refine ⟨_, rfl, by show 2 ≤ sizeLine; decide, fun p1 n1 => ?_⟩
    refine ⟨_, rfl, d, c, 2, t, rfl, f0.new n1, by omega, by decide, by decide, fun r1 H1 h10 h11 k1 f1 => ?_⟩
    obtain ⟨v1, e1, c1⟩ := pick2' (a := V.int 3) (b := V.int 6) h10 h11
    obtain ⟨x1, rfl, y1⟩ : ∃ x : Int, v1 = .int x ∧ 0 < x ∧ x ≤ 6 := by
      rcases c1 with z | z
      · exact ⟨3, z, by decide, by decide⟩
      · exact ⟨6, z, by decide, by decide⟩
    refine ⟨p1, _, r1, _, rfl, rfl, SqL.of (keep_at (f0.new n1) k1 upd_same (fun _ z => nomatch z)), e1, ?_⟩
    refine ⟨d, c, x1, t + 1, rfl, f1, by omega, y1.1, by omega, fun r2 H2 h20 h21 k2 f2 => ?_⟩
    refine ⟨1, r2, rfl, rfl, ?_⟩
    refine ⟨_, rfl, d, c, 2, t + 1 + 1, rfl, f2, by omega, by decide, by decide, fun r3 H3 h30 h31 k3 f3 => ?_⟩
    refine ⟨2, r3, rfl, rfl, ?_⟩
    have K3 := (keep_new n1 k1).trans (k2.trans k3)
    -- way 5
    refine ⟨fun σ H4 => ∃ many t4 : Int, σ = [some (.ref d), some (.int way), some (.int many), some (.int (2 + r3)), none, none, none, none, none, none, none] ∧ Keep d H H4 ∧ Feed H4 d c t4 ∧ t4 ≤ t + 4 ∧ 1 ≤ many ∧ many ≤ 6, ?_, ?_⟩
    · refine ⟨_, rfl, rfl, _, rfl, ite2 (fun c5 => ?_) (fun c5 => ?_)⟩
      · refine ⟨_, rfl, _, rfl, _, rfl, 6, 2 + r3, rfl, rfl, ⟨by omega, by omega⟩, ?_⟩
        have m6 : 1 ≤ 6 / (2 + r3) ∧ (2 + r3) * (6 / (2 + r3)) ≤ 6 := by
          rcases (by omega : r3 = 0 ∨ r3 = 1) with rfl | rfl <;> decide
        refine ⟨d, c, _, t + 1 + 1 + 1, rfl, f3, by omega, by omega, ?_, fun r4 H4 h40 h41 k4 f4 => ?_⟩
        · rcases (by omega : r3 = 0 ∨ r3 = 1) with rfl | rfl <;> decide
        · refine ⟨1, r4, rfl, rfl, 2 + r3, 1 + r4, rfl, rfl, .inl ⟨by omega, by omega⟩, _, _, rfl, K3.trans k4, f4, by omega, ?_, ?_⟩
          · rcases (by omega : r3 = 0 ∨ r3 = 1) with rfl | rfl <;> omega
          · rcases (by omega : r3 = 0 ∨ r3 = 1) with rfl | rfl
            · have : r4 < 3 := h41
              omega
            · have : r4 < 2 := h41
              omega
      · exact ⟨_, _, rfl, K3, f3, by omega, by omega, by omega⟩
    rintro σ H4 ⟨many, t4, rfl, K4, f4, ht4, hm1, hm6⟩
    -- weights
    refine ⟨fun σ H5 => ∃ (W : Addr) (ws : List Int) (t5 : Int), σ = [some (.ref d), some (.int way), some (.int many), some (.int (2 + r3)), some (.ref W), none, none, none, none, none, none] ∧ Keep d H H5 ∧ Feed H5 d c t5 ∧ t5 ≤ t4 + many ∧ H W = none ∧ W ≠ c ∧
      H5 W = some (.lst (ws.map V.int)) ∧ (ws.length : Int) = many ∧ ∀ x ∈ ws, 0 ≤ x ∧ x ≤ 4, ?_, ?_⟩
    · refine ⟨_, rfl, many, rfl, by omega, by omega, fun W nW => ?_⟩
      have nW0 := K4.none f4 nW
      have nWc := f4.nc nW
      have nWd := f4.nd nW
      refine lc_range (lo := 0) (n := many.toNat) (fun i H5 => ∃ (ws : List Int) (t5 : Int), Keep d H H5 ∧ Feed H5 d c t5 ∧ t5 = t4 + i ∧ H5 W = some (.lst (ws.map V.int)) ∧ ws.length = i ∧ ∀ x ∈ ws, 0 ≤ x ∧ x ≤ 4) ?_ ?_ ?_
      · exact ⟨[], t4, K4.wr nW0, f4.wr nWd nWc, by omega, upd_same, rfl, fun x hx => by simp at hx⟩
      · rintro i H5 hi ⟨ws, t5, K5, f5, et, hW, hl, hx⟩
        refine ⟨rfl, tYes_go ?_⟩
        refine iteT ?_
        refine ⟨_, rfl, d, c, 5, t5, rfl, f5, by omega, by decide, by decide, fun r H6 h0 h1 k6 f6 => ?_⟩
        refine ⟨ws.map V.int, keep_at f5 k6 hW (fun _ z => nomatch z), by rw [List.length_map, hl]; exact small1000 (by omega), ?_⟩
        refine ⟨ws ++ [r], t5 + 1, (K5.trans k6).wr nW0, f6.wr nWd nWc, by omega, ?_, by simp [hl], fun x hx2 => ?_⟩
        · rw [upd_same, List.map_append]
          rfl
        · rcases List.mem_append.mp hx2 with z | z
          · exact hx x z
          · have := List.mem_singleton.mp z
            omega
      · rintro H5 ⟨ws, t5, K5, f5, et, hW, hl, hx⟩
        exact ⟨W, ws, t5, rfl, K5, f5, by omega, nW0, nWc, hW, by omega, hx⟩
    rintro σ H5 ⟨W, ws, t5, rfl, K5, f5, ht5, nW0, nWc, hW, hl, hx⟩
    -- top, bottom
    refine ⟨fun σ H6 => ∃ (step : RT) (t6 : Int), σ = [some (.ref d), some (.int way), some (.int many), some (.int (2 + r3)), some (.ref W), some (.int step.1), some (.int step.2), none, none, none, none] ∧ Keep d H H6 ∧ Feed H6 d c t6 ∧ t6 ≤ t5 + 1 ∧ H6 W = some (.lst (ws.map V.int)) ∧
      (step = (0, 1) ∨ step = (1, 2) ∨ step = (1, 3) ∨ step = (2, 3) ∨ step = (3, 4)) ∧ (way ≠ 3 → way ≠ 4 → step = (0, 1)), ?_, ?_⟩
    · refine ⟨_, rfl, by show 2 ≤ sizeLine; decide, fun p2 n2 => ?_⟩
      refine ⟨p2, _, rfl, .inr (SqT.of upd_same), rfl, rfl, _, rfl, ?_⟩
      rw [in_two]
      have a2 := same_new (o := HO.tup [.int 3, .int 4]) n2
      refine ite2 (fun c6 => ?_) (fun c6 => ?_)
      · refine ⟨by show 2 ≤ sizeLine; decide, fun q1 m1 => ?_⟩
        have a3 := same_new (o := HO.tup [.int 1, .int 2]) m1
        refine ⟨by show 2 ≤ sizeLine; decide, fun q2 m2 => ?_⟩
        have a4 := same_new (o := HO.tup [.int 1, .int 3]) m2
        refine ⟨by show 2 ≤ sizeLine; decide, fun q3 m3 => ?_⟩
        have a5 := same_new (o := HO.tup [.int 2, .int 3]) m3
        refine ⟨by show 2 ≤ sizeLine; decide, fun q4 m4 => ?_⟩
        have a6 := same_new (o := HO.tup [.int 3, .int 4]) m4
        refine ⟨by show 4 ≤ sizeLine; decide, fun q5 m5 => ?_⟩
        have a7 := same_new (o := HO.lst [.ref q1, .ref q2, .ref q3, .ref q4]) m5
        have S := a2.trans (a3.trans (a4.trans (a5.trans (a6.trans a7))))
        have g1 := a7 _ _ (a6 _ _ (a5 _ _ (a4 _ _ (upd_same (H := upd H5 p2 (HO.tup [.int 3, .int 4])) (a := q1) (o := HO.tup [.int 1, .int 2])))))
        have g2 := a7 _ _ (a6 _ _ (a5 _ _ (upd_same (H := upd (upd H5 p2 (HO.tup [.int 3, .int 4])) q1 (HO.tup [.int 1, .int 2])) (a := q2) (o := HO.tup [.int 1, .int 3]))))
        have g3 := a7 _ _ (a6 _ _ (upd_same (H := upd (upd (upd H5 p2 (HO.tup [.int 3, .int 4])) q1 (HO.tup [.int 1, .int 2])) q2 (HO.tup [.int 1, .int 3])) (a := q3) (o := HO.tup [.int 2, .int 3])))
        have g4 := a7 _ _ (upd_same (H := upd (upd (upd (upd H5 p2 (HO.tup [.int 3, .int 4])) q1 (HO.tup [.int 1, .int 2])) q2 (HO.tup [.int 1, .int 3])) q3 (HO.tup [.int 2, .int 3])) (a := q4) (o := HO.tup [.int 3, .int 4]))
        have fS := f5.same S
        refine ⟨_, rfl, d, c, 4, t5, rfl, fS, by omega, by decide, by decide, fun r H6 h0 h1 k6 f6 => ?_⟩
        have tk : Tk K _ H6 := Tk.keep fS k6
        obtain ⟨v, ev, cv⟩ := pick4 (a := V.ref q1) (b := V.ref q2) (c := V.ref q3) (d := V.ref q4) h0 h1
        obtain ⟨qq, step, rfl, hs, hq⟩ : ∃ (qq : Addr) (step : RT), v = .ref qq ∧ (step = (0, 1) ∨ step = (1, 2) ∨ step = (1, 3) ∨ step = (2, 3) ∨ step = (3, 4)) ∧ SqT K H6 qq [.int step.1, .int step.2] := by
          rcases cv with z | z | z | z
          · exact ⟨q1, (1, 2), z, by decide, tk _ _ (SqT.of g1)⟩
          · exact ⟨q2, (1, 3), z, by decide, tk _ _ (SqT.of g2)⟩
          · exact ⟨q3, (2, 3), z, by decide, tk _ _ (SqT.of g3)⟩
          · exact ⟨q4, (3, 4), z, by decide, tk _ _ (SqT.of g4)⟩
        refine ⟨q5, _, r, _, rfl, rfl, SqL.of (keep_at fS k6 upd_same (fun _ z => nomatch z)), ev, ?_⟩
        refine ⟨qq, _, rfl, hq, rfl, _, _, rfl, _, _, rfl, rfl, step, t5 + 1, rfl, K5.trans ((Keep.of_same S).trans k6), f6, by omega, keep_at fS k6 (S _ _ hW) (fun _ z => nomatch z), hs, fun z1 z2 => ?_⟩
        simp [z1, z2] at c6
      · refine ⟨by show 2 ≤ sizeLine; decide, fun q1 m1 => ?_⟩
        have a3 := same_new (o := HO.tup [.int 0, .int 1]) m1
        exact ⟨q1, _, rfl, SqT.of upd_same, rfl, _, _, rfl, _, _, rfl, rfl, (0, 1), t5, rfl, K5.trans ((Keep.of_same a2).trans (Keep.of_same a3)), (f5.same a2).same a3, by omega, a3 _ _ (a2 _ _ hW), .inl rfl, fun _ _ => rfl⟩
    rintro σ H6 ⟨step, t6, rfl, K6, f6, ht6, hW6, hst, hs34⟩
    -- way 5 again
    refine ⟨fun σ H7 => ∃ (W : Addr) (ws : List Int) (y9 : Option V), σ = [some (.ref d), some (.int way), some (.int many), some (.int (2 + r3)), some (.ref W), some (.int step.1), some (.int step.2), none, none, y9, none] ∧ Keep d H H7 ∧ Feed H7 d c t6 ∧ H W = none ∧ W ≠ c ∧
      H7 W = some (.lst (ws.map V.int)) ∧ (ws.length : Int) = many ∧ ∀ x ∈ ws, 0 ≤ x ∧ x ≤ 4, ?_, ?_⟩
    · refine ⟨_, rfl, rfl, _, rfl, ite2 (fun c5 => ?_) (fun c5 => ?_)⟩
      · refine ⟨_, rfl, many, rfl, by omega, by omega, fun W2 n2 => ?_⟩
        have m0 := K6.none f6 n2
        have mc := f6.nc n2
        have md := f6.nd n2
        have nWW : W ≠ W2 := ne_of_none hW6 n2
        refine lc_range (lo := 0) (n := many.toNat) (fun i H7 => ∃ us : List Int, Keep d H H7 ∧ Feed H7 d c t6 ∧ H7 W = some (.lst (ws.map V.int)) ∧ H7 W2 = some (.lst (us.map V.int)) ∧ us.length = i ∧ ∀ x ∈ us, 0 ≤ x ∧ x ≤ 4) ?_ ?_ ?_
        · refine ⟨[], K6.wr m0, f6.wr md mc, ?_, upd_same, rfl, fun x hx => by simp at hx⟩
          rw [upd_ne nWW]
          exact hW6
        · rintro i H7 hi ⟨us, K7, f7, hW7, hU7, hul, hux⟩
          have hi2 : i < ws.length := by omega
          have hg : (ws.map V.int)[i]? = some (.int ws[i]) := by
            rw [List.getElem?_map, List.getElem?_eq_getElem hi2]
            rfl
          have hwi := hx ws[i] (List.getElem_mem hi2)
          refine ⟨rfl, tYes_go ?_⟩
          refine iteT ?_
          refine ⟨_, rfl, _, rfl, W, _, _, _, rfl, rfl, SqL.of hW7, at_of (by omega) hg, ?_⟩
          refine ⟨_, rfl, _, 1, rfl, rfl, _, rfl, _, 2 + r3, rfl, rfl, by show (2 + r3 : Int) ≠ 0; omega, rfl, .inr ⟨_, rfl, ?_⟩⟩
          have fin : ∀ b : Bool, 0 ≤ ws[i] * (if b = true then 1 else 0) ∧ ws[i] * (if b = true then 1 else 0) ≤ 4 := fun b => by
            cases b
            · rw [if_neg (by decide), Int.mul_zero]
              exact ⟨by decide, by decide⟩
            · rw [if_pos rfl, Int.mul_one]
              exact hwi
          refine ⟨_, _, rfl, rfl, .inl ⟨by omega, by omega⟩, us.map V.int, hU7, by rw [List.length_map, hul]; exact small1000 (by omega), us ++ [ws[i] * (if decide (V.int ((0 + (i : Int) + 1).fmod (2 + r3)) = V.int 0) = true then 1 else 0)], K7.wr m0, f7.wr md mc, ?_, ?_, by simp [hul], fun x hx2 => ?_⟩
          · rw [upd_ne nWW]
            exact hW7
          · rw [upd_same, List.map_append]
            rfl
          · rcases List.mem_append.mp hx2 with z | z
            · exact hux x z
            · have := List.mem_singleton.mp z
              subst this
              exact fin _
        · rintro H7 ⟨us, K7, f7, hW7, hU7, hul, hux⟩
          exact ⟨W2, us, _, rfl, K7, f7, m0, mc, hU7, by omega, hux⟩
      · exact ⟨W, ws, _, rfl, K6, f6, nW0, nWc, hW6, hl, hx⟩
    clear hx hl hW6 hW nWc nW0
    rintro σ H7 ⟨W, ws, y9, rfl, K7, f7, nW0, nWc, hW, hl, hx⟩
    have hne : ws ≠ [] := fun z => by
      rw [z] at hl
      simp at hl
      omega
    have nWd : W ≠ d := f7.ne hW (fun _ z => nomatch z)
    -- the last one
    refine ⟨fun σ H8 => ∃ us : List Int, σ = [some (.ref d), some (.int way), some (.int many), some (.int (2 + r3)), some (.ref W), some (.int step.1), some (.int step.2), none, none, y9, none] ∧ Keep d H H8 ∧ Feed H8 d c t6 ∧ H8 W = some (.lst (us.map V.int)) ∧
      us ≠ [] ∧ us.length ≤ 6 ∧ (∀ x ∈ us, 0 ≤ x ∧ x ≤ 5) ∧ 0 < lastW us, ?_, ?_⟩
    · have hlast : 0 ≤ lastW ws ∧ lastW ws ≤ 4 := hx _ (by
        have := last_get hne
        exact List.mem_of_getElem? this)
      refine ⟨_, rfl, 1, rfl, W, _, -1, _, rfl, rfl, SqL.of hW, atI_lastW hne, lastW ws, 1, rfl, rfl, ?_⟩
      refine ⟨_, rfl, 1, rfl, W, _, -1, ws.length - 1, rfl, rfl, hW, ?_, ?_⟩
      · rw [List.length_map]
        exact ixN_last (List.length_pos_iff.mpr hne)
      · refine ⟨ws.set (ws.length - 1) (lastW ws + 1), rfl, K7.wr nW0, f7.wr nWd nWc, ?_, map_last hne _, ?_, fun x hx2 => ?_, ?_⟩
        · rw [upd_same, List.map_set]
        · rw [List.length_set]
          omega
        · rcases List.mem_or_eq_of_mem_set hx2 with z | z
          · have := hx x z
            omega
          · omega
        · rw [last_set hne]
          omega
    clear hx hl hW hne
    rintro σ H8 ⟨us, rfl, K8, f8, hW, hne, hl, hx, hlast⟩
    -- extra
    refine ⟨fun σ H9 => ∃ extra t9 : Int, σ = [some (.ref d), some (.int way), some (.int many), some (.int (2 + r3)), some (.ref W), some (.int step.1), some (.int step.2), some (.int extra), none, y9, none] ∧ Keep d H H9 ∧ Feed H9 d c t9 ∧ t9 ≤ t6 + 1 ∧ H9 W = some (.lst (us.map V.int)) ∧
      0 ≤ extra ∧ extra ≤ 8 ∧ (way ≠ 2 → way ≠ 4 → extra = 0) ∧ (way = 2 ∨ way = 4 → 0 < extra), ?_, ?_⟩
    · refine ⟨_, rfl, by show 2 ≤ sizeLine; decide, fun p2 n2 => ?_⟩
      refine ⟨p2, _, rfl, .inr (SqT.of upd_same), rfl, rfl, _, rfl, ?_⟩
      rw [in_two]
      have a2 := same_new (o := HO.tup [.int 2, .int 4]) n2
      refine ite2 (fun c6 => ?_) (fun c6 => ?_)
      · refine ⟨_, rfl, d, c, 8, t6, rfl, f8.same a2, by omega, by decide, by decide, fun r H9 h0 h1 k9 f9 => ?_⟩
        refine ⟨1, r, rfl, rfl, 1 + r, t6 + 1, rfl, K8.trans ((Keep.of_same a2).trans k9), f9, by omega, keep_at (f8.same a2) k9 (a2 _ _ hW) (fun _ z => nomatch z), by omega, by omega, fun z1 z2 => ?_, fun _ => by omega⟩
        simp [z1, z2] at c6
      · refine ⟨0, t6, rfl, K8.trans (Keep.of_same a2), f8.same a2, by omega, a2 _ _ hW, by decide, by decide, fun _ _ => rfl, fun z => ?_⟩
        rcases z with z | z <;> simp [z] at c6
    rintro σ H9 ⟨extra, t9, rfl, K9, f9, ht9, hW9, he0, he8, he24, hep⟩
    have M : Made us extra step := ⟨hne, hl, hx, hlast, ⟨he0, he8⟩, hst⟩
    obtain ⟨s1, s2, s3, s4⟩ := M.step_ok
    have hsum := sum_bound hx
    have hll := last_le_sum hx
    obtain ⟨w0, w1⟩ := M.whole
    -- whole
    refine ⟨_, rfl, _, rfl, step.2, step.1, rfl, rfl, _, rfl, W, us, rfl, SqL.of hW9, _, rfl, us.sum, extra, rfl, rfl, _, _, rfl, rfl, .inl ⟨by omega, by omega⟩,
      _, rfl, _, rfl, 1, rfl, W, _, -1, _, rfl, rfl, SqL.of hW9, atI_lastW hne, step.1, lastW us, rfl, rfl, .inl ⟨by omega, by omega⟩, _, _, rfl, rfl, ?_⟩
    -- the row
    refine ⟨_, rfl, W, rfl, ⟨_, SqL.of hW9⟩, fun R nR => ?_⟩
    have nRW : W ≠ R := ne_of_none hW9 nR
    have nR0 := K9.none f9 nR
    have nRc := f9.nc nR
    have nRd := f9.nd nR
    refine lc_list (K := K) (a := W) (xs := us.map V.int) (fun i HA => ∃ rs : List Addr, Keep d H HA ∧ Feed HA d c t9 ∧ HA W = some (.lst (us.map V.int)) ∧ HA R = some (.lst (rs.map V.ref)) ∧ RsAt K HA rs ((rowOf us extra step).take i)) ?_ ?_ ?_ ?_
    · refine ⟨[], K9.wr nR0, f9.wr nRd nRc, ?_, upd_same, .nil⟩
      rw [upd_ne nRW]
      exact hW9
    · rintro i HA hi ⟨rs, KA, fA, hWA, hRA, hrs⟩
      exact SqL.of hWA
    · rintro i y HA hi ⟨rs, KA, fA, hWA, hRA, hrs⟩
      obtain ⟨x, hxi, rfl⟩ : ∃ x, us[i]? = some x ∧ y = V.int x := by
        rw [List.getElem?_map] at hi
        match e : us[i]? with
        | none =>
          rw [e] at hi
          cases hi
        | some z =>
          rw [e] at hi
          exact ⟨z, rfl, (Option.some.inj hi).symm⟩
      have hx5 := hx x (List.mem_of_getElem? hxi)
      have hlen : i < us.length := (List.getElem?_eq_some_iff.mp hxi).1
      refine ⟨rfl, tYes_go ?_⟩
      refine iteT ?_
      refine ⟨_, rfl, _, rfl, step.2, step.1, rfl, rfl, _, rfl, _, x, rfl, rfl, .inl ⟨by omega, by omega⟩, _, rfl, ?_⟩
      refine ⟨_, _, rfl, w0, ?_, fun p np => ?_⟩
      · have : Sm 8 (wholeOf us extra step) := by
          unfold Sm
          omega
        exact this.mono (by decide)
      have nRp : R ≠ p := ne_of_none hRA np
      have hr2 := same_new (o := HO.tup [.int (ratT ((step.2 - step.1) * x) (wholeOf us extra step)), .int (ratB ((step.2 - step.1) * x) (wholeOf us extra step))]) np
      refine ⟨rs.map V.ref, hr2 _ _ hRA, ?_, rs ++ [p], (KA.trans (Keep.of_same hr2)).wr nR0, (fA.same hr2).wr nRd nRc, ?_, ?_, ?_⟩
      · have := hrs.length
        rw [List.length_map, this, List.length_take]
        exact small1000 (by omega)
      · rw [upd_ne nRW]
        exact hr2 _ _ hWA
      · rw [upd_same, List.map_append]
        rfl
      · have tk1 : Tk K HA (upd HA p _) := Tk.same hr2
        have tk2 : Tk K (upd HA p _) (upd (upd HA p (HO.tup [.int (ratT ((step.2 - step.1) * x) (wholeOf us extra step)), .int (ratB ((step.2 - step.1) * x) (wholeOf us extra step))])) R (.lst (rs.map V.ref ++ [V.ref p]))) := tk_lst (hr2 _ _ hRA)
        have e : (rowOf us extra step).take (i + 1) = (rowOf us extra step).take i ++ [low2 ((step.2 - step.1) * x) (wholeOf us extra step)] := by
          rw [List.take_add_one]
          congr 1
          unfold rowOf
          rw [List.getElem?_map, hxi]
          rfl
        rw [e]
        exact draws_row ((hrs.tk tk1).tk tk2) (tk2 _ _ (SqT.of upd_same))
    · rintro HA ⟨rs, KA, fA, hWA, hRA, hrs⟩
      rw [List.length_map] at hrs
      have e : (rowOf us extra step).take us.length = rowOf us extra step := by
        rw [List.take_of_length_le]
        unfold rowOf
        rw [List.length_map]
        exact Nat.le_refl _
      rw [e] at hrs
      refine ⟨R, _, rfl, .inl ⟨SqL.of hRA, fun T nT => ?_⟩⟩
      have b1 := same_new (o := HO.tup (rs.map V.ref)) nT
      refine ⟨_, rfl, _, rfl, by show 2 ≤ sizeLine; decide, fun S nS => ?_⟩
      have b2 := same_new (o := HO.tup [.int step.1, .int step.2]) nS
      refine ⟨by show 2 ≤ sizeLine; decide, fun Z nZ => ?_⟩
      have b3 := same_new (o := HO.tup [.ref T, .ref S]) nZ
      have B := b1.trans (b2.trans b3)
      refine q Z us extra step t9 _ (KA.trans (Keep.of_same B)) (fA.same B) (by omega) M he24 hep hs34 ⟨T, S, SqT.of upd_same, ⟨rs, SqT.of (b3 _ _ (b2 _ _ upd_same)), hrs.tk (Tk.same B)⟩, SqT.of (b3 _ _ upd_same)⟩
end

end Fp

set_option Elab.async false
set_option linter.all false
set_option maxRecDepth 100000
set_option maxHeartbeats 4000000
set_option exponentiation.threshold 10000
namespace Fp
open PySem PySem.Spec PyProof.Rows L2
theorem snoc_cases {α : Type} (xs : List α) : xs = [] ∨ ∃ ys y, xs = ys ++ [y] := by
  rcases List.eq_nil_or_concat xs with h | ⟨ys, y, h⟩
  · exact .inl h
  · exact .inr ⟨ys, y, by rw [h, List.concat_eq_append]⟩
/-! ### rows joined, cut, compared -/
theorem eqv_D2 (x y : RT) : PyData.eqv (.tuple [.int x.1, .int x.2]) (.tuple [.int y.1, .int y.2]) = decide (x = y) := by
  show ((x.1 == y.1) && ((x.2 == y.2) && true)) = _
  rw [Bool.eq_iff_iff]
  simp only [Bool.and_true, Bool.and_eq_true, beq_iff_eq, decide_eq_true_eq]
  exact ⟨fun z => Prod.ext z.1 z.2, fun z => ⟨congrArg Prod.fst z, congrArg Prod.snd z⟩⟩
section
variable {K : PySem.W.Frag} {H : Hp}
theorem RAt.dp {p : Addr} {x : RT} (h : RAt K H p x) : Dp K H (.ref p) (.tuple [.int x.1, .int x.2]) := .tup h (.cons (.int _) (.cons (.int _) .nil))
theorem ne_rat {p q : Addr} {x y : RT} {Q : VK} (h1 : RAt K H p x) (h2 : RAt K H q y) (h : Q (.bl (!decide (x = y))) H) : rNeD K (.ref p) (.ref q) H Q := by
  refine ⟨_, _, h1.dp, h2.dp, rfl, rfl, ?_⟩
  rw [eqv_D2]
  exact h
theorem eq_rat {p q : Addr} {x y : RT} {Q : VK} (h1 : RAt K H p x) (h2 : RAt K H q y) (h : Q (.bl (decide (x = y))) H) : rEqD K (.ref p) (.ref q) H Q := by
  refine ⟨_, _, h1.dp, h2.dp, rfl, rfl, ?_⟩
  rw [eqv_D2]
  exact h
theorem cat_row {p q : Addr} {xs ys : List RT} {Q : VK} (h1 : RowAt K H p xs) (h2 : RowAt K H q ys) (hl : xs.length + ys.length ≤ 1000) (h : ∀ r H', Same H H' → RowAt K H' r (xs ++ ys) → Q (.ref r) H') : rCatA K (.ref p) (.ref q) H Q := by
  obtain ⟨as, a1, a2⟩ := h1
  obtain ⟨bs, b1, b2⟩ := h2
  have la := a2.length
  have lb := b2.length
  refine ⟨p, q, _, _, rfl, rfl, a1, b1, ?_, fun z => ?_, fun _ z => ?_, fun _ _ r nr => ?_⟩
  · rw [List.length_map, List.length_map, sizeLine_eq]
    omega
  · have e : as = [] := List.map_eq_nil_iff.mp z
    subst e
    have e2 : xs = [] := List.length_eq_zero_iff.mp la.symm
    subst e2
    exact h q H (Same.refl H) ⟨bs, b1, b2⟩
  · have e : bs = [] := List.map_eq_nil_iff.mp z
    subst e
    have e2 : ys = [] := List.length_eq_zero_iff.mp lb.symm
    subst e2
    refine h p H (Same.refl H) ?_
    rw [List.append_nil]
    exact ⟨as, a1, a2⟩
  · have s := same_new (o := HO.tup (as.map V.ref ++ bs.map V.ref)) nr
    refine h r _ s ⟨as ++ bs, ?_, (a2.append b2).tk (Tk.same s)⟩
    rw [List.map_append]
    exact SqT.of upd_same
theorem row_at {p : Addr} {xs : List RT} {i : Nat} {x : RT} (h : RowAt K H p xs) (e : xs[i]? = some x) : ∃ (rs : List Addr) (r : Addr), SqT K H p (rs.map V.ref) ∧ rs.length = xs.length ∧ (rs.map V.ref)[i]? = some (.ref r) ∧ RAt K H r x := by
  obtain ⟨rs, h1, h2⟩ := h
  obtain ⟨r, e1, e2⟩ := h2.get e
  refine ⟨rs, r, h1, h2.length, ?_, e2⟩
  rw [List.getElem?_map, e1]
  rfl
/-- row[i] from the front -/
theorem ix_row {p : Addr} {xs : List RT} {i : Int} {j : Nat} {x : RT} {Q : VK} (h : RowAt K H p xs) (ei : i = (j : Int)) (e : xs[j]? = some x) (hq : ∀ r, RAt K H r x → Q (.ref r) H) : rIxT K (.ref p) (.int i) H Q := by
  obtain ⟨rs, r, h1, _, h3, h4⟩ := row_at h e
  exact ⟨p, _, i, _, rfl, rfl, h1, at_of ei h3, hq r h4⟩
/-- row[-k] from the end -/
theorem ix_back {p : Addr} {xs : List RT} {k j : Nat} {x : RT} {Q : VK} (h : RowAt K H p xs) (hk : 0 < k) (ej : j + k = xs.length) (e : xs[j]? = some x) (hq : ∀ r, RAt K H r x → Q (.ref r) H) : rIxT K (.ref p) (.int (-(k : Int))) H Q := by
  obtain ⟨rs, r, h1, h2, h3, h4⟩ := row_at h e
  refine ⟨p, _, _, _, rfl, rfl, h1, ?_, hq r h4⟩
  unfold atI
  have : ixN (rs.map V.ref).length (-(k : Int)) = some j := by
    unfold ixN
    rw [List.length_map, if_neg (by omega), if_pos (by omega)]
    congr 1
    omega
  rw [this]
  exact h3
theorem cutV_take (vs : List V) (n : Nat) : cutV vs none (some (n : Int)) = vs.take n := by
  unfold cutV
  rw [HT.sIx_none, HT.sIx_nat]
  show (vs.drop 0).take (min n vs.length - 0) = _
  rw [List.drop_zero, Nat.sub_zero]
  rcases Nat.le_total n vs.length with z | z
  · rw [Nat.min_eq_left z]
  · rw [Nat.min_eq_right z, List.take_length, List.take_of_length_le z]
/-- row[:n] -/
theorem take_row {p : Addr} {xs : List RT} {n : Nat} {Q : VK} (h : RowAt K H p xs) (hq : ∀ r H', Same H H' → RowAt K H' r (xs.take n) → Q (.ref r) H') : rSlA K (.ref p) none (some (n : Int)) H Q := by
  obtain ⟨rs, h1, h2⟩ := h
  have hl := h2.length
  refine ⟨p, _, rfl, h1, fun z => ?_, fun _ r nr => ?_⟩
  · have z2 := z.2
    rw [HT.sIx_nat, List.length_map] at z2
    refine hq p H (Same.refl H) ?_
    rw [List.take_of_length_le (by omega)]
    exact ⟨rs, h1, h2⟩
  · rw [cutV_take]
    have s := same_new (o := HO.tup ((rs.map V.ref).take n)) nr
    refine hq r _ s ⟨rs.take n, ?_, (h2.take n).tk (Tk.same s)⟩
    rw [List.map_take]
    exact SqT.of upd_same
end

end Fp

set_option Elab.async false
set_option linter.all false
set_option maxRecDepth 100000
set_option maxHeartbeats 4000000
set_option exponentiation.threshold 10000
namespace Fp
open PySem PySem.Spec PyProof.Rows L2
abbrev s_any : Stmt := topS 39
theorem sc_any : FnScope ["_law_feed_here", "_law_way", "_law_row", "_law_step", "_law_turn"] ["_law_feed_here"] (defScope s_any) := ⟨rfl, rfl, rfl, by decide +kernel, rfl, by decide +kernel, by decide +kernel⟩
/-- a life as it is first drawn -/
def BaseLife (row : List RT) (step : RT) : Prop := (∃ ws extra, Made ws extra step ∧ row = rowOf ws extra step) ∨ (row = [] ∧ step = (0, 1))
/-- .. and made longer by one -/
def AnyLife (row : List RT) (step : RT) : Prop := BaseLife row step ∨
  (∃ row0 l, BaseLife row0 step ∧ row0.length ≤ 5 ∧ step ≠ (0, 1) ∧ row0[row0.length - 1]? = some l ∧ row = row0 ++ [rT l step]) ∨
  (∃ row0, BaseLife row0 (0, 1) ∧ row0.length ≤ 5 ∧ row = row0 ++ [(0, 1)] ∧ (step = (0, 1) ∨ step = (1, 3)))
theorem rowOf_len {ws : List Int} {extra : Int} {step : RT} : (rowOf ws extra step).length = ws.length := by
  unfold rowOf
  rw [List.length_map]
theorem BaseLife.len {row : List RT} {step : RT} (h : BaseLife row step) : row.length ≤ 6 := by
  rcases h with ⟨ws, extra, m, rfl⟩ | ⟨rfl, _⟩
  · rw [rowOf_len]
    exact m.len
  · decide
theorem BaseLife.ne {row : List RT} {step : RT} (h : BaseLife row step) (hs : step ≠ (0, 1)) : row ≠ [] := by
  rcases h with ⟨ws, extra, m, rfl⟩ | ⟨rfl, z⟩
  · intro z
    have := congrArg List.length z
    rw [rowOf_len, List.length_nil] at this
    exact m.ne (List.length_eq_zero_iff.mp this)
  · exact absurd z hs
/-- small ratios -/
def SmR (n : Nat) (x : RT) : Prop := Red x ∧ Sm n x.1 ∧ Sm n x.2
theorem low2_sm {t b : Int} {n : Nat} (hb : 0 < b) (h1 : Sm n t) (h2 : Sm n b) : SmR n (low2 t b) := ⟨low2_red (Int.ne_of_gt hb), ratT_sm hb h1, ratB_sm hb h2⟩
theorem SmR.mono {n m : Nat} {x : RT} (h : SmR n x) (l : n ≤ m) : SmR m x := ⟨h.1, h.2.1.mono l, h.2.2.mono l⟩
theorem rT_sm {x y : RT} {n m : Nat} (hx : SmR n x) (hy : SmR m y) : SmR (n + m) (rT x y) :=
  low2_sm (Int.mul_pos hx.1.1 hy.1.1) (hx.2.1.mul hy.2.1) (hx.2.2.mul hy.2.2)
theorem Made.sm {ws : List Int} {extra : Int} {step : RT} (m : Made ws extra step) : ∀ x ∈ rowOf ws extra step, SmR 10 x ∧ 0 ≤ x.1 := by
  intro x hx
  unfold rowOf at hx
  obtain ⟨y, hy, rfl⟩ := List.mem_map.mp hx
  obtain ⟨h1, h2⟩ := m.nn y hy
  obtain ⟨s1, s2, s3, _⟩ := m.step_ok
  obtain ⟨w0, w1⟩ := m.whole
  have hp : 0 ≤ (step.2 - step.1) * y := Int.mul_nonneg (by omega) h1
  have hq : (step.2 - step.1) * y ≤ 20 := by
    have : (step.2 - step.1) * y ≤ 4 * 5 := Int.mul_le_mul (by omega) h2 h1 (by decide)
    omega
  refine ⟨low2_sm w0 ?_ ?_, ?_⟩
  · unfold Sm
    omega
  · unfold Sm
    omega
  · obtain ⟨g1, ⟨z, hz⟩, _⟩ := ratG_pos (t := (step.2 - step.1) * y) w0
    have e : (low2 ((step.2 - step.1) * y) (wholeOf ws extra step)).1 = z := by
      show Int.fdiv _ _ = z
      have := Int.mul_fdiv_cancel_left z (Int.ne_of_gt g1)
      rw [← hz] at this
      exact this
    rw [e]
    rcases (by omega : 0 ≤ z ∨ z < 0) with q | q
    · exact q
    · have := Int.mul_neg_of_pos_of_neg g1 q
      omega
theorem BaseLife.sm {row : List RT} {step : RT} (h : BaseLife row step) : (∀ x ∈ row, SmR 10 x ∧ 0 ≤ x.1) ∧ SmR 4 step ∧ 0 ≤ step.1 ∧ step.1 < step.2 := by
  rcases h with ⟨ws, extra, m, rfl⟩ | ⟨rfl, rfl⟩
  · refine ⟨m.sm, ?_⟩
    rcases m.st with rfl | rfl | rfl | rfl | rfl <;> exact ⟨⟨⟨by decide, by decide⟩, by unfold Sm; decide, by unfold Sm; decide⟩, by decide, by decide⟩
  · exact ⟨fun x hx => by simp at hx, ⟨⟨⟨by decide, by decide⟩, by unfold Sm; decide, by unfold Sm; decide⟩, by decide, by decide⟩⟩
section
variable {P : Program} {w : World} {K : PySem.W.Frag} {mg : Str → Option Value} {base : Heap}
def spAny (K : PySem.W.Frag) : Sp := fun vs H Q _ => ∃ (d c : Addr) (t : Int), vs = [.ref d] ∧ Feed H d c t ∧ t ≤ 800000 ∧
  ∀ p row step t' H', Keep d H H' → Feed H' d c t' → t' ≤ t + 14 → AnyLife row step → LifeAt K H' p row step → Q (.ref p) H'
theorem ok_any {f fD fF fT : Addr} {fd fdD fdF fdT : FuncData} (F : Fun K "_law_any_life" "_law_any_life" s_any f fd) (FD : Fun K "_law_draw" "_law_draw" s_draw fD fdD) (bD : Binds K fdD ["_law_feed_here", "_law_many"] []) (gD : mg "_law_draw" = some (.ref fD))
    (GD : FnOk P w K mg base CX0 1 fD fdD ["_law_feed_here", "_law_many"] spDraw)
    (FF : Fun K "_law_life" "_law_life" s_life fF fdF) (bF : Binds K fdF ["_law_feed_here", "_law_way"] []) (gF : mg "_law_life" = some (.ref fF)) (GF : FnOk P w K mg base CX0 2 fF fdF ["_law_feed_here", "_law_way"] (spLife K))
    (FT : Fun K "_law_times" "_law_times" s_ltimes fT fdT) (bT : Binds K fdT ["_law_one", "_law_other"] []) (gT : mg "_law_times" = some (.ref fT)) (GT : FnOk P w K mg base CX0 2 fT fdT ["_law_one", "_law_other"] (spTwo K (fun a b c d => a * c)))
    (ml : mg "len" = none) : FnOk P w K mg base CX0 3 f fd ["_law_feed_here"] (spAny K) := by
  refine F.ok sc_any (fun vs H Q E h => ?_) (fun cdv A outer s H vs Q E hr2 h => ?_)
  · obtain ⟨_, _, _, rfl, _⟩ := h
    rfl
  · obtain ⟨d, c, t, rfl, f0, ht, q⟩ := h
    have hr := hr2.mono (show 1 ≤ 2 by decide)
    refine ⟨_, (pss_cons (ps_set (i := 1) sc_any.nd rfl (.inl rfl) (pe_call GD hr (by rfl) gD FD.kp bD .nil pass0 (pa_cons (pv 0) (pa_cons pe_int pa_nil)))) (pss_cons (ps_asg (pe_call GF hr2 (by rfl) gF FF.kp bF .nil pass0 (pa_cons (pv 0) (pa_cons (pe_op op_modN (pv 1) pe_int) pa_nil))) (pg_tup rfl (pgs_cons (pg_name (i := 2) sc_any.nd rfl (.inl rfl)) (pgs_cons (pg_name (i := 3) sc_any.nd rfl (.inl rfl)) pgs_nil)))) (pss_mid (ps_if (pt_cmpR op_eq (pv 1) pe_int (nomark _)) (pss_one (ps_asg (pe_tup (pa_cons (pe_tup pa_nil) (pa_cons (pe_tup (pa_cons pe_int (pa_cons pe_int pa_nil))) pa_nil))) (pg_tup rfl (pgs_cons (pg_name (i := 2) sc_any.nd rfl (.inl rfl)) (pgs_cons (pg_name (i := 3) sc_any.nd rfl (.inl rfl)) pgs_nil))))) pss_nil) (pss_cons (ps_set (i := 4) sc_any.nd rfl (.inl rfl) (pe_call GD hr (by rfl) gD FD.kp bD .nil pass0 (pa_cons (pv 0) (pa_cons pe_int pa_nil)))) (pss_cons (ps_if (PW.pt (pw_or (pt_cmpR op_gt (pv 4) pe_int (nomark _)) (pw_or1 (pt_cmpR op_gt (pe_callB call_len_seq (by rfl) ml PySem.boot_len (pa_cons (pv 2) pa_nil)) pe_int (nomark _))))) (pss_one (ps_ret (pe_tup (pa_cons (pv 2) (pa_cons (pv 3) pa_nil))))) pss_nil) (pss_cons (ps_if (pt_cmpR (op_neD hr.units) (pv 3) (pe_tup (pa_cons pe_int (pa_cons pe_int pa_nil))) (nomark _)) (pss_one (ps_ret (pe_tup (pa_cons (pe_op op_catA (pv 2) (pe_tup (pa_cons (pe_call GT hr2 (by rfl) gT FT.kp bT .nil pass0 (pa_cons (pe_ix ix_tup (pv 2) (pe_un un_neg pe_int) (fun _ _ => rfl)) (pa_cons (pv 3) pa_nil))) pa_nil))) (pa_cons (pv 3) pa_nil))))) pss_nil) (pss_one (ps_ret (pe_tup (pa_cons (pe_op op_catA (pv 2) (pe_tup (pa_cons (pe_tup (pa_cons pe_int (pa_cons pe_int pa_nil))) pa_nil))) (pa_cons (pe_ix ix_list (pe_lst (pa_cons (pe_tup (pa_cons pe_int (pa_cons pe_int pa_nil))) (pa_cons (pe_tup (pa_cons pe_int (pa_cons pe_int pa_nil))) pa_nil))) (pv 4) (fun _ _ => rfl)) pa_nil))))))))))), ?_⟩
    refine ⟨_, rfl, d, c, 8, t, rfl, f0, by omega, by decide, by decide, fun way H1 hw0 hw1 k1 f1 => ?_⟩
    refine ⟨_, rfl, _, rfl, way, 6, rfl, rfl, by show (6 : Int) ≠ 0; decide, d, c, _, t + 1, rfl, f1, by omega, fun p ws extra step t2 H2 k2 f2 ht2 M _ _ _ L2' => ?_⟩
    obtain ⟨pr, ps, l1, l2, l3⟩ := L2'
    refine ⟨p, _, rfl, l1, rfl, _, _, rfl, _, _, rfl, rfl, ?_⟩
    have K2 := k1.trans k2
    refine ⟨fun σ H3 => ∃ (pr ps : Addr) (row : List RT) (step : RT), σ = [some (.ref d), some (.int way), some (.ref pr), some (.ref ps), none] ∧ Keep d H H3 ∧ Feed H3 d c t2 ∧ BaseLife row step ∧ RowAt K H3 pr row ∧ RAt K H3 ps step, ?_, ?_⟩
    · refine ⟨_, rfl, rfl, _, rfl, ite2 (fun c7 => ?_) (fun c7 => ?_)⟩
      · refine ⟨by show 0 ≤ sizeLine; decide, fun a na => ?_⟩
        have e1 := same_new (o := HO.tup []) na
        refine ⟨by show 2 ≤ sizeLine; decide, fun b nb => ?_⟩
        have e2 := same_new (o := HO.tup [.int 0, .int 1]) nb
        refine ⟨by show 2 ≤ sizeLine; decide, fun z nz => ?_⟩
        have e3 := same_new (o := HO.tup [.ref a, .ref b]) nz
        have S := e1.trans (e2.trans e3)
        exact ⟨z, _, rfl, SqT.of upd_same, rfl, _, _, rfl, _, _, rfl, rfl, a, b, [], (0, 1), rfl, K2.trans (Keep.of_same S), f2.same S, .inr ⟨rfl, rfl⟩, ⟨[], SqT.of (e3 _ _ (e2 _ _ upd_same)), .nil⟩, SqT.of (e3 _ _ upd_same)⟩
      · exact ⟨pr, ps, _, step, rfl, K2, f2, .inl ⟨ws, extra, M, rfl⟩, l2, l3⟩
    clear l1 l2 l3 M
    rintro σ H3 ⟨pr, ps, row, step, rfl, K3, f3, B, hrow, hstep⟩
    obtain ⟨sm1, sm2, st0, st1⟩ := B.sm
    have hlen := B.len
    refine ⟨_, rfl, d, c, 4, t2, rfl, f3, by omega, by decide, by decide, fun turn H4 h0 h1 k4 f4 => ?_⟩
    have K4 := K3.trans k4
    have tk4 : Tk K H3 H4 := Tk.keep f3 k4
    have hrow4 := hrow.tk tk4
    have hstep4 := hstep.tk tk4
    have keepIt : ∀ a, H4 a = none → Q (.ref a) (upd H4 a (.tup [.ref pr, .ref ps])) := fun a na => by
      have e1 := same_new (o := HO.tup [.ref pr, .ref ps]) na
      exact q a row step (t2 + 1) _ (K4.trans (Keep.of_same e1)) (f4.same e1) (by omega) (.inl B) ⟨pr, ps, SqT.of upd_same, hrow4.tk (Tk.same e1), hstep4.tk (Tk.same e1)⟩
    refine ⟨_, rfl, turn, 1, rfl, rfl, _, rfl, ite2 (fun c1 => ?_) (fun c1 => ?_)⟩
    · exact iteT ⟨_, rfl, _, rfl, by show 2 ≤ sizeLine; decide, keepIt⟩
    have hturn : turn ≤ 1 := by
      have : ¬ (1 < turn) := fun z => c1 (decide_eq_true z)
      omega
    obtain ⟨rs, r1, r2⟩ := id hrow4
    have rlen := r2.length
    refine ⟨_, rfl, pr, _, rfl, .inr r1, _, 5, rfl, rfl, _, rfl, ite2 (fun c2 => ?_) (fun c2 => ?_)⟩
    · exact ⟨_, rfl, _, rfl, by show 2 ≤ sizeLine; decide, keepIt⟩
    have hl5 : row.length ≤ 5 := by
      have : ¬ ((5 : Int) < ((rs.map V.ref).length : Nat)) := fun z => c2 (decide_eq_true z)
      rw [List.length_map] at this
      omega
    -- step != (0, 1)
    refine ⟨_, rfl, by show 2 ≤ sizeLine; decide, fun a na => ?_⟩
    have e1 := same_new (o := HO.tup [.int 0, .int 1]) na
    refine ne_rat (hstep4.tk (Tk.same e1)) (y := (0, 1)) (SqT.of upd_same) ⟨_, rfl, ?_⟩
    have f5 := f4.same e1
    have K5 := K4.trans (Keep.of_same e1)
    have hrow5 := hrow4.tk (Tk.same e1)
    have hstep5 := hstep4.tk (Tk.same e1)
    refine ite2 (fun c3 => ?_) (fun c3 => ?_)
    · have hs : step ≠ (0, 1) := fun z => by
        rw [z] at c3
        exact absurd c3 (by decide)
      have hne := B.ne hs
      have hpos := List.length_pos_iff.mpr hne
      have hget : row[row.length - 1]? = some (row.getLast hne) := by
        rw [List.getLast_eq_getElem]
        exact List.getElem?_eq_getElem _
      have smL := (sm1 (row.getLast hne) (List.getLast_mem hne)).1
      refine ⟨_, rfl, _, rfl, 1, rfl, ?_⟩
      refine ix_back (k := 1) hrow5 (by decide) (by omega) hget fun r hr3 => ?_
      refine ⟨_, rfl, r, ps, _, _, _, _, rfl, ⟨hr3, hstep5, smL.2.1.mono (by decide), smL.2.2.mono (by decide), sm2.2.1.mono (by decide), sm2.2.2.mono (by decide), smL.1.1, sm2.1.1⟩, fun b nb => ?_⟩
      have e2 := same_new (o := HO.tup [.int (rT (row.getLast hne) step).1, .int (rT (row.getLast hne) step).2]) nb
      refine ⟨by show 1 ≤ sizeLine; decide, fun b2 nb2 => ?_⟩
      have e3 := same_new (o := HO.tup [.ref b]) nb2
      refine cat_row (hrow5.tk (Tk.same (e2.trans e3))) (ys := [rT (row.getLast hne) step]) ⟨[b], SqT.of upd_same, .cons (SqT.of (e3 _ _ upd_same)) .nil⟩ (by simp; omega) fun z H6 s6 hz => ?_
      have S := e2.trans (e3.trans s6)
      refine ⟨_, rfl, by show 2 ≤ sizeLine; decide, fun y ny => ?_⟩
      have e4 := same_new (o := HO.tup [.ref z, .ref ps]) ny
      exact q y _ step (t2 + 1) _ (K5.trans ((Keep.of_same S).trans (Keep.of_same e4))) ((f5.same S).same e4) (by omega) (.inr (.inl ⟨row, _, B, hl5, hs, hget, rfl⟩)) ⟨z, ps, SqT.of upd_same, hz.tk (Tk.same e4), hstep5.tk (Tk.same (S.trans e4))⟩
    · have hs : step = (0, 1) := by
        rcases Classical.em (step = (0, 1)) with z | z
        · exact z
        · exact absurd (show (!decide (step = (0, 1))) = true by simp [z]) c3
      subst hs
      refine ⟨_, rfl, by show 2 ≤ sizeLine; decide, fun b nb => ?_⟩
      have e2 := same_new (o := HO.tup [.int 0, .int 1]) nb
      refine ⟨by show 1 ≤ sizeLine; decide, fun b2 nb2 => ?_⟩
      have e3 := same_new (o := HO.tup [.ref b]) nb2
      refine cat_row (hrow5.tk (Tk.same (e2.trans e3))) (ys := [(0, 1)]) ⟨[b], SqT.of upd_same, .cons (SqT.of (e3 _ _ upd_same)) .nil⟩ (by simp; omega) fun z H6 s6 hz => ?_
      have S := e2.trans (e3.trans s6)
      refine ⟨by show 2 ≤ sizeLine; decide, fun g1 m1 => ?_⟩
      have e4 := same_new (o := HO.tup [.int 0, .int 1]) m1
      refine ⟨by show 2 ≤ sizeLine; decide, fun g2 m2 => ?_⟩
      have e5 := same_new (o := HO.tup [.int 1, .int 3]) m2
      refine ⟨by show 2 ≤ sizeLine; decide, fun g3 m3 => ?_⟩
      have e6 := same_new (o := HO.lst [.ref g1, .ref g2]) m3
      have S2 := e4.trans (e5.trans e6)
      obtain ⟨v, ev, cv⟩ := pick2' (a := V.ref g1) (b := V.ref g2) (r := turn) h0 (by omega)
      obtain ⟨g, st, rfl, hst, hg⟩ : ∃ (g : Addr) (st : RT), v = .ref g ∧ (st = (0, 1) ∨ st = (1, 3)) ∧ RAt K (upd (upd (upd H6 g1 (HO.tup [.int 0, .int 1])) g2 (HO.tup [.int 1, .int 3])) g3 (HO.lst [.ref g1, .ref g2])) g st := by
        rcases cv with y | y
        · exact ⟨g1, (0, 1), y, .inl rfl, SqT.of (e6 _ _ (e5 _ _ upd_same))⟩
        · exact ⟨g2, (1, 3), y, .inr rfl, SqT.of (e6 _ _ upd_same)⟩
      refine ⟨_, rfl, g3, _, turn, _, rfl, rfl, SqL.of upd_same, ev, by show 2 ≤ sizeLine; decide, fun y ny => ?_⟩
      have e7 := same_new (o := HO.tup [.ref z, .ref g]) ny
      have S3 := S.trans (S2.trans e7)
      exact q y _ st (t2 + 1) _ (K5.trans (Keep.of_same S3)) (f5.same S3) (by omega) (.inr (.inr ⟨row, B, hl5, rfl, hst⟩)) ⟨z, g, SqT.of upd_same, hz.tk (Tk.same (S2.trans e7)), hg.tk (Tk.same e7)⟩
end

end Fp

set_option Elab.async false
set_option linter.all false
set_option maxRecDepth 100000
set_option maxHeartbeats 4000000
set_option exponentiation.threshold 10000
namespace Fp
open PySem PySem.Spec PyProof.Rows L2
/-! ### ratios by their value -/
def qv (x : RT) : Rat := (x.1 : Rat) / (x.2 : Rat)
theorem cast_ne {b : Int} (h : b ≠ 0) : (b : Rat) ≠ 0 := fun z => h (Rat.intCast_inj.mp (by simpa using z))
theorem qv_low2 {t b : Int} (hb : 0 < b) : qv (low2 t b) = (t : Rat) / (b : Rat) := by
  have e := low2_cross (t := t) hb
  have hp : (low2 t b).2 ≠ 0 := Int.ne_of_gt (low2_red (t := t) (Int.ne_of_gt hb)).1
  have h1 := cast_ne hp
  have h2 := cast_ne (Int.ne_of_gt hb)
  have e2 : ((low2 t b).1 : Rat) * (b : Rat) = (t : Rat) * ((low2 t b).2 : Rat) := by
    rw [← Rat.intCast_mul, ← Rat.intCast_mul, e]
  unfold qv
  grind
theorem qv_inj {x y : RT} (hx : Red x) (hy : Red y) (h : qv x = qv y) : x = y := by
  refine red_eq hx hy ?_
  have h1 := cast_ne (Int.ne_of_gt hx.1)
  have h2 := cast_ne (Int.ne_of_gt hy.1)
  unfold qv at h
  refine Rat.intCast_inj.mp ?_
  rw [Rat.intCast_mul, Rat.intCast_mul]
  grind
theorem qv_rT {x y : RT} (hx : Red x) (hy : Red y) : Red (rT x y) ∧ qv (rT x y) = qv x * qv y := by
  have hb := Int.mul_pos hx.1 hy.1
  refine ⟨low2_red (Int.ne_of_gt hb), ?_⟩
  unfold rT
  rw [qv_low2 hb, Rat.intCast_mul, Rat.intCast_mul]
  have h1 := cast_ne (Int.ne_of_gt hx.1)
  have h2 := cast_ne (Int.ne_of_gt hy.1)
  unfold qv
  grind
/-- a by b, whatever the terms -/
theorem qv_of {x : RT} {n D : Int} (hx : Red x) (hD : 0 < D) (h : qv x = (n : Rat) / (D : Rat)) : x = low2 n D := qv_inj hx (low2_red (Int.ne_of_gt hD)) (by rw [qv_low2 hD]; exact h)
/-- in lowest terms no part is greater than by other terms -/
theorem red_small {x : RT} {n D : Int} (hx : Red x) (hD : 0 < D) (h : qv x = (n : Rat) / (D : Rat)) : x.2 ∣ D ∧ x.1.natAbs ≤ n.natAbs := by
  have e := qv_of hx hD h
  obtain ⟨g1, g2, g3⟩ := ratG_pos (t := n) hD
  have e1 : x.1 = n.fdiv (ratG n D) := congrArg Prod.fst e
  have e2 : x.2 = D.fdiv (ratG n D) := congrArg Prod.snd e
  refine ⟨?_, ?_⟩
  · rw [e2]
    obtain ⟨y, hy⟩ := g3
    have z := Int.mul_fdiv_cancel_left y (Int.ne_of_gt g1)
    rw [← hy] at z
    rw [z]
    exact ⟨ratG n D, by rw [Int.mul_comm]; exact hy⟩
  · rw [e1]
    exact fdiv_le g1 g2
theorem dvd_small {a b : Int} {n : Nat} (h : a ∣ b) (hb : 0 < b) (s : Sm n b) : Sm n a := by
  unfold Sm at *
  exact Nat.lt_of_le_of_lt (Nat.le_of_dvd (by omega) (Int.natAbs_dvd_natAbs.mpr h)) s
/-- the value told over any number that its bottom divides -/
theorem qv_over {x : RT} {D : Int} (hx : 0 < x.2) (h : x.2 ∣ D) (hD : 0 < D) : qv x = ((x.1 * (D / x.2) : Int) : Rat) / (D : Rat) := by
  obtain ⟨y, hy⟩ := h
  have h1 := cast_ne (Int.ne_of_gt hx)
  have e : D / x.2 = y := by
    rw [hy]
    exact Int.mul_ediv_cancel_left y (Int.ne_of_gt hx)
  have h2 := cast_ne (Int.ne_of_gt hD)
  have h3 : (D : Rat) = (x.2 : Rat) * (y : Rat) := by rw [← Rat.intCast_mul, hy]
  unfold qv
  rw [e, Rat.intCast_mul]
  grind
/-- the bottoms of some, multiplied -/
def prodB (xs : List RT) : Int := (xs.map (·.2)).foldr (· * ·) 1
theorem prodB_pos : ∀ {xs : List RT}, (∀ x ∈ xs, 0 < x.2) → 0 < prodB xs
  | [], _ => by decide
  | x :: r, h => Int.mul_pos (h x (List.mem_cons_self ..)) (prodB_pos fun y hy => h y (List.mem_cons_of_mem _ hy))
theorem prodB_dvd : ∀ {xs : List RT} {x : RT}, x ∈ xs → x.2 ∣ prodB xs
  | y :: r, x, h => by
    rcases List.mem_cons.mp h with rfl | h
    · exact Int.dvd_mul_right ..
    · exact Int.dvd_trans (prodB_dvd h) (Int.dvd_mul_left ..)
theorem prodB_sm {n : Nat} : ∀ {xs : List RT}, (∀ x ∈ xs, Sm n x.2) → Sm (n * xs.length + 1) (prodB xs)
  | [], _ => by
    unfold Sm
    show 1 < 2 ^ (n * 0 + 1)
    simp
  | x :: r, h => by
    have h1 := (h x (List.mem_cons_self ..)).mul (prodB_sm fun y hy => h y (List.mem_cons_of_mem _ hy))
    refine h1.mono ?_
    rw [List.length_cons, Nat.mul_add]
    omega

end Fp

set_option Elab.async false
set_option linter.all false
set_option maxRecDepth 100000
set_option maxHeartbeats 4000000
set_option exponentiation.threshold 10000
namespace Fp
open PySem PySem.Spec PyProof.Rows L2
/-! ### rows on one bottom, added -/
abbrev s_oob : Stmt := topS 20
abbrev s_added : Stmt := topS 21
abbrev N_oob : List Str := ["told", "common", "top", "bottom"]
theorem sc_oob : FnScope N_oob ["told"] (defScope s_oob) := ⟨rfl, rfl, rfl, by decide +kernel, rfl, by decide +kernel, by decide +kernel⟩
theorem sc_added : FnScope ["told", "tops", "bottom"] ["told"] (defScope s_added) := ⟨rfl, rfl, rfl, by decide +kernel, rfl, by decide +kernel, by decide +kernel⟩
/-- a list of ratios -/
def LstAt (K : PySem.W.Frag) (H : Hp) (p : Addr) (xs : List RT) : Prop := ∃ rs : List Addr, SqL K H p (rs.map V.ref) ∧ RsAt K H rs xs
theorem LstAt.same {K : PySem.W.Frag} {H H' : Hp} {p : Addr} {xs : List RT} (h : LstAt K H p xs) (e : Same H H') : LstAt K H' p xs := by
  obtain ⟨rs, h1, h2⟩ := h
  exact ⟨rs, e.seq h1, h2.tk (Tk.same e)⟩
/-- all over one number -/
structure Over1 (n d : Nat) (D : Int) (xs : List RT) : Prop where
  pos : 0 < D
  sm : Sm d D
  ok : ∀ x ∈ xs, 0 < x.2 ∧ x.2 ∣ D ∧ Sm n x.1
  len : xs.length ≤ 1000
def topsOn (c : Int) (xs : List RT) : List Int := xs.map fun x => x.1 * (c / x.2)
theorem lcm_ok {c b D : Int} (hc : 0 < c) (hb : 0 < b) (h1 : c ∣ D) (h2 : b ∣ D) : 0 < c.fdiv (Int.gcd c b : Nat) * b ∧ c.fdiv (Int.gcd c b : Nat) * b ∣ D ∧ c ∣ c.fdiv (Int.gcd c b : Nat) * b ∧ b ∣ c.fdiv (Int.gcd c b : Nat) * b := by
  have hg : 0 < Int.gcd c b := Nat.gcd_pos_of_pos_right _ (by omega)
  obtain ⟨x, hx⟩ : ((Int.gcd c b : Nat) : Int) ∣ c := Int.gcd_dvd_left ..
  obtain ⟨y, hy⟩ : ((Int.gcd c b : Nat) : Int) ∣ b := Int.gcd_dvd_right ..
  generalize hgg : ((Int.gcd c b : Nat) : Int) = g at *
  have g0 : 0 < g := by omega
  have e : c.fdiv g = x := by
    have := Int.mul_fdiv_cancel_left x (Int.ne_of_gt g0)
    rw [← hx] at this
    exact this
  have x0 : 0 < x := by
    rcases (by omega : 0 < x ∨ x ≤ 0) with z | z
    · exact z
    · have := Int.mul_nonpos_of_nonneg_of_nonpos (Int.le_of_lt g0) z
      omega
  have cop : Int.gcd x y = 1 := by
    have z : Int.gcd c b = g.natAbs * Int.gcd x y := by
      have := Int.gcd_mul_left g x y
      rw [← hx, ← hy] at this
      exact this
    have z2 : g.natAbs = Int.gcd c b := by rw [← hgg]; exact Int.natAbs_natCast _
    rw [z2] at z
    exact (Nat.eq_of_mul_eq_mul_left hg (by rw [Nat.mul_one]; exact z)).symm
  rw [e]
  refine ⟨Int.mul_pos x0 hb, ?_, ⟨y, ?_⟩, Int.dvd_mul_left ..⟩
  · obtain ⟨u, hu⟩ := h1
    have h3 : y ∣ x * u := by
      have : g * y ∣ g * (x * u) := by
        rw [← Int.mul_assoc, ← hx, ← hu, ← hy]
        exact h2
      exact Int.dvd_of_mul_dvd_mul_left (Int.ne_of_gt g0) this
    obtain ⟨v, hv⟩ := dvd_cop h3 (by rw [Int.gcd_comm]; exact cop)
    refine ⟨v, ?_⟩
    rw [hu, hv, hx, hy]
    rw [Int.mul_assoc g x, ← Int.mul_assoc x y v, Int.mul_comm x (g * y), Int.mul_assoc g y x, Int.mul_assoc g (y * x) v, Int.mul_comm y x]
  · rw [hy, hx, Int.mul_comm g x, Int.mul_assoc]
theorem tops_sum {c : Int} (hc : 0 < c) : ∀ {xs : List RT}, (∀ x ∈ xs, 0 < x.2 ∧ x.2 ∣ c) → (((topsOn c xs).sum : Int) : Rat) / (c : Rat) = (xs.map qv).sum
  | [], _ => by
    show ((0 : Int) : Rat) / (c : Rat) = 0
    have := cast_ne (Int.ne_of_gt hc)
    grind
  | x :: r, h => by
    have h1 := h x (List.mem_cons_self ..)
    have h2 := tops_sum hc (xs := r) fun y hy => h y (List.mem_cons_of_mem _ hy)
    have e := qv_over h1.1 h1.2 hc
    show (((x.1 * (c / x.2) :: topsOn c r).sum : Int) : Rat) / (c : Rat) = (qv x :: r.map qv).sum
    rw [List.sum_cons, List.sum_cons, ← h2, e, Rat.intCast_add]
    have := cast_ne (Int.ne_of_gt hc)
    grind
theorem tops_sm {n d : Nat} {c D : Int} (hc : 0 < c) (hD : 0 < D) (hcD : c ∣ D) (sD : Sm d D) : ∀ {xs : List RT}, (∀ x ∈ xs, 0 < x.2 ∧ Sm n x.1) → (topsOn c xs).sum.natAbs ≤ xs.length * 2 ^ (n + d)
  | [], _ => by
    show (0 : Int).natAbs ≤ 0 * _
    simp
  | x :: r, h => by
    have h1 := h x (List.mem_cons_self ..)
    have h2 := tops_sm hc hD hcD sD (xs := r) fun y hy => h y (List.mem_cons_of_mem _ hy)
    have sc : Sm d c := dvd_small hcD hD sD
    have sq : Sm d (c / x.2) := by
      unfold Sm at *
      have a : (c / x.2).natAbs ≤ c.natAbs := Int.natAbs_ediv_le_natAbs ..
      omega
    have sp : Sm (n + d) (x.1 * (c / x.2)) := h1.2.mul sq
    show (x.1 * (c / x.2) :: topsOn c r).sum.natAbs ≤ (r.length + 1) * _
    rw [List.sum_cons, Nat.add_mul]
    unfold Sm at sp
    have := Int.natAbs_add_le (x.1 * (c / x.2)) (topsOn c r).sum
    omega
section
variable {P : Program} {w : World} {K : PySem.W.Frag} {mg : Str → Option Value} {base : Heap}
def spOob (K : PySem.W.Frag) : Sp := fun vs H Q _ => ∃ (p : Addr) (xs : List RT) (n d : Nat) (D : Int), vs = [.ref p] ∧ LstAt K H p xs ∧ Over1 n d D xs ∧ n ≤ 4000 ∧ d ≤ 4000 ∧
  ∀ z zl c H', Same H H' → H' z = some (.tup [.ref zl, .int c]) → H' zl = some (.lst ((topsOn c xs).map V.int)) → 0 < c → c ∣ D → (∀ x ∈ xs, x.2 ∣ c) → Q (.ref z) H'
theorem ok_oob {f fC : Addr} {fd fdC : FuncData} (F : Fun K "on_one_bottom" "on_one_bottom" s_oob f fd) (FC : Fun K "common_divisor" "common_divisor" s_cd fC fdC) (bC : Binds K fdC ["one", "other"] []) (gC : mg "common_divisor" = some (.ref fC)) (ma : mg "abs" = none) :
    FnOk P w K mg base CX0 2 f fd ["told"] (spOob K) := by
  have GC : FnOk P w K mg base CX0 1 fC fdC ["one", "other"] spCd := ok_cd FC ma
  refine F.ok sc_oob (fun vs H Q E h => ?_) (fun cdv A outer s H vs Q E hr h => ?_)
  · obtain ⟨_, _, _, _, _, rfl, _⟩ := h
    rfl
  · obtain ⟨p, xs, n, d, D, rfl, hlst, O, hn, hd, q⟩ := h
    obtain ⟨rs, r1, r2⟩ := id hlst
    have hl := r2.length
    refine ⟨_, (pss_cons (ps_set (i := 1) sc_oob.nd rfl (.inr rfl) pe_int) (pss_cons (ps_for PassesOwn.never rfl (pi_list (pv 0)) (pg_tup rfl (pgs_cons (pg_name (i := 2) sc_oob.nd rfl (.inl rfl)) (pgs_cons (pg_name (i := 3) sc_oob.nd rfl (.inl rfl)) pgs_nil)))
          (pss_one (ps_set (i := 1) sc_oob.nd rfl (.inr rfl) (pe_op op_mulA (pe_op op_fdivA (pv 1) (pe_call GC hr (by rfl) gC FC.kp bC .nil pass0 (pa_cons (pv 1) (pa_cons (pv 3) pa_nil)))) (pv 3))))) (pss_one (ps_ret (pe_tup (pa_cons (pe_lc (own := [("top", 2), ("bottom", 3)]) (g := gTup K 2 (gCons (gName 2) (gCons (gName 3) gNil))) (tt := tYes) (te := tOp (rI CMulA fun i j => .int (i * j)) (tVar 2) (tOp (rI CDivA fun i j => .int (i.fdiv j)) (tVar 1) (tVar 3))) rfl sc_oob.nd (pi_list (pv 0)) (blkOk_by (own := [("top", 2), ("bottom", 3)]) (N := N_oob) (sc := defScope s_oob) (by decide +kernel))
          (fun _ _ _ _ _ => pg_tup rfl (pgs_cons (pg_name (i := 2) sc_oob.nd rfl (.inl rfl)) (pgs_cons (pg_name (i := 3) sc_oob.nd rfl (.inl rfl)) pgs_nil))) (fun _ _ _ _ _ => pts_nil) (fun _ _ _ _ _ => pe_op op_mulA (pv 2) (pe_op op_fdivA (pv 1) (pv 3)))) (pa_cons (pv 1) pa_nil))))))), ?_⟩
    refine ⟨_, rfl, p, rfl, ⟨_, r1⟩, for_list (K := K) (a := p) (xs := rs.map V.ref) (fun i σ H1 => H1 = H ∧ ∃ (c : Int) (y2 y3 : Option V), σ = [some (.ref p), some (.int c), y2, y3] ∧ 0 < c ∧ c ∣ D ∧ ∀ x ∈ xs.take i, x.2 ∣ c) ?_ ?_ ?_ ?_⟩
    · exact ⟨rfl, 1, _, _, rfl, by decide, Int.one_dvd D, fun x hx => by simp at hx⟩
    · rintro i σ H1 _ ⟨rfl, _⟩
      exact r1
    · rintro i y σ H1 hi ⟨rfl, c, y2, y3, rfl, c0, cD, hc⟩
      have hi2 : i < xs.length := by
        have := (List.getElem?_eq_some_iff.mp hi).1
        rw [List.length_map, hl] at this
        exact this
      have hg : xs[i]? = some xs[i] := List.getElem?_eq_getElem hi2
      obtain ⟨r, er, hr2⟩ := r2.get hg
      have ey : y = .ref r := by
        rw [List.getElem?_map, er] at hi
        exact (Option.some.inj hi).symm
      subst ey
      obtain ⟨b0, bD, _⟩ := O.ok xs[i] (List.getElem_mem hi2)
      have sc : Sm d c := dvd_small cD O.pos O.sm
      have sb : Sm d xs[i].2 := dvd_small bD O.pos O.sm
      have hg0 : 0 < Int.gcd c xs[i].2 := Nat.gcd_pos_of_pos_right _ (by omega)
      have hgs : Sm d ((Int.gcd c xs[i].2 : Nat) : Int) := by
        unfold Sm at *
        rw [Int.natAbs_natCast]
        exact Nat.lt_of_le_of_lt (Nat.gcd_le_right _ (by omega)) sb
      have d0 : 0 < d := by
        rcases Nat.eq_zero_or_pos d with z | z
        · rw [z] at sc
          unfold Sm at sc
          omega
        · exact z
      have hq1 : Sm d (c.fdiv ((Int.gcd c xs[i].2 : Nat) : Int)) := Nat.lt_of_le_of_lt (fdiv_le (by omega) (Int.gcd_dvd_left ..)) sc
      obtain ⟨k0, k1, k2, k3⟩ := lcm_ok c0 b0 cD bD
      refine ⟨r, _, rfl, hr2, rfl, _, _, rfl, _, _, rfl, rfl, ?_⟩
      refine ⟨_, rfl, _, rfl, _, rfl, c, xs[i].2, rfl, ?_⟩
      refine ⟨c, _, rfl, rfl, ⟨by omega, Nat.lt_of_lt_of_le (hgs.log d0) (by omega)⟩, _, rfl, _, _, rfl, rfl, hq1.cmul sb d0 d0 (by omega), rfl, _, _, _, rfl, k0, k1, fun x hx => ?_⟩
      rw [List.take_add_one, hg] at hx
      rcases List.mem_append.mp hx with z | z
      · exact Int.dvd_trans (hc x z) k2
      · rw [List.mem_singleton.mp z]
        exact k3
    · rintro σ H1 ⟨rfl, c, y2, y3, rfl, c0, cD, hc⟩
      rw [List.length_map, hl, List.take_length] at hc
      have sc : Sm d c := dvd_small cD O.pos O.sm
      have d0 : 0 < d := by
        rcases Nat.eq_zero_or_pos d with z | z
        · rw [z] at sc
          unfold Sm at sc
          omega
        · exact z
      refine ⟨_, rfl, p, rfl, ⟨_, r1⟩, fun R nR => ?_⟩
      have e1 := same_new (o := HO.lst []) nR
      refine lc_list (K := K) (a := p) (xs := rs.map V.ref) (fun i H2 => Same H1 H2 ∧ H2 R = some (.lst ((topsOn c (xs.take i)).map V.int))) ?_ ?_ ?_ ?_
      · exact ⟨e1, upd_same⟩
      · rintro i H2 _ ⟨s2, _⟩
        exact s2.seq r1
      · rintro i y H2 hi ⟨s2, hR⟩
        have hi2 : i < xs.length := by
          have := (List.getElem?_eq_some_iff.mp hi).1
          rw [List.length_map, hl] at this
          exact this
        have hg : xs[i]? = some xs[i] := List.getElem?_eq_getElem hi2
        obtain ⟨r, er, hr2⟩ := r2.get hg
        have ey : y = .ref r := by
          rw [List.getElem?_map, er] at hi
          exact (Option.some.inj hi).symm
        subst ey
        obtain ⟨b0, bD, sn⟩ := O.ok xs[i] (List.getElem_mem hi2)
        have sb : Sm d xs[i].2 := dvd_small bD O.pos O.sm
        have hdv := hc xs[i] (List.getElem_mem hi2)
        have ef : c.fdiv xs[i].2 = c / xs[i].2 := Int.fdiv_eq_ediv_of_nonneg _ (by omega)
        have sq : Sm d (c.fdiv xs[i].2) := Nat.lt_of_le_of_lt (fdiv_le b0 hdv) sc
        refine ⟨r, _, rfl, hr2.tk (Tk.same s2), rfl, _, _, rfl, _, _, rfl, rfl, rfl, tYes_go ?_⟩
        refine iteT ?_
        refine ⟨_, rfl, _, rfl, _, rfl, c, xs[i].2, rfl, rfl, ⟨by omega, Nat.lt_of_lt_of_le (sb.log d0) (by omega)⟩, _, _, rfl, rfl, (sn.mono (show n ≤ n + 1 by omega)).cmul sq (by omega) d0 (by omega), _, hR, ?_, ?_, ?_⟩
        · rw [List.length_map]
          unfold topsOn
          rw [List.length_map, List.length_take]
          have := O.len
          exact small1000 (by omega)
        · intro b o hb
          rw [upd_ne (ne_of_none hb nR)]
          exact s2 _ _ hb
        · rw [upd_same, List.take_add_one, hg]
          unfold topsOn
          rw [List.map_append, List.map_append, ef]
          rfl
      · rintro H2 ⟨s2, hR⟩
        rw [List.length_map, hl, List.take_length] at hR
        refine ⟨_, rfl, by show 2 ≤ sizeLine; decide, fun z nz => ?_⟩
        have e2 := same_new (o := HO.tup [.ref R, .int c]) nz
        exact q z R c _ (s2.trans e2) upd_same (e2 _ _ hR) c0 cD hc
def spAdded (K : PySem.W.Frag) : Sp := fun vs H Q _ => ∃ (p : Addr) (xs : List RT) (n d : Nat) (D : Int), vs = [.ref p] ∧ LstAt K H p xs ∧ Over1 n d D xs ∧ n ≤ 4000 ∧ d ≤ 4000 ∧
  ∀ z x H', Same H H' → RAt K H' z x → Red x → qv x = (xs.map qv).sum → x.2 ∣ D → Sm (n + d + 11) x.1 → Q (.ref z) H'
theorem ok_added {f fO fR : Addr} {fd fdO fdR : FuncData} (F : Fun K "added" "added" s_added f fd) (FO : Fun K "on_one_bottom" "on_one_bottom" s_oob fO fdO) (bO : Binds K fdO ["told"] []) (gO : mg "on_one_bottom" = some (.ref fO)) (GO : FnOk P w K mg base CX0 2 fO fdO ["told"] (spOob K))
    (FR : Fun K "ratio" "ratio" s_ratio fR fdR) (bR : Binds K fdR ["top", "bottom"] []) (gR : mg "ratio" = some (.ref fR)) (GR : FnOk P w K mg base CX0 2 fR fdR ["top", "bottom"] spRat0) (ms : mg "sum" = none) : FnOk P w K mg base CX0 3 f fd ["told"] (spAdded K) := by
  refine F.ok sc_added (fun vs H Q E h => ?_) (fun cdv A outer s H vs Q E hr h => ?_)
  · obtain ⟨_, _, _, _, _, rfl, _⟩ := h
    rfl
  · obtain ⟨p, xs, n, d, D, rfl, hlst, O, hn, hd, q⟩ := h
    refine ⟨_, (pss_cons (ps_asg (pe_call GO hr (by rfl) gO FO.kp bO .nil pass0 (pa_cons (pv 0) pa_nil)) (pg_tup rfl (pgs_cons (pg_name (i := 1) sc_added.nd rfl (.inl rfl)) (pgs_cons (pg_name (i := 2) sc_added.nd rfl (.inl rfl)) pgs_nil)))) (pss_one (ps_ret (pe_call GR hr (by rfl) gR FR.kp bR .nil pass0 (pa_cons (pe_callB (cr_sum rfl) (by rfl) ms (by decide +kernel) (pa_cons (pv 1) pa_nil)) (pa_cons (pv 2) pa_nil)))))), ?_⟩
    refine ⟨_, rfl, p, xs, n, d, D, rfl, hlst, O, hn, hd, fun z zl c H1 s1 hz hzl c0 cD hc => ?_⟩
    refine ⟨z, _, rfl, SqT.of hz, rfl, _, _, rfl, _, _, rfl, rfl, ?_⟩
    have sc : Sm d c := dvd_small cD O.pos O.sm
    refine ⟨_, rfl, zl, _, rfl, SqL.of hzl, _, rfl, _, c, rfl, sc.mono (show d ≤ 8000 by omega), Int.ne_of_gt c0, fun y ny => ?_⟩
    have e := same_new (o := HO.tup [.int (ratT (topsOn c xs).sum c), .int (ratB (topsOn c xs).sum c)]) ny
    have red : Red (low2 (topsOn c xs).sum c) := low2_red (Int.ne_of_gt c0)
    have val : qv (low2 (topsOn c xs).sum c) = (((topsOn c xs).sum : Int) : Rat) / (c : Rat) := qv_low2 c0
    obtain ⟨y1, y2⟩ := red_small red c0 val
    refine q y (low2 (topsOn c xs).sum c) _ (s1.trans e) (SqT.of upd_same) red (val.trans (tops_sum c0 fun x hx => ⟨(O.ok x hx).1, hc x hx⟩)) (Int.dvd_trans y1 cD) ?_
    have t := tops_sm (n := n) c0 O.pos cD O.sm (xs := xs) fun x hx => ⟨(O.ok x hx).1, (O.ok x hx).2.2⟩
    have hlen := O.len
    unfold Sm
    have t2 : xs.length * 2 ^ (n + d) ≤ 1000 * 2 ^ (n + d) := Nat.mul_le_mul_right _ hlen
    have t3 : 2 ^ (n + d + 11) = 2048 * 2 ^ (n + d) := by rw [Nat.pow_add, Nat.mul_comm]
    have t4 : 0 < 2 ^ (n + d) := Nat.pow_pos (by decide)
    omega
end

end Fp

set_option Elab.async false
set_option linter.all false
set_option maxRecDepth 100000
set_option maxHeartbeats 4000000
set_option exponentiation.threshold 10000
namespace Fp
open PySem PySem.Spec PyProof.Rows L2
/-! ### the program's own: what lasts behind the row's end, the short life -/
abbrev s_behind : Stmt := topS 23
theorem sc_behind : FnScope ["life", "row", "step"] ["life"] (defScope s_behind) := ⟨rfl, rfl, rfl, by decide +kernel, rfl, by decide +kernel, by decide +kernel⟩
structure ConstN (K : PySem.W.Frag) (mg : Str → Option Value) (aN : Addr) : Prop where
  gN : mg "NOUGHT" = some (.ref aN)
  tN : ∀ H : Hp, RAt K H aN (0, 1)
structure Consts (K : PySem.W.Frag) (mg : Str → Option Value) (aN aO : Addr) : Prop where
  gN : mg "NOUGHT" = some (.ref aN)
  gO : mg "ONE" = some (.ref aO)
  tN : ∀ H, RAt K H aN (0, 1)
  tO : ∀ H, RAt K H aO (1, 1)
theorem Consts.n {K : PySem.W.Frag} {mg : Str → Option Value} {aN aO : Addr} (C : Consts K mg aN aO) : ConstN K mg aN := ⟨C.gN, C.tN⟩
def rM (x y : RT) : RT := low2 (x.1 * y.2 - y.1 * x.2) (x.2 * y.2)
def rO (x y : RT) : RT := low2 (x.1 * y.2) (x.2 * y.1)
/-- a step: from nought on, below one -/
def StepOk (n : Nat) (s : RT) : Prop := SmR n s ∧ 0 ≤ s.1 ∧ s.1 < s.2
theorem gap_pos {s : RT} (h : Red s) (h1 : s.1 < s.2) : 0 < (rM (1, 1) s).1 := by
  have hb : (0 : Int) < 1 * s.2 := by have := h.1; omega
  have e := low2_cross (t := 1 * s.2 - s.1 * 1) hb
  have hp := ratB_pos (t := 1 * s.2 - s.1 * 1) hb
  show 0 < (low2 (1 * s.2 - s.1 * 1) (1 * s.2)).1
  have hp2 : 0 < (low2 (1 * s.2 - s.1 * 1) (1 * s.2)).2 := hp
  generalize (low2 (1 * s.2 - s.1 * 1) (1 * s.2)).1 = x at *
  generalize (low2 (1 * s.2 - s.1 * 1) (1 * s.2)).2 = y at *
  rcases (by omega : 0 < x ∨ x ≤ 0) with z | z
  · exact z
  · have a1 : 0 < (1 * s.2 - s.1 * 1) * y := Int.mul_pos (by omega) hp2
    have a2 : x * (1 * s.2) ≤ 0 := Int.mul_nonpos_of_nonpos_of_nonneg z (Int.le_of_lt hb)
    omega
def behindR (row : List RT) (step : RT) : RT := match row.getLast? with
  | none => (0, 1)
  | some l => rO (rT l step) (rM (1, 1) step)
theorem behindR_snoc (ys : List RT) (y step : RT) : behindR (ys ++ [y]) step = rO (rT y step) (rM (1, 1) step) := by
  have e : (ys ++ [y]).getLast? = some y := by simp
  unfold behindR
  rw [e]
/-! data of a row -/
def rowD (xs : List RT) : List PyData := xs.map fun x => .tuple [.int x.1, .int x.2]
theorem RsAt.dp {K : PySem.W.Frag} {H : Hp} : ∀ {ps : List Addr} {xs : List RT}, RsAt K H ps xs → DpAll K H (ps.map V.ref) (rowD xs)
  | _, _, .nil => .nil
  | _, _, .cons h r => .cons h.dp r.dp
theorem RowAt.dp {K : PySem.W.Frag} {H : Hp} {p : Addr} {xs : List RT} (h : RowAt K H p xs) : Dp K H (.ref p) (.tuple (rowD xs)) := by
  obtain ⟨rs, h1, h2⟩ := h
  exact .tup h1 h2.dp
theorem rowD_lay : ∀ xs : List RT, PyData.canLayAll0 (rowD xs) = true
  | [] => rfl
  | x :: r => by
    show (PyData.canLay0 (.tuple [.int x.1, .int x.2]) && PyData.canLayAll0 (rowD r)) = true
    rw [rowD_lay r]
    rfl
theorem rowD_depth : ∀ xs : List RT, PyData.depthAll (rowD xs) ≤ 1
  | [] => by decide
  | x :: r => by
    show max (PyData.depth (.tuple [.int x.1, .int x.2])) (PyData.depthAll (rowD r)) ≤ 1
    have := rowD_depth r
    have e : PyData.depth (.tuple [.int x.1, .int x.2]) = 1 := rfl
    omega
theorem rowD_shaped (xs : List RT) : SeqAt.shaped (.tuple (rowD xs)) = true := by
  unfold SeqAt.shaped
  have h1 : PyData.canLay0 (.tuple (rowD xs)) = true := rowD_lay xs
  have h2 : (PyData.tuple (rowD xs)).depth ≤ 64 := by
    show PyData.depthAll (rowD xs) + 1 ≤ 64
    have := rowD_depth xs
    omega
  rw [h1, decide_eq_true h2]
  rfl
theorem rowD_nil (xs : List RT) : PyData.eqv (.tuple (rowD xs)) (.tuple []) = xs.isEmpty := by
  cases xs with
  | nil => rfl
  | cons x r => rfl
section
variable {P : Program} {w : World} {K : PySem.W.Frag} {mg : Str → Option Value} {base : Heap} {aN aO : Addr}
def spBehind (K : PySem.W.Frag) : Sp := fun vs H Q _ => ∃ (p : Addr) (row : List RT) (step : RT), vs = [.ref p] ∧ LifeAt K H p row step ∧ (∀ x ∈ row, SmR 1900 x) ∧ StepOk 300 step ∧
  ∀ z H', Same H H' → RAt K H' z (behindR row step) → Q (.ref z) H'
theorem ok_behind {f fO fT fM : Addr} {fd fdO fdT fdM : FuncData} (F : Fun K "behind_row" "behind_row" s_behind f fd) (C : Consts K mg aN aO)
    (FO : Fun K "over" "over" s_over fO fdO) (bO : Binds K fdO ["one", "other"] []) (gO : mg "over" = some (.ref fO)) (GO : FnOk P w K mg base CX0 3 fO fdO ["one", "other"] (spOver0 K))
    (FT : Fun K "times" "times" s_times fT fdT) (bT : Binds K fdT ["one", "other"] []) (gT : mg "times" = some (.ref fT)) (GT : FnOk P w K mg base CX0 3 fT fdT ["one", "other"] (spTwo K (fun a b c d => a * c)))
    (FM : Fun K "minus" "minus" s_minus fM fdM) (bM : Binds K fdM ["one", "other"] []) (gM : mg "minus" = some (.ref fM)) (GM : FnOk P w K mg base CX0 3 fM fdM ["one", "other"] (spTwo K (fun a b c d => a * d - c * b))) :
    FnOk P w K mg base CX0 4 f fd ["life"] (spBehind K) := by
  refine F.ok sc_behind (fun vs H Q E h => ?_) (fun cdv A outer s H vs Q E hr h => ?_)
  · obtain ⟨_, _, _, rfl, _⟩ := h
    rfl
  · obtain ⟨p, row, step, rfl, ⟨pr, ps, l1, l2, l3⟩, hsm, hst, q⟩ := h
    refine ⟨_, (pss_cons (ps_asg (pv 0) (pg_tup rfl (pgs_cons (pg_name (i := 1) sc_behind.nd rfl (.inl rfl)) (pgs_cons (pg_name (i := 2) sc_behind.nd rfl (.inl rfl)) pgs_nil)))) (pss_cons (ps_if (pt_cmpR (op_eqD hr.units) (pv 1) (pe_tup pa_nil) (nomark _)) (pss_one (ps_ret (pe_glob (v := .ref aN) rfl C.gN rfl))) pss_nil) (pss_one (ps_ret (pe_call GO hr (by rfl) gO FO.kp bO .nil pass0 (pa_cons (pe_call GT hr (by rfl) gT FT.kp bT .nil pass0 (pa_cons (pe_ix ix_tup (pv 1) (pe_un un_neg pe_int) (fun _ _ => rfl)) (pa_cons (pv 2) pa_nil))) (pa_cons (pe_call GM hr (by rfl) gM FM.kp bM .nil pass0 (pa_cons (pe_glob (v := .ref aO) rfl C.gO rfl) (pa_cons (pv 2) pa_nil))) pa_nil))))))), ?_⟩
    refine ⟨_, rfl, p, _, rfl, l1, rfl, _, _, rfl, _, _, rfl, rfl, ?_⟩
    refine ⟨_, rfl, by show 0 ≤ sizeLine; decide, fun a na => ?_⟩
    have e1 := same_new (o := HO.tup []) na
    refine ⟨_, _, (l2.tk (Tk.same e1)).dp, .tup (SqT.of upd_same) .nil, rowD_shaped row, rfl, _, rfl, ?_⟩
    rw [rowD_nil]
    rcases snoc_cases row with rfl | ⟨ys, y, rfl⟩
    · exact iteT (q aN _ e1 (C.tN _))
    · have ne : (ys ++ [y]).isEmpty = false := by simp
      rw [ne]
      refine iteF ?_
      obtain ⟨hs1, hs2, hs3⟩ := hst
      have hy := hsm y (by simp)
      refine ⟨_, rfl, 1, rfl, ?_⟩
      refine ix_back (k := 1) (j := ys.length) (x := y) (l2.tk (Tk.same e1)) (by decide) (by simp) (by simp) fun r hr3 => ?_
      refine ⟨_, rfl, r, ps, _, _, _, _, rfl, ⟨hr3, l3.tk (Tk.same e1), hy.2.1.mono (by decide), hy.2.2.mono (by decide), hs1.2.1.mono (by decide), hs1.2.2.mono (by decide), hy.1.1, hs1.1.1⟩, fun b nb => ?_⟩
      have e2 := same_new (o := HO.tup [.int (rT y step).1, .int (rT y step).2]) nb
      refine ⟨_, rfl, aO, ps, _, _, _, _, rfl, ⟨C.tO _, l3.tk (Tk.same (e1.trans e2)), by unfold Sm; decide, by unfold Sm; decide, hs1.2.1.mono (by decide), hs1.2.2.mono (by decide), by decide, hs1.1.1⟩, fun b2 nb2 => ?_⟩
      have e3 := same_new (o := HO.tup [.int (rM (1, 1) step).1, .int (rM (1, 1) step).2]) nb2
      have sT := rT_sm hy hs1
      have hden : (0 : Int) < 1 * step.2 := by have := hs1.1.1; omega
      have a1 : Sm 301 (1 * step.2 - step.1 * 1) := by
        rw [Int.one_mul, Int.mul_one]
        exact hs1.2.2.sub hs1.2.1
      have a2 : Sm 301 (1 * step.2) := by
        rw [Int.one_mul]
        exact hs1.2.2.mono (by decide)
      have sM : SmR 301 (rM (1, 1) step) := low2_sm hden a1 a2
      refine ⟨b, b2, _, _, _, _, rfl, ⟨SqT.of (e3 _ _ upd_same), SqT.of upd_same, sT.2.1.mono (by decide), sT.2.2.mono (by decide), sM.2.1.mono (by decide), sM.2.2.mono (by decide), sT.1.1, sM.1.1⟩, Int.ne_of_gt (Int.mul_pos sT.1.1 (gap_pos hs1.1 hs3)), fun b3 nb3 => ?_⟩
      refine q b3 _ (e1.trans (e2.trans (e3.trans (same_new nb3)))) ?_
      rw [behindR_snoc]
      exact SqT.of upd_same
end

end Fp

set_option Elab.async false
set_option linter.all false
set_option maxRecDepth 100000
set_option maxHeartbeats 4000000
set_option exponentiation.threshold 10000
namespace Fp
open PySem PySem.Spec PyProof.Rows L2
/-! ### chances, one behind the other -/

def chR (row : List RT) (step : RT) (i : Nat) : Rat := match row[i]? with
  | some x => qv x
  | none => match row.getLast? with
    | none => 0
    | some l => qv l * qv step ^ (i + 1 - row.length)
theorem chR_in {row : List RT} {step : RT} {i : Nat} {x : RT} (h : row[i]? = some x) : chR row step i = qv x := by
  unfold chR
  rw [h]
theorem chR_out {row : List RT} {step l : RT} {i : Nat} (h : row.length ≤ i) (hl : row.getLast? = some l) : chR row step i = qv l * qv step ^ (i + 1 - row.length) := by
  unfold chR
  rw [List.getElem?_eq_none h, hl]
theorem chR_nil {step : RT} {i : Nat} : chR [] step i = 0 := rfl
theorem last_is {row : List RT} (h : row ≠ []) : ∃ l, row.getLast? = some l ∧ row[row.length - 1]? = some l ∧ l ∈ row := by
  refine ⟨row.getLast h, List.getLast?_eq_some_getLast h, ?_, List.getLast_mem h⟩
  rw [List.getLast_eq_getElem]
  exact List.getElem?_eq_getElem _
theorem chR_next {row : List RT} {step : RT} {k : Nat} (h : row.length ≤ k + 1) (hne : row ≠ []) : chR row step (k + 1) = chR row step k * qv step := by
  obtain ⟨l, h1, h2, _⟩ := last_is hne
  have hp := List.length_pos_iff.mpr hne
  rw [chR_out h h1]
  rcases (by omega : row.length = k + 1 ∨ row.length ≤ k) with z | z
  · have e : row[k]? = some l := by
      rw [← h2]
      congr 1
      omega
    rw [chR_in e, show k + 1 + 1 - row.length = 0 + 1 by omega, Rat.pow_succ, Rat.pow_zero]
    grind
  · rw [chR_out z h1, show k + 1 + 1 - row.length = (k + 1 - row.length) + 1 by omega, Rat.pow_succ]
    grind
/-- the chances 1 to as many as there are -/
structure IsCh (row : List RT) (step : RT) (n most : Nat) (chs : List RT) : Prop where
  len : chs.length = most
  ok : ∀ i x, chs[i]? = some x → SmR (n + 5 * i) x ∧ qv x = chR row step i
/-- what one number stands under all of them -/
theorem ch_dvd {row : List RT} {step x : RT} {n i most : Nat} (hr : ∀ y ∈ row, SmR n y) (hs : Red step) (hx : Red x) (h : qv x = chR row step i) (hi : i < most) : x.2 ∣ prodB row * step.2 ^ most := by
  match e : row[i]? with
  | some y =>
    have hy := List.mem_of_getElem? e
    have ex : x = y := qv_inj hx (hr y hy).1 (h.trans (chR_in e))
    rw [ex]
    exact Int.dvd_trans (prodB_dvd hy) (Int.dvd_mul_right ..)
  | none =>
    have hle : row.length ≤ i := List.getElem?_eq_none_iff.mp e
    match el : row.getLast? with
    | none =>
      have er : row = [] := List.getLast?_eq_none_iff.mp el
      rw [er, chR_nil] at h
      have ex : x = (0, 1) := qv_inj hx ⟨by decide, by decide⟩ (by
        rw [h]
        unfold qv
        show (0 : Rat) = ((0 : Int) : Rat) / ((1 : Int) : Rat)
        grind)
      rw [ex]
      exact Int.one_dvd _
    | some l =>
      have hl : l ∈ row := List.mem_of_getLast? el
      have hl0 := (hr l hl).1
      rw [chR_out hle el] at h
      obtain ⟨j, ej, hj⟩ : ∃ j, i + 1 - row.length = j ∧ j ≤ most := ⟨_, rfl, by omega⟩
      rw [ej] at h
      have key : ∀ j : Nat, qv l * qv step ^ j = ((l.1 * step.1 ^ j : Int) : Rat) / ((l.2 * step.2 ^ j : Int) : Rat) := by
        intro j
        induction j with
        | zero =>
          rw [Rat.pow_zero, Int.pow_zero, Int.pow_zero, Int.mul_one, Int.mul_one]
          unfold qv
          grind
        | succ j ih =>
          have h1 := cast_ne (Int.ne_of_gt hs.1)
          have h2 := cast_ne (Int.ne_of_gt (Int.mul_pos hl0.1 (show (0 : Int) < step.2 ^ j from Int.pow_pos hs.1)))
          rw [Rat.pow_succ, ← Rat.mul_assoc, ih, Int.pow_succ, Int.pow_succ, ← Int.mul_assoc, ← Int.mul_assoc, Rat.intCast_mul (l.1 * step.1 ^ j), Rat.intCast_mul (l.2 * step.2 ^ j)]
          unfold qv
          grind
      rw [key j] at h
      obtain ⟨d1, _⟩ := red_small hx (Int.mul_pos hl0.1 (Int.pow_pos hs.1)) h
      refine Int.dvd_trans d1 ?_
      obtain ⟨u, hu⟩ := prodB_dvd hl
      refine ⟨u * step.2 ^ (most - j), ?_⟩
      rw [hu, show most = j + (most - j) by omega, Int.pow_add, Nat.add_sub_cancel_left]
      rw [Int.mul_assoc l.2 u, ← Int.mul_assoc u, Int.mul_comm u (step.2 ^ j), Int.mul_assoc (step.2 ^ j), ← Int.mul_assoc l.2]
theorem sm_pow {n : Nat} {a : Int} (h : Sm n a) (hn : 0 < n) : ∀ k : Nat, Sm (n * k + 1) (a ^ k)
  | 0 => by
    unfold Sm
    rw [Int.pow_zero]
    simp
  | k + 1 => by
    rw [Int.pow_succ]
    have := (sm_pow h hn k).mul h
    refine this.mono ?_
    rw [Nat.mul_add]
    omega
theorem over_ch {row : List RT} {step : RT} {n most : Nat} {chs : List RT} (hr : ∀ y ∈ row, SmR n y) (hs : SmR 5 step) (hl : row.length ≤ 14) (hn : n ≤ 64) (hm : most ≤ 70) (h : IsCh row step n most chs) : Over1 (n + 350) 1300 (prodB row * step.2 ^ most) chs := by
  refine ⟨Int.mul_pos (prodB_pos fun x hx => (hr x hx).1.1) (Int.pow_pos hs.1.1), ?_, fun x hx => ?_, by rw [h.len]; omega⟩
  · have h1 := prodB_sm fun x hx => (hr x hx).2.2
    have h2 := sm_pow hs.2.2 (by decide) most
    refine (h1.mul h2).mono ?_
    have : n * row.length ≤ 64 * 14 := Nat.mul_le_mul hn hl
    omega
  · obtain ⟨i, hi⟩ := List.mem_iff_getElem?.mp hx
    have hi2 := (List.getElem?_eq_some_iff.mp hi).1
    rw [h.len] at hi2
    obtain ⟨s1, s2⟩ := h.ok i x hi
    exact ⟨s1.1.1, ch_dvd hr hs.1 s1.1 s2 hi2, s1.2.1.mono (by omega)⟩
def sumCh (row : List RT) (step : RT) : Nat → Rat
  | 0 => 0
  | k + 1 => sumCh row step k + chR row step k
theorem sum_snoc (xs : List Rat) (x : Rat) : (xs ++ [x]).sum = xs.sum + x := by
  induction xs with
  | nil =>
    show x + 0 = 0 + x
    grind
  | cons y r ih =>
    show y + (r ++ [x]).sum = y + r.sum + x
    rw [ih]
    grind
theorem IsCh.sum {row : List RT} {step : RT} {n most : Nat} {chs : List RT} (h : IsCh row step n most chs) : (chs.map qv).sum = sumCh row step most := by
  have key : ∀ k, k ≤ most → ((chs.take k).map qv).sum = sumCh row step k := by
    intro k
    induction k with
    | zero =>
      intro _
      rfl
    | succ k ih =>
      intro hk
      have hk2 : k < chs.length := by rw [h.len]; omega
      have hg : chs[k]? = some chs[k] := List.getElem?_eq_getElem hk2
      rw [List.take_add_one, hg]
      show ((chs.take k ++ [chs[k]]).map qv).sum = sumCh row step k + chR row step k
      rw [List.map_append, List.map_singleton, sum_snoc, ih (by omega), (h.ok k _ hg).2]
  have := key most (Nat.le_refl _)
  rw [← h.len, List.take_length] at this
  rw [h.len] at this
  exact this
abbrev s_chto : Stmt := topS 24
theorem sc_chto : FnScope ["life", "most", "row", "step", "chances"] ["life", "most"] (defScope s_chto) := ⟨rfl, rfl, rfl, by decide +kernel, rfl, by decide +kernel, by decide +kernel⟩
/-- a life as the program is asked of it -/
structure LifeOk (n : Nat) (row : List RT) (step : RT) : Prop where
  sm : ∀ y ∈ row, SmR n y
  st : StepOk 5 step
  len : row.length ≤ 14
  n64 : n ≤ 64
  n1 : 1 ≤ n
section
variable {P : Program} {w : World} {K : PySem.W.Frag} {mg : Str → Option Value} {base : Heap} {aN aO : Addr}
def spChto (K : PySem.W.Frag) : Sp := fun vs H Q _ => ∃ (p : Addr) (row : List RT) (step : RT) (n most : Nat), vs = [.ref p, .int (most : Int)] ∧ LifeAt K H p row step ∧ LifeOk n row step ∧ most ≤ 70 ∧
  ∀ z rs chs H', Same H H' → H' z = some (.lst (rs.map V.ref)) → RsAt K H' rs chs → IsCh row step n most chs → Q (.ref z) H'
theorem ok_chto {f fT : Addr} {fd fdT : FuncData} (F : Fun K "chances_to" "chances_to" s_chto f fd) (C : ConstN K mg aN)
    (FT : Fun K "times" "times" s_times fT fdT) (bT : Binds K fdT ["one", "other"] []) (gT : mg "times" = some (.ref fT)) (GT : FnOk P w K mg base CX0 3 fT fdT ["one", "other"] (spTwo K (fun a b c d => a * c)))
    (ml : mg "len" = none) (mL : mg "list" = none) : FnOk P w K mg base CX0 4 f fd ["life", "most"] (spChto K) := by
  refine F.ok sc_chto (fun vs H Q E h => ?_) (fun cdv A outer s H vs Q E hr h => ?_)
  · obtain ⟨_, _, _, _, _, rfl, _⟩ := h
    rfl
  · obtain ⟨p, row, step, n, most, rfl, ⟨pr, ps, l1, l2, l3⟩, L, hm, q⟩ := h
    refine ⟨_, (pss_cons (ps_asg (pv 0) (pg_tup rfl (pgs_cons (pg_name (i := 2) sc_chto.nd rfl (.inl rfl)) (pgs_cons (pg_name (i := 3) sc_chto.nd rfl (.inl rfl)) pgs_nil)))) (pss_cons (ps_set (i := 4) sc_chto.nd rfl (.inl rfl) (pe_callTy call_list_of (by rfl) mL (by decide +kernel) (pa_cons (pe_slice sl_tupA (pv 2) po_none (po_some (pv 1))) pa_nil))) (pss_cons (ps_while PassesOwn.never (pt_cmpR op_lt (pe_callB call_len_seq (by rfl) ml PySem.boot_len (pa_cons (pv 4) pa_nil)) (pv 1) (nomark _))
          (pss_one (ps_expr (pe_bm PySem.F.plainAttrs_list PySem.F.slot_list_append PySem.F.type_list_append mt_append (pv 4) (pa_cons (pe_ifExp (pt_truth (pv 4) (by intro _; rfl)) (pe_call GT hr (by rfl) gT FT.kp bT .nil pass0 (pa_cons (pe_ix ix_list (pv 4) (pe_un un_neg pe_int) (fun _ _ => rfl)) (pa_cons (pv 3) pa_nil))) (pe_glob (v := .ref aN) rfl C.gN rfl)) pa_nil))))) (pss_one (ps_ret (pv 4)))))), ?_⟩
    refine ⟨_, rfl, p, _, rfl, l1, rfl, _, _, rfl, _, _, rfl, rfl, ?_⟩
    refine ⟨_, rfl, _, rfl, most, rfl, ?_⟩
    refine take_row l2 fun a H1 s1 ha => ?_
    obtain ⟨rs0, a1, a2⟩ := id ha
    refine ⟨a, _, rfl, .inr a1, fun c nc => ?_⟩
    have e1 := same_new (o := HO.lst (rs0.map V.ref)) nc
    have nc0 : H c = none := s1.free nc
    have hlen0 := a2.length
    rw [List.length_take] at hlen0
    refine ⟨fun m σ H2 => ∃ (rs : List Addr) (chs : List RT), σ = [some (.ref p), some (.int (most : Int)), some (.ref pr), some (.ref ps), some (.ref c)] ∧ Same H H2 ∧ H2 c = some (.lst (rs.map V.ref)) ∧ RsAt K H2 rs chs ∧ m + chs.length = most ∧ (row.length ≤ chs.length ∨ m = 0) ∧ (∀ i x, chs[i]? = some x → SmR (n + 5 * i) x ∧ qv x = chR row step i), ⟨most - (row.take most).length, rs0, row.take most, rfl, s1.trans e1, upd_same, a2.tk (Tk.same e1), ?_, ?_, ?_⟩, ?_⟩
    · rw [List.length_take]
      omega
    · rw [List.length_take]
      omega
    · intro i x hx
      rw [List.getElem?_take] at hx
      split at hx
      · exact ⟨(L.sm x (List.mem_of_getElem? hx)).mono (by omega), (chR_in hx).symm⟩
      · cases hx
    · rintro m σ H2 ⟨rs, chs, rfl, s2, hc, hrs, em, hlr, hok⟩
      have hl := hrs.length
      refine ⟨_, rfl, c, _, rfl, .inl (SqL.of hc), _, rfl, _, _, rfl, rfl, _, rfl, ite2 (fun c2 => ?_) (fun c2 => ?_)⟩
      · have hlt : chs.length < most := by
          have : (((rs.map V.ref).length : Nat) : Int) < (most : Int) := of_decide_eq_true c2
          rw [List.length_map] at this
          omega
        have hrl : row.length ≤ chs.length := by
          rcases hlr with z | z
          · exact z
          · omega
        refine ⟨fun σ' H' => ∃ (rs : List Addr) (chs' : List RT), σ' = [some (.ref p), some (.int (most : Int)), some (.ref pr), some (.ref ps), some (.ref c)] ∧ Same H H' ∧ H' c = some (.lst (rs.map V.ref)) ∧ RsAt K H' rs chs' ∧ chs'.length = chs.length + 1 ∧ (∀ i x, chs'[i]? = some x → SmR (n + 5 * i) x ∧ qv x = chR row step i), fun σ' H' z => ?_, ?_⟩
        · obtain ⟨rs', chs', z1, z2, z3, z4, z5, z6⟩ := z
          exact ⟨m - 1, by omega, rs', chs', z1, z2, z3, z4, by omega, .inl (by omega), z6⟩
        · have put : ∀ (r : Addr) (x : RT) (H3 : Hp), Same H2 H3 → RAt K H3 r x → SmR (n + 5 * chs.length) x → qv x = chR row step chs.length →
              ∃ (l : Addr) (xs : List V) (y : V), V.ref c = .ref l ∧ [V.ref r] = [y] ∧ H3 l = some (.lst xs) ∧ xs.length < sizeLine ∧ ∃ (rs : List Addr) (chs' : List RT), [some (V.ref p), some (.int (most : Int)), some (.ref pr), some (.ref ps), some (.ref c)] = [some (.ref p), some (.int (most : Int)), some (.ref pr), some (.ref ps), some (.ref c)] ∧ Same H (upd H3 l (.lst (xs ++ [y]))) ∧ upd H3 l (.lst (xs ++ [y])) c = some (.lst (rs.map V.ref)) ∧ RsAt K (upd H3 l (.lst (xs ++ [y]))) rs chs' ∧ chs'.length = chs.length + 1 ∧ (∀ i x, chs'[i]? = some x → SmR (n + 5 * i) x ∧ qv x = chR row step i) := by
            intro r x H3 s3 hx hsx hqx
            have hc3 := s3 _ _ hc
            refine ⟨c, _, _, rfl, rfl, hc3, ?_, rs ++ [r], chs ++ [x], rfl, ?_, ?_, ?_, by simp, ?_⟩
            · rw [List.length_map, hl]
              exact small1000 (by omega)
            · intro b o hb
              rw [upd_ne (ne_of_none hb nc0)]
              exact s3 _ _ (s2 _ _ hb)
            · rw [upd_same, List.map_append]
              rfl
            · exact ((hrs.tk (Tk.same s3)).append (.cons hx .nil)).tk (tk_lst hc3)
            · intro i y hy
              rcases (by omega : i < chs.length ∨ i = chs.length ∨ chs.length < i) with z | z | z
              · rw [List.getElem?_append_left z] at hy
                exact hok i y hy
              · subst z
                rw [List.getElem?_append_right (Nat.le_refl _), Nat.sub_self] at hy
                cases Option.some.inj hy
                exact ⟨hsx, hqx⟩
              · rw [List.getElem?_append_right (by omega), List.getElem?_eq_none (by simp; omega)] at hy
                cases hy
          refine ⟨_, rfl, .inl ⟨rfl, _, SqL.of hc⟩, ?_⟩
          refine ⟨_, rfl, _, .inl ⟨_, SqL.of hc, rfl⟩, ?_⟩
          rcases snoc_cases chs with e0 | ⟨ys, y, e0⟩
          · have er : rs = [] := by
              rw [e0] at hl
              exact List.length_eq_zero_iff.mp hl
            subst er
            have erow : row = [] := by
              rw [e0] at hrl
              exact List.length_eq_zero_iff.mp (by simpa using hrl)
            refine iteF ?_
            refine put aN (0, 1) H2 (Same.refl _) (C.tN _) (SmR.mono (n := 1) ⟨⟨by decide, by decide⟩, by unfold Sm; decide, by unfold Sm; decide⟩ (by have := L.n1; omega)) ?_
            · rw [erow, chR_nil]
              unfold qv
              show ((0 : Int) : Rat) / ((1 : Int) : Rat) = 0
              grind
          · have hne : (rs.map V.ref).isEmpty = false := by
              rw [e0] at hl
              cases rs with
              | nil => simp at hl
              | cons b t => rfl
            rw [hne]
            refine iteT ?_
            have hy : chs[ys.length]? = some y := by
              rw [e0]
              simp
            have hyl : chs.length = ys.length + 1 := by
              rw [e0]
              simp
            obtain ⟨r, er, hr2⟩ := hrs.get hy
            have eat : atI (rs.map V.ref) (-1) = some (.ref r) := by
              have e2 : ixN (rs.map V.ref).length (-1) = some ys.length := by
                unfold ixN
                rw [List.length_map, hl, hyl, if_neg (by omega), if_pos (by omega)]
                congr 1
                omega
              unfold atI
              rw [e2]
              show (rs.map V.ref)[ys.length]? = _
              rw [List.getElem?_map, er]
              rfl
            obtain ⟨sy, qy⟩ := hok _ _ hy
            refine ⟨_, rfl, 1, rfl, c, _, -1, _, rfl, rfl, SqL.of hc, eat, ?_⟩
            have hn64 := L.n64
            have hst := L.st.1
            refine ⟨_, rfl, r, ps, _, _, _, _, rfl, ⟨hr2, l3.tk (Tk.same s2), sy.2.1.mono (by omega), sy.2.2.mono (by omega), hst.2.1.mono (by decide), hst.2.2.mono (by decide), sy.1.1, hst.1.1⟩, fun b nb => ?_⟩
            have e3 := same_new (o := HO.tup [.int (rT y step).1, .int (rT y step).2]) nb
            obtain ⟨v1, v2⟩ := qv_rT sy.1 hst.1
            refine put b (rT y step) _ e3 (SqT.of upd_same) ((rT_sm sy hst).mono (by omega)) ?_
            rw [v2, qy, hyl]
            rcases Classical.em (row = []) with z | z
            · rw [z, chR_nil, chR_nil]
              grind
            · exact (chR_next (by omega) z).symm
      · have hge : m = 0 := by
          have : ¬ (((rs.map V.ref).length : Nat) : Int) < (most : Int) := fun z => c2 (decide_eq_true z)
          rw [List.length_map] at this
          omega
        exact ⟨_, rfl, q c rs chs H2 s2 hc hrs ⟨by omega, hok⟩⟩
end

end Fp

set_option Elab.async false
set_option linter.all false
set_option maxRecDepth 100000
set_option maxHeartbeats 4000000
set_option exponentiation.threshold 10000
namespace Fp
open PySem PySem.Spec PyProof.Rows L2
/-! ### a chance, lasting, the miss -/
abbrev s_chat : Stmt := topS 25
abbrev s_lasting : Stmt := topS 26
theorem sc_chat : FnScope ["life", "k"] ["life", "k"] (defScope s_chat) := ⟨rfl, rfl, rfl, by decide +kernel, rfl, by decide +kernel, by decide +kernel⟩
theorem sc_lasting : FnScope ["life", "k"] ["life", "k"] (defScope s_lasting) := ⟨rfl, rfl, rfl, by decide +kernel, rfl, by decide +kernel, by decide +kernel⟩
theorem qv_rM {x y : RT} (hx : Red x) (hy : Red y) : Red (rM x y) ∧ qv (rM x y) = qv x - qv y := by
  have hb := Int.mul_pos hx.1 hy.1
  refine ⟨low2_red (Int.ne_of_gt hb), ?_⟩
  unfold rM
  rw [qv_low2 hb, Rat.intCast_sub, Rat.intCast_mul, Rat.intCast_mul, Rat.intCast_mul]
  have h1 := cast_ne (Int.ne_of_gt hx.1)
  have h2 := cast_ne (Int.ne_of_gt hy.1)
  unfold qv
  grind
theorem qv_rO {x y : RT} (hx : Red x) (hy : Red y) (h : 0 < y.1) : Red (rO x y) ∧ qv (rO x y) = qv x / qv y := by
  have hb := Int.mul_pos hx.1 h
  refine ⟨low2_red (Int.ne_of_gt hb), ?_⟩
  unfold rO
  rw [qv_low2 hb, Rat.intCast_mul, Rat.intCast_mul]
  have h1 := cast_ne (Int.ne_of_gt hx.1)
  have h2 := cast_ne (Int.ne_of_gt hy.1)
  have h3 := cast_ne (Int.ne_of_gt h)
  unfold qv
  grind
theorem qv_one : qv (1, 1) = 1 := by
  unfold qv
  show ((1 : Int) : Rat) / ((1 : Int) : Rat) = 1
  grind
theorem qv_nought : qv (0, 1) = 0 := by
  unfold qv
  show ((0 : Int) : Rat) / ((1 : Int) : Rat) = 0
  grind
theorem one_red : Red (1, 1) := ⟨by decide, by decide⟩
theorem gap_val {s : RT} (hs : Red s) (h : s.1 < s.2) : (1 : Rat) - qv s ≠ 0 := by
  obtain ⟨r, v⟩ := qv_rM one_red hs
  have hg := gap_pos hs h
  have e : qv (rM (1, 1) s) ≠ 0 := by
    have h1 := cast_ne (Int.ne_of_gt hg)
    have h2 := cast_ne (Int.ne_of_gt r.1)
    unfold qv
    grind
  rw [v, qv_one] at e
  exact e
/-- what lasts behind the row's end -/
def behQ (row : List RT) (step : RT) : Rat := match row.getLast? with
  | none => 0
  | some l => qv l * qv step / (1 - qv step)
theorem behind_val {row : List RT} {step : RT} {n : Nat} (hr : ∀ x ∈ row, SmR n x) (hs : StepOk 5 step) : SmR (n + 20) (behindR row step) ∧ qv (behindR row step) = behQ row step := by
  rcases snoc_cases row with rfl | ⟨ys, y, rfl⟩
  · exact ⟨SmR.mono (n := 1) (x := (0, 1)) ⟨⟨by decide, by decide⟩, by unfold Sm; decide, by unfold Sm; decide⟩ (by omega), qv_nought⟩
  · have hy := hr y (by simp)
    rw [behindR_snoc]
    have e : behQ (ys ++ [y]) step = qv y * qv step / (1 - qv step) := by
      have e : (ys ++ [y]).getLast? = some y := by simp
      unfold behQ
      rw [e]
    rw [e]
    obtain ⟨h1, h2, h3⟩ := hs
    obtain ⟨a1, a2⟩ := qv_rT hy.1 h1.1
    obtain ⟨b1, b2⟩ := qv_rM one_red h1.1
    have g := gap_pos h1.1 h3
    obtain ⟨c1, c2⟩ := qv_rO a1 b1 g
    refine ⟨⟨c1, ?_, ?_⟩, ?_⟩
    · have sT := rT_sm hy h1
      have hden : (0 : Int) < 1 * step.2 := by have := h1.1.1; omega
      have m1 : Sm 6 (1 * step.2 - step.1 * 1) := by
        rw [Int.one_mul, Int.mul_one]
        exact h1.2.2.sub h1.2.1
      have m2 : Sm 6 (1 * step.2) := by
        rw [Int.one_mul]
        exact h1.2.2.mono (by decide)
      have sM : SmR 6 (rM (1, 1) step) := low2_sm hden m1 m2
      exact (ratT_sm (Int.mul_pos sT.1.1 g) ((sT.2.1.mul sM.2.2).mono (show n + 5 + 6 ≤ n + 20 by omega)))
    · have sT := rT_sm hy h1
      have hden : (0 : Int) < 1 * step.2 := by have := h1.1.1; omega
      have m1 : Sm 6 (1 * step.2 - step.1 * 1) := by
        rw [Int.one_mul, Int.mul_one]
        exact h1.2.2.sub h1.2.1
      have m2 : Sm 6 (1 * step.2) := by
        rw [Int.one_mul]
        exact h1.2.2.mono (by decide)
      have sM : SmR 6 (rM (1, 1) step) := low2_sm hden m1 m2
      exact (ratB_sm (Int.mul_pos sT.1.1 g) ((sT.2.2.mul sM.2.1).mono (show n + 5 + 6 ≤ n + 20 by omega)))
    · rw [c2, a2, b2, qv_one]
section
variable {P : Program} {w : World} {K : PySem.W.Frag} {mg : Str → Option Value} {base : Heap} {aN aO : Addr}
def spChat (K : PySem.W.Frag) : Sp := fun vs H Q _ => ∃ (p : Addr) (row : List RT) (step : RT) (n k : Nat), vs = [.ref p, .int (k : Int)] ∧ LifeAt K H p row step ∧ LifeOk n row step ∧ 1 ≤ k ∧ k ≤ 70 ∧
  ∀ z x H', Same H H' → RAt K H' z x → SmR 500 x → qv x = chR row step (k - 1) → Q (.ref z) H'
theorem ok_chat {f fH : Addr} {fd fdH : FuncData} (F : Fun K "chance_at" "chance_at" s_chat f fd) (FH : Fun K "chances_to" "chances_to" s_chto fH fdH) (bH : Binds K fdH ["life", "most"] []) (gH : mg "chances_to" = some (.ref fH)) (GH : FnOk P w K mg base CX0 4 fH fdH ["life", "most"] (spChto K)) :
    FnOk P w K mg base CX0 5 f fd ["life", "k"] (spChat K) := by
  refine F.ok sc_chat (fun vs H Q E h => ?_) (fun cdv A outer s H vs Q E hr h => ?_)
  · obtain ⟨_, _, _, _, _, rfl, _⟩ := h
    rfl
  · obtain ⟨p, row, step, n, k, rfl, hlife, L, hk1, hk, q⟩ := h
    refine ⟨_, (pss_one (ps_ret (pe_ix ix_list (pe_call GH hr (by rfl) gH FH.kp bH .nil pass0 (pa_cons (pv 0) (pa_cons (pv 1) pa_nil))) (pe_op op_sub (pv 1) pe_int) (fun _ _ => rfl)))), ?_⟩
    refine ⟨_, rfl, _, rfl, p, row, step, n, k, rfl, hlife, L, hk, fun z rs chs H1 s1 hz hrs hch => ?_⟩
    have hlt : k - 1 < chs.length := by rw [hch.len]; omega
    have hg : chs[k - 1]? = some chs[k - 1] := List.getElem?_eq_getElem hlt
    obtain ⟨r, er, hr2⟩ := hrs.get hg
    obtain ⟨s2, v2⟩ := hch.ok _ _ hg
    have hg2 : (rs.map V.ref)[k - 1]? = some (.ref r) := by
      rw [List.getElem?_map, er]
      rfl
    have := L.n64
    exact ⟨_, rfl, _, 1, rfl, rfl, z, _, _, _, rfl, rfl, SqL.of hz, at_of (by omega) hg2, q r _ _ s1 hr2 (s2.mono (by omega)) v2⟩
def spLasting (K : PySem.W.Frag) : Sp := fun vs H Q _ => ∃ (p : Addr) (row : List RT) (step : RT) (n k : Nat), vs = [.ref p, .int (k : Int)] ∧ LifeAt K H p row step ∧ LifeOk n row step ∧ k ≤ 70 ∧
  ∀ z x H', Same H H' → RAt K H' z x → SmR 1800 x → qv x = 1 - sumCh row step k → Q (.ref z) H'
/-- one less a ratio -/
theorem one_less {x : RT} {n : Nat} (h : SmR n x) : SmR (n + 1) (rM (1, 1) x) ∧ qv (rM (1, 1) x) = 1 - qv x := by
  obtain ⟨b1, b2⟩ := qv_rM one_red h.1
  have hden : (0 : Int) < 1 * x.2 := by have := h.1.1; omega
  have m1 : Sm (n + 1) (1 * x.2 - x.1 * 1) := by
    rw [Int.one_mul, Int.mul_one]
    exact h.2.2.sub h.2.1
  have m2 : Sm (n + 1) (1 * x.2) := by
    rw [Int.one_mul]
    exact h.2.2.mono (by omega)
  refine ⟨low2_sm hden m1 m2, ?_⟩
  rw [b2, qv_one]
theorem ok_lasting {f fH fA fM : Addr} {fd fdH fdA fdM : FuncData} (F : Fun K "lasting" "lasting" s_lasting f fd) (C : Consts K mg aN aO)
    (FH : Fun K "chances_to" "chances_to" s_chto fH fdH) (bH : Binds K fdH ["life", "most"] []) (gH : mg "chances_to" = some (.ref fH)) (GH : FnOk P w K mg base CX0 4 fH fdH ["life", "most"] (spChto K))
    (FA : Fun K "added" "added" s_added fA fdA) (bA : Binds K fdA ["told"] []) (gA : mg "added" = some (.ref fA)) (GA : FnOk P w K mg base CX0 3 fA fdA ["told"] (spAdded K))
    (FM : Fun K "minus" "minus" s_minus fM fdM) (bM : Binds K fdM ["one", "other"] []) (gM : mg "minus" = some (.ref fM)) (GM : FnOk P w K mg base CX0 3 fM fdM ["one", "other"] (spTwo K (fun a b c d => a * d - c * b))) :
    FnOk P w K mg base CX0 5 f fd ["life", "k"] (spLasting K) := by
  refine F.ok sc_lasting (fun vs H Q E h => ?_) (fun cdv A outer s H vs Q E hr h => ?_)
  · obtain ⟨_, _, _, _, _, rfl, _⟩ := h
    rfl
  · obtain ⟨p, row, step, n, k, rfl, hlife, L, hk, q⟩ := h
    have hr3 := hr.mono (show 3 ≤ 4 by decide)
    refine ⟨_, (pss_one (ps_ret (pe_call GM hr3 (by rfl) gM FM.kp bM .nil pass0 (pa_cons (pe_glob (v := .ref aO) rfl C.gO rfl) (pa_cons (pe_call GA hr3 (by rfl) gA FA.kp bA .nil pass0 (pa_cons (pe_call GH hr (by rfl) gH FH.kp bH .nil pass0 (pa_cons (pv 0) (pa_cons (pv 1) pa_nil))) pa_nil)) pa_nil))))), ?_⟩
    refine ⟨_, rfl, _, rfl, p, row, step, n, k, rfl, hlife, L, hk, fun z rs chs H1 s1 hz hrs hch => ?_⟩
    have O := over_ch L.sm L.st.1 L.len L.n64 hk hch
    have hn := L.n64
    refine ⟨z, chs, _, _, _, rfl, ⟨rs, SqL.of hz, hrs⟩, O, by omega, by decide, fun y x H2 s2 hy rx vx dx sx => ?_⟩
    have sx2 : SmR 1730 x := ⟨rx, sx.mono (by omega), (dvd_small dx O.pos O.sm).mono (by decide)⟩
    refine ⟨aO, y, _, _, _, _, rfl, ⟨C.tO _, hy, by unfold Sm; decide, by unfold Sm; decide, sx2.2.1.mono (by decide), sx2.2.2.mono (by decide), by decide, rx.1⟩, fun b nb => ?_⟩
    have e := same_new (o := HO.tup [.int (rM (1, 1) x).1, .int (rM (1, 1) x).2]) nb
    obtain ⟨o1, o2⟩ := one_less sx2
    refine q b (rM (1, 1) x) _ (s1.trans (s2.trans e)) (SqT.of upd_same) (o1.mono (by decide)) ?_
    rw [o2, vx, hch.sum]
def rowQ (row : List RT) : Rat := (row.map qv).sum
end

end Fp

set_option Elab.async false
set_option linter.all false
set_option maxRecDepth 100000
set_option maxHeartbeats 4000000
set_option exponentiation.threshold 10000
namespace Fp
open PySem PySem.Spec PyProof.Rows L2
/-! ### the law's own sums, chances and rests -/
abbrev s_lsum : Stmt := topS 35
theorem sc_lsum : FnScope ["_law_some", "_law_found", "_law_one"] ["_law_some"] (defScope s_lsum) := ⟨rfl, rfl, rfl, by decide +kernel, rfl, by decide +kernel, by decide +kernel⟩
theorem sum_red {xs : List RT} {n d : Nat} {D : Int} {x : RT} (O : Over1 n d D xs) (hx : Red x) (h : qv x = (xs.map qv).sum) : x.2 ∣ D ∧ Sm (n + d + 11) x.1 := by
  have val : qv x = (((topsOn D xs).sum : Int) : Rat) / (D : Rat) := h.trans (tops_sum O.pos fun y hy => ⟨(O.ok y hy).1, (O.ok y hy).2.1⟩).symm
  obtain ⟨y1, y2⟩ := red_small hx O.pos val
  refine ⟨y1, ?_⟩
  have t := tops_sm (n := n) O.pos O.pos (Int.dvd_refl D) O.sm (xs := xs) fun y hy => ⟨(O.ok y hy).1, (O.ok y hy).2.2⟩
  have hlen := O.len
  unfold Sm
  have t2 : xs.length * 2 ^ (n + d) ≤ 1000 * 2 ^ (n + d) := Nat.mul_le_mul_right _ hlen
  have t3 : 2 ^ (n + d + 11) = 2048 * 2 ^ (n + d) := by rw [Nat.pow_add, Nat.mul_comm]
  have t4 : 0 < 2 ^ (n + d) := Nat.pow_pos (by decide)
  omega
theorem Over1.take {xs : List RT} {n d : Nat} {D : Int} (O : Over1 n d D xs) (i : Nat) : Over1 n d D (xs.take i) := ⟨O.pos, O.sm, fun x hx => O.ok x (List.mem_of_mem_take hx), by rw [List.length_take]; have := O.len; omega⟩
def rP (x y : RT) : RT := low2 (x.1 * y.2 + y.1 * x.2) (x.2 * y.2)
theorem qv_rP {x y : RT} (hx : Red x) (hy : 0 < y.2) : Red (rP x y) ∧ qv (rP x y) = qv x + qv y := by
  have hb := Int.mul_pos hx.1 hy
  refine ⟨low2_red (Int.ne_of_gt hb), ?_⟩
  unfold rP
  rw [qv_low2 hb, Rat.intCast_add, Rat.intCast_mul, Rat.intCast_mul, Rat.intCast_mul]
  have h1 := cast_ne (Int.ne_of_gt hx.1)
  have h2 := cast_ne (Int.ne_of_gt hy)
  unfold qv
  grind
section
variable {P : Program} {w : World} {K : PySem.W.Frag} {mg : Str → Option Value} {base : Heap}
def spLsum (K : PySem.W.Frag) (At : PySem.W.Frag → Hp → Addr → List RT → Prop) : Sp := fun vs H Q _ => ∃ (p : Addr) (xs : List RT) (n d : Nat) (D : Int), vs = [.ref p] ∧ At K H p xs ∧ Over1 n d D xs ∧ n ≤ 3500 ∧ d ≤ 3500 ∧
  ∀ z x H', Same H H' → RAt K H' z x → Red x → qv x = (xs.map qv).sum → x.2 ∣ D → Sm (n + d + 11) x.1 → Q (.ref z) H'
theorem ok_lsumL {f fL : Addr} {fd fdL : FuncData} (F : Fun K "_law_sum" "_law_sum" s_lsum f fd)
    (FL : Fun K "_law_low" "_law_low" s_low fL fdL) (bL : Binds K fdL ["_law_top", "_law_bottom"] []) (gL : mg "_law_low" = some (.ref fL)) (GL : FnOk P w K mg base CX0 1 fL fdL ["_law_top", "_law_bottom"] spLow) : FnOk P w K mg base CX0 2 f fd ["_law_some"] (spLsum K LstAt) := by
  refine F.ok sc_lsum (fun vs H Q E h => ?_) (fun cdv A outer s H vs Q E hr h => ?_)
  · obtain ⟨_, _, _, _, _, rfl, _⟩ := h
    rfl
  · obtain ⟨p, xs, n, d, D, rfl, hlst, O, hn, hd, q⟩ := h
    obtain ⟨rs, r1, r2⟩ := id hlst
    have hl := r2.length
    have hr1 := hr
    have d0 : 0 < d := by
      have h1 := O.sm
      have h2 := O.pos
      rcases Nat.eq_zero_or_pos d with z | z
      · rw [z] at h1
        unfold Sm at h1
        omega
      · exact z
    refine ⟨_, (pss_cons (ps_set (i := 1) sc_lsum.nd rfl (.inl rfl) (pe_tup (pa_cons pe_int (pa_cons pe_int pa_nil)))) (pss_cons (ps_for PassesOwn.never rfl (pi_list (pv 0)) (pg_name (i := 2) sc_lsum.nd rfl (.inl rfl)) (pss_one (ps_set (i := 1) sc_lsum.nd rfl (.inl rfl) (pe_call GL hr1 (by rfl) gL FL.kp bL .nil pass0 (pa_cons (pe_op op_add (pe_op op_mulA (pe_ix ix_tup (pv 1) pe_int (fun _ _ => rfl)) (pe_ix ix_tup (pv 2) pe_int (fun _ _ => rfl))) (pe_op op_mulA (pe_ix ix_tup (pv 2) pe_int (fun _ _ => rfl)) (pe_ix ix_tup (pv 1) pe_int (fun _ _ => rfl)))) (pa_cons (pe_op op_mulA (pe_ix ix_tup (pv 1) pe_int (fun _ _ => rfl)) (pe_ix ix_tup (pv 2) pe_int (fun _ _ => rfl))) pa_nil)))))) (pss_one (ps_ret (pv 1))))), ?_⟩
    refine ⟨by show 2 ≤ sizeLine; decide, fun a na => ?_⟩
    have e := same_new (o := HO.tup [.int 0, .int 1]) na
    refine ⟨_, rfl, p, rfl, ⟨_, e.seq r1⟩, for_list (K := K) (a := p) (xs := rs.map V.ref) (fun i σ H1 => ∃ (b : Addr) (y : RT) (y2 : Option V), σ = [some (.ref p), some (.ref b), y2] ∧ Same H H1 ∧ RAt K H1 b y ∧ Red y ∧ qv y = ((xs.take i).map qv).sum) ?_ ?_ ?_ ?_⟩
    · exact ⟨a, (0, 1), _, rfl, e, SqT.of upd_same, ⟨by decide, by decide⟩, by unfold qv; show ((0 : Int) : Rat) / ((1 : Int) : Rat) = 0; grind⟩
    · rintro i σ H1 _ ⟨_, _, _, _, s1, _⟩
      exact s1.seq r1
    · rintro i v σ H1 hi ⟨b, y, y2, rfl, s1, hb, ry, vy⟩
      have hi2 : i < xs.length := by
        have := (List.getElem?_eq_some_iff.mp hi).1
        rw [List.length_map, hl] at this
        exact this
      have hg : xs[i]? = some xs[i] := List.getElem?_eq_getElem hi2
      obtain ⟨r, er, hr2⟩ := r2.get hg
      have ev : v = .ref r := by
        rw [List.getElem?_map, er] at hi
        exact (Option.some.inj hi).symm
      subst ev
      obtain ⟨b0, bD, sn⟩ := O.ok xs[i] (List.getElem_mem hi2)
      obtain ⟨dy, sy⟩ := sum_red (O.take i) ry vy
      have sy2 : Sm d y.2 := dvd_small dy O.pos O.sm
      have sx2 : Sm d xs[i].2 := dvd_small bD O.pos O.sm
      have hr3 := hr2.tk (Tk.same (K := K) s1)
      refine ⟨_, rfl, b, _, 0, _, rfl, rfl, hb, atI_nat (j := 0) rfl, _, rfl, r, _, 1, _, rfl, rfl, hr3, atI_nat (j := 1) rfl, _, _, rfl, rfl, sy.cmul sx2 (by omega) d0 (by omega),
        _, rfl, r, _, 0, _, rfl, rfl, hr3, atI_nat (j := 0) rfl, _, rfl, b, _, 1, _, rfl, rfl, hb, atI_nat (j := 1) rfl, _, _, rfl, rfl, (sn.mono (show n ≤ n + 1 by omega)).cmul sy2 (by omega) d0 (by omega), _, _, rfl, rfl,
        _, rfl, b, _, 1, _, rfl, rfl, hb, atI_nat (j := 1) rfl, _, rfl, r, _, 1, _, rfl, rfl, hr3, atI_nat (j := 1) rfl, _, _, rfl, rfl, sy2.cmul sx2 d0 d0 (by omega), ?_⟩
      refine ⟨_, _, rfl, Int.mul_pos ry.1 b0, (sy2.mul sx2).mono (by omega), fun z nz => ?_⟩
      have e2 := same_new (o := HO.tup [.int (rP y xs[i]).1, .int (rP y xs[i]).2]) nz
      obtain ⟨w1, w2⟩ := qv_rP ry b0
      refine ⟨z, rP y xs[i], _, rfl, s1.trans e2, SqT.of upd_same, w1, ?_⟩
      rw [w2, vy, List.take_add_one, hg]
      show _ = ((xs.take i ++ [xs[i]]).map qv).sum
      rw [List.map_append, List.map_singleton, sum_snoc]
    · rintro σ H1 ⟨b, y, y2, rfl, s1, hb, ry, vy⟩
      rw [List.length_map, hl, List.take_length] at vy
      obtain ⟨dy, sy⟩ := sum_red O ry vy
      exact ⟨_, rfl, q b y _ s1 hb ry vy dy sy⟩
theorem ok_lsumT {f fL : Addr} {fd fdL : FuncData} (F : Fun K "_law_sum" "_law_sum" s_lsum f fd)
    (FL : Fun K "_law_low" "_law_low" s_low fL fdL) (bL : Binds K fdL ["_law_top", "_law_bottom"] []) (gL : mg "_law_low" = some (.ref fL)) (GL : FnOk P w K mg base CX0 1 fL fdL ["_law_top", "_law_bottom"] spLow) : FnOk P w K mg base CX0 2 f fd ["_law_some"] (spLsum K RowAt) := by
  refine F.ok sc_lsum (fun vs H Q E h => ?_) (fun cdv A outer s H vs Q E hr h => ?_)
  · obtain ⟨_, _, _, _, _, rfl, _⟩ := h
    rfl
  · obtain ⟨p, xs, n, d, D, rfl, hlst, O, hn, hd, q⟩ := h
    obtain ⟨rs, r1, r2⟩ := id hlst
    have hl := r2.length
    have hr1 := hr
    have d0 : 0 < d := by
      have h1 := O.sm
      have h2 := O.pos
      rcases Nat.eq_zero_or_pos d with z | z
      · rw [z] at h1
        unfold Sm at h1
        omega
      · exact z
    refine ⟨_, (pss_cons (ps_set (i := 1) sc_lsum.nd rfl (.inl rfl) (pe_tup (pa_cons pe_int (pa_cons pe_int pa_nil)))) (pss_cons (ps_for PassesOwn.never rfl (pi_tup (pv 0)) (pg_name (i := 2) sc_lsum.nd rfl (.inl rfl)) (pss_one (ps_set (i := 1) sc_lsum.nd rfl (.inl rfl) (pe_call GL hr1 (by rfl) gL FL.kp bL .nil pass0 (pa_cons (pe_op op_add (pe_op op_mulA (pe_ix ix_tup (pv 1) pe_int (fun _ _ => rfl)) (pe_ix ix_tup (pv 2) pe_int (fun _ _ => rfl))) (pe_op op_mulA (pe_ix ix_tup (pv 2) pe_int (fun _ _ => rfl)) (pe_ix ix_tup (pv 1) pe_int (fun _ _ => rfl)))) (pa_cons (pe_op op_mulA (pe_ix ix_tup (pv 1) pe_int (fun _ _ => rfl)) (pe_ix ix_tup (pv 2) pe_int (fun _ _ => rfl))) pa_nil)))))) (pss_one (ps_ret (pv 1))))), ?_⟩
    refine ⟨by show 2 ≤ sizeLine; decide, fun a na => ?_⟩
    have e := same_new (o := HO.tup [.int 0, .int 1]) na
    refine ⟨_, rfl, p, rfl, ⟨_, sqT_same e r1⟩, for_tup (K := K) (a := p) (xs := rs.map V.ref) (fun i σ H1 => ∃ (b : Addr) (y : RT) (y2 : Option V), σ = [some (.ref p), some (.ref b), y2] ∧ Same H H1 ∧ RAt K H1 b y ∧ Red y ∧ qv y = ((xs.take i).map qv).sum) ?_ ?_ ?_ ?_⟩
    · exact ⟨a, (0, 1), _, rfl, e, SqT.of upd_same, ⟨by decide, by decide⟩, by unfold qv; show ((0 : Int) : Rat) / ((1 : Int) : Rat) = 0; grind⟩
    · rintro i σ H1 _ ⟨_, _, _, _, s1, _⟩
      exact sqT_same s1 r1
    · rintro i v σ H1 hi ⟨b, y, y2, rfl, s1, hb, ry, vy⟩
      have hi2 : i < xs.length := by
        have := (List.getElem?_eq_some_iff.mp hi).1
        rw [List.length_map, hl] at this
        exact this
      have hg : xs[i]? = some xs[i] := List.getElem?_eq_getElem hi2
      obtain ⟨r, er, hr2⟩ := r2.get hg
      have ev : v = .ref r := by
        rw [List.getElem?_map, er] at hi
        exact (Option.some.inj hi).symm
      subst ev
      obtain ⟨b0, bD, sn⟩ := O.ok xs[i] (List.getElem_mem hi2)
      obtain ⟨dy, sy⟩ := sum_red (O.take i) ry vy
      have sy2 : Sm d y.2 := dvd_small dy O.pos O.sm
      have sx2 : Sm d xs[i].2 := dvd_small bD O.pos O.sm
      have hr3 := hr2.tk (Tk.same (K := K) s1)
      refine ⟨_, rfl, b, _, 0, _, rfl, rfl, hb, atI_nat (j := 0) rfl, _, rfl, r, _, 1, _, rfl, rfl, hr3, atI_nat (j := 1) rfl, _, _, rfl, rfl, sy.cmul sx2 (by omega) d0 (by omega),
        _, rfl, r, _, 0, _, rfl, rfl, hr3, atI_nat (j := 0) rfl, _, rfl, b, _, 1, _, rfl, rfl, hb, atI_nat (j := 1) rfl, _, _, rfl, rfl, (sn.mono (show n ≤ n + 1 by omega)).cmul sy2 (by omega) d0 (by omega), _, _, rfl, rfl,
        _, rfl, b, _, 1, _, rfl, rfl, hb, atI_nat (j := 1) rfl, _, rfl, r, _, 1, _, rfl, rfl, hr3, atI_nat (j := 1) rfl, _, _, rfl, rfl, sy2.cmul sx2 d0 d0 (by omega), ?_⟩
      refine ⟨_, _, rfl, Int.mul_pos ry.1 b0, (sy2.mul sx2).mono (by omega), fun z nz => ?_⟩
      have e2 := same_new (o := HO.tup [.int (rP y xs[i]).1, .int (rP y xs[i]).2]) nz
      obtain ⟨w1, w2⟩ := qv_rP ry b0
      refine ⟨z, rP y xs[i], _, rfl, s1.trans e2, SqT.of upd_same, w1, ?_⟩
      rw [w2, vy, List.take_add_one, hg]
      show _ = ((xs.take i ++ [xs[i]]).map qv).sum
      rw [List.map_append, List.map_singleton, sum_snoc]
    · rintro σ H1 ⟨b, y, y2, rfl, s1, hb, ry, vy⟩
      rw [List.length_map, hl, List.take_length] at vy
      obtain ⟨dy, sy⟩ := sum_red O ry vy
      exact ⟨_, rfl, q b y _ s1 hb ry vy dy sy⟩
abbrev s_lpower : Stmt := topS 41
theorem sc_lpower : FnScope ["_law_one", "_law_far", "_law_found", "_law_turn"] ["_law_one", "_law_far"] (defScope s_lpower) := ⟨rfl, rfl, rfl, by decide +kernel, rfl, by decide +kernel, by decide +kernel⟩
def spLpower (K : PySem.W.Frag) : Sp := fun vs H Q _ => ∃ (p : Addr) (x : RT) (far : Nat), vs = [.ref p, .int (far : Int)] ∧ RAt K H p x ∧ SmR 5 x ∧ far ≤ 80 ∧
  ∀ z y H', Same H H' → RAt K H' z y → SmR (1 + 5 * far) y → qv y = qv x ^ far → Q (.ref z) H'
theorem ok_lpower {f fT : Addr} {fd fdT : FuncData} (F : Fun K "_law_power" "_law_power" s_lpower f fd)
    (FT : Fun K "_law_times" "_law_times" s_ltimes fT fdT) (bT : Binds K fdT ["_law_one", "_law_other"] []) (gT : mg "_law_times" = some (.ref fT)) (GT : FnOk P w K mg base CX0 2 fT fdT ["_law_one", "_law_other"] (spTwo K (fun a b c d => a * c)))
    (mr : mg "range" = none) : FnOk P w K mg base CX0 3 f fd ["_law_one", "_law_far"] (spLpower K) := by
  refine F.ok sc_lpower (fun vs H Q E h => ?_) (fun cdv A outer s H vs Q E hr h => ?_)
  · obtain ⟨_, _, _, rfl, _⟩ := h
    rfl
  · obtain ⟨p, x, far, rfl, hp, sx, hf, q⟩ := h
    refine ⟨_, (pss_cons (ps_set (i := 2) sc_lpower.nd rfl (.inl rfl) (pe_tup (pa_cons pe_int (pa_cons pe_int pa_nil)))) (pss_cons (ps_for PassesOwn.never rfl (pi_range1 (by rfl) mr (pa_cons (pv 1) pa_nil)) (pg_name (i := 3) sc_lpower.nd rfl (.inl rfl)) (pss_one (ps_set (i := 2) sc_lpower.nd rfl (.inl rfl) (pe_call GT hr (by rfl) gT FT.kp bT .nil pass0 (pa_cons (pv 2) (pa_cons (pv 0) pa_nil)))))) (pss_one (ps_ret (pv 2))))), ?_⟩
    refine ⟨by show 2 ≤ sizeLine; decide, fun a na => ?_⟩
    have e := same_new (o := HO.tup [.int 1, .int 1]) na
    refine ⟨_, rfl, far, rfl, by omega, by omega, for_range (lo := 0) (n := ((far : Nat) : Int).toNat) (fun i σ H1 => ∃ (b : Addr) (y : RT) (y3 : Option V), σ = [some (.ref p), some (.int (far : Int)), some (.ref b), y3] ∧ Same H H1 ∧ RAt K H1 b y ∧ SmR (1 + 5 * i) y ∧ qv y = qv x ^ i) ?_ ?_ ?_⟩
    · exact ⟨a, (1, 1), _, rfl, e, SqT.of upd_same, ⟨⟨by decide, by decide⟩, by unfold Sm; decide, by unfold Sm; decide⟩, by rw [Rat.pow_zero]; unfold qv; show ((1 : Int) : Rat) / ((1 : Int) : Rat) = 1; grind⟩
    · rintro i σ H1 hi ⟨b, y, y3, rfl, s1, hb, sy, vy⟩
      refine ⟨_, rfl, _, rfl, b, p, _, _, _, _, rfl, ⟨hb, hp.tk (Tk.same s1), sy.2.1.mono (by omega), sy.2.2.mono (by omega), sx.2.1.mono (by decide), sx.2.2.mono (by decide), sy.1.1, sx.1.1⟩, fun b2 nb => ?_⟩
      have e2 := same_new (o := HO.tup [.int (rT y x).1, .int (rT y x).2]) nb
      obtain ⟨v1, v2⟩ := qv_rT sy.1 sx.1
      refine ⟨b2, rT y x, _, rfl, s1.trans e2, SqT.of upd_same, (rT_sm sy sx).mono (by omega), ?_⟩
      rw [v2, vy, Rat.pow_succ]
    · rintro σ H1 ⟨b, y, y3, rfl, s1, hb, sy, vy⟩
      have ef : ((far : Nat) : Int).toNat = far := by omega
      rw [ef] at sy vy
      exact ⟨_, rfl, q b y _ s1 hb sy vy⟩
theorem pow_val {l step : RT} (hl : 0 < l.2) (hs : 0 < step.2) (j : Nat) : qv l * qv step ^ j = ((l.1 * step.1 ^ j : Int) : Rat) / ((l.2 * step.2 ^ j : Int) : Rat) := by
  induction j with
  | zero =>
    rw [Rat.pow_zero, Int.pow_zero, Int.pow_zero, Int.mul_one, Int.mul_one]
    unfold qv
    grind
  | succ j ih =>
    have h1 := cast_ne (Int.ne_of_gt hs)
    have h2 := cast_ne (Int.ne_of_gt (Int.mul_pos hl (show (0 : Int) < step.2 ^ j from Int.pow_pos hs)))
    rw [Rat.pow_succ, ← Rat.mul_assoc, ih, Int.pow_succ, Int.pow_succ, ← Int.mul_assoc, ← Int.mul_assoc, Rat.intCast_mul (l.1 * step.1 ^ j), Rat.intCast_mul (l.2 * step.2 ^ j)]
    unfold qv
    grind
abbrev s_lchance : Stmt := topS 40
theorem sc_lchance : FnScope ["_law_life_here", "_law_k", "_law_row", "_law_step", "_law_far", "_law_top", "_law_bottom", "_law_turn"] ["_law_life_here", "_law_k"] (defScope s_lchance) := ⟨rfl, rfl, rfl, by decide +kernel, rfl, by decide +kernel, by decide +kernel⟩
theorem zero_pow {j : Nat} (h : 0 < j) : (0 : Rat) ^ j = 0 := by
  obtain ⟨i, rfl⟩ : ∃ i, j = i + 1 := ⟨j - 1, by omega⟩
  rw [Rat.pow_succ]
  grind
def spLchance (K : PySem.W.Frag) : Sp := fun vs H Q _ => ∃ (p : Addr) (row : List RT) (step : RT) (n k : Nat), vs = [.ref p, .int (k : Int)] ∧ LifeAt K H p row step ∧ LifeOk n row step ∧ (row = [] → step = (0, 1)) ∧ 1 ≤ k ∧ k ≤ 70 ∧
  ∀ z x H', Same H H' → RAt K H' z x → SmR 500 x → qv x = chR row step (k - 1) → Q (.ref z) H'
theorem ok_lchance {f fL : Addr} {fd fdL : FuncData} (F : Fun K "_law_chance" "_law_chance" s_lchance f fd)
    (FL : Fun K "_law_low" "_law_low" s_low fL fdL) (bL : Binds K fdL ["_law_top", "_law_bottom"] []) (gL : mg "_law_low" = some (.ref fL)) (GL : FnOk P w K mg base CX0 1 fL fdL ["_law_top", "_law_bottom"] spLow)
    (ml : mg "len" = none) (mr : mg "range" = none) : FnOk P w K mg base CX0 2 f fd ["_law_life_here", "_law_k"] (spLchance K) := by
  refine F.ok sc_lchance (fun vs H Q E h => ?_) (fun cdv A outer s H vs Q E hr h => ?_)
  · obtain ⟨_, _, _, _, _, rfl, _⟩ := h
    rfl
  · obtain ⟨p, row, step, n, k, rfl, hlife, L, hnil, hk1, hk, q⟩ := h
    obtain ⟨pr, ps, l1, l2, l3⟩ := id hlife
    obtain ⟨rs, r1, r2⟩ := id l2
    have hl := r2.length
    have hr1 := hr
    have hn := L.n64
    have hn1 := L.n1
    refine ⟨_, (pss_cons (ps_asg (pv 0) (pg_tup rfl (pgs_cons (pg_name (i := 2) sc_lchance.nd rfl (.inl rfl)) (pgs_cons (pg_name (i := 3) sc_lchance.nd rfl (.inl rfl)) pgs_nil)))) (pss_cons (ps_if (pt_cmpR op_le (pv 1) (pe_callB call_len_seq (by rfl) ml PySem.boot_len (pa_cons (pv 2) pa_nil)) (nomark _)) (pss_one (ps_ret (pe_ix ix_tup (pv 2) (pe_op op_sub (pv 1) pe_int) (fun _ _ => rfl)))) pss_nil) (pss_cons (ps_if (pt_cmpR (op_eqD hr.units) (pv 3) (pe_tup (pa_cons pe_int (pa_cons pe_int pa_nil))) (nomark _)) (pss_one (ps_ret (pe_tup (pa_cons pe_int (pa_cons pe_int pa_nil))))) pss_nil) (pss_cons (ps_set (i := 4) sc_lchance.nd rfl (.inl rfl) (pe_op op_sub (pv 1) (pe_callB call_len_seq (by rfl) ml PySem.boot_len (pa_cons (pv 2) pa_nil)))) (pss_cons (ps_asg (pe_ix ix_tup (pv 2) (pe_un un_neg pe_int) (fun _ _ => rfl)) (pg_tup rfl (pgs_cons (pg_name (i := 5) sc_lchance.nd rfl (.inl rfl)) (pgs_cons (pg_name (i := 6) sc_lchance.nd rfl (.inl rfl)) pgs_nil)))) (pss_cons (ps_for PassesOwn.never rfl (pi_range1 (by rfl) mr (pa_cons (pv 4) pa_nil)) (pg_name (i := 7) sc_lchance.nd rfl (.inl rfl)) (pss_one (ps_par (i := 5) (j := 6) rfl sc_lchance.nd rfl rfl (by decide) rfl rfl (pa_cons (pe_op op_mulA (pv 5) (pe_ix ix_tup (pv 3) pe_int (fun _ _ => rfl))) (pa_cons (pe_op op_mulA (pv 6) (pe_ix ix_tup (pv 3) pe_int (fun _ _ => rfl))) pa_nil)) (by rfl)))) (pss_one (ps_ret (pe_call GL hr1 (by rfl) gL FL.kp bL .nil pass0 (pa_cons (pv 5) (pa_cons (pv 6) pa_nil))))))))))), ?_⟩
    refine ⟨_, rfl, p, _, rfl, l1, rfl, _, _, rfl, _, _, rfl, rfl, ?_⟩
    refine ⟨_, rfl, _, rfl, pr, _, rfl, .inr r1, _, _, rfl, rfl, _, rfl, ite2 (fun c => ?_) (fun c => ?_)⟩
    · have hkl : k ≤ row.length := by
        have : (k : Int) ≤ (((rs.map V.ref).length : Nat) : Int) := of_decide_eq_true c
        rw [List.length_map, hl] at this
        omega
      have hg : row[k - 1]? = some row[k - 1] := List.getElem?_eq_getElem (by omega)
      refine ⟨_, rfl, _, rfl, _, 1, rfl, rfl, ?_⟩
      exact ix_row (j := k - 1) l2 (by omega) hg fun r hr2 => q r _ _ (Same.refl _) hr2 ((L.sm _ (List.getElem_mem _)).mono (by omega)) (chR_in hg).symm
    · have hkl : row.length < k := by
        have : ¬ (k : Int) ≤ (((rs.map V.ref).length : Nat) : Int) := fun z => c (decide_eq_true z)
        rw [List.length_map, hl] at this
        omega
      refine ⟨_, rfl, by show 2 ≤ sizeLine; decide, fun a na => ?_⟩
      have e1 := same_new (o := HO.tup [.int 0, .int 1]) na
      refine eq_rat (y := (0, 1)) (l3.tk (Tk.same e1)) (SqT.of upd_same) ?_
      refine ⟨_, rfl, ite2 (fun c2 => ?_) (fun c2 => ?_)⟩
      · have hs : step = (0, 1) := of_decide_eq_true c2
        refine ⟨by show 2 ≤ sizeLine; decide, fun b nb => ?_⟩
        have e2 := same_new (o := HO.tup [.int 0, .int 1]) nb
        refine q b (0, 1) _ (e1.trans e2) (SqT.of upd_same) (SmR.mono (n := 1) ⟨⟨by decide, by decide⟩, by unfold Sm; decide, by unfold Sm; decide⟩ (by decide)) ?_
        rw [qv_nought, hs]
        rcases Classical.em (row = []) with z | z
        · rw [z, chR_nil]
        · obtain ⟨l, g1, _, _⟩ := last_is z
          rw [chR_out (by omega) g1, qv_nought, zero_pow (by omega)]
          grind
      · have hs : step ≠ (0, 1) := fun z => c2 (decide_eq_true z)
        have hne : row ≠ [] := fun z => hs (hnil z)
        obtain ⟨l, g1, g2, g3⟩ := last_is hne
        have hpos := List.length_pos_iff.mpr hne
        have sl := L.sm l g3
        have st := L.st.1
        have l2' := l2.tk (Tk.same (K := K) e1)
        have l3' := l3.tk (Tk.same (K := K) e1)
        refine ⟨_, rfl, _, rfl, pr, _, rfl, .inr (Tk.same e1 _ _ r1), _, _, rfl, rfl, ?_⟩
        refine ⟨_, rfl, 1, rfl, ?_⟩
        refine ix_back (k := 1) l2' (by decide) (by omega) g2 fun r hr2 => ?_
        refine ⟨r, _, rfl, hr2, rfl, _, _, rfl, _, _, rfl, rfl, ?_⟩
        have efar : (k : Int) - (((rs.map V.ref).length : Nat) : Int) = ((k - row.length : Nat) : Int) := by
          rw [List.length_map, hl]
          omega
        refine ⟨_, rfl, (k : Int) - (((rs.map V.ref).length : Nat) : Int), rfl, by rw [efar]; omega, by rw [efar]; omega, for_range (lo := 0) (n := ((k : Int) - (((rs.map V.ref).length : Nat) : Int)).toNat) (fun i σ H1 => H1 = upd H a (HO.tup [.int 0, .int 1]) ∧ ∃ y7 : Option V, σ = [some (.ref p), some (.int (k : Int)), some (.ref pr), some (.ref ps), some (.int ((k : Int) - (((rs.map V.ref).length : Nat) : Int))), some (.int (l.1 * step.1 ^ i)), some (.int (l.2 * step.2 ^ i)), y7]) ?_ ?_ ?_⟩
        · refine ⟨rfl, none, ?_⟩
          rw [Int.pow_zero, Int.pow_zero, Int.mul_one, Int.mul_one]
          rfl
        · rintro i σ H1 hi ⟨rfl, y7, rfl⟩
          rw [efar] at hi
          have p1 := sm_pow st.2.1 (by decide) i
          have p2 := sm_pow st.2.2 (by decide) i
          refine ⟨_, rfl, _, rfl, ps, _, 0, _, rfl, rfl, l3', atI_nat (j := 0) rfl, _, _, rfl, rfl, (sl.2.1.mul p1).cmul st.2.1 (by omega) (by decide) (by omega), ?_⟩
          refine ⟨_, rfl, _, rfl, ps, _, 1, _, rfl, rfl, l3', atI_nat (j := 1) rfl, _, _, rfl, rfl, (sl.2.2.mul p2).cmul st.2.2 (by omega) (by decide) (by omega), _, _, rfl, rfl, some (.int (0 + (i : Int))), ?_⟩
          rw [Int.pow_succ, Int.pow_succ, ← Int.mul_assoc, ← Int.mul_assoc]
          rfl
        · rintro σ H1 ⟨rfl, y7, rfl⟩
          have ef : ((k : Int) - (((rs.map V.ref).length : Nat) : Int)).toNat = k - row.length := by
            rw [efar]
            omega
          rw [ef]
          have p1 := sm_pow st.2.1 (by decide) (k - row.length)
          have p2 := sm_pow st.2.2 (by decide) (k - row.length)
          have b0 : 0 < l.2 * step.2 ^ (k - row.length) := Int.mul_pos sl.1.1 (Int.pow_pos st.1.1)
          refine ⟨_, rfl, _, rfl, _, _, rfl, b0, (sl.2.2.mul p2).mono (by omega), fun b nb => ?_⟩
          have e2 := same_new (o := HO.tup [.int (ratT (l.1 * step.1 ^ (k - row.length)) (l.2 * step.2 ^ (k - row.length))), .int (ratB (l.1 * step.1 ^ (k - row.length)) (l.2 * step.2 ^ (k - row.length)))]) nb
          refine q b (low2 (l.1 * step.1 ^ (k - row.length)) (l.2 * step.2 ^ (k - row.length))) _ (e1.trans e2) (SqT.of upd_same) (low2_sm b0 ((sl.2.1.mul p1).mono (by omega)) ((sl.2.2.mul p2).mono (by omega))) ?_
          rw [qv_low2 b0, ← pow_val sl.1.1 st.1.1, chR_out (by omega) g1, show k - 1 + 1 - row.length = k - row.length by omega]
end
/-- all chances from a place on -/
def restR (row : List RT) (step : RT) (k : Nat) : Rat := rowQ (row.drop k) + match row.getLast? with
  | none => 0
  | some l => qv l * qv step ^ (1 + (k - row.length)) / (1 - qv step)
theorem restR_zero {row : List RT} {step : RT} : restR row step 0 = rowQ row + behQ row step := by
  unfold restR behQ
  rw [List.drop_zero]
  match row.getLast? with
  | none => rfl
  | some l =>
    show _ + qv l * qv step ^ (1 + (0 - row.length)) / (1 - qv step) = _
    rw [Nat.zero_sub, Nat.add_zero]
    have : qv step ^ 1 = qv step := by
      rw [show (1 : Nat) = 0 + 1 from rfl, Rat.pow_succ, Rat.pow_zero]
      grind
    rw [this]
theorem restR_next {row : List RT} {step : RT} (hs : (1 : Rat) - qv step ≠ 0) (k : Nat) : restR row step k = chR row step k + restR row step (k + 1) := by
  rcases Classical.em (row = []) with z | z
  · subst z
    rw [chR_nil]
    unfold restR
    show (([].drop k : List RT).map qv).sum + 0 = 0 + ((([].drop (k + 1) : List RT).map qv).sum + 0)
    rw [List.drop_nil, List.drop_nil]
    grind
  · obtain ⟨l, g1, g2, g3⟩ := last_is z
    rcases (by omega : k < row.length ∨ row.length ≤ k) with hk | hk
    · have hg : row[k]? = some row[k] := List.getElem?_eq_getElem hk
      have ed : row.drop k = row[k] :: row.drop (k + 1) := List.drop_eq_getElem_cons hk
      rw [chR_in hg]
      unfold restR
      rw [g1, ed, show k - row.length = 0 by omega, show k + 1 - row.length = 0 by omega]
      show (qv row[k] + ((row.drop (k + 1)).map qv).sum) + _ = qv row[k] + (rowQ (row.drop (k + 1)) + _)
      unfold rowQ
      grind
    · rw [chR_out hk g1]
      unfold restR
      rw [g1, List.drop_eq_nil_of_le hk, List.drop_eq_nil_of_le (by omega)]
      show rowQ [] + qv l * qv step ^ (1 + (k - row.length)) / (1 - qv step) = qv l * qv step ^ (k + 1 - row.length) + (rowQ [] + qv l * qv step ^ (1 + (k + 1 - row.length)) / (1 - qv step))
      rw [show 1 + (k - row.length) = k + 1 - row.length by omega, show 1 + (k + 1 - row.length) = (k + 1 - row.length) + 1 by omega, Rat.pow_succ]
      grind
theorem restR_sum {row : List RT} {step : RT} (hs : (1 : Rat) - qv step ≠ 0) : ∀ k : Nat, restR row step 0 = sumCh row step k + restR row step k
  | 0 => by
    show _ = 0 + _
    grind
  | k + 1 => by
    rw [restR_sum hs k, restR_next hs k]
    show _ = sumCh row step k + chR row step k + _
    grind

end Fp

set_option Elab.async false
set_option linter.all false
set_option maxRecDepth 100000
set_option maxHeartbeats 4000000
set_option exponentiation.threshold 10000
namespace Fp
open PySem PySem.Spec PyProof.Rows L2
abbrev s_lrest : Stmt := topS 42
theorem sc_lrest : FnScope ["_law_life_here", "_law_k", "_law_row", "_law_step", "_law_found", "_law_first"] ["_law_life_here", "_law_k"] (defScope s_lrest) := ⟨rfl, rfl, rfl, by decide +kernel, rfl, by decide +kernel, by decide +kernel⟩
theorem tNoPart_go {σ : L2.St} {H : Hp} {Q : Option Int → Hp → Prop} (h : Q none H) : tNoPart σ H Q := h
theorem cutV_from (vs : List V) (n : Nat) : cutV vs (some (n : Int)) none = vs.drop n := by
  unfold cutV
  rw [HT.sIx_none, HT.sIx_nat]
  rcases Nat.le_total n vs.length with z | z
  · rw [Nat.min_eq_left z]
    rw [List.take_of_length_le (by rw [List.length_drop]; exact Nat.le_refl _)]
  · rw [Nat.min_eq_right z, List.drop_eq_nil_of_le (Nat.le_refl _), List.drop_eq_nil_of_le z, List.take_nil]
/-- row[n:] -/
theorem from_row {K : PySem.W.Frag} {H : Hp} {p : Addr} {xs : List RT} {n : Nat} {Q : VK} (h : RowAt K H p xs) (hq : ∀ r H', Same H H' → RowAt K H' r (xs.drop n) → Q (.ref r) H') : rSlA K (.ref p) (some (n : Int)) none H Q := by
  obtain ⟨rs, h1, h2⟩ := h
  have hl := h2.length
  refine ⟨p, _, rfl, h1, fun z => ?_, fun _ r nr => ?_⟩
  · have z1 := z.1
    rw [HT.sIx_nat, List.length_map] at z1
    refine hq p H (Same.refl H) ?_
    rcases (by omega : n = 0 ∨ xs.length = 0) with e | e
    · rw [e, List.drop_zero]
      exact ⟨rs, h1, h2⟩
    · have e2 := List.length_eq_zero_iff.mp e
      subst e2
      rw [List.drop_nil]
      exact ⟨rs, h1, h2⟩
  · rw [cutV_from]
    have s := same_new (o := HO.tup ((rs.map V.ref).drop n)) nr
    refine hq r _ s ⟨rs.drop n, ?_, (h2.drop n).tk (Tk.same s)⟩
    rw [List.map_drop]
    exact SqT.of upd_same
theorem over_two {x y : RT} {n a b : Nat} (hx : 0 < x.2) (hy : 0 < y.2) (sx : Sm n x.1) (sy : Sm n y.1) (dx : Sm a x.2) (dy : Sm b y.2) : Over1 n (a + b) (x.2 * y.2) [x, y] := by
  refine ⟨Int.mul_pos hx hy, dx.mul dy, fun z hz => ?_, by show 2 ≤ 1000; decide⟩
  rcases List.mem_cons.mp hz with e | e
  · subst e
    exact ⟨hx, Int.dvd_mul_right .., sx⟩
  · rw [List.mem_singleton.mp e]
    exact ⟨hy, Int.dvd_mul_left .., sy⟩
theorem sum_two (x y : RT) : (([x, y] : List RT).map qv).sum = qv x + qv y := by
  show qv x + (qv y + 0) = _
  grind
section
variable {P : Program} {w : World} {K : PySem.W.Frag} {mg : Str → Option Value} {base : Heap}
def spLrest (K : PySem.W.Frag) : Sp := fun vs H Q _ => ∃ (p : Addr) (row : List RT) (step : RT) (n k : Nat), vs = [.ref p, .int (k : Int)] ∧ LifeAt K H p row step ∧ LifeOk n row step ∧ (row = [] → step = (0, 1)) ∧ k ≤ 70 ∧
  ∀ z x H', Same H H' → RAt K H' z x → Red x → qv x = restR row step k → Sm 2350 x.1 → Sm 1350 x.2 → Q (.ref z) H'
theorem ok_lrest {f fS fT fW fL : Addr} {fd fdS fdT fdW fdL : FuncData} (F : Fun K "_law_rest" "_law_rest" s_lrest f fd)
    (FS : Fun K "_law_sum" "_law_sum" s_lsum fS fdS) (bS : Binds K fdS ["_law_some"] []) (gS : mg "_law_sum" = some (.ref fS)) (GST : FnOk P w K mg base CX0 2 fS fdS ["_law_some"] (spLsum K RowAt)) (GSL : FnOk P w K mg base CX0 2 fS fdS ["_law_some"] (spLsum K LstAt))
    (FT : Fun K "_law_times" "_law_times" s_ltimes fT fdT) (bT : Binds K fdT ["_law_one", "_law_other"] []) (gT : mg "_law_times" = some (.ref fT)) (GT : FnOk P w K mg base CX0 2 fT fdT ["_law_one", "_law_other"] (spTwo K (fun a b c d => a * c)))
    (FW : Fun K "_law_power" "_law_power" s_lpower fW fdW) (bW : Binds K fdW ["_law_one", "_law_far"] []) (gW : mg "_law_power" = some (.ref fW)) (GW : FnOk P w K mg base CX0 3 fW fdW ["_law_one", "_law_far"] (spLpower K))
    (FL : Fun K "_law_low" "_law_low" s_low fL fdL) (bL : Binds K fdL ["_law_top", "_law_bottom"] []) (gL : mg "_law_low" = some (.ref fL)) (GL : FnOk P w K mg base CX0 1 fL fdL ["_law_top", "_law_bottom"] spLow)
    (ml : mg "len" = none) (mx : mg "max" = none) : FnOk P w K mg base CX0 4 f fd ["_law_life_here", "_law_k"] (spLrest K) := by
  refine F.ok sc_lrest (fun vs H Q E h => ?_) (fun cdv A outer s H vs Q E hr h => ?_)
  · obtain ⟨_, _, _, _, _, rfl, _⟩ := h
    rfl
  · obtain ⟨p, row, step, n, k, rfl, hlife, L, hnil, hk, q⟩ := h
    obtain ⟨pr, ps, l1, l2, l3⟩ := id hlife
    have hr1 := hr.mono (show 1 ≤ 3 by decide)
    have hr2 := hr.mono (show 2 ≤ 3 by decide)
    have hn := L.n64
    have hn1 := L.n1
    have hlen := L.len
    refine ⟨_, (pss_cons (ps_asg (pv 0) (pg_tup rfl (pgs_cons (pg_name (i := 2) sc_lrest.nd rfl (.inl rfl)) (pgs_cons (pg_name (i := 3) sc_lrest.nd rfl (.inl rfl)) pgs_nil)))) (pss_cons (ps_set (i := 4) sc_lrest.nd rfl (.inl rfl) (pe_call GST hr2 (by rfl) gS FS.kp bS .nil pass0 (pa_cons (pe_slice sl_tupA (pv 2) (po_some (pv 1)) po_none) pa_nil))) (pss_cons (ps_if (PW.pt (pw_or (pt_cmpR (op_eqD hr.units) (pv 2) (pe_tup pa_nil) (nomark _)) (pw_or1 (pt_cmpR (op_eqD hr.units) (pv 3) (pe_tup (pa_cons pe_int (pa_cons pe_int pa_nil))) (nomark _))))) (pss_one (ps_ret (pv 4))) pss_nil) (pss_cons (ps_set (i := 5) sc_lrest.nd rfl (.inl rfl) (pe_call GT hr2 (by rfl) gT FT.kp bT .nil pass0 (pa_cons (pe_ix ix_tup (pv 2) (pe_un un_neg pe_int) (fun _ _ => rfl)) (pa_cons (pe_call GW hr (by rfl) gW FW.kp bW .nil pass0 (pa_cons (pv 3) (pa_cons (pe_op op_add pe_int (pe_callB (call_max2 rfl) (by rfl) mx (by decide +kernel) (pa_cons pe_int (pa_cons (pe_op op_sub (pv 1) (pe_callB call_len_seq (by rfl) ml PySem.boot_len (pa_cons (pv 2) pa_nil))) pa_nil)))) pa_nil))) pa_nil)))) (pss_one (ps_ret (pe_call GSL hr2 (by rfl) gS FS.kp bS .nil pass0 (pa_cons (pe_lst (pa_cons (pv 4) (pa_cons (pe_call GL hr1 (by rfl) gL FL.kp bL .nil pass0 (pa_cons (pe_op op_mulA (pe_ix ix_tup (pv 5) pe_int (fun _ _ => rfl)) (pe_ix ix_tup (pv 3) pe_int (fun _ _ => rfl))) (pa_cons (pe_op op_mulA (pe_ix ix_tup (pv 5) pe_int (fun _ _ => rfl)) (pe_op op_sub (pe_ix ix_tup (pv 3) pe_int (fun _ _ => rfl)) (pe_ix ix_tup (pv 3) pe_int (fun _ _ => rfl)))) pa_nil))) pa_nil))) pa_nil)))))))), ?_⟩
    refine ⟨_, rfl, p, _, rfl, l1, rfl, _, _, rfl, _, _, rfl, rfl, ?_⟩
    refine ⟨_, rfl, _, rfl, k, rfl, ?_⟩
    refine tNoPart_go (from_row l2 fun a H1 s1 ha => ?_)
    have O : Over1 n 900 (prodB row) (row.drop k) := by
      refine ⟨prodB_pos fun x hx => (L.sm x hx).1.1, ?_, fun x hx => ?_, by rw [List.length_drop]; omega⟩
      · refine (prodB_sm fun x hx => (L.sm x hx).2.2).mono ?_
        have : n * row.length ≤ 64 * 14 := Nat.mul_le_mul hn hlen
        omega
      · have hx2 := List.mem_of_mem_drop hx
        exact ⟨(L.sm x hx2).1.1, prodB_dvd hx2, (L.sm x hx2).2.1⟩
    refine ⟨a, _, _, _, _, rfl, ha, O, by omega, by decide, fun b x H2 s2 hb rx vx dx sx => ?_⟩
    have sx2 : Sm 900 x.2 := dvd_small dx O.pos O.sm
    have S2 := s1.trans s2
    have l2b := l2.tk (Tk.same (K := K) S2)
    have l3b := l3.tk (Tk.same (K := K) S2)
    -- row == () or step == (0, 1)
    refine ⟨_, rfl, by show 0 ≤ sizeLine; decide, fun a2 na2 => ?_⟩
    have e2 := same_new (o := HO.tup []) na2
    refine ⟨_, _, (l2b.tk (Tk.same e2)).dp, .tup (SqT.of upd_same) .nil, rowD_shaped row, rfl, _, rfl, ?_⟩
    rw [rowD_nil]
    have fin : ∀ H3, Same H2 H3 → restR row step k = rowQ (row.drop k) → tRet (tVar 4) { nx := fun _ H' => Q .non H', rt := Q } [some (.ref p), some (.int (k : Int)), some (.ref pr), some (.ref ps), some (.ref b), none] H3 := fun H3 s3 z =>
      ⟨_, rfl, q b x H3 (S2.trans s3) (hb.tk (Tk.same s3)) rx (vx.trans z.symm) (sx.mono (by omega)) (sx2.mono (by decide))⟩
    rcases Classical.em (row = []) with z0 | z0
    · have eE : row.isEmpty = true := by rw [z0]; rfl
      rw [eE]
      refine iteT (fin _ e2 ?_)
      rw [z0]
      unfold restR
      show rowQ _ + 0 = _
      grind
    · have eE : row.isEmpty = false := by
        cases row with
        | nil => exact absurd rfl z0
        | cons _ _ => rfl
      rw [eE]
      refine iteF ?_
      obtain ⟨l, g1, g2, g3⟩ := last_is z0
      have hpos := List.length_pos_iff.mpr z0
      have er : restR row step k = rowQ (row.drop k) + qv l * qv step ^ (1 + (k - row.length)) / (1 - qv step) := by
        unfold restR
        rw [g1]
      refine ⟨_, rfl, by show 2 ≤ sizeLine; decide, fun a3 na3 => ?_⟩
      have e3 := same_new (o := HO.tup [.int 0, .int 1]) na3
      have l3c := l3b.tk (Tk.same (K := K) (e2.trans e3))
      refine eq_rat (y := (0, 1)) l3c (SqT.of upd_same) ?_
      refine ⟨_, rfl, ite2 (fun c => ?_) (fun c => ?_)⟩
      · have hs : step = (0, 1) := of_decide_eq_true c
        refine fin _ (e2.trans e3) ?_
        rw [er, hs, qv_nought, zero_pow (by omega)]
        grind
      · have S3 := e2.trans e3
        have l2c := l2b.tk (Tk.same (K := K) S3)
        obtain ⟨rs, r1, r2⟩ := id l2c
        have hl := r2.length
        have sl := L.sm l g3
        obtain ⟨st1, st2, st3⟩ := L.st
        refine ⟨_, rfl, 1, rfl, ?_⟩
        refine ix_back (k := 1) l2c (by decide) (by omega) g2 fun r hrl => ?_
        refine ⟨_, rfl, _, rfl, _, rfl, pr, _, rfl, .inr r1, _, _, rfl, rfl, 0, _, rfl, 1, _, rfl, rfl, ?_⟩
        have ef : (1 : Int) + (if (k : Int) - (((rs.map V.ref).length : Nat) : Int) > 0 then (k : Int) - (((rs.map V.ref).length : Nat) : Int) else 0) = ((1 + (k - row.length) : Nat) : Int) := by
          rw [List.length_map, hl]
          split <;> omega
        refine ⟨ps, step, 1 + (k - row.length), by rw [← ef]; rfl, l3c, st1, by omega, fun c1 y1 H4 s4 hy1 sy1 vy1 => ?_⟩
        refine ⟨r, c1, _, _, _, _, rfl, ⟨hrl.tk (Tk.same s4), hy1, sl.2.1.mono (by omega), sl.2.2.mono (by omega), sy1.2.1.mono (by omega), sy1.2.2.mono (by omega), sl.1.1, sy1.1.1⟩, fun c2 nc2 => ?_⟩
        have e5 := same_new (o := HO.tup [.int (rT l y1).1, .int (rT l y1).2]) nc2
        obtain ⟨v1, v2⟩ := qv_rT sl.1 sy1.1
        have sf : SmR 425 (rT l y1) := (rT_sm sl sy1).mono (by omega)
        have l3d := l3c.tk (Tk.same (K := K) (s4.trans e5))
        have hgap : 0 < step.2 - step.1 := by omega
        have sgap : Sm 6 (step.2 - step.1) := st1.2.2.sub st1.2.1
        have hden : 0 < (rT l y1).2 * (step.2 - step.1) := Int.mul_pos sf.1.1 hgap
        refine ⟨_, rfl, _, rfl, c2, _, 0, _, rfl, rfl, SqT.of upd_same, atI_nat (j := 0) rfl, _, rfl, ps, _, 1, _, rfl, rfl, l3d, atI_nat (j := 1) rfl, _, _, rfl, rfl, sf.2.1.cmul st1.2.2 (by decide) (by decide) (by decide),
          _, rfl, c2, _, 1, _, rfl, rfl, SqT.of upd_same, atI_nat (j := 1) rfl, _, rfl, ps, _, 1, _, rfl, rfl, l3d, atI_nat (j := 1) rfl, _, rfl, ps, _, 0, _, rfl, rfl, l3d, atI_nat (j := 0) rfl, _, _, rfl, rfl, _, _, rfl, rfl, sf.2.2.cmul sgap (by decide) (by decide) (by decide), ?_⟩
        refine ⟨_, _, rfl, hden, (sf.2.2.mul sgap).mono (by decide), fun c3 nc3 => ?_⟩
        have sY : SmR 431 (low2 ((rT l y1).1 * step.2) ((rT l y1).2 * (step.2 - step.1))) := low2_sm hden ((sf.2.1.mul st1.2.2).mono (by decide)) (sf.2.2.mul sgap)
        have e6 := same_new (o := HO.tup [.int (low2 ((rT l y1).1 * step.2) ((rT l y1).2 * (step.2 - step.1))).1, .int (low2 ((rT l y1).1 * step.2) ((rT l y1).2 * (step.2 - step.1))).2]) nc3
        have vY : qv (low2 ((rT l y1).1 * step.2) ((rT l y1).2 * (step.2 - step.1))) = qv l * qv step ^ (1 + (k - row.length)) / (1 - qv step) := by
          rw [qv_low2 hden, ← vy1, ← v2, Rat.intCast_mul, Rat.intCast_mul, Rat.intCast_sub]
          have h1 := cast_ne (Int.ne_of_gt sf.1.1)
          have h2 := cast_ne (Int.ne_of_gt st1.1.1)
          have h3 := cast_ne (Int.ne_of_gt hgap)
          rw [Rat.intCast_sub] at h3
          unfold qv
          have h4 : (1 : Rat) - (step.1 : Rat) / (step.2 : Rat) ≠ 0 := gap_val st1.1 st3
          grind
        refine ⟨by show 2 ≤ sizeLine; decide, fun c4 nc4 => ?_⟩
        have e7 := same_new (o := HO.lst [.ref b, .ref c3]) nc4
        have S7 := S3.trans (s4.trans (e5.trans (e6.trans e7)))
        have O2 : Over1 976 (900 + 431) (x.2 * (low2 ((rT l y1).1 * step.2) ((rT l y1).2 * (step.2 - step.1))).2) [x, low2 ((rT l y1).1 * step.2) ((rT l y1).2 * (step.2 - step.1))] :=
          over_two rx.1 sY.1.1 (sx.mono (by omega)) (sY.2.1.mono (by decide)) sx2 sY.2.2
        refine ⟨c4, _, _, _, _, rfl, ⟨[b, c3], SqL.of upd_same, .cons (hb.tk (Tk.same S7)) (.cons (SqT.of (e7 _ _ upd_same)) .nil)⟩, O2, by decide, by decide, fun z y H8 s8 hz ry vy dy sy => ?_⟩
        refine q z y _ (S2.trans (S7.trans s8)) hz ry ?_ (sy.mono (by decide)) ((dvd_small dy O2.pos O2.sm).mono (by decide))
        rw [vy, sum_two, vx, vY, er]
        rfl
end

end Fp

set_option Elab.async false
set_option linter.all false
set_option maxRecDepth 100000
set_option maxHeartbeats 4000000
set_option exponentiation.threshold 10000
namespace Fp
open PySem PySem.Spec PyProof.Rows L2
/-! ### the one ratio in lowest terms of a value -/
def rdq (q : Rat) : RT := (q.num, (q.den : Int))
theorem rdq_red (q : Rat) : Red (rdq q) := ⟨by have := q.den_nz; show (0 : Int) < (q.den : Int); omega, by
  have := q.reduced
  show Nat.gcd q.num.natAbs ((q.den : Int)).natAbs = 1
  rw [Int.natAbs_natCast]
  exact this⟩
theorem qv_rdq (q : Rat) : qv (rdq q) = q := by
  have h := Rat.num_divInt_den q
  rw [Rat.divInt_eq_div] at h
  exact h
theorem red_rdq {x : RT} (h : Red x) : x = rdq (qv x) := qv_inj h (rdq_red _) (qv_rdq _).symm
theorem is_rdq {x : RT} {q : Rat} (h : Red x) (e : qv x = q) : x = rdq q := by
  rw [← e]
  exact red_rdq h
mutual
theorem Dp.same' {K : PySem.W.Frag} {H H' : Hp} (e : Same H H') : ∀ {v : V} {d : PyData}, Dp K H v d → Dp K H' v d
  | _, _, .non => .non
  | _, _, .bl b => .bl b
  | _, _, .int i => .int i
  | _, _, .str x => .str x
  | _, _, .lst h r => .lst (e.seq h) (DpAll.same' e r)
  | _, _, .tup h r => .tup (sqT_same e h) (DpAll.same' e r)
theorem DpAll.same' {K : PySem.W.Frag} {H H' : Hp} (e : Same H H') : ∀ {vs : List V} {ds : List PyData}, DpAll K H vs ds → DpAll K H' vs ds
  | _, _, .nil => .nil
  | _, _, .cons h r => .cons (Dp.same' e h) (DpAll.same' e r)
end

end Fp

set_option Elab.async false
set_option linter.all false
set_option maxRecDepth 100000
set_option maxHeartbeats 4000000
set_option exponentiation.threshold 10000
namespace Fp
open PySem PySem.Spec PyProof.Rows L2
/-! ### lives shown -/
theorem sh_int {i : Int} (h : Sm 1900 i) : (PyData.int i).showable = true ∧ (PyData.int i).leavesShort 2000 = true := by
  have l : i.natAbs.log2 < 1900 := h.log (by decide)
  refine ⟨?_, ?_⟩
  · simp only [PyData.showable, decide_eq_true_eq]
    omega
  · simp only [PyData.leavesShort, decide_eq_true_eq]
    have e := int_text_length_le (k := 1900) (by decide) l
    show (Str.ofString (toString i)).length ≤ 2000
    rw [PySem.ofString_length]
    omega
/-- a thing that may be shown within others -/
structure Sh (c k : Nat) (d : PyData) : Prop where
  sh : d.showable = true
  lv : d.leavesShort 2000 = true
  co : cost d ≤ c
  dp : d.depth ≤ k
theorem Sh.shows {c k : Nat} {d : PyData} (h : Sh c k d) (hc : c ≤ 16000000) (hk : k ≤ 60) : Shows d := ⟨h.sh, h.lv, Nat.le_trans h.co hc, Nat.le_trans h.dp hk⟩
structure Shs (c k : Nat) (ds : List PyData) : Prop where
  sh : PyData.showableAll ds = true
  lv : PyData.leavesShortAll 2000 ds = true
  co : costAll ds ≤ c
  dp : PyData.depthAll ds ≤ k
theorem Shs.nil {k : Nat} : Shs 0 k [] := ⟨rfl, rfl, Nat.le_refl _, Nat.zero_le _⟩
theorem Shs.cons {c1 c2 k : Nat} {d : PyData} {ds : List PyData} (h : Sh c1 k d) (hs : Shs c2 k ds) : Shs (c1 + 2 + c2) k (d :: ds) := by
  refine ⟨?_, ?_, ?_, ?_⟩
  · show (d.showable && PyData.showableAll ds) = true
    rw [h.sh, hs.sh]
    rfl
  · show (d.leavesShort 2000 && PyData.leavesShortAll 2000 ds) = true
    rw [h.lv, hs.lv]
    rfl
  · show cost d + 2 + costAll ds ≤ _
    have := h.co
    have := hs.co
    omega
  · show max d.depth (PyData.depthAll ds) ≤ k
    have := h.dp
    have := hs.dp
    omega
theorem Shs.tup {c k : Nat} {ds : List PyData} (h : Shs c k ds) : Sh (c + 3) (k + 1) (.tuple ds) := ⟨h.sh, h.lv, Nat.add_le_add_right h.co 3, Nat.add_le_add_right h.dp 1⟩
theorem Shs.lst {c k : Nat} {ds : List PyData} (h : Shs c k ds) : Sh (c + 3) (k + 1) (.list ds) := ⟨h.sh, h.lv, Nat.add_le_add_right h.co 3, Nat.add_le_add_right h.dp 1⟩
theorem Sh.int {i : Int} (h : Sm 1900 i) : Sh 2000 0 (.int i) := ⟨(sh_int h).1, (sh_int h).2, Nat.le_refl _, Nat.le_refl _⟩
theorem Sh.bool {b : Bool} : Sh 5 0 (.bool b) := ⟨rfl, rfl, Nat.le_refl _, Nat.le_refl _⟩
theorem Sh.mono {c c2 k k2 : Nat} {d : PyData} (h : Sh c k d) (h1 : c ≤ c2) (h2 : k ≤ k2) : Sh c2 k2 d := ⟨h.sh, h.lv, Nat.le_trans h.co h1, Nat.le_trans h.dp h2⟩
theorem Shs.mono {c c2 k k2 : Nat} {ds : List PyData} (h : Shs c k ds) (h1 : c ≤ c2) (h2 : k ≤ k2) : Shs c2 k2 ds := ⟨h.sh, h.lv, Nat.le_trans h.co h1, Nat.le_trans h.dp h2⟩
def ratD (x : RT) : PyData := .tuple [.int x.1, .int x.2]
theorem Sh.rat {x : RT} {n : Nat} (h : SmR n x) (hn : n ≤ 1900) : Sh 4007 1 (ratD x) := (Shs.cons (Sh.int (h.2.1.mono hn)) (Shs.cons (Sh.int (h.2.2.mono hn)) Shs.nil)).tup
theorem Shs.row {n : Nat} (hn : n ≤ 1900) : ∀ {xs : List RT}, (∀ x ∈ xs, SmR n x) → Shs (4009 * xs.length) 1 (rowD xs)
  | [], _ => Shs.nil
  | x :: r, h => by
    have h1 := Shs.cons (Sh.rat (h x (List.mem_cons_self ..)) hn) (Shs.row hn fun y hy => h y (List.mem_cons_of_mem _ hy))
    refine h1.mono ?_ (Nat.le_refl _)
    rw [List.length_cons]
    omega
def lifeD (row : List RT) (step : RT) : PyData := .tuple [.tuple (rowD row), ratD step]
theorem Sh.life {n : Nat} {row : List RT} {step : RT} (hn : n ≤ 1900) (h : ∀ x ∈ row, SmR n x) (hs : SmR n step) (hl : row.length ≤ 100) : Sh 500000 3 (lifeD row step) := by
  have h1 := (Shs.row hn h).tup
  have h2 := (Shs.cons h1 (Shs.cons ((Sh.rat hs hn).mono (Nat.le_refl _) (by decide : 1 ≤ 2)) Shs.nil)).tup
  exact h2.mono (by omega) (Nat.le_refl _)
theorem LifeAt.dp {K : PySem.W.Frag} {H : Hp} {p : Addr} {row : List RT} {step : RT} (h : LifeAt K H p row step) : Dp K H (.ref p) (lifeD row step) := by
  obtain ⟨pr, ps, h1, h2, h3⟩ := h
  exact .tup h1 (.cons h2.dp (.cons h3.dp .nil))

end Fp

set_option Elab.async false
set_option linter.all false
set_option maxRecDepth 100000
set_option maxHeartbeats 4000000
set_option exponentiation.threshold 10000
namespace Fp
open PySem PySem.Spec PyProof.Rows L2
theorem flat_rep {α : Type} (a : α) : ∀ k : Nat, (List.replicate k [a]).flatten = List.replicate k a
  | 0 => rfl
  | k + 1 => by
    rw [List.replicate_succ, List.flatten_cons, flat_rep a k]
    rfl
theorem RsAt.rep {K : PySem.W.Frag} {H : Hp} {p : Addr} {x : RT} (h : RAt K H p x) : ∀ k : Nat, RsAt K H (List.replicate k p) (List.replicate k x)
  | 0 => .nil
  | k + 1 => .cons h (RsAt.rep h k)
/-- ((0, 1),) * k -/
theorem rep_row {K : PySem.W.Frag} {H : Hp} {p a : Addr} {x : RT} {k : Nat} {Q : VK} (h : SqT K H p [.ref a]) (ha : RAt K H a x) (hk : k ≤ 1000) (q : ∀ r H', Same H H' → RowAt K H' r (List.replicate k x) → Q (.ref r) H') : rRepA K (.ref p) (.int (k : Int)) H Q := by
  refine ⟨p, k, _, rfl, rfl, h, by simp, by omega, by omega, by show 1 ≤ 1000; decide, fun z => ?_, fun _ r nr => ?_⟩
  · have e : k = 1 := by omega
    subst e
    exact q p H (Same.refl H) ⟨[a], h, .cons ha .nil⟩
  · have s := same_new (o := HO.tup (List.replicate (k : Int).toNat [V.ref a]).flatten) nr
    refine q r _ s ⟨List.replicate k a, ?_, (RsAt.rep ha k).tk (Tk.same s)⟩
    have e : (List.replicate k a).map V.ref = (List.replicate (k : Int).toNat [V.ref a]).flatten := by
      rw [flat_rep, List.map_replicate, Int.toNat_natCast]
    rw [e]
    exact SqT.of upd_same

end Fp

set_option Elab.async false
set_option linter.all false
set_option maxRecDepth 100000
set_option maxHeartbeats 4000000
set_option exponentiation.threshold 10000
namespace Fp
open PySem PySem.Spec PyProof.Rows L2
/-! ### the short life with the same chances: what both sides come to -/
def trimZ (xs : List RT) : List RT := (xs.reverse.dropWhile (fun x => decide (x = ((0 : Int), (1 : Int))))).reverse
theorem trimZ_nil : trimZ [] = [] := rfl
theorem trimZ_nought (xs : List RT) : trimZ (xs ++ [(0, 1)]) = trimZ xs := by
  unfold trimZ
  rw [List.reverse_append]
  show (List.dropWhile _ ((0, 1) :: xs.reverse)).reverse = _
  rw [List.dropWhile_cons_of_pos (by decide)]
theorem trimZ_stop (xs : List RT) {x : RT} (h : x ≠ (0, 1)) : trimZ (xs ++ [x]) = xs ++ [x] := by
  unfold trimZ
  rw [List.reverse_append]
  show (List.dropWhile _ (x :: xs.reverse)).reverse = _
  rw [List.dropWhile_cons_of_neg (by simpa using h), List.reverse_cons, List.reverse_reverse]
theorem trimZ_noughts (xs : List RT) : ∀ n, trimZ (xs ++ List.replicate n (0, 1)) = trimZ xs
  | 0 => by rw [List.replicate_zero, List.append_nil]
  | n + 1 => by rw [List.replicate_succ', ← List.append_assoc, trimZ_nought, trimZ_noughts xs n]
theorem trimZ_cases (xs : List RT) : trimZ xs = [] ∨ ∃ ys y, trimZ xs = ys ++ [y] ∧ y ≠ (0, 1) := by
  suffices h : ∀ n (xs : List RT), xs.length = n → trimZ xs = [] ∨ ∃ ys y, trimZ xs = ys ++ [y] ∧ y ≠ (0, 1) from h _ xs rfl
  intro n
  induction n with
  | zero =>
    intro xs h
    rw [List.length_eq_zero_iff.mp h]
    exact .inl rfl
  | succ n ih =>
    intro xs h
    rcases snoc_cases xs with rfl | ⟨ys, y, rfl⟩
    · cases h
    · rcases Classical.em (y = (0, 1)) with rfl | hy
      · rw [trimZ_nought]
        exact ih ys (by simpa using h)
      · rw [trimZ_stop _ hy]
        exact .inr ⟨ys, y, rfl, hy⟩
theorem trimZ_idem (xs : List RT) : trimZ (trimZ xs) = trimZ xs := by
  rcases trimZ_cases xs with h | ⟨ys, y, h, hy⟩
  · rw [h]
    rfl
  · rw [h, trimZ_stop _ hy]
def revG (step : RT) : List RT → List RT
  | a :: b :: r => if a = rT b step then revG step (b :: r) else a :: b :: r
  | l => l
def trimG (xs : List RT) (step : RT) : List RT := (revG step xs.reverse).reverse
theorem trimG_one (a step : RT) : trimG [a] step = [a] := rfl
theorem rev_two (xs : List RT) (b a : RT) : (xs ++ [b] ++ [a]).reverse = a :: b :: xs.reverse := by
  rw [List.reverse_append, List.reverse_append]
  rfl
theorem rev_one (xs : List RT) (b : RT) : (xs ++ [b]).reverse = b :: xs.reverse := by
  rw [List.reverse_append]
  rfl
theorem trimG_cut (xs : List RT) (b step : RT) : trimG (xs ++ [b] ++ [rT b step]) step = trimG (xs ++ [b]) step := by
  unfold trimG
  rw [rev_two, rev_one]
  show (if rT b step = rT b step then revG step (b :: xs.reverse) else _).reverse = _
  rw [if_pos rfl]
theorem trimG_stop (xs : List RT) {a b step : RT} (h : a ≠ rT b step) : trimG (xs ++ [b] ++ [a]) step = xs ++ [b] ++ [a] := by
  unfold trimG
  rw [rev_two]
  show (if a = rT b step then _ else a :: b :: xs.reverse).reverse = _
  rw [if_neg h, List.reverse_cons, List.reverse_cons, List.reverse_reverse]
theorem low2_nought {b : Int} (hb : 0 < b) : low2 0 b = (0, 1) :=
  red_eq (low2_red (Int.ne_of_gt hb)) ⟨by decide, by decide⟩ (by
    have := low2_cross (t := 0) hb
    rw [Int.zero_mul] at this
    have e : (low2 0 b).1 = 0 := by
      rcases Int.mul_eq_zero.mp this with z | z
      · exact z
      · omega
    rw [e]
    show (0 : Int) * 1 = 0 * _
    rw [Int.zero_mul, Int.zero_mul])
theorem low2_zero {t b : Int} (hb : 0 < b) : low2 t b = (0, 1) ↔ t = 0 := by
  refine ⟨fun h => ?_, fun h => by rw [h]; exact low2_nought hb⟩
  have := low2_cross (t := t) hb
  rw [h] at this
  dsimp only at this
  omega
theorem red_zero {x : RT} (h : Red x) : x = (0, 1) ↔ x.1 = 0 := by
  refine ⟨fun z => by rw [z], fun z => ?_⟩
  refine red_eq h ⟨by decide, by decide⟩ ?_
  rw [z]
  simp
theorem rT_zero {x y : RT} (hx : Red x) (hy : Red y) : rT x y = (0, 1) ↔ x = (0, 1) ∨ y = (0, 1) := by
  unfold rT
  rw [low2_zero (Int.mul_pos hx.1 hy.1), red_zero hx, red_zero hy, Int.mul_eq_zero]
/-- the last of a trimmed one isn't nought, and it is trimmed -/
theorem trimG_good (step : RT) : ∀ (n : Nat) (xs : List RT) (a : RT), xs.length = n → (∀ x ∈ xs ++ [a], Red x) → Red step → a ≠ (0, 1) → step ≠ (0, 1) →
    ∃ ys b, trimG (xs ++ [a]) step = ys ++ [b] ∧ b ≠ (0, 1) ∧ trimG (ys ++ [b]) step = ys ++ [b] ∧ (ys ++ [b]).length ≤ (xs ++ [a]).length ∧ ∀ x ∈ ys ++ [b], x ∈ xs ++ [a] := by
  intro n
  induction n with
  | zero =>
    intro xs a h _ _ ha _
    rw [List.length_eq_zero_iff.mp h]
    exact ⟨[], a, trimG_one a step, ha, trimG_one a step, Nat.le_refl _, fun x hx => hx⟩
  | succ n ih =>
    intro xs a h hr hs ha hz
    rcases snoc_cases xs with rfl | ⟨ys, b, rfl⟩
    · cases h
    · rcases Classical.em (a = rT b step) with rfl | hn
      · have hb : Red b := hr b (by simp)
        have hb0 : b ≠ (0, 1) := fun z => ha ((rT_zero hb hs).mpr (.inl z))
        obtain ⟨zs, c, e1, e2, e3, e4, e5⟩ := ih ys b (by simpa using h) (fun x hx => hr x (List.mem_append_left _ hx)) hs hb0 hz
        rw [trimG_cut]
        refine ⟨zs, c, e1, e2, e3, ?_, fun x hx => List.mem_append_left _ (e5 x hx)⟩
        rw [List.length_append (as := ys ++ [b])]
        omega
      · rw [trimG_stop _ hn]
        exact ⟨ys ++ [b], a, rfl, ha, trimG_stop _ hn, Nat.le_refl _, fun x hx => hx⟩
/-- the row has a last one that isn't nought, and goes on by the step -/
def GoesOn (row : List RT) (step : RT) : Prop := step ≠ (0, 1) ∧ ∃ ys y, row = ys ++ [y] ∧ y ≠ (0, 1)
open Classical in
noncomputable def shortL (row : List RT) (step : RT) : List RT × RT := if GoesOn row step then (trimG row step, step) else (trimZ row, (0, 1))
theorem shortL_go {row : List RT} {step : RT} (h : GoesOn row step) : shortL row step = (trimG row step, step) := by
  unfold shortL
  rw [if_pos h]
theorem shortL_end {row : List RT} {step : RT} (h : ¬ GoesOn row step) : shortL row step = (trimZ row, (0, 1)) := by
  unfold shortL
  rw [if_neg h]
theorem goes_snoc {ys : List RT} {y step : RT} : GoesOn (ys ++ [y]) step ↔ step ≠ (0, 1) ∧ y ≠ (0, 1) := by
  refine ⟨fun h => ?_, fun h => ⟨h.1, ys, y, rfl, h.2⟩⟩
  obtain ⟨h1, zs, z, e, hz⟩ := h
  have e2 := List.append_inj_right' e rfl
  cases e2
  exact ⟨h1, hz⟩
theorem goes_nil {step : RT} : ¬ GoesOn [] step := by
  rintro ⟨_, ys, y, e, _⟩
  have := congrArg List.length e
  simp at this
theorem shortL_idem {row : List RT} {step : RT} (hr : ∀ x ∈ row, Red x) (hs : Red step) : shortL (shortL row step).1 (shortL row step).2 = shortL row step := by
  rcases Classical.em (GoesOn row step) with h | h
  · obtain ⟨h1, ys, y, rfl, hy⟩ := id h
    obtain ⟨zs, z, e1, e2, e3, _, _⟩ := trimG_good step _ ys y rfl hr hs hy h1
    rw [shortL_go h, e1]
    dsimp only
    rw [shortL_go (goes_snoc.mpr ⟨h1, e2⟩), e3]
  · rw [shortL_end h]
    dsimp only
    rw [shortL_end (fun z => z.1 rfl), trimZ_idem]
theorem shortL_more {row : List RT} {step l : RT} (h : GoesOn (row ++ [l]) step) (hl : Red l) (hs : Red step) : GoesOn (row ++ [l] ++ [rT l step]) step ∧ shortL (row ++ [l] ++ [rT l step]) step = shortL (row ++ [l]) step := by
  obtain ⟨h1, h2⟩ := goes_snoc.mp h
  have g : GoesOn (row ++ [l] ++ [rT l step]) step := goes_snoc.mpr ⟨h1, fun z => by
    rcases (rT_zero hl hs).mp z with y | y
    · exact h2 y
    · exact h1 y⟩
  exact ⟨g, by rw [shortL_go g, shortL_go h, trimG_cut]⟩
theorem shortL_noughts {row : List RT} {step st : RT} {n : Nat} (h : ¬ GoesOn row step) (hn : n = 0 → ¬ GoesOn row st) : ¬ GoesOn (row ++ List.replicate n (0, 1)) st ∧ shortL (row ++ List.replicate n (0, 1)) st = shortL row step := by
  have g : ¬ GoesOn (row ++ List.replicate n (0, 1)) st := by
    match n, hn with
    | 0, hn =>
      rw [List.replicate_zero, List.append_nil]
      exact hn rfl
    | n + 1, _ =>
      rw [List.replicate_succ', ← List.append_assoc]
      exact fun z => (goes_snoc.mp z).2 rfl
  exact ⟨g, by rw [shortL_end g, shortL_end h, trimZ_noughts]⟩
theorem trimZ_mem : ∀ {n : Nat} {xs : List RT}, xs.length = n → ∀ x ∈ trimZ xs, x ∈ xs := by
  intro n
  induction n with
  | zero =>
    intro xs h x hx
    rw [List.length_eq_zero_iff.mp h] at hx
    simp [trimZ] at hx
  | succ n ih =>
    intro xs h x hx
    rcases snoc_cases xs with rfl | ⟨ys, y, rfl⟩
    · cases h
    · rcases Classical.em (y = (0, 1)) with rfl | hy
      · rw [trimZ_nought] at hx
        exact List.mem_append_left _ (ih (by simpa using h) x hx)
      · rw [trimZ_stop _ hy] at hx
        exact hx
theorem trimZ_len : ∀ {n : Nat} {xs : List RT}, xs.length = n → (trimZ xs).length ≤ xs.length := by
  intro n
  induction n with
  | zero =>
    intro xs h
    rw [List.length_eq_zero_iff.mp h]
    exact Nat.le_refl _
  | succ n ih =>
    intro xs h
    rcases snoc_cases xs with rfl | ⟨ys, y, rfl⟩
    · cases h
    · rcases Classical.em (y = (0, 1)) with rfl | hy
      · rw [trimZ_nought]
        have := ih (xs := ys) (by simpa using h)
        rw [List.length_append]
        omega
      · rw [trimZ_stop _ hy]
        exact Nat.le_refl _
theorem shortL_mem {row : List RT} {step : RT} (hr : ∀ x ∈ row, Red x) (hs : Red step) : (∀ x ∈ (shortL row step).1, x ∈ row) ∧ (shortL row step).1.length ≤ row.length ∧ ((shortL row step).2 = step ∨ (shortL row step).2 = (0, 1)) := by
  rcases Classical.em (GoesOn row step) with h | h
  · obtain ⟨h1, ys, y, rfl, hy⟩ := id h
    obtain ⟨zs, z, e1, e2, e3, e4, e5⟩ := trimG_good step _ ys y rfl hr hs hy h1
    rw [shortL_go h, e1]
    exact ⟨e5, e4, .inl rfl⟩
  · rw [shortL_end h]
    exact ⟨trimZ_mem rfl, trimZ_len rfl, .inr rfl⟩

end Fp

set_option Elab.async false
set_option linter.all false
set_option maxRecDepth 100000
set_option maxHeartbeats 4000000
set_option exponentiation.threshold 10000
namespace Fp
open PySem PySem.Spec PyProof.Rows L2
abbrev s_short : Stmt := topS 27
abbrev s_wn : Stmt := topS 28
theorem sc_short : FnScope ["life", "row", "step"] ["life"] (defScope s_short) := ⟨rfl, rfl, rfl, by decide +kernel, rfl, by decide +kernel, by decide +kernel⟩
theorem sc_wn : FnScope ["row", "end"] ["row"] (defScope s_wn) := ⟨rfl, rfl, rfl, by decide +kernel, rfl, by decide +kernel, by decide +kernel⟩
theorem behindR_zero {row : List RT} {step : RT} (hr : ∀ x ∈ row, Red x) (hs : Red step) (h1 : step.1 < step.2) : behindR row step = (0, 1) ↔ ¬ GoesOn row step := by
  rcases snoc_cases row with rfl | ⟨ys, y, rfl⟩
  · exact ⟨fun _ => goes_nil, fun _ => rfl⟩
  · have hy : Red y := hr y (by simp)
    rw [behindR_snoc, goes_snoc]
    unfold rO
    have hq : Red (rT y step) := low2_red (Int.ne_of_gt (Int.mul_pos hy.1 hs.1))
    rw [low2_zero (Int.mul_pos hq.1 (gap_pos hs h1)), Int.mul_eq_zero]
    have hm := (low2_red (t := 1 * step.2 - step.1 * 1) (b := 1 * step.2) (by have := hs.1; omega)).1
    have e1 : (rT y step).1 = 0 ↔ rT y step = (0, 1) := (red_zero hq).symm
    rw [e1, rT_zero hy hs]
    refine ⟨fun z => ?_, fun z => .inl ?_⟩
    · rcases z with (z | z) | z
      · exact fun g => g.2 z
      · exact fun g => g.1 z
      · have : (0 : Int) < (rM (1, 1) step).2 := hm
        omega
    · rcases Classical.em (y = (0, 1)) with a | a
      · exact .inl a
      · rcases Classical.em (step = (0, 1)) with b | b
        · exact .inr b
        · exact absurd ⟨b, a⟩ z
section
variable {P : Program} {w : World} {K : PySem.W.Frag} {mg : Str → Option Value} {base : Heap} {aN aO : Addr}
/-! ### without noughts at the end -/
def spWn (K : PySem.W.Frag) : Sp := fun vs H Q _ => ∃ (p : Addr) (row : List RT), vs = [.ref p] ∧ RowAt K H p row ∧ ∀ z H', Same H H' → LifeAt K H' z (trimZ row) (0, 1) → Q (.ref z) H'
theorem ok_wn {f : Addr} {fd : FuncData} {k : Nat} (F : Fun K "without_noughts" "without_noughts" s_wn f fd) (C : Consts K mg aN aO) (ml : mg "len" = none) : FnOk P w K mg base CX0 (k + 1) f fd ["row"] (spWn K) := by
  refine F.ok sc_wn (fun vs H Q E h => ?_) (fun cdv A outer s H vs Q E hr h => ?_)
  · obtain ⟨_, _, rfl, _⟩ := h
    rfl
  · obtain ⟨p, row, rfl, hrow, q⟩ := h
    refine ⟨_, (pss_cons (ps_set (i := 1) sc_wn.nd rfl (.inl rfl) (pe_callB call_len_seq (by rfl) ml PySem.boot_len (pa_cons (pv 0) pa_nil))) (pss_cons (ps_while PassesOwn.never (PW.pt (pw_and (pt_cmpR op_gt (pv 1) pe_int (nomark _)) (pw_and1 (pt_cmpR (op_eqD hr.units) (pe_ix ix_tup (pv 0) (pe_op op_sub (pv 1) pe_int) (fun _ _ => rfl)) (pe_glob (v := .ref aN) rfl C.gN rfl) (nomark _)))))
          (pss_one (ps_aug (i := 1) sc_wn.nd rfl (.inl rfl) pe_int ip_sub))) (pss_one (ps_ret (pe_tup (pa_cons (pe_slice sl_tupA (pv 0) po_none (po_some (pv 1))) (pa_cons (pe_glob (v := .ref aN) rfl C.gN rfl) pa_nil))))))), ?_⟩
    obtain ⟨rs, r1, r2⟩ := id hrow
    have hl := r2.length
    refine ⟨_, rfl, p, _, rfl, .inr r1, ?_⟩
    refine ⟨fun m σ H1 => H1 = H ∧ m ≤ row.length ∧ σ = [some (.ref p), some (.int (m : Int))] ∧ trimZ (row.take m) = trimZ row, ⟨row.length, rfl, Nat.le_refl _, ?_, by rw [List.take_length]⟩, ?_⟩
    · show [some (V.ref p), some (V.int (((rs.map V.ref).length : Nat) : Int))] = _
      rw [List.length_map, hl]
    · rintro m σ H1 ⟨rfl, hm, rfl, et⟩
      have done : (m = 0 ∨ ∃ x, row[m - 1]? = some x ∧ x ≠ (0, 1)) → trimZ row = row.take m := fun z => by
        rw [← et]
        rcases z with rfl | ⟨x, hx, hne⟩
        · rfl
        · have hm0 : m ≠ 0 ∨ m = 0 := by omega
          match m, hx with
          | 0, hx =>
            rfl
          | m + 1, hx =>
            rw [List.take_add_one, show row[m]? = some x from hx]
            exact trimZ_stop _ hne
      have ends : trimZ row = row.take m → tRet (tTup (tCons (tSl (rSlA K) (tVar 0) tNoPart (tPart (tVar 1))) (tCons (tC (.ref aN)) tNil))) { nx := fun _ H' => Q .non H', rt := Q } [some (.ref p), some (.int (m : Int))] H1 := fun z => by
        refine ⟨_, rfl, _, rfl, m, rfl, ?_⟩
        refine take_row hrow fun r H2 s2 hr2 => ?_
        refine ⟨by show 2 ≤ sizeLine; decide, fun y ny => ?_⟩
        have e := same_new (o := HO.tup [.ref r, .ref aN]) ny
        refine q y _ (s2.trans e) ⟨r, aN, SqT.of upd_same, ?_, C.tN _⟩
        rw [z]
        exact hr2.tk (Tk.same e)
      refine ⟨_, rfl, m, 0, rfl, rfl, _, rfl, ite2 (fun c => ?_) (fun c => ?_)⟩
      · have hm0 : 0 < m := by
          have : (0 : Int) < (m : Int) := of_decide_eq_true c
          omega
        have hg : row[m - 1]? = some row[m - 1] := List.getElem?_eq_getElem (by omega)
        refine ⟨_, rfl, _, rfl, m, 1, rfl, rfl, ?_⟩
        refine ix_row (j := m - 1) hrow (by omega) hg fun r hr2 => ?_
        refine tC_go (eq_rat hr2 (C.tN _) ?_)
        refine ⟨_, rfl, ite2 (fun c2 => ?_) (fun c2 => ?_)⟩
        · have ez : row[m - 1] = (0, 1) := of_decide_eq_true c2
          refine ⟨fun σ' H' => H' = H1 ∧ σ' = [some (.ref p), some (.int ((m - 1 : Nat) : Int))], fun σ' H' z => ?_, ?_⟩
          · obtain ⟨rfl, rfl⟩ := z
            refine ⟨m - 1, by omega, rfl, by omega, rfl, ?_⟩
            rw [← et]
            obtain ⟨k, rfl⟩ : ∃ k, m = k + 1 := ⟨m - 1, by omega⟩
            rw [List.take_add_one, show row[k]? = some (0, 1) from by rw [← ez]; exact hg]
            exact (trimZ_nought _).symm
          · refine ⟨_, rfl, m, 1, rfl, rfl, rfl, ?_⟩
            show [some (V.ref p), some (V.int ((m : Int) - 1))] = _
            rw [show (m : Int) - 1 = ((m - 1 : Nat) : Int) by omega]
        · exact ends (done (.inr ⟨_, hg, fun z => c2 (decide_eq_true z)⟩))
      · have hm0 : m = 0 := by
          have : ¬ (0 : Int) < (m : Int) := fun z => c (decide_eq_true z)
          omega
        exact iteF (ends (done (.inl hm0)))
/-! ### short -/
theorem cutV_drop (vs : List V) (h : vs ≠ []) : cutV vs none (some (-1)) = vs.take (vs.length - 1) := by
  have hp := List.length_pos_iff.mpr h
  unfold cutV
  rw [HT.sIx_none]
  have e0 : HT.sIx vs.length vs.length (some (-1)) = ((-1 : Int) + (vs.length : Int)).toNat := by
    unfold HT.sIx
    rfl
  have e : HT.sIx vs.length vs.length (some (-1)) = vs.length - 1 := by
    rw [e0]
    omega
  rw [e, Nat.sub_zero, List.drop_zero]
theorem drop_row {K : PySem.W.Frag} {H : Hp} {p : Addr} {xs : List RT} {y : RT} {Q : VK} (h : RowAt K H p (xs ++ [y])) (hq : ∀ r H', Same H H' → RowAt K H' r xs → Q (.ref r) H') : rSlA K (.ref p) none (some (-1)) H Q := by
  obtain ⟨rs, h1, h2⟩ := h
  have hl := h2.length
  rw [List.length_append, List.length_singleton] at hl
  have hne : rs.map V.ref ≠ [] := fun z => by
    have := congrArg List.length z
    rw [List.length_map, List.length_nil] at this
    omega
  refine ⟨p, _, rfl, h1, fun z => ?_, fun _ r nr => ?_⟩
  · have z2 := z.2
    have e0 : HT.sIx (rs.map V.ref).length (rs.map V.ref).length (some (-1)) = ((-1 : Int) + ((rs.map V.ref).length : Int)).toNat := by
      unfold HT.sIx
      rfl
    have e : HT.sIx (rs.map V.ref).length (rs.map V.ref).length (some (-1)) = (rs.map V.ref).length - 1 := by
      rw [e0, List.length_map]
      omega
    rw [e, List.length_map] at z2
    omega
  · rw [cutV_drop _ hne, List.length_map]
    have s := same_new (o := HO.tup ((rs.map V.ref).take (rs.length - 1))) nr
    refine hq r _ s ⟨rs.take (rs.length - 1), ?_, ?_⟩
    · rw [List.map_take]
      exact SqT.of upd_same
    · have h3 := (h2.take (rs.length - 1)).tk (Tk.same (K := K) s)
      rw [hl, Nat.add_sub_cancel, List.take_left'] at h3
      · rw [hl, Nat.add_sub_cancel]
        exact h3
      · rfl
def spShort (K : PySem.W.Frag) : Sp := fun vs H Q _ => ∃ (p : Addr) (row : List RT) (step : RT), vs = [.ref p] ∧ LifeAt K H p row step ∧ (∀ x ∈ row, SmR 1900 x) ∧ StepOk 300 step ∧
  ∀ z H', Same H H' → LifeAt K H' z (shortL row step).1 (shortL row step).2 → Q (.ref z) H'
theorem ok_short {f fB fW fT : Addr} {fd fdB fdW fdT : FuncData} (F : Fun K "short" "short" s_short f fd) (C : Consts K mg aN aO)
    (FB : Fun K "behind_row" "behind_row" s_behind fB fdB) (bB : Binds K fdB ["life"] []) (gB : mg "behind_row" = some (.ref fB)) (GB : FnOk P w K mg base CX0 4 fB fdB ["life"] (spBehind K))
    (FW : Fun K "without_noughts" "without_noughts" s_wn fW fdW) (bW : Binds K fdW ["row"] []) (gW : mg "without_noughts" = some (.ref fW)) (GW : FnOk P w K mg base CX0 1 fW fdW ["row"] (spWn K))
    (FT : Fun K "times" "times" s_times fT fdT) (bT : Binds K fdT ["one", "other"] []) (gT : mg "times" = some (.ref fT)) (GT : FnOk P w K mg base CX0 3 fT fdT ["one", "other"] (spTwo K (fun a b c d => a * c)))
    (ml : mg "len" = none) : FnOk P w K mg base CX0 5 f fd ["life"] (spShort K) := by
  refine F.ok sc_short (fun vs H Q E h => ?_) (fun cdv A outer s H vs Q E hr h => ?_)
  · obtain ⟨_, _, _, rfl, _⟩ := h
    rfl
  · obtain ⟨p, row, step, rfl, hlife, hsm, hst, q⟩ := h
    obtain ⟨pr, ps, l1, l2, l3⟩ := id hlife
    have hr1 := hr.mono (show 1 ≤ 4 by decide)
    have hr3 := hr.mono (show 3 ≤ 4 by decide)
    refine ⟨_, (pss_cons (ps_asg (pv 0) (pg_tup rfl (pgs_cons (pg_name (i := 1) sc_short.nd rfl (.inl rfl)) (pgs_cons (pg_name (i := 2) sc_short.nd rfl (.inl rfl)) pgs_nil)))) (pss_cons (ps_if (pt_cmpR (op_eqD hr.units) (pe_call GB hr (by rfl) gB FB.kp bB .nil pass0 (pa_cons (pv 0) pa_nil)) (pe_glob (v := .ref aN) rfl C.gN rfl) (nomark _)) (pss_one (ps_ret (pe_call GW hr1 (by rfl) gW FW.kp bW .nil pass0 (pa_cons (pv 1) pa_nil)))) pss_nil) (pss_cons (ps_while PassesOwn.never (PW.pt (pw_and (pt_cmpR op_gt (pe_callB call_len_seq (by rfl) ml PySem.boot_len (pa_cons (pv 1) pa_nil)) pe_int (nomark _)) (pw_and1 (pt_cmpR (op_eqD hr.units) (pe_ix ix_tup (pv 1) (pe_un un_neg pe_int) (fun _ _ => rfl))
            (pe_call GT hr3 (by rfl) gT FT.kp bT .nil pass0 (pa_cons (pe_ix ix_tup (pv 1) (pe_un un_neg pe_int) (fun _ _ => rfl)) (pa_cons (pv 2) pa_nil))) (nomark _)))))
          (pss_one (ps_set (i := 1) sc_short.nd rfl (.inl rfl) (pe_slice sl_tupA (pv 1) po_none (po_some (pe_un un_neg pe_int)))))) (pss_one (ps_ret (pe_tup (pa_cons (pv 1) (pa_cons (pv 2) pa_nil)))))))), ?_⟩
    refine ⟨_, rfl, p, _, rfl, l1, rfl, _, _, rfl, _, _, rfl, rfl, ?_⟩
    refine ⟨_, rfl, p, row, step, rfl, hlife, hsm, hst, fun b H1 s1 hb => ?_⟩
    have hred : ∀ x ∈ row, Red x := fun x hx => (hsm x hx).1
    refine tC_go (eq_rat hb (C.tN _) ?_)
    refine ⟨_, rfl, ite2 (fun c => ?_) (fun c => ?_)⟩
    · have hg : ¬ GoesOn row step := (behindR_zero hred hst.1.1 hst.2.2).mp (of_decide_eq_true c)
      refine ⟨_, rfl, pr, row, rfl, l2.tk (Tk.same s1), fun z H2 s2 hz => ?_⟩
      refine q z _ (s1.trans s2) ?_
      rw [shortL_end hg]
      exact hz
    · have hg : GoesOn row step := by
        rcases Classical.em (GoesOn row step) with z | z
        · exact z
        · exact absurd (decide_eq_true ((behindR_zero hred hst.1.1 hst.2.2).mpr z)) c
      rw [shortL_go hg] at q
      dsimp only at q
      refine ⟨fun m σ H2 => ∃ (pr : Addr) (ys : List RT) (y : RT), m = ys.length ∧ σ = [some (.ref p), some (.ref pr), some (.ref ps)] ∧ Same H H2 ∧ RowAt K H2 pr (ys ++ [y]) ∧ (∀ x ∈ ys ++ [y], SmR 1900 x) ∧ trimG (ys ++ [y]) step = trimG row step, ?_, ?_⟩
      · obtain ⟨_, ys, y, rfl, _⟩ := hg
        exact ⟨_, pr, ys, y, rfl, rfl, s1, l2.tk (Tk.same s1), hsm, rfl⟩
      · rintro m σ H2 ⟨pr, ys, y, rfl, rfl, s2, hrow, hsm2, et⟩
        have ends : ∀ H3, Same H2 H3 → trimG (ys ++ [y]) step = ys ++ [y] → tRet (tTup (tCons (tVar 1) (tCons (tVar 2) tNil))) { nx := fun _ H' => Q .non H', rt := Q } [some (.ref p), some (.ref pr), some (.ref ps)] H3 := fun H3 s3 z => by
          refine ⟨_, rfl, _, rfl, by show 2 ≤ sizeLine; decide, fun a na => ?_⟩
          have e := same_new (o := HO.tup [.ref pr, .ref ps]) na
          refine q a _ (s2.trans (s3.trans e)) ⟨pr, ps, SqT.of upd_same, ?_, l3.tk (Tk.same (s2.trans (s3.trans e)))⟩
          rw [← et, z]
          exact hrow.tk (Tk.same (s3.trans e))
        obtain ⟨rs, r1, r2⟩ := id hrow
        have hl := r2.length
        rw [List.length_append, List.length_singleton] at hl
        refine ⟨_, rfl, pr, _, rfl, .inr r1, _, 1, rfl, rfl, _, rfl, ite2 (fun c2 => ?_) (fun c2 => ?_)⟩
        · have h2 : 1 ≤ ys.length := by
            have : (1 : Int) < ((rs.map V.ref).length : Nat) := of_decide_eq_true c2
            rw [List.length_map] at this
            omega
          rcases snoc_cases ys with rfl | ⟨zs, b, rfl⟩
          · simp at h2
          · have sb := hsm2 b (by simp)
            refine ⟨_, rfl, 1, rfl, ?_⟩
            refine ix_back (k := 1) (j := (zs ++ [b]).length) (x := y) hrow (by decide) (by simp) (by simp) fun r hr4 => ?_
            refine ⟨_, rfl, 2, rfl, ?_⟩
            refine ix_back (k := 2) (j := zs.length) (x := b) hrow (by decide) (by simp) (by simp) fun r2 hr5 => ?_
            refine ⟨_, rfl, r2, ps, _, _, _, _, rfl, ⟨hr5, l3.tk (Tk.same s2), sb.2.1.mono (by decide), sb.2.2.mono (by decide), hst.1.2.1.mono (by decide), hst.1.2.2.mono (by decide), sb.1.1, hst.1.1.1⟩, fun a na => ?_⟩
            have e := same_new (o := HO.tup [.int (rT b step).1, .int (rT b step).2]) na
            refine eq_rat (y := rT b step) (hr4.tk (Tk.same e)) (SqT.of upd_same) ?_
            refine ⟨_, rfl, ite2 (fun c3 => ?_) (fun c3 => ?_)⟩
            · have ey : y = rT b step := of_decide_eq_true c3
              refine ⟨fun σ' H' => ∃ pr2 : Addr, σ' = [some (.ref p), some (.ref pr2), some (.ref ps)] ∧ Same H H' ∧ RowAt K H' pr2 (zs ++ [b]), fun σ' H' z => ?_, ?_⟩
              · obtain ⟨pr2, rfl, s4, hrow4⟩ := z
                refine ⟨zs.length, by simp, pr2, zs, b, rfl, rfl, s4, hrow4, fun x hx => hsm2 x (List.mem_append_left _ hx), ?_⟩
                rw [← et, ey, trimG_cut]
              · refine ⟨_, rfl, 1, rfl, -1, rfl, ?_⟩
                refine drop_row (hrow.tk (Tk.same e)) fun r3 H4 s4 hr6 => ?_
                exact ⟨r3, rfl, s2.trans (e.trans s4), hr6⟩
            · exact ends _ e (trimG_stop _ fun z => c3 (decide_eq_true z))
        · have h2 : ys.length = 0 := by
            have : ¬ (1 : Int) < ((rs.map V.ref).length : Nat) := fun z => c2 (decide_eq_true z)
            rw [List.length_map] at this
            omega
          rw [List.length_eq_zero_iff.mp h2]
          rw [List.length_eq_zero_iff.mp h2] at ends
          exact iteF (ends _ (Same.refl _) (trimG_one y step))
end

end Fp

set_option Elab.async false
set_option linter.all false
set_option maxRecDepth 100000
set_option maxHeartbeats 4000000
set_option exponentiation.threshold 10000
namespace Fp
open PySem PySem.Spec PyProof.Rows L2
/-! ### the law's own short life -/
abbrev s_lshort : Stmt := topS 43
abbrev N_lshort : List Str := ["_law_life_here", "_law_row", "_law_step", "_law_some", "_law_first", "_law_k"]
theorem sc_lshort : FnScope N_lshort ["_law_life_here"] (defScope s_lshort) := ⟨rfl, rfl, rfl, by decide +kernel, rfl, by decide +kernel, by decide +kernel⟩
theorem trimZ_all {row : List RT} (h : ∀ y ∈ row, y = (0, 1)) : trimZ row = [] := by
  have e : row = [] ++ List.replicate row.length (0, 1) := by
    rw [List.nil_append]
    exact List.eq_replicate_of_mem h
  rw [e, trimZ_noughts]
  rfl
theorem trimZ_at {row : List RT} {m : Nat} {x : RT} (h : row[m]? = some x) (hx : x ≠ (0, 1)) (hr : ∀ j y, m < j → row[j]? = some y → y = (0, 1)) : trimZ row = row.take (m + 1) := by
  have e : row = row.take (m + 1) ++ List.replicate (row.drop (m + 1)).length (0, 1) := by
    rw [← List.eq_replicate_of_mem (l := row.drop (m + 1)) (a := (0, 1)) ?_, List.take_append_drop]
    intro y hy
    obtain ⟨i, hi⟩ := List.mem_iff_getElem?.mp hy
    rw [List.getElem?_drop] at hi
    exact hr _ y (by omega) hi
  have e2 : trimZ row = trimZ (row.take (m + 1)) := by
    conv => lhs; rw [e]
    exact trimZ_noughts _ _
  rw [e2, List.take_add_one, h]
  exact trimZ_stop _ hx
section
variable {P : Program} {w : World} {K : PySem.W.Frag} {mg : Str → Option Value} {base : Heap}
def spLshort (K : PySem.W.Frag) : Sp := fun vs H Q _ => ∃ (p : Addr) (row : List RT) (step : RT), vs = [.ref p] ∧ LifeAt K H p row step ∧ row.length ≤ 1000 ∧ (row = [] → step = (0, 1)) ∧ (∀ x ∈ row, SmR 1900 x) ∧ StepOk 300 step ∧
  ∀ z H', Same H H' → LifeAt K H' z (shortL row step).1 (shortL row step).2 → Q (.ref z) H'
theorem ok_lshort {f fT : Addr} {fd fdT : FuncData} (F : Fun K "_law_short" "_law_short" s_lshort f fd)
    (FT : Fun K "_law_times" "_law_times" s_ltimes fT fdT) (bT : Binds K fdT ["_law_one", "_law_other"] []) (gT : mg "_law_times" = some (.ref fT)) (GT : FnOk P w K mg base CX0 2 fT fdT ["_law_one", "_law_other"] (spTwo K (fun a b c d => a * c)))
    (ml : mg "len" = none) (mr : mg "range" = none) (mm : mg "max" = none) : FnOk P w K mg base CX0 3 f fd ["_law_life_here"] (spLshort K) := by
  refine F.ok sc_lshort (fun vs H Q E h => ?_) (fun cdv A outer s H vs Q E hr h => ?_)
  · obtain ⟨_, _, _, rfl, _⟩ := h
    rfl
  · obtain ⟨p, row, step, rfl, hlife, hlen, hnil, hsm, hst, q⟩ := h
    obtain ⟨pr, ps, l1, l2, l3⟩ := id hlife
    refine ⟨_, (pss_cons (ps_asg (pv 0) (pg_tup rfl (pgs_cons (pg_name (i := 1) sc_lshort.nd rfl (.inr rfl)) (pgs_cons (pg_name (i := 2) sc_lshort.nd rfl (.inl rfl)) pgs_nil)))) (pss_mid (ps_if (PW.pt (pw_and (pt_cmpR (op_neD hr.units) (pv 1) (pe_tup pa_nil) (nomark _)) (pw_and1 (pt_cmpR (op_eqD hr.units) (pe_ix ix_tup (pv 1) (pe_un un_neg pe_int) (fun _ _ => rfl)) (pe_tup (pa_cons pe_int (pa_cons pe_int pa_nil))) (nomark _))))) (pss_one (ps_set (i := 2) sc_lshort.nd rfl (.inl rfl) (pe_tup (pa_cons pe_int (pa_cons pe_int pa_nil))))) pss_nil) (pss_cons (ps_if (pt_cmpR (op_eqD hr.units) (pv 2) (pe_tup (pa_cons pe_int (pa_cons pe_int pa_nil))) (nomark _))
          (pss_cons (ps_setLc (i := 3) (own := [("_law_k", 5)]) (g := gName 5) (tt := tTest (tOp (rNeD K) (tOp (rIxT K) (tVar 1) (tVar 5)) (tTup (tCons (tC (.int 0)) (tCons (tC (.int 1)) tNil))))) (te := tVar 5) rfl sc_lshort.nd rfl rfl (sw_true rfl rfl rfl (by decide +kernel)) (pi_range1 (by rfl) mr (pa_cons (pe_callB call_len_seq (by rfl) ml PySem.boot_len (pa_cons (pv 1) pa_nil)) pa_nil))
                (blkOk_by (own := [("_law_k", 5)]) (N := N_lshort) (sc := defScope s_lshort) (by decide +kernel)) (fun _ _ _ _ _ => pg_name (i := 5) sc_lshort.nd rfl (.inl rfl)) (fun _ _ _ _ _ => pts_one (pt_cmpR (op_neD hr.units) (pe_ix ix_tup (pv 1) (pv 5) (fun _ _ => rfl)) (pe_tup (pa_cons pe_int (pa_cons pe_int pa_nil))) (nomark _))) (fun _ _ _ _ _ => pv 5)) (pss_one (ps_ret (pe_tup (pa_cons (pe_ifExp (pt_cmpR (op_neD hr.units) (pv 3) (pe_lst pa_nil) (nomark _)) (pe_slice sl_tupA (pv 1) po_none (po_some (pe_op op_add (pe_callB (cr_max rfl) (by rfl) mm (by decide +kernel) (pa_cons (pv 3) pa_nil)) pe_int))) (pe_tup pa_nil)) (pa_cons (pv 2) pa_nil)))))) pss_nil) (pss_cons (ps_set (i := 4) sc_lshort.nd rfl (.inl rfl) (pe_op op_sub (pe_callB call_len_seq (by rfl) ml PySem.boot_len (pa_cons (pv 1) pa_nil)) pe_int)) (pss_cons (ps_while PassesOwn.never (PW.pt (pw_and (pt_cmpR op_gt (pv 4) pe_int (nomark _)) (pw_and1 (pt_cmpR (op_eqD hr.units) (pe_call GT hr (by rfl) gT FT.kp bT .nil pass0 (pa_cons (pe_ix ix_tup (pv 1) (pe_op op_sub (pv 4) pe_int) (fun _ _ => rfl)) (pa_cons (pv 2) pa_nil))) (pe_ix ix_tup (pv 1) (pv 4) (fun _ _ => rfl)) (nomark _)))))
          (pss_one (ps_set (i := 4) sc_lshort.nd rfl (.inl rfl) (pe_op op_sub (pv 4) pe_int)))) (pss_one (ps_ret (pe_tup (pa_cons (pe_slice sl_tupA (pv 1) po_none (po_some (pe_op op_add (pv 4) pe_int))) (pa_cons (pv 2) pa_nil)))))))))), ?_⟩
    refine ⟨_, rfl, p, _, rfl, l1, rfl, _, _, rfl, _, _, rfl, rfl, ?_⟩
    -- the step that counts
    refine ⟨fun σ H1 => ∃ (ps1 : Addr) (st : RT), σ = [some (.ref p), some (.ref pr), some (.ref ps1), none, none, none] ∧ Same H H1 ∧ RAt K H1 ps1 st ∧ (GoesOn row step → st = step) ∧ (¬ GoesOn row step → st = (0, 1)), ?_, ?_⟩
    · refine ⟨_, rfl, by show 0 ≤ sizeLine; decide, fun a na => ?_⟩
      have e1 := same_new (o := HO.tup []) na
      refine ⟨_, _, (l2.tk (Tk.same e1)).dp, .tup (SqT.of upd_same) .nil, rowD_shaped row, rfl, _, rfl, ?_⟩
      rw [rowD_nil]
      rcases snoc_cases row with rfl | ⟨ys, y, rfl⟩
      · exact iteF (iteF ⟨ps, step, rfl, e1, l3.tk (Tk.same e1), fun z => absurd z goes_nil, fun _ => hnil rfl⟩)
      · have ne : (ys ++ [y]).isEmpty = false := by simp
        rw [ne]
        refine iteT ?_
        refine ⟨_, rfl, 1, rfl, ?_⟩
        refine ix_back (k := 1) (j := ys.length) (x := y) (l2.tk (Tk.same e1)) (by decide) (by simp) (by simp) fun r hr3 => ?_
        refine ⟨by show 2 ≤ sizeLine; decide, fun b nb => ?_⟩
        have e2 := same_new (o := HO.tup [.int 0, .int 1]) nb
        refine eq_rat (y := (0, 1)) (hr3.tk (Tk.same e2)) (SqT.of upd_same) ?_
        refine ⟨_, rfl, ite2 (fun c => ?_) (fun c => ?_)⟩
        · refine ⟨by show 2 ≤ sizeLine; decide, fun b2 nb2 => ?_⟩
          have e3 := same_new (o := HO.tup [.int 0, .int 1]) nb2
          exact ⟨b2, (0, 1), rfl, e1.trans (e2.trans e3), SqT.of upd_same, fun z => absurd (of_decide_eq_true c) (goes_snoc.mp z).2, fun _ => rfl⟩
        · refine ⟨ps, step, rfl, e1.trans e2, l3.tk (Tk.same (e1.trans e2)), fun _ => rfl, fun z => ?_⟩
          rcases Classical.em (step = (0, 1)) with y1 | y1
          · exact y1
          · exact absurd (goes_snoc.mpr ⟨y1, fun y2 => c (decide_eq_true y2)⟩) z
    rintro σ H1 ⟨ps1, st, rfl, s1, hst1, g1, g2⟩
    have hrow1 := l2.tk (Tk.same (K := K) s1)
    obtain ⟨rs, r1, r2⟩ := id hrow1
    have hl := r2.length
    refine ⟨_, rfl, by show 2 ≤ sizeLine; decide, fun a na => ?_⟩
    have e1 := same_new (o := HO.tup [.int 0, .int 1]) na
    refine eq_rat (y := (0, 1)) (hst1.tk (Tk.same e1)) (SqT.of upd_same) ?_
    have hrow2 := hrow1.tk (Tk.same (K := K) e1)
    refine ⟨_, rfl, ite2 (fun c => ?_) (fun c => ?_)⟩
    · have est : st = (0, 1) := of_decide_eq_true c
      have hg : ¬ GoesOn row step := fun z => by
        have := g1 z
        rw [est] at this
        exact z.1 this.symm
      rw [shortL_end hg] at q
      dsimp only at q
      subst est
      refine ⟨_, rfl, pr, _, rfl, .inr (Tk.same e1 _ _ r1), _, rfl, ?_, ?_, fun D nD => ?_⟩
      · omega
      · rw [List.length_map, hl]
        have : ((row.length : Nat) : Int) ≤ 1000 := by omega
        exact Int.lt_of_le_of_lt this (by decide)
      have e2 := same_new (o := HO.lst []) nD
      refine lc_range (lo := 0) (n := (((rs.map V.ref).length : Nat) : Int).toNat) (fun i H2 => ∃ us : List Int, Same H1 H2 ∧ H2 D = some (.lst (us.map V.int)) ∧ us.length ≤ i ∧ (∀ u ∈ us, ∃ k : Nat, u = (k : Int) ∧ k < i ∧ ∃ x, row[k]? = some x ∧ x ≠ (0, 1)) ∧ ∀ k x, k < i → row[k]? = some x → x ≠ (0, 1) → (k : Int) ∈ us) ?_ ?_ ?_
      · exact ⟨[], e1.trans e2, upd_same, Nat.le_refl _, fun u hu => by simp at hu, fun k x hk => absurd hk (Nat.not_lt_zero _)⟩
      · rintro i H2 hi ⟨us, s2, hD, hul, h1, h2⟩
        have hi2 : i < row.length := by
          rw [List.length_map, hl] at hi
          omega
        have hg2 : row[i]? = some row[i] := List.getElem?_eq_getElem hi2
        refine ⟨rfl, ?_⟩
        refine ⟨_, rfl, _, rfl, ?_⟩
        refine ix_row (j := i) (hrow1.tk (Tk.same s2)) (by omega) hg2 fun r hr3 => ?_
        refine ⟨by show 2 ≤ sizeLine; decide, fun b nb => ?_⟩
        have e3 := same_new (o := HO.tup [.int 0, .int 1]) nb
        refine ne_rat (y := (0, 1)) (hr3.tk (Tk.same e3)) (SqT.of upd_same) ?_
        refine ⟨_, rfl, ite2 (fun c2 => ?_) (fun c2 => ?_)⟩
        · have hne : row[i] ≠ (0, 1) := fun z => by
            rw [z] at c2
            exact absurd c2 (by decide)
          refine ⟨_, rfl, us.map V.int, e3 _ _ hD, ?_, us ++ [0 + (i : Int)], ?_, ?_, ?_, ?_, ?_⟩
          · rw [List.length_map]
            exact Nat.lt_of_le_of_lt (Nat.le_trans hul (Nat.le_of_lt (Nat.lt_of_lt_of_le hi2 hlen))) (by decide)
          · intro b2 o hb2
            rw [upd_ne (ne_of_none hb2 (Same.free e1 nD))]
            exact e3 _ _ (s2 _ _ hb2)
          · rw [upd_same, List.map_append]
            rfl
          · rw [List.length_append, List.length_singleton]
            omega
          · intro u hu
            rcases List.mem_append.mp hu with z | z
            · obtain ⟨k, e, hk, x, hx⟩ := h1 u z
              exact ⟨k, e, by omega, x, hx⟩
            · exact ⟨i, by have := List.mem_singleton.mp z; omega, by omega, _, hg2, hne⟩
          · intro k x hk hx hx0
            rcases (by omega : k < i ∨ k = i) with z | z
            · exact List.mem_append_left _ (h2 k x z hx hx0)
            · subst z
              exact List.mem_append_right _ (List.mem_singleton.mpr (by omega))
        · have hz : row[i] = (0, 1) := by
            rcases Classical.em (row[i] = (0, 1)) with z | z
            · exact z
            · exact absurd (show (!decide (row[i] = (0, 1))) = true by simp [z]) c2
          refine ⟨us, s2.trans e3, e3 _ _ hD, by omega, fun u hu => ?_, fun k x hk hx hx0 => ?_⟩
          · obtain ⟨k, e, hk, x, hx⟩ := h1 u hu
            exact ⟨k, e, by omega, x, hx⟩
          · rcases (by omega : k < i ∨ k = i) with z | z
            · exact h2 k x z hx hx0
            · subst z
              rw [hg2] at hx
              exact absurd ((Option.some.inj hx).symm.trans hz) hx0
      · rintro H2 ⟨us, s2, hD, hul, h1, h2⟩
        have en : (((rs.map V.ref).length : Nat) : Int).toNat = row.length := by
          rw [List.length_map, hl]
          omega
        rw [en] at h1 h2
        refine ⟨_, rfl, by show 0 ≤ sizeLine; decide, fun b nb => ?_⟩
        have e3 := same_new (o := HO.lst []) nb
        refine ⟨.list (us.map PyData.int), .list [], .lst (SqL.of (e3 _ _ hD)) (dpAll_ints us), .lst (SqL.of upd_same) .nil, shaped_ints us, rfl, _, rfl, ?_⟩
        rw [eqv_nil]
        have S := s1.trans (s2.trans e3)
        have ends : ∀ z H3, Same (upd H2 b (HO.lst [])) H3 → RowAt K H3 z (trimZ row) → ∀ y, H3 y = none → Q (.ref y) (upd H3 y (.tup [.ref z, .ref ps1])) := fun z H3 s3 hz y ny => by
          have e4 := same_new (o := HO.tup [.ref z, .ref ps1]) ny
          exact q y _ (S.trans (s3.trans e4)) ⟨z, ps1, SqT.of upd_same, hz.tk (Tk.same e4), hst1.tk (Tk.same (s2.trans (e3.trans (s3.trans e4))))⟩
        match us, h1, h2, hD with
        | [], h1, h2, hD =>
          refine iteF ?_
          refine ⟨by show 0 ≤ sizeLine; decide, fun b2 nb2 => ?_⟩
          have e4 := same_new (o := HO.tup []) nb2
          refine ⟨_, rfl, by show 2 ≤ sizeLine; decide, ends b2 _ e4 ?_⟩
          rw [trimZ_all fun y hy => ?_]
          · exact ⟨[], SqT.of upd_same, .nil⟩
          · obtain ⟨k, hk⟩ := List.mem_iff_getElem?.mp hy
            rcases Classical.em (y = (0, 1)) with z | z
            · exact z
            · have hk2 : k < row.length := (List.getElem?_eq_some_iff.mp hk).1
              have := h2 k y hk2 hk z
              simp at this
        | u :: us, h1, h2, hD =>
          refine iteT ?_
          refine ⟨_, rfl, _, rfl, D, u :: us, rfl, SqL.of (e3 _ _ hD), by simp, fun m hm hmax => ?_⟩
          obtain ⟨k, rfl, hk, x, hx, hx0⟩ := h1 m hm
          refine ⟨k, 1, rfl, rfl, _, rfl, ?_⟩
          have ek : (k : Int) + 1 = ((k + 1 : Nat) : Int) := by omega
          show rSlA K (.ref pr) none (some ((k : Int) + 1)) _ _
          rw [ek]
          refine take_row (hrow1.tk (Tk.same (s2.trans e3))) fun z H3 s3 hz => ?_
          refine ⟨_, rfl, by show 2 ≤ sizeLine; decide, ends z H3 s3 ?_⟩
          rw [trimZ_at hx hx0 fun j y hj hy => ?_]
          · exact hz
          · rcases Classical.em (y = (0, 1)) with z2 | z2
            · exact z2
            · have := hmax _ (h2 j y (List.getElem?_eq_some_iff.mp hy).1 hy z2)
              omega
    · have est : st ≠ (0, 1) := fun z => c (decide_eq_true z)
      have hg : GoesOn row step := by
        rcases Classical.em (GoesOn row step) with z | z
        · exact z
        · exact absurd (g2 z) est
      have es := g1 hg
      subst es
      rw [shortL_go hg] at q
      dsimp only at q
      obtain ⟨_, ys0, y0, erow, _⟩ := id hg
      have hpos : 0 < row.length := by
        rw [erow]
        simp
      refine ⟨_, rfl, pr, _, rfl, .inr (Tk.same e1 _ _ r1), _, 1, rfl, rfl, ?_⟩
      refine ⟨fun m σ H2 => m < row.length ∧ σ = [some (.ref p), some (.ref pr), some (.ref ps1), none, some (.int (m : Int)), none] ∧ Same H1 H2 ∧ trimG (row.take (m + 1)) st = trimG row st, ⟨row.length - 1, by omega, ?_, e1, ?_⟩, ?_⟩
      · show [some (V.ref p), some (V.ref pr), some (V.ref ps1), none, some (V.int ((((rs.map V.ref).length : Nat) : Int) - 1)), none] = _
        rw [List.length_map, hl, show ((row.length : Nat) : Int) - 1 = ((row.length - 1 : Nat) : Int) by omega]
      · rw [List.take_of_length_le (by omega)]
      · rintro m σ H2 ⟨hm, rfl, s2, et⟩
        have ends : ∀ H3, Same H2 H3 → trimG (row.take (m + 1)) st = row.take (m + 1) → tRet (tTup (tCons (tSl (rSlA K) (tVar 1) tNoPart (tPart (tOp (rI0 fun i j => .int (i + j)) (tVar 4) (tC (.int 1))))) (tCons (tVar 2) tNil))) { nx := fun _ H' => Q .non H', rt := Q }
            [some (.ref p), some (.ref pr), some (.ref ps1), none, some (.int (m : Int)), none] H3 := fun H3 s3 z => by
          refine ⟨_, rfl, _, rfl, m, 1, rfl, rfl, _, rfl, ?_⟩
          have ek : (m : Int) + 1 = ((m + 1 : Nat) : Int) := by omega
          show rSlA K (.ref pr) none (some ((m : Int) + 1)) _ _
          rw [ek]
          refine take_row (hrow1.tk (Tk.same (s2.trans s3))) fun z2 H4 s4 hz => ?_
          refine ⟨_, rfl, by show 2 ≤ sizeLine; decide, fun y ny => ?_⟩
          have e4 := same_new (o := HO.tup [.ref z2, .ref ps1]) ny
          refine q y _ (s1.trans (s2.trans (s3.trans (s4.trans e4)))) ⟨z2, ps1, SqT.of upd_same, ?_, hst1.tk (Tk.same (s2.trans (s3.trans (s4.trans e4))))⟩
          rw [← et, z]
          exact hz.tk (Tk.same e4)
        refine ⟨_, rfl, m, 0, rfl, rfl, _, rfl, ite2 (fun c2 => ?_) (fun c2 => ?_)⟩
        · have hm0 : 0 < m := by
            have : (0 : Int) < (m : Int) := of_decide_eq_true c2
            omega
          obtain ⟨k, rfl⟩ : ∃ k, m = k + 1 := ⟨m - 1, by omega⟩
          have hk : row[k]? = some row[k] := List.getElem?_eq_getElem (by omega)
          have hk1 : row[k + 1]? = some row[k + 1] := List.getElem?_eq_getElem (by omega)
          have sb := hsm row[k] (List.getElem_mem _)
          have etk : row.take (k + 1 + 1) = row.take k ++ [row[k]] ++ [row[k + 1]] := by
            rw [List.take_add_one, List.take_add_one, hk, hk1]
            rfl
          refine ⟨_, rfl, _, rfl, ((k + 1 : Nat) : Int), 1, rfl, rfl, ?_⟩
          refine ix_row (j := k) (hrow1.tk (Tk.same s2)) (by omega) hk fun r hr3 => ?_
          refine ⟨_, rfl, r, ps1, _, _, _, _, rfl, ⟨hr3, hst1.tk (Tk.same s2), sb.2.1.mono (by decide), sb.2.2.mono (by decide), hst.1.2.1.mono (by decide), hst.1.2.2.mono (by decide), sb.1.1, hst.1.1.1⟩, fun b nb => ?_⟩
          have e3 := same_new (o := HO.tup [.int (rT row[k] st).1, .int (rT row[k] st).2]) nb
          refine ⟨_, rfl, _, rfl, ?_⟩
          refine ix_row (j := k + 1) (hrow1.tk (Tk.same (s2.trans e3))) rfl hk1 fun r4 hr4 => ?_
          refine eq_rat (x := rT row[k] st) (SqT.of upd_same) hr4 ?_
          refine ⟨_, rfl, ite2 (fun c3 => ?_) (fun c3 => ?_)⟩
          · have ey : rT row[k] st = row[k + 1] := of_decide_eq_true c3
            refine ⟨fun σ' H' => σ' = [some (.ref p), some (.ref pr), some (.ref ps1), none, some (.int (k : Int)), none] ∧ Same H1 H', fun σ' H' z => ?_, ?_⟩
            · obtain ⟨rfl, s4⟩ := z
              refine ⟨k, by omega, by omega, rfl, s4, ?_⟩
              rw [← et, etk, ← ey, trimG_cut, List.take_add_one, hk]
              rfl
            · refine ⟨_, rfl, ((k + 1 : Nat) : Int), 1, rfl, rfl, ?_, s2.trans e3⟩
              show [some (V.ref p), some (V.ref pr), some (V.ref ps1), none, some (V.int (((k + 1 : Nat) : Int) - 1)), none] = _
              rw [show ((k + 1 : Nat) : Int) - 1 = (k : Int) by omega]
          · refine ends _ e3 ?_
            rw [etk]
            exact trimG_stop _ fun z => c3 (decide_eq_true z.symm)
        · have hm0 : m = 0 := by
            have : ¬ (0 : Int) < (m : Int) := fun z => c2 (decide_eq_true z)
            omega
          subst hm0
          refine iteF (ends _ (Same.refl _) ?_)
          have h0 : row[0]? = some row[0] := List.getElem?_eq_getElem hm
          have e0 : row.take (0 + 1) = [row[0]] := by
            rw [List.take_add_one, h0]
            rfl
          rw [e0]
          exact trimG_one _ _
end

end Fp

set_option Elab.async false
set_option linter.all false
set_option maxRecDepth 100000
set_option maxHeartbeats 4000000
set_option exponentiation.threshold 10000
namespace Fp
open PySem PySem.Spec PyProof.Rows L2
/-! ### chances put anew: the recursion -/
def sumTo (n : Nat) (f : Nat → Rat) : Rat := ((List.range n).map f).sum
def renL (a b : Nat → Rat) : Nat → List Rat
  | 0 => []
  | n + 1 => renL a b n ++ [b n + sumTo n fun j => a j * (renL a b n)[n - 1 - j]?.getD 0]
theorem renL_len (a b : Nat → Rat) : ∀ n, (renL a b n).length = n
  | 0 => rfl
  | n + 1 => by
    show (renL a b n ++ [_]).length = _
    rw [List.length_append, renL_len a b n]
    rfl
theorem renL_at (a b : Nat → Rat) : ∀ {n j : Nat}, j < n → (renL a b n)[j]? = (renL a b (j + 1))[j]?
  | 0, j, h => absurd h (Nat.not_lt_zero _)
  | n + 1, j, h => by
    rcases (by omega : j < n ∨ j = n) with z | z
    · show (renL a b n ++ [_])[j]? = _
      rw [List.getElem?_append_left (by rw [renL_len]; exact z)]
      exact renL_at a b z
    · subst z
      rfl
/-- what is at n: the told one, and by each chance what is so much before -/
def renQ (a b : Nat → Rat) (n : Nat) : Rat := (renL a b (n + 1))[n]?.getD 0
theorem renQ_is (a b : Nat → Rat) (n : Nat) : renQ a b n = b n + sumTo n fun j => a j * renQ a b (n - 1 - j) := by
  unfold renQ
  show (renL a b n ++ [b n + sumTo n fun j => a j * (renL a b n)[n - 1 - j]?.getD 0])[n]?.getD 0 = _
  rw [List.getElem?_append_right (by rw [renL_len]; exact Nat.le_refl _), renL_len, Nat.sub_self]
  show b n + sumTo n (fun j => a j * (renL a b n)[n - 1 - j]?.getD 0) = _
  congr 1
  unfold sumTo
  congr 1
  refine List.map_congr_left fun j hj => ?_
  have := List.mem_range.mp hj
  rw [renL_at a b (show n - 1 - j < n by omega)]
def qa (xs : List RT) (j : Nat) : Rat := match xs[j]? with
  | some x => qv x
  | none => 0
theorem qa_at {xs : List RT} {j : Nat} {x : RT} (h : xs[j]? = some x) : qa xs j = qv x := by
  unfold qa
  rw [h]
def getI (xs : List Int) (j : Nat) : Int := xs[j]?.getD 0
theorem getI_at {xs : List Int} {j : Nat} (h : j < xs.length) : xs[j]? = some (getI xs j) := by
  unfold getI
  rw [List.getElem?_eq_getElem h]
  rfl
theorem CMulA.of {n m : Nat} {a b : Int} (ha : Sm n a) (hb : Sm m b) (hn : 0 < n) (hm : 0 < m) (h : n + m ≤ 1000000) : CMulA a b := by
  unfold CMulA
  have := ha.log hn
  have := hb.log hm
  omega
theorem sum_sm {e : Nat} : ∀ {xs : List Int}, (∀ x ∈ xs, Sm e x) → xs.length ≤ 32 → Sm (e + 6) xs.sum := by
  have key : ∀ {xs : List Int}, (∀ x ∈ xs, Sm e x) → xs.sum.natAbs ≤ xs.length * 2 ^ e := by
    intro xs
    induction xs with
    | nil =>
      intro _
      simp
    | cons x r ih =>
      intro h
      have h1 := h x (List.mem_cons_self ..)
      have h2 := ih fun y hy => h y (List.mem_cons_of_mem _ hy)
      rw [List.sum_cons, List.length_cons, Nat.add_mul]
      unfold Sm at h1
      have := Int.natAbs_add_le x r.sum
      omega
  intro xs h hl
  have h1 := key h
  unfold Sm
  have h2 : xs.length * 2 ^ e ≤ 32 * 2 ^ e := Nat.mul_le_mul_right _ hl
  have h3 : 2 ^ (e + 6) = 64 * 2 ^ e := by rw [Nat.pow_add, Nat.mul_comm]
  have h4 : 0 < 2 ^ e := Nat.pow_pos (by decide)
  omega
/-- the sums as the program has them -/
structure SOk (a b : Nat → Rat) (c c2 : Int) (u i : Nat) (ss : List Int) : Prop where
  len : ss.length = i
  val : ∀ j, j < i → ((getI ss j : Int) : Rat) = (c2 : Rat) * (c : Rat) ^ j * renQ a b j
  sm : ∀ j, j < i → Sm ((2 * u + 8) * (j + 1)) (getI ss j)
def partI (tp ss : List Int) (c : Int) (i j : Nat) : Int := getI tp j * c ^ j * getI ss (i - 1 - j)
theorem sumTo_cast (f : Nat → Int) (n : Nat) : ((((List.range n).map f).sum : Int) : Rat) = sumTo n fun j => ((f j : Int) : Rat) := by
  unfold sumTo
  induction n with
  | zero => rfl
  | succ n ih =>
    rw [List.range_succ, List.map_append, List.map_append, List.sum_append, Rat.intCast_add, ih]
    simp only [List.map_cons, List.map_nil]
    rw [sum_snoc]
    congr 1
    simp
theorem sumTo_mul (k : Rat) (f : Nat → Rat) (n : Nat) : k * sumTo n f = sumTo n fun j => k * f j := by
  unfold sumTo
  induction n with
  | zero =>
    show k * 0 = 0
    grind
  | succ n ih =>
    rw [List.range_succ, List.map_append, List.map_append]
    simp only [List.map_cons, List.map_nil]
    rw [sum_snoc, sum_snoc, ← ih]
    grind
theorem sumTo_congr {n : Nat} {f g : Nat → Rat} (h : ∀ j, j < n → f j = g j) : sumTo n f = sumTo n g := by
  unfold sumTo
  congr 1
  exact List.map_congr_left fun j hj => h j (List.mem_range.mp hj)
theorem cast_pow (c : Int) : ∀ j : Nat, ((c ^ j : Int) : Rat) = (c : Rat) ^ j
  | 0 => by
    rw [Int.pow_zero, Rat.pow_zero]
    rfl
  | j + 1 => by rw [Int.pow_succ, Rat.pow_succ, Rat.intCast_mul, cast_pow c j]
theorem pow_plus (c : Rat) (m : Nat) : ∀ n : Nat, c ^ (m + n) = c ^ m * c ^ n
  | 0 => by
    rw [Rat.pow_zero, Nat.add_zero]
    grind
  | n + 1 => by
    rw [← Nat.add_assoc, Rat.pow_succ, Rat.pow_succ, pow_plus c m n]
    grind
theorem SOk.step {a b : Nat → Rat} {c c2 tt : Int} {u i : Nat} {ss tp : List Int} (h : SOk a b c c2 u i ss) (hc : (c : Rat) ≠ 0) (ht : ((tt : Int) : Rat) = (c2 : Rat) * b i) (ha : ∀ j, j < i → ((getI tp j : Int) : Rat) = (c : Rat) * a j)
    (su : 0 < u) (st : Sm u tt) (sc : Sm u c) (sp : ∀ j, j < i → Sm u (getI tp j)) (hi : i ≤ 32) : SOk a b c c2 u (i + 1) (ss ++ [tt * c ^ i + ((List.range i).map (partI tp ss c i)).sum]) := by
  have old : ∀ j, j < i → ∀ x, getI (ss ++ [x]) j = getI ss j := fun j hj x => by
    unfold getI
    rw [List.getElem?_append_left (by rw [h.len]; exact hj)]
  have new : ∀ x, getI (ss ++ [x]) i = x := fun x => by
    unfold getI
    rw [List.getElem?_append_right (by rw [h.len]; exact Nat.le_refl _), h.len, Nat.sub_self]
    rfl
  refine ⟨by rw [List.length_append, h.len]; rfl, fun j hj => ?_, fun j hj => ?_⟩
  · rcases (by omega : j < i ∨ j = i) with z | z
    · rw [old j z]
      exact h.val j z
    · subst z
      rw [new, Rat.intCast_add, Rat.intCast_mul, sumTo_cast, cast_pow, ht, renQ_is a b j]
      have e : (sumTo j fun k => ((partI tp ss c j k : Int) : Rat)) = (c2 : Rat) * (c : Rat) ^ j * sumTo j fun k => a k * renQ a b (j - 1 - k) := by
        rw [sumTo_mul]
        refine sumTo_congr fun k hk => ?_
        unfold partI
        rw [Rat.intCast_mul, Rat.intCast_mul, cast_pow, ha k hk, h.val (j - 1 - k) (by omega)]
        have e2 : (c : Rat) ^ j = (c : Rat) * (c : Rat) ^ k * (c : Rat) ^ (j - 1 - k) := by
          have : j = (k + (j - 1 - k)) + 1 := by omega
          conv => lhs; rw [this]
          rw [Rat.pow_succ, pow_plus]
          grind
        rw [e2]
        grind
      rw [e]
      grind
  · rcases (by omega : j < i ∨ j = i) with z | z
    · rw [old j z]
      exact h.sm j z
    · subst z
      rw [new]
      have hU : ∀ k, k < j → Sm (u + 1 + (2 * u + 8) * j) (partI tp ss c j k) := fun k hk => by
        unfold partI
        have h1 := ((sp k hk).mul (sm_pow sc su k)).mul (h.sm (j - 1 - k) (by omega))
        refine h1.mono ?_
        have e1 : j - 1 - k + 1 = j - k := by omega
        rw [e1]
        have e2 : (2 * u + 8) * j = (2 * u + 8) * (j - k) + (2 * u + 8) * k := by rw [← Nat.mul_add]; congr 1; omega
        rw [e2]
        have e3 : u * k ≤ (2 * u + 8) * k := Nat.mul_le_mul_right _ (by omega)
        omega
      have s1 : Sm (u + 1 + (2 * u + 8) * j + 6) ((List.range j).map (partI tp ss c j)).sum := by
        refine sum_sm (fun x hx => ?_) (by rw [List.length_map, List.length_range]; exact hi)
        obtain ⟨k, hk, rfl⟩ := List.mem_map.mp hx
        exact hU k (List.mem_range.mp hk)
      have s2 : Sm (u + 1 + (2 * u + 8) * j + 6) (tt * c ^ j) := by
        refine (st.mul (sm_pow sc su j)).mono ?_
        have e3 : u * j ≤ (2 * u + 8) * j := Nat.mul_le_mul_right _ (by omega)
        omega
      have s3 := s2.add s1
      refine s3.mono ?_
      rw [Nat.mul_add]
      omega

end Fp

set_option Elab.async false
set_option linter.all false
set_option maxRecDepth 100000
set_option maxHeartbeats 4000000
set_option exponentiation.threshold 10000
namespace Fp
open PySem PySem.Spec PyProof.Rows L2
/-! ### renewed -/
abbrev N_ren : List Str := ["chances", "told", "tops", "bottom", "told_tops", "told_bottom", "powers", "sums", "n", "told_top", "parts", "k", "total", "power"]
def powL (c : Int) (m : Nat) : List Int := (List.range m).map fun j => c ^ j
theorem powL_len {c : Int} {m : Nat} : (powL c m).length = m := by
  unfold powL
  rw [List.length_map, List.length_range]
theorem powL_at {c : Int} {m j : Nat} (h : j < m) : (powL c m)[j]? = some (c ^ j) := by
  unfold powL
  rw [List.getElem?_map, List.getElem?_range h]
  rfl
theorem powL_succ {c : Int} {m : Nat} : powL c (m + 1) = powL c m ++ [c ^ m] := by
  unfold powL
  rw [List.range_succ, List.map_append]
  rfl
theorem tops_len {c : Int} {xs : List RT} : (topsOn c xs).length = xs.length := by
  unfold topsOn
  rw [List.length_map]
theorem tops_get {c : Int} {xs : List RT} {j : Nat} {x : RT} (h : xs[j]? = some x) : getI (topsOn c xs) j = x.1 * (c / x.2) := by
  unfold getI topsOn
  rw [List.getElem?_map, h]
  rfl
theorem tops_val {c : Int} (hc : 0 < c) {xs : List RT} {j : Nat} (hj : j < xs.length) (h : ∀ x ∈ xs, 0 < x.2 ∧ x.2 ∣ c) : ((getI (topsOn c xs) j : Int) : Rat) = (c : Rat) * qa xs j := by
  have hg : xs[j]? = some xs[j] := List.getElem?_eq_getElem hj
  obtain ⟨h1, h2⟩ := h _ (List.getElem_mem hj)
  rw [tops_get hg, qa_at hg, qv_over h1 h2 hc]
  have := cast_ne (Int.ne_of_gt hc)
  grind
theorem tops_each {n d : Nat} {c D : Int} (hD : 0 < D) (hcD : c ∣ D) (sD : Sm d D) {xs : List RT} {j : Nat} (hj : j < xs.length) (h : ∀ x ∈ xs, Sm n x.1) : Sm (n + d) (getI (topsOn c xs) j) := by
  have hg : xs[j]? = some xs[j] := List.getElem?_eq_getElem hj
  rw [tops_get hg]
  have sc : Sm d c := dvd_small hcD hD sD
  have sq : Sm d (c / xs[j].2) := by
    unfold Sm at *
    have a : (c / xs[j].2).natAbs ≤ c.natAbs := Int.natAbs_ediv_le_natAbs ..
    omega
  exact (h _ (List.getElem_mem hj)).mul sq
theorem upd_int {H : Hp} {l : Addr} {xs : List Int} {x : Int} : upd H l (.lst (xs.map V.int ++ [.int x])) l = some (.lst ((xs ++ [x]).map V.int)) := by
  rw [upd_same, List.map_append]
  rfl
section
variable {P : Program} {w : World} {K : PySem.W.Frag} {mg : Str → Option Value} {base : Heap}
def spRen (K : PySem.W.Frag) : Sp := fun vs H Q _ => ∃ (p t : Addr) (chs tld : List RT) (n1 d1 n2 d2 : Nat) (D1 D2 : Int), vs = [.ref p, .ref t] ∧ LstAt K H p chs ∧ LstAt K H t tld ∧ Over1 n1 d1 D1 chs ∧ Over1 n2 d2 D2 tld ∧ n1 ≤ 2000 ∧ d1 ≤ 300 ∧ n2 ≤ 2000 ∧ d2 ≤ 300 ∧ tld.length ≤ 22 ∧ tld.length ≤ chs.length + 1 ∧
  ∀ z rs H', Same H H' → H' z = some (.lst (rs.map V.ref)) → RsAt K H' rs ((List.range tld.length).map fun i => rdq (renQ (qa chs) (qa tld) i)) → Q (.ref z) H'
end

end Fp

set_option Elab.async false
set_option linter.all false
set_option maxRecDepth 100000
set_option maxHeartbeats 4000000
set_option exponentiation.threshold 10000
namespace Fp
open PySem PySem.Spec PyProof.Rows L2
/-! ### chances of drawn lives stand over a small number -/
theorem ch_dvdW {row : List RT} {step x : RT} {n i most : Nat} {W : Int} (hW : ∀ y ∈ row, y.2 ∣ W) (hr : ∀ y ∈ row, SmR n y) (hs : Red step) (hx : Red x) (h : qv x = chR row step i) (hi : i < most) : x.2 ∣ W * step.2 ^ most := by
  match e : row[i]? with
  | some y =>
    have hy := List.mem_of_getElem? e
    have ex : x = y := qv_inj hx (hr y hy).1 (h.trans (chR_in e))
    rw [ex]
    exact Int.dvd_trans (hW y hy) (Int.dvd_mul_right ..)
  | none =>
    have hle : row.length ≤ i := List.getElem?_eq_none_iff.mp e
    match el : row.getLast? with
    | none =>
      have er : row = [] := List.getLast?_eq_none_iff.mp el
      rw [er, chR_nil] at h
      have ex : x = (0, 1) := qv_inj hx ⟨by decide, by decide⟩ (by rw [h, qv_nought])
      rw [ex]
      exact Int.one_dvd _
    | some l =>
      have hl : l ∈ row := List.mem_of_getLast? el
      have hl0 := (hr l hl).1
      rw [chR_out hle el] at h
      obtain ⟨j, ej, hj⟩ : ∃ j, i + 1 - row.length = j ∧ j ≤ most := ⟨_, rfl, by omega⟩
      rw [ej] at h
      have key : ∀ j : Nat, qv l * qv step ^ j = ((l.1 * step.1 ^ j : Int) : Rat) / ((l.2 * step.2 ^ j : Int) : Rat) := by
        intro j
        induction j with
        | zero =>
          rw [Rat.pow_zero, Int.pow_zero, Int.pow_zero, Int.mul_one, Int.mul_one]
          unfold qv
          grind
        | succ j ih =>
          have h1 := cast_ne (Int.ne_of_gt hs.1)
          have h2 := cast_ne (Int.ne_of_gt (Int.mul_pos hl0.1 (show (0 : Int) < step.2 ^ j from Int.pow_pos hs.1)))
          rw [Rat.pow_succ, ← Rat.mul_assoc, ih, Int.pow_succ, Int.pow_succ, ← Int.mul_assoc, ← Int.mul_assoc, Rat.intCast_mul (l.1 * step.1 ^ j), Rat.intCast_mul (l.2 * step.2 ^ j)]
          unfold qv
          grind
      rw [key j] at h
      obtain ⟨d1, _⟩ := red_small hx (Int.mul_pos hl0.1 (Int.pow_pos hs.1)) h
      refine Int.dvd_trans d1 ?_
      obtain ⟨u, hu⟩ := hW l hl
      refine ⟨u * step.2 ^ (most - j), ?_⟩
      rw [hu, show most = j + (most - j) by omega, Int.pow_add, Nat.add_sub_cancel_left]
      rw [Int.mul_assoc l.2 u, ← Int.mul_assoc u, Int.mul_comm u (step.2 ^ j), Int.mul_assoc (step.2 ^ j), ← Int.mul_assoc l.2]
/-- one small number under a whole row -/
structure WOk (W : Int) (row : List RT) : Prop where
  pos : 0 < W
  sm : Sm 14 W
  dvd : ∀ y ∈ row, y.2 ∣ W
theorem over_chW {row : List RT} {step : RT} {n most : Nat} {chs : List RT} {W : Int} (hW : WOk W row) (hr : ∀ y ∈ row, SmR n y) (hs : SmR 5 step) (hm : most ≤ 20) (h : IsCh row step n most chs) : Over1 (n + 100) 121 (W * step.2 ^ most) chs := by
  refine ⟨Int.mul_pos hW.pos (Int.pow_pos hs.1.1), ?_, fun x hx => ?_, by rw [h.len]; omega⟩
  · exact (hW.sm.mul (sm_pow hs.2.2 (by decide) most)).mono (by omega)
  · obtain ⟨i, hi⟩ := List.mem_iff_getElem?.mp hx
    have hi2 := (List.getElem?_eq_some_iff.mp hi).1
    rw [h.len] at hi2
    obtain ⟨s1, s2⟩ := h.ok i x hi
    exact ⟨s1.1.1, ch_dvdW hW.dvd hr hs.1 s1.1 s2 hi2, s1.2.1.mono (by omega)⟩
theorem BaseLife.w {row : List RT} {step : RT} (h : BaseLife row step) : ∃ W : Int, 0 < W ∧ Sm 10 W ∧ ∀ y ∈ row, y.2 ∣ W := by
  rcases h with ⟨ws, extra, m, rfl⟩ | ⟨rfl, rfl⟩
  · obtain ⟨w0, w1⟩ := m.whole
    refine ⟨wholeOf ws extra step, w0, by unfold Sm; omega, fun y hy => ?_⟩
    unfold rowOf at hy
    obtain ⟨z, hz, rfl⟩ := List.mem_map.mp hy
    exact (red_small (low2_red (Int.ne_of_gt w0)) w0 (qv_low2 w0)).1
  · exact ⟨1, by decide, by unfold Sm; decide, fun y hy => by simp at hy⟩
theorem AnyLife.w {row : List RT} {step : RT} (h : AnyLife row step) : ∃ W : Int, WOk W row := by
  rcases h with h | ⟨row0, l, h, h5, hs, hl, rfl⟩ | ⟨row0, h, h5, rfl, hs⟩
  · obtain ⟨W, w0, w1, w2⟩ := h.w
    exact ⟨W, w0, w1.mono (by decide), w2⟩
  · obtain ⟨W, w0, w1, w2⟩ := h.w
    obtain ⟨s1, s2, s3, s4⟩ := h.sm
    refine ⟨W * step.2, Int.mul_pos w0 s2.1.1, (w1.mul s2.2.2).mono (by decide), fun y hy => ?_⟩
    rcases List.mem_append.mp hy with z | z
    · exact Int.dvd_trans (w2 y z) (Int.dvd_mul_right ..)
    · rw [List.mem_singleton.mp z]
      have hm := List.mem_of_getElem? hl
      have hp := Int.mul_pos (s1 l hm).1.1.1 s2.1.1
      have d := (red_small (x := rT l step) (low2_red (Int.ne_of_gt hp)) hp (qv_low2 hp)).1
      refine Int.dvd_trans d ?_
      obtain ⟨u, hu⟩ := w2 l hm
      exact ⟨u, by rw [hu, Int.mul_assoc, Int.mul_comm u, ← Int.mul_assoc]⟩
  · obtain ⟨W, w0, w1, w2⟩ := h.w
    refine ⟨W, w0, w1.mono (by decide), fun y hy => ?_⟩
    rcases List.mem_append.mp hy with z | z
    · exact w2 y z
    · rw [List.mem_singleton.mp z]
      exact Int.one_dvd _
theorem renQ_congr {a a' b b' : Nat → Rat} : ∀ {m n : Nat}, n ≤ m → (∀ j, j < m → a j = a' j) → (∀ j, j ≤ m → b j = b' j) → renQ a b n = renQ a' b' n := by
  intro m n
  induction n using Nat.strongRecOn with
  | ind n ih =>
    intro hn h1 h2
    rw [renQ_is, renQ_is, h2 n hn]
    congr 1
    refine sumTo_congr fun j hj => ?_
    rw [h1 j (by omega), ih (n - 1 - j) (by omega) (by omega) h1 h2]
theorem qa_ch {row : List RT} {step : RT} {n m j : Nat} {chs : List RT} (h : IsCh row step n m chs) (hj : j < m) : qa chs j = chR row step j := by
  have hj2 : j < chs.length := by rw [h.len]; exact hj
  have hg : chs[j]? = some chs[j] := List.getElem?_eq_getElem hj2
  rw [qa_at hg]
  exact (h.ok j _ hg).2

end Fp

set_option Elab.async false
set_option linter.all false
set_option maxRecDepth 100000
set_option maxHeartbeats 4000000
set_option exponentiation.threshold 10000
namespace Fp
open PySem PySem.Spec PyProof.Rows L2
/-! ### puts -/
/-- one at the beginning, nothing told later -/
def oneAt (n : Nat) : Rat := if n = 0 then 1 else 0
def putQ (row : List RT) (step : RT) (n : Nat) : Rat := renQ (chR row step) oneAt n
theorem qa_one {m j : Nat} (h : j ≤ m) : qa ((1, 1) :: List.replicate m ((0 : Int), (1 : Int))) j = oneAt j := by
  cases j with
  | zero =>
    rw [qa_at (x := (1, 1)) rfl, qv_one]
    rfl
  | succ j =>
    rw [qa_at (x := (0, 1)) (by rw [List.getElem?_cons_succ, List.getElem?_replicate]; exact if_pos (by omega)), qv_nought]
    rfl
section
variable {P : Program} {w : World} {K : PySem.W.Frag} {mg : Str → Option Value} {base : Heap} {aN aO : Addr}
def spPuts (K : PySem.W.Frag) : Sp := fun vs H Q _ => ∃ (p : Addr) (row : List RT) (step : RT) (n most : Nat) (W : Int), vs = [.ref p, .int (most : Int)] ∧ LifeAt K H p row step ∧ LifeOk n row step ∧ WOk W row ∧ most ≤ 20 ∧
  ∀ z H', Same H H' → RowAt K H' z ((List.range (most + 1)).map fun i => rdq (putQ row step i)) → Q (.ref z) H'
end

end Fp

set_option Elab.async false
set_option linter.all false
set_option maxRecDepth 100000
set_option maxHeartbeats 4000000
set_option exponentiation.threshold 10000
namespace Fp
open PySem PySem.Spec PyProof.Rows L2
/-! ### put by how many parts there are -/
def pQ (a : Nat → Rat) : Nat → Nat → Rat
  | 0, m => oneAt m
  | j + 1, m => sumTo m fun k => a k * pQ a j (m - 1 - k)
theorem sumTo_succ (n : Nat) (f : Nat → Rat) : sumTo (n + 1) f = sumTo n f + f n := by
  unfold sumTo
  rw [List.range_succ, List.map_append]
  simp only [List.map_cons, List.map_nil]
  rw [sum_snoc]
theorem sumTo_zero (f : Nat → Rat) : sumTo 0 f = 0 := rfl
theorem sumTo_head (n : Nat) (f : Nat → Rat) : sumTo (n + 1) f = f 0 + sumTo n fun j => f (j + 1) := by
  induction n with
  | zero =>
    rw [sumTo_succ, sumTo_zero, sumTo_zero]
    grind
  | succ n ih =>
    rw [sumTo_succ, ih, sumTo_succ]
    grind
theorem sumTo_add (n : Nat) (f g : Nat → Rat) : sumTo n (fun j => f j + g j) = sumTo n f + sumTo n g := by
  induction n with
  | zero =>
    rw [sumTo_zero, sumTo_zero, sumTo_zero]
    grind
  | succ n ih =>
    rw [sumTo_succ, sumTo_succ, sumTo_succ, ih]
    grind
theorem sumTo_nought (n : Nat) : sumTo n (fun _ => 0) = 0 := by
  induction n with
  | zero => rfl
  | succ n ih =>
    rw [sumTo_succ, ih]
    grind
theorem sumTo_swap (n m : Nat) (f : Nat → Nat → Rat) : sumTo n (fun j => sumTo m fun k => f j k) = sumTo m fun k => sumTo n fun j => f j k := by
  induction n with
  | zero =>
    rw [sumTo_zero]
    exact (sumTo_nought m).symm
  | succ n ih =>
    rw [sumTo_succ, ih, ← sumTo_add]
    exact sumTo_congr fun k _ => (sumTo_succ n fun j => f j k).symm
/-- all of them added: what is put -/
theorem put_parts (a : Nat → Rat) : ∀ n N : Nat, n ≤ N → sumTo (N + 1) (fun j => pQ a j n) = renQ a oneAt n := by
  intro n
  induction n using Nat.strongRecOn with
  | ind n ih =>
    intro N hN
    rw [renQ_is, sumTo_head]
    show oneAt n + sumTo N (fun j => sumTo n fun k => a k * pQ a j (n - 1 - k)) = _
    congr 1
    rw [sumTo_swap]
    refine sumTo_congr fun k hk => ?_
    rw [← sumTo_mul]
    have hN2 : N = (N - 1) + 1 := by omega
    rw [hN2, ih (n - 1 - k) (by omega) (N - 1) (by omega)]
/-- with more parts than beats there is nothing -/
theorem pQ_far (a : Nat → Rat) : ∀ {j m : Nat}, m < j → pQ a j m = 0
  | 0, m, h => absurd h (Nat.not_lt_zero _)
  | j + 1, m, h => by
    show sumTo m (fun k => a k * pQ a j (m - 1 - k)) = 0
    rw [sumTo_congr (g := fun _ => 0) fun k hk => ?_]
    · exact sumTo_nought m
    · rw [pQ_far a (show m - 1 - k < j by omega)]
      grind
theorem sumTo_le {n : Nat} {f g : Nat → Rat} (h : ∀ j, j < n → f j ≤ g j) : sumTo n f ≤ sumTo n g := by
  induction n with
  | zero => exact Rat.le_refl
  | succ n ih =>
    rw [sumTo_succ, sumTo_succ]
    have h1 := ih fun j hj => h j (by omega)
    have h2 := h n (by omega)
    grind
theorem sumTo_rev (n : Nat) (f : Nat → Rat) : sumTo n (fun k => f (n - 1 - k)) = sumTo n f := by
  induction n with
  | zero => rfl
  | succ n ih =>
    rw [sumTo_head, sumTo_succ]
    have e : (sumTo n fun j => f (n + 1 - 1 - (j + 1))) = sumTo n fun k => f (n - 1 - k) := sumTo_congr fun k hk => by
      congr 1
      omega
    rw [e, ih]
    have : n + 1 - 1 - 0 = n := by omega
    rw [this]
    grind
theorem two_sum (n : Nat) : sumTo n (fun m => (2 : Rat) ^ m) = 2 ^ n - 1 := by
  induction n with
  | zero =>
    rw [sumTo_zero, Rat.pow_zero]
    grind
  | succ n ih =>
    rw [sumTo_succ, ih, Rat.pow_succ]
    grind
/-- chances from nought to one: from nought to two powers -/
theorem pQ_bound {a : Nat → Rat} {M : Nat} (h0 : ∀ k, k < M → 0 ≤ a k) (h1 : ∀ k, k < M → a k ≤ 1) : ∀ j m, m ≤ M → 0 ≤ pQ a j m ∧ pQ a j m ≤ 2 ^ m := by
  have pp : ∀ m : Nat, (0 : Rat) < 2 ^ m := fun m => Rat.pow_pos (by decide)
  intro j
  induction j with
  | zero =>
    intro m _
    show 0 ≤ oneAt m ∧ oneAt m ≤ 2 ^ m
    unfold oneAt
    split
    · rename_i e
      subst e
      rw [Rat.pow_zero]
      exact ⟨by decide, Rat.le_refl⟩
    · exact ⟨Rat.le_refl, Rat.le_of_lt (pp m)⟩
  | succ j ih =>
    intro m hm
    show 0 ≤ sumTo m (fun k => a k * pQ a j (m - 1 - k)) ∧ sumTo m (fun k => a k * pQ a j (m - 1 - k)) ≤ 2 ^ m
    refine ⟨?_, ?_⟩
    · have := sumTo_le (n := m) (f := fun _ => 0) (g := fun k => a k * pQ a j (m - 1 - k)) fun k hk => Rat.mul_nonneg (h0 k (by omega)) (ih (m - 1 - k) (by omega)).1
      rw [sumTo_nought] at this
      exact this
    · have h2 : sumTo m (fun k => a k * pQ a j (m - 1 - k)) ≤ sumTo m fun k => (2 : Rat) ^ (m - 1 - k) := sumTo_le fun k hk => by
        obtain ⟨i1, i2⟩ := ih (m - 1 - k) (by omega)
        have h3 := Rat.mul_le_mul_of_nonneg_right (h1 k (by omega)) i1
        grind
      rw [sumTo_rev m fun k => (2 : Rat) ^ k, two_sum] at h2
      grind
theorem tri_flip (n : Nat) (f : Nat → Nat → Rat) : (sumTo n fun m => sumTo (m + 1) (f m)) = sumTo n fun j => sumTo (n - j) fun k => f (j + k) j := by
  induction n with
  | zero => rfl
  | succ n ih =>
    rw [sumTo_succ, ih, sumTo_succ (n := n) (f := fun j => sumTo (n + 1 - j) fun k => f (j + k) j)]
    have e : (sumTo n fun j => sumTo (n + 1 - j) fun k => f (j + k) j) = sumTo n fun j => (sumTo (n - j) fun k => f (j + k) j) + f n j := by
      refine sumTo_congr fun j hj => ?_
      rw [show n + 1 - j = (n - j) + 1 by omega, sumTo_succ, show j + (n - j) = n by omega]
    rw [e, sumTo_add, sumTo_succ, show n + 1 - n = 0 + 1 by omega, sumTo_succ, sumTo_zero]
    rw [Nat.add_zero]
    grind

end Fp

set_option Elab.async false
set_option linter.all false
set_option maxRecDepth 100000
set_option maxHeartbeats 4000000
set_option exponentiation.threshold 10000
namespace Fp
open PySem PySem.Spec PyProof.Rows L2
/-! ### lists of ratios told by their values; values over powers of one number -/
def mkL (n : Nat) (g : Nat → Rat) : List RT := (List.range n).map fun m => rdq (g m)
theorem mkL_len {n : Nat} {g : Nat → Rat} : (mkL n g).length = n := by
  unfold mkL
  rw [List.length_map, List.length_range]
theorem mkL_at {n m : Nat} {g : Nat → Rat} (h : m < n) : (mkL n g)[m]? = some (rdq (g m)) := by
  unfold mkL
  rw [List.getElem?_map, List.getElem?_range h]
  rfl
theorem mkL_congr {n : Nat} {g g' : Nat → Rat} (h : ∀ m, m < n → g m = g' m) : mkL n g = mkL n g' := by
  unfold mkL
  refine List.map_congr_left fun m hm => ?_
  rw [h m (List.mem_range.mp hm)]
theorem mkL_set {n i : Nat} {g : Nat → Rat} {v : Rat} : (mkL n g).set i (rdq v) = mkL n fun m => if m = i then v else g m := by
  refine List.ext_getElem (by rw [List.length_set, mkL_len, mkL_len]) fun m h1 h2 => ?_
  rw [List.getElem_set]
  have hm : m < n := by
    rw [mkL_len] at h2
    exact h2
  have e : ∀ (f : Nat → Rat) (h : m < (mkL n f).length), (mkL n f)[m] = rdq (f m) := fun f h => by
    have := mkL_at (g := f) hm
    rw [List.getElem?_eq_getElem h] at this
    exact Option.some.inj this
  rw [e (fun m => if m = i then v else g m)]
  by_cases z : i = m
  · rw [if_pos z, if_pos z.symm]
  · rw [if_neg z, if_neg fun y => z y.symm, e]
theorem RsAt.set {K : PySem.W.Frag} {H : Hp} {z : Addr} {x : RT} (hz : RAt K H z x) : ∀ {rs : List Addr} {xs : List RT} (i : Nat), RsAt K H rs xs → RsAt K H (rs.set i z) (xs.set i x)
  | _, _, _, .nil => .nil
  | _, _, 0, .cons _ r => .cons hz r
  | _, _, i + 1, .cons h r => .cons h (RsAt.set hz i r)
/-- a whole number over the e-th power of D -/
def Den (D : Int) (e : Nat) (q : Rat) : Prop := ∃ T : Int, q = (T : Rat) / ((D ^ e : Int) : Rat)
section
variable {D : Int} {e f : Nat} {p q : Rat}
theorem Den.up (hD : 0 < D) (h : Den D e q) : Den D (e + 1) q := by
  obtain ⟨T, rfl⟩ := h
  refine ⟨T * D, ?_⟩
  have h1 := cast_ne (Int.ne_of_gt hD)
  have h2 := cast_ne (Int.ne_of_gt (show (0 : Int) < D ^ e from Int.pow_pos hD))
  rw [Int.pow_succ, Rat.intCast_mul, Rat.intCast_mul]
  grind
theorem Den.mono (hD : 0 < D) (h : Den D e q) : ∀ {f : Nat}, e ≤ f → Den D f q := by
  intro f hf
  induction hf with
  | refl => exact h
  | step _ ih => exact ih.up hD
theorem Den.add (hD : 0 < D) (hp : Den D e p) (hq : Den D e q) : Den D e (p + q) := by
  obtain ⟨T, rfl⟩ := hp
  obtain ⟨S, rfl⟩ := hq
  refine ⟨T + S, ?_⟩
  have h2 := cast_ne (Int.ne_of_gt (show (0 : Int) < D ^ e from Int.pow_pos hD))
  rw [Rat.intCast_add]
  grind
theorem Den.mul (hD : 0 < D) (hp : Den D e p) (hq : Den D f q) : Den D (e + f) (p * q) := by
  obtain ⟨T, rfl⟩ := hp
  obtain ⟨S, rfl⟩ := hq
  refine ⟨T * S, ?_⟩
  have h1 := cast_ne (Int.ne_of_gt (show (0 : Int) < D ^ e from Int.pow_pos hD))
  have h2 := cast_ne (Int.ne_of_gt (show (0 : Int) < D ^ f from Int.pow_pos hD))
  rw [Int.pow_add, Rat.intCast_mul, Rat.intCast_mul]
  grind
theorem Den.zero : Den D e 0 := ⟨0, by
  show (0 : Rat) = ((0 : Int) : Rat) / _
  rw [show ((0 : Int) : Rat) = 0 from rfl]
  grind⟩
theorem Den.sum (hD : 0 < D) {n : Nat} {g : Nat → Rat} (h : ∀ j, j < n → Den D e (g j)) : Den D e (sumTo n g) := by
  induction n with
  | zero => exact Den.zero
  | succ n ih =>
    rw [sumTo_succ]
    exact (ih fun j hj => h j (by omega)).add hD (h n (by omega))
theorem Den.of {x : RT} (hD : 0 < D) (hx : 0 < x.2) (h : x.2 ∣ D) : Den D 1 (qv x) := by
  refine ⟨x.1 * (D / x.2), ?_⟩
  rw [Int.pow_succ, Int.pow_zero, Int.one_mul]
  exact qv_over hx h hD
/-- what such a value's lowest form is like -/
theorem Den.red (hD : 0 < D) (h : Den D e q) {d k : Nat} (sD : Sm d D) (hd : 0 < d) (h0 : 0 ≤ q) (h1 : q ≤ 2 ^ k) : (rdq q).2 ∣ D ^ e ∧ Sm (d * e + 1 + k + 1) (rdq q).1 ∧ Sm (d * e + 1) (rdq q).2 := by
  obtain ⟨T, hT⟩ := h
  have hP : (0 : Int) < D ^ e := Int.pow_pos hD
  have hc := cast_ne (Int.ne_of_gt hP)
  obtain ⟨r1, r2⟩ := red_small (rdq_red q) hP (by rw [qv_rdq]; exact hT)
  have sP : Sm (d * e + 1) (D ^ e) := sm_pow sD hd e
  refine ⟨r1, ?_, dvd_small r1 hP sP⟩
  have hcp : (0 : Rat) < ((D ^ e : Int) : Rat) := Rat.intCast_pos.mpr hP
  have e1 : (T : Rat) = q * ((D ^ e : Int) : Rat) := by
    rw [hT]
    grind
  have t0 : 0 ≤ T := by
    have := Rat.mul_nonneg h0 (Rat.le_of_lt hcp)
    rw [← e1] at this
    exact Rat.intCast_nonneg.mp this
  have t1 : T ≤ 2 ^ k * D ^ e := by
    have := Rat.mul_le_mul_of_nonneg_right h1 (Rat.le_of_lt hcp)
    rw [← e1] at this
    have e2 : (2 : Rat) ^ k * ((D ^ e : Int) : Rat) = ((2 ^ k * D ^ e : Int) : Rat) := by
      rw [Rat.intCast_mul, cast_pow 2 k]
      rfl
    rw [e2] at this
    exact Rat.intCast_le_intCast.mp this
  unfold Sm at *
  have t2 : T.natAbs ≤ 2 ^ k * (D ^ e).natAbs := by
    have : (2 ^ k * D ^ e : Int).natAbs = 2 ^ k * (D ^ e).natAbs := by
      rw [Int.natAbs_mul, Int.natAbs_pow]
      rfl
    omega
  have t3 : 2 ^ k * (D ^ e).natAbs ≤ 2 ^ k * 2 ^ (d * e + 1) := Nat.mul_le_mul_left _ (Nat.le_of_lt sP)
  have t4 : 2 ^ (d * e + 1 + k + 1) = 2 * (2 ^ k * 2 ^ (d * e + 1)) := by
    rw [Nat.pow_succ, Nat.pow_add, Nat.mul_comm, Nat.mul_comm (2 ^ (d * e + 1))]
  have t5 : 0 < 2 ^ k * 2 ^ (d * e + 1) := Nat.mul_pos (Nat.pow_pos (by decide)) (Nat.pow_pos (by decide))
  omega
end
/-- chances from nought to one, each over D -/
structure Ch01 (D : Int) (a : Nat → Rat) (M : Nat) : Prop where
  pos : 0 < D
  sm : Sm 60 D
  ge : ∀ k, k < M → 0 ≤ a k
  le : ∀ k, k < M → a k ≤ 1
  den : ∀ k, k < M → Den D 1 (a k)
theorem Ch01.pq {D : Int} {a : Nat → Rat} {M : Nat} (h : Ch01 D a M) : ∀ j m, m ≤ M → Den D j (pQ a j m) := by
  intro j
  induction j with
  | zero =>
    intro m _
    show Den D 0 (oneAt m)
    unfold oneAt
    split
    · exact ⟨1, by
        rw [Int.pow_zero]
        grind⟩
    · exact Den.zero
  | succ j ih =>
    intro m hm
    refine Den.sum h.pos fun k hk => ?_
    rw [Nat.add_comm]
    exact (h.den k (by omega)).mul h.pos (ih (m - 1 - k) (by omega))

end Fp

set_option Elab.async false
set_option linter.all false
set_option maxRecDepth 100000
set_option maxHeartbeats 4000000
set_option exponentiation.threshold 10000
namespace Fp
open PySem PySem.Spec PyProof.Rows L2
/-! ### the law's own: by how many parts there are -/
abbrev N_bp : List Str := ["_law_life_here", "_law_most_here", "_law_chances", "_law_found", "_law_parts", "_law_here", "_law_more", "_law_n", "_law_k"]
/-- what n parts before and one more give at m -/
def fM (a : Nat → Rat) (j m n : Nat) : Rat := pQ a j n * a (m - 1 - n)
theorem fM_sum (a : Nat → Rat) (j m : Nat) : sumTo m (fM a j m) = pQ a (j + 1) m := by
  show _ = sumTo m fun k => a k * pQ a j (m - 1 - k)
  rw [← sumTo_rev m fun k => a k * pQ a j (m - 1 - k)]
  refine sumTo_congr fun k hk => ?_
  unfold fM
  rw [show m - 1 - (m - 1 - k) = k by omega]
  grind
/-- n of them taken, and of the next one those to n + kk -/
def vM (a : Nat → Rat) (j n kk m : Nat) : Rat := sumTo (min n m) (fM a j m) + if n < m ∧ m ≤ n + kk then fM a j m n else 0
theorem vM_zero (a : Nat → Rat) (j n m : Nat) : vM a j n 0 m = sumTo (min n m) (fM a j m) := by
  unfold vM
  rw [if_neg (by omega)]
  grind
theorem vM_full (a : Nat → Rat) {j n kk m : Nat} (h : m ≤ n + kk) : vM a j n kk m = sumTo (min (n + 1) m) (fM a j m) := by
  unfold vM
  rcases (by omega : n < m ∨ m ≤ n) with z | z
  · rw [if_pos ⟨z, h⟩, Nat.min_eq_left (by omega), Nat.min_eq_left (by omega), sumTo_succ]
  · rw [if_neg (by omega), Nat.min_eq_right z, Nat.min_eq_right (by omega)]
    grind
theorem vM_step (a : Nat → Rat) {j n kk m : Nat} : vM a j n (kk + 1) m = if m = n + (kk + 1) then vM a j n kk m + fM a j m n else vM a j n kk m := by
  unfold vM
  by_cases z : m = n + (kk + 1)
  · rw [if_pos z, if_pos (by omega), if_neg (by omega)]
    grind
  · rw [if_neg z]
    congr 1
    by_cases y : n < m ∧ m ≤ n + kk
    · rw [if_pos y, if_pos (by omega)]
    · rw [if_neg y, if_neg (by omega)]
section
variable {D : Int} {a : Nat → Rat} {M j m n : Nat}
theorem Ch01.f_ok (h : Ch01 D a M) (hm : m ≤ M) (hn : n < m) : 0 ≤ fM a j m n ∧ fM a j m n ≤ 2 ^ n ∧ Den D (j + 1) (fM a j m n) := by
  obtain ⟨b1, b2⟩ := pQ_bound h.ge h.le j n (by omega)
  refine ⟨Rat.mul_nonneg b1 (h.ge _ (by omega)), ?_, (h.pq j n (by omega)).mul h.pos (h.den _ (by omega))⟩
  have := Rat.mul_le_mul_of_nonneg_left (h.le (m - 1 - n) (by omega)) b1
  unfold fM
  grind
theorem pow2_le {i k : Nat} (h : i ≤ k) : (2 : Rat) ^ i ≤ 2 ^ k := by
  have pp : ∀ m : Nat, (0 : Rat) < 2 ^ m := fun m => Rat.pow_pos (by decide)
  induction h with
  | refl => exact Rat.le_refl
  | step _ ih =>
    rename_i m _
    rw [Rat.pow_succ]
    have := pp m
    grind
theorem Ch01.s_ok (h : Ch01 D a M) (hm : m ≤ M) (hn : n ≤ m) : 0 ≤ sumTo n (fM a j m) ∧ sumTo n (fM a j m) ≤ 2 ^ m ∧ Den D (j + 1) (sumTo n (fM a j m)) := by
  refine ⟨?_, ?_, Den.sum h.pos fun k hk => (h.f_ok hm (by omega)).2.2⟩
  · have := sumTo_le (n := n) (f := fun _ => 0) (g := fM a j m) fun k hk => (h.f_ok hm (by omega)).1
    rw [sumTo_nought] at this
    exact this
  · have h1 := sumTo_le (n := n) (f := fM a j m) (g := fun k => (2 : Rat) ^ k) fun k hk => (h.f_ok hm (by omega)).2.1
    rw [two_sum] at h1
    have h2 := pow2_le hn
    grind
theorem Ch01.red (h : Ch01 D a M) {q : Rat} {e k : Nat} (hd : Den D e q) (h0 : 0 ≤ q) (h1 : q ≤ 2 ^ k) (he : e ≤ 21) (hk : k ≤ 21) : (rdq q).2 ∣ D ^ e ∧ Sm 1400 (rdq q).1 ∧ Sm 1400 (rdq q).2 := by
  obtain ⟨r1, r2, r3⟩ := hd.red h.pos h.sm (by decide) h0 h1
  have : 60 * e ≤ 60 * 21 := Nat.mul_le_mul_left _ he
  exact ⟨r1, r2.mono (by omega), r3.mono (by omega)⟩
end

end Fp

set_option Elab.async false
set_option linter.all false
set_option maxRecDepth 100000
set_option maxHeartbeats 4000000
set_option exponentiation.threshold 10000
namespace Fp
open PySem PySem.Spec PyProof.Rows L2
section
variable {P : Program} {w : World} {K : PySem.W.Frag} {mg : Str → Option Value} {base : Heap}
/-- a list of ratios that may be changed -/
def LsM (K : PySem.W.Frag) (H : Hp) (p : Addr) (xs : List RT) : Prop := ∃ rs : List Addr, H p = some (.lst (rs.map V.ref)) ∧ RsAt K H rs xs
theorem LsM.same {H H' : Hp} {p : Addr} {xs : List RT} (h : LsM K H p xs) (e : Same H H') : LsM K H' p xs := by
  obtain ⟨rs, h1, h2⟩ := h
  exact ⟨rs, e _ _ h1, h2.tk (Tk.same e)⟩
theorem LsM.at {H : Hp} {p : Addr} {n m : Nat} {g : Nat → Rat} {k : Int} {Q : VK} (h : LsM K H p (mkL n g)) (hk : k = (m : Int)) (hm : m < n) (q : ∀ r, RAt K H r (rdq (g m)) → Q (.ref r) H) : rIxL K (.ref p) (.int k) H Q := by
  obtain ⟨rs, h1, h2⟩ := h
  obtain ⟨r, e1, e2⟩ := h2.get (mkL_at hm)
  have g2 : (rs.map V.ref)[m]? = some (.ref r) := by
    rw [List.getElem?_map, e1]
    rfl
  exact ⟨p, _, _, _, rfl, rfl, SqL.of h1, at_of hk g2, q r e2⟩
theorem rdq_zero {q : Rat} : rdq q = (0, 1) ↔ q = 0 := by
  constructor
  · intro h
    have := congrArg qv h
    rw [qv_rdq, qv_nought] at this
    exact this
  · intro h
    rw [h]
    exact (is_rdq ⟨by decide, by decide⟩ qv_nought).symm
def spBp (K : PySem.W.Frag) : Sp := fun vs H Q _ => ∃ (p : Addr) (row : List RT) (step : RT) (n most : Nat) (D : Int), vs = [.ref p, .int (most : Int)] ∧ LifeAt K H p row step ∧ LifeOk n row step ∧ (row = [] → step = (0, 1)) ∧ Ch01 D (chR row step) 20 ∧ most ≤ 20 ∧
  ∀ (z : Addr) (fs : List Addr) (H' : Hp), Same H H' → H' z = some (.lst (fs.map V.ref)) → fs.length = most + 1 → (∀ j f, fs[j]? = some f → LsM K H' f (mkL (most + 1) (pQ (chR row step) j))) → Q (.ref z) H'
end

end Fp

set_option Elab.async false
set_option linter.all false
set_option maxRecDepth 100000
set_option maxHeartbeats 4000000
set_option exponentiation.threshold 10000
namespace Fp
open PySem PySem.Spec PyProof.Rows L2
theorem AnyLife.ok {row : List RT} {step : RT} (h : AnyLife row step) : LifeOk 20 row step ∧ row.length ≤ 7 ∧ (row = [] → step = (0, 1)) := by
  have nought : SmR 20 (0, 1) := ⟨⟨by decide, by decide⟩, by unfold Sm; decide, by unfold Sm; decide⟩
  rcases h with h | ⟨row0, l, h, h5, hs, hl, rfl⟩ | ⟨row0, h, h5, rfl, hs⟩
  · obtain ⟨s1, s2, s3, s4⟩ := h.sm
    have := h.len
    refine ⟨⟨fun x hx => (s1 x hx).1.mono (by decide), ⟨s2.mono (by decide), s3, s4⟩, by omega, by decide, by decide⟩, by omega, fun z => ?_⟩
    rcases Classical.em (step = (0, 1)) with y | y
    · exact y
    · exact absurd z (h.ne y)
  · obtain ⟨s1, s2, s3, s4⟩ := h.sm
    have hlen : (row0 ++ [rT l step]).length ≤ 6 := by
      rw [List.length_append, List.length_singleton]
      omega
    refine ⟨⟨fun x hx => ?_, ⟨s2.mono (by decide), s3, s4⟩, by omega, by decide, by decide⟩, by omega, fun z => ?_⟩
    · rcases List.mem_append.mp hx with z | z
      · exact (s1 x z).1.mono (by decide)
      · rw [List.mem_singleton.mp z]
        exact (rT_sm (s1 l (List.mem_of_getElem? hl)).1 s2).mono (by decide)
    · have := congrArg List.length z
      simp at this
  · obtain ⟨s1, s2, s3, s4⟩ := h.sm
    have hlen : (row0 ++ [((0 : Int), (1 : Int))]).length ≤ 6 := by
      rw [List.length_append, List.length_singleton]
      omega
    refine ⟨⟨fun x hx => ?_, ?_, by omega, by decide, by decide⟩, by omega, fun z => ?_⟩
    · rcases List.mem_append.mp hx with z | z
      · exact (s1 x z).1.mono (by decide)
      · rw [List.mem_singleton.mp z]
        exact nought
    · rcases hs with rfl | rfl
      · exact ⟨⟨⟨by decide, by decide⟩, by unfold Sm; decide, by unfold Sm; decide⟩, by decide, by decide⟩
      · exact ⟨⟨⟨by decide, by decide⟩, by unfold Sm; decide, by unfold Sm; decide⟩, by decide, by decide⟩
    · have := congrArg List.length z
      simp at this

end Fp

set_option Elab.async false
set_option linter.all false
set_option maxRecDepth 100000
set_option maxHeartbeats 4000000
set_option exponentiation.threshold 10000
namespace Fp
open PySem PySem.Spec PyProof.Rows L2
/-! ### a life cut at a beat -/
theorem ch_ex {row : List RT} {step : RT} {n : Nat} (L : LifeOk n row step) : ∀ i, ∃ x, SmR (n + 5 * i) x ∧ qv x = chR row step i := by
  intro i
  induction i with
  | zero =>
    rcases Classical.em (0 < row.length) with hi | hi
    · exact ⟨row[0], (L.sm _ (List.getElem_mem hi)).mono (by omega), (chR_in (List.getElem?_eq_getElem hi)).symm⟩
    · have er : row = [] := List.length_eq_zero_iff.mp (by omega)
      subst er
      exact ⟨(0, 1), SmR.mono (n := 1) ⟨⟨by decide, by decide⟩, by unfold Sm; decide, by unfold Sm; decide⟩ (by have := L.n1; omega), by rw [chR_nil, qv_nought]⟩
  | succ j ih =>
    rcases Classical.em (j + 1 < row.length) with hi | hi
    · exact ⟨row[j + 1], (L.sm _ (List.getElem_mem hi)).mono (by omega), (chR_in (List.getElem?_eq_getElem hi)).symm⟩
    · rcases Classical.em (row = []) with er | er
      · subst er
        exact ⟨(0, 1), SmR.mono (n := 1) ⟨⟨by decide, by decide⟩, by unfold Sm; decide, by unfold Sm; decide⟩ (by have := L.n1; omega), by rw [chR_nil, qv_nought]⟩
      · obtain ⟨x, h1, h2⟩ := ih
        refine ⟨rT x step, (rT_sm h1 L.st.1).mono (by omega), ?_⟩
        rw [(qv_rT h1.1 L.st.1.1).2, h2, chR_next (by omega) er]
def chsR (row : List RT) (step : RT) (m : Nat) : List RT := (List.range m).map fun k => rdq (chR row step k)
def cutR (row : List RT) (step : RT) (m : Nat) : List RT := chsR row step m ++ [rdq (1 - sumCh row step m)]
theorem chsR_at {row : List RT} {step : RT} {m i : Nat} {x : RT} (h : (chsR row step m)[i]? = some x) : i < m ∧ x = rdq (chR row step i) := by
  unfold chsR at h
  rw [List.getElem?_map] at h
  rcases Classical.em (i < m) with z | z
  · rw [List.getElem?_range z] at h
    exact ⟨z, (Option.some.inj h).symm⟩
  · rw [List.getElem?_eq_none (by rw [List.length_range]; omega)] at h
    cases h
theorem chsR_len {row : List RT} {step : RT} {m : Nat} : (chsR row step m).length = m := by
  unfold chsR
  rw [List.length_map, List.length_range]
theorem IsCh.is {row : List RT} {step : RT} {n m : Nat} {chs : List RT} (h : IsCh row step n m chs) : chs = chsR row step m := by
  refine List.ext_getElem (by rw [h.len, chsR_len]) fun i h1 h2 => ?_
  have e1 := h.ok i _ (List.getElem?_eq_getElem h1)
  have e2 := chsR_at (List.getElem?_eq_getElem h2)
  rw [e2.2]
  exact is_rdq e1.1.1 e1.2
theorem ch_all {row : List RT} {step : RT} {n : Nat} (L : LifeOk n row step) (m : Nat) : IsCh row step n m (chsR row step m) := by
  refine ⟨chsR_len, fun i x hx => ?_⟩
  obtain ⟨_, rfl⟩ := chsR_at hx
  obtain ⟨y, h1, h2⟩ := ch_ex L i
  rw [← is_rdq h1.1 h2]
  exact ⟨h1, h2⟩
theorem chsR_sm {row : List RT} {step : RT} {n m : Nat} (L : LifeOk n row step) (hm : m ≤ 70) : ∀ x ∈ chsR row step m, SmR 500 x := by
  intro x hx
  obtain ⟨i, hi⟩ := List.mem_iff_getElem?.mp hx
  have := (chsR_at hi).1
  have := L.n64
  exact ((ch_all L m).ok i x hi).1.mono (by omega)
theorem cut_sm {row : List RT} {step : RT} {n m : Nat} (L : LifeOk n row step) (hm : m ≤ 70) : ∀ x ∈ cutR row step m, SmR 1900 x := by
  intro x hx
  rcases List.mem_append.mp hx with z | z
  · exact (chsR_sm L hm x z).mono (by decide)
  · rw [List.mem_singleton.mp z]
    have I := ch_all L m
    have O := over_ch L.sm L.st.1 L.len L.n64 hm I
    have hs := tops_sum O.pos (xs := chsR row step m) fun y hy => ⟨(O.ok y hy).1, (O.ok y hy).2.1⟩
    have hb := tops_sm O.pos O.pos (Int.dvd_refl _) O.sm (xs := chsR row step m) fun y hy => ⟨(O.ok y hy).1, (O.ok y hy).2.2⟩
    rw [I.sum] at hs
    have hD := O.pos
    have sD := O.sm
    generalize prodB row * step.2 ^ m = D at hs hb hD sD
    generalize (topsOn D (chsR row step m)).sum = T at hs hb
    have sT : Sm 1800 T := by
      unfold Sm
      refine Nat.lt_of_le_of_lt hb ?_
      rw [chsR_len]
      have h64 := L.n64
      have e1 : m * 2 ^ (n + 350 + 1300) ≤ 70 * 2 ^ (64 + 350 + 1300) := Nat.mul_le_mul hm (Nat.pow_le_pow_right (by decide) (by omega))
      exact Nat.lt_of_le_of_lt e1 (by decide)
    have sN : Sm 1801 (D - T) := (sD.mono (show 1300 ≤ 1800 by decide)).sub sT
    have sy : SmR 1801 (low2 (D - T) D) := low2_sm hD sN (sD.mono (by decide))
    have e : low2 (D - T) D = rdq (1 - sumCh row step m) := by
      refine is_rdq sy.1 ?_
      rw [qv_low2 hD, ← hs, Rat.intCast_sub]
      have := cast_ne (Int.ne_of_gt hD)
      grind
    rw [← e]
    exact sy.mono (by decide)
/-- each one with noughts before it -/
def wideR (m : Nat) (row : List RT) : List RT := row.flatMap fun x => List.replicate m ((0 : Int), (1 : Int)) ++ [x]
theorem wide_snoc {m : Nat} {xs : List RT} {x : RT} : wideR m (xs ++ [x]) = wideR m xs ++ (List.replicate m (0, 1) ++ [x]) := by
  unfold wideR
  rw [List.flatMap_append]
  simp
theorem wide_mem {m : Nat} {row : List RT} {x : RT} (h : x ∈ wideR m row) : x = (0, 1) ∨ x ∈ row := by
  unfold wideR at h
  obtain ⟨y, h1, h2⟩ := List.mem_flatMap.mp h
  rcases List.mem_append.mp h2 with z | z
  · exact .inl (List.eq_of_mem_replicate z)
  · rw [List.mem_singleton.mp z]
    exact .inr h1
theorem wide_len {m : Nat} : ∀ {row : List RT}, (wideR m row).length = row.length * (m + 1)
  | [] => by
    show 0 = 0 * (m + 1)
    omega
  | x :: r => by
    show ((List.replicate m (0, 1) ++ [x]) ++ wideR m r).length = _
    rw [List.length_append, List.length_append, List.length_replicate, List.length_singleton, wide_len, List.length_cons, Nat.add_mul]
    omega
theorem take_snoc {α : Type} {xs : List α} {i : Nat} {x : α} (h : xs[i]? = some x) : xs.take (i + 1) = xs.take i ++ [x] := by
  rw [List.take_add_one, h]
  rfl
theorem nought_sm {n : Nat} (h : 1 ≤ n) : SmR n (0, 1) := SmR.mono (n := 1) ⟨⟨by decide, by decide⟩, by unfold Sm; decide, by unfold Sm; decide⟩ h
theorem nought_step {n : Nat} (h : 1 ≤ n) : StepOk n (0, 1) := ⟨nought_sm h, by decide, by decide⟩

end Fp

set_option Elab.async false
set_option linter.all false
set_option maxRecDepth 100000
set_option maxHeartbeats 4000000
set_option exponentiation.threshold 10000
namespace Fp
open PySem PySem.Spec PyProof.Rows L2
/-! ### chances of drawn lives are from nought to one -/
theorem div_01 {t b : Int} (h0 : 0 ≤ t) (hb : 0 < b) (h : t ≤ b) : (0 : Rat) ≤ (t : Rat) / (b : Rat) ∧ (t : Rat) / (b : Rat) ≤ 1 := by
  have hc : (0 : Rat) < (b : Rat) := Rat.intCast_pos.mpr hb
  have ht : (0 : Rat) ≤ (t : Rat) := Rat.intCast_nonneg.mpr h0
  have hl : (t : Rat) ≤ (b : Rat) := Rat.intCast_le_intCast.mpr h
  have hi : (0 : Rat) ≤ (b : Rat)⁻¹ := Rat.le_of_lt (Rat.inv_pos.mpr hc)
  rw [Rat.div_def]
  refine ⟨Rat.mul_nonneg ht hi, ?_⟩
  have := Rat.mul_le_mul_of_nonneg_right hl hi
  have e : (b : Rat) * (b : Rat)⁻¹ = 1 := Rat.mul_inv_cancel _ (Rat.ne_of_gt hc)
  rw [e] at this
  exact this
theorem mem_sum : ∀ {ws : List Int}, (∀ x ∈ ws, 0 ≤ x ∧ x ≤ 5) → ∀ y ∈ ws, y ≤ ws.sum
  | [], _, y, hy => by simp at hy
  | x :: r, h, y, hy => by
    have h1 := h x (List.mem_cons_self ..)
    have h2 := (sum_bound (ws := r) fun z hz => h z (List.mem_cons_of_mem _ hz)).1
    rw [List.sum_cons]
    rcases List.mem_cons.mp hy with z | z
    · omega
    · have := mem_sum (ws := r) (fun z hz => h z (List.mem_cons_of_mem _ hz)) y z
      omega
theorem mul_01 {p q : Rat} (hp : 0 ≤ p ∧ p ≤ 1) (hq : 0 ≤ q ∧ q ≤ 1) : 0 ≤ p * q ∧ p * q ≤ 1 := by
  refine ⟨Rat.mul_nonneg hp.1 hq.1, ?_⟩
  have := Rat.mul_le_mul_of_nonneg_right hp.2 hq.1
  have h2 := hq.2
  grind
theorem pow_01 {q : Rat} (hq : 0 ≤ q ∧ q ≤ 1) : ∀ k : Nat, 0 ≤ q ^ k ∧ q ^ k ≤ 1
  | 0 => by
    rw [Rat.pow_zero]
    exact ⟨by decide, Rat.le_refl⟩
  | k + 1 => by
    rw [Rat.pow_succ]
    exact mul_01 (pow_01 hq k) hq
theorem BaseLife.q01 {row : List RT} {step : RT} (h : BaseLife row step) : (∀ x ∈ row, 0 ≤ qv x ∧ qv x ≤ 1) ∧ 0 ≤ qv step ∧ qv step ≤ 1 := by
  have hs := h.sm
  refine ⟨fun x hx => ?_, div_01 hs.2.2.1 hs.2.1.1.1 (Int.le_of_lt hs.2.2.2)⟩
  rcases h with ⟨ws, extra, m, rfl⟩ | ⟨rfl, rfl⟩
  · obtain ⟨w0, _⟩ := m.whole
    unfold rowOf at hx
    obtain ⟨y, hy, rfl⟩ := List.mem_map.mp hx
    rw [qv_low2 w0]
    have h1 := (m.nn y hy).1
    have hd : 0 ≤ step.2 - step.1 := by
      have := hs.2.2.2
      omega
    refine div_01 (Int.mul_nonneg hd h1) w0 ?_
    have h2 := mem_sum m.nn y hy
    have h3 : (step.2 - step.1) * y ≤ (step.2 - step.1) * (ws.sum + extra) := Int.mul_le_mul_of_nonneg_left (by have := m.ex.1; omega) hd
    have h4 : 0 ≤ step.1 * lastW ws := Int.mul_nonneg hs.2.2.1 (Int.le_of_lt m.last)
    unfold wholeOf
    omega
  · simp at hx
theorem AnyLife.q01 {row : List RT} {step : RT} (h : AnyLife row step) : (∀ x ∈ row, 0 ≤ qv x ∧ qv x ≤ 1) ∧ 0 ≤ qv step ∧ qv step ≤ 1 := by
  rcases h with h | ⟨row0, l, h, h5, hs, hl, rfl⟩ | ⟨row0, h, h5, rfl, hs⟩
  · exact h.q01
  · obtain ⟨q1, q2⟩ := h.q01
    obtain ⟨s1, s2, _, _⟩ := h.sm
    refine ⟨fun x hx => ?_, q2⟩
    rcases List.mem_append.mp hx with z | z
    · exact q1 x z
    · rw [List.mem_singleton.mp z]
      have hm := List.mem_of_getElem? hl
      rw [(qv_rT (s1 l hm).1.1 s2.1).2]
      exact mul_01 (q1 l hm) q2
  · obtain ⟨q1, q2⟩ := h.q01
    refine ⟨fun x hx => ?_, ?_⟩
    · rcases List.mem_append.mp hx with z | z
      · exact q1 x z
      · rw [List.mem_singleton.mp z, qv_nought]
        exact ⟨Rat.le_refl, by decide⟩
    · rcases hs with rfl | rfl
      · exact div_01 (by decide) (by decide) (by decide)
      · exact div_01 (by decide) (by decide) (by decide)
theorem chR_01 {row : List RT} {step : RT} (h1 : ∀ x ∈ row, 0 ≤ qv x ∧ qv x ≤ 1) (h2 : 0 ≤ qv step ∧ qv step ≤ 1) (i : Nat) : 0 ≤ chR row step i ∧ chR row step i ≤ 1 := by
  match e : row[i]? with
  | some x =>
    rw [chR_in e]
    exact h1 x (List.mem_of_getElem? e)
  | none =>
    have hle : row.length ≤ i := List.getElem?_eq_none_iff.mp e
    match el : row.getLast? with
    | none =>
      rw [List.getLast?_eq_none_iff.mp el, chR_nil]
      exact ⟨Rat.le_refl, by decide⟩
    | some l =>
      rw [chR_out hle el]
      exact mul_01 (h1 l (List.mem_of_getLast? el)) (pow_01 h2 _)
theorem AnyLife.step4 {row : List RT} {step : RT} (h : AnyLife row step) : 0 < step.2 ∧ step.2 ≤ 4 := by
  have b : ∀ {row : List RT} {step : RT}, BaseLife row step → 0 < step.2 ∧ step.2 ≤ 4 := fun h => by
    rcases h with ⟨ws, extra, m, _⟩ | ⟨_, rfl⟩
    · rcases m.st with rfl | rfl | rfl | rfl | rfl <;> decide
    · decide
  rcases h with h | ⟨_, _, h, _⟩ | ⟨_, _, _, _, hs⟩
  · exact b h
  · exact b h
  · rcases hs with rfl | rfl <;> decide
theorem pow_four {x : Int} (h : 0 < x ∧ x ≤ 4) : ∀ k : Nat, 0 < x ^ k ∧ x ^ k ≤ 4 ^ k
  | 0 => by
    rw [Int.pow_zero, Int.pow_zero]
    decide
  | k + 1 => by
    obtain ⟨h1, h2⟩ := pow_four h k
    rw [Int.pow_succ, Int.pow_succ]
    exact ⟨Int.mul_pos h1 h.1, Int.mul_le_mul h2 h.2 (Int.le_of_lt h.1) (Int.le_of_lt (Int.lt_of_lt_of_le h1 h2))⟩
theorem AnyLife.ch01 {row : List RT} {step : RT} (h : AnyLife row step) : ∃ D : Int, Ch01 D (chR row step) 20 := by
  obtain ⟨W, hW⟩ := h.w
  obtain ⟨L, _, _⟩ := h.ok
  obtain ⟨q1, q2⟩ := h.q01
  have sm20 : Sm 41 (step.2 ^ 20) := by
    obtain ⟨z1, z2⟩ := pow_four h.step4 20
    have e : (4 : Int) ^ 20 = 1099511627776 := by decide
    have e2 : (2 : Nat) ^ 41 = 2199023255552 := by decide
    unfold Sm
    rw [e2]
    rw [e] at z2
    omega
  have hD : 0 < W * step.2 ^ 20 := Int.mul_pos hW.pos (Int.pow_pos L.st.1.1.1)
  refine ⟨W * step.2 ^ 20, hD, (hW.sm.mul (show Sm 41 (step.2 ^ 20) from sm20)).mono (by decide), fun k _ => (chR_01 q1 q2 k).1, fun k _ => (chR_01 q1 q2 k).2, fun k hk => ?_⟩
  obtain ⟨x, sx, vx⟩ := ch_ex L k
  rw [← vx]
  exact Den.of hD sx.1.1 (ch_dvdW hW.dvd L.sm L.st.1.1 sx.1 vx hk)

end Fp

set_option Elab.async false
set_option linter.all false
set_option maxRecDepth 100000
set_option maxHeartbeats 4000000
set_option exponentiation.threshold 10000
namespace Fp
open PySem PySem.Spec PyProof.Rows L2
/-! ### the law's own puts -/
abbrev N_lp : List Str := ["_law_life_here", "_law_most_here", "_law_some", "_law_n", "_law_here"]
def retScope (b : List Stmt) (d : Scope) : Scope := match b with
  | [_, .Return (some (.ListComp _ _ sc _)) _] => sc
  | _ => d
section
variable {P : Program} {w : World} {K : PySem.W.Frag} {mg : Str → Option Value} {base : Heap}
def spLmost : Sp := fun vs H Q _ => ∃ (d c : Addr) (t : Int), vs = [.ref d] ∧ Feed H d c t ∧ t ≤ 800000 ∧ ∀ (r : Nat) H', r ≤ 20 → Keep d H H' → Feed H' d c (t + 1 + 1) → Q (.int (r : Int)) H'
def spLputs (K : PySem.W.Frag) : Sp := fun vs H Q _ => ∃ (p : Addr) (row : List RT) (step : RT) (n most : Nat) (D : Int), vs = [.ref p, .int (most : Int)] ∧ LifeAt K H p row step ∧ LifeOk n row step ∧ (row = [] → step = (0, 1)) ∧ Ch01 D (chR row step) 20 ∧ most ≤ 20 ∧
  ∀ z H', Same H H' → LsM K H' z (mkL (most + 1) (putQ row step)) → Q (.ref z) H'
theorem mkL_succ {i : Nat} {g : Nat → Rat} : mkL (i + 1) g = mkL i g ++ [rdq (g i)] := by
  unfold mkL
  rw [List.range_succ, List.map_append]
  rfl
theorem mkL_sum {n : Nat} {g : Nat → Rat} : ((mkL n g).map qv).sum = sumTo n g := by
  induction n with
  | zero => rfl
  | succ n ih =>
    rw [mkL_succ, List.map_append, sumTo_succ, ← ih]
    simp only [List.map_cons, List.map_nil]
    rw [sum_snoc, qv_rdq]
end

end Fp

set_option Elab.async false
set_option linter.all false
set_option maxRecDepth 100000
set_option maxHeartbeats 4000000
set_option exponentiation.threshold 10000
namespace Fp
open PySem PySem.Spec PyProof.Rows L2
/-! ### what is told anew is what is told times the puts -/
theorem tri_swap (f : Nat → Nat → Rat) : ∀ n, sumTo n (fun k => sumTo (n - k) (f k)) = sumTo n fun j => sumTo (n - j) fun k => f k j := by
  have key : ∀ (g : Nat → Nat → Rat) (n : Nat), sumTo (n + 1) (fun k => sumTo (n + 1 - k) (g k)) = sumTo n (fun k => sumTo (n - k) (g k)) + sumTo (n + 1) fun k => g k (n - k) := by
    intro g n
    rw [sumTo_succ, sumTo_succ (f := fun k => g k (n - k))]
    have e1 : sumTo n (fun k => sumTo (n + 1 - k) (g k)) = sumTo n (fun k => sumTo (n - k) (g k)) + sumTo n fun k => g k (n - k) := by
      rw [← sumTo_add]
      refine sumTo_congr fun k hk => ?_
      rw [show n + 1 - k = (n - k) + 1 by omega, sumTo_succ]
    have e2 : sumTo (n + 1 - n) (g n) = g n (n - n) := by
      rw [show n + 1 - n = 0 + 1 by omega, sumTo_succ, sumTo_zero, Nat.sub_self]
      grind
    rw [e1, e2]
    grind
  intro n
  induction n with
  | zero => rfl
  | succ n ih =>
    rw [key f n, key (fun j k => f k j) n, ih]
    congr 1
    have := sumTo_rev (n + 1) fun k => f k (n - k)
    rw [← this]
    refine sumTo_congr fun k hk => ?_
    rw [show n - (n + 1 - 1 - k) = k by omega, show n + 1 - 1 - k = n - k by omega]
theorem conv (a b : Nat → Rat) : ∀ n, renQ a b n = sumTo (n + 1) fun k => b k * renQ a oneAt (n - k) := by
  intro n
  induction n using Nat.strongRecOn with
  | ind n ih =>
    have p0 : renQ a oneAt 0 = 1 := by
      rw [renQ_is, sumTo_zero]
      show (1 : Rat) + 0 = 1
      grind
    rw [renQ_is a b n, sumTo_succ, Nat.sub_self, p0]
    have e : sumTo n (fun k => b k * renQ a oneAt (n - k)) = sumTo n fun k => sumTo (n - k) fun j => a j * (b k * renQ a oneAt (n - k - 1 - j)) := by
      refine sumTo_congr fun k hk => ?_
      rw [renQ_is a oneAt (n - k)]
      have : oneAt (n - k) = 0 := if_neg (by omega)
      rw [this]
      have e2 : sumTo (n - k) (fun j => a j * (b k * renQ a oneAt (n - k - 1 - j))) = b k * sumTo (n - k) fun j => a j * renQ a oneAt (n - k - 1 - j) := by
        rw [sumTo_mul]
        refine sumTo_congr fun j _ => ?_
        grind
      rw [e2]
      grind
    rw [e, tri_swap fun k j => a j * (b k * renQ a oneAt (n - k - 1 - j))]
    have e3 : (sumTo n fun j => sumTo (n - j) fun k => a j * (b k * renQ a oneAt (n - k - 1 - j))) = sumTo n fun j => a j * renQ a b (n - 1 - j) := by
      refine sumTo_congr fun j hj => ?_
      rw [← sumTo_mul, ih (n - 1 - j) (by omega), show n - 1 - j + 1 = n - j by omega]
      congr 1
      refine sumTo_congr fun k hk => ?_
      rw [show n - 1 - j - k = n - k - 1 - j by omega]
    rw [e3]
    grind
/-- told one beat later -/
def laterF (c : Nat → Rat) : Nat → Rat
  | 0 => 0
  | k + 1 => c k
theorem conv_later (a c : Nat → Rat) (n : Nat) : renQ a (laterF c) n = sumTo n fun k => c k * renQ a oneAt (n - 1 - k) := by
  rw [conv, sumTo_head]
  have e : (sumTo n fun j => laterF c (j + 1) * renQ a oneAt (n - (j + 1))) = sumTo n fun k => c k * renQ a oneAt (n - 1 - k) := by
    refine sumTo_congr fun k hk => ?_
    rw [show n - (k + 1) = n - 1 - k by omega]
    rfl
  rw [e]
  show (0 : Rat) * _ + _ = _
  grind

end Fp

set_option Elab.async false
set_option linter.all false
set_option maxRecDepth 100000
set_option maxHeartbeats 4000000
set_option exponentiation.threshold 10000
namespace Fp
open PySem PySem.Spec PyProof.Rows L2
/-! ### how great puts are -/
/-- a whole number over P -/
def Ov (P : Int) (q : Rat) : Prop := ∃ T : Int, q = (T : Rat) / (P : Rat)
theorem Ov.red {P : Int} {q : Rat} {s k : Nat} (hP : 0 < P) (h : Ov P q) (sP : Sm s P) (h0 : 0 ≤ q) (h1 : q ≤ 2 ^ k) : (rdq q).2 ∣ P ∧ Sm (s + k + 1) (rdq q).1 ∧ Sm s (rdq q).2 := by
  obtain ⟨T, hT⟩ := h
  have hc := cast_ne (Int.ne_of_gt hP)
  obtain ⟨r1, r2⟩ := red_small (rdq_red q) hP (by rw [qv_rdq]; exact hT)
  refine ⟨r1, ?_, dvd_small r1 hP sP⟩
  have hcp : (0 : Rat) < (P : Rat) := Rat.intCast_pos.mpr hP
  have e1 : (T : Rat) = q * (P : Rat) := by
    rw [hT]
    grind
  have t0 : 0 ≤ T := by
    have := Rat.mul_nonneg h0 (Rat.le_of_lt hcp)
    rw [← e1] at this
    exact Rat.intCast_nonneg.mp this
  have t1 : T ≤ 2 ^ k * P := by
    have := Rat.mul_le_mul_of_nonneg_right h1 (Rat.le_of_lt hcp)
    rw [← e1] at this
    have e2 : (2 : Rat) ^ k * (P : Rat) = ((2 ^ k * P : Int) : Rat) := by
      rw [Rat.intCast_mul, cast_pow 2 k]
      rfl
    rw [e2] at this
    exact Rat.intCast_le_intCast.mp this
  unfold Sm at *
  have t2 : T.natAbs ≤ 2 ^ k * P.natAbs := by
    have : (2 ^ k * P : Int).natAbs = 2 ^ k * P.natAbs := by
      rw [Int.natAbs_mul, Int.natAbs_pow]
      rfl
    omega
  have t3 : 2 ^ k * P.natAbs ≤ 2 ^ k * 2 ^ s := Nat.mul_le_mul_left _ (Nat.le_of_lt sP)
  have t4 : 2 ^ (s + k + 1) = 2 * (2 ^ k * 2 ^ s) := by
    rw [Nat.pow_succ, Nat.pow_add, Nat.mul_comm, Nat.mul_comm (2 ^ s)]
  have t5 : 0 < 2 ^ k * 2 ^ s := Nat.mul_pos (Nat.pow_pos (by decide)) (Nat.pow_pos (by decide))
  omega
theorem Ov.zero {P : Int} : Ov P 0 := ⟨0, by
  show (0 : Rat) = ((0 : Int) : Rat) / _
  rw [show ((0 : Int) : Rat) = 0 from rfl]
  grind⟩
theorem Ov.add {P : Int} {p q : Rat} (hP : 0 < P) (hp : Ov P p) (hq : Ov P q) : Ov P (p + q) := by
  obtain ⟨T, rfl⟩ := hp
  obtain ⟨S, rfl⟩ := hq
  refine ⟨T + S, ?_⟩
  have h2 := cast_ne (Int.ne_of_gt hP)
  rw [Rat.intCast_add]
  grind
theorem Ov.sum {P : Int} (hP : 0 < P) {n : Nat} {g : Nat → Rat} (h : ∀ j, j < n → Ov P (g j)) : Ov P (sumTo n g) := by
  induction n with
  | zero => exact Ov.zero
  | succ n ih =>
    rw [sumTo_succ]
    exact (ih fun j hj => h j (by omega)).add hP (h n (by omega))
theorem Den.ov {D : Int} {e : Nat} {q : Rat} (h : Den D e q) : Ov (D ^ e) q := h
theorem Ov.mul {P R : Int} {p q : Rat} (hP : 0 < P) (hR : 0 < R) (hp : Ov P p) (hq : Ov R q) : Ov (P * R) (p * q) := by
  obtain ⟨T, rfl⟩ := hp
  obtain ⟨S, rfl⟩ := hq
  refine ⟨T * S, ?_⟩
  have h1 := cast_ne (Int.ne_of_gt hP)
  have h2 := cast_ne (Int.ne_of_gt hR)
  rw [Rat.intCast_mul, Rat.intCast_mul]
  grind
section
variable {D : Int} {a : Nat → Rat} {M : Nat}
/-- puts: from nought to a power of two, over a power of the one number -/
theorem Ch01.put (h : Ch01 D a M) : ∀ n, n ≤ M → 0 ≤ renQ a oneAt n ∧ renQ a oneAt n ≤ 2 ^ n ∧ Den D n (renQ a oneAt n) := by
  have pp : ∀ m : Nat, (0 : Rat) < 2 ^ m := fun m => Rat.pow_pos (by decide)
  intro n
  induction n using Nat.strongRecOn with
  | ind n ih =>
    intro hn
    cases n with
    | zero =>
      have e : renQ a oneAt 0 = 1 := by
        rw [renQ_is, sumTo_zero]
        show (1 : Rat) + 0 = 1
        grind
      rw [e, Rat.pow_zero]
      refine ⟨by decide, Rat.le_refl, 1, ?_⟩
      rw [Int.pow_zero]
      grind
    | succ n =>
      have e : renQ a oneAt (n + 1) = sumTo (n + 1) fun j => a j * renQ a oneAt (n + 1 - 1 - j) := by
        rw [renQ_is]
        show (0 : Rat) + _ = _
        grind
      rw [e]
      refine ⟨?_, ?_, Den.sum h.pos fun j hj => ?_⟩
      · have := sumTo_le (n := n + 1) (f := fun _ => 0) (g := fun j => a j * renQ a oneAt (n + 1 - 1 - j)) fun j hj => Rat.mul_nonneg (h.ge j (by omega)) (ih (n + 1 - 1 - j) (by omega) (by omega)).1
        rw [sumTo_nought] at this
        exact this
      · have h2 : sumTo (n + 1) (fun j => a j * renQ a oneAt (n + 1 - 1 - j)) ≤ sumTo (n + 1) fun j => (2 : Rat) ^ (n + 1 - 1 - j) := sumTo_le fun j hj => by
          obtain ⟨i1, i2, _⟩ := ih (n + 1 - 1 - j) (by omega) (by omega)
          have h3 := Rat.mul_le_mul_of_nonneg_right (h.le j (by omega)) i1
          grind
        rw [sumTo_rev (n + 1) fun k => (2 : Rat) ^ k, two_sum] at h2
        grind
      · have := (h.den j (by omega)).mul h.pos (ih (n + 1 - 1 - j) (by omega) (by omega)).2.2
        exact this.mono h.pos (by omega)
end
/-- behind a first: over the product, from nought to a power of two -/
theorem after_ok {D D2 : Int} {a c : Nat → Rat} (h : Ch01 D a 20) (h2 : Ch01 D2 c 20) {n : Nat} (hn : n ≤ 20) : 0 ≤ renQ a (laterF c) n ∧ renQ a (laterF c) n ≤ 2 ^ n ∧ Ov (D2 * D ^ 20) (renQ a (laterF c) n) := by
  rw [conv_later]
  have hP : (0 : Int) < D ^ 20 := Int.pow_pos h.pos
  refine ⟨?_, ?_, Ov.sum (Int.mul_pos h2.pos hP) fun j hj => ?_⟩
  · have := sumTo_le (n := n) (f := fun _ => 0) (g := fun k => c k * renQ a oneAt (n - 1 - k)) fun j hj => Rat.mul_nonneg (h2.ge j (by omega)) (h.put (n - 1 - j) (by omega)).1
    rw [sumTo_nought] at this
    exact this
  · have h3 : sumTo n (fun k => c k * renQ a oneAt (n - 1 - k)) ≤ sumTo n fun j => (2 : Rat) ^ (n - 1 - j) := sumTo_le fun j hj => by
      obtain ⟨i1, i2, _⟩ := h.put (n - 1 - j) (by omega)
      have h4 := Rat.mul_le_mul_of_nonneg_right (h2.le j (by omega)) i1
      grind
    rw [sumTo_rev n fun k => (2 : Rat) ^ k, two_sum] at h3
    grind
  · have e1 := (h2.den j (by omega)).ov
    rw [Int.pow_succ, Int.pow_zero, Int.one_mul] at e1
    exact e1.mul h2.pos hP ((h.put (n - 1 - j) (by omega)).2.2.mono h.pos (show n - 1 - j ≤ 20 by omega)).ov
theorem cutV_from1 (vs : List V) : cutV vs (some 1) none = vs.drop 1 := by
  unfold cutV
  rw [HT.sIx_none, show (1 : Int) = ((1 : Nat) : Int) from rfl, HT.sIx_nat]
  rcases (by omega : 1 ≤ vs.length ∨ vs.length = 0) with z | z
  · rw [Nat.min_eq_left z, List.take_of_length_le (by rw [List.length_drop]; exact Nat.le_refl _)]
  · rw [List.length_eq_zero_iff.mp z]
    rfl

end Fp

set_option Elab.async false
set_option linter.all false
set_option maxRecDepth 100000
set_option maxHeartbeats 4000000
set_option exponentiation.threshold 10000
namespace Fp
open PySem PySem.Spec PyProof.Rows L2
/-! ### values with their size -/
/-- a whole number over P, within the k-th power of two -/
structure Sz (P : Int) (k : Nat) (q : Rat) : Prop where
  ov : Ov P q
  lo : -((2 : Rat) ^ k) ≤ q
  hi : q ≤ (2 : Rat) ^ k
theorem two_pos (k : Nat) : (0 : Rat) < (2 : Rat) ^ k := Rat.pow_pos (by decide)
theorem Sz.pos {P : Int} {k : Nat} {q : Rat} (h : Ov P q) (h0 : 0 ≤ q) (h1 : q ≤ (2 : Rat) ^ k) : Sz P k q := ⟨h, by have := two_pos k; grind, h1⟩
theorem Sz.mono {P : Int} {k j : Nat} {q : Rat} (h : Sz P k q) (l : k ≤ j) : Sz P j q := by
  have e := pow2_le l
  have h1 := h.lo
  have h2 := h.hi
  exact ⟨h.ov, by grind, by grind⟩
theorem Sz.neg {P : Int} {k : Nat} {q : Rat} (h : Sz P k q) : Sz P k (-q) := by
  obtain ⟨⟨T, hT⟩, h1, h2⟩ := h
  refine ⟨⟨-T, ?_⟩, by grind, by grind⟩
  rw [hT, Rat.intCast_neg]
  grind
theorem Sz.add {P : Int} {k : Nat} {p q : Rat} (hP : 0 < P) (h1 : Sz P k p) (h2 : Sz P k q) : Sz P (k + 1) (p + q) := by
  have a1 := h1.lo
  have a2 := h1.hi
  have b1 := h2.lo
  have b2 := h2.hi
  refine ⟨h1.ov.add hP h2.ov, ?_, ?_⟩ <;> (rw [Rat.pow_succ]; grind)
theorem Sz.mul {P R : Int} {k j : Nat} {p q : Rat} (hP : 0 < P) (hR : 0 < R) (h1 : Sz P k p) (h2 : Sz R j q) : Sz (P * R) (k + j) (p * q) := by
  have a1 : 0 ≤ (2 : Rat) ^ k + p := by have := h1.lo; grind
  have a2 : 0 ≤ (2 : Rat) ^ k - p := by have := h1.hi; grind
  have b1 : 0 ≤ (2 : Rat) ^ j + q := by have := h2.lo; grind
  have b2 : 0 ≤ (2 : Rat) ^ j - q := by have := h2.hi; grind
  have x1 := Rat.mul_nonneg a1 b1
  have x2 := Rat.mul_nonneg a1 b2
  have x3 := Rat.mul_nonneg a2 b1
  have x4 := Rat.mul_nonneg a2 b2
  refine ⟨h1.ov.mul hP hR h2.ov, ?_, ?_⟩ <;> (rw [pow_plus]; grind)
theorem Ov.dvd {P R : Int} {q : Rat} (h : Ov P q) (hP : 0 < P) (hR : 0 < R) (d : P ∣ R) : Ov R q := by
  obtain ⟨T, rfl⟩ := h
  obtain ⟨u, rfl⟩ := d
  refine ⟨T * u, ?_⟩
  have h1 := cast_ne (Int.ne_of_gt hP)
  have h2 := cast_ne (Int.ne_of_gt hR)
  rw [Rat.intCast_mul] at h2
  rw [Rat.intCast_mul, Rat.intCast_mul]
  grind
theorem Sz.dvd {P R : Int} {k : Nat} {q : Rat} (h : Sz P k q) (hP : 0 < P) (hR : 0 < R) (d : P ∣ R) : Sz R k q := ⟨h.ov.dvd hP hR d, h.lo, h.hi⟩
theorem Sz.sum {P : Int} {k n : Nat} {g : Nat → Rat} (hP : 0 < P) (h : ∀ j, j < n → Sz P k (g j)) (hn : n ≤ 128) : Sz P (k + 7) (sumTo n g) := by
  have key : ∀ m : Nat, m ≤ n → -(((m : Int) : Rat) * (2 : Rat) ^ k) ≤ sumTo m g ∧ sumTo m g ≤ ((m : Int) : Rat) * (2 : Rat) ^ k := by
    intro m
    induction m with
    | zero =>
      intro _
      rw [sumTo_zero, show (((0 : Nat) : Int) : Rat) = 0 from rfl]
      constructor <;> grind
    | succ m ih =>
      intro hm
      obtain ⟨i1, i2⟩ := ih (by omega)
      have z := h m (by omega)
      have z1 := z.lo
      have z2 := z.hi
      rw [sumTo_succ, show ((m + 1 : Nat) : Int) = (m : Int) + 1 by omega, Rat.intCast_add]
      rw [show ((1 : Int) : Rat) = 1 from rfl]
      constructor <;> grind
  obtain ⟨k1, k2⟩ := key n (Nat.le_refl _)
  have e : ((n : Int) : Rat) * (2 : Rat) ^ k ≤ (2 : Rat) ^ (k + 7) := by
    rw [pow_plus]
    have l : ((n : Int) : Rat) ≤ ((128 : Int) : Rat) := Rat.intCast_le_intCast.mpr (by omega)
    have := Rat.mul_le_mul_of_nonneg_right l (Rat.le_of_lt (two_pos k))
    have e2 : (2 : Rat) ^ 7 = ((128 : Int) : Rat) := by decide +kernel
    rw [e2]
    grind
  exact ⟨Ov.sum hP fun j hj => (h j hj).ov, by grind, by grind⟩
theorem Sz.red {P : Int} {q : Rat} {s k : Nat} (h : Sz P k q) (hP : 0 < P) (sP : Sm s P) : (rdq q).2 ∣ P ∧ Sm (s + k + 1) (rdq q).1 ∧ Sm s (rdq q).2 := by
  obtain ⟨⟨T, hT⟩, h0, h1⟩ := h
  have hc := cast_ne (Int.ne_of_gt hP)
  obtain ⟨r1, r2⟩ := red_small (rdq_red q) hP (by rw [qv_rdq]; exact hT)
  refine ⟨r1, ?_, dvd_small r1 hP sP⟩
  have hcp : (0 : Rat) < (P : Rat) := Rat.intCast_pos.mpr hP
  have e1 : (T : Rat) = q * (P : Rat) := by
    rw [hT]
    grind
  have e2 : (2 : Rat) ^ k * (P : Rat) = ((2 ^ k * P : Int) : Rat) := by
    rw [Rat.intCast_mul, cast_pow 2 k]
    rfl
  have t1 : T ≤ 2 ^ k * P := by
    have := Rat.mul_le_mul_of_nonneg_right h1 (Rat.le_of_lt hcp)
    rw [← e1, e2] at this
    exact Rat.intCast_le_intCast.mp this
  have t0 : -(2 ^ k * P) ≤ T := by
    have := Rat.mul_le_mul_of_nonneg_right h0 (Rat.le_of_lt hcp)
    rw [← e1] at this
    refine Rat.intCast_le_intCast.mp ?_
    rw [Rat.intCast_neg, ← e2]
    grind
  unfold Sm at *
  have t2 : T.natAbs ≤ 2 ^ k * P.natAbs := by
    have : (2 ^ k * P : Int).natAbs = 2 ^ k * P.natAbs := by
      rw [Int.natAbs_mul, Int.natAbs_pow]
      rfl
    omega
  have t3 : 2 ^ k * P.natAbs ≤ 2 ^ k * 2 ^ s := Nat.mul_le_mul_left _ (Nat.le_of_lt sP)
  have t4 : 2 ^ (s + k + 1) = 2 * (2 ^ k * 2 ^ s) := by
    rw [Nat.pow_succ, Nat.pow_add, Nat.mul_comm, Nat.mul_comm (2 ^ s)]
  have t5 : 0 < 2 ^ k * 2 ^ s := Nat.mul_pos (Nat.pow_pos (by decide)) (Nat.pow_pos (by decide))
  omega
theorem Sz.smr {P : Int} {q : Rat} {s k n : Nat} (h : Sz P k q) (hP : 0 < P) (sP : Sm s P) (hn : s + k + 1 ≤ n) : SmR n (rdq q) := by
  obtain ⟨_, h2, h3⟩ := h.red hP sP
  exact ⟨rdq_red _, h2.mono hn, h3.mono (by omega)⟩
/-- a put: its size -/
theorem Ch01.putSz {D : Int} {a : Nat → Rat} {M : Nat} (h : Ch01 D a M) {n e : Nat} (hn : n ≤ M) (he : n ≤ e) : Sz (D ^ e) n (renQ a oneAt n) := by
  obtain ⟨x1, x2, x3⟩ := h.put n hn
  exact Sz.pos (x3.mono h.pos he).ov x1 x2
theorem Ch01.chSz {D : Int} {a : Nat → Rat} {M : Nat} (h : Ch01 D a M) {n : Nat} (hn : n < M) : Sz D 0 (a n) := by
  refine Sz.pos ?_ (h.ge n hn) (by rw [Rat.pow_zero]; exact h.le n hn)
  have := (h.den n hn).ov
  rw [Int.pow_succ, Int.pow_zero, Int.one_mul] at this
  exact this
theorem Ch01.powSm {D : Int} {a : Nat → Rat} {M : Nat} (h : Ch01 D a M) (e : Nat) : 0 < D ^ e ∧ Sm (60 * e + 1) (D ^ e) := ⟨Int.pow_pos h.pos, sm_pow h.sm (by decide) e⟩
theorem Sz.nought {P : Int} {k : Nat} : Sz P k 0 := ⟨Ov.zero, by have := two_pos k; grind, by have := two_pos k; grind⟩
theorem Sz.one {k : Nat} {P : Int} (hP : 0 < P) : Sz P k 1 := by
  refine ⟨⟨P, ?_⟩, ?_, ?_⟩
  · have := cast_ne (Int.ne_of_gt hP)
    grind
  · have := two_pos k
    grind
  · have := pow2_le (Nat.zero_le k)
    rw [Rat.pow_zero] at this
    exact this
/-! ### lists told by value -/
theorem mem_mkL {n : Nat} {f : Nat → Rat} {x : RT} (h : x ∈ mkL n f) : ∃ j, j < n ∧ x = rdq (f j) := by
  obtain ⟨j, hj⟩ := List.mem_iff_getElem?.mp h
  have hj2 := (List.getElem?_eq_some_iff.mp hj).1
  rw [mkL_len] at hj2
  rw [mkL_at hj2] at hj
  exact ⟨j, hj2, (Option.some.inj hj).symm⟩
theorem over_mkL {P : Int} {n s k : Nat} {f : Nat → Rat} (hP : 0 < P) (sP : Sm s P) (z : ∀ j, j < n → Sz P k (f j)) (hn : n ≤ 1000) : Over1 (s + k + 1) s P (mkL n f) := by
  refine ⟨hP, sP, fun x hx => ?_, by rw [mkL_len]; exact hn⟩
  obtain ⟨j, hj, rfl⟩ := mem_mkL hx
  obtain ⟨h1, h2, h3⟩ := (z j hj).red hP sP
  exact ⟨(rdq_red _).1, h1, h2⟩
section
variable {K : PySem.W.Frag} {H : Hp} {Q : VK}
theorem tnil_go {σ : L2.St} {R : List V → Hp → Prop} (h : R [] H) : tNil σ H R := h
theorem lsum_go {p : Addr} {P : Int} {n s k : Nat} {f : Nat → Rat} (h : LsM K H p (mkL n f)) (hP : 0 < P) (sP : Sm s P) (z : ∀ j, j < n → Sz P k (f j)) (hn : n ≤ 1000) (hs : s ≤ 2500) (hk : k ≤ 900)
    (q : ∀ r H', Same H H' → RAt K H' r (rdq (sumTo n f)) → Q (.ref r) H') : spLsum K LstAt [.ref p] H Q E0 := by
  obtain ⟨rs, h1, h2⟩ := h
  refine ⟨p, _, _, _, P, rfl, ⟨rs, SqL.of h1, h2⟩, over_mkL hP sP z hn, by omega, by omega, fun y x HF sF hy rx vx _ _ => ?_⟩
  have ex : x = rdq (sumTo n f) := is_rdq rx (by rw [vx, mkL_sum])
  rw [ex] at hy
  exact q y HF sF hy
theorem lsumT_go {p : Addr} {P : Int} {n s k : Nat} {f : Nat → Rat} (h : RowAt K H p (mkL n f)) (hP : 0 < P) (sP : Sm s P) (z : ∀ j, j < n → Sz P k (f j)) (hn : n ≤ 1000) (hs : s ≤ 2500) (hk : k ≤ 900)
    (q : ∀ r H', Same H H' → RAt K H' r (rdq (sumTo n f)) → Q (.ref r) H') : spLsum K RowAt [.ref p] H Q E0 := by
  refine ⟨p, _, _, _, P, rfl, h, over_mkL hP sP z hn, by omega, by omega, fun y x HF sF hy rx vx _ _ => ?_⟩
  have ex : x = rdq (sumTo n f) := is_rdq rx (by rw [vx, mkL_sum])
  rw [ex] at hy
  exact q y HF sF hy
theorem times_go {p1 p2 : Addr} {x y : Rat} (h1 : RAt K H p1 (rdq x)) (h2 : RAt K H p2 (rdq y)) (s1 : SmR 3000 (rdq x)) (s2 : SmR 3000 (rdq y)) (q : ∀ r H', Same H H' → RAt K H' r (rdq (x * y)) → Q (.ref r) H') : spTwo K (fun a b c d => a * c) [.ref p1, .ref p2] H Q E0 := by
  refine ⟨p1, p2, _, _, _, _, rfl, ⟨h1, h2, s1.2.1, s1.2.2, s2.2.1, s2.2.2, s1.1.1, s2.1.1⟩, fun b nb => ?_⟩
  have e := same_new (o := HO.tup [.int (rT (rdq x) (rdq y)).1, .int (rT (rdq x) (rdq y)).2]) nb
  obtain ⟨y1, y2⟩ := qv_rT s1.1 s2.1
  have ep : rT (rdq x) (rdq y) = rdq (x * y) := is_rdq y1 (by rw [y2, qv_rdq, qv_rdq])
  refine q b _ e ?_
  rw [← ep]
  exact SqT.of upd_same
theorem minus_go {p1 p2 : Addr} {x y : Rat} (h1 : RAt K H p1 (rdq x)) (h2 : RAt K H p2 (rdq y)) (s1 : SmR 3000 (rdq x)) (s2 : SmR 3000 (rdq y)) (q : ∀ r H', Same H H' → RAt K H' r (rdq (x - y)) → Q (.ref r) H') : spTwo K (fun a b c d => a * d - c * b) [.ref p1, .ref p2] H Q E0 := by
  refine ⟨p1, p2, _, _, _, _, rfl, ⟨h1, h2, s1.2.1, s1.2.2, s2.2.1, s2.2.2, s1.1.1, s2.1.1⟩, fun b nb => ?_⟩
  have e := same_new (o := HO.tup [.int (rM (rdq x) (rdq y)).1, .int (rM (rdq x) (rdq y)).2]) nb
  obtain ⟨y1, y2⟩ := qv_rM s1.1 s2.1
  have ep : rM (rdq x) (rdq y) = rdq (x - y) := is_rdq y1 (by rw [y2, qv_rdq, qv_rdq])
  refine q b _ e ?_
  rw [← ep]
  exact SqT.of upd_same
/-- a tuple of a list -/
theorem RowAt.of_ls {p b : Addr} {xs : List RT} {rs : List Addr} (h1 : H p = some (.lst (rs.map V.ref))) (h2 : RsAt K H rs xs) (nb : H b = none) : RowAt K (upd H b (.tup (rs.map V.ref))) b xs := ⟨rs, SqT.of upd_same, h2.tk (Tk.same (same_new nb))⟩
/-- a wish of an object alone -/
@[reducible] def refQ (Qd : Addr → Hp → Prop) : VK := fun v H2 => match v with
  | .ref D => Qd D H2
  | _ => False
/-- a comprehension each turn of which gives a ratio told by its value -/
theorem lc_mkW {J : It} {n : Nat} {G : Hp → Prop} {Y : Nat → Hp → V → Hp → Prop} (w : Walk J n G Y) {g : TG} {te : TE} {vs : List Nat} {σ : L2.St} {H1 : Hp} (f : Nat → Rat) (hn : n ≤ 900) (hG : ∀ HE, Same H1 HE → G HE)
    (hs : ∀ (k : Nat) (x : V) (HE HE' : Hp) (R : VK), k < n → Same H1 HE → Y k HE x HE' → (∀ r HF, Same HE HF → RAt K HF r (rdq (f k)) → R (.ref r) HF) → g x (wipe σ vs) HE' fun σ2 H2 => wipe σ2 vs = wipe σ vs ∧ te σ2 H2 R)
    {Qd : Addr → Hp → Prop} (hd : ∀ D H2, Same H1 H2 → LsM K H2 D (mkL n f) → Qd D H2) : tLc (fun _ H2 R => R J H2) g tYes te vs σ H1 (refQ Qd) := by
  intro D nD
  have e1 := same_new (o := HO.lst []) nD
  refine lc_it w (fun k HE => ∃ qs : List Addr, Same H1 HE ∧ HE D = some (.lst (qs.map V.ref)) ∧ RsAt K HE qs (mkL k f)) ⟨[], e1, upd_same, .nil⟩ ?_ ?_ ?_
  · rintro i HE _ ⟨_, sE, _⟩
    exact hG HE sE
  · rintro k x HE HE' hk ⟨qs, sE, hE, hqs⟩ hY
    have hql := hqs.length
    rw [mkL_len] at hql
    refine hs k x HE HE' _ hk sE hY fun r HF sF hr => ?_
    have hE5 := sF _ _ hE
    refine ⟨_, hE5, by rw [List.length_map, hql]; exact small1000 (by omega), qs ++ [r], ?_, ?_, ?_⟩
    · intro b2 o hb2
      rw [upd_ne (ne_of_none hb2 nD)]
      exact (sE.trans sF) _ _ hb2
    · rw [upd_same, List.map_append]
      rfl
    · rw [mkL_succ]
      exact ((hqs.tk (Tk.same sF)).append (.cons hr .nil)).tk (tk_lst hE5)
  · rintro HE ⟨qs, sE, hE, hqs⟩
    exact hd D HE sE ⟨qs, hE, hqs⟩
theorem lc_mk {lo : Int} {n : Nat} {g : TG} {te : TE} {vs : List Nat} {σ : L2.St} {H1 : Hp} (f : Nat → Rat) (hn : n ≤ 900)
    (hs : ∀ (k : Nat) (HE : Hp) (R : VK), k < n → Same H1 HE → (∀ r HF, Same HE HF → RAt K HF r (rdq (f k)) → R (.ref r) HF) → g (.int (lo + k)) (wipe σ vs) HE fun σ2 H2 => wipe σ2 vs = wipe σ vs ∧ te σ2 H2 R)
    {Qd : Addr → Hp → Prop} (hd : ∀ D H2, Same H1 H2 → LsM K H2 D (mkL n f) → Qd D H2) : tLc (fun _ H2 R => R (Itr lo n) H2) g tYes te vs σ H1 (refQ Qd) := by
  refine lc_mkW walk_range f hn (fun _ _ => trivial) (fun k x HE HE' R hk sE hY q => ?_) hd
  obtain ⟨rfl, rfl⟩ := hY
  exact hs k _ R hk sE q
end

end Fp

set_option Elab.async false
set_option linter.all false
set_option maxRecDepth 100000
set_option maxHeartbeats 4000000
set_option exponentiation.threshold 10000
namespace Fp
open PySem PySem.Spec PyProof.Rows L2
/-! ### lists of ratios: parts, joined, cut -/
section
variable {K : PySem.W.Frag} {H H' : Hp}
theorem LsM.keep {d c p : Addr} {t : Int} {xs : List RT} (h : LsM K H p xs) (f : Feed H d c t) (k : Keep d H H') : LsM K H' p xs := by
  obtain ⟨rs, h1, h2⟩ := h
  exact ⟨rs, keep_at f k h1 (by intro _ z; cases z), h2.tk (Tk.keep f k)⟩
theorem LsM.ix {p : Addr} {xs : List RT} {m : Nat} {x : RT} {k : Int} {Q : VK} (h : LsM K H p xs) (hk : k = (m : Int)) (hm : xs[m]? = some x) (q : ∀ r, RAt K H r x → Q (.ref r) H) : rIxL K (.ref p) (.int k) H Q := by
  obtain ⟨rs, h1, h2⟩ := h
  obtain ⟨r, e1, e2⟩ := h2.get hm
  have g2 : (rs.map V.ref)[m]? = some (.ref r) := by
    rw [List.getElem?_map, e1]
    rfl
  exact ⟨p, _, _, _, rfl, rfl, SqL.of h1, at_of hk g2, q r e2⟩
/-- [x] * k -/
theorem rep_ls {p a : Addr} {x : RT} {k : Nat} {Q : VK} (h : H p = some (.lst [.ref a])) (ha : RAt K H a x) (hk : k ≤ 900) (q : ∀ r H', Same H H' → LsM K H' r (List.replicate k x) → Q (.ref r) H') : rRep (.ref p) (.int (k : Int)) H Q := by
  refine ⟨p, _, _, rfl, rfl, h, by omega, by omega, ?_, fun b nb => ?_⟩
  · rw [Int.toNat_natCast]
    show 1 * k ≤ sizeLine
    exact Nat.le_trans (show 1 * k ≤ 1000 by omega) (by decide)
  have ef : (List.replicate (k : Int).toNat [V.ref a]).flatten = (List.replicate k a).map V.ref := by
    rw [flat_rep, List.map_replicate, Int.toNat_natCast]
  rw [ef] at *
  have e := same_new (o := HO.lst ((List.replicate k a).map V.ref)) nb
  exact q b _ e ⟨_, upd_same, RsAt.rep (ha.tk (Tk.same e)) k⟩
theorem cat_ls {p r : Addr} {xs ys : List RT} {Q : VK} (h1 : LsM K H p xs) (h2 : LsM K H r ys) (hl : xs.length + ys.length ≤ 900) (q : ∀ b H', Same H H' → LsM K H' b (xs ++ ys) → Q (.ref b) H') : rCat (.ref p) (.ref r) H Q := by
  obtain ⟨as, a1, a2⟩ := h1
  obtain ⟨bs, b1, b2⟩ := h2
  have la := a2.length
  have lb := b2.length
  refine ⟨p, r, _, _, rfl, rfl, a1, b1, ?_, fun b nb => ?_⟩
  · rw [List.length_map, List.length_map, sizeLine_eq]
    omega
  have e := same_new (o := HO.lst (as.map V.ref ++ bs.map V.ref)) nb
  refine q b _ e ⟨as ++ bs, ?_, (a2.append b2).tk (Tk.same e)⟩
  rw [upd_same, List.map_append]
/-- xs[:n] of a list -/
theorem take_ls {p : Addr} {xs : List RT} {n : Nat} {Q : VK} (h : LsM K H p xs) (q : ∀ b H', Same H H' → LsM K H' b (xs.take n) → Q (.ref b) H') : rSlL K (.ref p) none (some (n : Int)) H Q := by
  obtain ⟨as, a1, a2⟩ := h
  refine ⟨p, _, rfl, SqL.of a1, fun b nb => ?_⟩
  rw [cutV_take]
  have e := same_new (o := HO.lst ((as.map V.ref).take n)) nb
  refine q b _ e ⟨as.take n, ?_, (a2.take n).tk (Tk.same e)⟩
  rw [upd_same, List.map_take]
/-- the same, and that it is new -/
theorem rep_ls2 {p a : Addr} {x : RT} {k : Nat} {Q : VK} (h : H p = some (.lst [.ref a])) (ha : RAt K H a x) (hk : k ≤ 900) (q : ∀ r H', Same H H' → H r = none → LsM K H' r (List.replicate k x) → Q (.ref r) H') : rRep (.ref p) (.int (k : Int)) H Q := by
  refine ⟨p, _, _, rfl, rfl, h, by omega, by omega, ?_, fun b nb => ?_⟩
  · rw [Int.toNat_natCast]
    show 1 * k ≤ sizeLine
    exact Nat.le_trans (show 1 * k ≤ 1000 by omega) (by decide)
  have ef : (List.replicate (k : Int).toNat [V.ref a]).flatten = (List.replicate k a).map V.ref := by
    rw [flat_rep, List.map_replicate, Int.toNat_natCast]
  rw [ef] at *
  have e := same_new (o := HO.lst ((List.replicate k a).map V.ref)) nb
  exact q b _ e nb ⟨_, upd_same, RsAt.rep (ha.tk (Tk.same e)) k⟩
/-- appending to a list that stands beside others -/
theorem LsM.push {p r : Addr} {xs : List RT} {x : RT} {rs : List Addr} (h1 : H p = some (.lst (rs.map V.ref))) (h2 : RsAt K H rs xs) (hr : RAt K H r x) : LsM K (upd H p (.lst (rs.map V.ref ++ [.ref r]))) p (xs ++ [x]) := by
  refine ⟨rs ++ [r], ?_, (h2.append (.cons hr .nil)).tk (tk_lst h1)⟩
  rw [upd_same, List.map_append]
  rfl
end
section
variable {K : PySem.W.Frag} {H : Hp}
theorem set_ls {p r : Addr} {xs : List RT} {x : RT} {m : Nat} {k : Int} {Q : Hp → Prop} (h : LsM K H p xs) (hr : RAt K H r x) (hk : k = (m : Int)) (hm : m < xs.length) (q : ∀ H', Tk K H H' → (∀ b, b ≠ p → H' b = H b) → LsM K H' p (xs.set m x) → Q H') : rSetL (.ref p) (.int k) (.ref r) H Q := by
  obtain ⟨rs, h1, h2⟩ := h
  have hl := h2.length
  refine ⟨p, _, _, m, rfl, rfl, h1, ?_, ?_⟩
  · subst hk
    unfold ixN
    rw [List.length_map, hl, if_pos (by omega), if_pos (by omega)]
    congr 1
  · refine q _ (tk_lst h1) (fun b hb => upd_ne hb) ⟨rs.set m r, ?_, (RsAt.set hr m h2).tk (tk_lst h1)⟩
    rw [upd_same, List.map_set]
end

end Fp

set_option Elab.async false
set_option linter.all false
set_option maxRecDepth 100000
set_option maxHeartbeats 4000000
set_option exponentiation.threshold 10000
namespace Fp
open PySem PySem.Spec PyProof.Rows L2
/-! ### lists of objects of one sort -/
def Obs {α : Type} (At : Hp → Addr → α → Prop) (H : Hp) (rs : List Addr) (ys : List α) : Prop := rs.length = ys.length ∧ ∀ (i : Nat) (r : Addr) (y : α), rs[i]? = some r → ys[i]? = some y → At H r y
/-- a sort of object that stands while tuples stand -/
def Stays {α : Type} (K : PySem.W.Frag) (At : Hp → Addr → α → Prop) : Prop := ∀ H H' r y, Tk K H H' → At H r y → At H' r y
section
variable {α : Type} {At : Hp → Addr → α → Prop} {K : PySem.W.Frag} {H H' : Hp}
theorem Obs.nil : Obs At H [] [] := ⟨rfl, fun i r y h => by simp at h⟩
theorem Obs.tk {rs : List Addr} {ys : List α} (st : Stays K At) (h : Obs At H rs ys) (e : Tk K H H') : Obs At H' rs ys := ⟨h.1, fun i r y h1 h2 => st _ _ _ _ e (h.2 i r y h1 h2)⟩
theorem Obs.append {rs qs : List Addr} {ys zs : List α} (h : Obs At H rs ys) (g : Obs At H qs zs) : Obs At H (rs ++ qs) (ys ++ zs) := by
  refine ⟨by rw [List.length_append, List.length_append, h.1, g.1], fun i r y h1 h2 => ?_⟩
  rcases Nat.lt_or_ge i rs.length with z | z
  · rw [List.getElem?_append_left z] at h1
    rw [List.getElem?_append_left (by rw [← h.1]; exact z)] at h2
    exact h.2 i r y h1 h2
  · rw [List.getElem?_append_right z] at h1
    rw [List.getElem?_append_right (by rw [← h.1]; exact z), ← h.1] at h2
    exact g.2 _ r y h1 h2
theorem Obs.one {r : Addr} {y : α} (h : At H r y) : Obs At H [r] [y] := by
  refine ⟨rfl, fun i q z h1 h2 => ?_⟩
  match i, h1, h2 with
  | 0, h1, h2 =>
    cases Option.some.inj h1
    cases Option.some.inj h2
    exact h
theorem Obs.get {rs : List Addr} {ys : List α} {i : Nat} {y : α} (h : Obs At H rs ys) (e : ys[i]? = some y) : ∃ r, rs[i]? = some r ∧ At H r y := by
  have hi := (List.getElem?_eq_some_iff.mp e).1
  rw [← h.1] at hi
  exact ⟨rs[i], List.getElem?_eq_getElem hi, h.2 i _ y (List.getElem?_eq_getElem hi) e⟩
/-- a list that may be changed, of such objects -/
def OLs (At : Hp → Addr → α → Prop) (H : Hp) (p : Addr) (ys : List α) : Prop := ∃ rs : List Addr, H p = some (.lst (rs.map V.ref)) ∧ Obs At H rs ys
theorem OLs.same {p : Addr} {ys : List α} (st : Stays K At) (h : OLs At H p ys) (e : Same H H') : OLs At H' p ys := by
  obtain ⟨rs, h1, h2⟩ := h
  exact ⟨rs, e _ _ h1, h2.tk st (Tk.same e)⟩
/-- a comprehension each turn of which gives such an object -/
theorem lc_obsW (st : Stays K At) {J : It} {n : Nat} {G : Hp → Prop} {Y : Nat → Hp → V → Hp → Prop} (w : Walk J n G Y) {g : TG} {te : TE} {vs : List Nat} {σ : L2.St} {H1 : Hp} (f : List α) (hf : f.length = n) (hn : n ≤ 900) (hG : ∀ HE, Same H1 HE → G HE)
    (hs : ∀ (k : Nat) (y : α) (x : V) (HE HE' : Hp) (R : VK), f[k]? = some y → Same H1 HE → Y k HE x HE' → (∀ r HF, Same HE HF → At HF r y → R (.ref r) HF) → g x (wipe σ vs) HE' fun σ2 H2 => wipe σ2 vs = wipe σ vs ∧ te σ2 H2 R)
    {Qd : Addr → Hp → Prop} (hd : ∀ D H2, Same H1 H2 → OLs At H2 D f → Qd D H2) : tLc (fun _ H2 R => R J H2) g tYes te vs σ H1 (refQ Qd) := by
  intro D nD
  have e1 := same_new (o := HO.lst []) nD
  refine lc_it w (fun k HE => ∃ qs : List Addr, Same H1 HE ∧ HE D = some (.lst (qs.map V.ref)) ∧ Obs At HE qs (f.take k)) ⟨[], e1, upd_same, Obs.nil⟩ ?_ ?_ ?_
  · rintro i HE _ ⟨_, sE, _⟩
    exact hG HE sE
  · rintro k x HE HE' hk ⟨qs, sE, hE, hqs⟩ hY
    have hql := hqs.1
    rw [List.length_take] at hql
    obtain ⟨y, hy⟩ : ∃ y, f[k]? = some y := ⟨f[k], List.getElem?_eq_getElem (by omega)⟩
    refine hs k y x HE HE' _ hy sE hY fun r HF sF hr => ?_
    have hE5 := sF _ _ hE
    refine ⟨_, hE5, by rw [List.length_map, hql]; exact small1000 (by omega), qs ++ [r], ?_, ?_, ?_⟩
    · intro b2 o hb2
      rw [upd_ne (ne_of_none hb2 nD)]
      exact (sE.trans sF) _ _ hb2
    · rw [upd_same, List.map_append]
      rfl
    · rw [List.take_add_one, hy]
      exact ((hqs.tk st (Tk.same sF)).append (Obs.one hr)).tk st (tk_lst hE5)
  · rintro HE ⟨qs, sE, hE, hqs⟩
    rw [List.take_of_length_le (by omega)] at hqs
    exact hd D HE sE ⟨qs, hE, hqs⟩
end
section
variable {K : PySem.W.Frag} {H : Hp} {Q : VK}
theorem cat_ints {p q : Addr} {xs ys : List Int} (a1 : SqT K H p (xs.map V.int)) (b1 : SqT K H q (ys.map V.int)) (hl : xs.length + ys.length ≤ 1000) (h : ∀ r H', Same H H' → SqT K H' r ((xs ++ ys).map V.int) → Q (.ref r) H') : rCatA K (.ref p) (.ref q) H Q := by
  refine ⟨p, q, _, _, rfl, rfl, a1, b1, ?_, fun z => ?_, fun _ z => ?_, fun _ _ r nr => ?_⟩
  · rw [List.length_map, List.length_map, sizeLine_eq]
    omega
  · have e : xs = [] := List.map_eq_nil_iff.mp z
    subst e
    exact h q H (Same.refl H) b1
  · have e : ys = [] := List.map_eq_nil_iff.mp z
    subst e
    refine h p H (Same.refl H) ?_
    rw [List.append_nil]
    exact a1
  · have s := same_new (o := HO.tup (xs.map V.int ++ ys.map V.int)) nr
    refine h r _ s ?_
    rw [List.map_append]
    exact SqT.of upd_same
end

end Fp

set_option Elab.async false
set_option linter.all false
set_option maxRecDepth 100000
set_option maxHeartbeats 4000000
set_option exponentiation.threshold 10000
namespace Fp
open PySem PySem.Spec PyProof.Rows L2
/-! ### what laws share -/
theorem mkL_rowD_sh {n : Nat} {g : Nat → Rat} (hn : n ≤ 21) (h : ∀ m, m < n → SmR 1900 (rdq (g m))) : Shows (.tuple (rowD (mkL n g))) := by
  refine (Shs.row (n := 1900) (by decide) (xs := mkL n g) fun x hx => ?_).tup.shows (by rw [mkL_len]; omega) (by decide)
  obtain ⟨j, hj⟩ := List.mem_iff_getElem?.mp hx
  have hj2 := (List.getElem?_eq_some_iff.mp hj).1
  rw [mkL_len] at hj2
  rw [mkL_at hj2] at hj
  cases Option.some.inj hj
  exact h j hj2
section
variable {P : Program} {w : World} {K : PySem.W.Frag} {mg : Str → Option Value} {base : Heap}
theorem drop1_row {H : Hp} {p : Addr} {xs : List RT} {Q : VK} (h : RowAt K H p xs) (hl : 1 ≤ xs.length) (hq : ∀ r H', Same H H' → RowAt K H' r (xs.drop 1) → Q (.ref r) H') : rSlA K (.ref p) (some 1) none H Q := by
  obtain ⟨rs, h1, h2⟩ := h
  have hl2 := h2.length
  refine ⟨p, _, rfl, h1, fun z => ?_, fun _ r nr => ?_⟩
  · have z1 := z.1
    rw [show (1 : Int) = ((1 : Nat) : Int) from rfl, HT.sIx_nat, List.length_map] at z1
    omega
  · rw [cutV_from1]
    have s := same_new (o := HO.tup ((rs.map V.ref).drop 1)) nr
    refine hq r _ s ⟨rs.drop 1, ?_, (h2.drop 1).tk (Tk.same s)⟩
    rw [List.map_drop]
    exact SqT.of upd_same
theorem noPart_go {σ : L2.St} {H : Hp} {k : Option Int → Hp → Prop} (h : k none H) : tNoPart σ H k := h
def spLaw (K : PySem.W.Frag) : Sp := fun vs H Q _ => ∃ (a : Addr) (ns : List Int), vs = [.ref a] ∧ SqL K H a (ns.map V.int) ∧ ∀ H', Q (.bl true) H'
end

end Fp

set_option Elab.async false
set_option linter.all false
set_option maxRecDepth 100000
set_option maxHeartbeats 4000000
set_option exponentiation.threshold 10000
namespace Fp
open PySem PySem.Spec PyProof.Rows L2
/-! ### renewed, by values -/
theorem IsCh.told {row : List RT} {step : RT} {n most : Nat} {chs : List RT} (h : IsCh row step n most chs) : chs = mkL most (chR row step) := by
  refine List.ext_getElem (by rw [mkL_len, h.len]) fun m h1 h2 => ?_
  have hm : m < most := by
    rw [mkL_len] at h2
    exact h2
  have e := mkL_at (g := chR row step) hm
  rw [List.getElem?_eq_getElem h2] at e
  rw [Option.some.inj e]
  obtain ⟨o1, o2⟩ := h.ok m _ (List.getElem?_eq_getElem h1)
  exact is_rdq o1.1 o2
theorem qa_mkL {n j : Nat} {g : Nat → Rat} (h : j < n) : qa (mkL n g) j = g j := by rw [qa_at (mkL_at h), qv_rdq]
theorem mkL_cons {n : Nat} {c : Nat → Rat} : mkL (n + 1) (laterF c) = (0, 1) :: mkL n c := by
  unfold mkL
  rw [List.range_succ_eq_map, List.map_cons, List.map_map]
  show rdq 0 :: _ = _
  rw [rdq_zero.mpr rfl]
  rfl
theorem mkL_drop {n : Nat} {g : Nat → Rat} : (mkL (n + 1) g).drop 1 = mkL n fun i => g (i + 1) := by
  unfold mkL
  rw [List.range_succ_eq_map, List.map_cons, List.map_map]
  rfl
section
variable {K : PySem.W.Frag} {H : Hp} {Q : VK}
/-- xs[1:] of a list -/
theorem drop1_ls {p : Addr} {xs : List RT} (h : LsM K H p xs) (q : ∀ b H', Same H H' → LsM K H' b (xs.drop 1) → Q (.ref b) H') : rSlL K (.ref p) (some 1) none H Q := by
  obtain ⟨as, a1, a2⟩ := h
  refine ⟨p, _, rfl, SqL.of a1, fun b nb => ?_⟩
  rw [cutV_from1]
  have e := same_new (o := HO.lst ((as.map V.ref).drop 1)) nb
  refine q b _ e ⟨as.drop 1, ?_, (a2.drop 1).tk (Tk.same e)⟩
  rw [upd_same, List.map_drop]
end
/-! ### a share: from nought to one, by a small bottom -/
structure Part (b : Int) (s : Rat) : Prop where
  pos : 0 < b
  le5 : b ≤ 5
  ov : Ov b s
  ge : 0 ≤ s
  le : s ≤ 1
theorem Part.sm {b : Int} {s : Rat} (h : Part b s) : Sm 3 b := by
  have := h.pos
  have := h.le5
  unfold Sm
  omega
theorem Part.rest {b : Int} {s : Rat} (h : Part b s) : Part b (1 - s) := by
  obtain ⟨h1, h2, ⟨T, hT⟩, h4, h5⟩ := h
  refine ⟨h1, h2, ⟨b - T, ?_⟩, by grind, by grind⟩
  have := cast_ne (Int.ne_of_gt h1)
  rw [hT, Rat.intCast_sub]
  grind
theorem Part.sz {b : Int} {s : Rat} (h : Part b s) : Sz b 0 s := Sz.pos h.ov h.ge (by rw [Rat.pow_zero]; exact h.le)
theorem Part.pow {b : Int} {s : Rat} (h : Part b s) : ∀ j : Nat, Den b j (s ^ j) ∧ 0 ≤ s ^ j ∧ s ^ j ≤ 1
  | 0 => by
    rw [Rat.pow_zero]
    refine ⟨⟨1, ?_⟩, by decide, Rat.le_refl⟩
    rw [Int.pow_zero]
    grind
  | j + 1 => by
    obtain ⟨i1, i2, i3⟩ := h.pow j
    rw [Rat.pow_succ]
    have m := mul_01 ⟨i2, i3⟩ ⟨h.ge, h.le⟩
    have d : Den b 1 s := by
      obtain ⟨T, hT⟩ := h.ov
      refine ⟨T, ?_⟩
      rw [Int.pow_succ, Int.pow_zero, Int.one_mul]
      exact hT
    exact ⟨i1.mul h.pos d, m.1, m.2⟩
theorem Part.low {t b : Int} (h0 : 0 ≤ t) (h1 : t ≤ b) (hb : 0 < b) (h5 : b ≤ 5) : Part b (qv (low2 t b)) := by
  rw [qv_low2 hb]
  obtain ⟨x1, x2⟩ := div_01 h0 hb h1
  exact ⟨hb, h5, ⟨t, rfl⟩, x1, x2⟩
def thinQ (a : Nat → Rat) (s : Rat) (n : Nat) : Rat := renQ (fun j => (1 - s) * a j) (laterF fun j => s * a j) n
theorem pQ_scale (a : Nat → Rat) (c : Rat) : ∀ j m, pQ (fun i => c * a i) j m = c ^ j * pQ a j m
  | 0, m => by
    show oneAt m = c ^ 0 * oneAt m
    rw [Rat.pow_zero]
    grind
  | j + 1, m => by
    show (sumTo m fun k => c * a k * pQ (fun i => c * a i) j (m - 1 - k)) = c ^ (j + 1) * sumTo m fun k => a k * pQ a j (m - 1 - k)
    rw [sumTo_mul]
    refine sumTo_congr fun k _ => ?_
    rw [pQ_scale a c j, Rat.pow_succ]
    grind
/-- thinned: by how many parts there are, all but the last one lost -/
theorem thin_parts (a : Nat → Rat) (s : Rat) {n N : Nat} (h : n ≤ N) : thinQ a s n = sumTo N fun j => s * (1 - s) ^ j * pQ a (j + 1) n := by
  rcases Nat.eq_zero_or_pos N with z | z
  · have e : n = 0 := by omega
    subst z e
    unfold thinQ
    rw [conv_later, sumTo_zero, sumTo_zero]
  obtain ⟨M, rfl⟩ : ∃ M, N = M + 1 := ⟨N - 1, by omega⟩
  unfold thinQ
  rw [conv_later]
  have e : (sumTo n fun k => s * a k * renQ (fun j => (1 - s) * a j) oneAt (n - 1 - k)) = sumTo n fun k => sumTo (M + 1) fun j => s * a k * ((1 - s) ^ j * pQ a j (n - 1 - k)) := by
    refine sumTo_congr fun k hk => ?_
    rw [← put_parts (fun j => (1 - s) * a j) (n - 1 - k) M (by omega), sumTo_mul]
    refine sumTo_congr fun j _ => ?_
    rw [pQ_scale]
  rw [e, sumTo_swap]
  refine sumTo_congr fun j _ => ?_
  show _ = s * (1 - s) ^ j * sumTo n fun k => a k * pQ a j (n - 1 - k)
  rw [sumTo_mul]
  refine sumTo_congr fun k _ => ?_
  grind

end Fp

set_option Elab.async false
set_option linter.all false
set_option maxRecDepth 100000
set_option maxHeartbeats 4000000
set_option exponentiation.threshold 10000
namespace Fp
open PySem PySem.Spec PyProof.Rows L2
/-! ### all chances together -/
structure Tot (row : List RT) (step : RT) (N E : Int) : Prop where
  nn : 0 ≤ N
  ee : 0 ≤ E
  pos : 0 < N + E
  le : N + E ≤ 255
  val : rowQ row + behQ row step = (N : Rat) / ((N + E : Int) : Rat)
theorem behQ_snoc (ys : List RT) (y step : RT) : behQ (ys ++ [y]) step = qv y * qv step / (1 - qv step) := by
  unfold behQ
  rw [List.getLast?_append]
  rfl
theorem rowQ_snoc (ys : List RT) (y : RT) : rowQ (ys ++ [y]) = rowQ ys + qv y := by
  unfold rowQ
  rw [List.map_append]
  exact sum_snoc _ _
theorem rowOf_sum {D k : Int} (hD : 0 < D) : ∀ ws : List Int, ((ws.map fun x => low2 (k * x) D).map qv).sum = ((k * ws.sum : Int) : Rat) / (D : Rat)
  | [] => by
    show (0 : Rat) = ((k * 0 : Int) : Rat) / _
    rw [Int.mul_zero]
    have := cast_ne (Int.ne_of_gt hD)
    show (0 : Rat) = 0 / _
    grind
  | x :: r => by
    have ih := rowOf_sum hD (k := k) r
    show qv (low2 (k * x) D) + ((r.map fun x => low2 (k * x) D).map qv).sum = _
    rw [ih, qv_low2 hD, List.sum_cons, Int.mul_add, Rat.intCast_add]
    have := cast_ne (Int.ne_of_gt hD)
    grind
theorem BaseLife.tot {row : List RT} {step : RT} (h : BaseLife row step) : ∃ N E, Tot row step N E := by
  rcases h with ⟨ws, extra, m, rfl⟩ | ⟨rfl, rfl⟩
  · obtain ⟨w0, w1⟩ := m.whole
    obtain ⟨s0, s1, s2, s3⟩ := m.step_ok
    have hS := sum_bound m.nn
    have hL := m.last
    have hE := m.ex
    refine ⟨(step.2 - step.1) * ws.sum + step.1 * lastW ws, (step.2 - step.1) * extra, ?_⟩
    have e : (step.2 - step.1) * ws.sum + step.1 * lastW ws + (step.2 - step.1) * extra = wholeOf ws extra step := by
      unfold wholeOf
      rw [Int.mul_add]
      omega
    refine ⟨Int.add_nonneg (Int.mul_nonneg (by omega) hS.1) (Int.mul_nonneg s0 (Int.le_of_lt hL)), Int.mul_nonneg (by omega) hE.1, by rw [e]; exact w0, by rw [e]; omega, ?_⟩
    rw [e]
    rcases snoc_cases ws with z | ⟨ys, y, z⟩
    · exact absurd z m.ne
    · have ey : lastW ws = y := by
        rw [z]
        unfold lastW
        simp
      have hr : rowQ (rowOf ws extra step) = (((step.2 - step.1) * ws.sum : Int) : Rat) / (wholeOf ws extra step : Rat) := rowOf_sum w0 ws
      have hb : behQ (rowOf ws extra step) step = ((step.1 * lastW ws : Int) : Rat) / (wholeOf ws extra step : Rat) := by
        have er : rowOf ws extra step = (ys.map fun x => low2 ((step.2 - step.1) * x) (wholeOf ws extra step)) ++ [low2 ((step.2 - step.1) * y) (wholeOf ws extra step)] := by
          show ws.map _ = _
          conv => lhs; rw [z]
          rw [List.map_append]
          rw [← z]
          rfl
        rw [er, behQ_snoc, qv_low2 w0, ey]
        have h1 := cast_ne (Int.ne_of_gt w0)
        have h2 := gap_val s3 s1
        have h3 := cast_ne (Int.ne_of_gt s3.1)
        rw [Rat.intCast_mul, Rat.intCast_mul, Rat.intCast_sub]
        unfold qv at *
        have h4 : (step.2 : Rat) - (step.1 : Rat) ≠ 0 := by
          intro z4
          apply h2
          grind
        grind
      rw [hr, hb, Rat.intCast_add]
      have h1 := cast_ne (Int.ne_of_gt w0)
      grind
  · refine ⟨0, 1, by decide, by decide, by decide, by decide, ?_⟩
    show (0 : Rat) + 0 = ((0 : Int) : Rat) / _
    show (0 : Rat) + 0 = 0 / _
    grind
theorem AnyLife.tot {row : List RT} {step : RT} (h : AnyLife row step) : ∃ N E, Tot row step N E := by
  have st := h.ok.1.st
  rcases h with h | ⟨row0, l, h, h5, hs, hl, rfl⟩ | ⟨row0, h, h5, rfl, hs⟩
  · exact h.tot
  · obtain ⟨N, E, t⟩ := h.tot
    obtain ⟨s1, s2, _, _⟩ := h.sm
    refine ⟨N, E, t.nn, t.ee, t.pos, t.le, ?_⟩
    rw [← t.val, rowQ_snoc, behQ_snoc, (qv_rT (s1 l (List.mem_of_getElem? hl)).1.1 s2.1).2]
    rcases snoc_cases row0 with z | ⟨ys, y, z⟩
    · rw [z] at hl
      simp at hl
    · have ey : l = y := by
        rw [z] at hl
        simpa using hl.symm
      rw [z, behQ_snoc, ← ey]
      have := gap_val st.1.1 st.2.2
      grind
  · obtain ⟨N, E, t⟩ := h.tot
    refine ⟨N, E, t.nn, t.ee, t.pos, t.le, ?_⟩
    rw [← t.val, rowQ_snoc, behQ_snoc, qv_nought]
    have hb : behQ row0 (0, 1) = 0 := by
      unfold behQ
      split
      · rfl
      · rw [qv_nought]
        grind
    rw [hb]
    grind

end Fp

set_option Elab.async false
set_option linter.all false
set_option maxRecDepth 100000
set_option maxHeartbeats 4000000
set_option exponentiation.threshold 10000
namespace Fp
open PySem PySem.Spec PyProof.Rows L2
/-! ### added: told as a tuple -/
section
variable {P : Program} {w : World} {K : PySem.W.Frag} {mg : Str → Option Value} {base : Heap}
def spOobT (K : PySem.W.Frag) : Sp := fun vs H Q _ => ∃ (p : Addr) (xs : List RT) (n d : Nat) (D : Int), vs = [.ref p] ∧ RowAt K H p xs ∧ Over1 n d D xs ∧ n ≤ 4000 ∧ d ≤ 4000 ∧
  ∀ z zl c H', Same H H' → H' z = some (.tup [.ref zl, .int c]) → H' zl = some (.lst ((topsOn c xs).map V.int)) → 0 < c → c ∣ D → (∀ x ∈ xs, x.2 ∣ c) → Q (.ref z) H'
theorem ok_oobT {f fC : Addr} {fd fdC : FuncData} (F : Fun K "on_one_bottom" "on_one_bottom" s_oob f fd) (FC : Fun K "common_divisor" "common_divisor" s_cd fC fdC) (bC : Binds K fdC ["one", "other"] []) (gC : mg "common_divisor" = some (.ref fC)) (ma : mg "abs" = none) :
    FnOk P w K mg base CX0 2 f fd ["told"] (spOobT K) := by
  have GC : FnOk P w K mg base CX0 1 fC fdC ["one", "other"] spCd := ok_cd FC ma
  refine F.ok sc_oob (fun vs H Q E h => ?_) (fun cdv A outer s H vs Q E hr h => ?_)
  · obtain ⟨_, _, _, _, _, rfl, _⟩ := h
    rfl
  · obtain ⟨p, xs, n, d, D, rfl, hlst, O, hn, hd, q⟩ := h
    obtain ⟨rs, r1, r2⟩ := id hlst
    have hl := r2.length
    refine ⟨_, (pss_cons (ps_set (i := 1) sc_oob.nd rfl (.inr rfl) pe_int) (pss_cons (ps_for PassesOwn.never rfl (pi_tup (pv 0)) (pg_tup rfl (pgs_cons (pg_name (i := 2) sc_oob.nd rfl (.inl rfl)) (pgs_cons (pg_name (i := 3) sc_oob.nd rfl (.inl rfl)) pgs_nil)))
          (pss_one (ps_set (i := 1) sc_oob.nd rfl (.inr rfl) (pe_op op_mulA (pe_op op_fdivA (pv 1) (pe_call GC hr (by rfl) gC FC.kp bC .nil pass0 (pa_cons (pv 1) (pa_cons (pv 3) pa_nil)))) (pv 3))))) (pss_one (ps_ret (pe_tup (pa_cons (pe_lc (own := [("top", 2), ("bottom", 3)]) (g := gTup K 2 (gCons (gName 2) (gCons (gName 3) gNil))) (tt := tYes) (te := tOp (rI CMulA fun i j => .int (i * j)) (tVar 2) (tOp (rI CDivA fun i j => .int (i.fdiv j)) (tVar 1) (tVar 3))) rfl sc_oob.nd (pi_tup (pv 0)) (blkOk_by (own := [("top", 2), ("bottom", 3)]) (N := N_oob) (sc := defScope s_oob) (by decide +kernel))
          (fun _ _ _ _ _ => pg_tup rfl (pgs_cons (pg_name (i := 2) sc_oob.nd rfl (.inl rfl)) (pgs_cons (pg_name (i := 3) sc_oob.nd rfl (.inl rfl)) pgs_nil))) (fun _ _ _ _ _ => pts_nil) (fun _ _ _ _ _ => pe_op op_mulA (pv 2) (pe_op op_fdivA (pv 1) (pv 3)))) (pa_cons (pv 1) pa_nil))))))), ?_⟩
    refine ⟨_, rfl, p, rfl, ⟨_, r1⟩, for_tup (K := K) (a := p) (xs := rs.map V.ref) (fun i σ H1 => H1 = H ∧ ∃ (c : Int) (y2 y3 : Option V), σ = [some (.ref p), some (.int c), y2, y3] ∧ 0 < c ∧ c ∣ D ∧ ∀ x ∈ xs.take i, x.2 ∣ c) ?_ ?_ ?_ ?_⟩
    · exact ⟨rfl, 1, _, _, rfl, by decide, Int.one_dvd D, fun x hx => by simp at hx⟩
    · rintro i σ H1 _ ⟨rfl, _⟩
      exact r1
    · rintro i y σ H1 hi ⟨rfl, c, y2, y3, rfl, c0, cD, hc⟩
      have hi2 : i < xs.length := by
        have := (List.getElem?_eq_some_iff.mp hi).1
        rw [List.length_map, hl] at this
        exact this
      have hg : xs[i]? = some xs[i] := List.getElem?_eq_getElem hi2
      obtain ⟨r, er, hr2⟩ := r2.get hg
      have ey : y = .ref r := by
        rw [List.getElem?_map, er] at hi
        exact (Option.some.inj hi).symm
      subst ey
      obtain ⟨b0, bD, _⟩ := O.ok xs[i] (List.getElem_mem hi2)
      have sc : Sm d c := dvd_small cD O.pos O.sm
      have sb : Sm d xs[i].2 := dvd_small bD O.pos O.sm
      have hg0 : 0 < Int.gcd c xs[i].2 := Nat.gcd_pos_of_pos_right _ (by omega)
      have hgs : Sm d ((Int.gcd c xs[i].2 : Nat) : Int) := by
        unfold Sm at *
        rw [Int.natAbs_natCast]
        exact Nat.lt_of_le_of_lt (Nat.gcd_le_right _ (by omega)) sb
      have d0 : 0 < d := by
        rcases Nat.eq_zero_or_pos d with z | z
        · rw [z] at sc
          unfold Sm at sc
          omega
        · exact z
      have hq1 : Sm d (c.fdiv ((Int.gcd c xs[i].2 : Nat) : Int)) := Nat.lt_of_le_of_lt (fdiv_le (by omega) (Int.gcd_dvd_left ..)) sc
      obtain ⟨k0, k1, k2, k3⟩ := lcm_ok c0 b0 cD bD
      refine ⟨r, _, rfl, hr2, rfl, _, _, rfl, _, _, rfl, rfl, ?_⟩
      refine ⟨_, rfl, _, rfl, _, rfl, c, xs[i].2, rfl, ?_⟩
      refine ⟨c, _, rfl, rfl, ⟨by omega, Nat.lt_of_lt_of_le (hgs.log d0) (by omega)⟩, _, rfl, _, _, rfl, rfl, hq1.cmul sb d0 d0 (by omega), rfl, _, _, _, rfl, k0, k1, fun x hx => ?_⟩
      rw [List.take_add_one, hg] at hx
      rcases List.mem_append.mp hx with z | z
      · exact Int.dvd_trans (hc x z) k2
      · rw [List.mem_singleton.mp z]
        exact k3
    · rintro σ H1 ⟨rfl, c, y2, y3, rfl, c0, cD, hc⟩
      rw [List.length_map, hl, List.take_length] at hc
      have sc : Sm d c := dvd_small cD O.pos O.sm
      have d0 : 0 < d := by
        rcases Nat.eq_zero_or_pos d with z | z
        · rw [z] at sc
          unfold Sm at sc
          omega
        · exact z
      refine ⟨_, rfl, p, rfl, ⟨_, r1⟩, fun R nR => ?_⟩
      have e1 := same_new (o := HO.lst []) nR
      refine lc_tup (K := K) (a := p) (xs := rs.map V.ref) (fun i H2 => Same H1 H2 ∧ H2 R = some (.lst ((topsOn c (xs.take i)).map V.int))) ?_ ?_ ?_ ?_
      · exact ⟨e1, upd_same⟩
      · rintro i H2 _ ⟨s2, _⟩
        exact sqT_same s2 r1
      · rintro i y H2 hi ⟨s2, hR⟩
        have hi2 : i < xs.length := by
          have := (List.getElem?_eq_some_iff.mp hi).1
          rw [List.length_map, hl] at this
          exact this
        have hg : xs[i]? = some xs[i] := List.getElem?_eq_getElem hi2
        obtain ⟨r, er, hr2⟩ := r2.get hg
        have ey : y = .ref r := by
          rw [List.getElem?_map, er] at hi
          exact (Option.some.inj hi).symm
        subst ey
        obtain ⟨b0, bD, sn⟩ := O.ok xs[i] (List.getElem_mem hi2)
        have sb : Sm d xs[i].2 := dvd_small bD O.pos O.sm
        have hdv := hc xs[i] (List.getElem_mem hi2)
        have ef : c.fdiv xs[i].2 = c / xs[i].2 := Int.fdiv_eq_ediv_of_nonneg _ (by omega)
        have sq : Sm d (c.fdiv xs[i].2) := Nat.lt_of_le_of_lt (fdiv_le b0 hdv) sc
        refine ⟨r, _, rfl, hr2.tk (Tk.same s2), rfl, _, _, rfl, _, _, rfl, rfl, rfl, tYes_go ?_⟩
        refine iteT ?_
        refine ⟨_, rfl, _, rfl, _, rfl, c, xs[i].2, rfl, rfl, ⟨by omega, Nat.lt_of_lt_of_le (sb.log d0) (by omega)⟩, _, _, rfl, rfl, (sn.mono (show n ≤ n + 1 by omega)).cmul sq (by omega) d0 (by omega), _, hR, ?_, ?_, ?_⟩
        · rw [List.length_map]
          unfold topsOn
          rw [List.length_map, List.length_take]
          have := O.len
          exact small1000 (by omega)
        · intro b o hb
          rw [upd_ne (ne_of_none hb nR)]
          exact s2 _ _ hb
        · rw [upd_same, List.take_add_one, hg]
          unfold topsOn
          rw [List.map_append, List.map_append, ef]
          rfl
      · rintro H2 ⟨s2, hR⟩
        rw [List.length_map, hl, List.take_length] at hR
        refine ⟨_, rfl, by show 2 ≤ sizeLine; decide, fun z nz => ?_⟩
        have e2 := same_new (o := HO.tup [.ref R, .int c]) nz
        exact q z R c _ (s2.trans e2) upd_same (e2 _ _ hR) c0 cD hc
def spAddedT (K : PySem.W.Frag) : Sp := fun vs H Q _ => ∃ (p : Addr) (xs : List RT) (n d : Nat) (D : Int), vs = [.ref p] ∧ RowAt K H p xs ∧ Over1 n d D xs ∧ n ≤ 4000 ∧ d ≤ 4000 ∧
  ∀ z x H', Same H H' → RAt K H' z x → Red x → qv x = (xs.map qv).sum → x.2 ∣ D → Sm (n + d + 11) x.1 → Q (.ref z) H'
theorem ok_addedT {f fO fR : Addr} {fd fdO fdR : FuncData} (F : Fun K "added" "added" s_added f fd) (FO : Fun K "on_one_bottom" "on_one_bottom" s_oob fO fdO) (bO : Binds K fdO ["told"] []) (gO : mg "on_one_bottom" = some (.ref fO)) (GO : FnOk P w K mg base CX0 2 fO fdO ["told"] (spOobT K))
    (FR : Fun K "ratio" "ratio" s_ratio fR fdR) (bR : Binds K fdR ["top", "bottom"] []) (gR : mg "ratio" = some (.ref fR)) (GR : FnOk P w K mg base CX0 2 fR fdR ["top", "bottom"] spRat0) (ms : mg "sum" = none) : FnOk P w K mg base CX0 3 f fd ["told"] (spAddedT K) := by
  refine F.ok sc_added (fun vs H Q E h => ?_) (fun cdv A outer s H vs Q E hr h => ?_)
  · obtain ⟨_, _, _, _, _, rfl, _⟩ := h
    rfl
  · obtain ⟨p, xs, n, d, D, rfl, hlst, O, hn, hd, q⟩ := h
    refine ⟨_, (pss_cons (ps_asg (pe_call GO hr (by rfl) gO FO.kp bO .nil pass0 (pa_cons (pv 0) pa_nil)) (pg_tup rfl (pgs_cons (pg_name (i := 1) sc_added.nd rfl (.inl rfl)) (pgs_cons (pg_name (i := 2) sc_added.nd rfl (.inl rfl)) pgs_nil)))) (pss_one (ps_ret (pe_call GR hr (by rfl) gR FR.kp bR .nil pass0 (pa_cons (pe_callB (cr_sum rfl) (by rfl) ms (by decide +kernel) (pa_cons (pv 1) pa_nil)) (pa_cons (pv 2) pa_nil)))))), ?_⟩
    refine ⟨_, rfl, p, xs, n, d, D, rfl, hlst, O, hn, hd, fun z zl c H1 s1 hz hzl c0 cD hc => ?_⟩
    refine ⟨z, _, rfl, SqT.of hz, rfl, _, _, rfl, _, _, rfl, rfl, ?_⟩
    have sc : Sm d c := dvd_small cD O.pos O.sm
    refine ⟨_, rfl, zl, _, rfl, SqL.of hzl, _, rfl, _, c, rfl, sc.mono (show d ≤ 8000 by omega), Int.ne_of_gt c0, fun y ny => ?_⟩
    have e := same_new (o := HO.tup [.int (ratT (topsOn c xs).sum c), .int (ratB (topsOn c xs).sum c)]) ny
    have red : Red (low2 (topsOn c xs).sum c) := low2_red (Int.ne_of_gt c0)
    have val : qv (low2 (topsOn c xs).sum c) = (((topsOn c xs).sum : Int) : Rat) / (c : Rat) := qv_low2 c0
    obtain ⟨y1, y2⟩ := red_small red c0 val
    refine q y (low2 (topsOn c xs).sum c) _ (s1.trans e) (SqT.of upd_same) red (val.trans (tops_sum c0 fun x hx => ⟨(O.ok x hx).1, hc x hx⟩)) (Int.dvd_trans y1 cD) ?_
    have t := tops_sm (n := n) c0 O.pos cD O.sm (xs := xs) fun x hx => ⟨(O.ok x hx).1, (O.ok x hx).2.2⟩
    have hlen := O.len
    unfold Sm
    have t2 : xs.length * 2 ^ (n + d) ≤ 1000 * 2 ^ (n + d) := Nat.mul_le_mul_right _ hlen
    have t3 : 2 ^ (n + d + 11) = 2048 * 2 ^ (n + d) := by rw [Nat.pow_add, Nat.mul_comm]
    have t4 : 0 < 2 ^ (n + d) := Nat.pow_pos (by decide)
    omega
theorem addT_go {H : Hp} {Q : VK} {p : Addr} {P : Int} {n s k : Nat} {f : Nat → Rat} (h : RowAt K H p (mkL n f)) (hP : 0 < P) (sP : Sm s P) (z : ∀ j, j < n → Sz P k (f j)) (hn : n ≤ 1000) (hs : s ≤ 2500) (hk : k ≤ 900)
    (q : ∀ r H', Same H H' → RAt K H' r (rdq (sumTo n f)) → Q (.ref r) H') : spAddedT K [.ref p] H Q E0 := by
  refine ⟨p, _, _, _, P, rfl, h, over_mkL hP sP z hn, by omega, by omega, fun y x HF sF hy rx vx _ _ => ?_⟩
  have ex : x = rdq (sumTo n f) := is_rdq rx (by rw [vx, mkL_sum])
  rw [ex] at hy
  exact q y HF sF hy
end

end Fp

set_option Elab.async false
set_option linter.all false
set_option maxRecDepth 100000
set_option maxHeartbeats 4000000
set_option exponentiation.threshold 10000
namespace Fp
open PySem PySem.Spec PyProof.Rows L2
/-! ### what laws need of a life -/
structure LF (row : List RT) (step : RT) : Prop where
  ok : LifeOk 20 row step
  len : row.length ≤ 7
  nil : row = [] → step = (0, 1)
  w : ∃ W, WOk W row
  ch : ∃ D, Ch01 D (chR row step) 20
  tot : ∃ N E, Tot row step N E
theorem AnyLife.lf {row : List RT} {step : RT} (h : AnyLife row step) : LF row step := ⟨h.ok.1, h.ok.2.1, h.ok.2.2, h.w, h.ch01, h.tot⟩
theorem ch01_of {row : List RT} {step : RT} {W : Int} (hW : WOk W row) (L : LifeOk 20 row step) (q1 : ∀ x ∈ row, 0 ≤ qv x ∧ qv x ≤ 1) (q2 : 0 ≤ qv step ∧ qv step ≤ 1) (s4 : 0 < step.2 ∧ step.2 ≤ 4) : Ch01 (W * step.2 ^ 20) (chR row step) 20 := by
  have sm20 : Sm 41 (step.2 ^ 20) := by
    obtain ⟨z1, z2⟩ := pow_four s4 20
    have e : (4 : Int) ^ 20 = 1099511627776 := by decide
    have e2 : (2 : Nat) ^ 41 = 2199023255552 := by decide
    unfold Sm
    rw [e2]
    rw [e] at z2
    omega
  have hD : 0 < W * step.2 ^ 20 := Int.mul_pos hW.pos (Int.pow_pos L.st.1.1.1)
  refine ⟨hD, (hW.sm.mul (show Sm 41 (step.2 ^ 20) from sm20)).mono (by decide), fun k _ => (chR_01 q1 q2 k).1, fun k _ => (chR_01 q1 q2 k).2, fun k hk => ?_⟩
  obtain ⟨x, sx, vx⟩ := ch_ex L k
  rw [← vx]
  exact Den.of hD sx.1.1 (ch_dvdW hW.dvd L.sm L.st.1.1 sx.1 vx hk)
theorem LF.sh {row : List RT} {step : RT} (h : LF row step) : Sh 500000 3 (lifeD row step) := Sh.life (n := 1900) (by decide) (fun x hx => (h.ok.sm x hx).mono (by decide)) (h.ok.st.1.mono (by decide)) (by have := h.len; omega)
theorem LF.small {row : List RT} {step : RT} {W N E : Int} (h1 : ∀ y ∈ row, SmR 20 y ∧ y.2 ∣ W ∧ 0 ≤ qv y ∧ qv y ≤ 1) (hW : 0 < W) (sW : Sm 14 W) (hs : StepOk 5 step) (hl : row.length ≤ 7) (hn : row ≠ []) (q2 : 0 ≤ qv step ∧ qv step ≤ 1) (s4 : 0 < step.2 ∧ step.2 ≤ 4) (t : Tot row step N E) : LF row step := by
  have L : LifeOk 20 row step := ⟨fun y hy => (h1 y hy).1, hs, by omega, by decide, by decide⟩
  have w : WOk W row := ⟨hW, sW, fun y hy => (h1 y hy).2.1⟩
  exact ⟨L, hl, fun z => absurd z hn, ⟨W, w⟩, ⟨_, ch01_of w L (fun x hx => (h1 x hx).2.2) q2 s4⟩, ⟨N, E, t⟩⟩

end Fp

set_option Elab.async false
set_option linter.all false
set_option maxRecDepth 100000
set_option maxHeartbeats 4000000
set_option exponentiation.threshold 10000
namespace Fp
open PySem PySem.Spec PyProof.Rows L2
/-! ### what a life lacks, told by the law -/
structure Lost (K : PySem.W.Frag) (H : Hp) (lo : Addr) (row : List RT) (step : RT) (x0 : RT) : Prop where
  at0 : RAt K H lo x0
  red : Red x0
  val : qv x0 = 1 - restR row step 0
  s1 : Sm 2360 x0.1
  s2 : Sm 1360 x0.2
theorem Lost.tk {K : PySem.W.Frag} {H H' : Hp} {lo : Addr} {row : List RT} {step x0 : RT} (h : Lost K H lo row step x0) (e : Tk K H H') : Lost K H' lo row step x0 := ⟨h.at0.tk e, h.red, h.val, h.s1, h.s2⟩
/-- one less the rest -/
theorem lost_ok {K : PySem.W.Frag} {H : Hp} {p : Addr} {row : List RT} {step : RT} {n : Nat} {i : Nat} {σ : L2.St} {Q : VK} (hi : σ[i]? = some (some (.ref p))) (hlife : LifeAt K H p row step) (L : LifeOk n row step) (hnil : row = [] → step = (0, 1))
    (q : ∀ lo x0 H', Same H H' → Lost K H' lo row step x0 → Q (.ref lo) H') :
    tCall (spTwo K (fun a b c d => a * d - c * b)) [] E0 (tCons (tTup (tCons (tC (.int 1)) (tCons (tC (.int 1)) tNil))) (tCons (tCall (spLrest K) [] E0 (tCons (tVar i) (tCons (tC (.int 0)) tNil))) tNil)) σ H Q := by
  refine ⟨by show 2 ≤ sizeLine; decide, fun b3 m3 => ?_⟩
  have e3 := same_new (o := HO.tup [.int 1, .int 1]) m3
  refine ⟨_, hi, p, row, step, n, 0, rfl, hlife.tk (Tk.same e3), L, hnil, by decide, fun b4 y H4 s4 hb4 ry vy sy1 sy2 => ?_⟩
  refine ⟨b3, b4, _, _, _, _, rfl, ⟨SqT.of (s4 _ _ upd_same), hb4, by unfold Sm; decide, by unfold Sm; decide, sy1.mono (by decide), sy2.mono (by decide), by decide, ry.1⟩, fun lo mlo => ?_⟩
  have e5 := same_new (o := HO.tup [.int (rM (1, 1) y).1, .int (rM (1, 1) y).2]) mlo
  obtain ⟨w1, w2⟩ := qv_rM one_red ry
  have hden : (0 : Int) < 1 * y.2 := by have := ry.1; omega
  refine q lo (rM (1, 1) y) _ (e3.trans (s4.trans e5)) ⟨SqT.of upd_same, w1, ?_, ?_, ?_⟩
  · rw [w2, qv_one, vy]
  · refine ratT_sm hden ?_
    rw [Int.one_mul, Int.mul_one]
    exact (sy2.mono (show 1350 ≤ 2355 by decide)).sub (sy1.mono (show 2350 ≤ 2355 by decide)) |>.mono (by decide)
  · refine ratB_sm hden ?_
    rw [Int.one_mul]
    exact sy2.mono (by decide)
/-- sum([lost, rest(life, k)]) -/
theorem lasts_ok {K : PySem.W.Frag} {H : Hp} {p lo : Addr} {row : List RT} {step x0 : RT} {n k : Nat} {i j : Nat} {te : TE} {σ : L2.St} {Q : VK} (hi : σ[i]? = some (some (.ref p))) (hj : σ[j]? = some (some (.ref lo))) (hlife : LifeAt K H p row step) (L : LifeOk n row step) (hnil : row = [] → step = (0, 1)) (hk : k ≤ 70)
    (V : Lost K H lo row step x0) (hte : ∀ H' (Q : VK), Q (.int (k : Int)) H' → te σ H' Q)
    (q : ∀ z H', Same H H' → RAt K H' z (rdq (1 - sumCh row step k)) → Q (.ref z) H') :
    tCall (spLsum K LstAt) [] E0 (tCons (tLst (tCons (tVar j) (tCons (tCall (spLrest K) [] E0 (tCons (tVar i) (tCons te tNil))) tNil))) tNil) σ H Q := by
  have hs := gap_val L.st.1.1 L.st.2.2
  refine ⟨_, hj, _, hi, ?_⟩
  refine hte _ _ ?_
  refine ⟨p, row, step, n, k, rfl, hlife, L, hnil, hk, fun b y H2 s2 hb ry vy sy1 sy2 => ?_⟩
  refine ⟨by show 2 ≤ sizeLine; decide, fun c nc => ?_⟩
  have e3 := same_new (o := HO.lst [.ref lo, .ref b]) nc
  have O := over_two V.red.1 ry.1 V.s1 (sy1.mono (show 2350 ≤ 2360 by decide)) V.s2 sy2
  refine ⟨c, [x0, y], _, _, _, rfl, ⟨[lo, b], SqL.of upd_same, .cons (V.at0.tk (Tk.same (s2.trans e3))) (.cons (hb.tk (Tk.same e3)) .nil)⟩, O, by decide, by decide, fun z u H4 s4 hz ru vu _ _ => ?_⟩
  have hu : qv u = 1 - sumCh row step k := by
    rw [vu, sum_two, V.val, vy, restR_sum hs k]
    grind
  refine q z _ (s2.trans (e3.trans s4)) ?_
  rw [← is_rdq ru hu]
  exact hz
/-- lives in a row -/
inductive LvAt (K : PySem.W.Frag) (H : Hp) : List Addr → List (List RT × RT) → Prop
  | nil : LvAt K H [] []
  | cons {p : Addr} {x : List RT × RT} {ps : List Addr} {xs : List (List RT × RT)} : LifeAt K H p x.1 x.2 → LvAt K H ps xs → LvAt K H (p :: ps) (x :: xs)
section
variable {K : PySem.W.Frag} {H H' : Hp}
theorem LvAt.tk : ∀ {ps : List Addr} {xs : List (List RT × RT)}, LvAt K H ps xs → Tk K H H' → LvAt K H' ps xs
  | _, _, .nil, _ => .nil
  | _, _, .cons h r, e => .cons (h.tk e) (r.tk e)
theorem LvAt.length : ∀ {ps : List Addr} {xs : List (List RT × RT)}, LvAt K H ps xs → ps.length = xs.length
  | _, _, .nil => rfl
  | _, _, .cons _ r => congrArg (· + 1) r.length
theorem LvAt.get : ∀ {ps : List Addr} {xs : List (List RT × RT)} {i : Nat} {p : Addr}, LvAt K H ps xs → ps[i]? = some p → ∃ x, xs[i]? = some x ∧ LifeAt K H p x.1 x.2
  | _, _, _, _, .nil, e => by simp at e
  | _, _, 0, _, .cons h _, e => by
    cases Option.some.inj e
    exact ⟨_, rfl, h⟩
  | _, _, i + 1, p, .cons _ r, e => LvAt.get (i := i) (p := p) r e
theorem LvAt.append : ∀ {ps qs : List Addr} {xs ys : List (List RT × RT)}, LvAt K H ps xs → LvAt K H qs ys → LvAt K H (ps ++ qs) (xs ++ ys)
  | _, _, _, _, .nil, s => s
  | _, _, _, _, .cons h r, s => .cons h (r.append s)
theorem LvAt.dp : ∀ {ps : List Addr} {xs : List (List RT × RT)}, LvAt K H ps xs → DpAll K H (ps.map V.ref) (xs.map fun x => lifeD x.1 x.2)
  | _, _, .nil => .nil
  | _, _, .cons h r => .cons h.dp r.dp
end

end Fp

set_option Elab.async false
set_option linter.all false
set_option maxRecDepth 100000
set_option maxHeartbeats 4000000
set_option exponentiation.threshold 10000
namespace Fp
open PySem PySem.Spec PyProof.Rows L2
/-! ### means: what they are, and their size -/
/-- one number under a row -/
structure WO (W : Int) (row : List RT) : Prop where
  pos : 0 < W
  sm : Sm 20 W
  dvd : ∀ y ∈ row, y.2 ∣ W
structure ML (row : List RT) (step : RT) (W : Int) : Prop where
  ok : LifeOk 20 row step
  len : row.length ≤ 13
  nil : row = [] → step = (0, 1)
  w : WO W row
  q01 : ∀ x ∈ row, 0 ≤ qv x ∧ qv x ≤ 1
  s4 : step.2 ≤ 4
def stQ (step : RT) : Rat := qv step
def firstQ (row : List RT) (step : RT) : Rat := behQ row step / (1 - qv step)
def secondQ (row : List RT) (step : RT) : Rat := firstQ row step * (1 + qv step) / (1 - qv step)
theorem Sz.frac {t b : Int} {k : Nat} (h0 : 0 ≤ t) (hb : 0 < b) (ht : t ≤ 2 ^ k * b) : Sz b k ((t : Rat) / (b : Rat)) := by
  have hc : (0 : Rat) < (b : Rat) := Rat.intCast_pos.mpr hb
  have hi : (0 : Rat) ≤ (b : Rat)⁻¹ := Rat.le_of_lt (Rat.inv_pos.mpr hc)
  have e : (b : Rat) * (b : Rat)⁻¹ = 1 := Rat.mul_inv_cancel _ (Rat.ne_of_gt hc)
  refine Sz.pos ⟨t, rfl⟩ (by rw [Rat.div_def]; exact Rat.mul_nonneg (Rat.intCast_nonneg.mpr h0) hi) ?_
  have u : (t : Rat) ≤ ((2 ^ k * b : Int) : Rat) := Rat.intCast_le_intCast.mpr ht
  have u2 := Rat.mul_le_mul_of_nonneg_right u hi
  rw [Rat.intCast_mul, cast_pow] at u2
  rw [Rat.div_def]
  have e2 : (((2 : Int) : Rat)) ^ k = (2 : Rat) ^ k := rfl
  rw [e2, Rat.mul_assoc, e, Rat.mul_one] at u2
  exact u2
section
variable {row : List RT} {step : RT} {W : Int}
/-- the number under all -/
def mP (W : Int) (step : RT) : Int := W * (step.2 - step.1) * (step.2 - step.1) * (step.2 - step.1)
theorem ML.gap (h : ML row step W) : 0 < step.2 - step.1 ∧ step.2 - step.1 ≤ 4 ∧ 0 ≤ step.1 ∧ 0 < step.2 := by
  have h1 := h.ok.st
  have h2 := h.s4
  have h3 := h1.2.2
  have h4 := h1.2.1
  omega
theorem ML.P (h : ML row step W) : 0 < mP W step ∧ Sm 29 (mP W step) := by
  obtain ⟨g1, g2, _, _⟩ := h.gap
  have sg : Sm 3 (step.2 - step.1) := by unfold Sm; omega
  exact ⟨Int.mul_pos (Int.mul_pos (Int.mul_pos h.w.pos g1) g1) g1, ((h.w.sm.mul sg).mul sg).mul sg⟩
theorem ML.rowz (h : ML row step W) {x : RT} (hx : x ∈ row) : Sz W 0 (qv x) := by
  obtain ⟨a, b⟩ := h.q01 x hx
  exact Sz.pos ⟨_, qv_over (h.ok.sm x hx).1.1 (h.w.dvd x hx) h.w.pos⟩ a (by rw [Rat.pow_zero]; exact b)
theorem ML.gapQ (h : ML row step W) : (1 : Rat) - qv step = (((step.2 - step.1 : Int)) : Rat) / (step.2 : Rat) ∧ (1 : Rat) - qv step ≠ 0 := by
  obtain ⟨g1, _, _, g4⟩ := h.gap
  have h3 := cast_ne (Int.ne_of_gt g4)
  refine ⟨?_, gap_val h.ok.st.1.1 h.ok.st.2.2⟩
  unfold qv
  rw [Rat.intCast_sub]
  grind
theorem ML.beh (h : ML row step W) : Sz (W * (step.2 - step.1)) 2 (behQ row step) := by
  obtain ⟨g1, g2, g3, g4⟩ := h.gap
  have hWd := Int.mul_pos h.w.pos g1
  rcases snoc_cases row with z | ⟨ys, y, z⟩
  · rw [z]
    show Sz _ _ 0
    exact Sz.nought
  · have hy : y ∈ row := by rw [z]; simp
    have e : behQ row step = qv y * ((step.1 : Rat) / ((step.2 - step.1 : Int) : Rat)) := by
      rw [z, behQ_snoc, h.gapQ.1]
      have h1 := cast_ne (Int.ne_of_gt g1)
      have h2 := cast_ne (Int.ne_of_gt g4)
      unfold qv
      grind
    rw [e]
    exact (h.rowz hy).mul h.w.pos g1 (Sz.frac (k := 2) g3 g1 (by have := h.ok.st.2.2; have := h.s4; omega))
theorem ML.first (h : ML row step W) : Sz (W * (step.2 - step.1) * (step.2 - step.1)) 4 (firstQ row step) := by
  obtain ⟨g1, g2, g3, g4⟩ := h.gap
  have e : firstQ row step = behQ row step * ((step.2 : Rat) / ((step.2 - step.1 : Int) : Rat)) := by
    unfold firstQ
    rw [h.gapQ.1]
    have h1 := cast_ne (Int.ne_of_gt g1)
    have h2 := cast_ne (Int.ne_of_gt g4)
    grind
  rw [e]
  exact h.beh.mul (Int.mul_pos h.w.pos g1) g1 (Sz.frac (k := 2) (Int.le_of_lt g4) g1 (by have := h.s4; omega))
theorem ML.second (h : ML row step W) : Sz (mP W step) 7 (secondQ row step) := by
  obtain ⟨g1, g2, g3, g4⟩ := h.gap
  have e : secondQ row step = firstQ row step * (((step.2 + step.1 : Int) : Rat) / ((step.2 - step.1 : Int) : Rat)) := by
    unfold secondQ
    rw [h.gapQ.1]
    have h1 := cast_ne (Int.ne_of_gt g1)
    have h2 := cast_ne (Int.ne_of_gt g4)
    rw [Rat.intCast_add]
    unfold qv
    grind
  rw [e]
  exact h.first.mul (Int.mul_pos (Int.mul_pos h.w.pos g1) g1) g1 (Sz.frac (k := 3) (by omega) g1 (by have := h.s4; have := h.ok.st.2.2; omega))
theorem ML.up1 (h : ML row step W) {k : Nat} {q : Rat} (z : Sz W k q) : Sz (mP W step) k q := by
  obtain ⟨g1, _, _, _⟩ := h.gap
  exact z.dvd h.w.pos h.P.1 (by unfold mP; exact ⟨(step.2 - step.1) * (step.2 - step.1) * (step.2 - step.1), by rw [Int.mul_assoc, Int.mul_assoc, Int.mul_assoc]⟩)
theorem ML.up2 (h : ML row step W) {k : Nat} {q : Rat} (z : Sz (W * (step.2 - step.1)) k q) : Sz (mP W step) k q := by
  obtain ⟨g1, _, _, _⟩ := h.gap
  exact z.dvd (Int.mul_pos h.w.pos g1) h.P.1 (by unfold mP; exact ⟨(step.2 - step.1) * (step.2 - step.1), by rw [Int.mul_assoc]⟩)
theorem ML.up3 (h : ML row step W) {k : Nat} {q : Rat} (z : Sz (W * (step.2 - step.1) * (step.2 - step.1)) k q) : Sz (mP W step) k q := by
  obtain ⟨g1, _, _, _⟩ := h.gap
  exact z.dvd (Int.mul_pos (Int.mul_pos h.w.pos g1) g1) h.P.1 (by unfold mP; exact ⟨step.2 - step.1, rfl⟩)
theorem Sz.nat {P : Int} {k j : Nat} {q : Rat} {n : Nat} (z : Sz P k q) (hP : 0 < P) (hn : n ≤ 2 ^ j) : Sz P (k + j) (((n : Int) : Rat) * q) := by
  have a : Sz 1 j ((n : Int) : Rat) := by
    have := Sz.frac (t := (n : Int)) (b := 1) (k := j) (by omega) (by decide) (by
      have e : ((2 ^ j : Nat) : Int) = (2 : Int) ^ j := by rw [Int.natCast_pow]; rfl
      rw [Int.mul_one, ← e]
      omega)
    rw [show ((n : Int) : Rat) / (((1 : Int)) : Rat) = ((n : Int) : Rat) by show _ / (1 : Rat) = _; grind] at this
    exact this
  have := z.mul hP (by decide : (0 : Int) < 1) a
  rw [Int.mul_one] at this
  rw [show ((n : Int) : Rat) * q = q * ((n : Int) : Rat) by grind]
  exact this
end
/-- the mean, the square's -/
def meanQ (row : List RT) (step : RT) : Rat := (sumTo row.length fun k => (((k + 1 : Nat) : Int) : Rat) * chR row step k) + ((row.length : Int) : Rat) * behQ row step + firstQ row step
def msqQ (row : List RT) (step : RT) : Rat := (sumTo row.length fun k => ((((k + 1) * (k + 1) : Nat) : Int) : Rat) * chR row step k) + (((row.length * row.length : Nat) : Int) : Rat) * behQ row step + (((2 * row.length : Nat) : Int) : Rat) * firstQ row step + secondQ row step
/-- none where not full -/
def MV (K : PySem.W.Frag) (H : Hp) (v : V) (t q : Rat) : Prop := (t ≠ 1 ∧ v = .non) ∨ (t = 1 ∧ ∃ z, v = .ref z ∧ RAt K H z (rdq q))
def mvD (t q : Rat) : PyData := if t = 1 then ratD (rdq q) else .none
section
variable {K : PySem.W.Frag} {H H' : Hp} {v : V} {t q : Rat}
theorem MV.tk (h : MV K H v t q) (e : Tk K H H') : MV K H' v t q := by
  rcases h with h | ⟨h1, z, h2, h3⟩
  · exact .inl h
  · exact .inr ⟨h1, z, h2, h3.tk e⟩
theorem MV.dp (h : MV K H v t q) : Dp K H v (mvD t q) := by
  unfold mvD
  rcases h with ⟨h1, rfl⟩ | ⟨h1, z, rfl, h3⟩
  · rw [if_neg h1]
    exact .non
  · rw [if_pos h1]
    exact h3.dp
theorem over_go {p1 p2 : Addr} {x y : Rat} {Q : VK} (h1 : RAt K H p1 (rdq x)) (h2 : RAt K H p2 (rdq y)) (s1 : SmR 3000 (rdq x)) (s2 : SmR 3000 (rdq y)) (hy : 0 < y) (q : ∀ r H', Same H H' → RAt K H' r (rdq (x / y)) → Q (.ref r) H') : spOver0 K [.ref p1, .ref p2] H Q E0 := by
  have hpos : 0 < (rdq y).1 := by
    have h3 := (rdq_red y).1
    have hc : (0 : Rat) < ((rdq y).2 : Rat) := Rat.intCast_pos.mpr h3
    have e := qv_rdq y
    refine Rat.intCast_pos.mp ?_
    have h4 : ((rdq y).1 : Rat) = y * ((rdq y).2 : Rat) := by
      have hne := Rat.ne_of_gt hc
      unfold qv at e
      grind
    rw [h4]
    exact Rat.mul_pos hy hc
  refine ⟨p1, p2, _, _, _, _, rfl, ⟨h1, h2, s1.2.1, s1.2.2, s2.2.1, s2.2.2, s1.1.1, s2.1.1⟩, Int.ne_of_gt (Int.mul_pos s1.1.1 hpos), fun b nb => ?_⟩
  obtain ⟨y1, y2⟩ := qv_rO s1.1 s2.1 hpos
  have e9 := same_new (o := HO.tup [.int (rO (rdq x) (rdq y)).1, .int (rO (rdq x) (rdq y)).2]) nb
  have ep : rO (rdq x) (rdq y) = rdq (x / y) := is_rdq y1 (by rw [y2, qv_rdq, qv_rdq])
  refine q b _ e9 ?_
  rw [← ep]
  exact SqT.of upd_same
theorem plus_go {p1 p2 : Addr} {x y : Rat} {Q : VK} (h1 : RAt K H p1 (rdq x)) (h2 : RAt K H p2 (rdq y)) (s1 : SmR 3000 (rdq x)) (s2 : SmR 3000 (rdq y)) (q : ∀ r H', Same H H' → RAt K H' r (rdq (x + y)) → Q (.ref r) H') : spTwo K (fun a b c d => a * d + c * b) [.ref p1, .ref p2] H Q E0 := by
  refine ⟨p1, p2, _, _, _, _, rfl, ⟨h1, h2, s1.2.1, s1.2.2, s2.2.1, s2.2.2, s1.1.1, s2.1.1⟩, fun b nb => ?_⟩
  have e := same_new (o := HO.tup [.int (rP (rdq x) (rdq y)).1, .int (rP (rdq x) (rdq y)).2]) nb
  obtain ⟨y1, y2⟩ := qv_rP s1.1 s2.1.1
  have ep : rP (rdq x) (rdq y) = rdq (x + y) := is_rdq y1 (by rw [y2, qv_rdq, qv_rdq])
  refine q b _ e ?_
  rw [← ep]
  exact SqT.of upd_same
/-- a whole number as a ratio -/
theorem int_rat {p : Addr} {n : Nat} (h : SqT K H p [.int (n : Int), .int 1]) : RAt K H p (rdq ((n : Int) : Rat)) := by
  have e : ((n : Int), (1 : Int)) = rdq ((n : Int) : Rat) := by
    refine is_rdq ⟨by show (0 : Int) < 1; decide, by show Int.gcd (n : Int) 1 = 1; simp⟩ ?_
    unfold qv
    show ((n : Int) : Rat) / ((1 : Int) : Rat) = _
    show ((n : Int) : Rat) / (1 : Rat) = _
    grind
  rw [← e]
  exact h
theorem int_smr {n : Nat} (h : n < 1000) : SmR 3000 (rdq ((n : Int) : Rat)) := by
  have e : ((n : Int), (1 : Int)) = rdq ((n : Int) : Rat) := by
    refine is_rdq ⟨by show (0 : Int) < 1; decide, by show Int.gcd (n : Int) 1 = 1; simp⟩ ?_
    unfold qv
    show ((n : Int) : Rat) / (1 : Rat) = _
    grind
  rw [← e]
  refine SmR.mono (n := 10) ⟨⟨by show (0 : Int) < 1; decide, by show Int.gcd (n : Int) 1 = 1; simp⟩, ?_, by unfold Sm; show (1 : Nat) < 2 ^ 10; decide⟩ (by decide)
  unfold Sm
  show (n : Int).natAbs < 2 ^ 10
  omega
end

end Fp

set_option Elab.async false
set_option linter.all false
set_option maxRecDepth 100000
set_option maxHeartbeats 4000000
set_option exponentiation.threshold 10000
namespace Fp
open PySem PySem.Spec PyProof.Rows L2
/-! ### lives as they are asked what is left of them -/
structure L9 (row : List RT) (step : RT) : Prop where
  ok : LifeOk 20 row step
  nil : row = [] → step = (0, 1)
  len : row.length ≤ 12
  ch : ∃ D, Ch01 D (chR row step) 20
  le1 : ∀ k, sumCh row step k ≤ 1
theorem rowQ_nn : ∀ {xs : List RT}, (∀ x ∈ xs, 0 ≤ qv x) → 0 ≤ rowQ xs
  | [], _ => Rat.le_refl
  | x :: r, h => by
    have h1 := h x (List.mem_cons_self ..)
    have h2 := rowQ_nn (xs := r) fun y hy => h y (List.mem_cons_of_mem _ hy)
    show 0 ≤ qv x + rowQ r
    grind
theorem AnyLife.l9 {row : List RT} {step : RT} (h : AnyLife row step) : L9 row step := by
  obtain ⟨q1, q2⟩ := h.q01
  have L := h.lf
  have gap := gap_val L.ok.st.1.1 L.ok.st.2.2
  refine ⟨L.ok, L.nil, by have := L.len; omega, L.ch, fun k => ?_⟩
  obtain ⟨N, E, t⟩ := h.tot
  have e1 := restR_sum (row := row) gap k
  rw [restR_zero, t.val] at e1
  have le : (N : Rat) / ((N + E : Int) : Rat) ≤ 1 := (div_01 t.nn t.pos (by have := t.ee; omega)).2
  have nn : 0 ≤ restR row step k := by
    have a1 : 0 ≤ rowQ (row.drop k) := rowQ_nn fun x hx => (q1 x (List.mem_of_mem_drop hx)).1
    have a2 : (0 : Rat) ≤ match row.getLast? with
      | none => 0
      | some l => qv l * qv step ^ (1 + (k - row.length)) / (1 - qv step) := by
      match e : row.getLast? with
      | none => exact Rat.le_refl
      | some l =>
        have hl := (q1 l (List.mem_of_getLast? e)).1
        have hp := (pow_01 q2 (1 + (k - row.length))).1
        have hg : (0 : Rat) < 1 - qv step := by
          have z := q2.2
          grind
        have hi := Rat.le_of_lt (Rat.inv_pos.mpr hg)
        show 0 ≤ qv l * qv step ^ (1 + (k - row.length)) / (1 - qv step)
        rw [Rat.div_def]
        exact Rat.mul_nonneg (Rat.mul_nonneg hl hp) hi
    show 0 ≤ rowQ (row.drop k) + _
    grind
  grind
/-- noughts ahead -/
theorem chR_ahead {row : List RT} {step : RT} (a i : Nat) : chR (List.replicate a (0, 1) ++ row) step i = if i < a then 0 else chR row step (i - a) := by
  by_cases h : i < a
  · rw [if_pos h]
    have e : (List.replicate a ((0 : Int), (1 : Int)) ++ row)[i]? = some (0, 1) := by
      rw [List.getElem?_append_left (by rw [List.length_replicate]; exact h), List.getElem?_replicate, if_pos h]
    rw [chR_in e, qv_nought]
  · rw [if_neg h]
    have e : (List.replicate a ((0 : Int), (1 : Int)) ++ row)[i]? = row[i - a]? := by
      rw [List.getElem?_append_right (by rw [List.length_replicate]; omega), List.length_replicate]
    match er : row[i - a]? with
    | some x =>
      rw [er] at e
      rw [chR_in e, chR_in er]
    | none =>
      have hl := List.getElem?_eq_none_iff.mp er
      rw [er] at e
      have hl2 := List.getElem?_eq_none_iff.mp e
      match el : row.getLast? with
      | some l =>
        have el2 : (List.replicate a ((0 : Int), (1 : Int)) ++ row).getLast? = some l := by
          rw [List.getLast?_append, el]
          rfl
        rw [chR_out hl2 el2, chR_out hl el, List.length_append, List.length_replicate]
        congr 2
        omega
      | none =>
        have e0 : row = [] := List.getLast?_eq_none_iff.mp el
        subst e0
        rw [chR_nil, List.append_nil]
        rw [List.append_nil] at hl2
        rcases Nat.eq_zero_or_pos a with z | z
        · subst z
          exact chR_nil ..
        · have el2 : (List.replicate a ((0 : Int), (1 : Int))).getLast? = some (0, 1) := by
            rw [List.getLast?_replicate, if_neg (by omega)]
          rw [chR_out hl2 el2, qv_nought]
          grind
theorem sumCh_ahead {row : List RT} {step : RT} (a : Nat) : ∀ k, sumCh (List.replicate a (0, 1) ++ row) step k = sumCh row step (k - a)
  | 0 => by
    rw [Nat.zero_sub]
    rfl
  | k + 1 => by
    show sumCh (List.replicate a (0, 1) ++ row) step k + chR (List.replicate a (0, 1) ++ row) step k = _
    rw [sumCh_ahead a k, chR_ahead]
    by_cases h : k < a
    · rw [if_pos h, show k + 1 - a = 0 by omega, show k - a = 0 by omega]
      show (0 : Rat) + 0 = 0
      grind
    · rw [if_neg h, show k + 1 - a = (k - a) + 1 by omega]
      rfl
theorem L9.ahead {row : List RT} {step : RT} (h : L9 row step) (a : Nat) (ha : a + row.length ≤ 12) (h0 : row = [] → 0 < a) : L9 (List.replicate a (0, 1) ++ row) step := by
  obtain ⟨D, c⟩ := h.ch
  have val : ∀ k, chR (List.replicate a (0, 1) ++ row) step k = 0 ∨ ∃ j, j ≤ k ∧ chR (List.replicate a (0, 1) ++ row) step k = chR row step j := fun k => by
    rw [chR_ahead]
    by_cases z : k < a
    · exact .inl (if_pos z)
    · exact .inr ⟨k - a, Nat.sub_le .., if_neg z⟩
  refine ⟨⟨fun y hy => ?_, h.ok.st, by rw [List.length_append, List.length_replicate]; omega, h.ok.n64, h.ok.n1⟩, fun z => ?_, by rw [List.length_append, List.length_replicate]; exact ha, ⟨D, c.pos, c.sm, fun k hk => ?_, fun k hk => ?_, fun k hk => ?_⟩, fun k => ?_⟩
  · rcases List.mem_append.mp hy with z | z
    · rw [List.eq_of_mem_replicate z]
      exact nought_sm (by decide)
    · exact h.ok.sm y z
  · exact h.nil (List.append_eq_nil_iff.mp z).2
  · rcases val k with e | ⟨j, hj, e⟩
    · rw [e]
      exact Rat.le_refl
    · rw [e]
      exact c.ge j (by omega)
  · rcases val k with e | ⟨j, hj, e⟩
    · rw [e]
      decide
    · rw [e]
      exact c.le j (by omega)
  · rcases val k with e | ⟨j, hj, e⟩
    · rw [e]
      exact Den.zero
    · rw [e]
      exact c.den j (by omega)
  · rw [sumCh_ahead]
    exact h.le1 _
/-- how many chances are left, and their quotients by what lasts -/
def leftN (row : List RT) (age : Nat) : Nat := max (age + 1) row.length - age
def leftQ (row : List RT) (step : RT) (age : Nat) : Nat → Rat := fun j => chR row step (age + j) / (1 - sumCh row step age)
def leftL (row : List RT) (step : RT) (age : Nat) : List RT := mkL (leftN row age) (leftQ row step age)
theorem sumCh_ov {row : List RT} {step : RT} {D : Int} (c : Ch01 D (chR row step) 20) : ∀ k, k ≤ 20 → Ov D (sumCh row step k)
  | 0, _ => Ov.zero
  | k + 1, h => (sumCh_ov c k (by omega)).add c.pos (c.chSz (show k < 20 by omega) |>.ov.dvd (by have := c.pos; simpa using this) c.pos (by simp))
theorem quot_sm {D : Int} {p q : Rat} (hD : 0 < D) (sD : Sm 60 D) (hp : Ov D p) (hq : Ov D q) (p0 : 0 ≤ p) (p1 : p ≤ 1) (q0 : 0 < q) (q1 : q ≤ 1) : SmR 130 (rdq (p / q)) := by
  obtain ⟨T, rfl⟩ := hp
  obtain ⟨S, rfl⟩ := hq
  have hc : (0 : Rat) < (D : Rat) := Rat.intCast_pos.mpr hD
  have cast : ∀ X : Int, (X : Rat) = (X : Rat) / (D : Rat) * (D : Rat) := fun X => by
    have := cast_ne (Int.ne_of_gt hD)
    grind
  have hS : 0 < S := by
    refine Rat.intCast_pos.mp ?_
    rw [cast S]
    exact Rat.mul_pos q0 hc
  have hS1 : S ≤ D := by
    refine Rat.intCast_le_intCast.mp ?_
    have := Rat.mul_le_mul_of_nonneg_right q1 (Rat.le_of_lt hc)
    rw [← cast S] at this
    grind
  have hT : 0 ≤ T := by
    refine Rat.intCast_nonneg.mp ?_
    rw [cast T]
    exact Rat.mul_nonneg p0 (Rat.le_of_lt hc)
  have hT1 : T ≤ D := by
    refine Rat.intCast_le_intCast.mp ?_
    have := Rat.mul_le_mul_of_nonneg_right p1 (Rat.le_of_lt hc)
    rw [← cast T] at this
    grind
  have e : (T : Rat) / (D : Rat) / ((S : Rat) / (D : Rat)) = (T : Rat) / (S : Rat) := by
    have h1 := cast_ne (Int.ne_of_gt hD)
    have h2 := cast_ne (Int.ne_of_gt hS)
    grind
  rw [e]
  have hcS : (0 : Rat) < (S : Rat) := Rat.intCast_pos.mpr hS
  have sS : Sm 60 S := by
    unfold Sm at *
    omega
  have up : (T : Rat) / (S : Rat) ≤ (2 : Rat) ^ 60 := by
    have i1 : (1 : Rat) ≤ (S : Rat) := by
      have := Rat.intCast_le_intCast.mpr (show (1 : Int) ≤ S by omega)
      exact this
    have i2 : (T : Rat) ≤ (2 : Rat) ^ 60 := by
      have z : T ≤ 2 ^ 60 := by
        unfold Sm at sD
        have e60 : (2 : Nat) ^ 60 = 1152921504606846976 := by decide
        have f60 : (2 : Int) ^ 60 = 1152921504606846976 := by decide
        rw [f60]
        rw [e60] at sD
        omega
      have := Rat.intCast_le_intCast.mpr z
      have g60 : (2 : Rat) ^ 60 = ((2 ^ 60 : Int) : Rat) := by decide +kernel
      rw [g60]
      exact this
    have t0 : (0 : Rat) ≤ (T : Rat) := Rat.intCast_nonneg.mpr hT
    have i3 : (T : Rat) / (S : Rat) ≤ (T : Rat) := by
      refine Rat.not_lt.mp fun z => ?_
      have z2 := Rat.mul_lt_mul_of_pos_right z hcS
      have e3 : (T : Rat) / (S : Rat) * (S : Rat) = (T : Rat) := by
        have := cast_ne (Int.ne_of_gt hS)
        grind
      rw [e3] at z2
      have z3 := Rat.mul_le_mul_of_nonneg_left i1 t0
      grind
    grind
  have lo : (0 : Rat) ≤ (T : Rat) / (S : Rat) := by
    rw [Rat.div_def]
    exact Rat.mul_nonneg (Rat.intCast_nonneg.mpr hT) (Rat.le_of_lt (Rat.inv_pos.mpr hcS))
  exact (Sz.pos (P := S) (k := 60) ⟨T, rfl⟩ lo up).smr hS sS (by decide)
theorem L9.weight {row : List RT} {step : RT} (h : L9 row step) {age : Nat} (n : 1 - sumCh row step age ≠ 0) : 0 < 1 - sumCh row step age := by
  have := h.le1 age
  grind
theorem L9.quot {row : List RT} {step : RT} (h : L9 row step) {age j : Nat} (ha : age ≤ 12) (hj : j < leftN row age) (n : 1 - sumCh row step age ≠ 0) : SmR 130 (rdq (leftQ row step age j)) := by
  obtain ⟨D, c⟩ := h.ch
  have hl := h.len
  have hi : age + j < 20 := by
    unfold leftN at hj
    omega
  have o1 := c.chSz hi
  have pw := h.weight n
  have sc : 0 ≤ sumCh row step age := by
    have key : ∀ k, k ≤ 20 → 0 ≤ sumCh row step k := fun k => by
      induction k with
      | zero => exact fun _ => Rat.le_refl
      | succ k ih =>
        intro hk
        have a1 := ih (by omega)
        have a2 := c.ge k (by omega)
        show 0 ≤ sumCh row step k + chR row step k
        grind
    exact key age (by omega)
  refine quot_sm c.pos c.sm (o1.ov.dvd (by have := c.pos; simpa using this) c.pos (by simp)) ?_ (c.ge _ hi) (c.le _ hi) pw (by grind)
  obtain ⟨T, hT⟩ := sumCh_ov c age (by omega)
  refine ⟨D - T, ?_⟩
  rw [hT, Rat.intCast_sub]
  have := cast_ne (Int.ne_of_gt c.pos)
  grind

end Fp

set_option Elab.async false
set_option linter.all false
set_option maxRecDepth 100000
set_option maxHeartbeats 4000000
set_option exponentiation.threshold 10000
namespace Fp
open PySem PySem.Spec PyProof.Rows L2
/-! ### what is left of a part -/
abbrev s_left : Stmt := topS 30
abbrev N_left : List Str := ["life", "age", "row", "step", "weight", "rest", "chance"]
theorem sc_left : FnScope N_left ["life", "age"] (defScope s_left) := ⟨rfl, rfl, rfl, by decide +kernel, rfl, by decide +kernel, by decide +kernel⟩
section
variable {P : Program} {w : World} {K : PySem.W.Frag} {mg : Str → Option Value} {base : Heap} {aN aO : Addr}
def spLeft (K : PySem.W.Frag) (C : Addr) : Sp := fun vs H Q E => ∃ (p : Addr) (row : List RT) (step : RT) (age : Nat), vs = [.ref p, .int (age : Int)] ∧ LifeAt K H p row step ∧ L9 row step ∧ age ≤ 12 ∧
  (1 - sumCh row step age = 0 → ∀ d H', Same H H' → H' d = some (.xd [("age", .int (age : Int))]) → E (.ref C) (some d) H') ∧
  (1 - sumCh row step age ≠ 0 → ∀ z H', Same H H' → LifeAt K H' z (shortL (leftL row step age) step).1 (shortL (leftL row step age) step).2 → Q (.ref z) H')
theorem left_drop {row : List RT} {step : RT} {age : Nat} (hr : ∀ x ∈ row, Red x) (h : age < row.length) : row.drop age = mkL (leftN row age) fun j => chR row step (age + j) := by
  have en : leftN row age = row.length - age := by
    unfold leftN
    omega
  refine List.ext_getElem (by rw [List.length_drop, mkL_len, en]) fun m h1 h2 => ?_
  rw [List.length_drop] at h1
  have e := mkL_at (g := fun j => chR row step (age + j)) (show m < leftN row age by omega)
  rw [List.getElem?_eq_getElem h2] at e
  rw [Option.some.inj e, List.getElem_drop]
  have hm : age + m < row.length := by omega
  have hg : row[age + m]? = some row[age + m] := List.getElem?_eq_getElem hm
  exact is_rdq (hr _ (List.getElem_mem hm)) (chR_in hg).symm
theorem left_last {row : List RT} {step : RT} {age : Nat} (h : ¬ age < row.length) : [rdq (chR row step age)] = mkL (leftN row age) fun j => chR row step (age + j) := by
  have en : leftN row age = 1 := by
    unfold leftN
    omega
  rw [en]
  rfl
theorem ok_left {f fLA fCA fSHO fO : Addr} {fd fdLA fdCA fdSHO fdO : FuncData} {e : EC} (F : Fun K "left_of" "left_of" s_left f fd) (C : Consts K mg aN aO)
    (FLA : Fun K "lasting" "lasting" s_lasting fLA fdLA) (bLA : Binds K fdLA ["life", "k"] []) (gLA : mg "lasting" = some (.ref fLA)) (GLA : FnOk P w K mg base CX0 5 fLA fdLA ["life", "k"] (spLasting K))
    (FCA : Fun K "chance_at" "chance_at" s_chat fCA fdCA) (bCA : Binds K fdCA ["life", "k"] []) (gCA : mg "chance_at" = some (.ref fCA)) (GCA : FnOk P w K mg base CX0 5 fCA fdCA ["life", "k"] (spChat K))
    (FSHO : Fun K "short" "short" s_short fSHO fdSHO) (bSHO : Binds K fdSHO ["life"] []) (gSHO : mg "short" = some (.ref fSHO)) (GSHO : FnOk P w K mg base CX0 5 fSHO fdSHO ["life"] (spShort K))
    (FO : Fun K "over" "over" s_over fO fdO) (bO : Binds K fdO ["one", "other"] []) (gO : mg "over" = some (.ref fO)) (GO : FnOk P w K mg base CX0 3 fO fdO ["one", "other"] (spOver0 K))
    {iF : Addr} {fdiF : FuncData} (EF : ErrF K mg e.F iF fdiF) {iA : Addr} {fdiA : FuncData} (EA : ErrA K mg e.A iA fdiA) (ENAage : PySem.W.findIn K (.ref e.A) "age" = some none)
    (n_len : mg "len" = none) (n_tuple : mg "tuple" = none) : FnOk P w K mg base (L2.CX P w) 6 f fd ["life", "age"] (spLeft K e.A) := by
  refine F.okX sc_left (fun vs H Q E h => ?_) (fun cdv A outer s H vs Q E hr h => ?_)
  · obtain ⟨_, _, _, _, rfl, _⟩ := h
    rfl
  · obtain ⟨p, row, step, age, rfl, hlife, L, ha, q0, q1⟩ := h
    obtain ⟨pr, ps, l1, l2, l3⟩ := id hlife
    refine ⟨_, (pss_cons (ps_asg (pv 0) (pg_tup rfl (pgs_cons (pg_name (i := 2) sc_left.nd rfl (.inl rfl)) (pgs_cons (pg_name (i := 3) sc_left.nd rfl (.inl rfl)) pgs_nil))))
      (pss_cons (ps_set (i := 4) sc_left.nd rfl (.inr rfl) (pe_call GLA hr (by rfl) gLA FLA.kp bLA .nil pass0 (pa_cons (pv 0) (pa_cons (pv 1) pa_nil))))
      (pss_cons (ps_if (pt_cmpR (op_eqD hr.units) (pv 4) (pe_glob (v := .ref aN) rfl C.gN rfl) (nomark _)) (pss_one (ps_raise rfl (takes_of rfl rfl rfl rfl) (pmk_oex EA.o EA.i EA.t (ok_iA EF EA) (hr.mono (by decide)) EA.b .nil pass0 (by rfl) EA.g (pa_cons (pv 1) pa_nil)))) pss_nil)
      (pss_mid (ps_set (i := 5) sc_left.nd rfl (.inl rfl) (pe_ifExp (pt_cmpR op_lt (pv 1) (pe_callB call_len_seq (by rfl) n_len PySem.boot_len (pa_cons (pv 2) pa_nil)) (nomark _)) (pe_slice sl_tupA (pv 2) (po_some (pv 1)) po_none) (pe_tup (pa_cons (pe_call GCA hr (by rfl) gCA FCA.kp bCA .nil pass0 (pa_cons (pv 0) (pa_cons (pe_op op_add (pv 1) pe_int) pa_nil))) pa_nil))))
      (pss_one (ps_ret (pe_call GSHO hr (by rfl) gSHO FSHO.kp bSHO .nil pass0 (pa_cons (pe_tup (pa_cons (pe_callTy call_tuple_of (by rfl) n_tuple (by decide +kernel) (pa_cons (pe_lc (own := [("chance", 6)]) (g := (gName 6)) (tt := tYes) (te := (tCall (spOver0 K) [] E0 (tCons (tVar 6) (tCons (tVar 4) tNil)))) rfl sc_left.nd (pi_tup (pv 5)) (blkOk_by (own := [("chance", 6)]) (N := N_left) (sc := (defScope s_left)) (by decide +kernel)) (fun _ _ _ _ _ => (pg_name (i := 6) sc_left.nd rfl (.inl rfl))) (fun _ _ _ _ _ => pts_nil) (fun _ _ _ _ _ => (pe_call GO (hr.mono (by decide)) (by rfl) gO FO.kp bO .nil pass0 (pa_cons (pv 6) (pa_cons (pv 4) pa_nil))))) pa_nil)) (pa_cons (pv 3) pa_nil))) pa_nil)))))))), ?_⟩
    refine ⟨_, rfl, p, _, rfl, l1, rfl, _, _, rfl, _, _, rfl, rfl, ?_⟩
    refine ⟨_, rfl, _, rfl, p, row, step, 20, age, rfl, hlife, L.ok, by omega, fun wz x H1 s1 hw sx vx => ?_⟩
    have ex : x = rdq (1 - sumCh row step age) := is_rdq sx.1 vx
    subst ex
    refine ⟨_, rfl, ?_⟩
    refine tC_go ?_
    refine eq_rat hw (C.tN _) ⟨_, rfl, ite2 (fun c => ?_) (fun c => ?_)⟩
    · have z := rdq_zero.mp (of_decide_eq_true c)
      refine ⟨_, rfl, raise1 EA.o ENAage fun d nd => ?_⟩
      exact q0 z d _ (s1.trans (same_new nd)) upd_same
    · have z : 1 - sumCh row step age ≠ 0 := fun y => c (decide_eq_true (rdq_zero.mpr y))
      refine ⟨fun σ H2 => ∃ r, σ = [some (.ref p), some (.int (age : Int)), some (.ref pr), some (.ref ps), some (.ref wz), some (.ref r), none] ∧ Same H1 H2 ∧ RowAt K H2 r (mkL (leftN row age) fun j => chR row step (age + j)), ?_, ?_⟩
      · have r1 := l2.tk (Tk.same s1)
        obtain ⟨rs, k1, k2⟩ := id r1
        have hl := k2.length
        refine ⟨_, rfl, _, rfl, pr, _, rfl, .inr k1, _, _, rfl, rfl, _, rfl, ?_⟩
        rw [List.length_map, hl]
        refine ite2 (fun c2 => ?_) (fun c2 => ?_)
        · have lt : age < row.length := by
            have := of_decide_eq_true c2
            omega
          refine ⟨_, rfl, _, rfl, age, rfl, ?_⟩
          refine tNoPart_go (from_row r1 fun a H2 s2 ha => ?_)
          rw [left_drop (fun x hx => (L.ok.sm x hx).1) lt] at ha
          exact ⟨a, rfl, s2, ha⟩
        · have lt : ¬ age < row.length := fun z => c2 (decide_eq_true (by omega))
          refine ⟨_, rfl, _, rfl, age, 1, rfl, rfl, p, row, step, 20, age + 1, rfl, hlife.tk (Tk.same s1), L.ok, by omega, by omega, fun y x2 H2 s2 hy sy vy => ?_⟩
          have ex2 : x2 = rdq (chR row step age) := is_rdq sy.1 (by rw [vy]; rfl)
          subst ex2
          refine ⟨by show 1 ≤ sizeLine; decide, fun a na => ?_⟩
          have e1 := same_new (o := HO.tup [.ref y]) na
          refine ⟨a, rfl, s2.trans e1, [y], SqT.of upd_same, ?_⟩
          rw [← left_last lt]
          exact .cons (hy.tk (Tk.same e1)) .nil
      · rintro σ H2 ⟨r, rfl, s2, rs, k1, k2⟩
        have hl := k2.length
        rw [mkL_len] at hl
        have hn : leftN row age ≤ 20 := by
          have := L.len
          unfold leftN
          omega
        have pw := L.weight z
        refine ⟨_, rfl, r, rfl, ⟨_, k1⟩, ?_⟩
        refine lc_mkW (K := K) (walk_tup (K := K) (a := r) (xs := rs.map V.ref)) (leftQ row step age) (by rw [List.length_map]; omega) (fun HE sE => sqT_same sE k1) (fun i v HE HE' R hi sE hY qr => ?_) (fun D H4 s4 hD => ?_)
        · obtain ⟨rfl, hv⟩ := hY
          rw [List.length_map, hl] at hi
          obtain ⟨r2, er, hr2⟩ := k2.get (mkL_at (g := fun j => chR row step (age + j)) hi)
          rw [List.getElem?_map, er] at hv
          cases Option.some.inj hv
          refine ⟨rfl, _, rfl, _, rfl, ?_⟩
          refine tnil_go ?_
          have ch : SmR 500 (rdq (chR row step (age + i))) := by
            obtain ⟨x, sx2, vx2⟩ := ch_ex L.ok (age + i)
            rw [← is_rdq sx2.1 vx2]
            exact sx2.mono (by have := L.len; unfold leftN at hi; omega)
          exact over_go (hr2.tk (Tk.same sE)) (hw.tk (Tk.same (s2.trans sE))) (ch.mono (by decide)) (sx.mono (by decide)) pw qr
        · rw [List.length_map, hl] at hD
          refine tnil_go ?_
          obtain ⟨ds, d1, d2⟩ := hD
          refine ⟨D, _, rfl, .inl ⟨SqL.of d1, fun t nt => ?_⟩⟩
          have e1 := same_new (o := HO.tup (ds.map V.ref)) nt
          refine ⟨_, rfl, by show 2 ≤ sizeLine; decide, fun y ny => ?_⟩
          have e2 := same_new (o := HO.tup [.ref t, .ref ps]) ny
          refine tnil_go ?_
          have S := s1.trans (s2.trans (s4.trans (e1.trans e2)))
          refine ⟨y, leftL row step age, step, rfl, ⟨t, ps, SqT.of upd_same, (RowAt.of_ls d1 d2 nt).tk (Tk.same e2), l3.tk (Tk.same S)⟩, fun x hx => ?_, ⟨L.ok.st.1.mono (by decide), L.ok.st.2⟩, fun z2 H5 s5 hz2 => q1 z z2 H5 (S.trans s5) hz2⟩
          obtain ⟨j, hj, rfl⟩ := mem_mkL hx
          exact (L.quot ha hj z).mono (by decide)
end

end Fp

set_option Elab.async false
set_option linter.all false
set_option maxRecDepth 100000
set_option maxHeartbeats 4000000
set_option exponentiation.threshold 10000
namespace Fp
open PySem PySem.Spec PyProof.Rows L2
/-! ### what is due of a part's left -/
abbrev s_lov : Stmt := topS 44
abbrev N_lov : List Str := ["_law_one", "_law_other"]
theorem sc_lov : FnScope N_lov ["_law_one", "_law_other"] (defScope s_lov) := ⟨rfl, rfl, rfl, by decide +kernel, rfl, by decide +kernel, by decide +kernel⟩
abbrev s_due9 : Stmt := topS 45
abbrev N_due9 : List Str := ["_law_life_here", "_law_age", "_law_lost", "_law_lasts", "_law_row", "_law_step", "_law_some", "_law_k"]
theorem sc_due9 : FnScope N_due9 ["_law_life_here", "_law_age"] (defScope s_due9) := ⟨rfl, rfl, rfl, by decide +kernel, rfl, by decide +kernel, by decide +kernel⟩
noncomputable def dueD9 (row : List RT) (step : RT) (age : Nat) : PyData := if 1 - sumCh row step age = 0 then .tuple [.str "no age", .bool true, .int (age : Int)] else .tuple [.str "told", lifeD (shortL (leftL row step age) step).1 (shortL (leftL row step age) step).2]
theorem top_pos {y : Rat} (hy : 0 < y) : 0 < (rdq y).1 := by
  have h3 := (rdq_red y).1
  have hc : (0 : Rat) < ((rdq y).2 : Rat) := Rat.intCast_pos.mpr h3
  have e := qv_rdq y
  refine Rat.intCast_pos.mp ?_
  have h4 : ((rdq y).1 : Rat) = y * ((rdq y).2 : Rat) := by
    have hne := Rat.ne_of_gt hc
    unfold qv at e
    grind
  rw [h4]
  exact Rat.mul_pos hy hc
section
variable {P : Program} {w : World} {K : PySem.W.Frag} {mg : Str → Option Value} {base : Heap}
def spLov (K : PySem.W.Frag) : Sp := fun vs H Q _ => ∃ (p1 p2 : Addr) (x y : Rat), vs = [.ref p1, .ref p2] ∧ RAt K H p1 (rdq x) ∧ RAt K H p2 (rdq y) ∧ SmR 3000 (rdq x) ∧ SmR 3000 (rdq y) ∧ 0 < y ∧ ∀ r H', Same H H' → RAt K H' r (rdq (x / y)) → Q (.ref r) H'
theorem ok_lov {f fL : Addr} {fd fdL : FuncData} (F : Fun K "_law_over" "_law_over" s_lov f fd)
    (FL : Fun K "_law_low" "_law_low" s_low fL fdL) (bL : Binds K fdL ["_law_top", "_law_bottom"] []) (gL : mg "_law_low" = some (.ref fL)) (GL : FnOk P w K mg base CX0 1 fL fdL ["_law_top", "_law_bottom"] spLow)
    : FnOk P w K mg base CX0 2 f fd ["_law_one", "_law_other"] (spLov K) := by
  refine F.ok sc_lov (fun vs H Q E h => ?_) (fun cdv A outer s H vs Q E hr h => ?_)
  · obtain ⟨_, _, _, _, rfl, _⟩ := h
    rfl
  · obtain ⟨p1, p2, x, y, rfl, h1, h2, s1, s2, hy, q⟩ := h
    refine ⟨_, (pss_one (ps_ret (pe_call GL hr (by rfl) gL FL.kp bL .nil pass0 (pa_cons (pe_op op_mulA (pe_ix ix_tup (pv 0) pe_int (fun _ _ => rfl)) (pe_ix ix_tup (pv 1) pe_int (fun _ _ => rfl))) (pa_cons (pe_op op_mulA (pe_ix ix_tup (pv 0) pe_int (fun _ _ => rfl)) (pe_ix ix_tup (pv 1) pe_int (fun _ _ => rfl))) pa_nil))))), ?_⟩
    have top : 0 < (rdq y).1 := top_pos hy
    have hb := Int.mul_pos s1.1.1 top
    refine ⟨_, rfl, p1, _, 0, _, rfl, rfl, h1, atI_nat (j := 0) rfl, _, rfl, p2, _, 1, _, rfl, rfl, h2, atI_nat (j := 1) rfl, (rdq x).1, (rdq y).2, rfl, rfl, s1.2.1.cmul s2.2.2 (by decide) (by decide) (by decide), ?_⟩
    refine ⟨_, rfl, p1, _, 1, _, rfl, rfl, h1, atI_nat (j := 1) rfl, _, rfl, p2, _, 0, _, rfl, rfl, h2, atI_nat (j := 0) rfl, (rdq x).2, (rdq y).1, rfl, rfl, s1.2.2.cmul s2.2.1 (by decide) (by decide) (by decide), ?_⟩
    refine ⟨_, _, rfl, hb, (s1.2.2.mul s2.2.1).mono (by decide), fun r nr => ?_⟩
    obtain ⟨y1, y2⟩ := qv_rO s1.1 s2.1 top
    have e : rO (rdq x) (rdq y) = rdq (x / y) := is_rdq y1 (by rw [y2, qv_rdq, qv_rdq])
    refine q r _ (same_new nr) ?_
    rw [← e]
    exact SqT.of upd_same
def spDue9 (K : PySem.W.Frag) : Sp := fun vs H Q _ => ∃ (p : Addr) (row : List RT) (step : RT) (age : Nat), vs = [.ref p, .int (age : Int)] ∧ LifeAt K H p row step ∧ L9 row step ∧ age ≤ 12 ∧ ∀ z H', Same H H' → Dp K H' (.ref z) (dueD9 row step age) → Q (.ref z) H'
theorem ok_due9 {f fLL fRE fSU fLOV fCH fLSH : Addr} {fd fdLL fdRE fdSU fdLOV fdCH fdLSH : FuncData} (F : Fun K "_law_due" "_law_due" s_due9 f fd)
    (FLL : Fun K "_law_less" "_law_less" s_lless fLL fdLL) (bLL : Binds K fdLL ["_law_one", "_law_other"] []) (gLL : mg "_law_less" = some (.ref fLL)) (GLL : FnOk P w K mg base CX0 2 fLL fdLL ["_law_one", "_law_other"] (spTwo K (fun a b c d => a * d - c * b)))
    (FRE : Fun K "_law_rest" "_law_rest" s_lrest fRE fdRE) (bRE : Binds K fdRE ["_law_life_here", "_law_k"] []) (gRE : mg "_law_rest" = some (.ref fRE)) (GRE : FnOk P w K mg base CX0 4 fRE fdRE ["_law_life_here", "_law_k"] (spLrest K))
    (FSU : Fun K "_law_sum" "_law_sum" s_lsum fSU fdSU) (bSU : Binds K fdSU ["_law_some"] []) (gSU : mg "_law_sum" = some (.ref fSU)) (GSU : FnOk P w K mg base CX0 2 fSU fdSU ["_law_some"] (spLsum K LstAt))
    (FLOV : Fun K "_law_over" "_law_over" s_lov fLOV fdLOV) (bLOV : Binds K fdLOV ["_law_one", "_law_other"] []) (gLOV : mg "_law_over" = some (.ref fLOV)) (GLOV : FnOk P w K mg base CX0 2 fLOV fdLOV ["_law_one", "_law_other"] (spLov K))
    (FCH : Fun K "_law_chance" "_law_chance" s_lchance fCH fdCH) (bCH : Binds K fdCH ["_law_life_here", "_law_k"] []) (gCH : mg "_law_chance" = some (.ref fCH)) (GCH : FnOk P w K mg base CX0 2 fCH fdCH ["_law_life_here", "_law_k"] (spLchance K))
    (FLSH : Fun K "_law_short" "_law_short" s_lshort fLSH fdLSH) (bLSH : Binds K fdLSH ["_law_life_here"] []) (gLSH : mg "_law_short" = some (.ref fLSH)) (GLSH : FnOk P w K mg base CX0 3 fLSH fdLSH ["_law_life_here"] (spLshort K))
    (n_len : mg "len" = none) (n_max : mg "max" = none) (n_range : mg "range" = none) (n_tuple : mg "tuple" = none) : FnOk P w K mg base CX0 5 f fd ["_law_life_here", "_law_age"] (spDue9 K) := by
  refine F.ok sc_due9 (fun vs H Q E h => ?_) (fun cdv A outer s H vs Q E hr h => ?_)
  · obtain ⟨_, _, _, _, rfl, _⟩ := h
    rfl
  · obtain ⟨p, row, step, age, rfl, hlife, L, ha, q⟩ := h
    obtain ⟨pr, ps, l1, l2, l3⟩ := id hlife
    refine ⟨_, (pss_cons (ps_set (i := 2) sc_due9.nd rfl (.inl rfl) (pe_call GLL (hr.mono (by decide)) (by rfl) gLL FLL.kp bLL .nil pass0 (pa_cons (pe_tup (pa_cons pe_int (pa_cons pe_int pa_nil))) (pa_cons (pe_call GRE hr (by rfl) gRE FRE.kp bRE .nil pass0 (pa_cons (pv 0) (pa_cons pe_int pa_nil))) pa_nil))))
      (pss_cons (ps_set (i := 3) sc_due9.nd rfl (.inr rfl) (pe_call GSU (hr.mono (by decide)) (by rfl) gSU FSU.kp bSU .nil pass0 (pa_cons (pe_lst (pa_cons (pv 2) (pa_cons (pe_call GRE hr (by rfl) gRE FRE.kp bRE .nil pass0 (pa_cons (pv 0) (pa_cons (pv 1) pa_nil))) pa_nil))) pa_nil)))
      (pss_cons (ps_if (pt_cmpR (op_eqD hr.units) (pv 3) (pe_tup (pa_cons pe_int (pa_cons pe_int pa_nil))) (nomark _)) (pss_one (ps_ret (pe_tup (pa_cons pe_str (pa_cons pe_bl (pa_cons (pv 1) pa_nil)))))) pss_nil)
      (pss_cons (ps_asg (pv 0) (pg_tup rfl (pgs_cons (pg_name (i := 4) sc_due9.nd rfl (.inl rfl)) (pgs_cons (pg_name (i := 5) sc_due9.nd rfl (.inl rfl)) pgs_nil))))
      (pss_cons (ps_setLc (i := 6) (own := [("_law_k", 7)]) (g := (gName 7)) (tt := tYes) (te := (tCall (spLov K) [] E0 (tCons (tCall (spLchance K) [] E0 (tCons (tVar 0) (tCons (tVar 7) tNil))) (tCons (tVar 3) tNil)))) rfl sc_due9.nd rfl rfl (sw_true rfl rfl rfl (by decide +kernel)) (pi_range2 (by rfl) n_range (pa_cons (pe_op op_add (pv 1) pe_int) (pa_cons (pe_op op_add (pe_callB (call_max2 rfl) (by rfl) n_max (by decide +kernel) (pa_cons (pe_op op_add (pv 1) pe_int) (pa_cons (pe_callB call_len_seq (by rfl) n_len PySem.boot_len (pa_cons (pv 4) pa_nil)) pa_nil))) pe_int) pa_nil))) (blkOk_by (own := [("_law_k", 7)]) (N := N_due9) (sc := (defScope s_due9)) (by decide +kernel)) (fun _ _ _ _ _ => (pg_name (i := 7) sc_due9.nd rfl (.inl rfl))) (fun _ _ _ _ _ => pts_nil) (fun _ _ _ _ _ => (pe_call GLOV (hr.mono (by decide)) (by rfl) gLOV FLOV.kp bLOV .nil pass0 (pa_cons (pe_call GCH (hr.mono (by decide)) (by rfl) gCH FCH.kp bCH .nil pass0 (pa_cons (pv 0) (pa_cons (pv 7) pa_nil))) (pa_cons (pv 3) pa_nil)))))
      (pss_one (ps_ret (pe_tup (pa_cons pe_str (pa_cons (pe_call GLSH (hr.mono (by decide)) (by rfl) gLSH FLSH.kp bLSH .nil pass0 (pa_cons (pe_tup (pa_cons (pe_callTy call_tuple_of (by rfl) n_tuple (by decide +kernel) (pa_cons (pv 6) pa_nil)) (pa_cons (pv 5) pa_nil))) pa_nil)) pa_nil)))))))))), ?_⟩
    refine lost_ok (i := 0) rfl hlife L.ok L.nil fun lo x0 H1 s1 V0 => ?_
    refine lasts_ok (i := 0) (j := 2) (k := age) rfl rfl (hlife.tk (Tk.same s1)) L.ok L.nil (by omega) V0 (fun H' Q h => ⟨_, rfl, h⟩) fun lz H2 s2 hz => ?_
    have S2 := s1.trans s2
    refine ⟨_, rfl, by show 2 ≤ sizeLine; decide, fun b nb => ?_⟩
    have e3 := same_new (o := HO.tup [.int 0, .int 1]) nb
    refine eq_rat (hz.tk (Tk.same e3)) (y := (0, 1)) (SqT.of upd_same) ⟨_, rfl, ite2 (fun c => ?_) (fun c => ?_)⟩
    · have z := rdq_zero.mp (of_decide_eq_true c)
      refine ⟨_, rfl, by show 3 ≤ sizeLine; decide, fun t nt => ?_⟩
      refine q t _ (S2.trans (e3.trans (same_new nt))) ?_
      unfold dueD9
      rw [if_pos z]
      exact .tup (SqT.of upd_same) (.cons (.str _) (.cons (.bl _) (.cons (.int _) .nil)))
    · have z : 1 - sumCh row step age ≠ 0 := fun y => c (decide_eq_true (rdq_zero.mpr y))
      have S3 := S2.trans e3
      refine ⟨_, rfl, p, _, rfl, sqT_same S3 l1, rfl, _, _, rfl, _, _, rfl, rfl, ?_⟩
      have r3 := l2.tk (Tk.same (K := K) S3)
      obtain ⟨rs, k1, k2⟩ := id r3
      have hl := k2.length
      refine ⟨_, rfl, age, 1, rfl, rfl, _, rfl, age, 1, rfl, rfl, _, rfl, pr, _, rfl, .inr k1, _, _, rfl, _, 1, rfl, rfl, _, _, rfl, ?_, ?_⟩
      · rw [List.length_map, hl]
        have := L.len
        refine ⟨by omega, by omega, ?_, ?_⟩ <;> (split <;> omega)
      rw [List.length_map, hl]
      have en : ((if ((row.length : Nat) : Int) > (age : Int) + 1 then ((row.length : Nat) : Int) else (age : Int) + 1) + 1 - ((age : Int) + 1)).toNat = leftN row age := by
        unfold leftN
        split <;> omega
      rw [en]
      have pw := L.weight z
      have hn : leftN row age ≤ 20 := by
        have := L.len
        unfold leftN
        omega
      refine lc_mk (K := K) (lo := (age : Int) + 1) (n := leftN row age) (leftQ row step age) (by omega) (fun k HE R hk sE qr => ?_) fun D H4 s4 hD => ?_
      · refine ⟨rfl, _, rfl, _, rfl, p, row, step, 20, age + 1 + k, ?_, hlife.tk (Tk.same (S3.trans sE)), L.ok, L.nil, by omega, by omega, fun y x H5 s5 hy sy vy => ?_⟩
        · show [V.ref p, V.int ((age : Int) + 1 + (k : Int))] = _
          rw [show (age : Int) + 1 + (k : Int) = ((age + 1 + k : Nat) : Int) by omega]
        have ex : x = rdq (chR row step (age + k)) := is_rdq sy.1 (by rw [vy, show age + 1 + k - 1 = age + k by omega])
        subst ex
        have sw : SmR 3000 (rdq (1 - sumCh row step age)) := by
          obtain ⟨D, c1⟩ := L.ch
          obtain ⟨T, hT⟩ := sumCh_ov c1 age (by omega)
          have sc : 0 ≤ sumCh row step age := by
            have key : ∀ k, k ≤ 20 → 0 ≤ sumCh row step k := fun k => by
              induction k with
              | zero => exact fun _ => Rat.le_refl
              | succ k ih =>
                intro hk
                have a1 := ih (by omega)
                have a2 := c1.ge k (by omega)
                show 0 ≤ sumCh row step k + chR row step k
                grind
            exact key age (by omega)
          have ov : Ov D (1 - sumCh row step age) := by
            refine ⟨D - T, ?_⟩
            rw [hT, Rat.intCast_sub]
            have := cast_ne (Int.ne_of_gt c1.pos)
            grind
          exact (Sz.pos (k := 0) ov (Rat.le_of_lt pw) (by rw [Rat.pow_zero]; grind)).smr c1.pos c1.sm (by decide)
        refine ⟨_, rfl, ?_⟩
        refine tnil_go ?_
        exact ⟨y, lz, _, _, rfl, hy, hz.tk (Tk.same (e3.trans (sE.trans s5))), sy.mono (by decide), sw, pw, fun r H6 s6 hr => qr r H6 (s5.trans s6) hr⟩
      · obtain ⟨ds, d1, d2⟩ := hD
        refine ⟨_, rfl, D, _, rfl, .inl ⟨SqL.of d1, fun t nt => ?_⟩⟩
        have e4 := same_new (o := HO.tup (ds.map V.ref)) nt
        refine ⟨_, rfl, by show 2 ≤ sizeLine; decide, fun y ny => ?_⟩
        have e5 := same_new (o := HO.tup [.ref t, .ref ps]) ny
        refine tnil_go ?_
        have S5 := S3.trans (s4.trans (e4.trans e5))
        refine ⟨y, leftL row step age, step, rfl, ⟨t, ps, SqT.of upd_same, (RowAt.of_ls d1 d2 nt).tk (Tk.same e5), l3.tk (Tk.same S5)⟩, ?_, fun h0 => ?_, fun x hx => ?_, ⟨L.ok.st.1.mono (by decide), L.ok.st.2⟩, fun z2 H7 s7 hz2 => ?_⟩
        · unfold leftL
          rw [mkL_len]
          omega
        · unfold leftL at h0
          have h1 := congrArg List.length h0
          rw [mkL_len] at h1
          have h2 : 0 < leftN row age := by
            unfold leftN
            omega
          have h3 : leftN row age = 0 := h1
          omega
        · obtain ⟨j, hj, rfl⟩ := mem_mkL hx
          exact (L.quot ha hj z).mono (by decide)
        · refine ⟨by show 2 ≤ sizeLine; decide, fun u nu => ?_⟩
          have e8 := same_new (o := HO.tup [.str "told", .ref z2]) nu
          refine q u _ (S5.trans (s7.trans e8)) ?_
          unfold dueD9
          rw [if_neg z]
          exact .tup (SqT.of upd_same) (.cons (.str _) (.cons (hz2.tk (Tk.same e8)).dp .nil))
end

end Fp

set_option Elab.async false
set_option linter.all false
set_option maxRecDepth 100000
set_option maxHeartbeats 4000000
set_option exponentiation.threshold 10000
namespace Fp
open PySem PySem.Spec PyProof.Rows L2
/-! ### what is told of a part's left, or that it is refused -/
abbrev s_told9 : Stmt := topS 46
abbrev N_told9 : List Str := ["_law_life_here", "_law_age", "_law_caught", "e", "_law_others"]
theorem sc_told9 : FnScope N_told9 ["_law_life_here", "_law_age"] (defScope s_told9) := ⟨rfl, rfl, rfl, by decide +kernel, rfl, by decide +kernel, by decide +kernel⟩
section
variable {P : Program} {w : World} {K : PySem.W.Frag} {mg : Str → Option Value} {base : Heap}
def spTold9 (K : PySem.W.Frag) : Sp := fun vs H Q _ => ∃ (p : Addr) (row : List RT) (step : RT) (age : Nat), vs = [.ref p, .int (age : Int)] ∧ LifeAt K H p row step ∧ L9 row step ∧ age ≤ 12 ∧ ∀ z H', Same H H' → Dp K H' (.ref z) (dueD9 row step age) → Q (.ref z) H'
theorem ok_told9 {f fLO : Addr} {fd fdLO : FuncData} {e : EC} (F : Fun K "_law_told" "_law_told" s_told9 f fd)
    (FLO : Fun K "left_of" "left_of" s_left fLO fdLO) (bLO : Binds K fdLO ["life", "age"] []) (gLO : mg "left_of" = some (.ref fLO)) (GLO : FnOk P w K mg base (L2.CX P w) 6 fLO fdLO ["life", "age"] (spLeft K e.A))
    (EG : ErrG mg e) (EXA : errB K e.A = true) (EKA : kitsB K e.A (ktsA e) = true) (EMA : PySem.W.exmOne K (.ref e.A) (.ref e.F) = some true) (ENAage : PySem.W.findIn K (.ref e.A) "age" = some none)
    (n_ValueError : mg "ValueError" = none) (n_isinstance : mg "isinstance" = none) : FnOk P w K mg base CX0 7 f fd ["_law_life_here", "_law_age"] (spTold9 K) := by
  refine F.ok sc_told9 (fun vs H Q E h => ?_) (fun cdv A outer s H vs Q E hr h => ?_)
  · obtain ⟨_, _, _, _, rfl, _⟩ := h
    rfl
  · obtain ⟨p, row, step, age, rfl, hlife, L, ha, q⟩ := h
    refine ⟨_, (pss_cons (ps_set (i := 2) sc_told9.nd rfl (.inl rfl) pe_non)
      (pss_cons (ps_try_keep (i := 3) (Wout := fun _ _ _ _ => False) rfl rfl sc_told9.nd rfl rfl ⟨rfl, by decide, .inl EG.F⟩ takes0 (fun W pn xe tk _ => (pss_one (ps_ret (pe_tup (pa_cons pe_str (pa_cons (pe_callS GLO hr rfl gLO FLO.kp bLO (fun σ => passAt tk σ) (pa_cons (pv 0) (pa_cons (pv 1) pa_nil))) pa_nil)))))) (fun a cls d pn => (pss_one (ps_set (i := 2) sc_told9.nd rfl (.inl rfl) (pv 3)))))
      (pss_cons (ps_if (PW.pt (pw_or (pt_not (pt_val (pe_callB call_isK (by rfl) n_isinstance (by decide +kernel) (pa_cons (pv 2) (pa_cons (pe_glob (v := .ref e.A) rfl EG.A rfl) pa_nil))))) (pw_or1 (pt_not (pt_val (pe_callB call_isK (by rfl) n_isinstance (by decide +kernel) (pa_cons (pv 2) (pa_cons (pe_bltn (v := .ty "ValueError") (by rfl) n_ValueError (by decide +kernel) rfl) pa_nil)))))))) (pss_one (ps_ret (pe_tup (pa_cons pe_str (pa_cons pe_bl (pa_cons pe_int pa_nil)))))) pss_nil)
      (pss_cons (ps_set (i := 4) sc_told9.nd rfl (.inl rfl) (pe_callB call_isKT (by rfl) n_isinstance (by decide +kernel) (pa_cons (pv 2) (pa_cons (pe_tup (pa_cons (pe_glob (v := .ref e.B) rfl EG.B rfl) (pa_cons (pe_glob (v := .ref e.L) rfl EG.L rfl) (pa_cons (pe_glob (v := .ref e.M) rfl EG.M rfl) (pa_cons (pe_glob (v := .ref e.P) rfl EG.P rfl) (pa_cons (pe_glob (v := .ref e.N) rfl EG.N rfl) (pa_cons (pe_glob (v := .ref e.R) rfl EG.R rfl) (pa_cons (pe_glob (v := .ref e.X) rfl EG.X rfl) (pa_cons (pe_glob (v := .ref e.T) rfl EG.T rfl) pa_nil))))))))) pa_nil))))
      (pss_one (ps_ret (pe_tup (pa_cons pe_str (pa_cons (pe_not (pv 4)) (pa_cons (pe_fldK (pv 2)) pa_nil)))))))))), ?_⟩
    refine ⟨_, rfl, _, rfl, p, row, step, age, rfl, hlife, L, ha, fun z d H1 s1 hd => ?_, fun z t H1 s1 ht => ?_⟩
    · refine ⟨true, EMA, (fun y => nomatch y), fun _ a na => ?_⟩
      have nd : d ≠ a := ne_of_none hd na
      have hK : ExK (upd H1 a (exk a (.ref e.A) (some d))) a e.A [("age", .int (age : Int))] := .inr ⟨d, upd_same, by rw [upd_ne nd]; exact hd⟩
      have XC := (errB_ok EXA).1
      refine ⟨_, rfl, _, rfl, ?_⟩
      refine tC_go ?_
      refine tnil_go ?_
      refine ⟨a, e.A, _, _, _, true, rfl, hK, XC, .own _, kits_at EKA (by simp [ktsA]), _, rfl, ?_⟩
      refine iteF ?_
      refine ⟨_, rfl, ?_⟩
      refine tC_go ?_
      refine tnil_go ?_
      refine ⟨a, e.A, _, _, _, true, rfl, hK, XC, .ty _, kits_at EKA (by simp [ktsA]), _, rfl, ?_⟩
      refine iteF ?_
      refine ⟨_, rfl, by show 8 ≤ sizeLine; decide, fun tp np => ?_⟩
      refine tnil_go ?_
      have hK2 := hK.same (same_new (o := HO.tup [.ref e.B, .ref e.L, .ref e.M, .ref e.P, .ref e.N, .ref e.R, .ref e.X, .ref e.T]) np)
      refine ⟨a, e.A, tp, _, _, [.ref e.B, .ref e.L, .ref e.M, .ref e.P, .ref e.N, .ref e.R, .ref e.X, .ref e.T], false, rfl, hK2, XC, upd_same, .cons (.own _) (.cons (.own _) (.cons (.own _) (.cons (.own _) (.cons (.own _) (.cons (.own _) (.cons (.own _) (.cons (.own _) .nil))))))), kits_none EKA _ (by simp [ktsA]), ?_⟩
      refine ⟨_, rfl, false, rfl, ?_⟩
      refine ⟨_, rfl, a, e.A, _, _, rfl, hK2, (errB_ok EXA).2.1, ENAage, rfl, by show 3 ≤ sizeLine; decide, fun t nt => ?_⟩
      refine q t _ (s1.trans ((same_new (o := exk a (.ref e.A) (some d)) na).trans ((same_new np).trans (same_new nt)))) ?_
      unfold dueD9
      rw [if_pos z]
      exact .tup (SqT.of upd_same) (.cons (.str _) (.cons (.bl _) (.cons (.int _) .nil)))
    · refine ⟨by show 2 ≤ sizeLine; decide, fun y ny => ?_⟩
      have e1 := same_new (o := HO.tup [.str "told", .ref t]) ny
      refine q y _ (s1.trans e1) ?_
      unfold dueD9
      rw [if_neg z]
      exact .tup (SqT.of upd_same) (.cons (.str _) (.cons (ht.tk (Tk.same e1)).dp .nil))
end

end Fp

set_option Elab.async false
set_option linter.all false
set_option maxRecDepth 100000
set_option maxHeartbeats 4000000
set_option exponentiation.threshold 10000
namespace Fp
open PySem PySem.Spec PyProof.Rows L2
/-! ### the law -/
abbrev s_law : Stmt := topS 47
abbrev N_law : List Str := ["_law_script", "_law_feed_here", "_law_life_here", "_law_kept", "_law_age", "_law_due_here", "_law_far"]
theorem sc_law : FnScope N_law ["_law_script"] (defScope s_law) := ⟨rfl, rfl, rfl, by decide +kernel, rfl, by decide +kernel, by decide +kernel⟩
section
variable {P : Program} {w : World} {K : PySem.W.Frag} {mg : Str → Option Value} {base : Heap}
theorem Sh.word {x : Str} {c : Nat} (h1 : (PyData.str x).showable = true) (h2 : (PyData.str x).leavesShort 2000 = true) (h3 : cost (.str x) ≤ c) : Sh c 0 (.str x) := ⟨h1, h2, h3, Nat.le_refl _⟩
theorem due_shows {row : List RT} {step : RT} {age : Nat} (L : L9 row step) (ha : age ≤ 12) : Shows (dueD9 row step age) := by
  unfold dueD9
  by_cases z : 1 - sumCh row step age = 0
  · rw [if_pos z]
    refine (Shs.cons (c1 := 100) (Sh.word (by decide) (by decide) (by decide)) (Shs.cons Sh.bool (Shs.cons (Sh.int ?_) Shs.nil))).tup.shows (by decide) (by decide)
    have : (2 : Nat) ^ 10 ≤ 2 ^ 1900 := Nat.pow_le_pow_right (by decide) (by decide)
    unfold Sm
    omega
  · rw [if_neg z]
    have G : ∀ x ∈ leftL row step age, SmR 1900 x := fun x hx => by
      obtain ⟨j, hj, rfl⟩ := mem_mkL hx
      exact (L.quot ha hj z).mono (by decide)
    obtain ⟨h1, h2, h3⟩ := shortL_mem (fun x hx => (G x hx).1) L.ok.st.1.1
    refine (Shs.cons (c1 := 100) ((Sh.word (c := 100) (by decide) (by decide) (by decide)).mono (k2 := 3) (Nat.le_refl _) (by decide)) (Shs.cons (Sh.life (n := 1900) (by decide) (fun x hx => G x (h1 x hx)) ?_ ?_) Shs.nil)).tup.shows (by decide) (by decide)
    · rcases h3 with y | y
      · rw [y]
        exact L.ok.st.1.mono (by decide)
      · rw [y]
        exact nought_sm (by decide)
    · refine Nat.le_trans h2 ?_
      unfold leftL
      rw [mkL_len]
      have := L.len
      unfold leftN
      omega
theorem ok_law {f fE fAL fD fDU9 fTD9 : Addr} {fd fdE fdAL fdD fdDU9 fdTD9 : FuncData} (F : Fun K "law" "law" s_law f fd)
    (FE : Fun K "_law_feed" "_law_feed" s_feed fE fdE) (bE : Binds K fdE ["_law_script"] []) (gE : mg "_law_feed" = some (.ref fE)) (GE : FnOk P w K mg base CX0 1 fE fdE ["_law_script"] (spFeed K))
    (FAL : Fun K "_law_any_life" "_law_any_life" s_any fAL fdAL) (bAL : Binds K fdAL ["_law_feed_here"] []) (gAL : mg "_law_any_life" = some (.ref fAL)) (GAL : FnOk P w K mg base CX0 3 fAL fdAL ["_law_feed_here"] (spAny K))
    (FD : Fun K "_law_draw" "_law_draw" s_draw fD fdD) (bD : Binds K fdD ["_law_feed_here", "_law_many"] []) (gD : mg "_law_draw" = some (.ref fD)) (GD : FnOk P w K mg base CX0 1 fD fdD ["_law_feed_here", "_law_many"] spDraw)
    (FDU9 : Fun K "_law_due" "_law_due" s_due9 fDU9 fdDU9) (bDU9 : Binds K fdDU9 ["_law_life_here", "_law_age"] []) (gDU9 : mg "_law_due" = some (.ref fDU9)) (GDU9 : FnOk P w K mg base CX0 5 fDU9 fdDU9 ["_law_life_here", "_law_age"] (spDue9 K))
    (FTD9 : Fun K "_law_told" "_law_told" s_told9 fTD9 fdTD9) (bTD9 : Binds K fdTD9 ["_law_life_here", "_law_age"] []) (gTD9 : mg "_law_told" = some (.ref fTD9)) (GTD9 : FnOk P w K mg base CX0 7 fTD9 fdTD9 ["_law_life_here", "_law_age"] (spTold9 K))
    (n_len : mg "len" = none) (n_repr : mg "repr" = none) : FnG P w K mg base CX0 8 f fd ["_law_script"] (spLaw K) := by
  refine okG F sc_law (fun vs H Q E h => ?_) (fun cdv A outer s H vs Q E hq hr h => ?_)
  · obtain ⟨_, _, rfl, _⟩ := h
    rfl
  · obtain ⟨a0, ns, rfl, hs, q⟩ := h
    refine ⟨_, (pss_cons (ps_set (i := 1) sc_law.nd rfl (.inl rfl) (pe_call GE (hr.mono (by decide)) (by rfl) gE FE.kp bE .nil pass0 (pa_cons (pv 0) pa_nil)))
      (pss_cons (ps_set (i := 2) sc_law.nd rfl (.inl rfl) (pe_call GAL (hr.mono (by decide)) (by rfl) gAL FAL.kp bAL .nil pass0 (pa_cons (pv 1) pa_nil)))
      (pss_cons (ps_set (i := 3) sc_law.nd rfl (.inl rfl) (pe_callB (call_reprD hq hr) (by rfl) n_repr (by decide +kernel) (pa_cons (pv 2) pa_nil)))
      (pss_cons (ps_for PassesOwn.never rfl (pi_list (pe_lst (pa_cons pe_int (pa_cons pe_int (pa_cons pe_int (pa_cons (pe_call GD (hr.mono (by decide)) (by rfl) gD FD.kp bD .nil pass0 (pa_cons (pv 1) (pa_cons pe_int pa_nil))) (pa_cons (pe_call GD (hr.mono (by decide)) (by rfl) gD FD.kp bD .nil pass0 (pa_cons (pv 1) (pa_cons pe_int pa_nil))) (pa_cons pe_int pa_nil)))))))) (pg_name (i := 4) sc_law.nd rfl (.inl rfl)) (pss_cons (ps_set (i := 5) sc_law.nd rfl (.inl rfl) (pe_callB (call_reprD hq hr) (by rfl) n_repr (by decide +kernel) (pa_cons (pe_call GDU9 (hr.mono (by decide)) (by rfl) gDU9 FDU9.kp bDU9 .nil pass0 (pa_cons (pv 2) (pa_cons (pv 4) pa_nil))) pa_nil)))
      (pss_one (ps_if (PW.pt (pw_or (pt_cmpR op_ne (pe_callB (call_reprD hq hr) (by rfl) n_repr (by decide +kernel) (pa_cons (pe_call GTD9 hr (by rfl) gTD9 FTD9.kp bTD9 .nil pass0 (pa_cons (pv 2) (pa_cons (pv 4) pa_nil))) pa_nil)) (pv 5) (nomark _)) (pw_or (pt_cmpR op_ne (pe_callB (call_reprD hq hr) (by rfl) n_repr (by decide +kernel) (pa_cons (pe_call GTD9 hr (by rfl) gTD9 FTD9.kp bTD9 .nil pass0 (pa_cons (pv 2) (pa_cons (pv 4) pa_nil))) pa_nil)) (pv 5) (nomark _)) (pw_or1 (pt_cmpR op_ne (pe_callB (call_reprD hq hr) (by rfl) n_repr (by decide +kernel) (pa_cons (pv 2) pa_nil)) (pv 3) (nomark _)))))) (pss_one (ps_ret pe_bl)) pss_nil))))
      (pss_mid (ps_set (i := 6) sc_law.nd rfl (.inl rfl) (pe_tup (pa_cons (pe_op op_catA (pe_op op_repA (pe_tup (pa_cons (pe_tup (pa_cons pe_int (pa_cons pe_int pa_nil))) pa_nil)) (pe_op op_sub pe_int (pe_callB call_len_seq (by rfl) n_len PySem.boot_len (pa_cons (pe_ix ix_tup (pv 2) pe_int (fun _ _ => rfl)) pa_nil)))) (pe_ix ix_tup (pv 2) pe_int (fun _ _ => rfl))) (pa_cons (pe_ifExp (pt_cmpR (op_neD hr.units) (pe_ix ix_tup (pv 2) pe_int (fun _ _ => rfl)) (pe_tup pa_nil) (nomark _)) (pe_ix ix_tup (pv 2) pe_int (fun _ _ => rfl)) (pe_tup (pa_cons pe_int (pa_cons pe_int pa_nil)))) pa_nil))))
      (pss_cons (ps_for PassesOwn.never rfl (pi_tup (pe_tup (pa_cons pe_int (pa_cons pe_int pa_nil)))) (pg_name (i := 4) sc_law.nd rfl (.inl rfl)) (pss_one (ps_if (pt_cmpR op_ne (pe_callB (call_reprD hq hr) (by rfl) n_repr (by decide +kernel) (pa_cons (pe_call GTD9 hr (by rfl) gTD9 FTD9.kp bTD9 .nil pass0 (pa_cons (pv 6) (pa_cons (pv 4) pa_nil))) pa_nil)) (pe_callB (call_reprD hq hr) (by rfl) n_repr (by decide +kernel) (pa_cons (pe_call GDU9 (hr.mono (by decide)) (by rfl) gDU9 FDU9.kp bDU9 .nil pass0 (pa_cons (pv 6) (pa_cons (pv 4) pa_nil))) pa_nil)) (nomark _)) (pss_one (ps_ret pe_bl)) pss_nil)))
      (pss_one (ps_ret pe_bl)))))))), ?_⟩
    refine ⟨_, rfl, a0, ns, rfl, hs, fun d c H1 s1 f1 => ?_⟩
    refine ⟨_, rfl, d, c, 0, rfl, f1, by decide, fun p row step t2 H2 k2 f2 _ al hp => ?_⟩
    have L := al.l9
    have shL := al.lf.sh.shows (by decide) (by decide)
    refine ⟨_, rfl, p, _, rfl, hp.dp, shL, ?_⟩
    refine ⟨_, rfl, d, c, 8, t2, rfl, f2, by omega, by decide, by decide, fun r1 H3 h10 h11 k3 f3 => ?_⟩
    refine ⟨_, rfl, d, c, 13, t2 + 1, rfl, f3, by omega, by decide, by decide, fun r2 H4 h20 h21 k4 f4 => ?_⟩
    have hp4 := hp.tk (Tk.trans (Tk.keep f2 k3) (Tk.keep f3 k4))
    refine ⟨by show 6 ≤ sizeLine; decide, fun l nl => ?_⟩
    have e5 := same_new (o := HO.lst [.int 0, .int 1, .int 2, .int r1, .int r2, .int 12]) nl
    have hp5 := hp4.tk (Tk.same e5)
    have g5 := upd_same (H := H4) (a := l) (o := HO.lst [.int 0, .int 1, .int 2, .int r1, .int r2, .int 12])
    generalize upd H4 l (HO.lst [.int 0, .int 1, .int 2, .int r1, .int r2, .int 12]) = H5 at hp5 g5 e5 ⊢
    refine ⟨l, rfl, ⟨_, SqL.of g5⟩, for_list (K := K) (a := l) (xs := [.int 0, .int 1, .int 2, .int r1, .int r2, .int 12]) (fun i σ HB => ∃ z4 z5 : Option V, σ = [some (.ref a0), some (.ref d), some (.ref p), some (.str (lifeD row step).shown), z4, z5, none] ∧ Same H5 HB) ⟨none, none, rfl, Same.refl _⟩ ?_ ?_ ?_⟩
    · rintro i σ HB _ ⟨_, _, _, sB⟩
      exact SqL.of (sB _ _ g5)
    · rintro i v σ HB hi ⟨z4, z5, rfl, sB⟩
      obtain ⟨k, rfl, hk⟩ : ∃ k : Nat, v = .int (k : Int) ∧ k ≤ 12 := by
        match i, hi with
        | 0, hi => exact ⟨0, (Option.some.inj hi).symm, by decide⟩
        | 1, hi => exact ⟨1, (Option.some.inj hi).symm, by decide⟩
        | 2, hi => exact ⟨2, (Option.some.inj hi).symm, by decide⟩
        | 3, hi => exact ⟨r1.toNat, by rw [← Option.some.inj hi, Int.toNat_of_nonneg (by omega)], by omega⟩
        | 4, hi => exact ⟨r2.toNat, by rw [← Option.some.inj hi, Int.toNat_of_nonneg (by omega)], by omega⟩
        | 5, hi => exact ⟨12, (Option.some.inj hi).symm, by decide⟩
      have hpB := hp5.tk (Tk.same sB)
      have shD := due_shows L hk
      refine ⟨_, rfl, _, rfl, p, row, step, k, rfl, hpB, L, hk, fun z1 H6 s6 d6 => ?_⟩
      refine ⟨z1, _, rfl, d6, shD, ?_⟩
      refine ⟨_, rfl, _, rfl, p, row, step, k, rfl, hpB.tk (Tk.same s6), L, hk, fun z2 H7 s7 d7 => ?_⟩
      refine ⟨z2, _, rfl, d7, shD, _, rfl, rfl, _, rfl, ?_⟩
      rw [decide_eq_true rfl]
      refine iteF ?_
      refine ⟨_, rfl, _, rfl, p, row, step, k, rfl, hpB.tk (Tk.same (s6.trans s7)), L, hk, fun z3 H8 s8 d8 => ?_⟩
      refine ⟨z3, _, rfl, d8, shD, _, rfl, rfl, _, rfl, ?_⟩
      rw [decide_eq_true rfl]
      refine iteF ?_
      refine ⟨_, rfl, p, _, rfl, (hpB.tk (Tk.same (s6.trans (s7.trans s8)))).dp, shL, _, rfl, rfl, _, rfl, ?_⟩
      rw [decide_eq_true rfl]
      exact iteF ⟨_, _, rfl, sB.trans (s6.trans (s7.trans s8))⟩
    · rintro σ HB ⟨z4, z5, rfl, sB⟩
      have hpB := hp5.tk (Tk.same sB)
      have hl12 : row.length ≤ 7 := al.ok.2.1
      obtain ⟨pr, ps, l1, l2, l3⟩ := id hpB
      refine ⟨fun σ H6 => ∃ z, σ = [some (.ref a0), some (.ref d), some (.ref p), some (.str (lifeD row step).shown), z4, z5, some (.ref z)] ∧ LifeAt K H6 z (List.replicate (12 - row.length) (0, 1) ++ row) step, ?_, ?_⟩
      · refine ⟨by show 2 ≤ sizeLine; decide, fun c1 n1 => ?_⟩
        have g1 := same_new (o := HO.tup [.int 0, .int 1]) n1
        refine ⟨by show 1 ≤ sizeLine; decide, fun c2 n2 => ?_⟩
        have g2 := same_new (o := HO.tup [.ref c1]) n2
        have G2 := g1.trans g2
        obtain ⟨rs, k1, k2⟩ := id (l2.tk (Tk.same G2))
        have hl := k2.length
        refine ⟨_, rfl, p, _, 0, _, rfl, rfl, Tk.same G2 _ _ l1, atI_nat (j := 0) rfl, pr, _, rfl, .inr k1, _, _, rfl, rfl, ?_⟩
        rw [List.length_map, hl]
        have e12 : (12 : Int) - (row.length : Int) = ((12 - row.length : Nat) : Int) := by omega
        show rRepA K (.ref c2) (.int ((12 : Int) - (row.length : Int))) _ _
        rw [e12]
        refine rep_row (x := (0, 1)) (SqT.of upd_same) (SqT.of (g2 _ _ upd_same)) (by omega) fun c3 H3 s3 h3 => ?_
        have G3 := G2.trans s3
        refine ⟨_, rfl, p, _, 0, _, rfl, rfl, Tk.same G3 _ _ l1, atI_nat (j := 0) rfl, ?_⟩
        refine cat_row h3 (l2.tk (Tk.same G3)) (by rw [List.length_replicate]; omega) fun c4 H4 s4 h4 => ?_
        have G4 := G3.trans s4
        refine ⟨_, rfl, p, _, 0, _, rfl, rfl, Tk.same G4 _ _ l1, atI_nat (j := 0) rfl, by show 0 ≤ sizeLine; decide, fun c5 n5 => ?_⟩
        have g5 := same_new (o := HO.tup []) n5
        have G5 := G4.trans g5
        refine ⟨_, _, (l2.tk (Tk.same G5)).dp, .tup (SqT.of upd_same) .nil, rowD_shaped row, rfl, _, rfl, ?_⟩
        rw [rowD_nil]
        have fin : ∀ (ps2 : Addr) (H7 : Hp), Same H4 H7 → RAt K H7 ps2 step → ∀ c7, H7 c7 = none → ∃ z, [some (V.ref a0), some (.ref d), some (.ref p), some (.str (lifeD row step).shown), z4, z5, some (.ref c7)] = [some (V.ref a0), some (.ref d), some (.ref p), some (.str (lifeD row step).shown), z4, z5, some (.ref z)] ∧ LifeAt K (upd H7 c7 (.tup [.ref c4, .ref ps2])) z (List.replicate (12 - row.length) (0, 1) ++ row) step := fun ps2 H7 s7 h7 c7 n7 => by
          have g7 := same_new (o := HO.tup [.ref c4, .ref ps2]) n7
          exact ⟨c7, rfl, c4, ps2, SqT.of upd_same, h4.tk (Tk.same (s7.trans g7)), h7.tk (Tk.same g7)⟩
        by_cases h0 : row = []
        · have e0 : row.isEmpty = true := by
            rw [h0]
            rfl
          rw [e0]
          refine iteF ?_
          refine ⟨by show 2 ≤ sizeLine; decide, fun c6 n6 => ?_⟩
          have g6 := same_new (o := HO.tup [.int 0, .int 1]) n6
          refine ⟨by show 2 ≤ sizeLine; decide, fun c7 n7 => ?_⟩
          have es : step = (0, 1) := L.nil h0
          refine fin c6 _ (g5.trans g6) ?_ c7 n7
          rw [es]
          exact SqT.of upd_same
        · have e0 : row.isEmpty = false := by
            cases row with
            | nil => exact absurd rfl h0
            | cons _ _ => rfl
          rw [e0]
          refine iteT ?_
          refine ⟨_, rfl, p, _, 1, _, rfl, rfl, Tk.same G5 _ _ l1, atI_nat (j := 1) rfl, by show 2 ≤ sizeLine; decide, fun c7 n7 => ?_⟩
          exact fin ps _ g5 (l3.tk (Tk.same G5)) c7 n7
      · rintro σ H6 ⟨z, rfl, hz⟩
        have L2 := L.ahead (12 - row.length) (by omega) (fun h0 => by rw [h0]; decide)
        refine ⟨by show 2 ≤ sizeLine; decide, fun l2 nl2 => ?_⟩
        have e6 := same_new (o := HO.tup [.int 9, .int 11]) nl2
        have hz6 := hz.tk (Tk.same e6)
        have g6 := upd_same (H := H6) (a := l2) (o := HO.tup [.int 9, .int 11])
        generalize upd H6 l2 (HO.tup [.int 9, .int 11]) = H7 at hz6 g6 e6 ⊢
        refine ⟨l2, rfl, ⟨_, SqT.of g6⟩, for_tup (K := K) (a := l2) (xs := [.int 9, .int 11]) (fun i σ HB => ∃ z4 : Option V, σ = [some (.ref a0), some (.ref d), some (.ref p), some (.str (lifeD row step).shown), z4, z5, some (.ref z)] ∧ Same H7 HB) ⟨z4, rfl, Same.refl _⟩ ?_ ?_ ?_⟩
        · rintro i σ HB _ ⟨_, _, sB⟩
          exact SqT.of (sB _ _ g6)
        · rintro i v σ HB hi ⟨z4, rfl, sB⟩
          obtain ⟨k, rfl, hk⟩ : ∃ k : Nat, v = .int (k : Int) ∧ k ≤ 12 := by
            match i, hi with
            | 0, hi => exact ⟨9, (Option.some.inj hi).symm, by decide⟩
            | 1, hi => exact ⟨11, (Option.some.inj hi).symm, by decide⟩
          have hzB := hz6.tk (Tk.same sB)
          have shD := due_shows L2 hk
          refine ⟨_, rfl, _, rfl, z, _, step, k, rfl, hzB, L2, hk, fun z2 H8 s8 d8 => ?_⟩
          refine ⟨z2, _, rfl, d8, shD, ?_⟩
          refine ⟨_, rfl, _, rfl, z, _, step, k, rfl, hzB.tk (Tk.same s8), L2, hk, fun z3 H9 s9 d9 => ?_⟩
          refine ⟨z3, _, rfl, d9, shD, rfl, _, rfl, ?_⟩
          rw [decide_eq_true rfl]
          exact iteF ⟨_, rfl, sB.trans (s8.trans s9)⟩
        · rintro σ HB ⟨z4, rfl, sB⟩
          exact q _
end

end Fp

set_option Elab.async false
set_option linter.all false
set_option maxRecDepth 100000
set_option maxHeartbeats 4000000
set_option exponentiation.threshold 10000
namespace Fp
open PySem PySem.Spec PyProof.Rows L2
theorem all_mk {l : PySem.W.OpenLaw} {w : World} {K : PySem.W.Frag} {h : Heap} {mg : Str → Option Value} {fa fC fR fM fT fO fOB fAD fBR fCT fCA fLA fSHO fWN fLO fE fD fL fSU fLT fLL fLF fAL fCH fPW fRE fLSH fLOV fDU9 fTD9 fZ a_NOUGHT a_ONE : Addr} (X : K.In h) (G : h.Ns mainGlobals mg) (hfa : mg "law" = some (.ref fa))
    {odC anC : Option Addr} {slC : Array (Option Value)} {ocC kVC dcC pmC cdC ctC : Value}
    {odR anR : Option Addr} {slR : Array (Option Value)} {ocR kVR dcR pmR cdR ctR : Value}
    {odM anM : Option Addr} {slM : Array (Option Value)} {ocM kVM dcM pmM cdM ctM : Value}
    {odT anT : Option Addr} {slT : Array (Option Value)} {ocT kVT dcT pmT cdT ctT : Value}
    {odO anO : Option Addr} {slO : Array (Option Value)} {ocO kVO dcO pmO cdO ctO : Value}
    {odOB anOB : Option Addr} {slOB : Array (Option Value)} {ocOB kVOB dcOB pmOB cdOB ctOB : Value}
    {odAD anAD : Option Addr} {slAD : Array (Option Value)} {ocAD kVAD dcAD pmAD cdAD ctAD : Value}
    {odBR anBR : Option Addr} {slBR : Array (Option Value)} {ocBR kVBR dcBR pmBR cdBR ctBR : Value}
    {odCT anCT : Option Addr} {slCT : Array (Option Value)} {ocCT kVCT dcCT pmCT cdCT ctCT : Value}
    {odCA anCA : Option Addr} {slCA : Array (Option Value)} {ocCA kVCA dcCA pmCA cdCA ctCA : Value}
    {odLA anLA : Option Addr} {slLA : Array (Option Value)} {ocLA kVLA dcLA pmLA cdLA ctLA : Value}
    {odSHO anSHO : Option Addr} {slSHO : Array (Option Value)} {ocSHO kVSHO dcSHO pmSHO cdSHO ctSHO : Value}
    {odWN anWN : Option Addr} {slWN : Array (Option Value)} {ocWN kVWN dcWN pmWN cdWN ctWN : Value}
    {odLO anLO : Option Addr} {slLO : Array (Option Value)} {ocLO kVLO dcLO pmLO cdLO ctLO : Value}
    {odE anE : Option Addr} {slE : Array (Option Value)} {ocE kVE dcE pmE cdE ctE : Value}
    {odD anD : Option Addr} {slD : Array (Option Value)} {ocD kVD dcD pmD cdD ctD : Value}
    {odL anL : Option Addr} {slL : Array (Option Value)} {ocL kVL dcL pmL cdL ctL : Value}
    {odSU anSU : Option Addr} {slSU : Array (Option Value)} {ocSU kVSU dcSU pmSU cdSU ctSU : Value}
    {odLT anLT : Option Addr} {slLT : Array (Option Value)} {ocLT kVLT dcLT pmLT cdLT ctLT : Value}
    {odLL anLL : Option Addr} {slLL : Array (Option Value)} {ocLL kVLL dcLL pmLL cdLL ctLL : Value}
    {odLF anLF : Option Addr} {slLF : Array (Option Value)} {ocLF kVLF dcLF pmLF cdLF ctLF : Value}
    {odAL anAL : Option Addr} {slAL : Array (Option Value)} {ocAL kVAL dcAL pmAL cdAL ctAL : Value}
    {odCH anCH : Option Addr} {slCH : Array (Option Value)} {ocCH kVCH dcCH pmCH cdCH ctCH : Value}
    {odPW anPW : Option Addr} {slPW : Array (Option Value)} {ocPW kVPW dcPW pmPW cdPW ctPW : Value}
    {odRE anRE : Option Addr} {slRE : Array (Option Value)} {ocRE kVRE dcRE pmRE cdRE ctRE : Value}
    {odLSH anLSH : Option Addr} {slLSH : Array (Option Value)} {ocLSH kVLSH dcLSH pmLSH cdLSH ctLSH : Value}
    {odLOV anLOV : Option Addr} {slLOV : Array (Option Value)} {ocLOV kVLOV dcLOV pmLOV cdLOV ctLOV : Value}
    {odDU9 anDU9 : Option Addr} {slDU9 : Array (Option Value)} {ocDU9 kVDU9 dcDU9 pmDU9 cdDU9 ctDU9 : Value}
    {odTD9 anTD9 : Option Addr} {slTD9 : Array (Option Value)} {ocTD9 kVTD9 dcTD9 pmTD9 cdTD9 ctTD9 : Value}
    {odZ anZ : Option Addr} {slZ : Array (Option Value)} {ocZ kVZ dcZ pmZ cdZ ctZ : Value}
    {od_NOUGHT : Option Addr} {n_NOUGHTx : Nat} {sl_NOUGHT : Array (Option Value)} {t0_NOUGHT t1_NOUGHT : Tok}
    {od_ONE : Option Addr} {n_ONEx : Nat} {sl_ONE : Array (Option Value)} {t0_ONE t1_ONE : Tok}
    (aC : PySem.W.nsIn K mainGlobals "common_divisor" = some (some (.ref fC))) (lC : K.lookup fC = some ⟨ocC, odC, .func (PySem.W.fnOf "common_divisor" "common_divisor" (defArgs s_cd) (defBody s_cd) (defScope s_cd) .none kVC dcC pmC anC cdC ctC), slC⟩) (cC : PySem.W.codeIn K cdC "common_divisor" = true) (kC : PySem.W.keepIn K (.ref fC) = true)
    (aR : PySem.W.nsIn K mainGlobals "ratio" = some (some (.ref fR))) (lR : K.lookup fR = some ⟨ocR, odR, .func (PySem.W.fnOf "ratio" "ratio" (defArgs s_ratio) (defBody s_ratio) (defScope s_ratio) .none kVR dcR pmR anR cdR ctR), slR⟩) (cR : PySem.W.codeIn K cdR "ratio" = true) (kR : PySem.W.keepIn K (.ref fR) = true)
    (aM : PySem.W.nsIn K mainGlobals "minus" = some (some (.ref fM))) (lM : K.lookup fM = some ⟨ocM, odM, .func (PySem.W.fnOf "minus" "minus" (defArgs s_minus) (defBody s_minus) (defScope s_minus) .none kVM dcM pmM anM cdM ctM), slM⟩) (cM : PySem.W.codeIn K cdM "minus" = true) (kM : PySem.W.keepIn K (.ref fM) = true)
    (aT : PySem.W.nsIn K mainGlobals "times" = some (some (.ref fT))) (lT : K.lookup fT = some ⟨ocT, odT, .func (PySem.W.fnOf "times" "times" (defArgs s_times) (defBody s_times) (defScope s_times) .none kVT dcT pmT anT cdT ctT), slT⟩) (cT : PySem.W.codeIn K cdT "times" = true) (kT : PySem.W.keepIn K (.ref fT) = true)
    (aO : PySem.W.nsIn K mainGlobals "over" = some (some (.ref fO))) (lO : K.lookup fO = some ⟨ocO, odO, .func (PySem.W.fnOf "over" "over" (defArgs s_over) (defBody s_over) (defScope s_over) .none kVO dcO pmO anO cdO ctO), slO⟩) (cO : PySem.W.codeIn K cdO "over" = true) (kO : PySem.W.keepIn K (.ref fO) = true)
    (aOB : PySem.W.nsIn K mainGlobals "on_one_bottom" = some (some (.ref fOB))) (lOB : K.lookup fOB = some ⟨ocOB, odOB, .func (PySem.W.fnOf "on_one_bottom" "on_one_bottom" (defArgs s_oob) (defBody s_oob) (defScope s_oob) .none kVOB dcOB pmOB anOB cdOB ctOB), slOB⟩) (cOB : PySem.W.codeIn K cdOB "on_one_bottom" = true) (kOB : PySem.W.keepIn K (.ref fOB) = true)
    (aAD : PySem.W.nsIn K mainGlobals "added" = some (some (.ref fAD))) (lAD : K.lookup fAD = some ⟨ocAD, odAD, .func (PySem.W.fnOf "added" "added" (defArgs s_added) (defBody s_added) (defScope s_added) .none kVAD dcAD pmAD anAD cdAD ctAD), slAD⟩) (cAD : PySem.W.codeIn K cdAD "added" = true) (kAD : PySem.W.keepIn K (.ref fAD) = true)
    (aBR : PySem.W.nsIn K mainGlobals "behind_row" = some (some (.ref fBR))) (lBR : K.lookup fBR = some ⟨ocBR, odBR, .func (PySem.W.fnOf "behind_row" "behind_row" (defArgs s_behind) (defBody s_behind) (defScope s_behind) .none kVBR dcBR pmBR anBR cdBR ctBR), slBR⟩) (cBR : PySem.W.codeIn K cdBR "behind_row" = true) (kBR : PySem.W.keepIn K (.ref fBR) = true)
    (aCT : PySem.W.nsIn K mainGlobals "chances_to" = some (some (.ref fCT))) (lCT : K.lookup fCT = some ⟨ocCT, odCT, .func (PySem.W.fnOf "chances_to" "chances_to" (defArgs s_chto) (defBody s_chto) (defScope s_chto) .none kVCT dcCT pmCT anCT cdCT ctCT), slCT⟩) (cCT : PySem.W.codeIn K cdCT "chances_to" = true) (kCT : PySem.W.keepIn K (.ref fCT) = true)
    (aCA : PySem.W.nsIn K mainGlobals "chance_at" = some (some (.ref fCA))) (lCA : K.lookup fCA = some ⟨ocCA, odCA, .func (PySem.W.fnOf "chance_at" "chance_at" (defArgs s_chat) (defBody s_chat) (defScope s_chat) .none kVCA dcCA pmCA anCA cdCA ctCA), slCA⟩) (cCA : PySem.W.codeIn K cdCA "chance_at" = true) (kCA : PySem.W.keepIn K (.ref fCA) = true)
    (aLA : PySem.W.nsIn K mainGlobals "lasting" = some (some (.ref fLA))) (lLA : K.lookup fLA = some ⟨ocLA, odLA, .func (PySem.W.fnOf "lasting" "lasting" (defArgs s_lasting) (defBody s_lasting) (defScope s_lasting) .none kVLA dcLA pmLA anLA cdLA ctLA), slLA⟩) (cLA : PySem.W.codeIn K cdLA "lasting" = true) (kLA : PySem.W.keepIn K (.ref fLA) = true)
    (aSHO : PySem.W.nsIn K mainGlobals "short" = some (some (.ref fSHO))) (lSHO : K.lookup fSHO = some ⟨ocSHO, odSHO, .func (PySem.W.fnOf "short" "short" (defArgs s_short) (defBody s_short) (defScope s_short) .none kVSHO dcSHO pmSHO anSHO cdSHO ctSHO), slSHO⟩) (cSHO : PySem.W.codeIn K cdSHO "short" = true) (kSHO : PySem.W.keepIn K (.ref fSHO) = true)
    (aWN : PySem.W.nsIn K mainGlobals "without_noughts" = some (some (.ref fWN))) (lWN : K.lookup fWN = some ⟨ocWN, odWN, .func (PySem.W.fnOf "without_noughts" "without_noughts" (defArgs s_wn) (defBody s_wn) (defScope s_wn) .none kVWN dcWN pmWN anWN cdWN ctWN), slWN⟩) (cWN : PySem.W.codeIn K cdWN "without_noughts" = true) (kWN : PySem.W.keepIn K (.ref fWN) = true)
    (aLO : PySem.W.nsIn K mainGlobals "left_of" = some (some (.ref fLO))) (lLO : K.lookup fLO = some ⟨ocLO, odLO, .func (PySem.W.fnOf "left_of" "left_of" (defArgs s_left) (defBody s_left) (defScope s_left) .none kVLO dcLO pmLO anLO cdLO ctLO), slLO⟩) (cLO : PySem.W.codeIn K cdLO "left_of" = true) (kLO : PySem.W.keepIn K (.ref fLO) = true)
    (aE : PySem.W.nsIn K mainGlobals "_law_feed" = some (some (.ref fE))) (lE : K.lookup fE = some ⟨ocE, odE, .func (PySem.W.fnOf "_law_feed" "_law_feed" (defArgs s_feed) (defBody s_feed) (defScope s_feed) .none kVE dcE pmE anE cdE ctE), slE⟩) (cE : PySem.W.codeIn K cdE "_law_feed" = true) (kE : PySem.W.keepIn K (.ref fE) = true)
    (aD : PySem.W.nsIn K mainGlobals "_law_draw" = some (some (.ref fD))) (lD : K.lookup fD = some ⟨ocD, odD, .func (PySem.W.fnOf "_law_draw" "_law_draw" (defArgs s_draw) (defBody s_draw) (defScope s_draw) .none kVD dcD pmD anD cdD ctD), slD⟩) (cD : PySem.W.codeIn K cdD "_law_draw" = true) (kD : PySem.W.keepIn K (.ref fD) = true)
    (aL : PySem.W.nsIn K mainGlobals "_law_low" = some (some (.ref fL))) (lL : K.lookup fL = some ⟨ocL, odL, .func (PySem.W.fnOf "_law_low" "_law_low" (defArgs s_low) (defBody s_low) (defScope s_low) .none kVL dcL pmL anL cdL ctL), slL⟩) (cL : PySem.W.codeIn K cdL "_law_low" = true) (kL : PySem.W.keepIn K (.ref fL) = true)
    (aSU : PySem.W.nsIn K mainGlobals "_law_sum" = some (some (.ref fSU))) (lSU : K.lookup fSU = some ⟨ocSU, odSU, .func (PySem.W.fnOf "_law_sum" "_law_sum" (defArgs s_lsum) (defBody s_lsum) (defScope s_lsum) .none kVSU dcSU pmSU anSU cdSU ctSU), slSU⟩) (cSU : PySem.W.codeIn K cdSU "_law_sum" = true) (kSU : PySem.W.keepIn K (.ref fSU) = true)
    (aLT : PySem.W.nsIn K mainGlobals "_law_times" = some (some (.ref fLT))) (lLT : K.lookup fLT = some ⟨ocLT, odLT, .func (PySem.W.fnOf "_law_times" "_law_times" (defArgs s_ltimes) (defBody s_ltimes) (defScope s_ltimes) .none kVLT dcLT pmLT anLT cdLT ctLT), slLT⟩) (cLT : PySem.W.codeIn K cdLT "_law_times" = true) (kLT : PySem.W.keepIn K (.ref fLT) = true)
    (aLL : PySem.W.nsIn K mainGlobals "_law_less" = some (some (.ref fLL))) (lLL : K.lookup fLL = some ⟨ocLL, odLL, .func (PySem.W.fnOf "_law_less" "_law_less" (defArgs s_lless) (defBody s_lless) (defScope s_lless) .none kVLL dcLL pmLL anLL cdLL ctLL), slLL⟩) (cLL : PySem.W.codeIn K cdLL "_law_less" = true) (kLL : PySem.W.keepIn K (.ref fLL) = true)
    (aLF : PySem.W.nsIn K mainGlobals "_law_life" = some (some (.ref fLF))) (lLF : K.lookup fLF = some ⟨ocLF, odLF, .func (PySem.W.fnOf "_law_life" "_law_life" (defArgs s_life) (defBody s_life) (defScope s_life) .none kVLF dcLF pmLF anLF cdLF ctLF), slLF⟩) (cLF : PySem.W.codeIn K cdLF "_law_life" = true) (kLF : PySem.W.keepIn K (.ref fLF) = true)
    (aAL : PySem.W.nsIn K mainGlobals "_law_any_life" = some (some (.ref fAL))) (lAL : K.lookup fAL = some ⟨ocAL, odAL, .func (PySem.W.fnOf "_law_any_life" "_law_any_life" (defArgs s_any) (defBody s_any) (defScope s_any) .none kVAL dcAL pmAL anAL cdAL ctAL), slAL⟩) (cAL : PySem.W.codeIn K cdAL "_law_any_life" = true) (kAL : PySem.W.keepIn K (.ref fAL) = true)
    (aCH : PySem.W.nsIn K mainGlobals "_law_chance" = some (some (.ref fCH))) (lCH : K.lookup fCH = some ⟨ocCH, odCH, .func (PySem.W.fnOf "_law_chance" "_law_chance" (defArgs s_lchance) (defBody s_lchance) (defScope s_lchance) .none kVCH dcCH pmCH anCH cdCH ctCH), slCH⟩) (cCH : PySem.W.codeIn K cdCH "_law_chance" = true) (kCH : PySem.W.keepIn K (.ref fCH) = true)
    (aPW : PySem.W.nsIn K mainGlobals "_law_power" = some (some (.ref fPW))) (lPW : K.lookup fPW = some ⟨ocPW, odPW, .func (PySem.W.fnOf "_law_power" "_law_power" (defArgs s_lpower) (defBody s_lpower) (defScope s_lpower) .none kVPW dcPW pmPW anPW cdPW ctPW), slPW⟩) (cPW : PySem.W.codeIn K cdPW "_law_power" = true) (kPW : PySem.W.keepIn K (.ref fPW) = true)
    (aRE : PySem.W.nsIn K mainGlobals "_law_rest" = some (some (.ref fRE))) (lRE : K.lookup fRE = some ⟨ocRE, odRE, .func (PySem.W.fnOf "_law_rest" "_law_rest" (defArgs s_lrest) (defBody s_lrest) (defScope s_lrest) .none kVRE dcRE pmRE anRE cdRE ctRE), slRE⟩) (cRE : PySem.W.codeIn K cdRE "_law_rest" = true) (kRE : PySem.W.keepIn K (.ref fRE) = true)
    (aLSH : PySem.W.nsIn K mainGlobals "_law_short" = some (some (.ref fLSH))) (lLSH : K.lookup fLSH = some ⟨ocLSH, odLSH, .func (PySem.W.fnOf "_law_short" "_law_short" (defArgs s_lshort) (defBody s_lshort) (defScope s_lshort) .none kVLSH dcLSH pmLSH anLSH cdLSH ctLSH), slLSH⟩) (cLSH : PySem.W.codeIn K cdLSH "_law_short" = true) (kLSH : PySem.W.keepIn K (.ref fLSH) = true)
    (aLOV : PySem.W.nsIn K mainGlobals "_law_over" = some (some (.ref fLOV))) (lLOV : K.lookup fLOV = some ⟨ocLOV, odLOV, .func (PySem.W.fnOf "_law_over" "_law_over" (defArgs s_lov) (defBody s_lov) (defScope s_lov) .none kVLOV dcLOV pmLOV anLOV cdLOV ctLOV), slLOV⟩) (cLOV : PySem.W.codeIn K cdLOV "_law_over" = true) (kLOV : PySem.W.keepIn K (.ref fLOV) = true)
    (aDU9 : PySem.W.nsIn K mainGlobals "_law_due" = some (some (.ref fDU9))) (lDU9 : K.lookup fDU9 = some ⟨ocDU9, odDU9, .func (PySem.W.fnOf "_law_due" "_law_due" (defArgs s_due9) (defBody s_due9) (defScope s_due9) .none kVDU9 dcDU9 pmDU9 anDU9 cdDU9 ctDU9), slDU9⟩) (cDU9 : PySem.W.codeIn K cdDU9 "_law_due" = true) (kDU9 : PySem.W.keepIn K (.ref fDU9) = true)
    (aTD9 : PySem.W.nsIn K mainGlobals "_law_told" = some (some (.ref fTD9))) (lTD9 : K.lookup fTD9 = some ⟨ocTD9, odTD9, .func (PySem.W.fnOf "_law_told" "_law_told" (defArgs s_told9) (defBody s_told9) (defScope s_told9) .none kVTD9 dcTD9 pmTD9 anTD9 cdTD9 ctTD9), slTD9⟩) (cTD9 : PySem.W.codeIn K cdTD9 "_law_told" = true) (kTD9 : PySem.W.keepIn K (.ref fTD9) = true)
    (aZ : PySem.W.nsIn K mainGlobals "law" = some (some (.ref fZ))) (lZ : K.lookup fZ = some ⟨ocZ, odZ, .func (PySem.W.fnOf "law" "law" (defArgs s_law) (defBody s_law) (defScope s_law) .none kVZ dcZ pmZ anZ cdZ ctZ), slZ⟩) (cZ : PySem.W.codeIn K cdZ "law" = true) (kZ : PySem.W.keepIn K (.ref fZ) = true)
    (g_NOUGHT : PySem.W.nsIn K mainGlobals "NOUGHT" = some (some (.ref a_NOUGHT))) (l_NOUGHT : K.lookup a_NOUGHT = some ⟨.type "tuple", od_NOUGHT, .seq #[.int 0 t0_NOUGHT, .int 1 t1_NOUGHT] n_NOUGHTx, sl_NOUGHT⟩)
    (g_ONE : PySem.W.nsIn K mainGlobals "ONE" = some (some (.ref a_ONE))) (l_ONE : K.lookup a_ONE = some ⟨.type "tuple", od_ONE, .seq #[.int 1 t0_ONE, .int 1 t1_ONE] n_ONEx, sl_ONE⟩)
    (z_ValueError : PySem.W.nsIn K mainGlobals "ValueError" = some none)
    (z_abs : PySem.W.nsIn K mainGlobals "abs" = some none)
    (z_int : PySem.W.nsIn K mainGlobals "int" = some none)
    (z_isinstance : PySem.W.nsIn K mainGlobals "isinstance" = some none)
    (z_len : PySem.W.nsIn K mainGlobals "len" = some none)
    (z_list : PySem.W.nsIn K mainGlobals "list" = some none)
    (z_max : PySem.W.nsIn K mainGlobals "max" = some none)
    (z_range : PySem.W.nsIn K mainGlobals "range" = some none)
    (z_repr : PySem.W.nsIn K mainGlobals "repr" = some none)
    (z_sum : PySem.W.nsIn K mainGlobals "sum" = some none)
    (z_tuple : PySem.W.nsIn K mainGlobals "tuple" = some none)
    {C_F C_N C_A C_B C_P C_T C_X C_L C_M C_R : Addr}
    {i_F : Addr} {od_F an_F : Option Addr} {sl_F : Array (Option Value)} {oc_F kV_F dc_F pm_F cd_F ct_F : Value}
    {i_A : Addr} {od_A an_A : Option Addr} {sl_A : Array (Option Value)} {oc_A kV_A dc_A pm_A cd_A ct_A : Value}
    {nm_A q_A : Str} {NN_A : Addr} {bs_A : List Value} {sn_A : List Str} {sub_A : List Value} {ab_A : Bool} {col_A : Option Bool} {dd_A : Option Addr} {m0_A m1_A m2_A m3_A m5_A : Option Value}
    (g_F : PySem.W.nsIn K mainGlobals "FreshError" = some (some (.ref C_F)))
    (g_N : PySem.W.nsIn K mainGlobals "NoRatio" = some (some (.ref C_N)))
    (g_A : PySem.W.nsIn K mainGlobals "NoAge" = some (some (.ref C_A)))
    (g_B : PySem.W.nsIn K mainGlobals "NoBeat" = some (some (.ref C_B)))
    (g_P : PySem.W.nsIn K mainGlobals "NoPaper" = some (some (.ref C_P)))
    (g_T : PySem.W.nsIn K mainGlobals "TooMany" = some (some (.ref C_T)))
    (g_X : PySem.W.nsIn K mainGlobals "NoText" = some (some (.ref C_X)))
    (g_L : PySem.W.nsIn K mainGlobals "NoLines" = some (some (.ref C_L)))
    (g_M : PySem.W.nsIn K mainGlobals "NoName" = some (some (.ref C_M)))
    (g_R : PySem.W.nsIn K mainGlobals "NoRow" = some (some (.ref C_R)))
    (iF : PySem.W.findIn K (.ref C_F) "__init__" = some (some (.ref i_F))) (lF_ : K.lookup i_F = some ⟨oc_F, od_F, .func (PySem.W.fnOf "__init__" "FreshError.__init__" (defArgs s_iF) (defBody s_iF) (defScope s_iF) .none kV_F dc_F pm_F an_F cd_F ct_F), sl_F⟩) (cF_ : PySem.W.codeIn K cd_F "FreshError.__init__" = true) (kF_ : PySem.W.keepIn K (.ref i_F) = true)
    (rdF : PySem.W.readsIn K C_F (.type "type") = true) (fcF : PySem.W.findCls K (.ref C_F) (.type "type") "__init__" = some (.val (.ref i_F))) (spF : PySem.W.specialIn K (.ref C_F) "__getattribute__" = some (some (.builtin "type.__getattribute__")))
    (vV : PySem.W.findCls K (.type "ValueError") (.type "type") "__init__" = some (.val (.builtin "ValueError.__init__")))
    (EXA : errB K C_A = true)
    (iA : PySem.W.findIn K (.ref C_A) "__init__" = some (some (.ref i_A))) (lA_ : K.lookup i_A = some ⟨oc_A, od_A, .func (PySem.W.fnOf "__init__" "NoAge.__init__" (defArgs s_iA) (defBody s_iA) (defScope s_iA) .none kV_A dc_A pm_A an_A cd_A ct_A), sl_A⟩) (cA_ : PySem.W.codeIn K cd_A "NoAge.__init__" = true) (kA_ : PySem.W.keepIn K (.ref i_A) = true)
    (tA : PySem.W.typeIn K (.ref i_A) = some (.type "function")) (xA : K.lookup C_A = some (excClassObj nm_A q_A C_A NN_A bs_A [.ref C_F, .type "ValueError", .type "Exception", .type "BaseException", .type "object"] true sn_A sub_A ab_A col_A dd_A m0_A m1_A m2_A m3_A m5_A "ValueError.__new__"))
    (EKA : kitsB K C_A (ktsA ⟨C_F, C_N, C_A, C_B, C_P, C_T, C_X, C_L, C_M, C_R⟩) = true)
    (EMA : PySem.W.exmOne K (.ref C_A) (.ref C_F) = some true)
    (ENAage : PySem.W.findIn K (.ref C_A) "age" = some none)
    : ∃ fd : FuncData, (∀ (s : Shared) (v : Value), BindsTo s fd ⟨[v], []⟩ [("_law_script", v)]) ∧ ∀ base : Heap, K.In base → base.Ns mainGlobals mg → FnG l.prog w K mg base CX0 8 fa fd ["_law_script"] (spLaw K) := by
  have e := hfa.symm.trans (PySem.W.mg_of X G aZ)
  cases e
  have FC := fun_mk (st := s_cd) lC cC kC
  have bC := FC.binds (ps := ["one", "other"]) fun _ _ _ _ _ _ us hl => match us, hl with | [_, _], _ => rfl
  have gC := PySem.W.mg_of X G aC
  have FR := fun_mk (st := s_ratio) lR cR kR
  have bR := FR.binds (ps := ["top", "bottom"]) fun _ _ _ _ _ _ us hl => match us, hl with | [_, _], _ => rfl
  have gR := PySem.W.mg_of X G aR
  have FM := fun_mk (st := s_minus) lM cM kM
  have bM := FM.binds (ps := ["one", "other"]) fun _ _ _ _ _ _ us hl => match us, hl with | [_, _], _ => rfl
  have gM := PySem.W.mg_of X G aM
  have FT := fun_mk (st := s_times) lT cT kT
  have bT := FT.binds (ps := ["one", "other"]) fun _ _ _ _ _ _ us hl => match us, hl with | [_, _], _ => rfl
  have gT := PySem.W.mg_of X G aT
  have FO := fun_mk (st := s_over) lO cO kO
  have bO := FO.binds (ps := ["one", "other"]) fun _ _ _ _ _ _ us hl => match us, hl with | [_, _], _ => rfl
  have gO := PySem.W.mg_of X G aO
  have FOB := fun_mk (st := s_oob) lOB cOB kOB
  have bOB := FOB.binds (ps := ["told"]) fun _ _ _ _ _ _ us hl => match us, hl with | [_], _ => rfl
  have gOB := PySem.W.mg_of X G aOB
  have FAD := fun_mk (st := s_added) lAD cAD kAD
  have bAD := FAD.binds (ps := ["told"]) fun _ _ _ _ _ _ us hl => match us, hl with | [_], _ => rfl
  have gAD := PySem.W.mg_of X G aAD
  have FBR := fun_mk (st := s_behind) lBR cBR kBR
  have bBR := FBR.binds (ps := ["life"]) fun _ _ _ _ _ _ us hl => match us, hl with | [_], _ => rfl
  have gBR := PySem.W.mg_of X G aBR
  have FCT := fun_mk (st := s_chto) lCT cCT kCT
  have bCT := FCT.binds (ps := ["life", "most"]) fun _ _ _ _ _ _ us hl => match us, hl with | [_, _], _ => rfl
  have gCT := PySem.W.mg_of X G aCT
  have FCA := fun_mk (st := s_chat) lCA cCA kCA
  have bCA := FCA.binds (ps := ["life", "k"]) fun _ _ _ _ _ _ us hl => match us, hl with | [_, _], _ => rfl
  have gCA := PySem.W.mg_of X G aCA
  have FLA := fun_mk (st := s_lasting) lLA cLA kLA
  have bLA := FLA.binds (ps := ["life", "k"]) fun _ _ _ _ _ _ us hl => match us, hl with | [_, _], _ => rfl
  have gLA := PySem.W.mg_of X G aLA
  have FSHO := fun_mk (st := s_short) lSHO cSHO kSHO
  have bSHO := FSHO.binds (ps := ["life"]) fun _ _ _ _ _ _ us hl => match us, hl with | [_], _ => rfl
  have gSHO := PySem.W.mg_of X G aSHO
  have FWN := fun_mk (st := s_wn) lWN cWN kWN
  have bWN := FWN.binds (ps := ["row"]) fun _ _ _ _ _ _ us hl => match us, hl with | [_], _ => rfl
  have gWN := PySem.W.mg_of X G aWN
  have FLO := fun_mk (st := s_left) lLO cLO kLO
  have bLO := FLO.binds (ps := ["life", "age"]) fun _ _ _ _ _ _ us hl => match us, hl with | [_, _], _ => rfl
  have gLO := PySem.W.mg_of X G aLO
  have FE := fun_mk (st := s_feed) lE cE kE
  have bE := FE.binds (ps := ["_law_script"]) fun _ _ _ _ _ _ us hl => match us, hl with | [_], _ => rfl
  have gE := PySem.W.mg_of X G aE
  have FD := fun_mk (st := s_draw) lD cD kD
  have bD := FD.binds (ps := ["_law_feed_here", "_law_many"]) fun _ _ _ _ _ _ us hl => match us, hl with | [_, _], _ => rfl
  have gD := PySem.W.mg_of X G aD
  have FL := fun_mk (st := s_low) lL cL kL
  have bL := FL.binds (ps := ["_law_top", "_law_bottom"]) fun _ _ _ _ _ _ us hl => match us, hl with | [_, _], _ => rfl
  have gL := PySem.W.mg_of X G aL
  have FSU := fun_mk (st := s_lsum) lSU cSU kSU
  have bSU := FSU.binds (ps := ["_law_some"]) fun _ _ _ _ _ _ us hl => match us, hl with | [_], _ => rfl
  have gSU := PySem.W.mg_of X G aSU
  have FLT := fun_mk (st := s_ltimes) lLT cLT kLT
  have bLT := FLT.binds (ps := ["_law_one", "_law_other"]) fun _ _ _ _ _ _ us hl => match us, hl with | [_, _], _ => rfl
  have gLT := PySem.W.mg_of X G aLT
  have FLL := fun_mk (st := s_lless) lLL cLL kLL
  have bLL := FLL.binds (ps := ["_law_one", "_law_other"]) fun _ _ _ _ _ _ us hl => match us, hl with | [_, _], _ => rfl
  have gLL := PySem.W.mg_of X G aLL
  have FLF := fun_mk (st := s_life) lLF cLF kLF
  have bLF := FLF.binds (ps := ["_law_feed_here", "_law_way"]) fun _ _ _ _ _ _ us hl => match us, hl with | [_, _], _ => rfl
  have gLF := PySem.W.mg_of X G aLF
  have FAL := fun_mk (st := s_any) lAL cAL kAL
  have bAL := FAL.binds (ps := ["_law_feed_here"]) fun _ _ _ _ _ _ us hl => match us, hl with | [_], _ => rfl
  have gAL := PySem.W.mg_of X G aAL
  have FCH := fun_mk (st := s_lchance) lCH cCH kCH
  have bCH := FCH.binds (ps := ["_law_life_here", "_law_k"]) fun _ _ _ _ _ _ us hl => match us, hl with | [_, _], _ => rfl
  have gCH := PySem.W.mg_of X G aCH
  have FPW := fun_mk (st := s_lpower) lPW cPW kPW
  have bPW := FPW.binds (ps := ["_law_one", "_law_far"]) fun _ _ _ _ _ _ us hl => match us, hl with | [_, _], _ => rfl
  have gPW := PySem.W.mg_of X G aPW
  have FRE := fun_mk (st := s_lrest) lRE cRE kRE
  have bRE := FRE.binds (ps := ["_law_life_here", "_law_k"]) fun _ _ _ _ _ _ us hl => match us, hl with | [_, _], _ => rfl
  have gRE := PySem.W.mg_of X G aRE
  have FLSH := fun_mk (st := s_lshort) lLSH cLSH kLSH
  have bLSH := FLSH.binds (ps := ["_law_life_here"]) fun _ _ _ _ _ _ us hl => match us, hl with | [_], _ => rfl
  have gLSH := PySem.W.mg_of X G aLSH
  have FLOV := fun_mk (st := s_lov) lLOV cLOV kLOV
  have bLOV := FLOV.binds (ps := ["_law_one", "_law_other"]) fun _ _ _ _ _ _ us hl => match us, hl with | [_, _], _ => rfl
  have gLOV := PySem.W.mg_of X G aLOV
  have FDU9 := fun_mk (st := s_due9) lDU9 cDU9 kDU9
  have bDU9 := FDU9.binds (ps := ["_law_life_here", "_law_age"]) fun _ _ _ _ _ _ us hl => match us, hl with | [_, _], _ => rfl
  have gDU9 := PySem.W.mg_of X G aDU9
  have FTD9 := fun_mk (st := s_told9) lTD9 cTD9 kTD9
  have bTD9 := FTD9.binds (ps := ["_law_life_here", "_law_age"]) fun _ _ _ _ _ _ us hl => match us, hl with | [_, _], _ => rfl
  have gTD9 := PySem.W.mg_of X G aTD9
  have FZ := fun_mk (st := s_law) lZ cZ kZ
  have bZ := FZ.binds (ps := ["_law_script"]) fun _ _ _ _ _ _ us hl => match us, hl with | [_], _ => rfl
  have gZ := PySem.W.mg_of X G aZ
  have n_ValueError := PySem.W.mg_none_of X G z_ValueError
  have n_abs := PySem.W.mg_none_of X G z_abs
  have n_int := PySem.W.mg_none_of X G z_int
  have n_isinstance := PySem.W.mg_none_of X G z_isinstance
  have n_len := PySem.W.mg_none_of X G z_len
  have n_list := PySem.W.mg_none_of X G z_list
  have n_max := PySem.W.mg_none_of X G z_max
  have n_range := PySem.W.mg_none_of X G z_range
  have n_repr := PySem.W.mg_none_of X G z_repr
  have n_sum := PySem.W.mg_none_of X G z_sum
  have n_tuple := PySem.W.mg_none_of X G z_tuple
  have m_NOUGHT := PySem.W.mg_of X G g_NOUGHT
  have r_NOUGHT : ∀ H, RAt K H a_NOUGHT (0, 1) := fun H => .inr ⟨_, _, _, l_NOUGHT, rfl, rfl, by show 2 ≤ sizeLine; decide, .cons ⟨_, rfl⟩ (.cons ⟨_, rfl⟩ .nil)⟩
  have m_ONE := PySem.W.mg_of X G g_ONE
  have r_ONE : ∀ H, RAt K H a_ONE (1, 1) := fun H => .inr ⟨_, _, _, l_ONE, rfl, rfl, by show 2 ≤ sizeLine; decide, .cons ⟨_, rfl⟩ (.cons ⟨_, rfl⟩ .nil)⟩
  refine ⟨PySem.W.fnOf "law" "law" (defArgs s_law) (defBody s_law) (defScope s_law) .none kVZ dcZ pmZ anZ cdZ ctZ, fun s v => .of_eq rfl, fun base _ _ => ?_⟩
  have FIF := fun_mk (st := s_iF) lF_ cF_ kF_
  have bIF := FIF.binds (ps := ["self", "text"]) fun _ _ _ _ _ _ us hl => match us, hl with | [_, _], _ => rfl
  have EF : ErrF K mg C_F i_F _ := ⟨PySem.W.mg_of X G g_F, ⟨rdF, fcF, rfl, spF, kF_⟩, FIF, bIF, n_ValueError, vV⟩
  have FIA := fun_mk (st := s_iA) lA_ cA_ kA_
  have bIA := FIA.binds (ps := ["self", "age"]) fun _ _ _ _ _ _ us hl => match us, hl with | [_, _], _ => rfl
  have oA : OexC K C_A := ⟨⟨nm_A, q_A, NN_A, bs_A, _, sn_A, sub_A, ab_A, col_A, dd_A, m0_A, m1_A, m2_A, m3_A, m5_A, xA, rfl⟩, (errB_ok EXA).2.2.1, (errB_ok EXA).1.hs, (errB_ok EXA).2.2.2.1, (errB_ok EXA).2.2.2.2.1⟩
  have EA : ErrA K mg C_A i_A _ := ⟨PySem.W.mg_of X G g_A, oA, iA, tA, FIA, bIA, EXA⟩
  have EG : ErrG mg ⟨C_F, C_N, C_A, C_B, C_P, C_T, C_X, C_L, C_M, C_R⟩ := ⟨PySem.W.mg_of X G g_F, PySem.W.mg_of X G g_N, PySem.W.mg_of X G g_A, PySem.W.mg_of X G g_B, PySem.W.mg_of X G g_P, PySem.W.mg_of X G g_T, PySem.W.mg_of X G g_X, PySem.W.mg_of X G g_L, PySem.W.mg_of X G g_M, PySem.W.mg_of X G g_R⟩
  have C : Consts K mg a_NOUGHT a_ONE := ⟨m_NOUGHT, m_ONE, r_NOUGHT, r_ONE⟩
  have GWN : FnOk l.prog w K mg base CX0 1 fWN _ ["row"] (spWn K) := ok_wn FWN C n_len
  have GE : FnOk l.prog w K mg base CX0 1 fE _ ["_law_script"] (spFeed K) := ok_feed FE n_list
  have GD : FnOk l.prog w K mg base CX0 1 fD _ ["_law_feed_here", "_law_many"] spDraw := ok_draw FD n_len
  have GL : FnOk l.prog w K mg base CX0 1 fL _ ["_law_top", "_law_bottom"] spLow := ok_low FL n_abs
  have GR := ok_ratio (P := l.prog) (w := w) (base := base) FR FC bC gC n_abs
  have GOB := ok_oob (P := l.prog) (w := w) (base := base) FOB FC bC gC n_abs
  have GOT := ok_oobT (P := l.prog) (w := w) (base := base) FOB FC bC gC n_abs
  have GSU := ok_lsumL FSU FL bL gL GL
  have GST := ok_lsumT FSU FL bL gL GL
  have GLT := ok_ltimes FLT FL bL gL GL
  have GLL := ok_lless FLL FL bL gL GL
  have GLF := ok_life FLF FD bD gD GD FL bL gL GL n_range n_int n_sum n_tuple
  have GCH := ok_lchance FCH FL bL gL GL n_len n_range
  have GLOV := ok_lov FLOV FL bL gL GL
  have GM := ok_minus FM FR bR gR GR
  have GT := ok_times FT FR bR gR GR
  have GO := ok_over FO FR bR gR GR
  have GAD := ok_added FAD FOB bOB gOB GOB FR bR gR GR n_sum
  have GAT := ok_addedT FAD FOB bOB gOB GOT FR bR gR GR n_sum
  have GAL := ok_any FAL FD bD gD GD FLF bLF gLF GLF FLT bLT gLT GLT n_len
  have GPW := ok_lpower FPW FLT bLT gLT GLT n_range
  have GLSH := ok_lshort FLSH FLT bLT gLT GLT n_len n_range n_max
  have GBR := ok_behind FBR C FO bO gO GO FT bT gT GT FM bM gM GM
  have GCT := ok_chto FCT C.n FT bT gT GT n_len n_list
  have GRE := ok_lrest FRE FSU bSU gSU GST GSU FLT bLT gLT GLT FPW bPW gPW GPW FL bL gL GL n_len n_max
  have GCA := ok_chat FCA FCT bCT gCT GCT
  have GLA := ok_lasting FLA C FCT bCT gCT GCT FAD bAD gAD GAD FM bM gM GM
  have GSHO := ok_short FSHO C FBR bBR gBR GBR FWN bWN gWN GWN FT bT gT GT n_len
  have GDU9 := ok_due9 FDU9 FLL bLL gLL GLL FRE bRE gRE GRE FSU bSU gSU GSU FLOV bLOV gLOV GLOV FCH bCH gCH GCH FLSH bLSH gLSH GLSH n_len n_max n_range n_tuple
  have GLO := ok_left (e := ⟨C_F, C_N, C_A, C_B, C_P, C_T, C_X, C_L, C_M, C_R⟩) FLO C FLA bLA gLA GLA FCA bCA gCA GCA FSHO bSHO gSHO GSHO FO bO gO GO EF EA ENAage n_len n_tuple
  have GTD9 := ok_told9 (e := ⟨C_F, C_N, C_A, C_B, C_P, C_T, C_X, C_L, C_M, C_R⟩) FTD9 FLO bLO gLO GLO EG EXA EKA EMA ENAage n_ValueError n_isinstance
  exact ok_law FZ FE bE gE GE FAL bAL gAL GAL FD bD gD GD FDU9 bDU9 gDU9 GDU9 FTD9 bTD9 gTD9 GTD9 n_len n_repr
end Fp
open PySem PySem.W PyProof.Rows
set_option maxHeartbeats 0 in
theorem PySem.Challenge.cw_freshparts_k09_left_of_a_part_holds : PySem.Challenge.rw_freshparts_k09_left_of_a_part.Holds := by
  w_on; o_law; k_head; (case hw => w_witness2)
  k_fill
  refine Fp.walkG (l := PySem.Challenge.rw_freshparts_k09_left_of_a_part) (n := 63) (lv := 8) (x := "_law_script") (sp := fun w => Fp.spLaw _) rfl (by decide) rfl ⟨rfl, by decide, by decide⟩ (fun w h Y => PySem.W.kIn_of Y) ?F (fun _ _ a ns hl _ hS => ⟨a, ns, rfl, hS, fun _ => rfl⟩)
  case F =>
    intro w mg fa h KX G hmg
    refine' Fp.all_mk KX G hmg ?aC ?lC ?cC ?kC ?aR ?lR ?cR ?kR ?aM ?lM ?cM ?kM ?aT ?lT ?cT ?kT ?aO ?lO ?cO ?kO ?aOB ?lOB ?cOB ?kOB ?aAD ?lAD ?cAD ?kAD ?aBR ?lBR ?cBR ?kBR ?aCT ?lCT ?cCT ?kCT ?aCA ?lCA ?cCA ?kCA ?aLA ?lLA ?cLA ?kLA ?aSHO ?lSHO ?cSHO ?kSHO ?aWN ?lWN ?cWN ?kWN ?aLO ?lLO ?cLO ?kLO ?aE ?lE ?cE ?kE ?aD ?lD ?cD ?kD ?aL ?lL ?cL ?kL ?aSU ?lSU ?cSU ?kSU ?aLT ?lLT ?cLT ?kLT ?aLL ?lLL ?cLL ?kLL ?aLF ?lLF ?cLF ?kLF ?aAL ?lAL ?cAL ?kAL ?aCH ?lCH ?cCH ?kCH ?aPW ?lPW ?cPW ?kPW ?aRE ?lRE ?cRE ?kRE ?aLSH ?lLSH ?cLSH ?kLSH ?aLOV ?lLOV ?cLOV ?kLOV ?aDU9 ?lDU9 ?cDU9 ?kDU9 ?aTD9 ?lTD9 ?cTD9 ?kTD9 ?aZ ?lZ ?cZ ?kZ ?g_NOUGHT ?l_NOUGHT ?g_ONE ?l_ONE ?z_ValueError ?z_abs ?z_int ?z_isinstance ?z_len ?z_list ?z_max ?z_range ?z_repr ?z_sum ?z_tuple ?g_F ?g_N ?g_A ?g_B ?g_P ?g_T ?g_X ?g_L ?g_M ?g_R ?iF ?lF_ ?cF_ ?kF_ ?rdF ?fcF ?spF ?vV ?EXA ?iA ?lA_ ?cA_ ?kA_ ?tA ?xA ?EKA ?EMA ?ENAage
    (case aC => first | k_is | rfl); (case lC => first | k_is | rfl); (case cC => first | k_is | rfl); (case kC => first | k_is | rfl); (case aR => first | k_is | rfl); (case lR => first | k_is | rfl)
    (case cR => first | k_is | rfl); (case kR => first | k_is | rfl); (case aM => first | k_is | rfl); (case lM => first | k_is | rfl); (case cM => first | k_is | rfl); (case kM => first | k_is | rfl)
    (case aT => first | k_is | rfl); (case lT => first | k_is | rfl); (case cT => first | k_is | rfl); (case kT => first | k_is | rfl); (case aO => first | k_is | rfl); (case lO => first | k_is | rfl)
    (case cO => first | k_is | rfl); (case kO => first | k_is | rfl); (case aOB => first | k_is | rfl); (case lOB => first | k_is | rfl); (case cOB => first | k_is | rfl); (case kOB => first | k_is | rfl)
    (case aAD => first | k_is | rfl); (case lAD => first | k_is | rfl); (case cAD => first | k_is | rfl); (case kAD => first | k_is | rfl); (case aBR => first | k_is | rfl); (case lBR => first | k_is | rfl)
    (case cBR => first | k_is | rfl); (case kBR => first | k_is | rfl); (case aCT => first | k_is | rfl); (case lCT => first | k_is | rfl); (case cCT => first | k_is | rfl); (case kCT => first | k_is | rfl)
    (case aCA => first | k_is | rfl); (case lCA => first | k_is | rfl); (case cCA => first | k_is | rfl); (case kCA => first | k_is | rfl); (case aLA => first | k_is | rfl); (case lLA => first | k_is | rfl)
    (case cLA => first | k_is | rfl); (case kLA => first | k_is | rfl); (case aSHO => first | k_is | rfl); (case lSHO => first | k_is | rfl); (case cSHO => first | k_is | rfl); (case kSHO => first | k_is | rfl)
    (case aWN => first | k_is | rfl); (case lWN => first | k_is | rfl); (case cWN => first | k_is | rfl); (case kWN => first | k_is | rfl); (case aLO => first | k_is | rfl); (case lLO => first | k_is | rfl)
    (case cLO => first | k_is | rfl); (case kLO => first | k_is | rfl); (case aE => first | k_is | rfl); (case lE => first | k_is | rfl); (case cE => first | k_is | rfl); (case kE => first | k_is | rfl)
    (case aD => first | k_is | rfl); (case lD => first | k_is | rfl); (case cD => first | k_is | rfl); (case kD => first | k_is | rfl); (case aL => first | k_is | rfl); (case lL => first | k_is | rfl)
    (case cL => first | k_is | rfl); (case kL => first | k_is | rfl); (case aSU => first | k_is | rfl); (case lSU => first | k_is | rfl); (case cSU => first | k_is | rfl); (case kSU => first | k_is | rfl)
    (case aLT => first | k_is | rfl); (case lLT => first | k_is | rfl); (case cLT => first | k_is | rfl); (case kLT => first | k_is | rfl); (case aLL => first | k_is | rfl); (case lLL => first | k_is | rfl)
    (case cLL => first | k_is | rfl); (case kLL => first | k_is | rfl); (case aLF => first | k_is | rfl); (case lLF => first | k_is | rfl); (case cLF => first | k_is | rfl); (case kLF => first | k_is | rfl)
    (case aAL => first | k_is | rfl); (case lAL => first | k_is | rfl); (case cAL => first | k_is | rfl); (case kAL => first | k_is | rfl); (case aCH => first | k_is | rfl); (case lCH => first | k_is | rfl)
    (case cCH => first | k_is | rfl); (case kCH => first | k_is | rfl); (case aPW => first | k_is | rfl); (case lPW => first | k_is | rfl); (case cPW => first | k_is | rfl); (case kPW => first | k_is | rfl)
    (case aRE => first | k_is | rfl); (case lRE => first | k_is | rfl); (case cRE => first | k_is | rfl); (case kRE => first | k_is | rfl); (case aLSH => first | k_is | rfl); (case lLSH => first | k_is | rfl)
    (case cLSH => first | k_is | rfl); (case kLSH => first | k_is | rfl); (case aLOV => first | k_is | rfl); (case lLOV => first | k_is | rfl); (case cLOV => first | k_is | rfl); (case kLOV => first | k_is | rfl)
    (case aDU9 => first | k_is | rfl); (case lDU9 => first | k_is | rfl); (case cDU9 => first | k_is | rfl); (case kDU9 => first | k_is | rfl); (case aTD9 => first | k_is | rfl); (case lTD9 => first | k_is | rfl)
    (case cTD9 => first | k_is | rfl); (case kTD9 => first | k_is | rfl); (case aZ => first | k_is | rfl); (case lZ => first | k_is | rfl); (case cZ => first | k_is | rfl); (case kZ => first | k_is | rfl)
    (case g_NOUGHT => first | k_is | rfl); (case l_NOUGHT => first | k_is | rfl); (case g_ONE => first | k_is | rfl); (case l_ONE => first | k_is | rfl); (case z_ValueError => first | k_is | rfl); (case z_abs => first | k_is | rfl)
    (case z_int => first | k_is | rfl); (case z_isinstance => first | k_is | rfl); (case z_len => first | k_is | rfl); (case z_list => first | k_is | rfl); (case z_max => first | k_is | rfl); (case z_range => first | k_is | rfl)
    (case z_repr => first | k_is | rfl); (case z_sum => first | k_is | rfl); (case z_tuple => first | k_is | rfl); (case g_F => first | k_is | rfl); (case g_N => first | k_is | rfl); (case g_A => first | k_is | rfl)
    (case g_B => first | k_is | rfl); (case g_P => first | k_is | rfl); (case g_T => first | k_is | rfl); (case g_X => first | k_is | rfl); (case g_L => first | k_is | rfl); (case g_M => first | k_is | rfl)
    (case g_R => first | k_is | rfl); (case iF => first | k_is | rfl); (case lF_ => first | k_is | rfl); (case cF_ => first | k_is | rfl); (case kF_ => first | k_is | rfl); (case rdF => first | k_is | rfl)
    (case fcF => first | k_is | rfl); (case spF => first | k_is | rfl); (case vV => first | k_is | rfl); (case EXA => kernel_rfl); (case iA => first | k_is | rfl); (case lA_ => first | k_is | rfl)
    (case cA_ => first | k_is | rfl); (case kA_ => first | k_is | rfl); (case tA => first | k_is | rfl); (case xA => first | k_is | rfl); (case EKA => kernel_rfl); (case EMA => kernel_rfl)
    (case ENAage => first | k_is | rfl)
