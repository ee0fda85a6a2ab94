import PyProof.Rows.All
import Wide.All
import OpenK.AllK
import Wide.FinOn
import PyProof.ReprRoads
import PyProof.ReprLen
import HandS.Base
import HandS.Call
import HandS.List
import HandS.Ends
import HandS.Exc
import HandS.TryOnly
import HandS.ExcOwn
import HandS.ExcInit
import HandS.Dict
import HandS.Words
import HandS.WordsList
import HandS.WordsDict
import HandS.WordsExc
import HandS.Comp
import HandS.Iter
import HandS.Wide
import HandS.TupAny
import HandS.TupMul
import HandS.Conv
import HandS.Star
import HandS.Style
import HandS.Walk
import HandS.RaiseMore
import PyProof.CallFns
import HandS.WideBits
import KE.GoesEnumKw
import PySem.Challenge.RW_freshparts_k94_whole_puts_turn_as_told
set_option Elab.async false
set_option linter.all false
set_option maxRecDepth 100000
set_option maxHeartbeats 4000000
namespace Fp
open PySem PySem.Spec PyProof.Rows L2

/-! ### promises of defs that show things: no repr runs around the call -/
structure FnG (P : Program) (w : World) (K : PySem.W.Frag) (mg : Str → Option Value) (base : Heap) (CX : CXT) (lv : Nat) (f : Addr) (fd : FuncData) (ps : List Str) (sp : Sp) : Prop where
  lens : ∀ vs H Q E, sp vs H Q E → vs.length = ps.length
  runs : ∀ (A : Around) (outer : List Env) (s : Shared) (H : Hp) (args : Args) (us : List Value) (vs : List V) (Q : VK) (E : XK), A.guards = some [] → Room lv A → Env0 P w K mg base A outer s H →
    BindsTo s fd args (ps.zip us) → Vals vs us → sp vs H Q E → codeAny (model P w) A (.call (.ref f) args) (CR CX outer P w H s Q E) s

section
variable {X : Cx} {CX : CXT} {lv : Nat} {f : Addr} {fd : FuncData} {ps : List Str} {sp : Sp} {E : XK} {x : Str} {p pos : Pos} {e : Expr} {es : List Expr} {t : TA}
theorem run_g {pins : List (Addr × Obj)} {σ : L2.St} {H : Hp} {s : Shared} {Q : VK} {us : List Value} {vs : List V} (G : FnG X.prog X.w X.K X.mg X.base CX lv f fd ps sp) (hq : X.A.guards = some []) (hr : Room lv X.A) (hb : Binds X.K fd ps [])
    (hx : Passes CX X E) (I : Inv X pins σ H s) (r : Vals vs us) (h : sp vs H Q E) : wpAny (model X.prog X.w) X.A (call (.ref f) us) (EP X pins σ Q) X.xe s := by
  have hl : us.length = ps.length := r.length.symm.trans (G.lens _ _ _ _ h)
  have b := hb s us I.kIn (by rw [List.append_nil]; exact hl)
  rw [List.append_nil] at b
  refine wpAny_call (codeAny_mono (G.runs X.A X.stack s H ⟨us, []⟩ us vs Q E hq hr I.env0 b r h) fun res s2 z => ?_)
  match res, z with
  | .error e, z => exact hx pins σ H s e s2 I z
  | .ok (.ret u), z => exact I.after z
  | .ok .next, z => exact False.elim z
  | .ok .brk, z => exact False.elim z
  | .ok .cont, z => exact False.elim z
def tCallG (sp : Sp) (E : XK) (t : TA) : TE := fun σ H Q => t σ H fun vs H1 => sp vs H1 Q E
theorem pe_callG (G : FnG X.prog X.w X.K X.mg X.base CX lv f fd ps sp) (hq : X.A.guards = some []) (hr : Room lv X.A) (hg : Gl X x) (hm : X.mg x = some (.ref f)) (hk : PySem.W.keepIn X.K (.ref f) = true) (hb : Binds X.K fd ps []) (hx : Passes CX X E)
    (ha : PA X (e :: es) t) (hdb : (x == ("__debug__" : Str)) = false := by decide) (he : starEach (e :: es) X.env = (false, eval e X.env) :: starEach es X.env := by rfl) (hpl : (backTo pos (starEach es X.env)).any (·.1) = false := by rfl) :
    PE X (.Call (.Name x p) (e :: es) [] pos) (tCallG sp E t) := by
  refine ⟨fun pins s σ H Q I h => wpAny_Call_Name_kw (ld_glob I hg hm ?_ hdb)⟩
  refine PySem.W.callWith_K (h₀ := X.base) I.ok.mod.kin hk (thn (ha.run pos pins s σ H _ I h) fun us s1 z => ?_) he hpl
  obtain ⟨vs, H1, I1, r, q⟩ := z
  exact ⟨I1.kIn, run_g G hq hr hb hx I1 r q⟩
end

section
variable {P : Program} {w : World} {K : PySem.W.Frag} {mg : Str → Option Value} {base : Heap}
theorem okG {x qual : Str} {st : Stmt} {f : Addr} {fd : FuncData} {N ps : List Str} {lv : Nat} {sp : Sp} (F : Fun K x qual st f fd) (S : FnScope N ps (defScope st)) (len : ∀ vs H Q E, sp vs H Q E → vs.length = ps.length)
    (hbody : ∀ (cdv : Value) (A : Around) (outer : List Env) (s : Shared) (H : Hp) (vs : List V) (Q : VK) (E : XK), (A.deeper (envOfC qual (defScope st) s.heap.objs.size f cdv)).guards = some [] → Room lv (A.deeper (envOfC qual (defScope st) s.heap.objs.size f cdv)) →
      sp vs H Q E → ∃ t, PSs (cxOf CX0 P w K mg base N qual (defScope st) f cdv A outer s H E).nox (defBody st) t ∧ t { nx := fun _ H' => Q .non H', rt := Q } (start N vs) H) : FnG P w K mg base CX0 (lv + 1) f fd ps sp := by
  obtain ⟨oc, od, kV, doc, pm, an, cdv, ct, osl, rfl, lk, hcd⟩ := F.ex
  refine ⟨len, fun A outer s H args us vs Q E hq hr e0 hb r hsp => ?_⟩
  have hl := len _ _ _ _ hsp
  have KX : K.In s.heap := e0.mod.kin.keeps fun b o z => (e0.bs b o z).1
  have lim : s.heap.NoLimit := e0.mod.nolimit.keeps fun b o z => (e0.bs b o z).1
  have kinds : ∀ y ∈ ps.zip us, (defScope st).names.lookup y.1 = some .local ∨ ((defScope st).names.lookup y.1 = some .cell ∧ ((cellsFrom (s.heap.objs.size + 1) (defScope st).names []).lookup y.1).isSome = true) := by
    rintro ⟨n, v⟩ hy
    exact (S.par n (List.of_mem_zip hy).1).imp id fun q => ⟨q, PySem.W.cellsFrom_some _ _ _ (.inl q)⟩
  refine codeAny_call_function hr.depth (KX _ _ lk) rfl S.co S.gen rfl (PySem.W.codeRec_of KX hcd) (hb _ _ _ _ ?_)
  refine wpAny_newFunctionEnv_cells S.kind kinds fun env he s1 z => ?_
  subst he
  refine ⟨lim.keeps z.toInCall.keep, codeAny_func ?_⟩
  obtain ⟨t, ht, hq2⟩ := hbody cdv A outer s H vs Q E hq (hr.deeper _) hsp
  have I : Inv (cxOf CX0 P w K mg base N qual (defScope st) f cdv A outer s H E) [] (start N vs) H s1 := inv_start S hr.hd e0 hl r z
  refine wpAny_mono (ht.nox.run [] s1 (start N vs) H _ I hq2) (fun fl s2 hs => ?_) fun _ _ hs => hs
  have fin : ∀ {σ' : L2.St} {H' : Hp} {v : V} {u : Value}, Inv (cxOf CX0 P w K mg base N qual (defScope st) f cdv A outer s H E) [] σ' H' s2 → RelV v u → Q v H' → CE outer P w H s Q u s2 :=
    fun {_ H' v _} J rv q => ⟨v, H', J.os, J.bare, J.base, J.hok, rv, q⟩
  match fl, hs with
  | .ret u, ⟨v, σ', H', J, rv, q⟩ => exact fin J rv q
  | .next, ⟨σ', H', J, q⟩ => exact fin (v := V.non) (u := Value.none) J rfl q
  | .brk, ⟨_, _, _, q⟩ => exact False.elim q
  | .cont, ⟨_, _, _, q⟩ => exact False.elim q
end

/-! ### the end of a law that shows things -/
theorem lawG {P : Program} {w : World} {K : PySem.W.Frag} {mg mb : Str → Option Value} {lv : Nat} {fa a : Addr} {fd : FuncData} {x : Str} {sp : Sp} {s1 : Shared} {vs : List Value} {ns : List Int}
    (KX : K.In s1.heap) (hns : s1.heap.Ns mainGlobals mg) (hb : s1.heap.Ns builtinsNs mb) (hbb : ∀ x : Str, x ≠ "__name__" → mb x = bootBuiltins x) (hlim : s1.heap.NoLimit) (hg : s1.gens = #[])
    (ha : s1.heap.get? a = some { cls := .type "list", data := .seq vs.toArray }) (hi : IntsAre vs ns) (hl : ns.length ≤ sizeLine) (hr : Room lv callerA)
    (G : ∀ base : Heap, K.In base → base.Ns mainGlobals mg → FnG P w K mg base CX0 lv fa fd [x] sp) (hbind : ∀ (s : Shared) (u : Value), BindsTo s fd ⟨[u], []⟩ [(x, u)])
    (hsp : ∀ H : Hp, Only H → SqL K H a (ns.map V.int) → sp [.ref a] H (fun v _ => v = .bl true) fun _ _ _ => False) :
    codeAny (model P w) callerA (.call (.ref fa) ⟨[.ref a], []⟩) (fun r s2 => r = .ok (.ret (.bool true)) ∧ OldK s1.heap s2.heap ∧ s2.os = s1.os ∧ AllBare s2.gens) s1 := by
  have rv := vals_ints hi
  have lenV := hi.length
  have main : ∀ H : Hp, Only H → SqL K H a (ns.map V.int) → HOk P w H s1.heap → (∀ b, H b ≠ none → b = a) → (H a ≠ none → K.lookup a = none) →
      codeAny (model P w) callerA (.call (.ref fa) ⟨[.ref a], []⟩) (fun r s2 => r = .ok (.ret (.bool true)) ∧ OldK s1.heap s2.heap ∧ s2.os = s1.os ∧ AllBare s2.gens) s1 := by
    intro H hO hS hok hA hK
    have kept : ∀ {b : Addr} {o : Obj}, s1.heap.get? b = some o → H b = none → (hidT s1.heap H).get? b = some o := fun z n => hidT_get z n
    have isA : ∀ {b : Addr} {u : HO}, H b = some u → b = a := fun {b u} z => hA b (by rw [z]; simp)
    have noD : ∀ {b : Addr} {o : Obj} {es : Array DictEntry} {ep : Nat}, s1.heap.get? b = some o → o.data = .dict es ep → H b = none := by
      intro b o es ep z d
      match q : H b with
      | none => rfl
      | some u =>
        have e2 := isA q
        subst e2
        rw [ha] at z; cases z
        have d2 : Data.seq vs.toArray _ = Data.dict es ep := d
        cases d2
    have nsK : ∀ {b : Addr} {m : Str → Option Value}, s1.heap.Ns b m → (hidT s1.heap H).Ns b m := fun {b m} z => by
      obtain ⟨o, es, ep, e1, d1, r1⟩ := z
      exact ⟨o, es, ep, kept e1 (noD e1 d1), d1, r1⟩
    have kinB : K.In (hidT s1.heap H) := fun b o z => kept (KX b o z) (by
      match q : H b with
      | none => rfl
      | some u =>
        have e2 := isA q
        subst e2
        rw [hK (by rw [q]; simp)] at z; cases z)
    have M : Mod K mg (hidT s1.heap H) := ⟨kinB, nsK hns, ⟨mb, nsK hb, hbb⟩, by obtain ⟨mc, h1, h2⟩ := hlim; exact ⟨mc, nsK h1, h2⟩⟩
    have nil_fr : ∀ {b : Addr}, ¬ b ∈ frs [] := fun {b} z => by
      have z2 : b ∈ ([] : List Addr) := z
      simp at z2
    have e0 : Env0 P w K mg (hidT s1.heap H) callerA [] s1 H := ⟨rfl, M, fun b o z => of_hidT z, Nat.le_of_eq (hidT_size _ _), trivial, fun b z => absurd z nil_fr, hok, .of_eq hg⟩
    refine codeAny_mono ((G _ kinB (nsK hns)).runs callerA [] s1 H ⟨[.ref a], []⟩ [.ref a] [.ref a] _ _ rfl hr e0 (hbind s1 (.ref a)) (.cons rfl .nil) (hsp H hO hS)) fun res s2 z => ?_
    match res, z with
    | .error e, z => exact False.elim z
    | .ok .next, z => exact False.elim z
    | .ok .brk, z => exact False.elim z
    | .ok .cont, z => exact False.elim z
    | .ok (.ret u), z =>
      obtain ⟨v, H2, os, bare, un, hok2, r2, q⟩ := z
      have qv : v = .bl true := q
      subst qv
      obtain rfl : u = Value.bool true := r2
      refine ⟨rfl, OldK.of_keep fun b o e1 => ?_, os, bare⟩
      match q : H b with
      | none => exact un.keep b o e1 q nil_fr (by simp)
      | some u =>
        rcases hO b with z | ⟨ob, xs, z⟩
        · rw [q] at z; cases z
        · obtain ⟨g1, _⟩ := hok b _ z
          obtain ⟨g2, _⟩ := hok2 b _ (un.frzs b ob _ z)
          rw [e1] at g1; cases g1
          exact g2
  match hk : K.lookup a with
  | some o =>
    have z := KX a o hk
    rw [ha] at z
    cases z
    refine main (fun _ => none) (fun _ => .inl rfl) (.inr ⟨_, vs.toArray, _, hk, rfl, rfl, rfl, by rw [List.size_toArray, lenV]; exact hl, by simpa using rv⟩) (fun b u z => ?_) (fun b z => absurd rfl z) fun z => absurd rfl z
    have z2 : (none : Option HO) = some u := z
    cases z2
  | none =>
    have yes : ∀ {b : Addr}, b = a → (if b = a then some (HO.frz { cls := .type "list", data := .seq vs.toArray } (.lst (ns.map V.int))) else none) = some (HO.frz { cls := .type "list", data := .seq vs.toArray } (.lst (ns.map V.int))) := fun z => if_pos z
    have nay : ∀ {b : Addr}, b ≠ a → (if b = a then some (HO.frz { cls := .type "list", data := .seq vs.toArray } (.lst (ns.map V.int))) else none) = none := fun z => if_neg z
    refine main (fun b => if b = a then some (HO.frz { cls := .type "list", data := .seq vs.toArray } (.lst (ns.map V.int))) else none) (fun b => ?_) (.inl (.inr ⟨_, yes rfl⟩)) (fun b u z => ?_) (fun b z => ?_) fun _ => hk
    · rcases Classical.em (b = a) with h | h
      · exact .inr ⟨_, _, yes h⟩
      · exact .inl (nay h)
    · rcases Classical.em (b = a) with h | h
      · have z2 := (yes h).symm.trans z
        cases z2
        subst h
        exact ⟨ha, by rw [List.length_map]; exact hl, vs, _, rv, ha⟩
      · have z2 := (nay h).symm.trans z
        cases z2
    · rcases Classical.em (b = a) with h | h
      · exact h
      · exact absurd (nay h) z

theorem walkG {l : PySem.W.OpenLaw} {n lv : Nat} {q : Program} {loose : List Str} {XP : (Str → Option Value) → Heap → Prop} {YP : World → Heap → Prop} {d : DefRec} {K : Params → PySem.W.Frag} {sp : World → Sp} {x : Str}
    (hn : l.most = some n) (hn2 : n ≤ sizeLine) (hdf : d.params.defaults = []) (hr : Room lv callerA) (hY : ∀ (w : World) (h : Heap), YP w h → (K w.params).In h)
    (G : ∀ (w : World) (mg : Str → Option Value) (fa : Addr) (h : Heap), (K w.params).In h → h.Ns mainGlobals mg → mg d.name = some (.ref fa) →
      ∃ fd : FuncData, (∀ (s : Shared) (u : Value), BindsTo s fd ⟨[u], []⟩ [(x, u)]) ∧ ∀ base : Heap, (K w.params).In base → base.Ns mainGlobals mg → FnG l.prog w (K w.params) mg base CX0 lv fa fd [x] (sp w))
    (hsp : ∀ (w : World) (H : Hp) (a : Addr) (ns : List Int), ns.length ≤ n → Only H → SqL (K w.params) H a (ns.map V.int) → sp w [.ref a] H (fun v _ => v = .bl true) fun _ _ _ => False) :
    PySem.W.WalkO q loose XP YP l.row.toRowW d [] (fun f vs => PySem.call f vs) := by
  refine Att.attach_call hn hdf fun w s0 s1 mg mb fa o pm cd doc a vs ns Gr Y ho hd hcd hmg hobj hints hlen hg => ?_
  have KX := hY w _ Y
  obtain ⟨fd, hb, hF⟩ := G w mg fa _ KX Gr.T.g hmg
  exact lawG KX Gr.T.g Gr.T.b Gr.T.builtins Gr.T.nolimit hg hobj hints (Nat.le_trans hlen hn2) hr hF hb fun H hO hS => hsp w H a ns hlen hO hS

/-! ### repr of tuples and lists -/
mutual
theorem dp_noDict {K : PySem.W.Frag} {H : Hp} : ∀ {v : V} {d : PyData}, Dp K H v d → d.hasDict = false
  | _, _, .non => by simp only [PyData.hasDict]
  | _, _, .bl _ => by simp only [PyData.hasDict]
  | _, _, .int _ => by simp only [PyData.hasDict]
  | _, _, .str _ => by simp only [PyData.hasDict]
  | _, _, .lst _ h => by simp only [PyData.hasDict]; exact dp_noDictAll h
  | _, _, .tup _ h => by simp only [PyData.hasDict]; exact dp_noDictAll h
theorem dp_noDictAll {K : PySem.W.Frag} {H : Hp} : ∀ {vs : List V} {ds : List PyData}, DpAll K H vs ds → PyData.hasDictAll ds = false
  | _, _, .nil => by simp only [PyData.hasDictAll]
  | _, _, .cons h r => by simp only [PyData.hasDictAll, dp_noDict h, dp_noDictAll r, Bool.or_false]
end
/-! how long a thing is, shown, at most -/
mutual
def cost : PyData → Nat
  | .none | .bool _ => 5
  | .int _ => 2000
  | .str x => 10 * x.cps.size + 2
  | .list xs | .tuple xs => costAll xs + 3
  | .dict _ => 0
def costAll : List PyData → Nat
  | [] => 0
  | x :: xs => cost x + 2 + costAll xs
end
mutual
theorem shown_cost : ∀ d : PyData, d.leavesShort 2000 = true → d.hasDict = false → d.shown.length ≤ cost d
  | .none, _, _ => by decide
  | .bool b, _, _ => by cases b <;> decide
  | .int i, h, _ => by
    simp only [PyData.leavesShort, decide_eq_true_eq] at h
    simp only [cost]
    exact h
  | .str x, h, _ => by
    have hx : ∀ c ∈ x.cps.toList, c < 16 ^ 8 := by simpa only [PyData.leavesShort, List.all_eq_true, decide_eq_true_eq] using h
    have e := StrLaws.reprText_len x hx
    have e2 : x.length = x.cps.size := rfl
    simp only [PyData.shown, cost]
    omega
  | .list xs, h, hd => by
    have h1 := shown_costs xs (by simpa only [PyData.leavesShort] using h) (by simpa only [PyData.hasDict] using hd)
    have h2 := listText_len_le (PyData.shownAll xs)
    have h3 := PyData.shownAll_length xs
    simp only [PyData.shown, cost]
    omega
  | .tuple xs, h, hd => by
    have h1 := shown_costs xs (by simpa only [PyData.leavesShort] using h) (by simpa only [PyData.hasDict] using hd)
    have h2 := tupleText_len_le (PyData.shownAll xs)
    have h3 := PyData.shownAll_length xs
    simp only [PyData.shown, cost]
    omega
  | .dict _, _, hd => by simp [PyData.hasDict] at hd
theorem shown_costs : ∀ xs : List PyData, PyData.leavesShortAll 2000 xs = true → PyData.hasDictAll xs = false → ((PyData.shownAll xs).map (·.length)).sum + 2 * xs.length ≤ costAll xs
  | [], _, _ => by simp only [PyData.shownAll, costAll, List.map_nil, List.sum_nil, List.length_nil]; omega
  | x :: xs, h, hd => by
    simp only [PyData.leavesShortAll, Bool.and_eq_true] at h
    simp only [PyData.hasDictAll, Bool.or_eq_false_iff] at hd
    have h1 := shown_cost x h.1 hd.1
    have h2 := shown_costs xs h.2 hd.2
    simp only [PyData.shownAll, costAll, List.map_cons, List.sum_cons, List.length_cons]
    omega
end
/-- what may be shown: ints of at most 1919 bits, texts of plain signs; its length and depth bounded -/
def Shows (d : PyData) : Prop := d.showable = true ∧ d.leavesShort 2000 = true ∧ cost d ≤ 16000000 ∧ d.depth ≤ 60
theorem Shows.len {d : PyData} (h : Shows d) (n : d.hasDict = false) : d.shown.length ≤ sizeLine := by
  have e := shown_cost d h.2.1 n
  have w := h.2.2.1
  rw [sizeLine_eq]
  omega
section
variable {X : Cx}
theorem call_reprD {lv : Nat} (hq : X.A.guards = some []) (hr : Room lv X.A) : CallR X (.builtin "repr") (fun xs H Q => ∃ a d, xs = [.ref a] ∧ Dp X.K H (.ref a) d ∧ Shows d ∧ Q (.str d.shown) H) := by
  intro pins s σ H xs us Q I r h
  obtain ⟨a, d, rfl, hd, hs, q⟩ := h
  obtain ⟨u, rfl, ru⟩ := vals1 r
  obtain ⟨as, rd⟩ := Dp.reads I d _ _ hd ru
  obtain rfl : u = Value.ref a := ru
  have hu := hr.un
  have hdp := hs.2.2.2
  refine repr_of_reads' (h₀ := s.heap) rd hs.1 (PyData.noDict_hsm (dp_noDict hd)) hq (by omega) (fun _ _ z => z) (fun h' t tk k => ?_) (hs.len (dp_noDict hd))
  exact ⟨.str d.shown, H, I.kept k, ⟨t, rfl⟩, q⟩
/-- // by any number but nought, below 2 ^ 9000 in size -/
def CDivA (_ j : Int) : Prop := j ≠ 0 ∧ j.natAbs.log2 < 9000
theorem op_fdivA : OpR X (binaryOp .FloorDiv) (rI CDivA fun i j => .int (i.fdiv j)) := opI fun i j _ _ _ _ _ hc q => floordiv_int hc.1 q (.inl (PyProof.noPylong_of_log2 hc.2))
/-- * of two factors of together less than a million bits -/
def CMulA (i j : Int) : Prop := i.natAbs.log2 + j.natAbs.log2 < 1000000
theorem mulA_ok {i j : Int} (h : CMulA i j) : IntMulOk i j := by
  have bits : ∀ x : Int, Builtin.Int.intBits x ≤ x.natAbs.log2 + 1 := fun x => by
    unfold Builtin.Int.intBits
    split <;> omega
  have h1 := bits i
  have h2 := bits j
  have h3 : i.natAbs.log2 + j.natAbs.log2 < 1000000 := h
  intro z
  rw [Bool.and_eq_true] at z
  have z3 := of_decide_eq_true (show decide _ = true from z.2)
  have e : bitsLine = 134217728 := by decide
  rw [e] at z3
  omega
theorem op_mulA : OpR X (binaryOp .Mult) (rI CMulA fun i j => .int (i * j)) := opI fun _ _ _ _ _ _ _ hc q => mul_int q (mulA_ok hc)
end
/-! ### a word between two statements -/
def tMid (t u : TS) : TS := fun D σ H => ∃ M : L2.St → Hp → Prop, t { D with nx := M } σ H ∧ ∀ σ2 H2, M σ2 H2 → u D σ2 H2
theorem pss_mid {X : Cx} {st : Stmt} {more : List Stmt} {t u : TS} (a : PS X st t) (b : PSs X more u) : PSs X (st :: more) (tMid t u) := by
  refine ⟨fun pins s σ H D I h => ?_⟩
  obtain ⟨M, hm, hu⟩ := h
  refine wpAny_execs_cons (thn (a.run pins s σ H { D with nx := M } I hm) fun fl s1 z => ?_)
  match fl, z with
  | .next, ⟨σ2, H2, I2, z⟩ => exact b.run pins s1 σ2 H2 D I2 (hu σ2 H2 z)
  | .ret v, z => exact z
  | .brk, z => exact z
  | .cont, z => exact z
end Fp

set_option Elab.async false
set_option linter.all false
set_option maxRecDepth 100000
set_option maxHeartbeats 4000000
namespace Fp
open PySem PySem.Spec PyProof.Rows L2
/-! ### C.f(e, ..), C a class of one's own, f a def of its body -/
structure ClsFn (K : PySem.W.Frag) (C : Addr) (m : Str) (f : Addr) : Prop where
  rd : PySem.W.readsIn K C (.type "type") = true
  fc : PySem.W.findCls K (.ref C) (.type "type") m = some (.val (.ref f))
  hd : PySem.W.handedIn (.ref f) = true
  sp : PySem.W.specialIn K (.ref C) "__getattribute__" = some (some (.builtin "type.__getattribute__"))
  kp : PySem.W.keepIn K (.ref f) = true
section
variable {X : Cx} {CX : CXT} {lv : Nat} {f C : Addr} {fd : FuncData} {ps : List Str} {sp : Sp} {E : XK} {x m : Str} {p pos apos : Pos} {e : Expr} {es : List Expr} {t : TA}
theorem pe_clsfn {pl : Sem Bool} (c : ClsFn X.K C m f) (F : FnOk X.prog X.w X.K X.mg X.base CX lv f fd ps sp) (hr : Room lv X.A) (hg : Gl X x) (hm : X.mg x = some (.ref C)) (hb : Binds X.K fd ps []) (hx : Passes CX X E) (ha : PA X (e :: es) t)
    (hdb : (x == ("__debug__" : Str)) = false := by decide) (hst : starEach (e :: es) X.env = (false, eval e X.env) :: starEach es X.env := by rfl) (hpl : (backTo pos (starEach es X.env)).any (·.1) = false := by rfl)
    (ht : eval (.Call (.Attribute (.Name x p) m apos) (e :: es) [] pos) X.env = (do
      let ov ← eval (.Name x p) X.env
      standAt apos.atName
      let (g, first) ← holding [ov] (getMethod ov m pl)
      callWith pos g first (backTo pos (starEach (e :: es) X.env)) (backToKw pos (keywordEach [] X.env))) := by rfl) :
    PE X (.Call (.Attribute (.Name x p) m apos) (e :: es) [] pos) (tCall sp [] E t) := by
  refine ⟨fun pins s σ H Q I h => PySem.W.methodCall_KW (pl := pl) (ld_glob I hg hm ?_ hdb) ht⟩
  refine PySem.W.method_cls I.kIn c.sp (PySem.W.cls_value I.kIn c.rd c.fc c.hd ?_)
  refine PySem.W.callWith_K (first := []) (h₀ := X.base) I.ok.mod.kin c.kp (thn (ha.run pos pins _ σ H _ (I.tok _) h) fun us s2 z => ?_) hst hpl
  obtain ⟨vs, H2, I2, r, q⟩ := z
  exact ⟨I2.kIn, run_fn F hr hb .nil hx I2 r q⟩
end
/-- an error of the class at S is what an except of S names -/
theorem exm_own {K : PySem.W.Frag} {S : Addr} (h1 : PySem.W.subIn K (.ref S) (.type "BaseException") = some true) (h2 : PySem.W.isClsIn K S = true) (h3 : PySem.W.typeIn K (.ref S) = some (.type "type")) (h4 : PySem.W.subIn K (.ref S) (.ref S) = some true) :
    PySem.W.exmOne K (.ref S) (.ref S) = some true := by
  have y1 : (PySem.W.subIn K (.ref S) (.type "BaseException") == some true) = true := by rw [h1] <;> rfl
  have y2 : ((PySem.W.clsIn K S).isSome && PySem.W.typeIn K (.ref S) == some (.type "type")) = true := by
    have h5 : (PySem.W.clsIn K S).isSome = true := h2
    rw [h5, h3] <;> rfl
  show (if (PySem.W.subIn K (.ref S) (.type "BaseException") == some true) = true then (if ((PySem.W.clsIn K S).isSome && PySem.W.typeIn K (.ref S) == some (.type "type")) = true then PySem.W.subIn K (.ref S) (.ref S) else none) else none) = some true
  rw [if_pos y1, if_pos y2]
  exact h4
/-! ### C(), C an own exception over ValueError whose __init__ stores nothing -/
section
variable {X : Cx}
/-- the promise of such an __init__ of one argument, self -/
def spIni (K : PySem.W.Frag) : Sp := fun vs H Q _ => ∃ a C : Addr, vs = [.ref a] ∧ OexC K C ∧ H a = some (exo a C none) ∧ Q .non H
/-- .. of self and a text -/
def spIni1 (K : PySem.W.Frag) : Sp := fun vs H Q _ => ∃ (a C : Addr) (y : V), vs = [.ref a, y] ∧ OexC K C ∧ H a = some (exo a C none) ∧ Q .non H
theorem let_go {pins : List (Addr × Obj)} {σ : L2.St} {H1 : Hp} {hp hp2 h2 : Heap} {g1 g2 : Array GenState} {d1 d2 : Drawn} {t1 t2 : Nat} {os1 os2 : OsState} {a C : Addr} (I1 : Inv X pins σ H1 ⟨hp, g1, d1, t1, os1⟩)
    (ha : hp.objs.size ≤ a) (k : ∀ b o, hp.get? b = some o → hp2.get? b = some o) (un : Un (frs X.stack) [] (upd H1 a (exo a C none)) (upd H1 a (exo a C none)) hp2 h2) (hok : HOk X.prog X.w (upd H1 a (exo a C none)) h2) (ho : os2 = os1) (hb : AllBare g2) :
    ∃ (t0 : Addr) (G : Heap), Inv X pins σ H1 ⟨G, g2, d2, t2, os2⟩ ∧ (∀ b o, G.get? b = some o → h2.get? b = some o) ∧ G.get? a = none ∧
      h2.get? a = some ({ cls := .ref C, dict := none, data := .fields #[.ref t0, .none, .none, .none, .bool false, .none] } : Obj) := by
  obtain ⟨t0, hoe⟩ := exo_at hok (upd_same (H := H1))
  have hn : H1 a = none := I1.hok.fresh ha
  obtain ⟨G, y1, y2⟩ := restrict h2 fun b => decide (b ≠ a)
  have gk : ∀ b, b ≠ a → G.get? b = h2.get? b := fun b hb => y1 b (decide_eq_true hb)
  have ge : G.get? a = none := y2 a (by simp)
  have old : ∀ {b : Addr} {o : Obj}, hp.get? b = some o → b ≠ a := fun {b o} z => Nat.ne_of_lt (Nat.lt_of_lt_of_le (Heap.lt_size z) ha)
  have up : ∀ {b : Addr}, b ≠ a → H1 b = none → upd H1 a (exo a C none) b = none := fun {b} hb n => by rw [upd_ne hb]; exact n
  have dn : ∀ {b : Addr} {u : HO}, H1 b = some u → upd H1 a (exo a C none) b = some u := fun {b u} z => by rw [upd_ne (ne_of_none z hn)]; exact z
  have ne : ∀ {b : Addr} {u : HO}, H1 b = some u → b ≠ a := fun {b u} z => ne_of_none z hn
  have U : Un (frs X.stack) [] H1 H1 hp G :=
    ⟨fun b o z n hf hx => by rw [gk b (old z)]; exact un.keep b o (k b o z) (up (old z) n) hf hx,
     fun b o z n hf hx => by rw [gk b (old z)]; exact un.slot b o (k b o z) (up (old z) n) hf hx,
     fun b o z n hx => n,
     fun b o z hx => by rw [gk b (old z)]; exact un.there b o (k b o z) hx,
     fun b xs z => z, fun b o v z => z, fun b qs z => ⟨#[], by rw [z]; simp⟩⟩
  have hok3 : HOk X.prog X.w H1 G := fun b o z => by
    refine (hok b o (dn z)).stay (fun c v hc y => ?_) (fun c hc => ?_) (fun c xs hc => ?_)
    · have hca : c ≠ a := by
        rcases hc with hc | hc
        · rw [hc]; exact ne z
        · exact at_ne (upd_same (H := H1)) hc exo_own
      rw [gk c hca]
      exact y
    · have hca : c ≠ a := at_ne (upd_same (H := H1)) hc exo_own
      rw [upd_ne hca] at hc
      exact hc
    · have hca : c ≠ a := at_ne (upd_same (H := H1)) hc exo_tup
      rw [upd_ne hca] at hc
      exact hc
  have J : Inv X pins σ H1 ⟨G, g2, d2, t2, os2⟩ := I1.call' (ch := []) ho U hok3 hb (fun b z => absurd z (by simp))
  refine ⟨t0, G, J, fun b o z => ?_, ge, hoe⟩
  rcases Classical.em (b = a) with hba | hba
  · rw [hba, ge] at z
    cases z
  · exact (gk b hba).symm.trans z
theorem pmk_bare {CX : CXT} {x : Str} {C fI : Addr} {lv : Nat} {fd : FuncData} {ps : List Str} {p pos : Pos} (T : OexC X.K C) (iC : PySem.W.findIn X.K (.ref C) "__init__" = some (some (.ref fI))) (tI : PySem.W.typeIn X.K (.ref fI) = some (.type "function"))
    (F1 : FnOk X.prog X.w X.K X.mg X.base CX lv fI fd ps (spIni X.K)) (hr : Room (lv + 1) X.A) (hb : Binds X.K fd ps []) (hx : Passes CX X (fun _ _ _ => False)) (hg : Gl X x) (hm : X.mg x = some (.ref C)) (hdb : (x == ("__debug__" : Str)) = false := by decide) :
    PMk X (.Call (.Name x p) [] [] pos) (fun _ H Q => Q (.ref C) none H) := by
  intro pins s σ H Q I h
  obtain ⟨nm, q, N, bs, bm, sn, sub, ab, col, dd, k0, k1, k2, k3, k5, hC, hbm⟩ := T.cls
  refine wpAny_Call_Name_kw (ld_glob I hg hm ?_ hdb)
  refine PySem.W.callWith_K0 I.kIn T.kC ?_
  show wpAny _ _ (call (.ref C) []) _ _ _
  obtain ⟨hp, g, dr, tk, os⟩ := s
  have hsz : hp.objs.size ≤ hp.objs.size + 1 := Nat.le_succ _
  have kk : ∀ b o, hp.get? b = some o → ((hp.push (PySem.W.kdv_tup [])).push (PySem.HandSPX.excO C hp.objs.size)).get? b = some o := fun b o z => Heap.get?_push_of_some _ (Heap.get?_push_of_some _ z)
  have hget : ((hp.push (PySem.W.kdv_tup [])).push (PySem.HandSPX.excO C hp.objs.size)).get? (hp.objs.size + 1) = some (PySem.HandSPX.excO C hp.objs.size) := by heap_get
  have I2 : Inv X pins σ (upd H (hp.objs.size + 1) (exo (hp.objs.size + 1) C none)) ⟨(hp.push (PySem.W.kdv_tup [])).push (PySem.HandSPX.excO C hp.objs.size), g, dr, tk, os⟩ :=
    I.laid (t' := tk) (a := hp.objs.size + 1) (o := exo (hp.objs.size + 1) C none) (h' := (hp.push (PySem.W.kdv_tup [])).push (PySem.HandSPX.excO C hp.objs.size)) kk hsz (exo_ok hget)
  have r2 : Vals [V.ref (hp.objs.size + 1)] [Value.ref (hp.objs.size + 1)] := .cons rfl .nil
  have hsp : spIni X.K [V.ref (hp.objs.size + 1)] (upd H (hp.objs.size + 1) (exo (hp.objs.size + 1) C none)) (fun v H2 => v = .non ∧ H2 = upd H (hp.objs.size + 1) (exo (hp.objs.size + 1) C none)) (fun _ _ _ => False) :=
    ⟨_, C, rfl, T, upd_same, rfl, rfl⟩
  have hl : ([Value.ref (hp.objs.size + 1)] ++ []).length = ps.length := by
    have z := F1.len _ _ _ _ hsp
    exact z
  refine wpAny_call (PySem.HandSPX.call_own F.excBase_ValueError (fun Y => PySem.HandSPX.refsVE_contains Y bm hbm) (I.kIn _ _ hC) (PySem.W.looks_findIn I.kIn iC) (fun self => PySem.W.bind_fn I.kIn self tI) (Nat.zero_le _)
    (codeAny_mono (F1.run _ X.stack _ _ ⟨[Value.ref (hp.objs.size + 1)], []⟩ [Value.ref (hp.objs.size + 1)] _ _ (fun _ _ _ => False) (hr.make C [] []) (I2.env0.make C [] []) (hb _ [Value.ref (hp.objs.size + 1)] I2.kIn hl) r2 hsp) fun res s2 z => ?_))
  match res, z with
  | .error er, z => exact hx pins σ _ _ er s2 I2 z
  | .ok .next, z => exact False.elim z
  | .ok .brk, z => exact False.elim z
  | .ok .cont, z => exact False.elim z
  | .ok (.ret u), z =>
    obtain ⟨v, H2, os2, bare2, un2, hok2, rv, ev, eH⟩ := z
    subst ev
    rw [eH] at un2 hok2
    obtain ⟨h2, g2, d2, t2, os3⟩ := s2
    obtain ⟨t0, G, J, kG, ge, hoe⟩ := let_go (d2 := d2) (t2 := t2) I hsz kk un2 hok2 os2 bare2
    exact ⟨rv, _, _, _, ⟨G, g2, d2, t2, os3⟩, _, .ref C, none, rfl, J, kG, ge, hoe, ⟨rfl, rfl⟩, rfl, rfl, I.hok.fresh hsz, rfl, bare2, raises_own T.exC T.tyC, h⟩
end
end Fp

set_option Elab.async false
set_option linter.all false
set_option maxRecDepth 100000
set_option maxHeartbeats 4000000
namespace Fp
open PySem PySem.Spec PyProof.Rows L2
/-! ### a tuple taken some times, none and once too -/
theorem tuple_mul_one (l : Addr) (items : Array Value) (n : Nat) (dd : Option Addr) (sl : Array (Option Value)) (u : Tok) :
    Meets (Builtin.«tuple.__mul__» ⟨[.ref l, .int 1 u], []⟩) (fun _ R s => s.heap.get? l = some { cls := .type "tuple", dict := dd, data := .seq items n, slots := sl } ∧ R (.ok (.ret (Value.ref l))) s) :=
  .of_wp fun prog w A R s h => by
    obtain ⟨hp, g, d, tk, os⟩ := s
    obtain ⟨hl, h⟩ := h
    have f1 := AutoSeq1.idx_int
    have c1 : (items.isEmpty || (1 : Int) == 1) = true := by simp
    wp_walk using wpAny_loadPart' hl
    exact ⟨_, rfl, h⟩
theorem tuple_mul_nil (l : Addr) (items : Array Value) (n : Nat) (dd : Option Addr) (sl : Array (Option Value)) (u : Tok) (c1 : items.isEmpty = false) :
    Meets (Builtin.«tuple.__mul__» ⟨[.ref l, .int 0 u], []⟩) (fun _ R s => s.heap.get? l = some { cls := .type "tuple", dict := dd, data := .seq items n, slots := sl } ∧
      R (.ok (.ret (Value.ref s.heap.objs.size))) { s with heap := s.heap.push { cls := Value.type "tuple", data := Data.seq #[] }, toks := s.toks }) :=
  .of_wp fun prog w A R s h => by
    obtain ⟨hp, g, d, tk, os⟩ := s
    obtain ⟨hl, h⟩ := h
    have f1 := AutoSeq1.idx_int
    have c2 : (items.isEmpty || (0 : Int) == 1) = false := by rw [c1]; rfl
    wp_walk using wpAny_loadPart' hl
    exact ⟨_, rfl, h⟩
def rRepA (K : PySem.W.Frag) : R2 := fun x y H Q => ∃ l k xs, x = .ref l ∧ y = .int k ∧ SqT K H l xs ∧ xs ≠ [] ∧ 0 ≤ k ∧ k ≤ 1000 ∧ xs.length ≤ 1000 ∧ (k = 1 → Q (.ref l) H) ∧ (k ≠ 1 → ∀ p, H p = none → Q (.ref p) (upd H p (.tup (List.replicate k.toNat xs).flatten)))
section
variable {X : Cx}
theorem op_repA : OpR X (binaryOp .Mult) (rRepA X.K) := by
  intro pins s σ H x y v u Q I rx ry h
  obtain ⟨l, k, xs, rfl, rfl, hT, hne, h0, h2, hz, q1, q2⟩ := h
  rcases (by omega : k = 0 ∨ k = 1 ∨ 2 ≤ k) with rfl | rfl | hk
  · cases rx
    obtain ⟨t, rfl⟩ := ry
    obtain ⟨its, r, ⟨⟨cls, dd, data, sl⟩, ho, hc, n, hd⟩, hs⟩ := I.tuple hT
    simp only at hc hd
    subst hc hd
    have hle : its.length = xs.length := r.length.symm
    have hi : its.toArray.isEmpty = false := by
      cases its with
      | nil => exact absurd (List.eq_nil_of_length_eq_zero hle.symm) hne
      | cons a b => rfl
    refine wpAny_binaryOp_repeat_ref (T := "tuple") (U := "int") (by decide) ⟨_, ho, rfl⟩ (fun s2 => typeIs_int s2 0 t) noFill_tuple_mul F.fills_int_mul F.slot_int_rmul repeat_tuple F.slot_int_index.lookup
      (call_meets F.slot_int_rmul (typeIs_int s 0 t) F.entry_int_rmul (F.args_int_rmul_2 _ _) (int_rmul_tuple 0 t l its.toArray n dd sl)
        ⟨ho, rfl, ⟨_, ho, rfl⟩, call_meets F.slot_tuple_mul ⟨_, ho, rfl⟩ F.entry_tuple_mul (F.args_tuple_mul_2 _ _) (tuple_mul_nil l its.toArray n dd sl t hi) ⟨ho, ?_⟩⟩)
    refine ⟨.ref s.heap.objs.size, _, I.laid (t' := s.toks) (o := .tup []) (fun b ob z => Heap.get?_push_of_some _ z) (Nat.le_refl _) ?_, rfl, q2 (by decide) _ (I.hok.fresh (Nat.le_refl _))⟩
    exact ⟨Nat.zero_le _, [], .nil, IsTup.new _ _⟩
  · cases rx
    obtain ⟨t, rfl⟩ := ry
    obtain ⟨its, r, ⟨⟨cls, dd, data, sl⟩, ho, hc, n, hd⟩, hs⟩ := I.tuple hT
    simp only at hc hd
    subst hc hd
    refine wpAny_binaryOp_repeat_ref (T := "tuple") (U := "int") (by decide) ⟨_, ho, rfl⟩ (fun s2 => typeIs_int s2 1 t) noFill_tuple_mul F.fills_int_mul F.slot_int_rmul repeat_tuple F.slot_int_index.lookup
      (call_meets F.slot_int_rmul (typeIs_int s 1 t) F.entry_int_rmul (F.args_int_rmul_2 _ _) (int_rmul_tuple 1 t l its.toArray n dd sl)
        ⟨ho, rfl, ⟨_, ho, rfl⟩, call_meets F.slot_tuple_mul ⟨_, ho, rfl⟩ F.entry_tuple_mul (F.args_tuple_mul_2 _ _) (tuple_mul_one l its.toArray n dd sl t) ⟨ho, ?_⟩⟩)
    exact ⟨.ref l, H, I, rfl, q1 rfl⟩
  · exact op_repT pins s σ H _ _ v u Q I rx ry ⟨l, k, xs, rfl, rfl, hT, hne, hk, h2, hz, q2 (by omega)⟩
end
end Fp


set_option Elab.async false
set_option linter.all false
set_option maxRecDepth 100000
set_option maxHeartbeats 4000000
namespace Fp
open PySem PySem.Spec PyProof.Rows L2
/-! ### x *= y of great numbers; xs[i] += y -/
section
variable {X : Cx}
theorem ip_mulA : PIp X .Mult (rI CMulA fun i j => .int (i * j)) := opI fun _ _ _ _ _ _ _ hc q => imul_int q (mulA_ok hc)
def rIxN (K : PySem.W.Frag) : V → V → Hp → VK → Prop := fun x y H Q => ∃ p xs i v, x = .ref p ∧ y = .int i ∧ SqL K H p xs ∧ 0 ≤ i ∧ atI xs i = some v ∧ Q v H
theorem get_listN : PGet X (rIxN X.K) := by
  intro pins s σ H x y v u Q I rx ry h
  obtain ⟨p, xs, i, z, rfl, rfl, hq, h0, he, q⟩ := h
  cases rx
  obtain ⟨t, rfl⟩ := ry
  obtain ⟨its, r, pl, hz⟩ := I.list hq
  obtain ⟨j, h1, h2, h3, h4, h5⟩ := atI_get he
  obtain ⟨w, ew, rw'⟩ := r.get h2
  have hl := r.length
  have hn := line63
  have hj : i.toNat = j := by
    rw [seqIndex_of h0 h5] at h1
    exact Option.some.inj h1
  exact wpAny_getItem_list pl.isList h0 (by omega) (by rw [hj]; simpa using ew) ⟨z, H, I, rw', q⟩
end
end Fp

set_option Elab.async false
set_option linter.all false
set_option maxRecDepth 100000
set_option maxHeartbeats 4000000
namespace Fp
open PySem PySem.Spec PyProof.Rows L2
/-! ### repr of what may be None, a number or an object -/
theorem shown_non : PyData.none.shown = ("None" : Str) := rfl
theorem shown_int (i : Int) : (PyData.int i).shown = Str.ofString (toString i) := rfl
section
variable {X : Cx}
theorem call_reprV {lv : Nat} (hq : X.A.guards = some []) (hr : Room lv X.A) : CallR X (.builtin "repr") (fun xs H Q => ∃ v d, xs = [v] ∧ (v = .non ∨ (∃ i, v = .int i) ∨ ∃ a, v = .ref a) ∧ Dp X.K H v d ∧ Shows d ∧ Q (.str d.shown) H) := by
  intro pins s σ H xs us Q I r h
  obtain ⟨v, d, rfl, hv, hd, hs, q⟩ := h
  rcases hv with rfl | ⟨i, rfl⟩ | ⟨a, rfl⟩
  · cases hd
    obtain ⟨u, rfl, ru⟩ := vals1 r
    obtain rfl : u = Value.none := ru
    exact PySem.P.repr_of_none ⟨.str PyData.none.shown, H, I.tok _, ⟨_, rfl⟩, q⟩
  · cases hd
    refine SkE.call_repr_int pins s σ H _ us Q I r ⟨i, rfl, ?_, q⟩
    have h1 := hs.1
    simp only [PyData.showable, decide_eq_true_eq] at h1
    omega
  · exact call_reprD hq hr pins s σ H _ us Q I r ⟨a, d, rfl, hd, hs, q⟩
end
end Fp


set_option Elab.async false
set_option linter.all false
set_option maxRecDepth 100000
set_option maxHeartbeats 4000000
namespace Fp
open PySem PySem.Spec PyProof.Rows L2
/-! ### enumerate(xs, start=k), of a list and of a tuple -/
/-- the items of a row as it stands, each in a new pair with its number from k on -/
def Itq (Sq : Hp → List V → Prop) (k : Int) : It :=
  ⟨fun i H => ∃ xs x, Sq H xs ∧ xs[i]? = some x, fun i H v H2 => ∃ T x, v = .ref T ∧ H T = none ∧ H2 = upd H T (.tup [.int (k + (i : Nat)), x]) ∧ ∀ zs, Sq H zs → zs[i]? = some x, fun i H => ∃ xs, Sq H xs ∧ xs.length ≤ i⟩
theorem walk_q {Sq : Hp → List V → Prop} {k : Int} {xs : List V} : Walk (Itq Sq k) xs.length (fun H => Sq H xs) (YPair (fun i => some (.int (k + (i : Nat)))) (fun i => xs[i]?)) := by
  refine ⟨fun i _ hi q => ⟨xs, xs[i], q, by simp [hi]⟩, fun _ q => ⟨xs, q, Nat.le_refl _⟩, fun i H v H2 _ q y => ?_⟩
  obtain ⟨T, x, y1, y2, y3, y4⟩ := y
  exact ⟨T, _, x, y1, y2, y3, rfl, y4 xs q⟩
section
variable {M : Model} {A : Around} {E : Value → Shared → Prop} {s : Shared} {env : Env}
theorem cw_typeKw {pos : Pos} {T : String} {args : List (Bool × Sem Value)} {kws : List (Option Str × Sem Value)} {Q : Value → Shared → Prop} (hp : args.any (·.1) = false) (hk : kws.any (·.1.isNone) = false)
    (h : wpAny M A (evalArgs (.type T) true args kws) (fun a t => wpAny M A (call (.type T) a.pos a.kw) Q E t) E s) : wpAny M A (callWith pos (.type T) [] args kws) Q E s := by
  unfold callWith
  refine wpAny_bind (wpAny_holding (wpAny_mono h (fun g t hg => wpAny_bind (wpAny_standAt ?_)) fun _ _ z => z))
  simp only [hp, hk, Bool.or_false]
  refine wpAny_bind (wpAny_pure ?_)
  exact wpAny_bind (wpAny_mono hg (fun r t2 hr => wpAny_bind (wpAny_holding (wpAny_point (wpAny_pure hr)))) fun _ _ z => z)
end
section
variable {prog : Program} {w : World} {A : Around} {E : Value → Shared → Prop} {s : Shared}
theorem enum_end_q {e it : Addr} {i : Int} {old : Value} {Q : Option Value → Shared → Prop} (ee : IsEnum s.heap e it i old)
    (dn : ∀ (Q2 : Value → Shared → Prop) (F : Value → Shared → Prop), (∀ h2 x, Heap.ExtBut it s.heap h2 → (∃ o, h2.get? x = some o ∧ o.cls = .type "StopIteration") → F (.ref x) { s with heap := h2 }) → wpAny (model prog w) A.in1 (Builtin.SmallTypes.nextOf (.ref it)) Q2 F s)
    (hQ : ∀ h2, Heap.ExtBut it s.heap h2 → Q none { s with heap := h2 }) : wpAny (model prog w) A (pyNext (.ref e)) Q E s := by
  have ty : s.TypeIs (.ref e) "enumerate" := ⟨_, ee, rfl⟩
  unfold pyNext
  refine wpAny_bind (wpAny_attempt (wpAny_callSpecial?_slot (name := Str.ofString "__next__") ty F.slot_enumerate_next (wpAny_call_entry F.slot_enumerate_next ty F.entry_enumerate_next ?_ (F.args_enumerate_next_1 _))))
  show wpAny (model prog w) _ (field (.ref e) 2 >>= _) _ _ _
  refine wpAny_bind (wpAny_field ee rfl (x := .ref it) rfl (wpAny_bind (dn _ _ fun h2 x eb ox => ?_)))
  obtain ⟨o, oe, oc⟩ := ox
  exact wpAny_bind (wpAny_isInstance (T := "StopIteration") (b := true) ⟨o, oe, oc⟩ isSubtype_stop (wpAny_pure (hQ _ eb)))
end
theorem turn_qL {P : Program} {w : World} {K : PySem.W.Frag} {elts : List Expr} {kk : Nat} {tpos : Pos} (k : Int) (a e it : Addr) :
    Turn P w K (.Tuple elts kk tpos) (Itq (fun H xs => SqL K H a xs) k) [e, it] e (fun i h => (∃ old, IsEnum h e it (k + (i : Nat)) old) ∧ h.IsListIter it a i ∧ e ≠ it) where
  mem := by simp
  obj := fun i h st b hb => by
    obtain ⟨⟨_, ee⟩, ⟨o, oe, _, od⟩, _⟩ := st
    rcases (show b = e ∨ b = it by simpa using hb) with z | z
    · subst z
      exact ⟨_, ee, fun v q => nomatch q⟩
    · subst z
      exact ⟨o, oe, fun v q => by rw [od] at q; cases q⟩
  keep := fun i h h2 st kp => by
    obtain ⟨⟨old, ee⟩, ie, hne⟩ := st
    exact ⟨⟨old, kp e (by simp) _ ee⟩, ie.at fun o q => kp it (by simp) o q, hne⟩
  item := by
    intro Y yP yw yK yc i pn s sl H F I hf st hg
    subst yP yw yK
    obtain ⟨⟨old, ee⟩, ie, hne⟩ := st
    obtain ⟨xs, x, sq, ex⟩ := hg
    obtain ⟨vs, rv, po, _⟩ := I.list sq
    obtain ⟨u, eu, ru⟩ := rv.get ex
    have oa : s.heap.IsList a vs.toArray := po.isList
    have ai : a ≠ it := fun z => by
      subst z
      obtain ⟨o1, q1, c1, _⟩ := ie
      obtain ⟨o2, q2, c2, _⟩ := id oa
      rw [q1] at q2
      cases q2
      rw [c1] at c2
      injection c2 with c3
      exact absurd c3 (by decide)
    have ae : e ≠ a := fun z => by
      subst z
      obtain ⟨o2, q2, c2, _⟩ := id oa
      have q1 : s.heap.get? e = _ := ee
      rw [q1] at q2
      cases q2
      have c3 := c2
      injection c3 with c4
      exact absurd c4 (by decide)
    have le : e < s.heap.objs.size := Heap.lt_size ee
    have li : it < s.heap.objs.size := by
      obtain ⟨_, q, _⟩ := ie
      exact Heap.lt_size q
    have hi : i < vs.toArray.size := by
      have := (List.getElem?_eq_some_iff.mp eu).1
      simpa using this
    refine wpAny_pyNext_enum_itemC (Draws.list (A := Y.A.in1) (show Y.A.in1.handled = none from I.ok.hd yc) it a ai vs.toArray) ee ⟨ie, oa⟩ hi hne (by simp [hne, ae]) fun u2 h2 tk pu oe st2 oT zT kp => ?_
    have e2 : u2 = u := by
      have : vs[i]? = some u2 := by simpa using pu
      rw [eu] at this
      exact Option.some.inj this.symm
    subst e2
    refine ⟨_, rfl, wpAny_letOwnedTupleGo_enum (s := { s with heap := h2, toks := tk + 1 }) oe fun h3 ee3 sb => ?_⟩
    have oT3 := (sb.2 _ (Nat.ne_of_gt le)).trans oT
    have new : ObjOk Y.prog Y.w (upd H s.heap.objs.size (.tup [.int (k + (i : Nat)), x])) h3 s.heap.objs.size (.tup [.int (k + (i : Nat)), x]) :=
      ⟨by show 2 ≤ sizeLine; decide, [.int (k + (i : Nat)) tk, u2], .cons ⟨_, rfl⟩ (.cons ru .nil), ⟨_, oT3, rfl, _, rfl⟩⟩
    have I3 : Inv Y pn sl (upd H s.heap.objs.size (.tup [.int (k + (i : Nat)), x])) { s with heap := h3, toks := tk + 1 } := by
      refine I.turnedNew (ch := [e, it]) (fun b ob hb q => ?_) hf (Nat.le_refl _) new
      exact (sb.2 b fun z => hb (by simp [z])).trans (kp b ob (fun z => hb (by simp [z])) (fun z => hb (by simp [z])) q)
    refine ⟨.ref s.heap.objs.size, _, I3, rfl, ⟨_, x, rfl, I.hok.fresh (Nat.le_refl _), rfl, fun zs hz => ?_⟩, ⟨⟨u2, ?_⟩, st2.1.at fun o q => (sb.2 it (Ne.symm hne)).trans q, hne⟩, fun b hb => ?_⟩
    · rw [I.list_inj hz sq]
      exact ex
    · rw [show k + ((i + 1 : Nat) : Int) = k + (i : Int) + 1 by omega]
      exact ee3
    · have lb : b < s.heap.objs.size := by
        rcases (show b = e ∨ b = it by simpa using hb) with z | z
        · rw [z]
          exact le
        · rw [z]
          exact li
      rw [upd_ne (Nat.ne_of_lt lb)]
      exact (hf b hb).1
  done := by
    intro Y yP yw yK yc i pn s sl H F I hf st hg
    subst yP yw yK
    obtain ⟨⟨old, ee⟩, ie, hne⟩ := st
    obtain ⟨xs, sq, hx⟩ := hg
    obtain ⟨vs, rv, po, _⟩ := I.list sq
    have oa : s.heap.IsList a vs.toArray := po.isList
    obtain ⟨g0, g1, g2, g3, g4, g5⟩ := hf it (by simp)
    have hl := rv.length
    have ai : a ≠ it := fun z => by
      subst z
      obtain ⟨o1, q1, c1, _⟩ := ie
      obtain ⟨o2, q2, c2, _⟩ := id oa
      rw [q1] at q2
      cases q2
      rw [c1] at c2
      injection c2 with c3
      exact absurd c3 (by decide)
    exact enum_end_q ee (fun Q2 F2 hQ2 => wpAny_nextOf_list_end (show Y.A.in1.handled = none from I.ok.hd yc) ie oa (by simp; omega) hQ2) fun h2 eb => ⟨rfl, I.turned (t' := s.toks) (fun b o hb q => eb b o hb q) g0 g1 g3 g4 g5⟩
  self := fun A2 i s Q F st h => by
    obtain ⟨⟨_, ee⟩, _⟩ := st
    exact wpAny_pyIter_enum ee h
theorem turn_qT {P : Program} {w : World} {K : PySem.W.Frag} {elts : List Expr} {kk : Nat} {tpos : Pos} (k : Int) (a e it : Addr) :
    Turn P w K (.Tuple elts kk tpos) (Itq (fun H xs => SqT K H a xs) k) [e, it] e (fun i h => (∃ old, IsEnum h e it (k + (i : Nat)) old) ∧ h.IsTupleIter it a i ∧ e ≠ it) where
  mem := by simp
  obj := fun i h st b hb => by
    obtain ⟨⟨_, ee⟩, ⟨o, oe, _, od⟩, _⟩ := st
    rcases (show b = e ∨ b = it by simpa using hb) with z | z
    · subst z
      exact ⟨_, ee, fun v q => nomatch q⟩
    · subst z
      exact ⟨o, oe, fun v q => by rw [od] at q; cases q⟩
  keep := fun i h h2 st kp => by
    obtain ⟨⟨old, ee⟩, ie, hne⟩ := st
    exact ⟨⟨old, kp e (by simp) _ ee⟩, ie.at fun o q => kp it (by simp) o q, hne⟩
  item := by
    intro Y yP yw yK yc i pn s sl H F I hf st hg
    subst yP yw yK
    obtain ⟨⟨old, ee⟩, ie, hne⟩ := st
    obtain ⟨xs, x, sq, ex⟩ := hg
    obtain ⟨vs, rv, po, _⟩ := I.tuple sq
    obtain ⟨u, eu, ru⟩ := rv.get ex
    have oa : s.heap.IsTuple a vs.toArray := po
    have ai : a ≠ it := fun z => by
      subst z
      obtain ⟨o1, q1, c1, _⟩ := ie
      obtain ⟨o2, q2, c2, _⟩ := id oa
      rw [q1] at q2
      cases q2
      rw [c1] at c2
      injection c2 with c3
      exact absurd c3 (by decide)
    have ae : e ≠ a := fun z => by
      subst z
      obtain ⟨o2, q2, c2, _⟩ := id oa
      have q1 : s.heap.get? e = _ := ee
      rw [q1] at q2
      cases q2
      have c3 := c2
      injection c3 with c4
      exact absurd c4 (by decide)
    have le : e < s.heap.objs.size := Heap.lt_size ee
    have li : it < s.heap.objs.size := by
      obtain ⟨_, q, _⟩ := ie
      exact Heap.lt_size q
    have hi : i < vs.toArray.size := by
      have := (List.getElem?_eq_some_iff.mp eu).1
      simpa using this
    refine wpAny_pyNext_enum_itemC (Draws.tuple (A := Y.A.in1) (show Y.A.in1.handled = none from I.ok.hd yc) it a ai vs.toArray) ee ⟨ie, oa⟩ hi hne (by simp [hne, ae]) fun u2 h2 tk pu oe st2 oT zT kp => ?_
    have e2 : u2 = u := by
      have : vs[i]? = some u2 := by simpa using pu
      rw [eu] at this
      exact Option.some.inj this.symm
    subst e2
    refine ⟨_, rfl, wpAny_letOwnedTupleGo_enum (s := { s with heap := h2, toks := tk + 1 }) oe fun h3 ee3 sb => ?_⟩
    have oT3 := (sb.2 _ (Nat.ne_of_gt le)).trans oT
    have new : ObjOk Y.prog Y.w (upd H s.heap.objs.size (.tup [.int (k + (i : Nat)), x])) h3 s.heap.objs.size (.tup [.int (k + (i : Nat)), x]) :=
      ⟨by show 2 ≤ sizeLine; decide, [.int (k + (i : Nat)) tk, u2], .cons ⟨_, rfl⟩ (.cons ru .nil), ⟨_, oT3, rfl, _, rfl⟩⟩
    have I3 : Inv Y pn sl (upd H s.heap.objs.size (.tup [.int (k + (i : Nat)), x])) { s with heap := h3, toks := tk + 1 } := by
      refine I.turnedNew (ch := [e, it]) (fun b ob hb q => ?_) hf (Nat.le_refl _) new
      exact (sb.2 b fun z => hb (by simp [z])).trans (kp b ob (fun z => hb (by simp [z])) (fun z => hb (by simp [z])) q)
    refine ⟨.ref s.heap.objs.size, _, I3, rfl, ⟨_, x, rfl, I.hok.fresh (Nat.le_refl _), rfl, fun zs hz => ?_⟩, ⟨⟨u2, ?_⟩, st2.1.at fun o q => (sb.2 it (Ne.symm hne)).trans q, hne⟩, fun b hb => ?_⟩
    · rw [I.tuple_inj hz sq]
      exact ex
    · rw [show k + ((i + 1 : Nat) : Int) = k + (i : Int) + 1 by omega]
      exact ee3
    · have lb : b < s.heap.objs.size := by
        rcases (show b = e ∨ b = it by simpa using hb) with z | z
        · rw [z]
          exact le
        · rw [z]
          exact li
      rw [upd_ne (Nat.ne_of_lt lb)]
      exact (hf b hb).1
  done := by
    intro Y yP yw yK yc i pn s sl H F I hf st hg
    subst yP yw yK
    obtain ⟨⟨old, ee⟩, ie, hne⟩ := st
    obtain ⟨xs, sq, hx⟩ := hg
    obtain ⟨vs, rv, po, _⟩ := I.tuple sq
    have oa : s.heap.IsTuple a vs.toArray := po
    obtain ⟨g0, g1, g2, g3, g4, g5⟩ := hf it (by simp)
    have hl := rv.length
    have ai : a ≠ it := fun z => by
      subst z
      obtain ⟨o1, q1, c1, _⟩ := ie
      obtain ⟨o2, q2, c2, _⟩ := id oa
      rw [q1] at q2
      cases q2
      rw [c1] at c2
      injection c2 with c3
      exact absurd c3 (by decide)
    exact enum_end_q ee (fun Q2 F2 hQ2 => wpAny_nextOf_tuple_end (show Y.A.in1.handled = none from I.ok.hd yc) ie oa (by simp; omega) hQ2) fun h2 eb => ⟨rfl, I.turned (t' := s.toks) (fun b o hb q => eb b o hb q) g0 g1 g3 g4 g5⟩
  self := fun A2 i s Q F st h => by
    obtain ⟨⟨_, ee⟩, _⟩ := st
    exact wpAny_pyIter_enum ee h
def iQL (K : PySem.W.Frag) (k : Int) (ta : TA) : TI := fun σ H R => ta σ H fun vs H1 => ∃ a xs, vs = [.ref a] ∧ SqL K H1 a xs ∧ R (Itq (fun H xs => SqL K H a xs) k) H1
theorem pi_qL {X : Cx} {e : Expr} {ta : TA} {p pos tpos kp cp : Pos} {elts : List Expr} {kk jj : Nat} {k : Int} (k0 : -(2 ^ 63) ≤ k) (k1 : k < 2 ^ 63) (hg : Gl X "enumerate") (hm : X.mg "enumerate" = none) (ha : PA X [e] ta) (hs : starEach [e] X.env = [(false, eval e X.env)] := by rfl) :
    PI X (.Tuple elts kk tpos) (.Call (.Name "enumerate" p) [e] [⟨some "start", .Constant (.int k) jj cp, kp⟩] pos) (iQL X.K k ta) := by
  refine ⟨fun pn s sl H R I h => wpAny_Call_Name_kw (ld_blt I hg hm boot_enumerate ?_)⟩
  have he : backTo pos (starEach [e] X.env) = (false, eval e X.env) :: [] := by
    rw [hs]
    rfl
  refine cw_typeKw (by rw [he]; rfl) (by rfl) ?_
  have go := ha.run pos pn s sl H _ I h
  rw [he] at go ⊢
  refine evalArgs_kwB (by rfl) (thn go fun us s1 z1 => ?_)
  obtain ⟨vs, H1, I1, r1, q1⟩ := z1
  have pkw : PK X [⟨some "start", .Constant (.int k) jj cp, kp⟩] (tCons (tC (.int k)) tNil) := pk_cons pe_int pk_nil
  refine thn (pkw.run pos pn s1 sl H1 (fun zs H2 => zs = [.int k] ∧ H2 = H1) I1 ⟨rfl, rfl⟩) fun ws s2 z2 => ?_
  obtain ⟨zs, H2, I2, r2, rfl, rfl⟩ := z2
  obtain ⟨a, xs, rfl, sq, q⟩ := q1
  cases r1 with
  | cons ra rn =>
    cases rn
    cases ra
    cases r2 with
    | cons rk rn =>
      cases rn
      obtain ⟨tk, rfl⟩ := rk
      obtain ⟨us, rv, po, _⟩ := I2.list sq
      have oa : s2.heap.IsList a us.toArray := po.isList
      refine enum_begins_start (begins_list a us.toArray) oa k0 k1 fun h2 ee oi _ kp2 => wpAny_pyIter_enum ee ?_
      have I3 : Inv X pn sl H2 { s2 with heap := h2 } := I2.kept (t' := s2.toks) kp2
      refine ⟨s2.heap.objs.size + 1, [s2.heap.objs.size + 1, s2.heap.objs.size], _, _, H2, rfl, I3, turn_qL k a (s2.heap.objs.size + 1) s2.heap.objs.size, ⟨⟨.none, ?_⟩, ⟨_, oi, rfl, rfl⟩, Nat.succ_ne_self _⟩, fun b hb => ?_, q⟩
      · rw [show k + ((0 : Nat) : Int) = k by omega]
        exact ee
      · have lb : s2.heap.objs.size ≤ b := by
          rcases (show b = s2.heap.objs.size + 1 ∨ b = s2.heap.objs.size by simpa using hb) with z | z
          · rw [z]
            exact Nat.le_add_right _ _
          · rw [z]
            exact Nat.le_refl _
        exact I2.fpOk lb (I2.hok.fresh lb)
def iQT (K : PySem.W.Frag) (k : Int) (ta : TA) : TI := fun σ H R => ta σ H fun vs H1 => ∃ a xs, vs = [.ref a] ∧ SqT K H1 a xs ∧ R (Itq (fun H xs => SqT K H a xs) k) H1
theorem pi_qT {X : Cx} {e : Expr} {ta : TA} {p pos tpos kp cp : Pos} {elts : List Expr} {kk jj : Nat} {k : Int} (k0 : -(2 ^ 63) ≤ k) (k1 : k < 2 ^ 63) (hg : Gl X "enumerate") (hm : X.mg "enumerate" = none) (ha : PA X [e] ta) (hs : starEach [e] X.env = [(false, eval e X.env)] := by rfl) :
    PI X (.Tuple elts kk tpos) (.Call (.Name "enumerate" p) [e] [⟨some "start", .Constant (.int k) jj cp, kp⟩] pos) (iQT X.K k ta) := by
  refine ⟨fun pn s sl H R I h => wpAny_Call_Name_kw (ld_blt I hg hm boot_enumerate ?_)⟩
  have he : backTo pos (starEach [e] X.env) = (false, eval e X.env) :: [] := by
    rw [hs]
    rfl
  refine cw_typeKw (by rw [he]; rfl) (by rfl) ?_
  have go := ha.run pos pn s sl H _ I h
  rw [he] at go ⊢
  refine evalArgs_kwB (by rfl) (thn go fun us s1 z1 => ?_)
  obtain ⟨vs, H1, I1, r1, q1⟩ := z1
  have pkw : PK X [⟨some "start", .Constant (.int k) jj cp, kp⟩] (tCons (tC (.int k)) tNil) := pk_cons pe_int pk_nil
  refine thn (pkw.run pos pn s1 sl H1 (fun zs H2 => zs = [.int k] ∧ H2 = H1) I1 ⟨rfl, rfl⟩) fun ws s2 z2 => ?_
  obtain ⟨zs, H2, I2, r2, rfl, rfl⟩ := z2
  obtain ⟨a, xs, rfl, sq, q⟩ := q1
  cases r1 with
  | cons ra rn =>
    cases rn
    cases ra
    cases r2 with
    | cons rk rn =>
      cases rn
      obtain ⟨tk, rfl⟩ := rk
      obtain ⟨us, rv, po, _⟩ := I2.tuple sq
      have oa : s2.heap.IsTuple a us.toArray := po
      refine enum_begins_start (begins_tuple a us.toArray) oa k0 k1 fun h2 ee oi _ kp2 => wpAny_pyIter_enum ee ?_
      have I3 : Inv X pn sl H2 { s2 with heap := h2 } := I2.kept (t' := s2.toks) kp2
      refine ⟨s2.heap.objs.size + 1, [s2.heap.objs.size + 1, s2.heap.objs.size], _, _, H2, rfl, I3, turn_qT k a (s2.heap.objs.size + 1) s2.heap.objs.size, ⟨⟨.none, ?_⟩, ⟨_, oi, rfl, rfl⟩, Nat.succ_ne_self _⟩, fun b hb => ?_, q⟩
      · rw [show k + ((0 : Nat) : Int) = k by omega]
        exact ee
      · have lb : s2.heap.objs.size ≤ b := by
          rcases (show b = s2.heap.objs.size + 1 ∨ b = s2.heap.objs.size by simpa using hb) with z | z
          · rw [z]
            exact Nat.le_add_right _ _
          · rw [z]
            exact Nat.le_refl _
        exact I2.fpOk lb (I2.hok.fresh lb)
end Fp

set_option Elab.async false
set_option linter.all false
set_option maxRecDepth 100000
set_option maxHeartbeats 4000000
set_option exponentiation.threshold 10000
namespace Fp
open PySem PySem.Spec PyProof.Rows L2
def topS (i : Nat) : Stmt := PySem.Challenge.pw_freshparts_k94_whole_puts_turn_as_told.main.body.getD i (.Pass ⟨0, 0, 0, 0⟩)
abbrev s_cd : Stmt := topS 6
theorem sc_cd : FnScope ["one", "other", "great", "small"] ["one", "other"] (defScope s_cd) := ⟨rfl, rfl, rfl, by decide +kernel, rfl, by decide +kernel, by decide +kernel⟩

/-! ### the greatest common divisor -/
theorem abs_if (i : Int) : (if i < 0 then -i else i) = (i.natAbs : Int) := by split <;> omega
theorem gcd_turn {g s : Int} (hs : 0 < s) (hg : 0 ≤ g) : Int.gcd s (g.fmod s) = Int.gcd g s := by
  obtain ⟨n, rfl⟩ := Int.eq_ofNat_of_zero_le hg
  obtain ⟨m, rfl⟩ := Int.eq_ofNat_of_zero_le (Int.le_of_lt hs)
  rw [Int.fmod_eq_emod_of_nonneg _ (Int.le_of_lt hs)]
  show Nat.gcd m ((n : Int) % (m : Int)).natAbs = Nat.gcd n m
  rw [show ((n : Int) % (m : Int)) = ((n % m : Nat) : Int) from (Int.natCast_emod n m).symm, Int.natAbs_natCast, Nat.gcd_comm n m, Nat.gcd_comm m (n % m)]
  exact (Nat.gcd_rec m n).symm

section
variable {P : Program} {w : World} {K : PySem.W.Frag} {mg : Str → Option Value} {base : Heap}
def spCd : Sp := fun vs H Q _ => ∃ a b : Int, vs = [.int a, .int b] ∧ Q (.int (Int.gcd a b : Nat)) H
theorem ok_cd {f : Addr} {fd : FuncData} {k : Nat} (F : Fun K "common_divisor" "common_divisor" s_cd f fd) (ma : mg "abs" = none) : FnOk P w K mg base CX0 (k + 1) f fd ["one", "other"] spCd := by
  refine F.ok sc_cd (fun vs H Q E h => ?_) (fun cdv A outer s H vs Q E hr h => ?_)
  · obtain ⟨a, b, rfl, _⟩ := h
    rfl
  · obtain ⟨a, b, rfl, q⟩ := h
    refine ⟨_, pss_cons (ps_par (i := 2) (j := 3) rfl sc_cd.nd rfl rfl (by decide) rfl rfl (pa_cons (pe_callB call_abs (by rfl) ma (by decide +kernel) (pa_cons (pv 0) pa_nil)) (pa_cons (pe_callB call_abs (by rfl) ma (by decide +kernel) (pa_cons (pv 1) pa_nil)) pa_nil)) (by rfl))
      (pss_cons (ps_while PassesOwn.never (pt_cmpR op_ne (pv 3) pe_int (nomark _)) (pss_one (ps_par (i := 2) (j := 3) rfl sc_cd.nd rfl rfl (by decide) rfl rfl (pa_cons (pv 3) (pa_cons (pe_op op_modN (pv 2) (pv 3)) pa_nil)) (by rfl))))
      (pss_one (ps_ret (pv 2)))), ?_⟩
    refine ⟨_, rfl, a, rfl, _, rfl, b, rfl, _, _, rfl, ?_⟩
    refine while_by (fun σ H1 => H1 = H ∧ ∃ g s : Int, σ = [some (.int a), some (.int b), some (.int g), some (.int s)] ∧ 0 ≤ g ∧ 0 ≤ s ∧ Int.gcd g s = Int.gcd a b)
      (fun σ _ => match σ with | [_, _, _, some (.int s)] => s.toNat | _ => 0) ?_ ?_ ?_
    · refine ⟨rfl, _, _, rfl, ?_, ?_, ?_⟩
      · rw [abs_if]; omega
      · rw [abs_if]; omega
      · rw [abs_if, abs_if]
        show Nat.gcd _ _ = Nat.gcd _ _
        rw [Int.natAbs_natCast, Int.natAbs_natCast]
    · rintro σ H1 ⟨rfl, g, s, rfl, hg, hs, e⟩
      refine ⟨_, rfl, rfl, _, rfl, ite2 (fun c => ?_) (fun c => ?_)⟩
      · have hs0 : s ≠ 0 := fun z => by
          rw [z] at c
          exact absurd c (by decide)
        have hp : 0 < s := by omega
        have lt : s > g.fmod s := Int.fmod_lt_of_pos g hp
        have nn : 0 ≤ g.fmod s := Int.fmod_nonneg_of_pos g hp
        refine ⟨_, rfl, _, rfl, _, rfl, g, s, rfl, rfl, hs0, _, _, rfl, ⟨rfl, s, g.fmod s, rfl, hs, nn, ?_⟩, ?_⟩
        · rw [gcd_turn hp hg]; exact e
        · show (g.fmod s).toNat < s.toNat
          omega
      · have hs0 : s = 0 := by
          rcases Classical.em (s = 0) with z | z
          · exact z
          · exact absurd (show (!decide (V.int s = V.int 0)) = true by simp [z]) c
        subst hs0
        refine ⟨_, rfl, ?_⟩
        have eg : g = ((Int.gcd a b : Nat) : Int) := by
          rw [← e, Int.gcd_zero_right]
          omega
        rw [eg]
        exact q
    · intro σ H1 Q1 Q2 hq h
      obtain ⟨v, e1, e2, k, e3, h⟩ := h
      exact ⟨v, e1, e2, k, e3, hq _ _ h⟩
end

end Fp

set_option Elab.async false
set_option linter.all false
set_option maxRecDepth 100000
set_option maxHeartbeats 4000000
set_option exponentiation.threshold 10000
namespace Fp
open PySem PySem.Spec PyProof.Rows L2
/-! ### ratio -/
def ratG (t b : Int) : Int := if b < 0 then -((Int.gcd t b : Nat) : Int) else ((Int.gcd t b : Nat) : Int)
def ratT (t b : Int) : Int := t.fdiv (ratG t b)
def ratB (t b : Int) : Int := b.fdiv (ratG t b)
theorem gcd_le {t b : Int} (h : b ≠ 0) : 0 < Int.gcd t b ∧ Int.gcd t b ≤ b.natAbs := by
  have hb : 0 < b.natAbs := by omega
  exact ⟨Nat.gcd_pos_of_pos_right _ hb, Nat.gcd_le_right _ hb⟩
theorem ratG_ok {t b : Int} {n : Nat} (h : b ≠ 0) (hb : b.natAbs < 2 ^ n) (hn : n ≤ 9000) (h0 : 0 < n) : CDivA t (ratG t b) ∧ CDivA b (ratG t b) := by
  obtain ⟨h1, h2⟩ := gcd_le (t := t) h
  have e : (ratG t b).natAbs = Int.gcd t b := by
    unfold ratG
    split <;> omega
  have ne : ratG t b ≠ 0 := by omega
  have l : (ratG t b).natAbs.log2 < 9000 := by
    rw [e]
    exact Nat.lt_of_lt_of_le ((Nat.log2_lt (by omega)).mpr (Nat.lt_of_le_of_lt h2 hb)) hn
  exact ⟨⟨ne, l⟩, ⟨ne, l⟩⟩

end Fp

set_option Elab.async false
set_option linter.all false
set_option maxRecDepth 100000
set_option maxHeartbeats 4000000
set_option exponentiation.threshold 10000
namespace Fp
open PySem PySem.Spec PyProof.Rows L2
abbrev s_ratio : Stmt := topS 7
theorem sc_ratio : FnScope ["top", "bottom", "divisor"] ["top", "bottom"] (defScope s_ratio) := ⟨rfl, rfl, rfl, by decide +kernel, rfl, by decide +kernel, by decide +kernel⟩
section
variable {P : Program} {w : World} {K : PySem.W.Frag} {mg : Str → Option Value} {base : Heap}
def spRat0 : Sp := fun vs H Q _ => ∃ (t b : Int), vs = [.int t, .int b] ∧ b.natAbs < 2 ^ 8000 ∧ b ≠ 0 ∧ ∀ p, H p = none → Q (.ref p) (upd H p (.tup [.int (ratT t b), .int (ratB t b)]))
theorem ok_ratio {f fC : Addr} {fd fdC : FuncData} (F : Fun K "ratio" "ratio" s_ratio f fd) (FC : Fun K "common_divisor" "common_divisor" s_cd fC fdC) (bC : Binds K fdC ["one", "other"] [])
    (gC : mg "common_divisor" = some (.ref fC)) (ma : mg "abs" = none) : FnOk P w K mg base CX0 2 f fd ["top", "bottom"] spRat0 := by
  have GC : FnOk P w K mg base CX0 1 fC fdC ["one", "other"] spCd := ok_cd FC ma
  refine F.ok sc_ratio (fun vs H Q E h => ?_) (fun cdv A outer s H vs Q E hr h => ?_)
  · obtain ⟨t, b, rfl, _⟩ := h
    rfl
  · obtain ⟨t, b, rfl, hb, h0, q1⟩ := h
    refine ⟨_, (pss_cons (ps_if (pt_cmpR op_eq (pv 1) pe_int (nomark _)) (pss_one ps_never) pss_nil) (pss_cons (ps_set (i := 2) sc_ratio.nd rfl (.inl rfl) (pe_call GC hr (by rfl) gC FC.kp bC .nil pass0 (pa_cons (pv 0) (pa_cons (pv 1) pa_nil)))) (pss_cons (ps_if (pt_cmpR op_lt (pv 1) pe_int (nomark _)) (pss_one (ps_set (i := 2) sc_ratio.nd rfl (.inl rfl) (pe_un un_neg (pv 2)))) pss_nil) (pss_one (ps_ret (pe_tup (pa_cons (pe_op op_fdivA (pv 0) (pv 2)) (pa_cons (pe_op op_fdivA (pv 1) (pv 2)) pa_nil)))))))), ?_⟩
    refine ⟨_, rfl, rfl, _, rfl, ite2 (fun c => ?_) (fun c => ?_)⟩
    · exact absurd (V.int.inj (of_decide_eq_true c)) h0
    · obtain ⟨c1, c2⟩ := ratG_ok (t := t) h0 hb (by decide) (by decide)
      refine ⟨_, rfl, _, rfl, t, b, rfl, ?_⟩
      have fin : ∀ g : Int, g = ratG t b → ∀ p, H p = none → Q (.ref p) (upd H p (.tup [.int (t.fdiv g), .int (b.fdiv g)])) := fun g eg p hp => by
        rw [eg]
        exact q1 p hp
      refine ⟨_, rfl, b, 0, rfl, rfl, _, rfl, ite2 (fun c3 => ?_) (fun c3 => ?_)⟩
      · have hneg : b < 0 := of_decide_eq_true c3
        have eg : -((Int.gcd t b : Nat) : Int) = ratG t b := by unfold ratG; rw [if_pos hneg]
        refine ⟨_, rfl, _, rfl, ?_⟩
        refine ⟨_, rfl, _, rfl, t, _, rfl, rfl, by rw [eg]; exact c1, _, rfl, _, rfl, b, _, rfl, rfl, by rw [eg]; exact c2, by show 2 ≤ sizeLine; decide, fin _ eg⟩
      · have hneg : ¬ b < 0 := fun z => c3 (decide_eq_true z)
        have eg : ((Int.gcd t b : Nat) : Int) = ratG t b := by unfold ratG; rw [if_neg hneg]
        refine ⟨_, rfl, _, rfl, t, _, rfl, rfl, by rw [eg]; exact c1, _, rfl, _, rfl, b, _, rfl, rfl, by rw [eg]; exact c2, by show 2 ≤ sizeLine; decide, fin _ eg⟩
end

end Fp

set_option Elab.async false
set_option linter.all false
set_option maxRecDepth 100000
set_option maxHeartbeats 4000000
set_option exponentiation.threshold 10000
namespace Fp
open PySem PySem.Spec PyProof.Rows L2
/-! ### two ratios reckoned -/
theorem sqT_same {K : PySem.W.Frag} {H H' : Hp} {a : Addr} {xs : List V} (e : Same H H') (h : SqT K H a xs) : SqT K H' a xs := by
  rcases h with (h | ⟨o, h⟩) | h
  · exact .inl (.inl (e _ _ h))
  · exact .inl (.inr ⟨o, e _ _ h⟩)
  · exact .inr h
theorem same_new {H : Hp} {p : Addr} {o : HO} (h : H p = none) : Same H (upd H p o) := fun b x z => by
  rw [upd_ne (ne_of_none z h)]
  exact z
/-- bounds of what is multiplied -/
def Sm (n : Nat) (a : Int) : Prop := a.natAbs < 2 ^ n
theorem Sm.log {n : Nat} {a : Int} (h : Sm n a) (h0 : 0 < n) : a.natAbs.log2 < n := by
  rcases Nat.eq_zero_or_pos a.natAbs with z | z
  · rw [z]; simpa using h0
  · exact (Nat.log2_lt (by omega)).mpr h
theorem Sm.mul {n m : Nat} {a b : Int} (ha : Sm n a) (hb : Sm m b) : Sm (n + m) (a * b) := by
  unfold Sm at *
  rw [Int.natAbs_mul, Nat.pow_add]
  exact Nat.mul_lt_mul'' ha hb
theorem Sm.add {n : Nat} {a b : Int} (ha : Sm n a) (hb : Sm n b) : Sm (n + 1) (a + b) := by
  unfold Sm at *
  rw [Nat.pow_succ]
  omega
theorem Sm.sub {n : Nat} {a b : Int} (ha : Sm n a) (hb : Sm n b) : Sm (n + 1) (a - b) := by
  unfold Sm at *
  rw [Nat.pow_succ]
  omega
theorem Sm.mono {n m : Nat} {a : Int} (h : Sm n a) (l : n ≤ m) : Sm m a := Nat.lt_of_lt_of_le h (Nat.pow_le_pow_right (by decide) l)
theorem Sm.cmul {n m : Nat} {a b : Int} (ha : Sm n a) (hb : Sm m b) (h0 : 0 < n) (h1 : 0 < m) (h : n + m ≤ 1000000) : CMulA a b := by
  have x := ha.log h0
  have y := hb.log h1
  unfold CMulA
  omega
/-- at p1 and p2 the ratios a by b, c by d -/
structure Two (K : PySem.W.Frag) (H : Hp) (p1 p2 : Addr) (a b c d : Int) : Prop where
  t1 : SqT K H p1 [.int a, .int b]
  t2 : SqT K H p2 [.int c, .int d]
  sa : Sm 3000 a
  sb : Sm 3000 b
  sc : Sm 3000 c
  sd : Sm 3000 d
  pb : 0 < b
  pd : 0 < d
theorem Two.den {K : PySem.W.Frag} {H : Hp} {p1 p2 : Addr} {a b c d : Int} (h : Two K H p1 p2 a b c d) : 0 < b * d := Int.mul_pos h.pb h.pd
theorem Two.same {K : PySem.W.Frag} {H H' : Hp} {p1 p2 : Addr} {a b c d : Int} (h : Two K H p1 p2 a b c d) (e : Same H H') : Two K H' p1 p2 a b c d := ⟨sqT_same e h.t1, sqT_same e h.t2, h.sa, h.sb, h.sc, h.sd, h.pb, h.pd⟩
def spTwo (K : PySem.W.Frag) (num : Int → Int → Int → Int → Int) : Sp := fun vs H Q _ => ∃ (p1 p2 : Addr) (a b c d : Int), vs = [.ref p1, .ref p2] ∧ Two K H p1 p2 a b c d ∧
  ∀ p, H p = none → Q (.ref p) (upd H p (.tup [.int (ratT (num a b c d) (b * d)), .int (ratB (num a b c d) (b * d))]))

end Fp

set_option Elab.async false
set_option linter.all false
set_option maxRecDepth 100000
set_option maxHeartbeats 4000000
set_option exponentiation.threshold 10000
namespace Fp
open PySem PySem.Spec PyProof.Rows L2
abbrev s_minus : Stmt := topS 8
theorem sc_minus : FnScope ["one", "other"] ["one", "other"] (defScope s_minus) := ⟨rfl, rfl, rfl, by decide +kernel, rfl, by decide +kernel, by decide +kernel⟩
section
variable {P : Program} {w : World} {K : PySem.W.Frag} {mg : Str → Option Value} {base : Heap}
theorem ok_minus {f fR : Addr} {fd fdR : FuncData} (F : Fun K "minus" "minus" s_minus f fd) (FR : Fun K "ratio" "ratio" s_ratio fR fdR) (bR : Binds K fdR ["top", "bottom"] []) (gR : mg "ratio" = some (.ref fR)) (GR : FnOk P w K mg base CX0 2 fR fdR ["top", "bottom"] spRat0) : FnOk P w K mg base CX0 3 f fd ["one", "other"] (spTwo K (fun a b c d => a * d - c * b)) := by
  refine F.ok sc_minus (fun vs H Q E h => ?_) (fun cdv A outer s H vs Q E hr h => ?_)
  · obtain ⟨_, _, _, _, _, _, rfl, _⟩ := h
    rfl
  · obtain ⟨p1, p2, a, b, c, d, rfl, T, q⟩ := h
    refine ⟨_, pss_one (ps_ret (pe_call GR hr (by rfl) gR FR.kp bR .nil pass0 (pa_cons (pe_op op_sub (pe_op op_mulA (pe_ix ix_tup (pv 0) pe_int (fun _ _ => rfl)) (pe_ix ix_tup (pv 1) pe_int (fun _ _ => rfl))) (pe_op op_mulA (pe_ix ix_tup (pv 1) pe_int (fun _ _ => rfl)) (pe_ix ix_tup (pv 0) pe_int (fun _ _ => rfl)))) (pa_cons (pe_op op_mulA (pe_ix ix_tup (pv 0) pe_int (fun _ _ => rfl)) (pe_ix ix_tup (pv 1) pe_int (fun _ _ => rfl))) pa_nil)))), ?_⟩
    refine ⟨_, rfl, p1, _, 0, _, rfl, rfl, T.t1, atI_nat (j := 0) rfl, _, rfl, p2, _, 1, _, rfl, rfl, T.t2, atI_nat (j := 1) rfl, a, d, rfl, rfl, T.sa.cmul T.sd (by decide) (by decide) (by decide), _, rfl, p2, _, 0, _, rfl, rfl, T.t2, atI_nat (j := 0) rfl, _, rfl, p1, _, 1, _, rfl, rfl, T.t1, atI_nat (j := 1) rfl, c, b, rfl, rfl, T.sc.cmul T.sb (by decide) (by decide) (by decide), _, _, rfl, rfl, _, rfl, p1, _, 1, _, rfl, rfl, T.t1, atI_nat (j := 1) rfl, _, rfl, p2, _, 1, _, rfl, rfl, T.t2, atI_nat (j := 1) rfl, b, d, rfl, rfl, T.sb.cmul T.sd (by decide) (by decide) (by decide), ?_⟩
    exact ⟨_, _, rfl, (T.sb.mul T.sd).mono (by decide), Int.ne_of_gt T.den, q⟩
end

end Fp

set_option Elab.async false
set_option linter.all false
set_option maxRecDepth 100000
set_option maxHeartbeats 4000000
set_option exponentiation.threshold 10000
namespace Fp
open PySem PySem.Spec PyProof.Rows L2
abbrev s_times : Stmt := topS 9
theorem sc_times : FnScope ["one", "other"] ["one", "other"] (defScope s_times) := ⟨rfl, rfl, rfl, by decide +kernel, rfl, by decide +kernel, by decide +kernel⟩
section
variable {P : Program} {w : World} {K : PySem.W.Frag} {mg : Str → Option Value} {base : Heap}
theorem ok_times {f fR : Addr} {fd fdR : FuncData} (F : Fun K "times" "times" s_times f fd) (FR : Fun K "ratio" "ratio" s_ratio fR fdR) (bR : Binds K fdR ["top", "bottom"] []) (gR : mg "ratio" = some (.ref fR)) (GR : FnOk P w K mg base CX0 2 fR fdR ["top", "bottom"] spRat0) : FnOk P w K mg base CX0 3 f fd ["one", "other"] (spTwo K (fun a b c d => a * c)) := by
  refine F.ok sc_times (fun vs H Q E h => ?_) (fun cdv A outer s H vs Q E hr h => ?_)
  · obtain ⟨_, _, _, _, _, _, rfl, _⟩ := h
    rfl
  · obtain ⟨p1, p2, a, b, c, d, rfl, T, q⟩ := h
    refine ⟨_, pss_one (ps_ret (pe_call GR hr (by rfl) gR FR.kp bR .nil pass0 (pa_cons (pe_op op_mulA (pe_ix ix_tup (pv 0) pe_int (fun _ _ => rfl)) (pe_ix ix_tup (pv 1) pe_int (fun _ _ => rfl))) (pa_cons (pe_op op_mulA (pe_ix ix_tup (pv 0) pe_int (fun _ _ => rfl)) (pe_ix ix_tup (pv 1) pe_int (fun _ _ => rfl))) pa_nil)))), ?_⟩
    refine ⟨_, rfl, p1, _, 0, _, rfl, rfl, T.t1, atI_nat (j := 0) rfl, _, rfl, p2, _, 0, _, rfl, rfl, T.t2, atI_nat (j := 0) rfl, a, c, rfl, rfl, T.sa.cmul T.sc (by decide) (by decide) (by decide), _, rfl, p1, _, 1, _, rfl, rfl, T.t1, atI_nat (j := 1) rfl, _, rfl, p2, _, 1, _, rfl, rfl, T.t2, atI_nat (j := 1) rfl, b, d, rfl, rfl, T.sb.cmul T.sd (by decide) (by decide) (by decide), ?_⟩
    exact ⟨_, _, rfl, (T.sb.mul T.sd).mono (by decide), Int.ne_of_gt T.den, q⟩
end

end Fp

set_option Elab.async false
set_option linter.all false
set_option maxRecDepth 100000
set_option maxHeartbeats 4000000
set_option exponentiation.threshold 10000
namespace Fp
open PySem PySem.Spec PyProof.Rows L2
abbrev s_over : Stmt := topS 10
theorem sc_over : FnScope ["one", "other"] ["one", "other"] (defScope s_over) := ⟨rfl, rfl, rfl, by decide +kernel, rfl, by decide +kernel, by decide +kernel⟩
section
variable {P : Program} {w : World} {K : PySem.W.Frag} {mg : Str → Option Value} {base : Heap}
def spOver0 (K : PySem.W.Frag) : Sp := fun vs H Q _ => ∃ (p1 p2 : Addr) (a b c d : Int), vs = [.ref p1, .ref p2] ∧ Two K H p1 p2 a b c d ∧ b * c ≠ 0 ∧
  ∀ p, H p = none → Q (.ref p) (upd H p (.tup [.int (ratT (a * d) (b * c)), .int (ratB (a * d) (b * c))]))
theorem ok_over {f fR : Addr} {fd fdR : FuncData} (F : Fun K "over" "over" s_over f fd) (FR : Fun K "ratio" "ratio" s_ratio fR fdR) (bR : Binds K fdR ["top", "bottom"] []) (gR : mg "ratio" = some (.ref fR)) (GR : FnOk P w K mg base CX0 2 fR fdR ["top", "bottom"] spRat0) : FnOk P w K mg base CX0 3 f fd ["one", "other"] (spOver0 K) := by
  refine F.ok sc_over (fun vs H Q E h => ?_) (fun cdv A outer s H vs Q E hr h => ?_)
  · obtain ⟨_, _, _, _, _, _, rfl, _⟩ := h
    rfl
  · obtain ⟨p1, p2, a, b, c, d, rfl, T, ne, q⟩ := h
    refine ⟨_, pss_one (ps_ret (pe_call GR hr (by rfl) gR FR.kp bR .nil pass0 (pa_cons (pe_op op_mulA (pe_ix ix_tup (pv 0) pe_int (fun _ _ => rfl)) (pe_ix ix_tup (pv 1) pe_int (fun _ _ => rfl))) (pa_cons (pe_op op_mulA (pe_ix ix_tup (pv 0) pe_int (fun _ _ => rfl)) (pe_ix ix_tup (pv 1) pe_int (fun _ _ => rfl))) pa_nil)))), ?_⟩
    refine ⟨_, rfl, p1, _, 0, _, rfl, rfl, T.t1, atI_nat (j := 0) rfl, _, rfl, p2, _, 1, _, rfl, rfl, T.t2, atI_nat (j := 1) rfl, a, d, rfl, rfl, T.sa.cmul T.sd (by decide) (by decide) (by decide), _, rfl, p1, _, 1, _, rfl, rfl, T.t1, atI_nat (j := 1) rfl, _, rfl, p2, _, 0, _, rfl, rfl, T.t2, atI_nat (j := 0) rfl, b, c, rfl, rfl, T.sb.cmul T.sc (by decide) (by decide) (by decide), ?_⟩
    exact ⟨_, _, rfl, (T.sb.mul T.sc).mono (by decide), ne, q⟩
end

end Fp

set_option Elab.async false
set_option linter.all false
set_option maxRecDepth 100000
set_option maxHeartbeats 4000000
set_option exponentiation.threshold 10000
namespace Fp
open PySem PySem.Spec PyProof.Rows L2
/-! ### the feed of draws -/
abbrev s_feed : Stmt := topS 40
abbrev s_draw : Stmt := topS 41
theorem sc_feed : FnScope ["_law_script"] ["_law_script"] (defScope s_feed) := ⟨rfl, rfl, rfl, by decide +kernel, rfl, by decide +kernel, by decide +kernel⟩
theorem sc_draw : FnScope ["_law_feed_here", "_law_many", "_law_turn", "_law_digit", "_law_at", "_law_cells", "_law_cell", "_law_mixed"] ["_law_feed_here", "_law_many"] (defScope s_draw) := ⟨rfl, rfl, rfl, by decide +kernel, rfl, by decide +kernel, by decide +kernel⟩
def feedL (c : Addr) (a l t : Int) : List (Key × V) := [(.inr "cells", .ref c), (.inr "at", .int a), (.inr "left", .int l), (.inr "turn", .int t)]
theorem feed_at (c : Addr) (a l t : Int) : valV (feedL c a l t) (.inr "at") = some (.int a) := rfl
theorem feed_cells (c : Addr) (a l t : Int) : valV (feedL c a l t) (.inr "cells") = some (.ref c) := rfl
theorem feed_left (c : Addr) (a l t : Int) : valV (feedL c a l t) (.inr "left") = some (.int l) := rfl
theorem feed_turn (c : Addr) (a l t : Int) : valV (feedL c a l t) (.inr "turn") = some (.int t) := rfl
theorem put_at (c : Addr) (a l t x : Int) : putK (feedL c a l t) (.inr "at") (.int x) = feedL c x l t := rfl
theorem put_left (c : Addr) (a l t x : Int) : putK (feedL c a l t) (.inr "left") (.int x) = feedL c a x t := rfl
theorem put_turn (c : Addr) (a l t x : Int) : putK (feedL c a l t) (.inr "turn") (.int x) = feedL c a l x := rfl
theorem feed_len (c : Addr) (a l t : Int) : (feedL c a l t).length < sizeLine := by show 4 < sizeLine; decide
theorem feed_merge (c : Addr) : mergeK [] (feedL c 0 0 0) = feedL c 0 0 0 := rfl
/-- at d a feed that has told t draws -/
def Feed (H : Hp) (d c : Addr) (t : Int) : Prop := ∃ (a l : Int) (ns : List Int), H d = some (.dK (feedL c a l t)) ∧ H c = some (.lst (ns.map V.int)) ∧ 0 ≤ t
/-- all but d as it was -/
def Keep (d : Addr) (H H' : Hp) : Prop := ∀ b o, b ≠ d → H b = some o → H' b = some o
theorem Keep.trans {d : Addr} {H H1 H2 : Hp} (a : Keep d H H1) (b : Keep d H1 H2) : Keep d H H2 := fun c o n z => b c o n (a c o n z)
theorem Keep.of_same {d : Addr} {H H' : Hp} (a : Same H H') : Keep d H H' := fun b o _ z => a b o z
theorem Keep.upd {d : Addr} {H : Hp} {o : HO} : Keep d H (upd H d o) := fun b x n z => by rw [upd_ne n]; exact z
theorem Feed.same {H H' : Hp} {d c : Addr} {t : Int} (f : Feed H d c t) (e : Same H H') : Feed H' d c t := by
  obtain ⟨a, l, ns, h1, h2, h3⟩ := f
  exact ⟨a, l, ns, e _ _ h1, e _ _ h2, h3⟩
theorem Feed.wr {H : Hp} {d c p : Addr} {t : Int} {o : HO} (f : Feed H d c t) (h1 : p ≠ d) (h2 : p ≠ c) : Feed (upd H p o) d c t := by
  obtain ⟨a, l, ns, e1, e2, e3⟩ := f
  exact ⟨a, l, ns, by rw [upd_ne h1.symm]; exact e1, by rw [upd_ne h2.symm]; exact e2, e3⟩
theorem Feed.ne {H : Hp} {d c p : Addr} {t : Int} {o : HO} (f : Feed H d c t) (h : H p = some o) (n : ∀ kvs, o ≠ .dK kvs) : p ≠ d := by
  obtain ⟨a, l, ns, h1, _⟩ := f
  exact ne_of h h1 (n _)
theorem Feed.nd {H : Hp} {d c p : Addr} {t : Int} (f : Feed H d c t) (h : H p = none) : p ≠ d := by
  obtain ⟨a, l, ns, h1, _⟩ := f
  exact (ne_of_none h1 h).symm
theorem Feed.nc {H : Hp} {d c p : Addr} {t : Int} (f : Feed H d c t) (h : H p = none) : p ≠ c := by
  obtain ⟨a, l, ns, _, h1, _⟩ := f
  exact (ne_of_none h1 h).symm
theorem Feed.new {H : Hp} {d c p : Addr} {t : Int} {o : HO} (f : Feed H d c t) (n : H p = none) : Feed (upd H p o) d c t := f.same (same_new n)
theorem keep_at {d c p : Addr} {H H' : Hp} {t : Int} {o : HO} (f : Feed H d c t) (k : Keep d H H') (h : H p = some o) (n : ∀ kvs, o ≠ .dK kvs) : H' p = some o := k p o (f.ne h n) h
theorem keep_new {d p : Addr} {H H' : Hp} {o : HO} (n : H p = none) (k : Keep d (upd H p o) H') : Keep d H H' := (Keep.of_same (same_new n)).trans k
theorem Keep.none {d c p : Addr} {t : Int} {H H' : Hp} (k : Keep d H H') (f : Feed H' d c t) (n : H' p = none) : H p = none := by
  match z : H p with
  | Option.none => rfl
  | some o =>
    have := k p o (f.nd n) z
    rw [n] at this
    cases this
/-- what was not there when k began may be written -/
theorem Keep.wr {d p : Addr} {H H' : Hp} {o : HO} (k : Keep d H H') (n : H p = Option.none) : Keep d H (L2.upd H' p o) := fun b x hb z => by
  rw [upd_ne (ne_of_none z n)]
  exact k b x hb z
theorem Keep.refl {d : Addr} {H : Hp} : Keep d H H := fun _ _ _ z => z
theorem sqT_keep {K : PySem.W.Frag} {H H' : Hp} {a d c : Addr} {t : Int} {xs : List V} (f : Feed H d c t) (e : Keep d H H') (h : SqT K H a xs) : SqT K H' a xs := by
  obtain ⟨x, l, ns, h1, _⟩ := f
  rcases h with (h | ⟨o, h⟩) | h
  · exact .inl (.inl (e _ _ (ne_of h h1 (by intro z; cases z)) h))
  · exact .inl (.inr ⟨o, e _ _ (ne_of h h1 (by intro z; cases z)) h⟩)
  · exact .inr h
theorem cut_ints (ns : List Int) (lo hi : Option Int) : ∃ ms : List Int, cutV (ns.map V.int) lo hi = ms.map V.int := by
  unfold cutV
  exact ⟨_, by rw [← List.map_drop, ← List.map_take]⟩
theorem dpAll_ints {K : PySem.W.Frag} {H : Hp} : ∀ ns : List Int, DpAll K H (ns.map V.int) (ns.map PyData.int)
  | [] => .nil
  | n :: r => .cons (.int n) (dpAll_ints r)
theorem canLay_ints : ∀ ns : List Int, PyData.canLayAll0 (ns.map PyData.int) = true
  | [] => rfl
  | n :: r => by
    show (PyData.canLay0 (.int n) && PyData.canLayAll0 (r.map PyData.int)) = true
    rw [canLay_ints r]
    rfl
theorem depth_ints : ∀ ns : List Int, PyData.depthAll (ns.map PyData.int) = 0
  | [] => rfl
  | n :: r => by
    show max (PyData.depth (.int n)) (PyData.depthAll (r.map PyData.int)) = 0
    rw [depth_ints r]
    rfl
theorem shaped_ints (ns : List Int) : SeqAt.shaped (.list (ns.map PyData.int)) = true := by
  unfold SeqAt.shaped
  have h1 : PyData.canLay0 (.list (ns.map PyData.int)) = true := by
    show PyData.canLayAll0 (ns.map PyData.int) = true
    exact canLay_ints ns
  have h2 : (PyData.list (ns.map PyData.int)).depth = 1 := by
    show PyData.depthAll (ns.map PyData.int) + 1 = 1
    rw [depth_ints]
  rw [h1, h2]
  rfl
theorem eqv_nil (ns : List Int) : PyData.eqv (.list (ns.map PyData.int)) (.list []) = ns.isEmpty := by
  cases ns with
  | nil => rfl
  | cons n r => rfl

section
variable {P : Program} {w : World} {K : PySem.W.Frag} {mg : Str → Option Value} {base : Heap}
def spFeed (K : PySem.W.Frag) : Sp := fun vs H Q _ => ∃ (a : Addr) (ns : List Int), vs = [.ref a] ∧ SqL K H a (ns.map V.int) ∧ ∀ d c H', Same H H' → Feed H' d c 0 → Q (.ref d) H'
theorem ok_feed {f : Addr} {fd : FuncData} {k : Nat} (F : Fun K "_law_feed" "_law_feed" s_feed f fd) (ml : mg "list" = none) : FnOk P w K mg base CX0 (k + 1) f fd ["_law_script"] (spFeed K) := by
  refine F.ok sc_feed (fun vs H Q E h => ?_) (fun cdv A outer s H vs Q E hr h => ?_)
  · obtain ⟨a, ns, rfl, _⟩ := h
    rfl
  · obtain ⟨a, ns, rfl, hS, q⟩ := h
    refine ⟨_, pss_one (ps_ret (pe_disp (pps_cons pe_str (pe_callTy call_list_of (by rfl) ml (by decide +kernel) (pa_cons (pe_slice sl_list (pv 0) po_none (po_some pe_int)) pa_nil))
      (pps_cons pe_str pe_int (pps_cons pe_str pe_int (pps_cons pe_str pe_int pps_nil)))) (by rfl) (by rfl) (fun z => by cases z) (by decide))), ?_⟩
    refine fun d nd => ?_
    have s1 : Same H (upd H d (.dK [])) := same_new nd
    obtain ⟨ms, em⟩ := cut_ints ns none (some 63)
    refine ⟨_, rfl, 63, rfl, a, ns.map V.int, rfl, s1.seq hS, fun x nx => ?_⟩
    have s2 := same_new (o := HO.lst (cutV (ns.map V.int) none (some 63))) nx
    refine ⟨x, _, rfl, .inl (SqL.of upd_same), fun c nc => ?_⟩
    have s3 := same_new (o := HO.lst (cutV (ns.map V.int) none (some 63))) nc
    refine ⟨?_, feedL c 0 0 0, rfl, by show 4 ≤ 15; decide, ?_⟩
    · exact s3 _ _ (s2 _ _ upd_same)
    · rw [feed_merge]
      have ncd : c ≠ d := fun z => by
        rw [z] at nc
        exact absurd nc (by rw [s2 _ _ upd_same]; exact fun z => nomatch z)
      refine q d c _ (fun b o z => ?_) ⟨0, 0, ms, upd_same, ?_, by decide⟩
      · have nb : b ≠ d := ne_of_none z nd
        rw [upd_ne nb]
        exact s3 _ _ (s2 _ _ (s1 _ _ z))
      · rw [upd_ne ncd, upd_same, em]
def spDraw : Sp := fun vs H Q _ => ∃ (d c : Addr) (many t : Int), vs = [.ref d, .int many] ∧ Feed H d c t ∧ t ≤ 1000000 ∧ 0 < many ∧ many < 1073741824 ∧
  ∀ r H', 0 ≤ r → r < many → Keep d H H' → Feed H' d c (t + 1) → Q (.int r) H'
theorem ok_draw {f : Addr} {fd : FuncData} {k : Nat} (F : Fun K "_law_draw" "_law_draw" s_draw f fd) (ml : mg "len" = none) : FnOk P w K mg base CX0 (k + 1) f fd ["_law_feed_here", "_law_many"] spDraw := by
  refine F.ok sc_draw (fun vs H Q E h => ?_) (fun cdv A outer s H vs Q E hr h => ?_)
  · obtain ⟨_, _, _, _, rfl, _⟩ := h
    rfl
  · obtain ⟨d, c, many, t, rfl, ⟨a, l, ns, hd, hc, ht0⟩, ht, hm0, hm1, q⟩ := h
    have hu := hu_of hr
    refine ⟨_, pss_cons (ps_set (i := 2) sc_draw.nd rfl (.inl rfl) (pe_op op_add (pe_dget hu (pv 0) pe_str (fun _ _ => rfl)) pe_int))
      (pss_cons (ps_dput hu (pv 0) pe_str (pv 2) rfl)
      (pss_cons (ps_if (pt_cmpR op_gt (pe_dget hu (pv 0) pe_str (fun _ _ => rfl)) pe_int (nomark _))
        (pss_cons (ps_set (i := 3) sc_draw.nd rfl (.inl rfl) (pe_op op_modN (pe_dget hu (pv 0) pe_str (fun _ _ => rfl)) (pv 1)))
        (pss_cons (ps_dput hu (pv 0) pe_str (pe_op op_fdiv (pe_dget hu (pv 0) pe_str (fun _ _ => rfl)) (pv 1)) rfl)
        (pss_one (ps_ret (pv 3))))) pss_nil)
      (pss_cons (ps_par (i := 4) (j := 5) rfl sc_draw.nd rfl rfl (by decide) rfl rfl (pa_cons (pe_dget hu (pv 0) pe_str (fun _ _ => rfl)) (pa_cons (pe_dget hu (pv 0) pe_str (fun _ _ => rfl)) pa_nil)) (by rfl))
      (pss_cons (ps_dput hu (pv 0) pe_str (pe_op op_add (pv 4) pe_int) rfl)
      (pss_cons (ps_set (i := 6) sc_draw.nd rfl (.inl rfl) (pe_ifExp (pt_cmpR (op_neD hr.units) (pv 5) (pe_lst pa_nil) (nomark _))
          (pe_ix ix_list (pv 5) (pe_op op_modN (pv 4) (pe_callB call_len_seq (by rfl) ml PySem.boot_len (pa_cons (pv 5) pa_nil))) (fun _ _ => rfl)) pe_int))
      (pss_cons (ps_if (PW.pt (pw_and (pt_cmpR op_ge (pv 6) (pe_op op_pow pe_int pe_int) (nomark _)) (pw_and1 (pt_cmpR op_lt (pv 4) (pe_callB call_len_seq (by rfl) ml PySem.boot_len (pa_cons (pv 5) pa_nil)) (nomark _)))))
        (pss_cons (ps_dput hu (pv 0) pe_str (pe_op op_fdiv (pv 6) (pv 1)) rfl) (pss_one (ps_ret (pe_op op_modN (pv 6) (pv 1))))) pss_nil)
      (pss_cons (ps_set (i := 7) sc_draw.nd rfl (.inl rfl) (pe_op op_modN (pe_op op_pow (pe_op op_add (pe_op op_modN (pv 6) pe_int) (pe_op op_mul pe_int (pv 2))) pe_int) pe_int))
      (pss_one (ps_ret (pe_op op_modN (pe_op op_fdiv (pe_op op_modN (pe_op op_mul (pv 7) (pe_op op_add (pe_op op_mul pe_int (pv 2)) pe_int)) pe_int) pe_int) (pv 1))))))))))), ?_⟩
    have ndc : c ≠ d := ne_of hc hd (by intro z; cases z)
    have mod_ok : ∀ x : Int, 0 ≤ x.fmod many ∧ x.fmod many < many := fun x => ⟨Int.fmod_nonneg_of_pos x hm0, Int.fmod_lt_of_pos x hm0⟩
    -- turn
    refine ⟨_, rfl, d, _, rfl, .inl ⟨_, .inr "turn", .inl hd, rfl, feed_turn c a l t⟩, t, 1, rfl, rfl, ?_⟩
    refine ⟨_, rfl, _, rfl, d, _, rfl, DPut.k (k := .inr "turn") hd (feed_len c a l t), ?_⟩
    rw [put_turn]
    -- left
    refine ⟨_, rfl, d, _, rfl, .inl ⟨_, .inr "left", .inl upd_same, rfl, feed_left c a l (t + 1)⟩, l, 0, rfl, rfl, _, rfl, ite2 (fun cl => ?_) (fun cl => ?_)⟩
    · refine ⟨_, rfl, d, _, rfl, .inl ⟨_, .inr "left", .inl upd_same, rfl, feed_left c a l (t + 1)⟩, _, rfl, l, many, rfl, rfl, Int.ne_of_gt hm0, ?_⟩
      refine ⟨_, rfl, d, _, rfl, .inl ⟨_, .inr "left", .inl upd_same, rfl, feed_left c a l (t + 1)⟩, _, rfl, l, many, rfl, rfl, ⟨hm0, hm1⟩, _, rfl, d, _, rfl, DPut.k (k := .inr "left") upd_same (feed_len c a l (t + 1)), ?_⟩
      rw [put_left, upd_upd]
      refine ⟨_, rfl, q _ _ (mod_ok l).1 (mod_ok l).2 Keep.upd ⟨a, _, ns, upd_same, ?_, by omega⟩⟩
      rw [upd_ne ndc]
      exact hc
    · refine ⟨_, rfl, d, _, rfl, .inl ⟨_, .inr "at", .inl upd_same, rfl, feed_at c a l (t + 1)⟩, _, rfl, d, _, rfl, .inl ⟨_, .inr "cells", .inl upd_same, rfl, feed_cells c a l (t + 1)⟩, _, _, rfl, ?_⟩
      refine ⟨_, rfl, a, 1, rfl, rfl, _, rfl, d, _, rfl, DPut.k (k := .inr "at") upd_same (feed_len c a l (t + 1)), ?_⟩
      rw [put_at, upd_upd]
      have hc2 : upd H d (.dK (feedL c (a + 1) l (t + 1))) c = some (.lst (ns.map V.int)) := by
        rw [upd_ne ndc]
        exact hc
      -- cells != []
      refine ⟨_, rfl, Nat.zero_le _, fun e ne => ?_⟩
      have s1 := same_new (o := HO.lst []) ne
      have hc3 := s1 _ _ hc2
      have hd3 := s1 _ _ (upd_same (H := H) (a := d) (o := .dK (feedL c (a + 1) l (t + 1))))
      have k3 : Keep d H (upd (upd H d (.dK (feedL c (a + 1) l (t + 1)))) e (.lst [])) := Keep.upd.trans (Keep.of_same s1)
      refine ⟨.list (ns.map PyData.int), .list [], .lst (SqL.of hc3) (dpAll_ints ns), .lst (SqL.of upd_same) .nil, shaped_ints ns, rfl, _, rfl, ?_⟩
      rw [eqv_nil]
      -- behind the cell
      have rest : ∀ cell : Int, tSeq (tIfS (tAnd (tTest (tOp (rI0 fun i j => .bl (decide (j ≤ i))) (tVar 6) (tOp (rI CPow fun i j => .int (i ^ j.toNat)) (tC (.int 10)) (tC (.int 18))))) (tTest (tOp (rI0 fun i j => .bl (decide (i < j))) (tVar 4) (tCB (fun xs H Q => ∃ p ys, xs = [.ref p] ∧ (SqL K H p ys ∨ SqT K H p ys) ∧ Q (.int ys.length) H) (tCons (tVar 5) tNil)))))
          (tSeq (sDPut (tVar 0) (tC (.str "left")) (tOp (rI CDiv fun i j => .int (i / j)) (tVar 6) (tVar 1))) (tRet (tOp (rI (fun _ j => j ≠ 0) fun i j => .int (i.fmod j)) (tVar 6) (tVar 1)))) tNext)
          (tSeq (tAsg (tOp (rI (fun _ j => j ≠ 0) fun i j => .int (i.fmod j)) (tOp (rI CPow fun i j => .int (i ^ j.toNat)) (tOp (rI0 fun i j => .int (i + j)) (tOp (rI (fun _ j => j ≠ 0) fun i j => .int (i.fmod j)) (tVar 6) (tC (.int 999983))) (tOp (rI CMul fun i j => .int (i * j)) (tC (.int 7919)) (tVar 2))) (tC (.int 5))) (tC (.int 2305843009213693951))) (gName 7))
          (tRet (tOp (rI (fun _ j => j ≠ 0) fun i j => .int (i.fmod j)) (tOp (rI CDiv fun i j => .int (i / j)) (tOp (rI (fun _ j => j ≠ 0) fun i j => .int (i.fmod j)) (tOp (rI CMul fun i j => .int (i * j)) (tVar 7) (tOp (rI0 fun i j => .int (i + j)) (tOp (rI CMul fun i j => .int (i * j)) (tC (.int 2)) (tVar 2)) (tC (.int 104729)))) (tC (.int 2147483629))) (tC (.int 64))) (tVar 1))))
          { nx := fun _ H' => Q .non H', rt := Q } [some (.ref d), some (.int many), some (.int (t + 1)), none, some (.int a), some (.ref c), some (.int cell), none] (upd (upd H d (.dK (feedL c (a + 1) l (t + 1)))) e (.lst [])) := by
        intro cell
        have fin : tSeq (tAsg (tOp (rI (fun _ j => j ≠ 0) fun i j => .int (i.fmod j)) (tOp (rI CPow fun i j => .int (i ^ j.toNat)) (tOp (rI0 fun i j => .int (i + j)) (tOp (rI (fun _ j => j ≠ 0) fun i j => .int (i.fmod j)) (tVar 6) (tC (.int 999983))) (tOp (rI CMul fun i j => .int (i * j)) (tC (.int 7919)) (tVar 2))) (tC (.int 5))) (tC (.int 2305843009213693951))) (gName 7))
          (tRet (tOp (rI (fun _ j => j ≠ 0) fun i j => .int (i.fmod j)) (tOp (rI CDiv fun i j => .int (i / j)) (tOp (rI (fun _ j => j ≠ 0) fun i j => .int (i.fmod j)) (tOp (rI CMul fun i j => .int (i * j)) (tVar 7) (tOp (rI0 fun i j => .int (i + j)) (tOp (rI CMul fun i j => .int (i * j)) (tC (.int 2)) (tVar 2)) (tC (.int 104729)))) (tC (.int 2147483629))) (tC (.int 64))) (tVar 1)))
          { nx := fun _ H' => Q .non H', rt := Q } [some (.ref d), some (.int many), some (.int (t + 1)), none, some (.int a), some (.ref c), some (.int cell), none] (upd (upd H d (.dK (feedL c (a + 1) l (t + 1)))) e (.lst [])) := by
          have hm : 0 ≤ cell.fmod 999983 ∧ cell.fmod 999983 < 999983 := ⟨Int.fmod_nonneg_of_pos _ (by decide), Int.fmod_lt_of_pos _ (by decide)⟩
          refine ⟨_, rfl, cell, 999983, rfl, rfl, by show (999983 : Int) ≠ 0; decide, _, rfl, 7919, t + 1, rfl, rfl, .inl ⟨by decide, by decide⟩, _, _, rfl, rfl, _, 5, rfl, rfl, ⟨by decide, by decide, ?_⟩, _, 2305843009213693951, rfl, rfl, by show (2305843009213693951 : Int) ≠ 0; decide, ?_⟩
          · have e64 : (2 : Nat) ^ 64 = 18446744073709551616 := by decide
            rw [e64]
            omega
          · refine ⟨_, rfl, _, rfl, 2, t + 1, rfl, rfl, .inl ⟨by decide, by decide⟩, _, 104729, rfl, rfl, _, _, rfl, rfl, .inr ⟨?_, ?_⟩, _, 2147483629, rfl, rfl, by show (2147483629 : Int) ≠ 0; decide, _, 64, rfl, rfl, ⟨by decide, by decide⟩, _, rfl, _, many, rfl, rfl, Int.ne_of_gt hm0, ?_⟩
            · have e64 : (2 : Int) ^ 64 = 18446744073709551616 := by decide
              omega
            · have e64 : (2 : Int) ^ 64 = 18446744073709551616 := by decide
              omega
            · exact q _ _ (mod_ok _).1 (mod_ok _).2 k3 ⟨a + 1, l, ns, hd3, hc3, by omega⟩
        refine ⟨_, rfl, 10, 18, rfl, rfl, ⟨by decide, by decide, by decide⟩, cell, _, rfl, rfl, _, rfl, ite2 (fun c1 => ?_) (fun c1 => iteF fin)⟩
        refine ⟨_, rfl, _, rfl, c, _, rfl, .inl (SqL.of hc3), a, _, rfl, rfl, _, rfl, ite2 (fun c2 => ?_) (fun c2 => fin)⟩
        refine ⟨_, rfl, _, rfl, cell, many, rfl, rfl, ⟨hm0, hm1⟩, _, rfl, d, _, rfl, DPut.k (k := .inr "left") hd3 (feed_len c (a + 1) l (t + 1)), ?_⟩
        rw [put_left]
        refine ⟨_, rfl, _, rfl, cell, many, rfl, rfl, Int.ne_of_gt hm0, q _ _ (mod_ok cell).1 (mod_ok cell).2 (k3.trans Keep.upd) ⟨a + 1, _, ns, upd_same, ?_, by omega⟩⟩
        rw [upd_ne ndc]
        exact hc3
      cases ns with
      | nil => exact iteF (rest 0)
      | cons n r =>
        refine iteT ?_
        have hlen : (0 : Int) < (((n :: r).map V.int).length : Nat) := by simp
        have h1 : 0 ≤ a.fmod ((((n :: r).map V.int).length : Nat) : Int) := Int.fmod_nonneg_of_pos _ hlen
        have h2 : a.fmod ((((n :: r).map V.int).length : Nat) : Int) < ((((n :: r).map V.int).length : Nat) : Int) := Int.fmod_lt_of_pos _ hlen
        have h3 : (a.fmod ((((n :: r).map V.int).length : Nat) : Int)).toNat < ((n :: r).map V.int).length := by omega
        have h4 : ∃ x, ((n :: r).map V.int)[(a.fmod ((((n :: r).map V.int).length : Nat) : Int)).toNat]? = some (.int x) := by
          rw [List.getElem?_map]
          rw [List.length_map] at h3
          rw [List.length_map, List.getElem?_eq_getElem h3]
          exact ⟨_, rfl⟩
        obtain ⟨x, hx⟩ := h4
        refine ⟨_, rfl, _, rfl, _, rfl, c, _, rfl, .inl (SqL.of hc3), a, _, rfl, rfl, Int.ne_of_gt hlen, c, _, _, _, rfl, rfl, SqL.of hc3, at_of (Int.toNat_of_nonneg h1).symm hx, rest x⟩
end

end Fp

set_option Elab.async false
set_option linter.all false
set_option maxRecDepth 100000
set_option maxHeartbeats 4000000
set_option exponentiation.threshold 10000
namespace Fp
open PySem PySem.Spec PyProof.Rows L2
abbrev s_low : Stmt := topS 42
theorem sc_low : FnScope ["_law_top", "_law_bottom", "_law_one", "_law_other"] ["_law_top", "_law_bottom"] (defScope s_low) := ⟨rfl, rfl, rfl, by decide +kernel, rfl, by decide +kernel, by decide +kernel⟩
section
variable {P : Program} {w : World} {K : PySem.W.Frag} {mg : Str → Option Value} {base : Heap}
/-! ### lowest terms by the law's own division -/
def spLow : Sp := fun vs H Q _ => ∃ t b : Int, vs = [.int t, .int b] ∧ 0 < b ∧ Sm 8000 b ∧ ∀ p, H p = none → Q (.ref p) (upd H p (.tup [.int (ratT t b), .int (ratB t b)]))
theorem ok_low {f : Addr} {fd : FuncData} {k : Nat} (F : Fun K "_law_low" "_law_low" s_low f fd) (ma : mg "abs" = none) : FnOk P w K mg base CX0 (k + 1) f fd ["_law_top", "_law_bottom"] spLow := by
  refine F.ok sc_low (fun vs H Q E h => ?_) (fun cdv A outer s H vs Q E hr h => ?_)
  · obtain ⟨a, b, rfl, _⟩ := h
    rfl
  · obtain ⟨a, b, rfl, hb, sb, q⟩ := h
    refine ⟨_, pss_cons (ps_par (i := 2) (j := 3) rfl sc_low.nd rfl rfl (by decide) rfl rfl (pa_cons (pe_callB call_abs (by rfl) ma (by decide +kernel) (pa_cons (pv 0) pa_nil)) (pa_cons (pv 1) pa_nil)) (by rfl))
      (pss_cons (ps_while PassesOwn.never (pt_cmpR op_gt (pv 3) pe_int (nomark _)) (pss_one (ps_par (i := 2) (j := 3) rfl sc_low.nd rfl rfl (by decide) rfl rfl (pa_cons (pv 3) (pa_cons (pe_op op_modN (pv 2) (pv 3)) pa_nil)) (by rfl))))
      (pss_one (ps_ret (pe_tup (pa_cons (pe_op op_fdivA (pv 0) (pv 2)) (pa_cons (pe_op op_fdivA (pv 1) (pv 2)) pa_nil)))))), ?_⟩
    refine ⟨_, rfl, a, rfl, _, rfl, _, _, rfl, ?_⟩
    refine while_by (fun σ H1 => H1 = H ∧ ∃ g s : Int, σ = [some (.int a), some (.int b), some (.int g), some (.int s)] ∧ 0 ≤ g ∧ 0 ≤ s ∧ Int.gcd g s = Int.gcd a b)
      (fun σ _ => match σ with | [_, _, _, some (.int s)] => s.toNat | _ => 0) ?_ ?_ ?_
    · refine ⟨rfl, _, _, rfl, ?_, Int.le_of_lt hb, ?_⟩
      · rw [abs_if]; omega
      · rw [abs_if]
        show Nat.gcd _ _ = Nat.gcd _ _
        rw [Int.natAbs_natCast]
    · rintro σ H1 ⟨rfl, g, s, rfl, hg, hs, e⟩
      refine ⟨_, rfl, s, 0, rfl, rfl, _, rfl, ite2 (fun c => ?_) (fun c => ?_)⟩
      · have hp : 0 < s := of_decide_eq_true c
        have lt : s > g.fmod s := Int.fmod_lt_of_pos g hp
        have nn : 0 ≤ g.fmod s := Int.fmod_nonneg_of_pos g hp
        refine ⟨_, rfl, _, rfl, _, rfl, g, s, rfl, rfl, Int.ne_of_gt hp, _, _, rfl, ⟨rfl, s, g.fmod s, rfl, hs, nn, ?_⟩, ?_⟩
        · rw [gcd_turn hp hg]; exact e
        · show (g.fmod s).toNat < s.toNat
          omega
      · have hs0 : s = 0 := by
          have : ¬ 0 < s := fun z => c (decide_eq_true z)
          omega
        subst hs0
        have eg : g = ratG a b := by
          unfold ratG
          rw [if_neg (by omega), ← e, Int.gcd_zero_right]
          omega
        obtain ⟨c1, c2⟩ := ratG_ok (t := a) (Int.ne_of_gt hb) sb (by decide) (by decide)
        rw [eg]
        exact ⟨_, rfl, _, rfl, a, _, rfl, rfl, c1, _, rfl, _, rfl, b, _, rfl, rfl, c2, by show 2 ≤ sizeLine; decide, q⟩
    · intro σ H1 Q1 Q2 hq h
      obtain ⟨v, e1, i, j, e2, e3, k, e4, h⟩ := h
      exact ⟨v, e1, i, j, e2, e3, k, e4, hq _ _ h⟩
/-- what comes of lowest terms is no greater -/
theorem fdiv_le {x g : Int} (hg : 0 < g) (hd : g ∣ x) : (x.fdiv g).natAbs ≤ x.natAbs := by
  obtain ⟨y, rfl⟩ := hd
  rw [Int.mul_fdiv_cancel_left y (Int.ne_of_gt hg), Int.natAbs_mul]
  have : 1 ≤ g.natAbs := by omega
  exact Nat.le_mul_of_pos_left _ this
theorem ratG_pos {t b : Int} (hb : 0 < b) : 0 < ratG t b ∧ ratG t b ∣ t ∧ ratG t b ∣ b := by
  have e : ratG t b = ((Int.gcd t b : Nat) : Int) := by
    unfold ratG
    rw [if_neg (by omega)]
  rw [e]
  have := (gcd_le (t := t) (Int.ne_of_gt hb)).1
  exact ⟨by omega, Int.gcd_dvd_left .., Int.gcd_dvd_right ..⟩
theorem ratT_sm {t b : Int} {n : Nat} (hb : 0 < b) (h : Sm n t) : Sm n (ratT t b) := by
  obtain ⟨h1, h2, _⟩ := ratG_pos (t := t) hb
  exact Nat.lt_of_le_of_lt (fdiv_le h1 h2) h
theorem ratB_sm {t b : Int} {n : Nat} (hb : 0 < b) (h : Sm n b) : Sm n (ratB t b) := by
  obtain ⟨h1, _, h2⟩ := ratG_pos (t := t) hb
  exact Nat.lt_of_le_of_lt (fdiv_le h1 h2) h
theorem ratB_pos {t b : Int} (hb : 0 < b) : 0 < ratB t b := by
  obtain ⟨h1, _, y, hy⟩ := ratG_pos (t := t) hb
  unfold ratB
  have e : b.fdiv (ratG t b) = y := by
    have := Int.mul_fdiv_cancel_left y (Int.ne_of_gt h1)
    rw [← hy] at this
    exact this
  rw [e]
  rcases Int.lt_trichotomy y 0 with z | z | z
  · have := Int.mul_neg_of_pos_of_neg h1 z
    omega
  · rw [z, Int.mul_zero] at hy
    omega
  · exact z
end

end Fp

set_option Elab.async false
set_option linter.all false
set_option maxRecDepth 100000
set_option maxHeartbeats 4000000
set_option exponentiation.threshold 10000
namespace Fp
open PySem PySem.Spec PyProof.Rows L2
abbrev s_ltimes : Stmt := topS 44
theorem sc_ltimes : FnScope ["_law_one", "_law_other"] ["_law_one", "_law_other"] (defScope s_ltimes) := ⟨rfl, rfl, rfl, by decide +kernel, rfl, by decide +kernel, by decide +kernel⟩
section
variable {P : Program} {w : World} {K : PySem.W.Frag} {mg : Str → Option Value} {base : Heap}
theorem ok_ltimes {f fR : Addr} {fd fdR : FuncData} (F : Fun K "_law_times" "_law_times" s_ltimes f fd) (FR : Fun K "_law_low" "_law_low" s_low fR fdR) (bR : Binds K fdR ["_law_top", "_law_bottom"] []) (gR : mg "_law_low" = some (.ref fR)) (GR : FnOk P w K mg base CX0 1 fR fdR ["_law_top", "_law_bottom"] spLow) : FnOk P w K mg base CX0 2 f fd ["_law_one", "_law_other"] (spTwo K (fun a b c d => a * c)) := by
  refine F.ok sc_ltimes (fun vs H Q E h => ?_) (fun cdv A outer s H vs Q E hr h => ?_)
  · obtain ⟨_, _, _, _, _, _, rfl, _⟩ := h
    rfl
  · obtain ⟨p1, p2, a, b, c, d, rfl, T, q⟩ := h
    refine ⟨_, pss_one (ps_ret (pe_call GR hr (by rfl) gR FR.kp bR .nil pass0 (pa_cons (pe_op op_mulA (pe_ix ix_tup (pv 0) pe_int (fun _ _ => rfl)) (pe_ix ix_tup (pv 1) pe_int (fun _ _ => rfl))) (pa_cons (pe_op op_mulA (pe_ix ix_tup (pv 0) pe_int (fun _ _ => rfl)) (pe_ix ix_tup (pv 1) pe_int (fun _ _ => rfl))) pa_nil)))), ?_⟩
    refine ⟨_, rfl, p1, _, 0, _, rfl, rfl, T.t1, atI_nat (j := 0) rfl, _, rfl, p2, _, 0, _, rfl, rfl, T.t2, atI_nat (j := 0) rfl, a, c, rfl, rfl, T.sa.cmul T.sc (by decide) (by decide) (by decide), _, rfl, p1, _, 1, _, rfl, rfl, T.t1, atI_nat (j := 1) rfl, _, rfl, p2, _, 1, _, rfl, rfl, T.t2, atI_nat (j := 1) rfl, b, d, rfl, rfl, T.sb.cmul T.sd (by decide) (by decide) (by decide), ?_⟩
    exact ⟨_, _, rfl, T.den, (T.sb.mul T.sd).mono (by decide), q⟩
end

end Fp

set_option Elab.async false
set_option linter.all false
set_option maxRecDepth 100000
set_option maxHeartbeats 4000000
set_option exponentiation.threshold 10000
namespace Fp
open PySem PySem.Spec PyProof.Rows L2
abbrev s_lless : Stmt := topS 45
theorem sc_lless : FnScope ["_law_one", "_law_other"] ["_law_one", "_law_other"] (defScope s_lless) := ⟨rfl, rfl, rfl, by decide +kernel, rfl, by decide +kernel, by decide +kernel⟩
section
variable {P : Program} {w : World} {K : PySem.W.Frag} {mg : Str → Option Value} {base : Heap}
theorem ok_lless {f fR : Addr} {fd fdR : FuncData} (F : Fun K "_law_less" "_law_less" s_lless f fd) (FR : Fun K "_law_low" "_law_low" s_low fR fdR) (bR : Binds K fdR ["_law_top", "_law_bottom"] []) (gR : mg "_law_low" = some (.ref fR)) (GR : FnOk P w K mg base CX0 1 fR fdR ["_law_top", "_law_bottom"] spLow) : FnOk P w K mg base CX0 2 f fd ["_law_one", "_law_other"] (spTwo K (fun a b c d => a * d - c * b)) := by
  refine F.ok sc_lless (fun vs H Q E h => ?_) (fun cdv A outer s H vs Q E hr h => ?_)
  · obtain ⟨_, _, _, _, _, _, rfl, _⟩ := h
    rfl
  · obtain ⟨p1, p2, a, b, c, d, rfl, T, q⟩ := h
    refine ⟨_, pss_one (ps_ret (pe_call GR hr (by rfl) gR FR.kp bR .nil pass0 (pa_cons (pe_op op_sub (pe_op op_mulA (pe_ix ix_tup (pv 0) pe_int (fun _ _ => rfl)) (pe_ix ix_tup (pv 1) pe_int (fun _ _ => rfl))) (pe_op op_mulA (pe_ix ix_tup (pv 1) pe_int (fun _ _ => rfl)) (pe_ix ix_tup (pv 0) pe_int (fun _ _ => rfl)))) (pa_cons (pe_op op_mulA (pe_ix ix_tup (pv 0) pe_int (fun _ _ => rfl)) (pe_ix ix_tup (pv 1) pe_int (fun _ _ => rfl))) pa_nil)))), ?_⟩
    refine ⟨_, rfl, p1, _, 0, _, rfl, rfl, T.t1, atI_nat (j := 0) rfl, _, rfl, p2, _, 1, _, rfl, rfl, T.t2, atI_nat (j := 1) rfl, a, d, rfl, rfl, T.sa.cmul T.sd (by decide) (by decide) (by decide), _, rfl, p2, _, 0, _, rfl, rfl, T.t2, atI_nat (j := 0) rfl, _, rfl, p1, _, 1, _, rfl, rfl, T.t1, atI_nat (j := 1) rfl, c, b, rfl, rfl, T.sc.cmul T.sb (by decide) (by decide) (by decide), _, _, rfl, rfl, _, rfl, p1, _, 1, _, rfl, rfl, T.t1, atI_nat (j := 1) rfl, _, rfl, p2, _, 1, _, rfl, rfl, T.t2, atI_nat (j := 1) rfl, b, d, rfl, rfl, T.sb.cmul T.sd (by decide) (by decide) (by decide), ?_⟩
    exact ⟨_, _, rfl, T.den, (T.sb.mul T.sd).mono (by decide), q⟩
end

end Fp

set_option Elab.async false
set_option linter.all false
set_option maxRecDepth 100000
set_option maxHeartbeats 4000000
set_option exponentiation.threshold 10000
namespace Fp
open PySem PySem.Spec PyProof.Rows L2
theorem tC_go {v : V} {σ : L2.St} {H : Hp} {Q : VK} (h : Q v H) : tC v σ H Q := h
theorem tYes_go {σ : L2.St} {H : Hp} {Q : Bool → Hp → Prop} (h : Q true H) : tYes σ H Q := h
/-! ### lives as they stand in the heap -/
abbrev RT := Int × Int
def RAt (K : PySem.W.Frag) (H : Hp) (p : Addr) (x : RT) : Prop := SqT K H p [.int x.1, .int x.2]
inductive RsAt (K : PySem.W.Frag) (H : Hp) : List Addr → List RT → Prop
  | nil : RsAt K H [] []
  | cons {p : Addr} {x : RT} {ps : List Addr} {xs : List RT} : RAt K H p x → RsAt K H ps xs → RsAt K H (p :: ps) (x :: xs)
def RowAt (K : PySem.W.Frag) (H : Hp) (p : Addr) (xs : List RT) : Prop := ∃ rs : List Addr, SqT K H p (rs.map V.ref) ∧ RsAt K H rs xs
def LifeAt (K : PySem.W.Frag) (H : Hp) (p : Addr) (row : List RT) (step : RT) : Prop := ∃ pr ps : Addr, SqT K H p [.ref pr, .ref ps] ∧ RowAt K H pr row ∧ RAt K H ps step
/-- tuples stay -/
def Tk (K : PySem.W.Frag) (H H' : Hp) : Prop := ∀ a xs, SqT K H a xs → SqT K H' a xs
section
variable {K : PySem.W.Frag} {H H' H2 : Hp}
theorem Tk.refl : Tk K H H := fun _ _ h => h
theorem Tk.trans (a : Tk K H H') (b : Tk K H' H2) : Tk K H H2 := fun p xs h => b p xs (a p xs h)
theorem Tk.same (e : Same H H') : Tk K H H' := fun _ _ h => sqT_same e h
theorem Tk.new {p : Addr} {o : HO} (n : H p = none) : Tk K H (upd H p o) := Tk.same (same_new n)
theorem Tk.keep {d c : Addr} {t : Int} (f : Feed H d c t) (e : Keep d H H') : Tk K H H' := fun _ _ h => sqT_keep f e h
theorem RAt.tk {p : Addr} {x : RT} (h : RAt K H p x) (e : Tk K H H') : RAt K H' p x := e _ _ h
theorem RsAt.tk : ∀ {ps : List Addr} {xs : List RT}, RsAt K H ps xs → Tk K H H' → RsAt K H' ps xs
  | _, _, .nil, _ => .nil
  | _, _, .cons h r, e => .cons (h.tk e) (r.tk e)
theorem RowAt.tk {p : Addr} {xs : List RT} (h : RowAt K H p xs) (e : Tk K H H') : RowAt K H' p xs := by
  obtain ⟨rs, h1, h2⟩ := h
  exact ⟨rs, e _ _ h1, h2.tk e⟩
theorem LifeAt.tk {p : Addr} {row : List RT} {step : RT} (h : LifeAt K H p row step) (e : Tk K H H') : LifeAt K H' p row step := by
  obtain ⟨pr, ps, h1, h2, h3⟩ := h
  exact ⟨pr, ps, e _ _ h1, h2.tk e, h3.tk e⟩
theorem RsAt.length : ∀ {ps : List Addr} {xs : List RT}, RsAt K H ps xs → ps.length = xs.length
  | _, _, .nil => rfl
  | _, _, .cons _ r => congrArg (· + 1) r.length
theorem RsAt.get : ∀ {ps : List Addr} {xs : List RT} {i : Nat} {x : RT}, RsAt K H ps xs → xs[i]? = some x → ∃ p, ps[i]? = some p ∧ RAt K H p x
  | _, _, _, _, .nil, e => by simp at e
  | _, _, 0, _, .cons h _, e => by
    cases Option.some.inj e
    exact ⟨_, rfl, h⟩
  | _, _, i + 1, x, .cons _ r, e => RsAt.get (i := i) (x := x) r e
theorem RsAt.append : ∀ {ps qs : List Addr} {xs ys : List RT}, RsAt K H ps xs → RsAt K H qs ys → RsAt K H (ps ++ qs) (xs ++ ys)
  | _, _, _, _, .nil, s => s
  | _, _, _, _, .cons h r, s => .cons h (r.append s)
theorem RsAt.take : ∀ {ps : List Addr} {xs : List RT} (n : Nat), RsAt K H ps xs → RsAt K H (ps.take n) (xs.take n)
  | _, _, 0, _ => .nil
  | _, _, _ + 1, .nil => .nil
  | _, _, n + 1, .cons h r => .cons h (r.take n)
theorem RsAt.drop : ∀ {ps : List Addr} {xs : List RT} (n : Nat), RsAt K H ps xs → RsAt K H (ps.drop n) (xs.drop n)
  | _, _, 0, r => r
  | _, _, _ + 1, .nil => .nil
  | _, _, n + 1, .cons _ r => RsAt.drop n r
end
/-! ### lowest terms -/
def low2 (t b : Int) : RT := (ratT t b, ratB t b)
/-- a ratio in lowest terms -/
def Red (x : RT) : Prop := 0 < x.2 ∧ Int.gcd x.1 x.2 = 1
theorem low2_red {t b : Int} (hb : b ≠ 0) : Red (low2 t b) := by
  have main : ∀ (t b : Int), 0 < b → Red (low2 t b) := fun t b hb => by
    refine ⟨ratB_pos hb, ?_⟩
    have e : ratG t b = ((Int.gcd t b : Nat) : Int) := by
      unfold ratG
      rw [if_neg (by omega)]
    have hg := (gcd_le (t := t) (Int.ne_of_gt hb)).1
    obtain ⟨h1, ⟨x, hx⟩, ⟨y, hy⟩⟩ := ratG_pos (t := t) hb
    have ex : t.fdiv (ratG t b) = x := by
      have := Int.mul_fdiv_cancel_left x (Int.ne_of_gt h1)
      rw [← hx] at this
      exact this
    have ey : b.fdiv (ratG t b) = y := by
      have := Int.mul_fdiv_cancel_left y (Int.ne_of_gt h1)
      rw [← hy] at this
      exact this
    show Int.gcd (t.fdiv (ratG t b)) (b.fdiv (ratG t b)) = 1
    rw [ex, ey]
    have z : Int.gcd t b = (ratG t b).natAbs * Int.gcd x y := by
      have := Int.gcd_mul_left (ratG t b) x y
      rw [← hx, ← hy] at this
      exact this
    have z2 : (ratG t b).natAbs = Int.gcd t b := by rw [e]; exact Int.natAbs_natCast _
    rw [z2] at z
    exact (Nat.eq_of_mul_eq_mul_left hg (by rw [Nat.mul_one]; exact z)).symm
  rcases (by omega : 0 < b ∨ b < 0) with z | z
  · exact main t b z
  · have e1 : ratG t b = -((Int.gcd t b : Nat) : Int) := by unfold ratG; rw [if_pos z]
    have e2 : ratG (-t) (-b) = ((Int.gcd t b : Nat) : Int) := by
      unfold ratG
      rw [if_neg (by omega)]
      show ((Nat.gcd _ _ : Nat) : Int) = ((Nat.gcd _ _ : Nat) : Int)
      rw [Int.natAbs_neg, Int.natAbs_neg]
    have fl : ∀ x g : Int, x.fdiv (-g) = (-x).fdiv g := fun x g => by
      have y := Int.neg_fdiv_neg (-x) g
      rw [Int.neg_neg] at y
      exact y
    have e : low2 t b = low2 (-t) (-b) := by
      unfold low2 ratT ratB
      rw [e1, e2, fl, fl]
    rw [e]
    exact main _ _ (by omega)
/-- the value of it: a by b, told crosswise -/
theorem low2_cross {t b : Int} (hb : 0 < b) : (low2 t b).1 * b = t * (low2 t b).2 := by
  obtain ⟨h1, ⟨x, hx⟩, ⟨y, hy⟩⟩ := ratG_pos (t := t) hb
  have ex : (low2 t b).1 = x := by
    show t.fdiv (ratG t b) = x
    have := Int.mul_fdiv_cancel_left x (Int.ne_of_gt h1)
    rw [← hx] at this
    exact this
  have ey : (low2 t b).2 = y := by
    show b.fdiv (ratG t b) = y
    have := Int.mul_fdiv_cancel_left y (Int.ne_of_gt h1)
    rw [← hy] at this
    exact this
  rw [ex, ey]
  generalize ratG t b = g at hx hy
  subst hx hy
  rw [Int.mul_comm g y, Int.mul_comm g x, Int.mul_assoc x g y, Int.mul_comm g y, ← Int.mul_assoc]
theorem dvd_cop {b a d : Int} (h : b ∣ a * d) (g : Int.gcd b a = 1) : b ∣ d := by
  rw [← Int.natAbs_dvd_natAbs] at h ⊢
  rw [Int.natAbs_mul] at h
  exact Nat.Coprime.dvd_of_dvd_mul_left g h
/-- two ratios in lowest terms of one value are one -/
theorem red_eq {x y : RT} (hx : Red x) (hy : Red y) (h : x.1 * y.2 = y.1 * x.2) : x = y := by
  obtain ⟨a, b⟩ := x
  obtain ⟨c, d⟩ := y
  obtain ⟨hb, g1⟩ := hx
  obtain ⟨hd, g2⟩ := hy
  dsimp only at *
  have b_d : b ∣ d := by
    have h1 : b ∣ a * d := ⟨c, by rw [h, Int.mul_comm]⟩
    exact dvd_cop h1 (by rw [Int.gcd_comm]; exact g1)
  have d_b : d ∣ b := by
    have h1 : d ∣ c * b := ⟨a, by rw [← h, Int.mul_comm]⟩
    exact dvd_cop h1 (by rw [Int.gcd_comm]; exact g2)
  have e : b = d := Int.dvd_antisymm (Int.le_of_lt hb) (Int.le_of_lt hd) b_d d_b
  subst e
  have e2 : a = c := Int.eq_of_mul_eq_mul_right (Int.ne_of_gt hb) h
  rw [e2]
def rT (x y : RT) : RT := low2 (x.1 * y.1) (x.2 * y.2)
/-! ### drawn lives -/
def lastW (ws : List Int) : Int := ws.getLastD 0
def wholeOf (ws : List Int) (extra : Int) (step : RT) : Int := (step.2 - step.1) * (ws.sum + extra) + step.1 * lastW ws
def rowOf (ws : List Int) (extra : Int) (step : RT) : List RT := ws.map fun x => low2 ((step.2 - step.1) * x) (wholeOf ws extra step)
structure Made (ws : List Int) (extra : Int) (step : RT) : Prop where
  ne : ws ≠ []
  len : ws.length ≤ 6
  nn : ∀ x ∈ ws, 0 ≤ x ∧ x ≤ 5
  last : 0 < lastW ws
  ex : 0 ≤ extra ∧ extra ≤ 8
  st : step = (0, 1) ∨ step = (1, 2) ∨ step = (1, 3) ∨ step = (2, 3) ∨ step = (3, 4)
theorem sum_bound : ∀ {ws : List Int}, (∀ x ∈ ws, 0 ≤ x ∧ x ≤ 5) → 0 ≤ ws.sum ∧ ws.sum ≤ 5 * (ws.length : Int)
  | [], _ => ⟨by decide, by decide⟩
  | x :: r, h => by
    have h1 := h x (List.mem_cons_self ..)
    have h2 := sum_bound fun y hy => h y (List.mem_cons_of_mem _ hy)
    rw [List.sum_cons, List.length_cons]
    omega
theorem last_le_sum : ∀ {ws : List Int}, (∀ x ∈ ws, 0 ≤ x ∧ x ≤ 5) → lastW ws ≤ ws.sum
  | [], _ => by decide
  | [x], h => by
    show x ≤ _
    rw [List.sum_cons, List.sum_nil]
    omega
  | x :: y :: r, h => by
    have h1 := h x (List.mem_cons_self ..)
    have h2 := last_le_sum (ws := y :: r) fun z hz => h z (List.mem_cons_of_mem _ hz)
    have e : lastW (x :: y :: r) = lastW (y :: r) := by
      unfold lastW
      rw [List.getLastD_cons, List.getLastD_cons]
      show _ = (y :: r).getLastD 0
      rw [List.getLastD_cons]
    rw [e, List.sum_cons]
    omega
theorem Made.step_ok {ws : List Int} {extra : Int} {step : RT} (m : Made ws extra step) : 0 ≤ step.1 ∧ step.1 < step.2 ∧ step.2 ≤ 4 ∧ Red step := by
  rcases m.st with rfl | rfl | rfl | rfl | rfl <;> exact ⟨by decide, by decide, by decide, by decide, by decide⟩
theorem Made.whole {ws : List Int} {extra : Int} {step : RT} (m : Made ws extra step) : 0 < wholeOf ws extra step ∧ wholeOf ws extra step ≤ 200 := by
  have h1 := sum_bound m.nn
  have h2 := last_le_sum m.nn
  have h3 := m.last
  have h4 := m.ex
  have h5 := m.len
  unfold wholeOf
  generalize ws.sum = S at *
  generalize lastW ws = L at *
  rcases m.st with rfl | rfl | rfl | rfl | rfl <;> dsimp only <;> omega

end Fp

set_option Elab.async false
set_option linter.all false
set_option maxRecDepth 100000
set_option maxHeartbeats 4000000
set_option exponentiation.threshold 10000
namespace Fp
open PySem PySem.Spec PyProof.Rows L2
abbrev s_life : Stmt := topS 46
abbrev N_life : List Str := ["_law_feed_here", "_law_way", "_law_many", "_law_part", "_law_weights", "_law_top", "_law_bottom", "_law_extra", "_law_whole", "_law_k", "_law_weight"]
theorem sc_life : FnScope N_life ["_law_feed_here", "_law_way"] (defScope s_life) := ⟨rfl, rfl, rfl, by decide +kernel, rfl, by decide +kernel, by decide +kernel⟩
theorem pick4 {a b c d : V} {r : Int} (h0 : 0 ≤ r) (h1 : r < 4) : ∃ v, atI [a, b, c, d] r = some v ∧ (v = a ∨ v = b ∨ v = c ∨ v = d) := by
  rcases (by omega : r = 0 ∨ r = 1 ∨ r = 2 ∨ r = 3) with rfl | rfl | rfl | rfl
  · exact ⟨a, atI_nat (j := 0) rfl, .inl rfl⟩
  · exact ⟨b, atI_nat (j := 1) rfl, .inr (.inl rfl)⟩
  · exact ⟨c, atI_nat (j := 2) rfl, .inr (.inr (.inl rfl))⟩
  · exact ⟨d, atI_nat (j := 3) rfl, .inr (.inr (.inr rfl))⟩
theorem pick2' {a b : V} {r : Int} (h0 : 0 ≤ r) (h1 : r < 2) : ∃ v, atI [a, b] r = some v ∧ (v = a ∨ v = b) := by
  rcases (by omega : r = 0 ∨ r = 1) with rfl | rfl
  · exact ⟨a, atI_nat (j := 0) rfl, .inl rfl⟩
  · exact ⟨b, atI_nat (j := 1) rfl, .inr rfl⟩
theorem tk_lst {K : PySem.W.Frag} {H : Hp} {p : Addr} {xs ys : List V} (h : H p = some (.lst xs)) : Tk K H (upd H p (.lst ys)) := fun a zs z => by
  rcases z with (z | ⟨o, z⟩) | z
  · exact .inl (.inl (by rw [upd_ne (ne_of z h (by intro y; cases y))]; exact z))
  · exact .inl (.inr ⟨o, by rw [upd_ne (ne_of z h (by intro y; cases y))]; exact z⟩)
  · exact .inr z
theorem last_set {ws : List Int} (h : ws ≠ []) (x : Int) : lastW (ws.set (ws.length - 1) x) = x := by
  unfold lastW
  rw [List.getLastD_eq_getLast?, List.getLast?_eq_getElem?, List.length_set, List.getElem?_set_self (by
    have := List.length_pos_iff.mpr h
    omega)]
  rfl
theorem last_get {ws : List Int} (h : ws ≠ []) : ws[ws.length - 1]? = some (lastW ws) := by
  unfold lastW
  rw [List.getLastD_eq_getLast?, List.getLast?_eq_getElem?]
  have := List.length_pos_iff.mpr h
  rw [List.getElem?_eq_getElem (by omega)]
  rfl
theorem atI_lastW {ws : List Int} (h : ws ≠ []) : atI (ws.map V.int) (-1) = some (.int (lastW ws)) := by
  have e : ws.map V.int = ws.dropLast.map V.int ++ [V.int (ws.getLast h)] := by
    rw [← List.map_singleton, ← List.map_append, List.dropLast_concat_getLast]
  rw [e, atI_last]
  unfold lastW
  rw [List.getLastD_eq_getLast?, List.getLast?_eq_some_getLast h]
  rfl
section
variable {P : Program} {w : World} {K : PySem.W.Frag} {mg : Str → Option Value} {base : Heap}
def spLife (K : PySem.W.Frag) : Sp := fun vs H Q _ => ∃ (d c : Addr) (way t : Int), vs = [.ref d, .int way] ∧ Feed H d c t ∧ t ≤ 900000 ∧
  ∀ p ws extra step t' H', Keep d H H' → Feed H' d c t' → t' ≤ t + 12 → Made ws extra step → (way ≠ 2 → way ≠ 4 → extra = 0) → (way = 2 ∨ way = 4 → 0 < extra) → (way ≠ 3 → way ≠ 4 → step = (0, 1)) → LifeAt K H' p (rowOf ws extra step) step → Q (.ref p) H'
theorem draws_row {K : PySem.W.Frag} {H : Hp} {rs : List Addr} {xs : List RT} {p : Addr} {x : RT} (h : RsAt K H rs xs) (e : RAt K H p x) : RsAt K H (rs ++ [p]) (xs ++ [x]) := h.append (.cons e .nil)
theorem in_two {a b x : Int} : inV (.int x) [.int a, .int b] = (decide (x = a) || decide (x = b)) := by
  have e : ∀ y : Int, eqV (.int y) (.int x) = decide (x = y) := fun y => by
    show (y == x) = _
    rw [Bool.eq_iff_iff]
    simp
    exact ⟨fun z => z.symm, fun z => z.symm⟩
  unfold inV
  rw [List.any_cons, List.any_cons, List.any_nil, e, e, Bool.or_false]
theorem map_last {ws : List Int} (h : ws ≠ []) (x : Int) : ws.set (ws.length - 1) x ≠ [] := by
  intro z
  have := congrArg List.length z
  rw [List.length_set, List.length_nil] at this
  exact h (List.length_eq_zero_iff.mp this)
theorem ixN_last {n : Nat} (h : 0 < n) : ixN n (-1) = some (n - 1) := by
  unfold ixN
  rw [if_neg (by omega)]
  first
    | (rw [if_pos (by omega)]; congr 1; omega)
    | (simp; omega)
theorem ok_life {f fD fL : Addr} {fd fdD fdL : FuncData} (F : Fun K "_law_life" "_law_life" s_life f fd) (FD : Fun K "_law_draw" "_law_draw" s_draw fD fdD) (bD : Binds K fdD ["_law_feed_here", "_law_many"] []) (gD : mg "_law_draw" = some (.ref fD))
    (GD : FnOk P w K mg base CX0 1 fD fdD ["_law_feed_here", "_law_many"] spDraw)
    (FL : Fun K "_law_low" "_law_low" s_low fL fdL) (bL : Binds K fdL ["_law_top", "_law_bottom"] []) (gL : mg "_law_low" = some (.ref fL)) (GL : FnOk P w K mg base CX0 1 fL fdL ["_law_top", "_law_bottom"] spLow)
    (mr : mg "range" = none) (mi : mg "int" = none) (ms : mg "sum" = none) (mt : mg "tuple" = none) : FnOk P w K mg base CX0 2 f fd ["_law_feed_here", "_law_way"] (spLife K) := by
  refine F.ok sc_life (fun vs H Q E h => ?_) (fun cdv A outer s H vs Q E hr h => ?_)
  · obtain ⟨_, _, _, _, rfl, _⟩ := h
    rfl
  · obtain ⟨d, c, way, t, rfl, f0, ht, q⟩ := h
    have hr1 := hr
    refine ⟨_, (pss_cons (ps_set (i := 2) sc_life.nd rfl (.inl rfl) (pe_op op_add pe_int (pe_call GD hr (by rfl) gD FD.kp bD .nil pass0 (pa_cons (pv 0) (pa_cons (pe_ix ix_list (pe_lst (pa_cons pe_int (pa_cons pe_int pa_nil))) (pe_call GD hr (by rfl) gD FD.kp bD .nil pass0 (pa_cons (pv 0) (pa_cons pe_int pa_nil))) (fun _ _ => rfl)) pa_nil))))) (pss_cons (ps_set (i := 3) sc_life.nd rfl (.inr rfl) (pe_op op_add pe_int (pe_call GD hr (by rfl) gD FD.kp bD .nil pass0 (pa_cons (pv 0) (pa_cons pe_int pa_nil))))) (pss_mid (ps_if (pt_cmpR op_eq (pv 1) pe_int (nomark _)) (pss_one (ps_set (i := 2) sc_life.nd rfl (.inl rfl) (pe_op op_mul (pv 3) (pe_op op_add pe_int (pe_call GD hr (by rfl) gD FD.kp bD .nil pass0 (pa_cons (pv 0) (pa_cons (pe_op op_fdiv pe_int (pv 3)) pa_nil))))))) pss_nil) (pss_mid (ps_set (i := 4) sc_life.nd rfl (.inr rfl) (pe_lc (own := [("_law_k", 9)]) (g := gName 9) (tt := tYes) rfl sc_life.nd (pi_range1 (by rfl) mr (pa_cons (pv 2) pa_nil)) (blkOk_by (own := [("_law_k", 9)]) (N := N_life) (sc := defScope s_life) (by decide +kernel))
          (fun _ _ _ _ _ => pg_name (i := 9) sc_life.nd rfl (.inl rfl)) (fun _ _ _ _ _ => pts_nil) (fun _ _ _ _ _ => (pe_call GD hr (by rfl) gD FD.kp bD .nil pass0 (pa_cons (pv 0) (pa_cons pe_int pa_nil)))))) (pss_mid (ps_asg (pe_ifExp (pt_cmpR op_in_seq (pv 1) (pe_tup (pa_cons pe_int (pa_cons pe_int pa_nil))) (by rfl))
          (pe_ix ix_list (pe_lst (pa_cons (pe_tup (pa_cons pe_int (pa_cons pe_int pa_nil))) (pa_cons (pe_tup (pa_cons pe_int (pa_cons pe_int pa_nil))) (pa_cons (pe_tup (pa_cons pe_int (pa_cons pe_int pa_nil))) (pa_cons (pe_tup (pa_cons pe_int (pa_cons pe_int pa_nil))) pa_nil))))) (pe_call GD hr (by rfl) gD FD.kp bD .nil pass0 (pa_cons (pv 0) (pa_cons pe_int pa_nil))) (fun _ _ => rfl))
          (pe_tup (pa_cons pe_int (pa_cons pe_int pa_nil)))) (pg_tup rfl (pgs_cons (pg_name (i := 5) sc_life.nd rfl (.inr rfl)) (pgs_cons (pg_name (i := 6) sc_life.nd rfl (.inr rfl)) pgs_nil)))) (pss_mid (ps_if (pt_cmpR op_eq (pv 1) pe_int (nomark _)) (pss_one (ps_set (i := 4) sc_life.nd rfl (.inr rfl) (pe_lc (own := [("_law_k", 9)]) (g := gName 9) (tt := tYes) (te := tOp (rI CMul fun i j => .int (i * j)) (tOp (rIxL K) (tVar 4) (tVar 9)) (tCB (fun xs H Q => (∃ i, xs = [.int i] ∧ Q (.int i) H) ∨ ∃ k, xs = [.bl k] ∧ Q (.int (if k then 1 else 0)) H) (tCons (tOp rEq (tOp (rI (fun _ j => j ≠ 0) fun i j => .int (i.fmod j)) (tOp (rI0 fun i j => .int (i + j)) (tVar 9) (tC (.int 1))) (tVar 3)) (tC (.int 0))) tNil))) rfl sc_life.nd (pi_range1 (by rfl) mr (pa_cons (pv 2) pa_nil)) (blkOk_by (own := [("_law_k", 9)]) (N := N_life) (sc := defScope s_life) (by decide +kernel))
          (fun _ _ _ _ _ => pg_name (i := 9) sc_life.nd rfl (.inl rfl)) (fun _ _ _ _ _ => pts_nil)
          (fun _ _ _ _ _ => (pe_op op_mul (pe_ix ix_list (pv 4) (pv 9) (fun _ _ => rfl)) (pe_callTy call_int1 (by rfl) mi (by decide +kernel) (pa_cons (pe_cmpR op_eq (pe_op op_modN (pe_op op_add (pv 9) pe_int) (pv 3)) pe_int (nomark _)) pa_nil))))))) pss_nil) (pss_mid (ps_asg (pe_op op_add (pe_ix ix_list (pv 4) (pe_un un_neg pe_int) (fun _ _ => rfl)) pe_int) (pg_sub (pv 4) (pe_un un_neg pe_int) set_list)) (pss_mid (ps_set (i := 7) sc_life.nd rfl (.inl rfl) (pe_ifExp (pt_cmpR op_in_seq (pv 1) (pe_tup (pa_cons pe_int (pa_cons pe_int pa_nil))) (by rfl)) (pe_op op_add pe_int (pe_call GD hr (by rfl) gD FD.kp bD .nil pass0 (pa_cons (pv 0) (pa_cons pe_int pa_nil)))) pe_int)) (pss_cons (ps_set (i := 8) sc_life.nd rfl (.inr rfl) (pe_op op_add (pe_op op_mul (pe_op op_sub (pv 6) (pv 5)) (pe_op op_add (pe_callB (cr_sum rfl) (by rfl) ms (by decide +kernel) (pa_cons (pv 4) pa_nil)) (pv 7))) (pe_op op_mul (pv 5) (pe_ix ix_list (pv 4) (pe_un un_neg pe_int) (fun _ _ => rfl))))) (pss_one (ps_ret (pe_tup (pa_cons (pe_callTy call_tuple_of (by rfl) mt (by decide +kernel) (pa_cons (pe_lc (own := [("_law_weight", 10)]) (g := gName 10) (tt := tYes) rfl sc_life.nd (pi_list (pv 4)) (blkOk_by (own := [("_law_weight", 10)]) (N := N_life) (sc := defScope s_life) (by decide +kernel))
          (fun _ _ _ _ _ => pg_name (i := 10) sc_life.nd rfl (.inl rfl)) (fun _ _ _ _ _ => pts_nil) (fun _ _ _ _ _ => (pe_call GL hr1 (by rfl) gL FL.kp bL .nil pass0 (pa_cons (pe_op op_mul (pe_op op_sub (pv 6) (pv 5)) (pv 10)) (pa_cons (pv 8) pa_nil))))) pa_nil))
          (pa_cons (pe_tup (pa_cons (pv 5) (pa_cons (pv 6) pa_nil))) pa_nil)))))))))))))), ?_⟩
    -- many, part
    refine ⟨_, rfl, by show 2 ≤ sizeLine; decide, fun p1 n1 => ?_⟩
    refine ⟨_, rfl, d, c, 2, t, rfl, f0.new n1, by omega, by decide, by decide, fun r1 H1 h10 h11 k1 f1 => ?_⟩
    obtain ⟨v1, e1, c1⟩ := pick2' (a := V.int 3) (b := V.int 6) h10 h11
    obtain ⟨x1, rfl, y1⟩ : ∃ x : Int, v1 = .int x ∧ 0 < x ∧ x ≤ 6 := by
      rcases c1 with z | z
      · exact ⟨3, z, by decide, by decide⟩
      · exact ⟨6, z, by decide, by decide⟩
    refine ⟨p1, _, r1, _, rfl, rfl, SqL.of (keep_at (f0.new n1) k1 upd_same (fun _ z => nomatch z)), e1, ?_⟩
    refine ⟨d, c, x1, t + 1, rfl, f1, by omega, y1.1, by omega, fun r2 H2 h20 h21 k2 f2 => ?_⟩
    refine ⟨1, r2, rfl, rfl, ?_⟩
    refine ⟨_, rfl, d, c, 2, t + 1 + 1, rfl, f2, by omega, by decide, by decide, fun r3 H3 h30 h31 k3 f3 => ?_⟩
    refine ⟨2, r3, rfl, rfl, ?_⟩
    have K3 := (keep_new n1 k1).trans (k2.trans k3)
    -- way 5
    refine ⟨fun σ H4 => ∃ many t4 : Int, σ = [some (.ref d), some (.int way), some (.int many), some (.int (2 + r3)), none, none, none, none, none, none, none] ∧ Keep d H H4 ∧ Feed H4 d c t4 ∧ t4 ≤ t + 4 ∧ 1 ≤ many ∧ many ≤ 6, ?_, ?_⟩
    · refine ⟨_, rfl, rfl, _, rfl, ite2 (fun c5 => ?_) (fun c5 => ?_)⟩
      · refine ⟨_, rfl, _, rfl, _, rfl, 6, 2 + r3, rfl, rfl, ⟨by omega, by omega⟩, ?_⟩
        have m6 : 1 ≤ 6 / (2 + r3) ∧ (2 + r3) * (6 / (2 + r3)) ≤ 6 := by
          rcases (by omega : r3 = 0 ∨ r3 = 1) with rfl | rfl <;> decide
        refine ⟨d, c, _, t + 1 + 1 + 1, rfl, f3, by omega, by omega, ?_, fun r4 H4 h40 h41 k4 f4 => ?_⟩
        · rcases (by omega : r3 = 0 ∨ r3 = 1) with rfl | rfl <;> decide
        · refine ⟨1, r4, rfl, rfl, 2 + r3, 1 + r4, rfl, rfl, .inl ⟨by omega, by omega⟩, _, _, rfl, K3.trans k4, f4, by omega, ?_, ?_⟩
          · rcases (by omega : r3 = 0 ∨ r3 = 1) with rfl | rfl <;> omega
          · rcases (by omega : r3 = 0 ∨ r3 = 1) with rfl | rfl
            · have : r4 < 3 := h41
              omega
            · have : r4 < 2 := h41
              omega
      · exact ⟨_, _, rfl, K3, f3, by omega, by omega, by omega⟩
    rintro σ H4 ⟨many, t4, rfl, K4, f4, ht4, hm1, hm6⟩
    -- weights
    refine ⟨fun σ H5 => ∃ (W : Addr) (ws : List Int) (t5 : Int), σ = [some (.ref d), some (.int way), some (.int many), some (.int (2 + r3)), some (.ref W), none, none, none, none, none, none] ∧ Keep d H H5 ∧ Feed H5 d c t5 ∧ t5 ≤ t4 + many ∧ H W = none ∧ W ≠ c ∧
      H5 W = some (.lst (ws.map V.int)) ∧ (ws.length : Int) = many ∧ ∀ x ∈ ws, 0 ≤ x ∧ x ≤ 4, ?_, ?_⟩
    · refine ⟨_, rfl, many, rfl, by omega, by omega, fun W nW => ?_⟩
      have nW0 := K4.none f4 nW
      have nWc := f4.nc nW
      have nWd := f4.nd nW
      refine lc_range (lo := 0) (n := many.toNat) (fun i H5 => ∃ (ws : List Int) (t5 : Int), Keep d H H5 ∧ Feed H5 d c t5 ∧ t5 = t4 + i ∧ H5 W = some (.lst (ws.map V.int)) ∧ ws.length = i ∧ ∀ x ∈ ws, 0 ≤ x ∧ x ≤ 4) ?_ ?_ ?_
      · exact ⟨[], t4, K4.wr nW0, f4.wr nWd nWc, by omega, upd_same, rfl, fun x hx => by simp at hx⟩
      · rintro i H5 hi ⟨ws, t5, K5, f5, et, hW, hl, hx⟩
        refine ⟨rfl, tYes_go ?_⟩
        refine iteT ?_
        refine ⟨_, rfl, d, c, 5, t5, rfl, f5, by omega, by decide, by decide, fun r H6 h0 h1 k6 f6 => ?_⟩
        refine ⟨ws.map V.int, keep_at f5 k6 hW (fun _ z => nomatch z), by rw [List.length_map, hl]; exact small1000 (by omega), ?_⟩
        refine ⟨ws ++ [r], t5 + 1, (K5.trans k6).wr nW0, f6.wr nWd nWc, by omega, ?_, by simp [hl], fun x hx2 => ?_⟩
        · rw [upd_same, List.map_append]
          rfl
        · rcases List.mem_append.mp hx2 with z | z
          · exact hx x z
          · have := List.mem_singleton.mp z
            omega
      · rintro H5 ⟨ws, t5, K5, f5, et, hW, hl, hx⟩
        exact ⟨W, ws, t5, rfl, K5, f5, by omega, nW0, nWc, hW, by omega, hx⟩
    rintro σ H5 ⟨W, ws, t5, rfl, K5, f5, ht5, nW0, nWc, hW, hl, hx⟩
    -- top, bottom
    refine ⟨fun σ H6 => ∃ (step : RT) (t6 : Int), σ = [some (.ref d), some (.int way), some (.int many), some (.int (2 + r3)), some (.ref W), some (.int step.1), some (.int step.2), none, none, none, none] ∧ Keep d H H6 ∧ Feed H6 d c t6 ∧ t6 ≤ t5 + 1 ∧ H6 W = some (.lst (ws.map V.int)) ∧
      (step = (0, 1) ∨ step = (1, 2) ∨ step = (1, 3) ∨ step = (2, 3) ∨ step = (3, 4)) ∧ (way ≠ 3 → way ≠ 4 → step = (0, 1)), ?_, ?_⟩
    · refine ⟨_, rfl, by show 2 ≤ sizeLine; decide, fun p2 n2 => ?_⟩
      refine ⟨p2, _, rfl, .inr (SqT.of upd_same), rfl, rfl, _, rfl, ?_⟩
      rw [in_two]
      have a2 := same_new (o := HO.tup [.int 3, .int 4]) n2
      refine ite2 (fun c6 => ?_) (fun c6 => ?_)
      · refine ⟨by show 2 ≤ sizeLine; decide, fun q1 m1 => ?_⟩
        have a3 := same_new (o := HO.tup [.int 1, .int 2]) m1
        refine ⟨by show 2 ≤ sizeLine; decide, fun q2 m2 => ?_⟩
        have a4 := same_new (o := HO.tup [.int 1, .int 3]) m2
        refine ⟨by show 2 ≤ sizeLine; decide, fun q3 m3 => ?_⟩
        have a5 := same_new (o := HO.tup [.int 2, .int 3]) m3
        refine ⟨by show 2 ≤ sizeLine; decide, fun q4 m4 => ?_⟩
        have a6 := same_new (o := HO.tup [.int 3, .int 4]) m4
        refine ⟨by show 4 ≤ sizeLine; decide, fun q5 m5 => ?_⟩
        have a7 := same_new (o := HO.lst [.ref q1, .ref q2, .ref q3, .ref q4]) m5
        have S := a2.trans (a3.trans (a4.trans (a5.trans (a6.trans a7))))
        have g1 := a7 _ _ (a6 _ _ (a5 _ _ (a4 _ _ (upd_same (H := upd H5 p2 (HO.tup [.int 3, .int 4])) (a := q1) (o := HO.tup [.int 1, .int 2])))))
        have g2 := a7 _ _ (a6 _ _ (a5 _ _ (upd_same (H := upd (upd H5 p2 (HO.tup [.int 3, .int 4])) q1 (HO.tup [.int 1, .int 2])) (a := q2) (o := HO.tup [.int 1, .int 3]))))
        have g3 := a7 _ _ (a6 _ _ (upd_same (H := upd (upd (upd H5 p2 (HO.tup [.int 3, .int 4])) q1 (HO.tup [.int 1, .int 2])) q2 (HO.tup [.int 1, .int 3])) (a := q3) (o := HO.tup [.int 2, .int 3])))
        have g4 := a7 _ _ (upd_same (H := upd (upd (upd (upd H5 p2 (HO.tup [.int 3, .int 4])) q1 (HO.tup [.int 1, .int 2])) q2 (HO.tup [.int 1, .int 3])) q3 (HO.tup [.int 2, .int 3])) (a := q4) (o := HO.tup [.int 3, .int 4]))
        have fS := f5.same S
        refine ⟨_, rfl, d, c, 4, t5, rfl, fS, by omega, by decide, by decide, fun r H6 h0 h1 k6 f6 => ?_⟩
        have tk : Tk K _ H6 := Tk.keep fS k6
        obtain ⟨v, ev, cv⟩ := pick4 (a := V.ref q1) (b := V.ref q2) (c := V.ref q3) (d := V.ref q4) h0 h1
        obtain ⟨qq, step, rfl, hs, hq⟩ : ∃ (qq : Addr) (step : RT), v = .ref qq ∧ (step = (0, 1) ∨ step = (1, 2) ∨ step = (1, 3) ∨ step = (2, 3) ∨ step = (3, 4)) ∧ SqT K H6 qq [.int step.1, .int step.2] := by
          rcases cv with z | z | z | z
          · exact ⟨q1, (1, 2), z, by decide, tk _ _ (SqT.of g1)⟩
          · exact ⟨q2, (1, 3), z, by decide, tk _ _ (SqT.of g2)⟩
          · exact ⟨q3, (2, 3), z, by decide, tk _ _ (SqT.of g3)⟩
          · exact ⟨q4, (3, 4), z, by decide, tk _ _ (SqT.of g4)⟩
        refine ⟨q5, _, r, _, rfl, rfl, SqL.of (keep_at fS k6 upd_same (fun _ z => nomatch z)), ev, ?_⟩
        refine ⟨qq, _, rfl, hq, rfl, _, _, rfl, _, _, rfl, rfl, step, t5 + 1, rfl, K5.trans ((Keep.of_same S).trans k6), f6, by omega, keep_at fS k6 (S _ _ hW) (fun _ z => nomatch z), hs, fun z1 z2 => ?_⟩
        simp [z1, z2] at c6
      · refine ⟨by show 2 ≤ sizeLine; decide, fun q1 m1 => ?_⟩
        have a3 := same_new (o := HO.tup [.int 0, .int 1]) m1
        exact ⟨q1, _, rfl, SqT.of upd_same, rfl, _, _, rfl, _, _, rfl, rfl, (0, 1), t5, rfl, K5.trans ((Keep.of_same a2).trans (Keep.of_same a3)), (f5.same a2).same a3, by omega, a3 _ _ (a2 _ _ hW), .inl rfl, fun _ _ => rfl⟩
    rintro σ H6 ⟨step, t6, rfl, K6, f6, ht6, hW6, hst, hs34⟩
    -- way 5 again
    refine ⟨fun σ H7 => ∃ (W : Addr) (ws : List Int) (y9 : Option V), σ = [some (.ref d), some (.int way), some (.int many), some (.int (2 + r3)), some (.ref W), some (.int step.1), some (.int step.2), none, none, y9, none] ∧ Keep d H H7 ∧ Feed H7 d c t6 ∧ H W = none ∧ W ≠ c ∧
      H7 W = some (.lst (ws.map V.int)) ∧ (ws.length : Int) = many ∧ ∀ x ∈ ws, 0 ≤ x ∧ x ≤ 4, ?_, ?_⟩
    · refine ⟨_, rfl, rfl, _, rfl, ite2 (fun c5 => ?_) (fun c5 => ?_)⟩
      · refine ⟨_, rfl, many, rfl, by omega, by omega, fun W2 n2 => ?_⟩
        have m0 := K6.none f6 n2
        have mc := f6.nc n2
        have md := f6.nd n2
        have nWW : W ≠ W2 := ne_of_none hW6 n2
        refine lc_range (lo := 0) (n := many.toNat) (fun i H7 => ∃ us : List Int, Keep d H H7 ∧ Feed H7 d c t6 ∧ H7 W = some (.lst (ws.map V.int)) ∧ H7 W2 = some (.lst (us.map V.int)) ∧ us.length = i ∧ ∀ x ∈ us, 0 ≤ x ∧ x ≤ 4) ?_ ?_ ?_
        · refine ⟨[], K6.wr m0, f6.wr md mc, ?_, upd_same, rfl, fun x hx => by simp at hx⟩
          rw [upd_ne nWW]
          exact hW6
        · rintro i H7 hi ⟨us, K7, f7, hW7, hU7, hul, hux⟩
          have hi2 : i < ws.length := by omega
          have hg : (ws.map V.int)[i]? = some (.int ws[i]) := by
            rw [List.getElem?_map, List.getElem?_eq_getElem hi2]
            rfl
          have hwi := hx ws[i] (List.getElem_mem hi2)
          refine ⟨rfl, tYes_go ?_⟩
          refine iteT ?_
          refine ⟨_, rfl, _, rfl, W, _, _, _, rfl, rfl, SqL.of hW7, at_of (by omega) hg, ?_⟩
          refine ⟨_, rfl, _, 1, rfl, rfl, _, rfl, _, 2 + r3, rfl, rfl, by show (2 + r3 : Int) ≠ 0; omega, rfl, .inr ⟨_, rfl, ?_⟩⟩
          have fin : ∀ b : Bool, 0 ≤ ws[i] * (if b = true then 1 else 0) ∧ ws[i] * (if b = true then 1 else 0) ≤ 4 := fun b => by
            cases b
            · rw [if_neg (by decide), Int.mul_zero]
              exact ⟨by decide, by decide⟩
            · rw [if_pos rfl, Int.mul_one]
              exact hwi
          refine ⟨_, _, rfl, rfl, .inl ⟨by omega, by omega⟩, us.map V.int, hU7, by rw [List.length_map, hul]; exact small1000 (by omega), us ++ [ws[i] * (if decide (V.int ((0 + (i : Int) + 1).fmod (2 + r3)) = V.int 0) = true then 1 else 0)], K7.wr m0, f7.wr md mc, ?_, ?_, by simp [hul], fun x hx2 => ?_⟩
          · rw [upd_ne nWW]
            exact hW7
          · rw [upd_same, List.map_append]
            rfl
          · rcases List.mem_append.mp hx2 with z | z
            · exact hux x z
            · have := List.mem_singleton.mp z
              subst this
              exact fin _
        · rintro H7 ⟨us, K7, f7, hW7, hU7, hul, hux⟩
          exact ⟨W2, us, _, rfl, K7, f7, m0, mc, hU7, by omega, hux⟩
      · exact ⟨W, ws, _, rfl, K6, f6, nW0, nWc, hW6, hl, hx⟩
    clear hx hl hW6 hW nWc nW0
    rintro σ H7 ⟨W, ws, y9, rfl, K7, f7, nW0, nWc, hW, hl, hx⟩
    have hne : ws ≠ [] := fun z => by
      rw [z] at hl
      simp at hl
      omega
    have nWd : W ≠ d := f7.ne hW (fun _ z => nomatch z)
    -- the last one
    refine ⟨fun σ H8 => ∃ us : List Int, σ = [some (.ref d), some (.int way), some (.int many), some (.int (2 + r3)), some (.ref W), some (.int step.1), some (.int step.2), none, none, y9, none] ∧ Keep d H H8 ∧ Feed H8 d c t6 ∧ H8 W = some (.lst (us.map V.int)) ∧
      us ≠ [] ∧ us.length ≤ 6 ∧ (∀ x ∈ us, 0 ≤ x ∧ x ≤ 5) ∧ 0 < lastW us, ?_, ?_⟩
    · have hlast : 0 ≤ lastW ws ∧ lastW ws ≤ 4 := hx _ (by
        have := last_get hne
        exact List.mem_of_getElem? this)
      refine ⟨_, rfl, 1, rfl, W, _, -1, _, rfl, rfl, SqL.of hW, atI_lastW hne, lastW ws, 1, rfl, rfl, ?_⟩
      refine ⟨_, rfl, 1, rfl, W, _, -1, ws.length - 1, rfl, rfl, hW, ?_, ?_⟩
      · rw [List.length_map]
        exact ixN_last (List.length_pos_iff.mpr hne)
      · refine ⟨ws.set (ws.length - 1) (lastW ws + 1), rfl, K7.wr nW0, f7.wr nWd nWc, ?_, map_last hne _, ?_, fun x hx2 => ?_, ?_⟩
        · rw [upd_same, List.map_set]
        · rw [List.length_set]
          omega
        · rcases List.mem_or_eq_of_mem_set hx2 with z | z
          · have := hx x z
            omega
          · omega
        · rw [last_set hne]
          omega
    clear hx hl hW hne
    rintro σ H8 ⟨us, rfl, K8, f8, hW, hne, hl, hx, hlast⟩
    -- extra
    refine ⟨fun σ H9 => ∃ extra t9 : Int, σ = [some (.ref d), some (.int way), some (.int many), some (.int (2 + r3)), some (.ref W), some (.int step.1), some (.int step.2), some (.int extra), none, y9, none] ∧ Keep d H H9 ∧ Feed H9 d c t9 ∧ t9 ≤ t6 + 1 ∧ H9 W = some (.lst (us.map V.int)) ∧
      0 ≤ extra ∧ extra ≤ 8 ∧ (way ≠ 2 → way ≠ 4 → extra = 0) ∧ (way = 2 ∨ way = 4 → 0 < extra), ?_, ?_⟩
    · refine ⟨_, rfl, by show 2 ≤ sizeLine; decide, fun p2 n2 => ?_⟩
      refine ⟨p2, _, rfl, .inr (SqT.of upd_same), rfl, rfl, _, rfl, ?_⟩
      rw [in_two]
      have a2 := same_new (o := HO.tup [.int 2, .int 4]) n2
      refine ite2 (fun c6 => ?_) (fun c6 => ?_)
      · refine ⟨_, rfl, d, c, 8, t6, rfl, f8.same a2, by omega, by decide, by decide, fun r H9 h0 h1 k9 f9 => ?_⟩
        refine ⟨1, r, rfl, rfl, 1 + r, t6 + 1, rfl, K8.trans ((Keep.of_same a2).trans k9), f9, by omega, keep_at (f8.same a2) k9 (a2 _ _ hW) (fun _ z => nomatch z), by omega, by omega, fun z1 z2 => ?_, fun _ => by omega⟩
        simp [z1, z2] at c6
      · refine ⟨0, t6, rfl, K8.trans (Keep.of_same a2), f8.same a2, by omega, a2 _ _ hW, by decide, by decide, fun _ _ => rfl, fun z => ?_⟩
        rcases z with z | z <;> simp [z] at c6
    rintro σ H9 ⟨extra, t9, rfl, K9, f9, ht9, hW9, he0, he8, he24, hep⟩
    have M : Made us extra step := ⟨hne, hl, hx, hlast, ⟨he0, he8⟩, hst⟩
    obtain ⟨s1, s2, s3, s4⟩ := M.step_ok
    have hsum := sum_bound hx
    have hll := last_le_sum hx
    obtain ⟨w0, w1⟩ := M.whole
    -- whole
    refine ⟨_, rfl, _, rfl, step.2, step.1, rfl, rfl, _, rfl, W, us, rfl, SqL.of hW9, _, rfl, us.sum, extra, rfl, rfl, _, _, rfl, rfl, .inl ⟨by omega, by omega⟩,
      _, rfl, _, rfl, 1, rfl, W, _, -1, _, rfl, rfl, SqL.of hW9, atI_lastW hne, step.1, lastW us, rfl, rfl, .inl ⟨by omega, by omega⟩, _, _, rfl, rfl, ?_⟩
    -- the row
    refine ⟨_, rfl, W, rfl, ⟨_, SqL.of hW9⟩, fun R nR => ?_⟩
    have nRW : W ≠ R := ne_of_none hW9 nR
    have nR0 := K9.none f9 nR
    have nRc := f9.nc nR
    have nRd := f9.nd nR
    refine lc_list (K := K) (a := W) (xs := us.map V.int) (fun i HA => ∃ rs : List Addr, Keep d H HA ∧ Feed HA d c t9 ∧ HA W = some (.lst (us.map V.int)) ∧ HA R = some (.lst (rs.map V.ref)) ∧ RsAt K HA rs ((rowOf us extra step).take i)) ?_ ?_ ?_ ?_
    · refine ⟨[], K9.wr nR0, f9.wr nRd nRc, ?_, upd_same, .nil⟩
      rw [upd_ne nRW]
      exact hW9
    · rintro i HA hi ⟨rs, KA, fA, hWA, hRA, hrs⟩
      exact SqL.of hWA
    · rintro i y HA hi ⟨rs, KA, fA, hWA, hRA, hrs⟩
      obtain ⟨x, hxi, rfl⟩ : ∃ x, us[i]? = some x ∧ y = V.int x := by
        rw [List.getElem?_map] at hi
        match e : us[i]? with
        | none =>
          rw [e] at hi
          cases hi
        | some z =>
          rw [e] at hi
          exact ⟨z, rfl, (Option.some.inj hi).symm⟩
      have hx5 := hx x (List.mem_of_getElem? hxi)
      have hlen : i < us.length := (List.getElem?_eq_some_iff.mp hxi).1
      refine ⟨rfl, tYes_go ?_⟩
      refine iteT ?_
      refine ⟨_, rfl, _, rfl, step.2, step.1, rfl, rfl, _, rfl, _, x, rfl, rfl, .inl ⟨by omega, by omega⟩, _, rfl, ?_⟩
      refine ⟨_, _, rfl, w0, ?_, fun p np => ?_⟩
      · have : Sm 8 (wholeOf us extra step) := by
          unfold Sm
          omega
        exact this.mono (by decide)
      have nRp : R ≠ p := ne_of_none hRA np
      have hr2 := same_new (o := HO.tup [.int (ratT ((step.2 - step.1) * x) (wholeOf us extra step)), .int (ratB ((step.2 - step.1) * x) (wholeOf us extra step))]) np
      refine ⟨rs.map V.ref, hr2 _ _ hRA, ?_, rs ++ [p], (KA.trans (Keep.of_same hr2)).wr nR0, (fA.same hr2).wr nRd nRc, ?_, ?_, ?_⟩
      · have := hrs.length
        rw [List.length_map, this, List.length_take]
        exact small1000 (by omega)
      · rw [upd_ne nRW]
        exact hr2 _ _ hWA
      · rw [upd_same, List.map_append]
        rfl
      · have tk1 : Tk K HA (upd HA p _) := Tk.same hr2
        have tk2 : Tk K (upd HA p _) (upd (upd HA p (HO.tup [.int (ratT ((step.2 - step.1) * x) (wholeOf us extra step)), .int (ratB ((step.2 - step.1) * x) (wholeOf us extra step))])) R (.lst (rs.map V.ref ++ [V.ref p]))) := tk_lst (hr2 _ _ hRA)
        have e : (rowOf us extra step).take (i + 1) = (rowOf us extra step).take i ++ [low2 ((step.2 - step.1) * x) (wholeOf us extra step)] := by
          rw [List.take_add_one]
          congr 1
          unfold rowOf
          rw [List.getElem?_map, hxi]
          rfl
        rw [e]
        exact draws_row ((hrs.tk tk1).tk tk2) (tk2 _ _ (SqT.of upd_same))
    · rintro HA ⟨rs, KA, fA, hWA, hRA, hrs⟩
      rw [List.length_map] at hrs
      have e : (rowOf us extra step).take us.length = rowOf us extra step := by
        rw [List.take_of_length_le]
        unfold rowOf
        rw [List.length_map]
        exact Nat.le_refl _
      rw [e] at hrs
      refine ⟨R, _, rfl, .inl ⟨SqL.of hRA, fun T nT => ?_⟩⟩
      have b1 := same_new (o := HO.tup (rs.map V.ref)) nT
      refine ⟨_, rfl, _, rfl, by show 2 ≤ sizeLine; decide, fun S nS => ?_⟩
      have b2 := same_new (o := HO.tup [.int step.1, .int step.2]) nS
      refine ⟨by show 2 ≤ sizeLine; decide, fun Z nZ => ?_⟩
      have b3 := same_new (o := HO.tup [.ref T, .ref S]) nZ
      have B := b1.trans (b2.trans b3)
      refine q Z us extra step t9 _ (KA.trans (Keep.of_same B)) (fA.same B) (by omega) M he24 hep hs34 ⟨T, S, SqT.of upd_same, ⟨rs, SqT.of (b3 _ _ (b2 _ _ upd_same)), hrs.tk (Tk.same B)⟩, SqT.of (b3 _ _ upd_same)⟩
end

end Fp

set_option Elab.async false
set_option linter.all false
set_option maxRecDepth 100000
set_option maxHeartbeats 4000000
set_option exponentiation.threshold 10000
namespace Fp
open PySem PySem.Spec PyProof.Rows L2
theorem snoc_cases {α : Type} (xs : List α) : xs = [] ∨ ∃ ys y, xs = ys ++ [y] := by
  rcases List.eq_nil_or_concat xs with h | ⟨ys, y, h⟩
  · exact .inl h
  · exact .inr ⟨ys, y, by rw [h, List.concat_eq_append]⟩
/-! ### rows joined, cut, compared -/
theorem eqv_D2 (x y : RT) : PyData.eqv (.tuple [.int x.1, .int x.2]) (.tuple [.int y.1, .int y.2]) = decide (x = y) := by
  show ((x.1 == y.1) && ((x.2 == y.2) && true)) = _
  rw [Bool.eq_iff_iff]
  simp only [Bool.and_true, Bool.and_eq_true, beq_iff_eq, decide_eq_true_eq]
  exact ⟨fun z => Prod.ext z.1 z.2, fun z => ⟨congrArg Prod.fst z, congrArg Prod.snd z⟩⟩
section
variable {K : PySem.W.Frag} {H : Hp}
theorem RAt.dp {p : Addr} {x : RT} (h : RAt K H p x) : Dp K H (.ref p) (.tuple [.int x.1, .int x.2]) := .tup h (.cons (.int _) (.cons (.int _) .nil))
theorem ne_rat {p q : Addr} {x y : RT} {Q : VK} (h1 : RAt K H p x) (h2 : RAt K H q y) (h : Q (.bl (!decide (x = y))) H) : rNeD K (.ref p) (.ref q) H Q := by
  refine ⟨_, _, h1.dp, h2.dp, rfl, rfl, ?_⟩
  rw [eqv_D2]
  exact h
theorem eq_rat {p q : Addr} {x y : RT} {Q : VK} (h1 : RAt K H p x) (h2 : RAt K H q y) (h : Q (.bl (decide (x = y))) H) : rEqD K (.ref p) (.ref q) H Q := by
  refine ⟨_, _, h1.dp, h2.dp, rfl, rfl, ?_⟩
  rw [eqv_D2]
  exact h
theorem cat_row {p q : Addr} {xs ys : List RT} {Q : VK} (h1 : RowAt K H p xs) (h2 : RowAt K H q ys) (hl : xs.length + ys.length ≤ 1000) (h : ∀ r H', Same H H' → RowAt K H' r (xs ++ ys) → Q (.ref r) H') : rCatA K (.ref p) (.ref q) H Q := by
  obtain ⟨as, a1, a2⟩ := h1
  obtain ⟨bs, b1, b2⟩ := h2
  have la := a2.length
  have lb := b2.length
  refine ⟨p, q, _, _, rfl, rfl, a1, b1, ?_, fun z => ?_, fun _ z => ?_, fun _ _ r nr => ?_⟩
  · rw [List.length_map, List.length_map, sizeLine_eq]
    omega
  · have e : as = [] := List.map_eq_nil_iff.mp z
    subst e
    have e2 : xs = [] := List.length_eq_zero_iff.mp la.symm
    subst e2
    exact h q H (Same.refl H) ⟨bs, b1, b2⟩
  · have e : bs = [] := List.map_eq_nil_iff.mp z
    subst e
    have e2 : ys = [] := List.length_eq_zero_iff.mp lb.symm
    subst e2
    refine h p H (Same.refl H) ?_
    rw [List.append_nil]
    exact ⟨as, a1, a2⟩
  · have s := same_new (o := HO.tup (as.map V.ref ++ bs.map V.ref)) nr
    refine h r _ s ⟨as ++ bs, ?_, (a2.append b2).tk (Tk.same s)⟩
    rw [List.map_append]
    exact SqT.of upd_same
theorem row_at {p : Addr} {xs : List RT} {i : Nat} {x : RT} (h : RowAt K H p xs) (e : xs[i]? = some x) : ∃ (rs : List Addr) (r : Addr), SqT K H p (rs.map V.ref) ∧ rs.length = xs.length ∧ (rs.map V.ref)[i]? = some (.ref r) ∧ RAt K H r x := by
  obtain ⟨rs, h1, h2⟩ := h
  obtain ⟨r, e1, e2⟩ := h2.get e
  refine ⟨rs, r, h1, h2.length, ?_, e2⟩
  rw [List.getElem?_map, e1]
  rfl
/-- row[i] from the front -/
theorem ix_row {p : Addr} {xs : List RT} {i : Int} {j : Nat} {x : RT} {Q : VK} (h : RowAt K H p xs) (ei : i = (j : Int)) (e : xs[j]? = some x) (hq : ∀ r, RAt K H r x → Q (.ref r) H) : rIxT K (.ref p) (.int i) H Q := by
  obtain ⟨rs, r, h1, _, h3, h4⟩ := row_at h e
  exact ⟨p, _, i, _, rfl, rfl, h1, at_of ei h3, hq r h4⟩
/-- row[-k] from the end -/
theorem ix_back {p : Addr} {xs : List RT} {k j : Nat} {x : RT} {Q : VK} (h : RowAt K H p xs) (hk : 0 < k) (ej : j + k = xs.length) (e : xs[j]? = some x) (hq : ∀ r, RAt K H r x → Q (.ref r) H) : rIxT K (.ref p) (.int (-(k : Int))) H Q := by
  obtain ⟨rs, r, h1, h2, h3, h4⟩ := row_at h e
  refine ⟨p, _, _, _, rfl, rfl, h1, ?_, hq r h4⟩
  unfold atI
  have : ixN (rs.map V.ref).length (-(k : Int)) = some j := by
    unfold ixN
    rw [List.length_map, if_neg (by omega), if_pos (by omega)]
    congr 1
    omega
  rw [this]
  exact h3
theorem cutV_take (vs : List V) (n : Nat) : cutV vs none (some (n : Int)) = vs.take n := by
  unfold cutV
  rw [HT.sIx_none, HT.sIx_nat]
  show (vs.drop 0).take (min n vs.length - 0) = _
  rw [List.drop_zero, Nat.sub_zero]
  rcases Nat.le_total n vs.length with z | z
  · rw [Nat.min_eq_left z]
  · rw [Nat.min_eq_right z, List.take_length, List.take_of_length_le z]
/-- row[:n] -/
theorem take_row {p : Addr} {xs : List RT} {n : Nat} {Q : VK} (h : RowAt K H p xs) (hq : ∀ r H', Same H H' → RowAt K H' r (xs.take n) → Q (.ref r) H') : rSlA K (.ref p) none (some (n : Int)) H Q := by
  obtain ⟨rs, h1, h2⟩ := h
  have hl := h2.length
  refine ⟨p, _, rfl, h1, fun z => ?_, fun _ r nr => ?_⟩
  · have z2 := z.2
    rw [HT.sIx_nat, List.length_map] at z2
    refine hq p H (Same.refl H) ?_
    rw [List.take_of_length_le (by omega)]
    exact ⟨rs, h1, h2⟩
  · rw [cutV_take]
    have s := same_new (o := HO.tup ((rs.map V.ref).take n)) nr
    refine hq r _ s ⟨rs.take n, ?_, (h2.take n).tk (Tk.same s)⟩
    rw [List.map_take]
    exact SqT.of upd_same
end

end Fp

set_option Elab.async false
set_option linter.all false
set_option maxRecDepth 100000
set_option maxHeartbeats 4000000
set_option exponentiation.threshold 10000
namespace Fp
open PySem PySem.Spec PyProof.Rows L2
abbrev s_any : Stmt := topS 47
theorem sc_any : FnScope ["_law_feed_here", "_law_way", "_law_row", "_law_step", "_law_turn"] ["_law_feed_here"] (defScope s_any) := ⟨rfl, rfl, rfl, by decide +kernel, rfl, by decide +kernel, by decide +kernel⟩
/-- a life as it is first drawn -/
def BaseLife (row : List RT) (step : RT) : Prop := (∃ ws extra, Made ws extra step ∧ row = rowOf ws extra step) ∨ (row = [] ∧ step = (0, 1))
/-- .. and made longer by one -/
def AnyLife (row : List RT) (step : RT) : Prop := BaseLife row step ∨
  (∃ row0 l, BaseLife row0 step ∧ row0.length ≤ 5 ∧ step ≠ (0, 1) ∧ row0[row0.length - 1]? = some l ∧ row = row0 ++ [rT l step]) ∨
  (∃ row0, BaseLife row0 (0, 1) ∧ row0.length ≤ 5 ∧ row = row0 ++ [(0, 1)] ∧ (step = (0, 1) ∨ step = (1, 3)))
theorem rowOf_len {ws : List Int} {extra : Int} {step : RT} : (rowOf ws extra step).length = ws.length := by
  unfold rowOf
  rw [List.length_map]
theorem BaseLife.len {row : List RT} {step : RT} (h : BaseLife row step) : row.length ≤ 6 := by
  rcases h with ⟨ws, extra, m, rfl⟩ | ⟨rfl, _⟩
  · rw [rowOf_len]
    exact m.len
  · decide
theorem BaseLife.ne {row : List RT} {step : RT} (h : BaseLife row step) (hs : step ≠ (0, 1)) : row ≠ [] := by
  rcases h with ⟨ws, extra, m, rfl⟩ | ⟨rfl, z⟩
  · intro z
    have := congrArg List.length z
    rw [rowOf_len, List.length_nil] at this
    exact m.ne (List.length_eq_zero_iff.mp this)
  · exact absurd z hs
/-- small ratios -/
def SmR (n : Nat) (x : RT) : Prop := Red x ∧ Sm n x.1 ∧ Sm n x.2
theorem low2_sm {t b : Int} {n : Nat} (hb : 0 < b) (h1 : Sm n t) (h2 : Sm n b) : SmR n (low2 t b) := ⟨low2_red (Int.ne_of_gt hb), ratT_sm hb h1, ratB_sm hb h2⟩
theorem SmR.mono {n m : Nat} {x : RT} (h : SmR n x) (l : n ≤ m) : SmR m x := ⟨h.1, h.2.1.mono l, h.2.2.mono l⟩
theorem rT_sm {x y : RT} {n m : Nat} (hx : SmR n x) (hy : SmR m y) : SmR (n + m) (rT x y) :=
  low2_sm (Int.mul_pos hx.1.1 hy.1.1) (hx.2.1.mul hy.2.1) (hx.2.2.mul hy.2.2)
theorem Made.sm {ws : List Int} {extra : Int} {step : RT} (m : Made ws extra step) : ∀ x ∈ rowOf ws extra step, SmR 10 x ∧ 0 ≤ x.1 := by
  intro x hx
  unfold rowOf at hx
  obtain ⟨y, hy, rfl⟩ := List.mem_map.mp hx
  obtain ⟨h1, h2⟩ := m.nn y hy
  obtain ⟨s1, s2, s3, _⟩ := m.step_ok
  obtain ⟨w0, w1⟩ := m.whole
  have hp : 0 ≤ (step.2 - step.1) * y := Int.mul_nonneg (by omega) h1
  have hq : (step.2 - step.1) * y ≤ 20 := by
    have : (step.2 - step.1) * y ≤ 4 * 5 := Int.mul_le_mul (by omega) h2 h1 (by decide)
    omega
  refine ⟨low2_sm w0 ?_ ?_, ?_⟩
  · unfold Sm
    omega
  · unfold Sm
    omega
  · obtain ⟨g1, ⟨z, hz⟩, _⟩ := ratG_pos (t := (step.2 - step.1) * y) w0
    have e : (low2 ((step.2 - step.1) * y) (wholeOf ws extra step)).1 = z := by
      show Int.fdiv _ _ = z
      have := Int.mul_fdiv_cancel_left z (Int.ne_of_gt g1)
      rw [← hz] at this
      exact this
    rw [e]
    rcases (by omega : 0 ≤ z ∨ z < 0) with q | q
    · exact q
    · have := Int.mul_neg_of_pos_of_neg g1 q
      omega
theorem BaseLife.sm {row : List RT} {step : RT} (h : BaseLife row step) : (∀ x ∈ row, SmR 10 x ∧ 0 ≤ x.1) ∧ SmR 4 step ∧ 0 ≤ step.1 ∧ step.1 < step.2 := by
  rcases h with ⟨ws, extra, m, rfl⟩ | ⟨rfl, rfl⟩
  · refine ⟨m.sm, ?_⟩
    rcases m.st with rfl | rfl | rfl | rfl | rfl <;> exact ⟨⟨⟨by decide, by decide⟩, by unfold Sm; decide, by unfold Sm; decide⟩, by decide, by decide⟩
  · exact ⟨fun x hx => by simp at hx, ⟨⟨⟨by decide, by decide⟩, by unfold Sm; decide, by unfold Sm; decide⟩, by decide, by decide⟩⟩
section
variable {P : Program} {w : World} {K : PySem.W.Frag} {mg : Str → Option Value} {base : Heap}
def spAny (K : PySem.W.Frag) : Sp := fun vs H Q _ => ∃ (d c : Addr) (t : Int), vs = [.ref d] ∧ Feed H d c t ∧ t ≤ 800000 ∧
  ∀ p row step t' H', Keep d H H' → Feed H' d c t' → t' ≤ t + 14 → AnyLife row step → LifeAt K H' p row step → Q (.ref p) H'
theorem ok_any {f fD fF fT : Addr} {fd fdD fdF fdT : FuncData} (F : Fun K "_law_any_life" "_law_any_life" s_any f fd) (FD : Fun K "_law_draw" "_law_draw" s_draw fD fdD) (bD : Binds K fdD ["_law_feed_here", "_law_many"] []) (gD : mg "_law_draw" = some (.ref fD))
    (GD : FnOk P w K mg base CX0 1 fD fdD ["_law_feed_here", "_law_many"] spDraw)
    (FF : Fun K "_law_life" "_law_life" s_life fF fdF) (bF : Binds K fdF ["_law_feed_here", "_law_way"] []) (gF : mg "_law_life" = some (.ref fF)) (GF : FnOk P w K mg base CX0 2 fF fdF ["_law_feed_here", "_law_way"] (spLife K))
    (FT : Fun K "_law_times" "_law_times" s_ltimes fT fdT) (bT : Binds K fdT ["_law_one", "_law_other"] []) (gT : mg "_law_times" = some (.ref fT)) (GT : FnOk P w K mg base CX0 2 fT fdT ["_law_one", "_law_other"] (spTwo K (fun a b c d => a * c)))
    (ml : mg "len" = none) : FnOk P w K mg base CX0 3 f fd ["_law_feed_here"] (spAny K) := by
  refine F.ok sc_any (fun vs H Q E h => ?_) (fun cdv A outer s H vs Q E hr2 h => ?_)
  · obtain ⟨_, _, _, rfl, _⟩ := h
    rfl
  · obtain ⟨d, c, t, rfl, f0, ht, q⟩ := h
    have hr := hr2.mono (show 1 ≤ 2 by decide)
    refine ⟨_, (pss_cons (ps_set (i := 1) sc_any.nd rfl (.inl rfl) (pe_call GD hr (by rfl) gD FD.kp bD .nil pass0 (pa_cons (pv 0) (pa_cons pe_int pa_nil)))) (pss_cons (ps_asg (pe_call GF hr2 (by rfl) gF FF.kp bF .nil pass0 (pa_cons (pv 0) (pa_cons (pe_op op_modN (pv 1) pe_int) pa_nil))) (pg_tup rfl (pgs_cons (pg_name (i := 2) sc_any.nd rfl (.inl rfl)) (pgs_cons (pg_name (i := 3) sc_any.nd rfl (.inl rfl)) pgs_nil)))) (pss_mid (ps_if (pt_cmpR op_eq (pv 1) pe_int (nomark _)) (pss_one (ps_asg (pe_tup (pa_cons (pe_tup pa_nil) (pa_cons (pe_tup (pa_cons pe_int (pa_cons pe_int pa_nil))) pa_nil))) (pg_tup rfl (pgs_cons (pg_name (i := 2) sc_any.nd rfl (.inl rfl)) (pgs_cons (pg_name (i := 3) sc_any.nd rfl (.inl rfl)) pgs_nil))))) pss_nil) (pss_cons (ps_set (i := 4) sc_any.nd rfl (.inl rfl) (pe_call GD hr (by rfl) gD FD.kp bD .nil pass0 (pa_cons (pv 0) (pa_cons pe_int pa_nil)))) (pss_cons (ps_if (PW.pt (pw_or (pt_cmpR op_gt (pv 4) pe_int (nomark _)) (pw_or1 (pt_cmpR op_gt (pe_callB call_len_seq (by rfl) ml PySem.boot_len (pa_cons (pv 2) pa_nil)) pe_int (nomark _))))) (pss_one (ps_ret (pe_tup (pa_cons (pv 2) (pa_cons (pv 3) pa_nil))))) pss_nil) (pss_cons (ps_if (pt_cmpR (op_neD hr.units) (pv 3) (pe_tup (pa_cons pe_int (pa_cons pe_int pa_nil))) (nomark _)) (pss_one (ps_ret (pe_tup (pa_cons (pe_op op_catA (pv 2) (pe_tup (pa_cons (pe_call GT hr2 (by rfl) gT FT.kp bT .nil pass0 (pa_cons (pe_ix ix_tup (pv 2) (pe_un un_neg pe_int) (fun _ _ => rfl)) (pa_cons (pv 3) pa_nil))) pa_nil))) (pa_cons (pv 3) pa_nil))))) pss_nil) (pss_one (ps_ret (pe_tup (pa_cons (pe_op op_catA (pv 2) (pe_tup (pa_cons (pe_tup (pa_cons pe_int (pa_cons pe_int pa_nil))) pa_nil))) (pa_cons (pe_ix ix_list (pe_lst (pa_cons (pe_tup (pa_cons pe_int (pa_cons pe_int pa_nil))) (pa_cons (pe_tup (pa_cons pe_int (pa_cons pe_int pa_nil))) pa_nil))) (pv 4) (fun _ _ => rfl)) pa_nil))))))))))), ?_⟩
    refine ⟨_, rfl, d, c, 8, t, rfl, f0, by omega, by decide, by decide, fun way H1 hw0 hw1 k1 f1 => ?_⟩
    refine ⟨_, rfl, _, rfl, way, 6, rfl, rfl, by show (6 : Int) ≠ 0; decide, d, c, _, t + 1, rfl, f1, by omega, fun p ws extra step t2 H2 k2 f2 ht2 M _ _ _ L2' => ?_⟩
    obtain ⟨pr, ps, l1, l2, l3⟩ := L2'
    refine ⟨p, _, rfl, l1, rfl, _, _, rfl, _, _, rfl, rfl, ?_⟩
    have K2 := k1.trans k2
    refine ⟨fun σ H3 => ∃ (pr ps : Addr) (row : List RT) (step : RT), σ = [some (.ref d), some (.int way), some (.ref pr), some (.ref ps), none] ∧ Keep d H H3 ∧ Feed H3 d c t2 ∧ BaseLife row step ∧ RowAt K H3 pr row ∧ RAt K H3 ps step, ?_, ?_⟩
    · refine ⟨_, rfl, rfl, _, rfl, ite2 (fun c7 => ?_) (fun c7 => ?_)⟩
      · refine ⟨by show 0 ≤ sizeLine; decide, fun a na => ?_⟩
        have e1 := same_new (o := HO.tup []) na
        refine ⟨by show 2 ≤ sizeLine; decide, fun b nb => ?_⟩
        have e2 := same_new (o := HO.tup [.int 0, .int 1]) nb
        refine ⟨by show 2 ≤ sizeLine; decide, fun z nz => ?_⟩
        have e3 := same_new (o := HO.tup [.ref a, .ref b]) nz
        have S := e1.trans (e2.trans e3)
        exact ⟨z, _, rfl, SqT.of upd_same, rfl, _, _, rfl, _, _, rfl, rfl, a, b, [], (0, 1), rfl, K2.trans (Keep.of_same S), f2.same S, .inr ⟨rfl, rfl⟩, ⟨[], SqT.of (e3 _ _ (e2 _ _ upd_same)), .nil⟩, SqT.of (e3 _ _ upd_same)⟩
      · exact ⟨pr, ps, _, step, rfl, K2, f2, .inl ⟨ws, extra, M, rfl⟩, l2, l3⟩
    clear l1 l2 l3 M
    rintro σ H3 ⟨pr, ps, row, step, rfl, K3, f3, B, hrow, hstep⟩
    obtain ⟨sm1, sm2, st0, st1⟩ := B.sm
    have hlen := B.len
    refine ⟨_, rfl, d, c, 4, t2, rfl, f3, by omega, by decide, by decide, fun turn H4 h0 h1 k4 f4 => ?_⟩
    have K4 := K3.trans k4
    have tk4 : Tk K H3 H4 := Tk.keep f3 k4
    have hrow4 := hrow.tk tk4
    have hstep4 := hstep.tk tk4
    have keepIt : ∀ a, H4 a = none → Q (.ref a) (upd H4 a (.tup [.ref pr, .ref ps])) := fun a na => by
      have e1 := same_new (o := HO.tup [.ref pr, .ref ps]) na
      exact q a row step (t2 + 1) _ (K4.trans (Keep.of_same e1)) (f4.same e1) (by omega) (.inl B) ⟨pr, ps, SqT.of upd_same, hrow4.tk (Tk.same e1), hstep4.tk (Tk.same e1)⟩
    refine ⟨_, rfl, turn, 1, rfl, rfl, _, rfl, ite2 (fun c1 => ?_) (fun c1 => ?_)⟩
    · exact iteT ⟨_, rfl, _, rfl, by show 2 ≤ sizeLine; decide, keepIt⟩
    have hturn : turn ≤ 1 := by
      have : ¬ (1 < turn) := fun z => c1 (decide_eq_true z)
      omega
    obtain ⟨rs, r1, r2⟩ := id hrow4
    have rlen := r2.length
    refine ⟨_, rfl, pr, _, rfl, .inr r1, _, 5, rfl, rfl, _, rfl, ite2 (fun c2 => ?_) (fun c2 => ?_)⟩
    · exact ⟨_, rfl, _, rfl, by show 2 ≤ sizeLine; decide, keepIt⟩
    have hl5 : row.length ≤ 5 := by
      have : ¬ ((5 : Int) < ((rs.map V.ref).length : Nat)) := fun z => c2 (decide_eq_true z)
      rw [List.length_map] at this
      omega
    -- step != (0, 1)
    refine ⟨_, rfl, by show 2 ≤ sizeLine; decide, fun a na => ?_⟩
    have e1 := same_new (o := HO.tup [.int 0, .int 1]) na
    refine ne_rat (hstep4.tk (Tk.same e1)) (y := (0, 1)) (SqT.of upd_same) ⟨_, rfl, ?_⟩
    have f5 := f4.same e1
    have K5 := K4.trans (Keep.of_same e1)
    have hrow5 := hrow4.tk (Tk.same e1)
    have hstep5 := hstep4.tk (Tk.same e1)
    refine ite2 (fun c3 => ?_) (fun c3 => ?_)
    · have hs : step ≠ (0, 1) := fun z => by
        rw [z] at c3
        exact absurd c3 (by decide)
      have hne := B.ne hs
      have hpos := List.length_pos_iff.mpr hne
      have hget : row[row.length - 1]? = some (row.getLast hne) := by
        rw [List.getLast_eq_getElem]
        exact List.getElem?_eq_getElem _
      have smL := (sm1 (row.getLast hne) (List.getLast_mem hne)).1
      refine ⟨_, rfl, _, rfl, 1, rfl, ?_⟩
      refine ix_back (k := 1) hrow5 (by decide) (by omega) hget fun r hr3 => ?_
      refine ⟨_, rfl, r, ps, _, _, _, _, rfl, ⟨hr3, hstep5, smL.2.1.mono (by decide), smL.2.2.mono (by decide), sm2.2.1.mono (by decide), sm2.2.2.mono (by decide), smL.1.1, sm2.1.1⟩, fun b nb => ?_⟩
      have e2 := same_new (o := HO.tup [.int (rT (row.getLast hne) step).1, .int (rT (row.getLast hne) step).2]) nb
      refine ⟨by show 1 ≤ sizeLine; decide, fun b2 nb2 => ?_⟩
      have e3 := same_new (o := HO.tup [.ref b]) nb2
      refine cat_row (hrow5.tk (Tk.same (e2.trans e3))) (ys := [rT (row.getLast hne) step]) ⟨[b], SqT.of upd_same, .cons (SqT.of (e3 _ _ upd_same)) .nil⟩ (by simp; omega) fun z H6 s6 hz => ?_
      have S := e2.trans (e3.trans s6)
      refine ⟨_, rfl, by show 2 ≤ sizeLine; decide, fun y ny => ?_⟩
      have e4 := same_new (o := HO.tup [.ref z, .ref ps]) ny
      exact q y _ step (t2 + 1) _ (K5.trans ((Keep.of_same S).trans (Keep.of_same e4))) ((f5.same S).same e4) (by omega) (.inr (.inl ⟨row, _, B, hl5, hs, hget, rfl⟩)) ⟨z, ps, SqT.of upd_same, hz.tk (Tk.same e4), hstep5.tk (Tk.same (S.trans e4))⟩
    · have hs : step = (0, 1) := by
        rcases Classical.em (step = (0, 1)) with z | z
        · exact z
        · exact absurd (show (!decide (step = (0, 1))) = true by simp [z]) c3
      subst hs
      refine ⟨_, rfl, by show 2 ≤ sizeLine; decide, fun b nb => ?_⟩
      have e2 := same_new (o := HO.tup [.int 0, .int 1]) nb
      refine ⟨by show 1 ≤ sizeLine; decide, fun b2 nb2 => ?_⟩
      have e3 := same_new (o := HO.tup [.ref b]) nb2
      refine cat_row (hrow5.tk (Tk.same (e2.trans e3))) (ys := [(0, 1)]) ⟨[b], SqT.of upd_same, .cons (SqT.of (e3 _ _ upd_same)) .nil⟩ (by simp; omega) fun z H6 s6 hz => ?_
      have S := e2.trans (e3.trans s6)
      refine ⟨by show 2 ≤ sizeLine; decide, fun g1 m1 => ?_⟩
      have e4 := same_new (o := HO.tup [.int 0, .int 1]) m1
      refine ⟨by show 2 ≤ sizeLine; decide, fun g2 m2 => ?_⟩
      have e5 := same_new (o := HO.tup [.int 1, .int 3]) m2
      refine ⟨by show 2 ≤ sizeLine; decide, fun g3 m3 => ?_⟩
      have e6 := same_new (o := HO.lst [.ref g1, .ref g2]) m3
      have S2 := e4.trans (e5.trans e6)
      obtain ⟨v, ev, cv⟩ := pick2' (a := V.ref g1) (b := V.ref g2) (r := turn) h0 (by omega)
      obtain ⟨g, st, rfl, hst, hg⟩ : ∃ (g : Addr) (st : RT), v = .ref g ∧ (st = (0, 1) ∨ st = (1, 3)) ∧ RAt K (upd (upd (upd H6 g1 (HO.tup [.int 0, .int 1])) g2 (HO.tup [.int 1, .int 3])) g3 (HO.lst [.ref g1, .ref g2])) g st := by
        rcases cv with y | y
        · exact ⟨g1, (0, 1), y, .inl rfl, SqT.of (e6 _ _ (e5 _ _ upd_same))⟩
        · exact ⟨g2, (1, 3), y, .inr rfl, SqT.of (e6 _ _ upd_same)⟩
      refine ⟨_, rfl, g3, _, turn, _, rfl, rfl, SqL.of upd_same, ev, by show 2 ≤ sizeLine; decide, fun y ny => ?_⟩
      have e7 := same_new (o := HO.tup [.ref z, .ref g]) ny
      have S3 := S.trans (S2.trans e7)
      exact q y _ st (t2 + 1) _ (K5.trans (Keep.of_same S3)) (f5.same S3) (by omega) (.inr (.inr ⟨row, B, hl5, rfl, hst⟩)) ⟨z, g, SqT.of upd_same, hz.tk (Tk.same (S2.trans e7)), hg.tk (Tk.same e7)⟩
end

end Fp

set_option Elab.async false
set_option linter.all false
set_option maxRecDepth 100000
set_option maxHeartbeats 4000000
set_option exponentiation.threshold 10000
namespace Fp
open PySem PySem.Spec PyProof.Rows L2
/-! ### ratios by their value -/
def qv (x : RT) : Rat := (x.1 : Rat) / (x.2 : Rat)
theorem cast_ne {b : Int} (h : b ≠ 0) : (b : Rat) ≠ 0 := fun z => h (Rat.intCast_inj.mp (by simpa using z))
theorem qv_low2 {t b : Int} (hb : 0 < b) : qv (low2 t b) = (t : Rat) / (b : Rat) := by
  have e := low2_cross (t := t) hb
  have hp : (low2 t b).2 ≠ 0 := Int.ne_of_gt (low2_red (t := t) (Int.ne_of_gt hb)).1
  have h1 := cast_ne hp
  have h2 := cast_ne (Int.ne_of_gt hb)
  have e2 : ((low2 t b).1 : Rat) * (b : Rat) = (t : Rat) * ((low2 t b).2 : Rat) := by
    rw [← Rat.intCast_mul, ← Rat.intCast_mul, e]
  unfold qv
  grind
theorem qv_inj {x y : RT} (hx : Red x) (hy : Red y) (h : qv x = qv y) : x = y := by
  refine red_eq hx hy ?_
  have h1 := cast_ne (Int.ne_of_gt hx.1)
  have h2 := cast_ne (Int.ne_of_gt hy.1)
  unfold qv at h
  refine Rat.intCast_inj.mp ?_
  rw [Rat.intCast_mul, Rat.intCast_mul]
  grind
theorem qv_rT {x y : RT} (hx : Red x) (hy : Red y) : Red (rT x y) ∧ qv (rT x y) = qv x * qv y := by
  have hb := Int.mul_pos hx.1 hy.1
  refine ⟨low2_red (Int.ne_of_gt hb), ?_⟩
  unfold rT
  rw [qv_low2 hb, Rat.intCast_mul, Rat.intCast_mul]
  have h1 := cast_ne (Int.ne_of_gt hx.1)
  have h2 := cast_ne (Int.ne_of_gt hy.1)
  unfold qv
  grind
/-- a by b, whatever the terms -/
theorem qv_of {x : RT} {n D : Int} (hx : Red x) (hD : 0 < D) (h : qv x = (n : Rat) / (D : Rat)) : x = low2 n D := qv_inj hx (low2_red (Int.ne_of_gt hD)) (by rw [qv_low2 hD]; exact h)
/-- in lowest terms no part is greater than by other terms -/
theorem red_small {x : RT} {n D : Int} (hx : Red x) (hD : 0 < D) (h : qv x = (n : Rat) / (D : Rat)) : x.2 ∣ D ∧ x.1.natAbs ≤ n.natAbs := by
  have e := qv_of hx hD h
  obtain ⟨g1, g2, g3⟩ := ratG_pos (t := n) hD
  have e1 : x.1 = n.fdiv (ratG n D) := congrArg Prod.fst e
  have e2 : x.2 = D.fdiv (ratG n D) := congrArg Prod.snd e
  refine ⟨?_, ?_⟩
  · rw [e2]
    obtain ⟨y, hy⟩ := g3
    have z := Int.mul_fdiv_cancel_left y (Int.ne_of_gt g1)
    rw [← hy] at z
    rw [z]
    exact ⟨ratG n D, by rw [Int.mul_comm]; exact hy⟩
  · rw [e1]
    exact fdiv_le g1 g2
theorem dvd_small {a b : Int} {n : Nat} (h : a ∣ b) (hb : 0 < b) (s : Sm n b) : Sm n a := by
  unfold Sm at *
  exact Nat.lt_of_le_of_lt (Nat.le_of_dvd (by omega) (Int.natAbs_dvd_natAbs.mpr h)) s
/-- the value told over any number that its bottom divides -/
theorem qv_over {x : RT} {D : Int} (hx : 0 < x.2) (h : x.2 ∣ D) (hD : 0 < D) : qv x = ((x.1 * (D / x.2) : Int) : Rat) / (D : Rat) := by
  obtain ⟨y, hy⟩ := h
  have h1 := cast_ne (Int.ne_of_gt hx)
  have e : D / x.2 = y := by
    rw [hy]
    exact Int.mul_ediv_cancel_left y (Int.ne_of_gt hx)
  have h2 := cast_ne (Int.ne_of_gt hD)
  have h3 : (D : Rat) = (x.2 : Rat) * (y : Rat) := by rw [← Rat.intCast_mul, hy]
  unfold qv
  rw [e, Rat.intCast_mul]
  grind
/-- the bottoms of some, multiplied -/
def prodB (xs : List RT) : Int := (xs.map (·.2)).foldr (· * ·) 1
theorem prodB_pos : ∀ {xs : List RT}, (∀ x ∈ xs, 0 < x.2) → 0 < prodB xs
  | [], _ => by decide
  | x :: r, h => Int.mul_pos (h x (List.mem_cons_self ..)) (prodB_pos fun y hy => h y (List.mem_cons_of_mem _ hy))
theorem prodB_dvd : ∀ {xs : List RT} {x : RT}, x ∈ xs → x.2 ∣ prodB xs
  | y :: r, x, h => by
    rcases List.mem_cons.mp h with rfl | h
    · exact Int.dvd_mul_right ..
    · exact Int.dvd_trans (prodB_dvd h) (Int.dvd_mul_left ..)
theorem prodB_sm {n : Nat} : ∀ {xs : List RT}, (∀ x ∈ xs, Sm n x.2) → Sm (n * xs.length + 1) (prodB xs)
  | [], _ => by
    unfold Sm
    show 1 < 2 ^ (n * 0 + 1)
    simp
  | x :: r, h => by
    have h1 := (h x (List.mem_cons_self ..)).mul (prodB_sm fun y hy => h y (List.mem_cons_of_mem _ hy))
    refine h1.mono ?_
    rw [List.length_cons, Nat.mul_add]
    omega

end Fp

set_option Elab.async false
set_option linter.all false
set_option maxRecDepth 100000
set_option maxHeartbeats 4000000
set_option exponentiation.threshold 10000
namespace Fp
open PySem PySem.Spec PyProof.Rows L2
/-! ### rows on one bottom, added -/
abbrev s_oob : Stmt := topS 12
abbrev s_added : Stmt := topS 13
abbrev N_oob : List Str := ["told", "common", "top", "bottom"]
theorem sc_oob : FnScope N_oob ["told"] (defScope s_oob) := ⟨rfl, rfl, rfl, by decide +kernel, rfl, by decide +kernel, by decide +kernel⟩
theorem sc_added : FnScope ["told", "tops", "bottom"] ["told"] (defScope s_added) := ⟨rfl, rfl, rfl, by decide +kernel, rfl, by decide +kernel, by decide +kernel⟩
/-- a list of ratios -/
def LstAt (K : PySem.W.Frag) (H : Hp) (p : Addr) (xs : List RT) : Prop := ∃ rs : List Addr, SqL K H p (rs.map V.ref) ∧ RsAt K H rs xs
theorem LstAt.same {K : PySem.W.Frag} {H H' : Hp} {p : Addr} {xs : List RT} (h : LstAt K H p xs) (e : Same H H') : LstAt K H' p xs := by
  obtain ⟨rs, h1, h2⟩ := h
  exact ⟨rs, e.seq h1, h2.tk (Tk.same e)⟩
/-- all over one number -/
structure Over1 (n d : Nat) (D : Int) (xs : List RT) : Prop where
  pos : 0 < D
  sm : Sm d D
  ok : ∀ x ∈ xs, 0 < x.2 ∧ x.2 ∣ D ∧ Sm n x.1
  len : xs.length ≤ 1000
def topsOn (c : Int) (xs : List RT) : List Int := xs.map fun x => x.1 * (c / x.2)
theorem lcm_ok {c b D : Int} (hc : 0 < c) (hb : 0 < b) (h1 : c ∣ D) (h2 : b ∣ D) : 0 < c.fdiv (Int.gcd c b : Nat) * b ∧ c.fdiv (Int.gcd c b : Nat) * b ∣ D ∧ c ∣ c.fdiv (Int.gcd c b : Nat) * b ∧ b ∣ c.fdiv (Int.gcd c b : Nat) * b := by
  have hg : 0 < Int.gcd c b := Nat.gcd_pos_of_pos_right _ (by omega)
  obtain ⟨x, hx⟩ : ((Int.gcd c b : Nat) : Int) ∣ c := Int.gcd_dvd_left ..
  obtain ⟨y, hy⟩ : ((Int.gcd c b : Nat) : Int) ∣ b := Int.gcd_dvd_right ..
  generalize hgg : ((Int.gcd c b : Nat) : Int) = g at *
  have g0 : 0 < g := by omega
  have e : c.fdiv g = x := by
    have := Int.mul_fdiv_cancel_left x (Int.ne_of_gt g0)
    rw [← hx] at this
    exact this
  have x0 : 0 < x := by
    rcases (by omega : 0 < x ∨ x ≤ 0) with z | z
    · exact z
    · have := Int.mul_nonpos_of_nonneg_of_nonpos (Int.le_of_lt g0) z
      omega
  have cop : Int.gcd x y = 1 := by
    have z : Int.gcd c b = g.natAbs * Int.gcd x y := by
      have := Int.gcd_mul_left g x y
      rw [← hx, ← hy] at this
      exact this
    have z2 : g.natAbs = Int.gcd c b := by rw [← hgg]; exact Int.natAbs_natCast _
    rw [z2] at z
    exact (Nat.eq_of_mul_eq_mul_left hg (by rw [Nat.mul_one]; exact z)).symm
  rw [e]
  refine ⟨Int.mul_pos x0 hb, ?_, ⟨y, ?_⟩, Int.dvd_mul_left ..⟩
  · obtain ⟨u, hu⟩ := h1
    have h3 : y ∣ x * u := by
      have : g * y ∣ g * (x * u) := by
        rw [← Int.mul_assoc, ← hx, ← hu, ← hy]
        exact h2
      exact Int.dvd_of_mul_dvd_mul_left (Int.ne_of_gt g0) this
    obtain ⟨v, hv⟩ := dvd_cop h3 (by rw [Int.gcd_comm]; exact cop)
    refine ⟨v, ?_⟩
    rw [hu, hv, hx, hy]
    rw [Int.mul_assoc g x, ← Int.mul_assoc x y v, Int.mul_comm x (g * y), Int.mul_assoc g y x, Int.mul_assoc g (y * x) v, Int.mul_comm y x]
  · rw [hy, hx, Int.mul_comm g x, Int.mul_assoc]
theorem tops_sum {c : Int} (hc : 0 < c) : ∀ {xs : List RT}, (∀ x ∈ xs, 0 < x.2 ∧ x.2 ∣ c) → (((topsOn c xs).sum : Int) : Rat) / (c : Rat) = (xs.map qv).sum
  | [], _ => by
    show ((0 : Int) : Rat) / (c : Rat) = 0
    have := cast_ne (Int.ne_of_gt hc)
    grind
  | x :: r, h => by
    have h1 := h x (List.mem_cons_self ..)
    have h2 := tops_sum hc (xs := r) fun y hy => h y (List.mem_cons_of_mem _ hy)
    have e := qv_over h1.1 h1.2 hc
    show (((x.1 * (c / x.2) :: topsOn c r).sum : Int) : Rat) / (c : Rat) = (qv x :: r.map qv).sum
    rw [List.sum_cons, List.sum_cons, ← h2, e, Rat.intCast_add]
    have := cast_ne (Int.ne_of_gt hc)
    grind
theorem tops_sm {n d : Nat} {c D : Int} (hc : 0 < c) (hD : 0 < D) (hcD : c ∣ D) (sD : Sm d D) : ∀ {xs : List RT}, (∀ x ∈ xs, 0 < x.2 ∧ Sm n x.1) → (topsOn c xs).sum.natAbs ≤ xs.length * 2 ^ (n + d)
  | [], _ => by
    show (0 : Int).natAbs ≤ 0 * _
    simp
  | x :: r, h => by
    have h1 := h x (List.mem_cons_self ..)
    have h2 := tops_sm hc hD hcD sD (xs := r) fun y hy => h y (List.mem_cons_of_mem _ hy)
    have sc : Sm d c := dvd_small hcD hD sD
    have sq : Sm d (c / x.2) := by
      unfold Sm at *
      have a : (c / x.2).natAbs ≤ c.natAbs := Int.natAbs_ediv_le_natAbs ..
      omega
    have sp : Sm (n + d) (x.1 * (c / x.2)) := h1.2.mul sq
    show (x.1 * (c / x.2) :: topsOn c r).sum.natAbs ≤ (r.length + 1) * _
    rw [List.sum_cons, Nat.add_mul]
    unfold Sm at sp
    have := Int.natAbs_add_le (x.1 * (c / x.2)) (topsOn c r).sum
    omega
section
variable {P : Program} {w : World} {K : PySem.W.Frag} {mg : Str → Option Value} {base : Heap}
def spOob (K : PySem.W.Frag) : Sp := fun vs H Q _ => ∃ (p : Addr) (xs : List RT) (n d : Nat) (D : Int), vs = [.ref p] ∧ LstAt K H p xs ∧ Over1 n d D xs ∧ n ≤ 4000 ∧ d ≤ 4000 ∧
  ∀ z zl c H', Same H H' → H' z = some (.tup [.ref zl, .int c]) → H' zl = some (.lst ((topsOn c xs).map V.int)) → 0 < c → c ∣ D → (∀ x ∈ xs, x.2 ∣ c) → Q (.ref z) H'
theorem ok_oob {f fC : Addr} {fd fdC : FuncData} (F : Fun K "on_one_bottom" "on_one_bottom" s_oob f fd) (FC : Fun K "common_divisor" "common_divisor" s_cd fC fdC) (bC : Binds K fdC ["one", "other"] []) (gC : mg "common_divisor" = some (.ref fC)) (ma : mg "abs" = none) :
    FnOk P w K mg base CX0 2 f fd ["told"] (spOob K) := by
  have GC : FnOk P w K mg base CX0 1 fC fdC ["one", "other"] spCd := ok_cd FC ma
  refine F.ok sc_oob (fun vs H Q E h => ?_) (fun cdv A outer s H vs Q E hr h => ?_)
  · obtain ⟨_, _, _, _, _, rfl, _⟩ := h
    rfl
  · obtain ⟨p, xs, n, d, D, rfl, hlst, O, hn, hd, q⟩ := h
    obtain ⟨rs, r1, r2⟩ := id hlst
    have hl := r2.length
    refine ⟨_, (pss_cons (ps_set (i := 1) sc_oob.nd rfl (.inr rfl) pe_int) (pss_cons (ps_for PassesOwn.never rfl (pi_list (pv 0)) (pg_tup rfl (pgs_cons (pg_name (i := 2) sc_oob.nd rfl (.inl rfl)) (pgs_cons (pg_name (i := 3) sc_oob.nd rfl (.inl rfl)) pgs_nil)))
          (pss_one (ps_set (i := 1) sc_oob.nd rfl (.inr rfl) (pe_op op_mulA (pe_op op_fdivA (pv 1) (pe_call GC hr (by rfl) gC FC.kp bC .nil pass0 (pa_cons (pv 1) (pa_cons (pv 3) pa_nil)))) (pv 3))))) (pss_one (ps_ret (pe_tup (pa_cons (pe_lc (own := [("top", 2), ("bottom", 3)]) (g := gTup K 2 (gCons (gName 2) (gCons (gName 3) gNil))) (tt := tYes) (te := tOp (rI CMulA fun i j => .int (i * j)) (tVar 2) (tOp (rI CDivA fun i j => .int (i.fdiv j)) (tVar 1) (tVar 3))) rfl sc_oob.nd (pi_list (pv 0)) (blkOk_by (own := [("top", 2), ("bottom", 3)]) (N := N_oob) (sc := defScope s_oob) (by decide +kernel))
          (fun _ _ _ _ _ => pg_tup rfl (pgs_cons (pg_name (i := 2) sc_oob.nd rfl (.inl rfl)) (pgs_cons (pg_name (i := 3) sc_oob.nd rfl (.inl rfl)) pgs_nil))) (fun _ _ _ _ _ => pts_nil) (fun _ _ _ _ _ => pe_op op_mulA (pv 2) (pe_op op_fdivA (pv 1) (pv 3)))) (pa_cons (pv 1) pa_nil))))))), ?_⟩
    refine ⟨_, rfl, p, rfl, ⟨_, r1⟩, for_list (K := K) (a := p) (xs := rs.map V.ref) (fun i σ H1 => H1 = H ∧ ∃ (c : Int) (y2 y3 : Option V), σ = [some (.ref p), some (.int c), y2, y3] ∧ 0 < c ∧ c ∣ D ∧ ∀ x ∈ xs.take i, x.2 ∣ c) ?_ ?_ ?_ ?_⟩
    · exact ⟨rfl, 1, _, _, rfl, by decide, Int.one_dvd D, fun x hx => by simp at hx⟩
    · rintro i σ H1 _ ⟨rfl, _⟩
      exact r1
    · rintro i y σ H1 hi ⟨rfl, c, y2, y3, rfl, c0, cD, hc⟩
      have hi2 : i < xs.length := by
        have := (List.getElem?_eq_some_iff.mp hi).1
        rw [List.length_map, hl] at this
        exact this
      have hg : xs[i]? = some xs[i] := List.getElem?_eq_getElem hi2
      obtain ⟨r, er, hr2⟩ := r2.get hg
      have ey : y = .ref r := by
        rw [List.getElem?_map, er] at hi
        exact (Option.some.inj hi).symm
      subst ey
      obtain ⟨b0, bD, _⟩ := O.ok xs[i] (List.getElem_mem hi2)
      have sc : Sm d c := dvd_small cD O.pos O.sm
      have sb : Sm d xs[i].2 := dvd_small bD O.pos O.sm
      have hg0 : 0 < Int.gcd c xs[i].2 := Nat.gcd_pos_of_pos_right _ (by omega)
      have hgs : Sm d ((Int.gcd c xs[i].2 : Nat) : Int) := by
        unfold Sm at *
        rw [Int.natAbs_natCast]
        exact Nat.lt_of_le_of_lt (Nat.gcd_le_right _ (by omega)) sb
      have d0 : 0 < d := by
        rcases Nat.eq_zero_or_pos d with z | z
        · rw [z] at sc
          unfold Sm at sc
          omega
        · exact z
      have hq1 : Sm d (c.fdiv ((Int.gcd c xs[i].2 : Nat) : Int)) := Nat.lt_of_le_of_lt (fdiv_le (by omega) (Int.gcd_dvd_left ..)) sc
      obtain ⟨k0, k1, k2, k3⟩ := lcm_ok c0 b0 cD bD
      refine ⟨r, _, rfl, hr2, rfl, _, _, rfl, _, _, rfl, rfl, ?_⟩
      refine ⟨_, rfl, _, rfl, _, rfl, c, xs[i].2, rfl, ?_⟩
      refine ⟨c, _, rfl, rfl, ⟨by omega, Nat.lt_of_lt_of_le (hgs.log d0) (by omega)⟩, _, rfl, _, _, rfl, rfl, hq1.cmul sb d0 d0 (by omega), rfl, _, _, _, rfl, k0, k1, fun x hx => ?_⟩
      rw [List.take_add_one, hg] at hx
      rcases List.mem_append.mp hx with z | z
      · exact Int.dvd_trans (hc x z) k2
      · rw [List.mem_singleton.mp z]
        exact k3
    · rintro σ H1 ⟨rfl, c, y2, y3, rfl, c0, cD, hc⟩
      rw [List.length_map, hl, List.take_length] at hc
      have sc : Sm d c := dvd_small cD O.pos O.sm
      have d0 : 0 < d := by
        rcases Nat.eq_zero_or_pos d with z | z
        · rw [z] at sc
          unfold Sm at sc
          omega
        · exact z
      refine ⟨_, rfl, p, rfl, ⟨_, r1⟩, fun R nR => ?_⟩
      have e1 := same_new (o := HO.lst []) nR
      refine lc_list (K := K) (a := p) (xs := rs.map V.ref) (fun i H2 => Same H1 H2 ∧ H2 R = some (.lst ((topsOn c (xs.take i)).map V.int))) ?_ ?_ ?_ ?_
      · exact ⟨e1, upd_same⟩
      · rintro i H2 _ ⟨s2, _⟩
        exact s2.seq r1
      · rintro i y H2 hi ⟨s2, hR⟩
        have hi2 : i < xs.length := by
          have := (List.getElem?_eq_some_iff.mp hi).1
          rw [List.length_map, hl] at this
          exact this
        have hg : xs[i]? = some xs[i] := List.getElem?_eq_getElem hi2
        obtain ⟨r, er, hr2⟩ := r2.get hg
        have ey : y = .ref r := by
          rw [List.getElem?_map, er] at hi
          exact (Option.some.inj hi).symm
        subst ey
        obtain ⟨b0, bD, sn⟩ := O.ok xs[i] (List.getElem_mem hi2)
        have sb : Sm d xs[i].2 := dvd_small bD O.pos O.sm
        have hdv := hc xs[i] (List.getElem_mem hi2)
        have ef : c.fdiv xs[i].2 = c / xs[i].2 := Int.fdiv_eq_ediv_of_nonneg _ (by omega)
        have sq : Sm d (c.fdiv xs[i].2) := Nat.lt_of_le_of_lt (fdiv_le b0 hdv) sc
        refine ⟨r, _, rfl, hr2.tk (Tk.same s2), rfl, _, _, rfl, _, _, rfl, rfl, rfl, tYes_go ?_⟩
        refine iteT ?_
        refine ⟨_, rfl, _, rfl, _, rfl, c, xs[i].2, rfl, rfl, ⟨by omega, Nat.lt_of_lt_of_le (sb.log d0) (by omega)⟩, _, _, rfl, rfl, (sn.mono (show n ≤ n + 1 by omega)).cmul sq (by omega) d0 (by omega), _, hR, ?_, ?_, ?_⟩
        · rw [List.length_map]
          unfold topsOn
          rw [List.length_map, List.length_take]
          have := O.len
          exact small1000 (by omega)
        · intro b o hb
          rw [upd_ne (ne_of_none hb nR)]
          exact s2 _ _ hb
        · rw [upd_same, List.take_add_one, hg]
          unfold topsOn
          rw [List.map_append, List.map_append, ef]
          rfl
      · rintro H2 ⟨s2, hR⟩
        rw [List.length_map, hl, List.take_length] at hR
        refine ⟨_, rfl, by show 2 ≤ sizeLine; decide, fun z nz => ?_⟩
        have e2 := same_new (o := HO.tup [.ref R, .int c]) nz
        exact q z R c _ (s2.trans e2) upd_same (e2 _ _ hR) c0 cD hc
def spAdded (K : PySem.W.Frag) : Sp := fun vs H Q _ => ∃ (p : Addr) (xs : List RT) (n d : Nat) (D : Int), vs = [.ref p] ∧ LstAt K H p xs ∧ Over1 n d D xs ∧ n ≤ 4000 ∧ d ≤ 4000 ∧
  ∀ z x H', Same H H' → RAt K H' z x → Red x → qv x = (xs.map qv).sum → x.2 ∣ D → Sm (n + d + 11) x.1 → Q (.ref z) H'
theorem ok_added {f fO fR : Addr} {fd fdO fdR : FuncData} (F : Fun K "added" "added" s_added f fd) (FO : Fun K "on_one_bottom" "on_one_bottom" s_oob fO fdO) (bO : Binds K fdO ["told"] []) (gO : mg "on_one_bottom" = some (.ref fO)) (GO : FnOk P w K mg base CX0 2 fO fdO ["told"] (spOob K))
    (FR : Fun K "ratio" "ratio" s_ratio fR fdR) (bR : Binds K fdR ["top", "bottom"] []) (gR : mg "ratio" = some (.ref fR)) (GR : FnOk P w K mg base CX0 2 fR fdR ["top", "bottom"] spRat0) (ms : mg "sum" = none) : FnOk P w K mg base CX0 3 f fd ["told"] (spAdded K) := by
  refine F.ok sc_added (fun vs H Q E h => ?_) (fun cdv A outer s H vs Q E hr h => ?_)
  · obtain ⟨_, _, _, _, _, rfl, _⟩ := h
    rfl
  · obtain ⟨p, xs, n, d, D, rfl, hlst, O, hn, hd, q⟩ := h
    refine ⟨_, (pss_cons (ps_asg (pe_call GO hr (by rfl) gO FO.kp bO .nil pass0 (pa_cons (pv 0) pa_nil)) (pg_tup rfl (pgs_cons (pg_name (i := 1) sc_added.nd rfl (.inl rfl)) (pgs_cons (pg_name (i := 2) sc_added.nd rfl (.inl rfl)) pgs_nil)))) (pss_one (ps_ret (pe_call GR hr (by rfl) gR FR.kp bR .nil pass0 (pa_cons (pe_callB (cr_sum rfl) (by rfl) ms (by decide +kernel) (pa_cons (pv 1) pa_nil)) (pa_cons (pv 2) pa_nil)))))), ?_⟩
    refine ⟨_, rfl, p, xs, n, d, D, rfl, hlst, O, hn, hd, fun z zl c H1 s1 hz hzl c0 cD hc => ?_⟩
    refine ⟨z, _, rfl, SqT.of hz, rfl, _, _, rfl, _, _, rfl, rfl, ?_⟩
    have sc : Sm d c := dvd_small cD O.pos O.sm
    refine ⟨_, rfl, zl, _, rfl, SqL.of hzl, _, rfl, _, c, rfl, sc.mono (show d ≤ 8000 by omega), Int.ne_of_gt c0, fun y ny => ?_⟩
    have e := same_new (o := HO.tup [.int (ratT (topsOn c xs).sum c), .int (ratB (topsOn c xs).sum c)]) ny
    have red : Red (low2 (topsOn c xs).sum c) := low2_red (Int.ne_of_gt c0)
    have val : qv (low2 (topsOn c xs).sum c) = (((topsOn c xs).sum : Int) : Rat) / (c : Rat) := qv_low2 c0
    obtain ⟨y1, y2⟩ := red_small red c0 val
    refine q y (low2 (topsOn c xs).sum c) _ (s1.trans e) (SqT.of upd_same) red (val.trans (tops_sum c0 fun x hx => ⟨(O.ok x hx).1, hc x hx⟩)) (Int.dvd_trans y1 cD) ?_
    have t := tops_sm (n := n) c0 O.pos cD O.sm (xs := xs) fun x hx => ⟨(O.ok x hx).1, (O.ok x hx).2.2⟩
    have hlen := O.len
    unfold Sm
    have t2 : xs.length * 2 ^ (n + d) ≤ 1000 * 2 ^ (n + d) := Nat.mul_le_mul_right _ hlen
    have t3 : 2 ^ (n + d + 11) = 2048 * 2 ^ (n + d) := by rw [Nat.pow_add, Nat.mul_comm]
    have t4 : 0 < 2 ^ (n + d) := Nat.pow_pos (by decide)
    omega
end

end Fp

set_option Elab.async false
set_option linter.all false
set_option maxRecDepth 100000
set_option maxHeartbeats 4000000
set_option exponentiation.threshold 10000
namespace Fp
open PySem PySem.Spec PyProof.Rows L2
/-! ### the program's own: what lasts behind the row's end, the short life -/
abbrev s_behind : Stmt := topS 17
theorem sc_behind : FnScope ["life", "row", "step"] ["life"] (defScope s_behind) := ⟨rfl, rfl, rfl, by decide +kernel, rfl, by decide +kernel, by decide +kernel⟩
structure ConstN (K : PySem.W.Frag) (mg : Str → Option Value) (aN : Addr) : Prop where
  gN : mg "NOUGHT" = some (.ref aN)
  tN : ∀ H : Hp, RAt K H aN (0, 1)
structure Consts (K : PySem.W.Frag) (mg : Str → Option Value) (aN aO : Addr) : Prop where
  gN : mg "NOUGHT" = some (.ref aN)
  gO : mg "ONE" = some (.ref aO)
  tN : ∀ H, RAt K H aN (0, 1)
  tO : ∀ H, RAt K H aO (1, 1)
theorem Consts.n {K : PySem.W.Frag} {mg : Str → Option Value} {aN aO : Addr} (C : Consts K mg aN aO) : ConstN K mg aN := ⟨C.gN, C.tN⟩
def rM (x y : RT) : RT := low2 (x.1 * y.2 - y.1 * x.2) (x.2 * y.2)
def rO (x y : RT) : RT := low2 (x.1 * y.2) (x.2 * y.1)
/-- a step: from nought on, below one -/
def StepOk (n : Nat) (s : RT) : Prop := SmR n s ∧ 0 ≤ s.1 ∧ s.1 < s.2
theorem gap_pos {s : RT} (h : Red s) (h1 : s.1 < s.2) : 0 < (rM (1, 1) s).1 := by
  have hb : (0 : Int) < 1 * s.2 := by have := h.1; omega
  have e := low2_cross (t := 1 * s.2 - s.1 * 1) hb
  have hp := ratB_pos (t := 1 * s.2 - s.1 * 1) hb
  show 0 < (low2 (1 * s.2 - s.1 * 1) (1 * s.2)).1
  have hp2 : 0 < (low2 (1 * s.2 - s.1 * 1) (1 * s.2)).2 := hp
  generalize (low2 (1 * s.2 - s.1 * 1) (1 * s.2)).1 = x at *
  generalize (low2 (1 * s.2 - s.1 * 1) (1 * s.2)).2 = y at *
  rcases (by omega : 0 < x ∨ x ≤ 0) with z | z
  · exact z
  · have a1 : 0 < (1 * s.2 - s.1 * 1) * y := Int.mul_pos (by omega) hp2
    have a2 : x * (1 * s.2) ≤ 0 := Int.mul_nonpos_of_nonpos_of_nonneg z (Int.le_of_lt hb)
    omega
def behindR (row : List RT) (step : RT) : RT := match row.getLast? with
  | none => (0, 1)
  | some l => rO (rT l step) (rM (1, 1) step)
theorem behindR_snoc (ys : List RT) (y step : RT) : behindR (ys ++ [y]) step = rO (rT y step) (rM (1, 1) step) := by
  have e : (ys ++ [y]).getLast? = some y := by simp
  unfold behindR
  rw [e]
/-! data of a row -/
def rowD (xs : List RT) : List PyData := xs.map fun x => .tuple [.int x.1, .int x.2]
theorem RsAt.dp {K : PySem.W.Frag} {H : Hp} : ∀ {ps : List Addr} {xs : List RT}, RsAt K H ps xs → DpAll K H (ps.map V.ref) (rowD xs)
  | _, _, .nil => .nil
  | _, _, .cons h r => .cons h.dp r.dp
theorem RowAt.dp {K : PySem.W.Frag} {H : Hp} {p : Addr} {xs : List RT} (h : RowAt K H p xs) : Dp K H (.ref p) (.tuple (rowD xs)) := by
  obtain ⟨rs, h1, h2⟩ := h
  exact .tup h1 h2.dp
theorem rowD_lay : ∀ xs : List RT, PyData.canLayAll0 (rowD xs) = true
  | [] => rfl
  | x :: r => by
    show (PyData.canLay0 (.tuple [.int x.1, .int x.2]) && PyData.canLayAll0 (rowD r)) = true
    rw [rowD_lay r]
    rfl
theorem rowD_depth : ∀ xs : List RT, PyData.depthAll (rowD xs) ≤ 1
  | [] => by decide
  | x :: r => by
    show max (PyData.depth (.tuple [.int x.1, .int x.2])) (PyData.depthAll (rowD r)) ≤ 1
    have := rowD_depth r
    have e : PyData.depth (.tuple [.int x.1, .int x.2]) = 1 := rfl
    omega
theorem rowD_shaped (xs : List RT) : SeqAt.shaped (.tuple (rowD xs)) = true := by
  unfold SeqAt.shaped
  have h1 : PyData.canLay0 (.tuple (rowD xs)) = true := rowD_lay xs
  have h2 : (PyData.tuple (rowD xs)).depth ≤ 64 := by
    show PyData.depthAll (rowD xs) + 1 ≤ 64
    have := rowD_depth xs
    omega
  rw [h1, decide_eq_true h2]
  rfl
theorem rowD_nil (xs : List RT) : PyData.eqv (.tuple (rowD xs)) (.tuple []) = xs.isEmpty := by
  cases xs with
  | nil => rfl
  | cons x r => rfl
section
variable {P : Program} {w : World} {K : PySem.W.Frag} {mg : Str → Option Value} {base : Heap} {aN aO : Addr}
def spBehind (K : PySem.W.Frag) : Sp := fun vs H Q _ => ∃ (p : Addr) (row : List RT) (step : RT), vs = [.ref p] ∧ LifeAt K H p row step ∧ (∀ x ∈ row, SmR 1900 x) ∧ StepOk 300 step ∧
  ∀ z H', Same H H' → RAt K H' z (behindR row step) → Q (.ref z) H'
theorem ok_behind {f fO fT fM : Addr} {fd fdO fdT fdM : FuncData} (F : Fun K "behind_row" "behind_row" s_behind f fd) (C : Consts K mg aN aO)
    (FO : Fun K "over" "over" s_over fO fdO) (bO : Binds K fdO ["one", "other"] []) (gO : mg "over" = some (.ref fO)) (GO : FnOk P w K mg base CX0 3 fO fdO ["one", "other"] (spOver0 K))
    (FT : Fun K "times" "times" s_times fT fdT) (bT : Binds K fdT ["one", "other"] []) (gT : mg "times" = some (.ref fT)) (GT : FnOk P w K mg base CX0 3 fT fdT ["one", "other"] (spTwo K (fun a b c d => a * c)))
    (FM : Fun K "minus" "minus" s_minus fM fdM) (bM : Binds K fdM ["one", "other"] []) (gM : mg "minus" = some (.ref fM)) (GM : FnOk P w K mg base CX0 3 fM fdM ["one", "other"] (spTwo K (fun a b c d => a * d - c * b))) :
    FnOk P w K mg base CX0 4 f fd ["life"] (spBehind K) := by
  refine F.ok sc_behind (fun vs H Q E h => ?_) (fun cdv A outer s H vs Q E hr h => ?_)
  · obtain ⟨_, _, _, rfl, _⟩ := h
    rfl
  · obtain ⟨p, row, step, rfl, ⟨pr, ps, l1, l2, l3⟩, hsm, hst, q⟩ := h
    refine ⟨_, (pss_cons (ps_asg (pv 0) (pg_tup rfl (pgs_cons (pg_name (i := 1) sc_behind.nd rfl (.inl rfl)) (pgs_cons (pg_name (i := 2) sc_behind.nd rfl (.inl rfl)) pgs_nil)))) (pss_cons (ps_if (pt_cmpR (op_eqD hr.units) (pv 1) (pe_tup pa_nil) (nomark _)) (pss_one (ps_ret (pe_glob (v := .ref aN) rfl C.gN rfl))) pss_nil) (pss_one (ps_ret (pe_call GO hr (by rfl) gO FO.kp bO .nil pass0 (pa_cons (pe_call GT hr (by rfl) gT FT.kp bT .nil pass0 (pa_cons (pe_ix ix_tup (pv 1) (pe_un un_neg pe_int) (fun _ _ => rfl)) (pa_cons (pv 2) pa_nil))) (pa_cons (pe_call GM hr (by rfl) gM FM.kp bM .nil pass0 (pa_cons (pe_glob (v := .ref aO) rfl C.gO rfl) (pa_cons (pv 2) pa_nil))) pa_nil))))))), ?_⟩
    refine ⟨_, rfl, p, _, rfl, l1, rfl, _, _, rfl, _, _, rfl, rfl, ?_⟩
    refine ⟨_, rfl, by show 0 ≤ sizeLine; decide, fun a na => ?_⟩
    have e1 := same_new (o := HO.tup []) na
    refine ⟨_, _, (l2.tk (Tk.same e1)).dp, .tup (SqT.of upd_same) .nil, rowD_shaped row, rfl, _, rfl, ?_⟩
    rw [rowD_nil]
    rcases snoc_cases row with rfl | ⟨ys, y, rfl⟩
    · exact iteT (q aN _ e1 (C.tN _))
    · have ne : (ys ++ [y]).isEmpty = false := by simp
      rw [ne]
      refine iteF ?_
      obtain ⟨hs1, hs2, hs3⟩ := hst
      have hy := hsm y (by simp)
      refine ⟨_, rfl, 1, rfl, ?_⟩
      refine ix_back (k := 1) (j := ys.length) (x := y) (l2.tk (Tk.same e1)) (by decide) (by simp) (by simp) fun r hr3 => ?_
      refine ⟨_, rfl, r, ps, _, _, _, _, rfl, ⟨hr3, l3.tk (Tk.same e1), hy.2.1.mono (by decide), hy.2.2.mono (by decide), hs1.2.1.mono (by decide), hs1.2.2.mono (by decide), hy.1.1, hs1.1.1⟩, fun b nb => ?_⟩
      have e2 := same_new (o := HO.tup [.int (rT y step).1, .int (rT y step).2]) nb
      refine ⟨_, rfl, aO, ps, _, _, _, _, rfl, ⟨C.tO _, l3.tk (Tk.same (e1.trans e2)), by unfold Sm; decide, by unfold Sm; decide, hs1.2.1.mono (by decide), hs1.2.2.mono (by decide), by decide, hs1.1.1⟩, fun b2 nb2 => ?_⟩
      have e3 := same_new (o := HO.tup [.int (rM (1, 1) step).1, .int (rM (1, 1) step).2]) nb2
      have sT := rT_sm hy hs1
      have hden : (0 : Int) < 1 * step.2 := by have := hs1.1.1; omega
      have a1 : Sm 301 (1 * step.2 - step.1 * 1) := by
        rw [Int.one_mul, Int.mul_one]
        exact hs1.2.2.sub hs1.2.1
      have a2 : Sm 301 (1 * step.2) := by
        rw [Int.one_mul]
        exact hs1.2.2.mono (by decide)
      have sM : SmR 301 (rM (1, 1) step) := low2_sm hden a1 a2
      refine ⟨b, b2, _, _, _, _, rfl, ⟨SqT.of (e3 _ _ upd_same), SqT.of upd_same, sT.2.1.mono (by decide), sT.2.2.mono (by decide), sM.2.1.mono (by decide), sM.2.2.mono (by decide), sT.1.1, sM.1.1⟩, Int.ne_of_gt (Int.mul_pos sT.1.1 (gap_pos hs1.1 hs3)), fun b3 nb3 => ?_⟩
      refine q b3 _ (e1.trans (e2.trans (e3.trans (same_new nb3)))) ?_
      rw [behindR_snoc]
      exact SqT.of upd_same
end

end Fp

set_option Elab.async false
set_option linter.all false
set_option maxRecDepth 100000
set_option maxHeartbeats 4000000
set_option exponentiation.threshold 10000
namespace Fp
open PySem PySem.Spec PyProof.Rows L2
/-! ### chances, one behind the other -/

def chR (row : List RT) (step : RT) (i : Nat) : Rat := match row[i]? with
  | some x => qv x
  | none => match row.getLast? with
    | none => 0
    | some l => qv l * qv step ^ (i + 1 - row.length)
theorem chR_in {row : List RT} {step : RT} {i : Nat} {x : RT} (h : row[i]? = some x) : chR row step i = qv x := by
  unfold chR
  rw [h]
theorem chR_out {row : List RT} {step l : RT} {i : Nat} (h : row.length ≤ i) (hl : row.getLast? = some l) : chR row step i = qv l * qv step ^ (i + 1 - row.length) := by
  unfold chR
  rw [List.getElem?_eq_none h, hl]
theorem chR_nil {step : RT} {i : Nat} : chR [] step i = 0 := rfl
theorem last_is {row : List RT} (h : row ≠ []) : ∃ l, row.getLast? = some l ∧ row[row.length - 1]? = some l ∧ l ∈ row := by
  refine ⟨row.getLast h, List.getLast?_eq_some_getLast h, ?_, List.getLast_mem h⟩
  rw [List.getLast_eq_getElem]
  exact List.getElem?_eq_getElem _
theorem chR_next {row : List RT} {step : RT} {k : Nat} (h : row.length ≤ k + 1) (hne : row ≠ []) : chR row step (k + 1) = chR row step k * qv step := by
  obtain ⟨l, h1, h2, _⟩ := last_is hne
  have hp := List.length_pos_iff.mpr hne
  rw [chR_out h h1]
  rcases (by omega : row.length = k + 1 ∨ row.length ≤ k) with z | z
  · have e : row[k]? = some l := by
      rw [← h2]
      congr 1
      omega
    rw [chR_in e, show k + 1 + 1 - row.length = 0 + 1 by omega, Rat.pow_succ, Rat.pow_zero]
    grind
  · rw [chR_out z h1, show k + 1 + 1 - row.length = (k + 1 - row.length) + 1 by omega, Rat.pow_succ]
    grind
/-- the chances 1 to as many as there are -/
structure IsCh (row : List RT) (step : RT) (n most : Nat) (chs : List RT) : Prop where
  len : chs.length = most
  ok : ∀ i x, chs[i]? = some x → SmR (n + 5 * i) x ∧ qv x = chR row step i
/-- what one number stands under all of them -/
theorem ch_dvd {row : List RT} {step x : RT} {n i most : Nat} (hr : ∀ y ∈ row, SmR n y) (hs : Red step) (hx : Red x) (h : qv x = chR row step i) (hi : i < most) : x.2 ∣ prodB row * step.2 ^ most := by
  match e : row[i]? with
  | some y =>
    have hy := List.mem_of_getElem? e
    have ex : x = y := qv_inj hx (hr y hy).1 (h.trans (chR_in e))
    rw [ex]
    exact Int.dvd_trans (prodB_dvd hy) (Int.dvd_mul_right ..)
  | none =>
    have hle : row.length ≤ i := List.getElem?_eq_none_iff.mp e
    match el : row.getLast? with
    | none =>
      have er : row = [] := List.getLast?_eq_none_iff.mp el
      rw [er, chR_nil] at h
      have ex : x = (0, 1) := qv_inj hx ⟨by decide, by decide⟩ (by
        rw [h]
        unfold qv
        show (0 : Rat) = ((0 : Int) : Rat) / ((1 : Int) : Rat)
        grind)
      rw [ex]
      exact Int.one_dvd _
    | some l =>
      have hl : l ∈ row := List.mem_of_getLast? el
      have hl0 := (hr l hl).1
      rw [chR_out hle el] at h
      obtain ⟨j, ej, hj⟩ : ∃ j, i + 1 - row.length = j ∧ j ≤ most := ⟨_, rfl, by omega⟩
      rw [ej] at h
      have key : ∀ j : Nat, qv l * qv step ^ j = ((l.1 * step.1 ^ j : Int) : Rat) / ((l.2 * step.2 ^ j : Int) : Rat) := by
        intro j
        induction j with
        | zero =>
          rw [Rat.pow_zero, Int.pow_zero, Int.pow_zero, Int.mul_one, Int.mul_one]
          unfold qv
          grind
        | succ j ih =>
          have h1 := cast_ne (Int.ne_of_gt hs.1)
          have h2 := cast_ne (Int.ne_of_gt (Int.mul_pos hl0.1 (show (0 : Int) < step.2 ^ j from Int.pow_pos hs.1)))
          rw [Rat.pow_succ, ← Rat.mul_assoc, ih, Int.pow_succ, Int.pow_succ, ← Int.mul_assoc, ← Int.mul_assoc, Rat.intCast_mul (l.1 * step.1 ^ j), Rat.intCast_mul (l.2 * step.2 ^ j)]
          unfold qv
          grind
      rw [key j] at h
      obtain ⟨d1, _⟩ := red_small hx (Int.mul_pos hl0.1 (Int.pow_pos hs.1)) h
      refine Int.dvd_trans d1 ?_
      obtain ⟨u, hu⟩ := prodB_dvd hl
      refine ⟨u * step.2 ^ (most - j), ?_⟩
      rw [hu, show most = j + (most - j) by omega, Int.pow_add, Nat.add_sub_cancel_left]
      rw [Int.mul_assoc l.2 u, ← Int.mul_assoc u, Int.mul_comm u (step.2 ^ j), Int.mul_assoc (step.2 ^ j), ← Int.mul_assoc l.2]
theorem sm_pow {n : Nat} {a : Int} (h : Sm n a) (hn : 0 < n) : ∀ k : Nat, Sm (n * k + 1) (a ^ k)
  | 0 => by
    unfold Sm
    rw [Int.pow_zero]
    simp
  | k + 1 => by
    rw [Int.pow_succ]
    have := (sm_pow h hn k).mul h
    refine this.mono ?_
    rw [Nat.mul_add]
    omega
theorem over_ch {row : List RT} {step : RT} {n most : Nat} {chs : List RT} (hr : ∀ y ∈ row, SmR n y) (hs : SmR 5 step) (hl : row.length ≤ 14) (hn : n ≤ 64) (hm : most ≤ 70) (h : IsCh row step n most chs) : Over1 (n + 350) 1300 (prodB row * step.2 ^ most) chs := by
  refine ⟨Int.mul_pos (prodB_pos fun x hx => (hr x hx).1.1) (Int.pow_pos hs.1.1), ?_, fun x hx => ?_, by rw [h.len]; omega⟩
  · have h1 := prodB_sm fun x hx => (hr x hx).2.2
    have h2 := sm_pow hs.2.2 (by decide) most
    refine (h1.mul h2).mono ?_
    have : n * row.length ≤ 64 * 14 := Nat.mul_le_mul hn hl
    omega
  · obtain ⟨i, hi⟩ := List.mem_iff_getElem?.mp hx
    have hi2 := (List.getElem?_eq_some_iff.mp hi).1
    rw [h.len] at hi2
    obtain ⟨s1, s2⟩ := h.ok i x hi
    exact ⟨s1.1.1, ch_dvd hr hs.1 s1.1 s2 hi2, s1.2.1.mono (by omega)⟩
def sumCh (row : List RT) (step : RT) : Nat → Rat
  | 0 => 0
  | k + 1 => sumCh row step k + chR row step k
theorem sum_snoc (xs : List Rat) (x : Rat) : (xs ++ [x]).sum = xs.sum + x := by
  induction xs with
  | nil =>
    show x + 0 = 0 + x
    grind
  | cons y r ih =>
    show y + (r ++ [x]).sum = y + r.sum + x
    rw [ih]
    grind
theorem IsCh.sum {row : List RT} {step : RT} {n most : Nat} {chs : List RT} (h : IsCh row step n most chs) : (chs.map qv).sum = sumCh row step most := by
  have key : ∀ k, k ≤ most → ((chs.take k).map qv).sum = sumCh row step k := by
    intro k
    induction k with
    | zero =>
      intro _
      rfl
    | succ k ih =>
      intro hk
      have hk2 : k < chs.length := by rw [h.len]; omega
      have hg : chs[k]? = some chs[k] := List.getElem?_eq_getElem hk2
      rw [List.take_add_one, hg]
      show ((chs.take k ++ [chs[k]]).map qv).sum = sumCh row step k + chR row step k
      rw [List.map_append, List.map_singleton, sum_snoc, ih (by omega), (h.ok k _ hg).2]
  have := key most (Nat.le_refl _)
  rw [← h.len, List.take_length] at this
  rw [h.len] at this
  exact this
abbrev s_chto : Stmt := topS 18
theorem sc_chto : FnScope ["life", "most", "row", "step", "chances"] ["life", "most"] (defScope s_chto) := ⟨rfl, rfl, rfl, by decide +kernel, rfl, by decide +kernel, by decide +kernel⟩
/-- a life as the program is asked of it -/
structure LifeOk (n : Nat) (row : List RT) (step : RT) : Prop where
  sm : ∀ y ∈ row, SmR n y
  st : StepOk 5 step
  len : row.length ≤ 14
  n64 : n ≤ 64
  n1 : 1 ≤ n
section
variable {P : Program} {w : World} {K : PySem.W.Frag} {mg : Str → Option Value} {base : Heap} {aN aO : Addr}
def spChto (K : PySem.W.Frag) : Sp := fun vs H Q _ => ∃ (p : Addr) (row : List RT) (step : RT) (n most : Nat), vs = [.ref p, .int (most : Int)] ∧ LifeAt K H p row step ∧ LifeOk n row step ∧ most ≤ 70 ∧
  ∀ z rs chs H', Same H H' → H' z = some (.lst (rs.map V.ref)) → RsAt K H' rs chs → IsCh row step n most chs → Q (.ref z) H'
theorem ok_chto {f fT : Addr} {fd fdT : FuncData} (F : Fun K "chances_to" "chances_to" s_chto f fd) (C : ConstN K mg aN)
    (FT : Fun K "times" "times" s_times fT fdT) (bT : Binds K fdT ["one", "other"] []) (gT : mg "times" = some (.ref fT)) (GT : FnOk P w K mg base CX0 3 fT fdT ["one", "other"] (spTwo K (fun a b c d => a * c)))
    (ml : mg "len" = none) (mL : mg "list" = none) : FnOk P w K mg base CX0 4 f fd ["life", "most"] (spChto K) := by
  refine F.ok sc_chto (fun vs H Q E h => ?_) (fun cdv A outer s H vs Q E hr h => ?_)
  · obtain ⟨_, _, _, _, _, rfl, _⟩ := h
    rfl
  · obtain ⟨p, row, step, n, most, rfl, ⟨pr, ps, l1, l2, l3⟩, L, hm, q⟩ := h
    refine ⟨_, (pss_cons (ps_asg (pv 0) (pg_tup rfl (pgs_cons (pg_name (i := 2) sc_chto.nd rfl (.inl rfl)) (pgs_cons (pg_name (i := 3) sc_chto.nd rfl (.inl rfl)) pgs_nil)))) (pss_cons (ps_set (i := 4) sc_chto.nd rfl (.inl rfl) (pe_callTy call_list_of (by rfl) mL (by decide +kernel) (pa_cons (pe_slice sl_tupA (pv 2) po_none (po_some (pv 1))) pa_nil))) (pss_cons (ps_while PassesOwn.never (pt_cmpR op_lt (pe_callB call_len_seq (by rfl) ml PySem.boot_len (pa_cons (pv 4) pa_nil)) (pv 1) (nomark _))
          (pss_one (ps_expr (pe_bm PySem.F.plainAttrs_list PySem.F.slot_list_append PySem.F.type_list_append mt_append (pv 4) (pa_cons (pe_ifExp (pt_truth (pv 4) (by intro _; rfl)) (pe_call GT hr (by rfl) gT FT.kp bT .nil pass0 (pa_cons (pe_ix ix_list (pv 4) (pe_un un_neg pe_int) (fun _ _ => rfl)) (pa_cons (pv 3) pa_nil))) (pe_glob (v := .ref aN) rfl C.gN rfl)) pa_nil))))) (pss_one (ps_ret (pv 4)))))), ?_⟩
    refine ⟨_, rfl, p, _, rfl, l1, rfl, _, _, rfl, _, _, rfl, rfl, ?_⟩
    refine ⟨_, rfl, _, rfl, most, rfl, ?_⟩
    refine take_row l2 fun a H1 s1 ha => ?_
    obtain ⟨rs0, a1, a2⟩ := id ha
    refine ⟨a, _, rfl, .inr a1, fun c nc => ?_⟩
    have e1 := same_new (o := HO.lst (rs0.map V.ref)) nc
    have nc0 : H c = none := s1.free nc
    have hlen0 := a2.length
    rw [List.length_take] at hlen0
    refine ⟨fun m σ H2 => ∃ (rs : List Addr) (chs : List RT), σ = [some (.ref p), some (.int (most : Int)), some (.ref pr), some (.ref ps), some (.ref c)] ∧ Same H H2 ∧ H2 c = some (.lst (rs.map V.ref)) ∧ RsAt K H2 rs chs ∧ m + chs.length = most ∧ (row.length ≤ chs.length ∨ m = 0) ∧ (∀ i x, chs[i]? = some x → SmR (n + 5 * i) x ∧ qv x = chR row step i), ⟨most - (row.take most).length, rs0, row.take most, rfl, s1.trans e1, upd_same, a2.tk (Tk.same e1), ?_, ?_, ?_⟩, ?_⟩
    · rw [List.length_take]
      omega
    · rw [List.length_take]
      omega
    · intro i x hx
      rw [List.getElem?_take] at hx
      split at hx
      · exact ⟨(L.sm x (List.mem_of_getElem? hx)).mono (by omega), (chR_in hx).symm⟩
      · cases hx
    · rintro m σ H2 ⟨rs, chs, rfl, s2, hc, hrs, em, hlr, hok⟩
      have hl := hrs.length
      refine ⟨_, rfl, c, _, rfl, .inl (SqL.of hc), _, rfl, _, _, rfl, rfl, _, rfl, ite2 (fun c2 => ?_) (fun c2 => ?_)⟩
      · have hlt : chs.length < most := by
          have : (((rs.map V.ref).length : Nat) : Int) < (most : Int) := of_decide_eq_true c2
          rw [List.length_map] at this
          omega
        have hrl : row.length ≤ chs.length := by
          rcases hlr with z | z
          · exact z
          · omega
        refine ⟨fun σ' H' => ∃ (rs : List Addr) (chs' : List RT), σ' = [some (.ref p), some (.int (most : Int)), some (.ref pr), some (.ref ps), some (.ref c)] ∧ Same H H' ∧ H' c = some (.lst (rs.map V.ref)) ∧ RsAt K H' rs chs' ∧ chs'.length = chs.length + 1 ∧ (∀ i x, chs'[i]? = some x → SmR (n + 5 * i) x ∧ qv x = chR row step i), fun σ' H' z => ?_, ?_⟩
        · obtain ⟨rs', chs', z1, z2, z3, z4, z5, z6⟩ := z
          exact ⟨m - 1, by omega, rs', chs', z1, z2, z3, z4, by omega, .inl (by omega), z6⟩
        · have put : ∀ (r : Addr) (x : RT) (H3 : Hp), Same H2 H3 → RAt K H3 r x → SmR (n + 5 * chs.length) x → qv x = chR row step chs.length →
              ∃ (l : Addr) (xs : List V) (y : V), V.ref c = .ref l ∧ [V.ref r] = [y] ∧ H3 l = some (.lst xs) ∧ xs.length < sizeLine ∧ ∃ (rs : List Addr) (chs' : List RT), [some (V.ref p), some (.int (most : Int)), some (.ref pr), some (.ref ps), some (.ref c)] = [some (.ref p), some (.int (most : Int)), some (.ref pr), some (.ref ps), some (.ref c)] ∧ Same H (upd H3 l (.lst (xs ++ [y]))) ∧ upd H3 l (.lst (xs ++ [y])) c = some (.lst (rs.map V.ref)) ∧ RsAt K (upd H3 l (.lst (xs ++ [y]))) rs chs' ∧ chs'.length = chs.length + 1 ∧ (∀ i x, chs'[i]? = some x → SmR (n + 5 * i) x ∧ qv x = chR row step i) := by
            intro r x H3 s3 hx hsx hqx
            have hc3 := s3 _ _ hc
            refine ⟨c, _, _, rfl, rfl, hc3, ?_, rs ++ [r], chs ++ [x], rfl, ?_, ?_, ?_, by simp, ?_⟩
            · rw [List.length_map, hl]
              exact small1000 (by omega)
            · intro b o hb
              rw [upd_ne (ne_of_none hb nc0)]
              exact s3 _ _ (s2 _ _ hb)
            · rw [upd_same, List.map_append]
              rfl
            · exact ((hrs.tk (Tk.same s3)).append (.cons hx .nil)).tk (tk_lst hc3)
            · intro i y hy
              rcases (by omega : i < chs.length ∨ i = chs.length ∨ chs.length < i) with z | z | z
              · rw [List.getElem?_append_left z] at hy
                exact hok i y hy
              · subst z
                rw [List.getElem?_append_right (Nat.le_refl _), Nat.sub_self] at hy
                cases Option.some.inj hy
                exact ⟨hsx, hqx⟩
              · rw [List.getElem?_append_right (by omega), List.getElem?_eq_none (by simp; omega)] at hy
                cases hy
          refine ⟨_, rfl, .inl ⟨rfl, _, SqL.of hc⟩, ?_⟩
          refine ⟨_, rfl, _, .inl ⟨_, SqL.of hc, rfl⟩, ?_⟩
          rcases snoc_cases chs with e0 | ⟨ys, y, e0⟩
          · have er : rs = [] := by
              rw [e0] at hl
              exact List.length_eq_zero_iff.mp hl
            subst er
            have erow : row = [] := by
              rw [e0] at hrl
              exact List.length_eq_zero_iff.mp (by simpa using hrl)
            refine iteF ?_
            refine put aN (0, 1) H2 (Same.refl _) (C.tN _) (SmR.mono (n := 1) ⟨⟨by decide, by decide⟩, by unfold Sm; decide, by unfold Sm; decide⟩ (by have := L.n1; omega)) ?_
            · rw [erow, chR_nil]
              unfold qv
              show ((0 : Int) : Rat) / ((1 : Int) : Rat) = 0
              grind
          · have hne : (rs.map V.ref).isEmpty = false := by
              rw [e0] at hl
              cases rs with
              | nil => simp at hl
              | cons b t => rfl
            rw [hne]
            refine iteT ?_
            have hy : chs[ys.length]? = some y := by
              rw [e0]
              simp
            have hyl : chs.length = ys.length + 1 := by
              rw [e0]
              simp
            obtain ⟨r, er, hr2⟩ := hrs.get hy
            have eat : atI (rs.map V.ref) (-1) = some (.ref r) := by
              have e2 : ixN (rs.map V.ref).length (-1) = some ys.length := by
                unfold ixN
                rw [List.length_map, hl, hyl, if_neg (by omega), if_pos (by omega)]
                congr 1
                omega
              unfold atI
              rw [e2]
              show (rs.map V.ref)[ys.length]? = _
              rw [List.getElem?_map, er]
              rfl
            obtain ⟨sy, qy⟩ := hok _ _ hy
            refine ⟨_, rfl, 1, rfl, c, _, -1, _, rfl, rfl, SqL.of hc, eat, ?_⟩
            have hn64 := L.n64
            have hst := L.st.1
            refine ⟨_, rfl, r, ps, _, _, _, _, rfl, ⟨hr2, l3.tk (Tk.same s2), sy.2.1.mono (by omega), sy.2.2.mono (by omega), hst.2.1.mono (by decide), hst.2.2.mono (by decide), sy.1.1, hst.1.1⟩, fun b nb => ?_⟩
            have e3 := same_new (o := HO.tup [.int (rT y step).1, .int (rT y step).2]) nb
            obtain ⟨v1, v2⟩ := qv_rT sy.1 hst.1
            refine put b (rT y step) _ e3 (SqT.of upd_same) ((rT_sm sy hst).mono (by omega)) ?_
            rw [v2, qy, hyl]
            rcases Classical.em (row = []) with z | z
            · rw [z, chR_nil, chR_nil]
              grind
            · exact (chR_next (by omega) z).symm
      · have hge : m = 0 := by
          have : ¬ (((rs.map V.ref).length : Nat) : Int) < (most : Int) := fun z => c2 (decide_eq_true z)
          rw [List.length_map] at this
          omega
        exact ⟨_, rfl, q c rs chs H2 s2 hc hrs ⟨by omega, hok⟩⟩
end

end Fp

set_option Elab.async false
set_option linter.all false
set_option maxRecDepth 100000
set_option maxHeartbeats 4000000
set_option exponentiation.threshold 10000
namespace Fp
open PySem PySem.Spec PyProof.Rows L2
/-! ### chances of longer rows -/
structure LifeOkE (n : Nat) (row : List RT) (step : RT) : Prop where
  sm : ∀ y ∈ row, SmR n y
  st : StepOk 5 step
  n64 : n ≤ 200
  n1 : 1 ≤ n
section
variable {P : Program} {w : World} {K : PySem.W.Frag} {mg : Str → Option Value} {base : Heap} {aN aO : Addr}
def spChtoE (K : PySem.W.Frag) : Sp := fun vs H Q _ => ∃ (p : Addr) (row : List RT) (step : RT) (n most : Nat), vs = [.ref p, .int (most : Int)] ∧ LifeAt K H p row step ∧ LifeOkE n row step ∧ most ≤ 70 ∧
  ∀ z rs chs H', Same H H' → H' z = some (.lst (rs.map V.ref)) → RsAt K H' rs chs → IsCh row step n most chs → Q (.ref z) H'
theorem ok_chtoE {f fT : Addr} {fd fdT : FuncData} (F : Fun K "chances_to" "chances_to" s_chto f fd) (C : ConstN K mg aN)
    (FT : Fun K "times" "times" s_times fT fdT) (bT : Binds K fdT ["one", "other"] []) (gT : mg "times" = some (.ref fT)) (GT : FnOk P w K mg base CX0 3 fT fdT ["one", "other"] (spTwo K (fun a b c d => a * c)))
    (ml : mg "len" = none) (mL : mg "list" = none) : FnOk P w K mg base CX0 4 f fd ["life", "most"] (spChtoE K) := by
  refine F.ok sc_chto (fun vs H Q E h => ?_) (fun cdv A outer s H vs Q E hr h => ?_)
  · obtain ⟨_, _, _, _, _, rfl, _⟩ := h
    rfl
  · obtain ⟨p, row, step, n, most, rfl, ⟨pr, ps, l1, l2, l3⟩, L, hm, q⟩ := h
    refine ⟨_, (pss_cons (ps_asg (pv 0) (pg_tup rfl (pgs_cons (pg_name (i := 2) sc_chto.nd rfl (.inl rfl)) (pgs_cons (pg_name (i := 3) sc_chto.nd rfl (.inl rfl)) pgs_nil)))) (pss_cons (ps_set (i := 4) sc_chto.nd rfl (.inl rfl) (pe_callTy call_list_of (by rfl) mL (by decide +kernel) (pa_cons (pe_slice sl_tupA (pv 2) po_none (po_some (pv 1))) pa_nil))) (pss_cons (ps_while PassesOwn.never (pt_cmpR op_lt (pe_callB call_len_seq (by rfl) ml PySem.boot_len (pa_cons (pv 4) pa_nil)) (pv 1) (nomark _))
          (pss_one (ps_expr (pe_bm PySem.F.plainAttrs_list PySem.F.slot_list_append PySem.F.type_list_append mt_append (pv 4) (pa_cons (pe_ifExp (pt_truth (pv 4) (by intro _; rfl)) (pe_call GT hr (by rfl) gT FT.kp bT .nil pass0 (pa_cons (pe_ix ix_list (pv 4) (pe_un un_neg pe_int) (fun _ _ => rfl)) (pa_cons (pv 3) pa_nil))) (pe_glob (v := .ref aN) rfl C.gN rfl)) pa_nil))))) (pss_one (ps_ret (pv 4)))))), ?_⟩
    refine ⟨_, rfl, p, _, rfl, l1, rfl, _, _, rfl, _, _, rfl, rfl, ?_⟩
    refine ⟨_, rfl, _, rfl, most, rfl, ?_⟩
    refine take_row l2 fun a H1 s1 ha => ?_
    obtain ⟨rs0, a1, a2⟩ := id ha
    refine ⟨a, _, rfl, .inr a1, fun c nc => ?_⟩
    have e1 := same_new (o := HO.lst (rs0.map V.ref)) nc
    have nc0 : H c = none := s1.free nc
    have hlen0 := a2.length
    rw [List.length_take] at hlen0
    refine ⟨fun m σ H2 => ∃ (rs : List Addr) (chs : List RT), σ = [some (.ref p), some (.int (most : Int)), some (.ref pr), some (.ref ps), some (.ref c)] ∧ Same H H2 ∧ H2 c = some (.lst (rs.map V.ref)) ∧ RsAt K H2 rs chs ∧ m + chs.length = most ∧ (row.length ≤ chs.length ∨ m = 0) ∧ (∀ i x, chs[i]? = some x → SmR (n + 5 * i) x ∧ qv x = chR row step i), ⟨most - (row.take most).length, rs0, row.take most, rfl, s1.trans e1, upd_same, a2.tk (Tk.same e1), ?_, ?_, ?_⟩, ?_⟩
    · rw [List.length_take]
      omega
    · rw [List.length_take]
      omega
    · intro i x hx
      rw [List.getElem?_take] at hx
      split at hx
      · exact ⟨(L.sm x (List.mem_of_getElem? hx)).mono (by omega), (chR_in hx).symm⟩
      · cases hx
    · rintro m σ H2 ⟨rs, chs, rfl, s2, hc, hrs, em, hlr, hok⟩
      have hl := hrs.length
      refine ⟨_, rfl, c, _, rfl, .inl (SqL.of hc), _, rfl, _, _, rfl, rfl, _, rfl, ite2 (fun c2 => ?_) (fun c2 => ?_)⟩
      · have hlt : chs.length < most := by
          have : (((rs.map V.ref).length : Nat) : Int) < (most : Int) := of_decide_eq_true c2
          rw [List.length_map] at this
          omega
        have hrl : row.length ≤ chs.length := by
          rcases hlr with z | z
          · exact z
          · omega
        refine ⟨fun σ' H' => ∃ (rs : List Addr) (chs' : List RT), σ' = [some (.ref p), some (.int (most : Int)), some (.ref pr), some (.ref ps), some (.ref c)] ∧ Same H H' ∧ H' c = some (.lst (rs.map V.ref)) ∧ RsAt K H' rs chs' ∧ chs'.length = chs.length + 1 ∧ (∀ i x, chs'[i]? = some x → SmR (n + 5 * i) x ∧ qv x = chR row step i), fun σ' H' z => ?_, ?_⟩
        · obtain ⟨rs', chs', z1, z2, z3, z4, z5, z6⟩ := z
          exact ⟨m - 1, by omega, rs', chs', z1, z2, z3, z4, by omega, .inl (by omega), z6⟩
        · have put : ∀ (r : Addr) (x : RT) (H3 : Hp), Same H2 H3 → RAt K H3 r x → SmR (n + 5 * chs.length) x → qv x = chR row step chs.length →
              ∃ (l : Addr) (xs : List V) (y : V), V.ref c = .ref l ∧ [V.ref r] = [y] ∧ H3 l = some (.lst xs) ∧ xs.length < sizeLine ∧ ∃ (rs : List Addr) (chs' : List RT), [some (V.ref p), some (.int (most : Int)), some (.ref pr), some (.ref ps), some (.ref c)] = [some (.ref p), some (.int (most : Int)), some (.ref pr), some (.ref ps), some (.ref c)] ∧ Same H (upd H3 l (.lst (xs ++ [y]))) ∧ upd H3 l (.lst (xs ++ [y])) c = some (.lst (rs.map V.ref)) ∧ RsAt K (upd H3 l (.lst (xs ++ [y]))) rs chs' ∧ chs'.length = chs.length + 1 ∧ (∀ i x, chs'[i]? = some x → SmR (n + 5 * i) x ∧ qv x = chR row step i) := by
            intro r x H3 s3 hx hsx hqx
            have hc3 := s3 _ _ hc
            refine ⟨c, _, _, rfl, rfl, hc3, ?_, rs ++ [r], chs ++ [x], rfl, ?_, ?_, ?_, by simp, ?_⟩
            · rw [List.length_map, hl]
              exact small1000 (by omega)
            · intro b o hb
              rw [upd_ne (ne_of_none hb nc0)]
              exact s3 _ _ (s2 _ _ hb)
            · rw [upd_same, List.map_append]
              rfl
            · exact ((hrs.tk (Tk.same s3)).append (.cons hx .nil)).tk (tk_lst hc3)
            · intro i y hy
              rcases (by omega : i < chs.length ∨ i = chs.length ∨ chs.length < i) with z | z | z
              · rw [List.getElem?_append_left z] at hy
                exact hok i y hy
              · subst z
                rw [List.getElem?_append_right (Nat.le_refl _), Nat.sub_self] at hy
                cases Option.some.inj hy
                exact ⟨hsx, hqx⟩
              · rw [List.getElem?_append_right (by omega), List.getElem?_eq_none (by simp; omega)] at hy
                cases hy
          refine ⟨_, rfl, .inl ⟨rfl, _, SqL.of hc⟩, ?_⟩
          refine ⟨_, rfl, _, .inl ⟨_, SqL.of hc, rfl⟩, ?_⟩
          rcases snoc_cases chs with e0 | ⟨ys, y, e0⟩
          · have er : rs = [] := by
              rw [e0] at hl
              exact List.length_eq_zero_iff.mp hl
            subst er
            have erow : row = [] := by
              rw [e0] at hrl
              exact List.length_eq_zero_iff.mp (by simpa using hrl)
            refine iteF ?_
            refine put aN (0, 1) H2 (Same.refl _) (C.tN _) (SmR.mono (n := 1) ⟨⟨by decide, by decide⟩, by unfold Sm; decide, by unfold Sm; decide⟩ (by have := L.n1; omega)) ?_
            · rw [erow, chR_nil]
              unfold qv
              show ((0 : Int) : Rat) / ((1 : Int) : Rat) = 0
              grind
          · have hne : (rs.map V.ref).isEmpty = false := by
              rw [e0] at hl
              cases rs with
              | nil => simp at hl
              | cons b t => rfl
            rw [hne]
            refine iteT ?_
            have hy : chs[ys.length]? = some y := by
              rw [e0]
              simp
            have hyl : chs.length = ys.length + 1 := by
              rw [e0]
              simp
            obtain ⟨r, er, hr2⟩ := hrs.get hy
            have eat : atI (rs.map V.ref) (-1) = some (.ref r) := by
              have e2 : ixN (rs.map V.ref).length (-1) = some ys.length := by
                unfold ixN
                rw [List.length_map, hl, hyl, if_neg (by omega), if_pos (by omega)]
                congr 1
                omega
              unfold atI
              rw [e2]
              show (rs.map V.ref)[ys.length]? = _
              rw [List.getElem?_map, er]
              rfl
            obtain ⟨sy, qy⟩ := hok _ _ hy
            refine ⟨_, rfl, 1, rfl, c, _, -1, _, rfl, rfl, SqL.of hc, eat, ?_⟩
            have hn64 := L.n64
            have hst := L.st.1
            refine ⟨_, rfl, r, ps, _, _, _, _, rfl, ⟨hr2, l3.tk (Tk.same s2), sy.2.1.mono (by omega), sy.2.2.mono (by omega), hst.2.1.mono (by decide), hst.2.2.mono (by decide), sy.1.1, hst.1.1⟩, fun b nb => ?_⟩
            have e3 := same_new (o := HO.tup [.int (rT y step).1, .int (rT y step).2]) nb
            obtain ⟨v1, v2⟩ := qv_rT sy.1 hst.1
            refine put b (rT y step) _ e3 (SqT.of upd_same) ((rT_sm sy hst).mono (by omega)) ?_
            rw [v2, qy, hyl]
            rcases Classical.em (row = []) with z | z
            · rw [z, chR_nil, chR_nil]
              grind
            · exact (chR_next (by omega) z).symm
      · have hge : m = 0 := by
          have : ¬ (((rs.map V.ref).length : Nat) : Int) < (most : Int) := fun z => c2 (decide_eq_true z)
          rw [List.length_map] at this
          omega
        exact ⟨_, rfl, q c rs chs H2 s2 hc hrs ⟨by omega, hok⟩⟩
end

end Fp

set_option Elab.async false
set_option linter.all false
set_option maxRecDepth 100000
set_option maxHeartbeats 4000000
set_option exponentiation.threshold 10000
namespace Fp
open PySem PySem.Spec PyProof.Rows L2
/-! ### a chance, lasting, the miss -/
abbrev s_lasting : Stmt := topS 19
theorem sc_lasting : FnScope ["life", "k"] ["life", "k"] (defScope s_lasting) := ⟨rfl, rfl, rfl, by decide +kernel, rfl, by decide +kernel, by decide +kernel⟩
theorem qv_rM {x y : RT} (hx : Red x) (hy : Red y) : Red (rM x y) ∧ qv (rM x y) = qv x - qv y := by
  have hb := Int.mul_pos hx.1 hy.1
  refine ⟨low2_red (Int.ne_of_gt hb), ?_⟩
  unfold rM
  rw [qv_low2 hb, Rat.intCast_sub, Rat.intCast_mul, Rat.intCast_mul, Rat.intCast_mul]
  have h1 := cast_ne (Int.ne_of_gt hx.1)
  have h2 := cast_ne (Int.ne_of_gt hy.1)
  unfold qv
  grind
theorem qv_rO {x y : RT} (hx : Red x) (hy : Red y) (h : 0 < y.1) : Red (rO x y) ∧ qv (rO x y) = qv x / qv y := by
  have hb := Int.mul_pos hx.1 h
  refine ⟨low2_red (Int.ne_of_gt hb), ?_⟩
  unfold rO
  rw [qv_low2 hb, Rat.intCast_mul, Rat.intCast_mul]
  have h1 := cast_ne (Int.ne_of_gt hx.1)
  have h2 := cast_ne (Int.ne_of_gt hy.1)
  have h3 := cast_ne (Int.ne_of_gt h)
  unfold qv
  grind
theorem qv_one : qv (1, 1) = 1 := by
  unfold qv
  show ((1 : Int) : Rat) / ((1 : Int) : Rat) = 1
  grind
theorem qv_nought : qv (0, 1) = 0 := by
  unfold qv
  show ((0 : Int) : Rat) / ((1 : Int) : Rat) = 0
  grind
theorem one_red : Red (1, 1) := ⟨by decide, by decide⟩
theorem gap_val {s : RT} (hs : Red s) (h : s.1 < s.2) : (1 : Rat) - qv s ≠ 0 := by
  obtain ⟨r, v⟩ := qv_rM one_red hs
  have hg := gap_pos hs h
  have e : qv (rM (1, 1) s) ≠ 0 := by
    have h1 := cast_ne (Int.ne_of_gt hg)
    have h2 := cast_ne (Int.ne_of_gt r.1)
    unfold qv
    grind
  rw [v, qv_one] at e
  exact e
/-- what lasts behind the row's end -/
def behQ (row : List RT) (step : RT) : Rat := match row.getLast? with
  | none => 0
  | some l => qv l * qv step / (1 - qv step)
theorem behind_val {row : List RT} {step : RT} {n : Nat} (hr : ∀ x ∈ row, SmR n x) (hs : StepOk 5 step) : SmR (n + 20) (behindR row step) ∧ qv (behindR row step) = behQ row step := by
  rcases snoc_cases row with rfl | ⟨ys, y, rfl⟩
  · exact ⟨SmR.mono (n := 1) (x := (0, 1)) ⟨⟨by decide, by decide⟩, by unfold Sm; decide, by unfold Sm; decide⟩ (by omega), qv_nought⟩
  · have hy := hr y (by simp)
    rw [behindR_snoc]
    have e : behQ (ys ++ [y]) step = qv y * qv step / (1 - qv step) := by
      have e : (ys ++ [y]).getLast? = some y := by simp
      unfold behQ
      rw [e]
    rw [e]
    obtain ⟨h1, h2, h3⟩ := hs
    obtain ⟨a1, a2⟩ := qv_rT hy.1 h1.1
    obtain ⟨b1, b2⟩ := qv_rM one_red h1.1
    have g := gap_pos h1.1 h3
    obtain ⟨c1, c2⟩ := qv_rO a1 b1 g
    refine ⟨⟨c1, ?_, ?_⟩, ?_⟩
    · have sT := rT_sm hy h1
      have hden : (0 : Int) < 1 * step.2 := by have := h1.1.1; omega
      have m1 : Sm 6 (1 * step.2 - step.1 * 1) := by
        rw [Int.one_mul, Int.mul_one]
        exact h1.2.2.sub h1.2.1
      have m2 : Sm 6 (1 * step.2) := by
        rw [Int.one_mul]
        exact h1.2.2.mono (by decide)
      have sM : SmR 6 (rM (1, 1) step) := low2_sm hden m1 m2
      exact (ratT_sm (Int.mul_pos sT.1.1 g) ((sT.2.1.mul sM.2.2).mono (show n + 5 + 6 ≤ n + 20 by omega)))
    · have sT := rT_sm hy h1
      have hden : (0 : Int) < 1 * step.2 := by have := h1.1.1; omega
      have m1 : Sm 6 (1 * step.2 - step.1 * 1) := by
        rw [Int.one_mul, Int.mul_one]
        exact h1.2.2.sub h1.2.1
      have m2 : Sm 6 (1 * step.2) := by
        rw [Int.one_mul]
        exact h1.2.2.mono (by decide)
      have sM : SmR 6 (rM (1, 1) step) := low2_sm hden m1 m2
      exact (ratB_sm (Int.mul_pos sT.1.1 g) ((sT.2.2.mul sM.2.1).mono (show n + 5 + 6 ≤ n + 20 by omega)))
    · rw [c2, a2, b2, qv_one]
section
variable {P : Program} {w : World} {K : PySem.W.Frag} {mg : Str → Option Value} {base : Heap} {aN aO : Addr}
def spLasting (K : PySem.W.Frag) : Sp := fun vs H Q _ => ∃ (p : Addr) (row : List RT) (step : RT) (n k : Nat), vs = [.ref p, .int (k : Int)] ∧ LifeAt K H p row step ∧ LifeOk n row step ∧ k ≤ 70 ∧
  ∀ z x H', Same H H' → RAt K H' z x → SmR 1800 x → qv x = 1 - sumCh row step k → Q (.ref z) H'
/-- one less a ratio -/
theorem one_less {x : RT} {n : Nat} (h : SmR n x) : SmR (n + 1) (rM (1, 1) x) ∧ qv (rM (1, 1) x) = 1 - qv x := by
  obtain ⟨b1, b2⟩ := qv_rM one_red h.1
  have hden : (0 : Int) < 1 * x.2 := by have := h.1.1; omega
  have m1 : Sm (n + 1) (1 * x.2 - x.1 * 1) := by
    rw [Int.one_mul, Int.mul_one]
    exact h.2.2.sub h.2.1
  have m2 : Sm (n + 1) (1 * x.2) := by
    rw [Int.one_mul]
    exact h.2.2.mono (by omega)
  refine ⟨low2_sm hden m1 m2, ?_⟩
  rw [b2, qv_one]
theorem ok_lasting {f fH fA fM : Addr} {fd fdH fdA fdM : FuncData} (F : Fun K "lasting" "lasting" s_lasting f fd) (C : Consts K mg aN aO)
    (FH : Fun K "chances_to" "chances_to" s_chto fH fdH) (bH : Binds K fdH ["life", "most"] []) (gH : mg "chances_to" = some (.ref fH)) (GH : FnOk P w K mg base CX0 4 fH fdH ["life", "most"] (spChto K))
    (FA : Fun K "added" "added" s_added fA fdA) (bA : Binds K fdA ["told"] []) (gA : mg "added" = some (.ref fA)) (GA : FnOk P w K mg base CX0 3 fA fdA ["told"] (spAdded K))
    (FM : Fun K "minus" "minus" s_minus fM fdM) (bM : Binds K fdM ["one", "other"] []) (gM : mg "minus" = some (.ref fM)) (GM : FnOk P w K mg base CX0 3 fM fdM ["one", "other"] (spTwo K (fun a b c d => a * d - c * b))) :
    FnOk P w K mg base CX0 5 f fd ["life", "k"] (spLasting K) := by
  refine F.ok sc_lasting (fun vs H Q E h => ?_) (fun cdv A outer s H vs Q E hr h => ?_)
  · obtain ⟨_, _, _, _, _, rfl, _⟩ := h
    rfl
  · obtain ⟨p, row, step, n, k, rfl, hlife, L, hk, q⟩ := h
    have hr3 := hr.mono (show 3 ≤ 4 by decide)
    refine ⟨_, (pss_one (ps_ret (pe_call GM hr3 (by rfl) gM FM.kp bM .nil pass0 (pa_cons (pe_glob (v := .ref aO) rfl C.gO rfl) (pa_cons (pe_call GA hr3 (by rfl) gA FA.kp bA .nil pass0 (pa_cons (pe_call GH hr (by rfl) gH FH.kp bH .nil pass0 (pa_cons (pv 0) (pa_cons (pv 1) pa_nil))) pa_nil)) pa_nil))))), ?_⟩
    refine ⟨_, rfl, _, rfl, p, row, step, n, k, rfl, hlife, L, hk, fun z rs chs H1 s1 hz hrs hch => ?_⟩
    have O := over_ch L.sm L.st.1 L.len L.n64 hk hch
    have hn := L.n64
    refine ⟨z, chs, _, _, _, rfl, ⟨rs, SqL.of hz, hrs⟩, O, by omega, by decide, fun y x H2 s2 hy rx vx dx sx => ?_⟩
    have sx2 : SmR 1730 x := ⟨rx, sx.mono (by omega), (dvd_small dx O.pos O.sm).mono (by decide)⟩
    refine ⟨aO, y, _, _, _, _, rfl, ⟨C.tO _, hy, by unfold Sm; decide, by unfold Sm; decide, sx2.2.1.mono (by decide), sx2.2.2.mono (by decide), by decide, rx.1⟩, fun b nb => ?_⟩
    have e := same_new (o := HO.tup [.int (rM (1, 1) x).1, .int (rM (1, 1) x).2]) nb
    obtain ⟨o1, o2⟩ := one_less sx2
    refine q b (rM (1, 1) x) _ (s1.trans (s2.trans e)) (SqT.of upd_same) (o1.mono (by decide)) ?_
    rw [o2, vx, hch.sum]
def rowQ (row : List RT) : Rat := (row.map qv).sum
end

end Fp

set_option Elab.async false
set_option linter.all false
set_option maxRecDepth 100000
set_option maxHeartbeats 4000000
set_option exponentiation.threshold 10000
namespace Fp
open PySem PySem.Spec PyProof.Rows L2
/-! ### the law's own sums, chances and rests -/
abbrev s_lsum : Stmt := topS 43
theorem sc_lsum : FnScope ["_law_some", "_law_found", "_law_one"] ["_law_some"] (defScope s_lsum) := ⟨rfl, rfl, rfl, by decide +kernel, rfl, by decide +kernel, by decide +kernel⟩
theorem sum_red {xs : List RT} {n d : Nat} {D : Int} {x : RT} (O : Over1 n d D xs) (hx : Red x) (h : qv x = (xs.map qv).sum) : x.2 ∣ D ∧ Sm (n + d + 11) x.1 := by
  have val : qv x = (((topsOn D xs).sum : Int) : Rat) / (D : Rat) := h.trans (tops_sum O.pos fun y hy => ⟨(O.ok y hy).1, (O.ok y hy).2.1⟩).symm
  obtain ⟨y1, y2⟩ := red_small hx O.pos val
  refine ⟨y1, ?_⟩
  have t := tops_sm (n := n) O.pos O.pos (Int.dvd_refl D) O.sm (xs := xs) fun y hy => ⟨(O.ok y hy).1, (O.ok y hy).2.2⟩
  have hlen := O.len
  unfold Sm
  have t2 : xs.length * 2 ^ (n + d) ≤ 1000 * 2 ^ (n + d) := Nat.mul_le_mul_right _ hlen
  have t3 : 2 ^ (n + d + 11) = 2048 * 2 ^ (n + d) := by rw [Nat.pow_add, Nat.mul_comm]
  have t4 : 0 < 2 ^ (n + d) := Nat.pow_pos (by decide)
  omega
theorem Over1.take {xs : List RT} {n d : Nat} {D : Int} (O : Over1 n d D xs) (i : Nat) : Over1 n d D (xs.take i) := ⟨O.pos, O.sm, fun x hx => O.ok x (List.mem_of_mem_take hx), by rw [List.length_take]; have := O.len; omega⟩
def rP (x y : RT) : RT := low2 (x.1 * y.2 + y.1 * x.2) (x.2 * y.2)
theorem qv_rP {x y : RT} (hx : Red x) (hy : 0 < y.2) : Red (rP x y) ∧ qv (rP x y) = qv x + qv y := by
  have hb := Int.mul_pos hx.1 hy
  refine ⟨low2_red (Int.ne_of_gt hb), ?_⟩
  unfold rP
  rw [qv_low2 hb, Rat.intCast_add, Rat.intCast_mul, Rat.intCast_mul, Rat.intCast_mul]
  have h1 := cast_ne (Int.ne_of_gt hx.1)
  have h2 := cast_ne (Int.ne_of_gt hy)
  unfold qv
  grind
section
variable {P : Program} {w : World} {K : PySem.W.Frag} {mg : Str → Option Value} {base : Heap}
def spLsum (K : PySem.W.Frag) (At : PySem.W.Frag → Hp → Addr → List RT → Prop) : Sp := fun vs H Q _ => ∃ (p : Addr) (xs : List RT) (n d : Nat) (D : Int), vs = [.ref p] ∧ At K H p xs ∧ Over1 n d D xs ∧ n ≤ 3500 ∧ d ≤ 3500 ∧
  ∀ z x H', Same H H' → RAt K H' z x → Red x → qv x = (xs.map qv).sum → x.2 ∣ D → Sm (n + d + 11) x.1 → Q (.ref z) H'
theorem ok_lsumL {f fL : Addr} {fd fdL : FuncData} (F : Fun K "_law_sum" "_law_sum" s_lsum f fd)
    (FL : Fun K "_law_low" "_law_low" s_low fL fdL) (bL : Binds K fdL ["_law_top", "_law_bottom"] []) (gL : mg "_law_low" = some (.ref fL)) (GL : FnOk P w K mg base CX0 1 fL fdL ["_law_top", "_law_bottom"] spLow) : FnOk P w K mg base CX0 2 f fd ["_law_some"] (spLsum K LstAt) := by
  refine F.ok sc_lsum (fun vs H Q E h => ?_) (fun cdv A outer s H vs Q E hr h => ?_)
  · obtain ⟨_, _, _, _, _, rfl, _⟩ := h
    rfl
  · obtain ⟨p, xs, n, d, D, rfl, hlst, O, hn, hd, q⟩ := h
    obtain ⟨rs, r1, r2⟩ := id hlst
    have hl := r2.length
    have hr1 := hr
    have d0 : 0 < d := by
      have h1 := O.sm
      have h2 := O.pos
      rcases Nat.eq_zero_or_pos d with z | z
      · rw [z] at h1
        unfold Sm at h1
        omega
      · exact z
    refine ⟨_, (pss_cons (ps_set (i := 1) sc_lsum.nd rfl (.inl rfl) (pe_tup (pa_cons pe_int (pa_cons pe_int pa_nil)))) (pss_cons (ps_for PassesOwn.never rfl (pi_list (pv 0)) (pg_name (i := 2) sc_lsum.nd rfl (.inl rfl)) (pss_one (ps_set (i := 1) sc_lsum.nd rfl (.inl rfl) (pe_call GL hr1 (by rfl) gL FL.kp bL .nil pass0 (pa_cons (pe_op op_add (pe_op op_mulA (pe_ix ix_tup (pv 1) pe_int (fun _ _ => rfl)) (pe_ix ix_tup (pv 2) pe_int (fun _ _ => rfl))) (pe_op op_mulA (pe_ix ix_tup (pv 2) pe_int (fun _ _ => rfl)) (pe_ix ix_tup (pv 1) pe_int (fun _ _ => rfl)))) (pa_cons (pe_op op_mulA (pe_ix ix_tup (pv 1) pe_int (fun _ _ => rfl)) (pe_ix ix_tup (pv 2) pe_int (fun _ _ => rfl))) pa_nil)))))) (pss_one (ps_ret (pv 1))))), ?_⟩
    refine ⟨by show 2 ≤ sizeLine; decide, fun a na => ?_⟩
    have e := same_new (o := HO.tup [.int 0, .int 1]) na
    refine ⟨_, rfl, p, rfl, ⟨_, e.seq r1⟩, for_list (K := K) (a := p) (xs := rs.map V.ref) (fun i σ H1 => ∃ (b : Addr) (y : RT) (y2 : Option V), σ = [some (.ref p), some (.ref b), y2] ∧ Same H H1 ∧ RAt K H1 b y ∧ Red y ∧ qv y = ((xs.take i).map qv).sum) ?_ ?_ ?_ ?_⟩
    · exact ⟨a, (0, 1), _, rfl, e, SqT.of upd_same, ⟨by decide, by decide⟩, by unfold qv; show ((0 : Int) : Rat) / ((1 : Int) : Rat) = 0; grind⟩
    · rintro i σ H1 _ ⟨_, _, _, _, s1, _⟩
      exact s1.seq r1
    · rintro i v σ H1 hi ⟨b, y, y2, rfl, s1, hb, ry, vy⟩
      have hi2 : i < xs.length := by
        have := (List.getElem?_eq_some_iff.mp hi).1
        rw [List.length_map, hl] at this
        exact this
      have hg : xs[i]? = some xs[i] := List.getElem?_eq_getElem hi2
      obtain ⟨r, er, hr2⟩ := r2.get hg
      have ev : v = .ref r := by
        rw [List.getElem?_map, er] at hi
        exact (Option.some.inj hi).symm
      subst ev
      obtain ⟨b0, bD, sn⟩ := O.ok xs[i] (List.getElem_mem hi2)
      obtain ⟨dy, sy⟩ := sum_red (O.take i) ry vy
      have sy2 : Sm d y.2 := dvd_small dy O.pos O.sm
      have sx2 : Sm d xs[i].2 := dvd_small bD O.pos O.sm
      have hr3 := hr2.tk (Tk.same (K := K) s1)
      refine ⟨_, rfl, b, _, 0, _, rfl, rfl, hb, atI_nat (j := 0) rfl, _, rfl, r, _, 1, _, rfl, rfl, hr3, atI_nat (j := 1) rfl, _, _, rfl, rfl, sy.cmul sx2 (by omega) d0 (by omega),
        _, rfl, r, _, 0, _, rfl, rfl, hr3, atI_nat (j := 0) rfl, _, rfl, b, _, 1, _, rfl, rfl, hb, atI_nat (j := 1) rfl, _, _, rfl, rfl, (sn.mono (show n ≤ n + 1 by omega)).cmul sy2 (by omega) d0 (by omega), _, _, rfl, rfl,
        _, rfl, b, _, 1, _, rfl, rfl, hb, atI_nat (j := 1) rfl, _, rfl, r, _, 1, _, rfl, rfl, hr3, atI_nat (j := 1) rfl, _, _, rfl, rfl, sy2.cmul sx2 d0 d0 (by omega), ?_⟩
      refine ⟨_, _, rfl, Int.mul_pos ry.1 b0, (sy2.mul sx2).mono (by omega), fun z nz => ?_⟩
      have e2 := same_new (o := HO.tup [.int (rP y xs[i]).1, .int (rP y xs[i]).2]) nz
      obtain ⟨w1, w2⟩ := qv_rP ry b0
      refine ⟨z, rP y xs[i], _, rfl, s1.trans e2, SqT.of upd_same, w1, ?_⟩
      rw [w2, vy, List.take_add_one, hg]
      show _ = ((xs.take i ++ [xs[i]]).map qv).sum
      rw [List.map_append, List.map_singleton, sum_snoc]
    · rintro σ H1 ⟨b, y, y2, rfl, s1, hb, ry, vy⟩
      rw [List.length_map, hl, List.take_length] at vy
      obtain ⟨dy, sy⟩ := sum_red O ry vy
      exact ⟨_, rfl, q b y _ s1 hb ry vy dy sy⟩
theorem ok_lsumT {f fL : Addr} {fd fdL : FuncData} (F : Fun K "_law_sum" "_law_sum" s_lsum f fd)
    (FL : Fun K "_law_low" "_law_low" s_low fL fdL) (bL : Binds K fdL ["_law_top", "_law_bottom"] []) (gL : mg "_law_low" = some (.ref fL)) (GL : FnOk P w K mg base CX0 1 fL fdL ["_law_top", "_law_bottom"] spLow) : FnOk P w K mg base CX0 2 f fd ["_law_some"] (spLsum K RowAt) := by
  refine F.ok sc_lsum (fun vs H Q E h => ?_) (fun cdv A outer s H vs Q E hr h => ?_)
  · obtain ⟨_, _, _, _, _, rfl, _⟩ := h
    rfl
  · obtain ⟨p, xs, n, d, D, rfl, hlst, O, hn, hd, q⟩ := h
    obtain ⟨rs, r1, r2⟩ := id hlst
    have hl := r2.length
    have hr1 := hr
    have d0 : 0 < d := by
      have h1 := O.sm
      have h2 := O.pos
      rcases Nat.eq_zero_or_pos d with z | z
      · rw [z] at h1
        unfold Sm at h1
        omega
      · exact z
    refine ⟨_, (pss_cons (ps_set (i := 1) sc_lsum.nd rfl (.inl rfl) (pe_tup (pa_cons pe_int (pa_cons pe_int pa_nil)))) (pss_cons (ps_for PassesOwn.never rfl (pi_tup (pv 0)) (pg_name (i := 2) sc_lsum.nd rfl (.inl rfl)) (pss_one (ps_set (i := 1) sc_lsum.nd rfl (.inl rfl) (pe_call GL hr1 (by rfl) gL FL.kp bL .nil pass0 (pa_cons (pe_op op_add (pe_op op_mulA (pe_ix ix_tup (pv 1) pe_int (fun _ _ => rfl)) (pe_ix ix_tup (pv 2) pe_int (fun _ _ => rfl))) (pe_op op_mulA (pe_ix ix_tup (pv 2) pe_int (fun _ _ => rfl)) (pe_ix ix_tup (pv 1) pe_int (fun _ _ => rfl)))) (pa_cons (pe_op op_mulA (pe_ix ix_tup (pv 1) pe_int (fun _ _ => rfl)) (pe_ix ix_tup (pv 2) pe_int (fun _ _ => rfl))) pa_nil)))))) (pss_one (ps_ret (pv 1))))), ?_⟩
    refine ⟨by show 2 ≤ sizeLine; decide, fun a na => ?_⟩
    have e := same_new (o := HO.tup [.int 0, .int 1]) na
    refine ⟨_, rfl, p, rfl, ⟨_, sqT_same e r1⟩, for_tup (K := K) (a := p) (xs := rs.map V.ref) (fun i σ H1 => ∃ (b : Addr) (y : RT) (y2 : Option V), σ = [some (.ref p), some (.ref b), y2] ∧ Same H H1 ∧ RAt K H1 b y ∧ Red y ∧ qv y = ((xs.take i).map qv).sum) ?_ ?_ ?_ ?_⟩
    · exact ⟨a, (0, 1), _, rfl, e, SqT.of upd_same, ⟨by decide, by decide⟩, by unfold qv; show ((0 : Int) : Rat) / ((1 : Int) : Rat) = 0; grind⟩
    · rintro i σ H1 _ ⟨_, _, _, _, s1, _⟩
      exact sqT_same s1 r1
    · rintro i v σ H1 hi ⟨b, y, y2, rfl, s1, hb, ry, vy⟩
      have hi2 : i < xs.length := by
        have := (List.getElem?_eq_some_iff.mp hi).1
        rw [List.length_map, hl] at this
        exact this
      have hg : xs[i]? = some xs[i] := List.getElem?_eq_getElem hi2
      obtain ⟨r, er, hr2⟩ := r2.get hg
      have ev : v = .ref r := by
        rw [List.getElem?_map, er] at hi
        exact (Option.some.inj hi).symm
      subst ev
      obtain ⟨b0, bD, sn⟩ := O.ok xs[i] (List.getElem_mem hi2)
      obtain ⟨dy, sy⟩ := sum_red (O.take i) ry vy
      have sy2 : Sm d y.2 := dvd_small dy O.pos O.sm
      have sx2 : Sm d xs[i].2 := dvd_small bD O.pos O.sm
      have hr3 := hr2.tk (Tk.same (K := K) s1)
      refine ⟨_, rfl, b, _, 0, _, rfl, rfl, hb, atI_nat (j := 0) rfl, _, rfl, r, _, 1, _, rfl, rfl, hr3, atI_nat (j := 1) rfl, _, _, rfl, rfl, sy.cmul sx2 (by omega) d0 (by omega),
        _, rfl, r, _, 0, _, rfl, rfl, hr3, atI_nat (j := 0) rfl, _, rfl, b, _, 1, _, rfl, rfl, hb, atI_nat (j := 1) rfl, _, _, rfl, rfl, (sn.mono (show n ≤ n + 1 by omega)).cmul sy2 (by omega) d0 (by omega), _, _, rfl, rfl,
        _, rfl, b, _, 1, _, rfl, rfl, hb, atI_nat (j := 1) rfl, _, rfl, r, _, 1, _, rfl, rfl, hr3, atI_nat (j := 1) rfl, _, _, rfl, rfl, sy2.cmul sx2 d0 d0 (by omega), ?_⟩
      refine ⟨_, _, rfl, Int.mul_pos ry.1 b0, (sy2.mul sx2).mono (by omega), fun z nz => ?_⟩
      have e2 := same_new (o := HO.tup [.int (rP y xs[i]).1, .int (rP y xs[i]).2]) nz
      obtain ⟨w1, w2⟩ := qv_rP ry b0
      refine ⟨z, rP y xs[i], _, rfl, s1.trans e2, SqT.of upd_same, w1, ?_⟩
      rw [w2, vy, List.take_add_one, hg]
      show _ = ((xs.take i ++ [xs[i]]).map qv).sum
      rw [List.map_append, List.map_singleton, sum_snoc]
    · rintro σ H1 ⟨b, y, y2, rfl, s1, hb, ry, vy⟩
      rw [List.length_map, hl, List.take_length] at vy
      obtain ⟨dy, sy⟩ := sum_red O ry vy
      exact ⟨_, rfl, q b y _ s1 hb ry vy dy sy⟩
def spLpower (K : PySem.W.Frag) : Sp := fun vs H Q _ => ∃ (p : Addr) (x : RT) (far : Nat), vs = [.ref p, .int (far : Int)] ∧ RAt K H p x ∧ SmR 5 x ∧ far ≤ 80 ∧
  ∀ z y H', Same H H' → RAt K H' z y → SmR (1 + 5 * far) y → qv y = qv x ^ far → Q (.ref z) H'
theorem pow_val {l step : RT} (hl : 0 < l.2) (hs : 0 < step.2) (j : Nat) : qv l * qv step ^ j = ((l.1 * step.1 ^ j : Int) : Rat) / ((l.2 * step.2 ^ j : Int) : Rat) := by
  induction j with
  | zero =>
    rw [Rat.pow_zero, Int.pow_zero, Int.pow_zero, Int.mul_one, Int.mul_one]
    unfold qv
    grind
  | succ j ih =>
    have h1 := cast_ne (Int.ne_of_gt hs)
    have h2 := cast_ne (Int.ne_of_gt (Int.mul_pos hl (show (0 : Int) < step.2 ^ j from Int.pow_pos hs)))
    rw [Rat.pow_succ, ← Rat.mul_assoc, ih, Int.pow_succ, Int.pow_succ, ← Int.mul_assoc, ← Int.mul_assoc, Rat.intCast_mul (l.1 * step.1 ^ j), Rat.intCast_mul (l.2 * step.2 ^ j)]
    unfold qv
    grind
abbrev s_lchance : Stmt := topS 48
theorem sc_lchance : FnScope ["_law_life_here", "_law_k", "_law_row", "_law_step", "_law_far", "_law_top", "_law_bottom", "_law_turn"] ["_law_life_here", "_law_k"] (defScope s_lchance) := ⟨rfl, rfl, rfl, by decide +kernel, rfl, by decide +kernel, by decide +kernel⟩
theorem zero_pow {j : Nat} (h : 0 < j) : (0 : Rat) ^ j = 0 := by
  obtain ⟨i, rfl⟩ : ∃ i, j = i + 1 := ⟨j - 1, by omega⟩
  rw [Rat.pow_succ]
  grind
def spLchance (K : PySem.W.Frag) : Sp := fun vs H Q _ => ∃ (p : Addr) (row : List RT) (step : RT) (n k : Nat), vs = [.ref p, .int (k : Int)] ∧ LifeAt K H p row step ∧ LifeOk n row step ∧ (row = [] → step = (0, 1)) ∧ 1 ≤ k ∧ k ≤ 70 ∧
  ∀ z x H', Same H H' → RAt K H' z x → SmR 500 x → qv x = chR row step (k - 1) → Q (.ref z) H'
theorem ok_lchance {f fL : Addr} {fd fdL : FuncData} (F : Fun K "_law_chance" "_law_chance" s_lchance f fd)
    (FL : Fun K "_law_low" "_law_low" s_low fL fdL) (bL : Binds K fdL ["_law_top", "_law_bottom"] []) (gL : mg "_law_low" = some (.ref fL)) (GL : FnOk P w K mg base CX0 1 fL fdL ["_law_top", "_law_bottom"] spLow)
    (ml : mg "len" = none) (mr : mg "range" = none) : FnOk P w K mg base CX0 2 f fd ["_law_life_here", "_law_k"] (spLchance K) := by
  refine F.ok sc_lchance (fun vs H Q E h => ?_) (fun cdv A outer s H vs Q E hr h => ?_)
  · obtain ⟨_, _, _, _, _, rfl, _⟩ := h
    rfl
  · obtain ⟨p, row, step, n, k, rfl, hlife, L, hnil, hk1, hk, q⟩ := h
    obtain ⟨pr, ps, l1, l2, l3⟩ := id hlife
    obtain ⟨rs, r1, r2⟩ := id l2
    have hl := r2.length
    have hr1 := hr
    have hn := L.n64
    have hn1 := L.n1
    refine ⟨_, (pss_cons (ps_asg (pv 0) (pg_tup rfl (pgs_cons (pg_name (i := 2) sc_lchance.nd rfl (.inl rfl)) (pgs_cons (pg_name (i := 3) sc_lchance.nd rfl (.inl rfl)) pgs_nil)))) (pss_cons (ps_if (pt_cmpR op_le (pv 1) (pe_callB call_len_seq (by rfl) ml PySem.boot_len (pa_cons (pv 2) pa_nil)) (nomark _)) (pss_one (ps_ret (pe_ix ix_tup (pv 2) (pe_op op_sub (pv 1) pe_int) (fun _ _ => rfl)))) pss_nil) (pss_cons (ps_if (pt_cmpR (op_eqD hr.units) (pv 3) (pe_tup (pa_cons pe_int (pa_cons pe_int pa_nil))) (nomark _)) (pss_one (ps_ret (pe_tup (pa_cons pe_int (pa_cons pe_int pa_nil))))) pss_nil) (pss_cons (ps_set (i := 4) sc_lchance.nd rfl (.inl rfl) (pe_op op_sub (pv 1) (pe_callB call_len_seq (by rfl) ml PySem.boot_len (pa_cons (pv 2) pa_nil)))) (pss_cons (ps_asg (pe_ix ix_tup (pv 2) (pe_un un_neg pe_int) (fun _ _ => rfl)) (pg_tup rfl (pgs_cons (pg_name (i := 5) sc_lchance.nd rfl (.inl rfl)) (pgs_cons (pg_name (i := 6) sc_lchance.nd rfl (.inl rfl)) pgs_nil)))) (pss_cons (ps_for PassesOwn.never rfl (pi_range1 (by rfl) mr (pa_cons (pv 4) pa_nil)) (pg_name (i := 7) sc_lchance.nd rfl (.inl rfl)) (pss_one (ps_par (i := 5) (j := 6) rfl sc_lchance.nd rfl rfl (by decide) rfl rfl (pa_cons (pe_op op_mulA (pv 5) (pe_ix ix_tup (pv 3) pe_int (fun _ _ => rfl))) (pa_cons (pe_op op_mulA (pv 6) (pe_ix ix_tup (pv 3) pe_int (fun _ _ => rfl))) pa_nil)) (by rfl)))) (pss_one (ps_ret (pe_call GL hr1 (by rfl) gL FL.kp bL .nil pass0 (pa_cons (pv 5) (pa_cons (pv 6) pa_nil))))))))))), ?_⟩
    refine ⟨_, rfl, p, _, rfl, l1, rfl, _, _, rfl, _, _, rfl, rfl, ?_⟩
    refine ⟨_, rfl, _, rfl, pr, _, rfl, .inr r1, _, _, rfl, rfl, _, rfl, ite2 (fun c => ?_) (fun c => ?_)⟩
    · have hkl : k ≤ row.length := by
        have : (k : Int) ≤ (((rs.map V.ref).length : Nat) : Int) := of_decide_eq_true c
        rw [List.length_map, hl] at this
        omega
      have hg : row[k - 1]? = some row[k - 1] := List.getElem?_eq_getElem (by omega)
      refine ⟨_, rfl, _, rfl, _, 1, rfl, rfl, ?_⟩
      exact ix_row (j := k - 1) l2 (by omega) hg fun r hr2 => q r _ _ (Same.refl _) hr2 ((L.sm _ (List.getElem_mem _)).mono (by omega)) (chR_in hg).symm
    · have hkl : row.length < k := by
        have : ¬ (k : Int) ≤ (((rs.map V.ref).length : Nat) : Int) := fun z => c (decide_eq_true z)
        rw [List.length_map, hl] at this
        omega
      refine ⟨_, rfl, by show 2 ≤ sizeLine; decide, fun a na => ?_⟩
      have e1 := same_new (o := HO.tup [.int 0, .int 1]) na
      refine eq_rat (y := (0, 1)) (l3.tk (Tk.same e1)) (SqT.of upd_same) ?_
      refine ⟨_, rfl, ite2 (fun c2 => ?_) (fun c2 => ?_)⟩
      · have hs : step = (0, 1) := of_decide_eq_true c2
        refine ⟨by show 2 ≤ sizeLine; decide, fun b nb => ?_⟩
        have e2 := same_new (o := HO.tup [.int 0, .int 1]) nb
        refine q b (0, 1) _ (e1.trans e2) (SqT.of upd_same) (SmR.mono (n := 1) ⟨⟨by decide, by decide⟩, by unfold Sm; decide, by unfold Sm; decide⟩ (by decide)) ?_
        rw [qv_nought, hs]
        rcases Classical.em (row = []) with z | z
        · rw [z, chR_nil]
        · obtain ⟨l, g1, _, _⟩ := last_is z
          rw [chR_out (by omega) g1, qv_nought, zero_pow (by omega)]
          grind
      · have hs : step ≠ (0, 1) := fun z => c2 (decide_eq_true z)
        have hne : row ≠ [] := fun z => hs (hnil z)
        obtain ⟨l, g1, g2, g3⟩ := last_is hne
        have hpos := List.length_pos_iff.mpr hne
        have sl := L.sm l g3
        have st := L.st.1
        have l2' := l2.tk (Tk.same (K := K) e1)
        have l3' := l3.tk (Tk.same (K := K) e1)
        refine ⟨_, rfl, _, rfl, pr, _, rfl, .inr (Tk.same e1 _ _ r1), _, _, rfl, rfl, ?_⟩
        refine ⟨_, rfl, 1, rfl, ?_⟩
        refine ix_back (k := 1) l2' (by decide) (by omega) g2 fun r hr2 => ?_
        refine ⟨r, _, rfl, hr2, rfl, _, _, rfl, _, _, rfl, rfl, ?_⟩
        have efar : (k : Int) - (((rs.map V.ref).length : Nat) : Int) = ((k - row.length : Nat) : Int) := by
          rw [List.length_map, hl]
          omega
        refine ⟨_, rfl, (k : Int) - (((rs.map V.ref).length : Nat) : Int), rfl, by rw [efar]; omega, by rw [efar]; omega, for_range (lo := 0) (n := ((k : Int) - (((rs.map V.ref).length : Nat) : Int)).toNat) (fun i σ H1 => H1 = upd H a (HO.tup [.int 0, .int 1]) ∧ ∃ y7 : Option V, σ = [some (.ref p), some (.int (k : Int)), some (.ref pr), some (.ref ps), some (.int ((k : Int) - (((rs.map V.ref).length : Nat) : Int))), some (.int (l.1 * step.1 ^ i)), some (.int (l.2 * step.2 ^ i)), y7]) ?_ ?_ ?_⟩
        · refine ⟨rfl, none, ?_⟩
          rw [Int.pow_zero, Int.pow_zero, Int.mul_one, Int.mul_one]
          rfl
        · rintro i σ H1 hi ⟨rfl, y7, rfl⟩
          rw [efar] at hi
          have p1 := sm_pow st.2.1 (by decide) i
          have p2 := sm_pow st.2.2 (by decide) i
          refine ⟨_, rfl, _, rfl, ps, _, 0, _, rfl, rfl, l3', atI_nat (j := 0) rfl, _, _, rfl, rfl, (sl.2.1.mul p1).cmul st.2.1 (by omega) (by decide) (by omega), ?_⟩
          refine ⟨_, rfl, _, rfl, ps, _, 1, _, rfl, rfl, l3', atI_nat (j := 1) rfl, _, _, rfl, rfl, (sl.2.2.mul p2).cmul st.2.2 (by omega) (by decide) (by omega), _, _, rfl, rfl, some (.int (0 + (i : Int))), ?_⟩
          rw [Int.pow_succ, Int.pow_succ, ← Int.mul_assoc, ← Int.mul_assoc]
          rfl
        · rintro σ H1 ⟨rfl, y7, rfl⟩
          have ef : ((k : Int) - (((rs.map V.ref).length : Nat) : Int)).toNat = k - row.length := by
            rw [efar]
            omega
          rw [ef]
          have p1 := sm_pow st.2.1 (by decide) (k - row.length)
          have p2 := sm_pow st.2.2 (by decide) (k - row.length)
          have b0 : 0 < l.2 * step.2 ^ (k - row.length) := Int.mul_pos sl.1.1 (Int.pow_pos st.1.1)
          refine ⟨_, rfl, _, rfl, _, _, rfl, b0, (sl.2.2.mul p2).mono (by omega), fun b nb => ?_⟩
          have e2 := same_new (o := HO.tup [.int (ratT (l.1 * step.1 ^ (k - row.length)) (l.2 * step.2 ^ (k - row.length))), .int (ratB (l.1 * step.1 ^ (k - row.length)) (l.2 * step.2 ^ (k - row.length)))]) nb
          refine q b (low2 (l.1 * step.1 ^ (k - row.length)) (l.2 * step.2 ^ (k - row.length))) _ (e1.trans e2) (SqT.of upd_same) (low2_sm b0 ((sl.2.1.mul p1).mono (by omega)) ((sl.2.2.mul p2).mono (by omega))) ?_
          rw [qv_low2 b0, ← pow_val sl.1.1 st.1.1, chR_out (by omega) g1, show k - 1 + 1 - row.length = k - row.length by omega]
end
/-- all chances from a place on -/
def restR (row : List RT) (step : RT) (k : Nat) : Rat := rowQ (row.drop k) + match row.getLast? with
  | none => 0
  | some l => qv l * qv step ^ (1 + (k - row.length)) / (1 - qv step)
theorem restR_zero {row : List RT} {step : RT} : restR row step 0 = rowQ row + behQ row step := by
  unfold restR behQ
  rw [List.drop_zero]
  match row.getLast? with
  | none => rfl
  | some l =>
    show _ + qv l * qv step ^ (1 + (0 - row.length)) / (1 - qv step) = _
    rw [Nat.zero_sub, Nat.add_zero]
    have : qv step ^ 1 = qv step := by
      rw [show (1 : Nat) = 0 + 1 from rfl, Rat.pow_succ, Rat.pow_zero]
      grind
    rw [this]
theorem restR_next {row : List RT} {step : RT} (hs : (1 : Rat) - qv step ≠ 0) (k : Nat) : restR row step k = chR row step k + restR row step (k + 1) := by
  rcases Classical.em (row = []) with z | z
  · subst z
    rw [chR_nil]
    unfold restR
    show (([].drop k : List RT).map qv).sum + 0 = 0 + ((([].drop (k + 1) : List RT).map qv).sum + 0)
    rw [List.drop_nil, List.drop_nil]
    grind
  · obtain ⟨l, g1, g2, g3⟩ := last_is z
    rcases (by omega : k < row.length ∨ row.length ≤ k) with hk | hk
    · have hg : row[k]? = some row[k] := List.getElem?_eq_getElem hk
      have ed : row.drop k = row[k] :: row.drop (k + 1) := List.drop_eq_getElem_cons hk
      rw [chR_in hg]
      unfold restR
      rw [g1, ed, show k - row.length = 0 by omega, show k + 1 - row.length = 0 by omega]
      show (qv row[k] + ((row.drop (k + 1)).map qv).sum) + _ = qv row[k] + (rowQ (row.drop (k + 1)) + _)
      unfold rowQ
      grind
    · rw [chR_out hk g1]
      unfold restR
      rw [g1, List.drop_eq_nil_of_le hk, List.drop_eq_nil_of_le (by omega)]
      show rowQ [] + qv l * qv step ^ (1 + (k - row.length)) / (1 - qv step) = qv l * qv step ^ (k + 1 - row.length) + (rowQ [] + qv l * qv step ^ (1 + (k + 1 - row.length)) / (1 - qv step))
      rw [show 1 + (k - row.length) = k + 1 - row.length by omega, show 1 + (k + 1 - row.length) = (k + 1 - row.length) + 1 by omega, Rat.pow_succ]
      grind
theorem restR_sum {row : List RT} {step : RT} (hs : (1 : Rat) - qv step ≠ 0) : ∀ k : Nat, restR row step 0 = sumCh row step k + restR row step k
  | 0 => by
    show _ = 0 + _
    grind
  | k + 1 => by
    rw [restR_sum hs k, restR_next hs k]
    show _ = sumCh row step k + chR row step k + _
    grind

end Fp

set_option Elab.async false
set_option linter.all false
set_option maxRecDepth 100000
set_option maxHeartbeats 4000000
set_option exponentiation.threshold 10000
namespace Fp
open PySem PySem.Spec PyProof.Rows L2
theorem tNoPart_go {σ : L2.St} {H : Hp} {Q : Option Int → Hp → Prop} (h : Q none H) : tNoPart σ H Q := h
theorem cutV_from (vs : List V) (n : Nat) : cutV vs (some (n : Int)) none = vs.drop n := by
  unfold cutV
  rw [HT.sIx_none, HT.sIx_nat]
  rcases Nat.le_total n vs.length with z | z
  · rw [Nat.min_eq_left z]
    rw [List.take_of_length_le (by rw [List.length_drop]; exact Nat.le_refl _)]
  · rw [Nat.min_eq_right z, List.drop_eq_nil_of_le (Nat.le_refl _), List.drop_eq_nil_of_le z, List.take_nil]
/-- row[n:] -/
theorem from_row {K : PySem.W.Frag} {H : Hp} {p : Addr} {xs : List RT} {n : Nat} {Q : VK} (h : RowAt K H p xs) (hq : ∀ r H', Same H H' → RowAt K H' r (xs.drop n) → Q (.ref r) H') : rSlA K (.ref p) (some (n : Int)) none H Q := by
  obtain ⟨rs, h1, h2⟩ := h
  have hl := h2.length
  refine ⟨p, _, rfl, h1, fun z => ?_, fun _ r nr => ?_⟩
  · have z1 := z.1
    rw [HT.sIx_nat, List.length_map] at z1
    refine hq p H (Same.refl H) ?_
    rcases (by omega : n = 0 ∨ xs.length = 0) with e | e
    · rw [e, List.drop_zero]
      exact ⟨rs, h1, h2⟩
    · have e2 := List.length_eq_zero_iff.mp e
      subst e2
      rw [List.drop_nil]
      exact ⟨rs, h1, h2⟩
  · rw [cutV_from]
    have s := same_new (o := HO.tup ((rs.map V.ref).drop n)) nr
    refine hq r _ s ⟨rs.drop n, ?_, (h2.drop n).tk (Tk.same s)⟩
    rw [List.map_drop]
    exact SqT.of upd_same
theorem over_two {x y : RT} {n a b : Nat} (hx : 0 < x.2) (hy : 0 < y.2) (sx : Sm n x.1) (sy : Sm n y.1) (dx : Sm a x.2) (dy : Sm b y.2) : Over1 n (a + b) (x.2 * y.2) [x, y] := by
  refine ⟨Int.mul_pos hx hy, dx.mul dy, fun z hz => ?_, by show 2 ≤ 1000; decide⟩
  rcases List.mem_cons.mp hz with e | e
  · subst e
    exact ⟨hx, Int.dvd_mul_right .., sx⟩
  · rw [List.mem_singleton.mp e]
    exact ⟨hy, Int.dvd_mul_left .., sy⟩
theorem sum_two (x y : RT) : (([x, y] : List RT).map qv).sum = qv x + qv y := by
  show qv x + (qv y + 0) = _
  grind
section
variable {P : Program} {w : World} {K : PySem.W.Frag} {mg : Str → Option Value} {base : Heap}
def spLrest (K : PySem.W.Frag) : Sp := fun vs H Q _ => ∃ (p : Addr) (row : List RT) (step : RT) (n k : Nat), vs = [.ref p, .int (k : Int)] ∧ LifeAt K H p row step ∧ LifeOk n row step ∧ (row = [] → step = (0, 1)) ∧ k ≤ 70 ∧
  ∀ z x H', Same H H' → RAt K H' z x → Red x → qv x = restR row step k → Sm 2350 x.1 → Sm 1350 x.2 → Q (.ref z) H'
end

end Fp

set_option Elab.async false
set_option linter.all false
set_option maxRecDepth 100000
set_option maxHeartbeats 4000000
set_option exponentiation.threshold 10000
namespace Fp
open PySem PySem.Spec PyProof.Rows L2
/-! ### the one ratio in lowest terms of a value -/
def rdq (q : Rat) : RT := (q.num, (q.den : Int))
theorem rdq_red (q : Rat) : Red (rdq q) := ⟨by have := q.den_nz; show (0 : Int) < (q.den : Int); omega, by
  have := q.reduced
  show Nat.gcd q.num.natAbs ((q.den : Int)).natAbs = 1
  rw [Int.natAbs_natCast]
  exact this⟩
theorem qv_rdq (q : Rat) : qv (rdq q) = q := by
  have h := Rat.num_divInt_den q
  rw [Rat.divInt_eq_div] at h
  exact h
theorem red_rdq {x : RT} (h : Red x) : x = rdq (qv x) := qv_inj h (rdq_red _) (qv_rdq _).symm
theorem is_rdq {x : RT} {q : Rat} (h : Red x) (e : qv x = q) : x = rdq q := by
  rw [← e]
  exact red_rdq h
mutual
theorem Dp.same' {K : PySem.W.Frag} {H H' : Hp} (e : Same H H') : ∀ {v : V} {d : PyData}, Dp K H v d → Dp K H' v d
  | _, _, .non => .non
  | _, _, .bl b => .bl b
  | _, _, .int i => .int i
  | _, _, .str x => .str x
  | _, _, .lst h r => .lst (e.seq h) (DpAll.same' e r)
  | _, _, .tup h r => .tup (sqT_same e h) (DpAll.same' e r)
theorem DpAll.same' {K : PySem.W.Frag} {H H' : Hp} (e : Same H H') : ∀ {vs : List V} {ds : List PyData}, DpAll K H vs ds → DpAll K H' vs ds
  | _, _, .nil => .nil
  | _, _, .cons h r => .cons (Dp.same' e h) (DpAll.same' e r)
end

end Fp

set_option Elab.async false
set_option linter.all false
set_option maxRecDepth 100000
set_option maxHeartbeats 4000000
set_option exponentiation.threshold 10000
namespace Fp
open PySem PySem.Spec PyProof.Rows L2
/-! ### lives shown -/
theorem sh_int {i : Int} (h : Sm 1900 i) : (PyData.int i).showable = true ∧ (PyData.int i).leavesShort 2000 = true := by
  have l : i.natAbs.log2 < 1900 := h.log (by decide)
  refine ⟨?_, ?_⟩
  · simp only [PyData.showable, decide_eq_true_eq]
    omega
  · simp only [PyData.leavesShort, decide_eq_true_eq]
    have e := int_text_length_le (k := 1900) (by decide) l
    show (Str.ofString (toString i)).length ≤ 2000
    rw [PySem.ofString_length]
    omega
/-- a thing that may be shown within others -/
structure Sh (c k : Nat) (d : PyData) : Prop where
  sh : d.showable = true
  lv : d.leavesShort 2000 = true
  co : cost d ≤ c
  dp : d.depth ≤ k
theorem Sh.shows {c k : Nat} {d : PyData} (h : Sh c k d) (hc : c ≤ 16000000) (hk : k ≤ 60) : Shows d := ⟨h.sh, h.lv, Nat.le_trans h.co hc, Nat.le_trans h.dp hk⟩
structure Shs (c k : Nat) (ds : List PyData) : Prop where
  sh : PyData.showableAll ds = true
  lv : PyData.leavesShortAll 2000 ds = true
  co : costAll ds ≤ c
  dp : PyData.depthAll ds ≤ k
theorem Shs.nil {k : Nat} : Shs 0 k [] := ⟨rfl, rfl, Nat.le_refl _, Nat.zero_le _⟩
theorem Shs.cons {c1 c2 k : Nat} {d : PyData} {ds : List PyData} (h : Sh c1 k d) (hs : Shs c2 k ds) : Shs (c1 + 2 + c2) k (d :: ds) := by
  refine ⟨?_, ?_, ?_, ?_⟩
  · show (d.showable && PyData.showableAll ds) = true
    rw [h.sh, hs.sh]
    rfl
  · show (d.leavesShort 2000 && PyData.leavesShortAll 2000 ds) = true
    rw [h.lv, hs.lv]
    rfl
  · show cost d + 2 + costAll ds ≤ _
    have := h.co
    have := hs.co
    omega
  · show max d.depth (PyData.depthAll ds) ≤ k
    have := h.dp
    have := hs.dp
    omega
theorem Shs.tup {c k : Nat} {ds : List PyData} (h : Shs c k ds) : Sh (c + 3) (k + 1) (.tuple ds) := ⟨h.sh, h.lv, Nat.add_le_add_right h.co 3, Nat.add_le_add_right h.dp 1⟩
theorem Shs.lst {c k : Nat} {ds : List PyData} (h : Shs c k ds) : Sh (c + 3) (k + 1) (.list ds) := ⟨h.sh, h.lv, Nat.add_le_add_right h.co 3, Nat.add_le_add_right h.dp 1⟩
theorem Sh.int {i : Int} (h : Sm 1900 i) : Sh 2000 0 (.int i) := ⟨(sh_int h).1, (sh_int h).2, Nat.le_refl _, Nat.le_refl _⟩
theorem Sh.bool {b : Bool} : Sh 5 0 (.bool b) := ⟨rfl, rfl, Nat.le_refl _, Nat.le_refl _⟩
theorem Sh.mono {c c2 k k2 : Nat} {d : PyData} (h : Sh c k d) (h1 : c ≤ c2) (h2 : k ≤ k2) : Sh c2 k2 d := ⟨h.sh, h.lv, Nat.le_trans h.co h1, Nat.le_trans h.dp h2⟩
theorem Shs.mono {c c2 k k2 : Nat} {ds : List PyData} (h : Shs c k ds) (h1 : c ≤ c2) (h2 : k ≤ k2) : Shs c2 k2 ds := ⟨h.sh, h.lv, Nat.le_trans h.co h1, Nat.le_trans h.dp h2⟩
def ratD (x : RT) : PyData := .tuple [.int x.1, .int x.2]
theorem Sh.rat {x : RT} {n : Nat} (h : SmR n x) (hn : n ≤ 1900) : Sh 4007 1 (ratD x) := (Shs.cons (Sh.int (h.2.1.mono hn)) (Shs.cons (Sh.int (h.2.2.mono hn)) Shs.nil)).tup
theorem Shs.row {n : Nat} (hn : n ≤ 1900) : ∀ {xs : List RT}, (∀ x ∈ xs, SmR n x) → Shs (4009 * xs.length) 1 (rowD xs)
  | [], _ => Shs.nil
  | x :: r, h => by
    have h1 := Shs.cons (Sh.rat (h x (List.mem_cons_self ..)) hn) (Shs.row hn fun y hy => h y (List.mem_cons_of_mem _ hy))
    refine h1.mono ?_ (Nat.le_refl _)
    rw [List.length_cons]
    omega
def lifeD (row : List RT) (step : RT) : PyData := .tuple [.tuple (rowD row), ratD step]
theorem Sh.life {n : Nat} {row : List RT} {step : RT} (hn : n ≤ 1900) (h : ∀ x ∈ row, SmR n x) (hs : SmR n step) (hl : row.length ≤ 100) : Sh 500000 3 (lifeD row step) := by
  have h1 := (Shs.row hn h).tup
  have h2 := (Shs.cons h1 (Shs.cons ((Sh.rat hs hn).mono (Nat.le_refl _) (by decide : 1 ≤ 2)) Shs.nil)).tup
  exact h2.mono (by omega) (Nat.le_refl _)
theorem LifeAt.dp {K : PySem.W.Frag} {H : Hp} {p : Addr} {row : List RT} {step : RT} (h : LifeAt K H p row step) : Dp K H (.ref p) (lifeD row step) := by
  obtain ⟨pr, ps, h1, h2, h3⟩ := h
  exact .tup h1 (.cons h2.dp (.cons h3.dp .nil))

end Fp

set_option Elab.async false
set_option linter.all false
set_option maxRecDepth 100000
set_option maxHeartbeats 4000000
set_option exponentiation.threshold 10000
namespace Fp
open PySem PySem.Spec PyProof.Rows L2
theorem flat_rep {α : Type} (a : α) : ∀ k : Nat, (List.replicate k [a]).flatten = List.replicate k a
  | 0 => rfl
  | k + 1 => by
    rw [List.replicate_succ, List.flatten_cons, flat_rep a k]
    rfl
theorem RsAt.rep {K : PySem.W.Frag} {H : Hp} {p : Addr} {x : RT} (h : RAt K H p x) : ∀ k : Nat, RsAt K H (List.replicate k p) (List.replicate k x)
  | 0 => .nil
  | k + 1 => .cons h (RsAt.rep h k)
/-- ((0, 1),) * k -/
theorem rep_row {K : PySem.W.Frag} {H : Hp} {p a : Addr} {x : RT} {k : Nat} {Q : VK} (h : SqT K H p [.ref a]) (ha : RAt K H a x) (hk : k ≤ 1000) (q : ∀ r H', Same H H' → RowAt K H' r (List.replicate k x) → Q (.ref r) H') : rRepA K (.ref p) (.int (k : Int)) H Q := by
  refine ⟨p, k, _, rfl, rfl, h, by simp, by omega, by omega, by show 1 ≤ 1000; decide, fun z => ?_, fun _ r nr => ?_⟩
  · have e : k = 1 := by omega
    subst e
    exact q p H (Same.refl H) ⟨[a], h, .cons ha .nil⟩
  · have s := same_new (o := HO.tup (List.replicate (k : Int).toNat [V.ref a]).flatten) nr
    refine q r _ s ⟨List.replicate k a, ?_, (RsAt.rep ha k).tk (Tk.same s)⟩
    have e : (List.replicate k a).map V.ref = (List.replicate (k : Int).toNat [V.ref a]).flatten := by
      rw [flat_rep, List.map_replicate, Int.toNat_natCast]
    rw [e]
    exact SqT.of upd_same

end Fp

set_option Elab.async false
set_option linter.all false
set_option maxRecDepth 100000
set_option maxHeartbeats 4000000
set_option exponentiation.threshold 10000
namespace Fp
open PySem PySem.Spec PyProof.Rows L2
/-! ### the short life with the same chances: what both sides come to -/
def trimZ (xs : List RT) : List RT := (xs.reverse.dropWhile (fun x => decide (x = ((0 : Int), (1 : Int))))).reverse
theorem trimZ_nil : trimZ [] = [] := rfl
theorem trimZ_nought (xs : List RT) : trimZ (xs ++ [(0, 1)]) = trimZ xs := by
  unfold trimZ
  rw [List.reverse_append]
  show (List.dropWhile _ ((0, 1) :: xs.reverse)).reverse = _
  rw [List.dropWhile_cons_of_pos (by decide)]
theorem trimZ_stop (xs : List RT) {x : RT} (h : x ≠ (0, 1)) : trimZ (xs ++ [x]) = xs ++ [x] := by
  unfold trimZ
  rw [List.reverse_append]
  show (List.dropWhile _ (x :: xs.reverse)).reverse = _
  rw [List.dropWhile_cons_of_neg (by simpa using h), List.reverse_cons, List.reverse_reverse]
theorem trimZ_noughts (xs : List RT) : ∀ n, trimZ (xs ++ List.replicate n (0, 1)) = trimZ xs
  | 0 => by rw [List.replicate_zero, List.append_nil]
  | n + 1 => by rw [List.replicate_succ', ← List.append_assoc, trimZ_nought, trimZ_noughts xs n]
theorem trimZ_cases (xs : List RT) : trimZ xs = [] ∨ ∃ ys y, trimZ xs = ys ++ [y] ∧ y ≠ (0, 1) := by
  suffices h : ∀ n (xs : List RT), xs.length = n → trimZ xs = [] ∨ ∃ ys y, trimZ xs = ys ++ [y] ∧ y ≠ (0, 1) from h _ xs rfl
  intro n
  induction n with
  | zero =>
    intro xs h
    rw [List.length_eq_zero_iff.mp h]
    exact .inl rfl
  | succ n ih =>
    intro xs h
    rcases snoc_cases xs with rfl | ⟨ys, y, rfl⟩
    · cases h
    · rcases Classical.em (y = (0, 1)) with rfl | hy
      · rw [trimZ_nought]
        exact ih ys (by simpa using h)
      · rw [trimZ_stop _ hy]
        exact .inr ⟨ys, y, rfl, hy⟩
theorem trimZ_idem (xs : List RT) : trimZ (trimZ xs) = trimZ xs := by
  rcases trimZ_cases xs with h | ⟨ys, y, h, hy⟩
  · rw [h]
    rfl
  · rw [h, trimZ_stop _ hy]
def revG (step : RT) : List RT → List RT
  | a :: b :: r => if a = rT b step then revG step (b :: r) else a :: b :: r
  | l => l
def trimG (xs : List RT) (step : RT) : List RT := (revG step xs.reverse).reverse
theorem trimG_one (a step : RT) : trimG [a] step = [a] := rfl
theorem rev_two (xs : List RT) (b a : RT) : (xs ++ [b] ++ [a]).reverse = a :: b :: xs.reverse := by
  rw [List.reverse_append, List.reverse_append]
  rfl
theorem rev_one (xs : List RT) (b : RT) : (xs ++ [b]).reverse = b :: xs.reverse := by
  rw [List.reverse_append]
  rfl
theorem trimG_cut (xs : List RT) (b step : RT) : trimG (xs ++ [b] ++ [rT b step]) step = trimG (xs ++ [b]) step := by
  unfold trimG
  rw [rev_two, rev_one]
  show (if rT b step = rT b step then revG step (b :: xs.reverse) else _).reverse = _
  rw [if_pos rfl]
theorem trimG_stop (xs : List RT) {a b step : RT} (h : a ≠ rT b step) : trimG (xs ++ [b] ++ [a]) step = xs ++ [b] ++ [a] := by
  unfold trimG
  rw [rev_two]
  show (if a = rT b step then _ else a :: b :: xs.reverse).reverse = _
  rw [if_neg h, List.reverse_cons, List.reverse_cons, List.reverse_reverse]
theorem low2_nought {b : Int} (hb : 0 < b) : low2 0 b = (0, 1) :=
  red_eq (low2_red (Int.ne_of_gt hb)) ⟨by decide, by decide⟩ (by
    have := low2_cross (t := 0) hb
    rw [Int.zero_mul] at this
    have e : (low2 0 b).1 = 0 := by
      rcases Int.mul_eq_zero.mp this with z | z
      · exact z
      · omega
    rw [e]
    show (0 : Int) * 1 = 0 * _
    rw [Int.zero_mul, Int.zero_mul])
theorem low2_zero {t b : Int} (hb : 0 < b) : low2 t b = (0, 1) ↔ t = 0 := by
  refine ⟨fun h => ?_, fun h => by rw [h]; exact low2_nought hb⟩
  have := low2_cross (t := t) hb
  rw [h] at this
  dsimp only at this
  omega
theorem red_zero {x : RT} (h : Red x) : x = (0, 1) ↔ x.1 = 0 := by
  refine ⟨fun z => by rw [z], fun z => ?_⟩
  refine red_eq h ⟨by decide, by decide⟩ ?_
  rw [z]
  simp
theorem rT_zero {x y : RT} (hx : Red x) (hy : Red y) : rT x y = (0, 1) ↔ x = (0, 1) ∨ y = (0, 1) := by
  unfold rT
  rw [low2_zero (Int.mul_pos hx.1 hy.1), red_zero hx, red_zero hy, Int.mul_eq_zero]
/-- the last of a trimmed one isn't nought, and it is trimmed -/
theorem trimG_good (step : RT) : ∀ (n : Nat) (xs : List RT) (a : RT), xs.length = n → (∀ x ∈ xs ++ [a], Red x) → Red step → a ≠ (0, 1) → step ≠ (0, 1) →
    ∃ ys b, trimG (xs ++ [a]) step = ys ++ [b] ∧ b ≠ (0, 1) ∧ trimG (ys ++ [b]) step = ys ++ [b] ∧ (ys ++ [b]).length ≤ (xs ++ [a]).length ∧ ∀ x ∈ ys ++ [b], x ∈ xs ++ [a] := by
  intro n
  induction n with
  | zero =>
    intro xs a h _ _ ha _
    rw [List.length_eq_zero_iff.mp h]
    exact ⟨[], a, trimG_one a step, ha, trimG_one a step, Nat.le_refl _, fun x hx => hx⟩
  | succ n ih =>
    intro xs a h hr hs ha hz
    rcases snoc_cases xs with rfl | ⟨ys, b, rfl⟩
    · cases h
    · rcases Classical.em (a = rT b step) with rfl | hn
      · have hb : Red b := hr b (by simp)
        have hb0 : b ≠ (0, 1) := fun z => ha ((rT_zero hb hs).mpr (.inl z))
        obtain ⟨zs, c, e1, e2, e3, e4, e5⟩ := ih ys b (by simpa using h) (fun x hx => hr x (List.mem_append_left _ hx)) hs hb0 hz
        rw [trimG_cut]
        refine ⟨zs, c, e1, e2, e3, ?_, fun x hx => List.mem_append_left _ (e5 x hx)⟩
        rw [List.length_append (as := ys ++ [b])]
        omega
      · rw [trimG_stop _ hn]
        exact ⟨ys ++ [b], a, rfl, ha, trimG_stop _ hn, Nat.le_refl _, fun x hx => hx⟩
/-- the row has a last one that isn't nought, and goes on by the step -/
def GoesOn (row : List RT) (step : RT) : Prop := step ≠ (0, 1) ∧ ∃ ys y, row = ys ++ [y] ∧ y ≠ (0, 1)
open Classical in
noncomputable def shortL (row : List RT) (step : RT) : List RT × RT := if GoesOn row step then (trimG row step, step) else (trimZ row, (0, 1))
theorem shortL_go {row : List RT} {step : RT} (h : GoesOn row step) : shortL row step = (trimG row step, step) := by
  unfold shortL
  rw [if_pos h]
theorem shortL_end {row : List RT} {step : RT} (h : ¬ GoesOn row step) : shortL row step = (trimZ row, (0, 1)) := by
  unfold shortL
  rw [if_neg h]
theorem goes_snoc {ys : List RT} {y step : RT} : GoesOn (ys ++ [y]) step ↔ step ≠ (0, 1) ∧ y ≠ (0, 1) := by
  refine ⟨fun h => ?_, fun h => ⟨h.1, ys, y, rfl, h.2⟩⟩
  obtain ⟨h1, zs, z, e, hz⟩ := h
  have e2 := List.append_inj_right' e rfl
  cases e2
  exact ⟨h1, hz⟩
theorem goes_nil {step : RT} : ¬ GoesOn [] step := by
  rintro ⟨_, ys, y, e, _⟩
  have := congrArg List.length e
  simp at this
theorem shortL_idem {row : List RT} {step : RT} (hr : ∀ x ∈ row, Red x) (hs : Red step) : shortL (shortL row step).1 (shortL row step).2 = shortL row step := by
  rcases Classical.em (GoesOn row step) with h | h
  · obtain ⟨h1, ys, y, rfl, hy⟩ := id h
    obtain ⟨zs, z, e1, e2, e3, _, _⟩ := trimG_good step _ ys y rfl hr hs hy h1
    rw [shortL_go h, e1]
    dsimp only
    rw [shortL_go (goes_snoc.mpr ⟨h1, e2⟩), e3]
  · rw [shortL_end h]
    dsimp only
    rw [shortL_end (fun z => z.1 rfl), trimZ_idem]
theorem shortL_more {row : List RT} {step l : RT} (h : GoesOn (row ++ [l]) step) (hl : Red l) (hs : Red step) : GoesOn (row ++ [l] ++ [rT l step]) step ∧ shortL (row ++ [l] ++ [rT l step]) step = shortL (row ++ [l]) step := by
  obtain ⟨h1, h2⟩ := goes_snoc.mp h
  have g : GoesOn (row ++ [l] ++ [rT l step]) step := goes_snoc.mpr ⟨h1, fun z => by
    rcases (rT_zero hl hs).mp z with y | y
    · exact h2 y
    · exact h1 y⟩
  exact ⟨g, by rw [shortL_go g, shortL_go h, trimG_cut]⟩
theorem shortL_noughts {row : List RT} {step st : RT} {n : Nat} (h : ¬ GoesOn row step) (hn : n = 0 → ¬ GoesOn row st) : ¬ GoesOn (row ++ List.replicate n (0, 1)) st ∧ shortL (row ++ List.replicate n (0, 1)) st = shortL row step := by
  have g : ¬ GoesOn (row ++ List.replicate n (0, 1)) st := by
    match n, hn with
    | 0, hn =>
      rw [List.replicate_zero, List.append_nil]
      exact hn rfl
    | n + 1, _ =>
      rw [List.replicate_succ', ← List.append_assoc]
      exact fun z => (goes_snoc.mp z).2 rfl
  exact ⟨g, by rw [shortL_end g, shortL_end h, trimZ_noughts]⟩
theorem trimZ_mem : ∀ {n : Nat} {xs : List RT}, xs.length = n → ∀ x ∈ trimZ xs, x ∈ xs := by
  intro n
  induction n with
  | zero =>
    intro xs h x hx
    rw [List.length_eq_zero_iff.mp h] at hx
    simp [trimZ] at hx
  | succ n ih =>
    intro xs h x hx
    rcases snoc_cases xs with rfl | ⟨ys, y, rfl⟩
    · cases h
    · rcases Classical.em (y = (0, 1)) with rfl | hy
      · rw [trimZ_nought] at hx
        exact List.mem_append_left _ (ih (by simpa using h) x hx)
      · rw [trimZ_stop _ hy] at hx
        exact hx
theorem trimZ_len : ∀ {n : Nat} {xs : List RT}, xs.length = n → (trimZ xs).length ≤ xs.length := by
  intro n
  induction n with
  | zero =>
    intro xs h
    rw [List.length_eq_zero_iff.mp h]
    exact Nat.le_refl _
  | succ n ih =>
    intro xs h
    rcases snoc_cases xs with rfl | ⟨ys, y, rfl⟩
    · cases h
    · rcases Classical.em (y = (0, 1)) with rfl | hy
      · rw [trimZ_nought]
        have := ih (xs := ys) (by simpa using h)
        rw [List.length_append]
        omega
      · rw [trimZ_stop _ hy]
        exact Nat.le_refl _
theorem shortL_mem {row : List RT} {step : RT} (hr : ∀ x ∈ row, Red x) (hs : Red step) : (∀ x ∈ (shortL row step).1, x ∈ row) ∧ (shortL row step).1.length ≤ row.length ∧ ((shortL row step).2 = step ∨ (shortL row step).2 = (0, 1)) := by
  rcases Classical.em (GoesOn row step) with h | h
  · obtain ⟨h1, ys, y, rfl, hy⟩ := id h
    obtain ⟨zs, z, e1, e2, e3, e4, e5⟩ := trimG_good step _ ys y rfl hr hs hy h1
    rw [shortL_go h, e1]
    exact ⟨e5, e4, .inl rfl⟩
  · rw [shortL_end h]
    exact ⟨trimZ_mem rfl, trimZ_len rfl, .inr rfl⟩

end Fp

set_option Elab.async false
set_option linter.all false
set_option maxRecDepth 100000
set_option maxHeartbeats 4000000
set_option exponentiation.threshold 10000
namespace Fp
open PySem PySem.Spec PyProof.Rows L2
abbrev s_short : Stmt := topS 20
abbrev s_wn : Stmt := topS 21
theorem sc_short : FnScope ["life", "row", "step"] ["life"] (defScope s_short) := ⟨rfl, rfl, rfl, by decide +kernel, rfl, by decide +kernel, by decide +kernel⟩
theorem sc_wn : FnScope ["row", "end"] ["row"] (defScope s_wn) := ⟨rfl, rfl, rfl, by decide +kernel, rfl, by decide +kernel, by decide +kernel⟩
theorem behindR_zero {row : List RT} {step : RT} (hr : ∀ x ∈ row, Red x) (hs : Red step) (h1 : step.1 < step.2) : behindR row step = (0, 1) ↔ ¬ GoesOn row step := by
  rcases snoc_cases row with rfl | ⟨ys, y, rfl⟩
  · exact ⟨fun _ => goes_nil, fun _ => rfl⟩
  · have hy : Red y := hr y (by simp)
    rw [behindR_snoc, goes_snoc]
    unfold rO
    have hq : Red (rT y step) := low2_red (Int.ne_of_gt (Int.mul_pos hy.1 hs.1))
    rw [low2_zero (Int.mul_pos hq.1 (gap_pos hs h1)), Int.mul_eq_zero]
    have hm := (low2_red (t := 1 * step.2 - step.1 * 1) (b := 1 * step.2) (by have := hs.1; omega)).1
    have e1 : (rT y step).1 = 0 ↔ rT y step = (0, 1) := (red_zero hq).symm
    rw [e1, rT_zero hy hs]
    refine ⟨fun z => ?_, fun z => .inl ?_⟩
    · rcases z with (z | z) | z
      · exact fun g => g.2 z
      · exact fun g => g.1 z
      · have : (0 : Int) < (rM (1, 1) step).2 := hm
        omega
    · rcases Classical.em (y = (0, 1)) with a | a
      · exact .inl a
      · rcases Classical.em (step = (0, 1)) with b | b
        · exact .inr b
        · exact absurd ⟨b, a⟩ z
section
variable {P : Program} {w : World} {K : PySem.W.Frag} {mg : Str → Option Value} {base : Heap} {aN aO : Addr}
/-! ### without noughts at the end -/
def spWn (K : PySem.W.Frag) : Sp := fun vs H Q _ => ∃ (p : Addr) (row : List RT), vs = [.ref p] ∧ RowAt K H p row ∧ ∀ z H', Same H H' → LifeAt K H' z (trimZ row) (0, 1) → Q (.ref z) H'
theorem ok_wn {f : Addr} {fd : FuncData} {k : Nat} (F : Fun K "without_noughts" "without_noughts" s_wn f fd) (C : Consts K mg aN aO) (ml : mg "len" = none) : FnOk P w K mg base CX0 (k + 1) f fd ["row"] (spWn K) := by
  refine F.ok sc_wn (fun vs H Q E h => ?_) (fun cdv A outer s H vs Q E hr h => ?_)
  · obtain ⟨_, _, rfl, _⟩ := h
    rfl
  · obtain ⟨p, row, rfl, hrow, q⟩ := h
    refine ⟨_, (pss_cons (ps_set (i := 1) sc_wn.nd rfl (.inl rfl) (pe_callB call_len_seq (by rfl) ml PySem.boot_len (pa_cons (pv 0) pa_nil))) (pss_cons (ps_while PassesOwn.never (PW.pt (pw_and (pt_cmpR op_gt (pv 1) pe_int (nomark _)) (pw_and1 (pt_cmpR (op_eqD hr.units) (pe_ix ix_tup (pv 0) (pe_op op_sub (pv 1) pe_int) (fun _ _ => rfl)) (pe_glob (v := .ref aN) rfl C.gN rfl) (nomark _)))))
          (pss_one (ps_aug (i := 1) sc_wn.nd rfl (.inl rfl) pe_int ip_sub))) (pss_one (ps_ret (pe_tup (pa_cons (pe_slice sl_tupA (pv 0) po_none (po_some (pv 1))) (pa_cons (pe_glob (v := .ref aN) rfl C.gN rfl) pa_nil))))))), ?_⟩
    obtain ⟨rs, r1, r2⟩ := id hrow
    have hl := r2.length
    refine ⟨_, rfl, p, _, rfl, .inr r1, ?_⟩
    refine ⟨fun m σ H1 => H1 = H ∧ m ≤ row.length ∧ σ = [some (.ref p), some (.int (m : Int))] ∧ trimZ (row.take m) = trimZ row, ⟨row.length, rfl, Nat.le_refl _, ?_, by rw [List.take_length]⟩, ?_⟩
    · show [some (V.ref p), some (V.int (((rs.map V.ref).length : Nat) : Int))] = _
      rw [List.length_map, hl]
    · rintro m σ H1 ⟨rfl, hm, rfl, et⟩
      have done : (m = 0 ∨ ∃ x, row[m - 1]? = some x ∧ x ≠ (0, 1)) → trimZ row = row.take m := fun z => by
        rw [← et]
        rcases z with rfl | ⟨x, hx, hne⟩
        · rfl
        · have hm0 : m ≠ 0 ∨ m = 0 := by omega
          match m, hx with
          | 0, hx =>
            rfl
          | m + 1, hx =>
            rw [List.take_add_one, show row[m]? = some x from hx]
            exact trimZ_stop _ hne
      have ends : trimZ row = row.take m → tRet (tTup (tCons (tSl (rSlA K) (tVar 0) tNoPart (tPart (tVar 1))) (tCons (tC (.ref aN)) tNil))) { nx := fun _ H' => Q .non H', rt := Q } [some (.ref p), some (.int (m : Int))] H1 := fun z => by
        refine ⟨_, rfl, _, rfl, m, rfl, ?_⟩
        refine take_row hrow fun r H2 s2 hr2 => ?_
        refine ⟨by show 2 ≤ sizeLine; decide, fun y ny => ?_⟩
        have e := same_new (o := HO.tup [.ref r, .ref aN]) ny
        refine q y _ (s2.trans e) ⟨r, aN, SqT.of upd_same, ?_, C.tN _⟩
        rw [z]
        exact hr2.tk (Tk.same e)
      refine ⟨_, rfl, m, 0, rfl, rfl, _, rfl, ite2 (fun c => ?_) (fun c => ?_)⟩
      · have hm0 : 0 < m := by
          have : (0 : Int) < (m : Int) := of_decide_eq_true c
          omega
        have hg : row[m - 1]? = some row[m - 1] := List.getElem?_eq_getElem (by omega)
        refine ⟨_, rfl, _, rfl, m, 1, rfl, rfl, ?_⟩
        refine ix_row (j := m - 1) hrow (by omega) hg fun r hr2 => ?_
        refine tC_go (eq_rat hr2 (C.tN _) ?_)
        refine ⟨_, rfl, ite2 (fun c2 => ?_) (fun c2 => ?_)⟩
        · have ez : row[m - 1] = (0, 1) := of_decide_eq_true c2
          refine ⟨fun σ' H' => H' = H1 ∧ σ' = [some (.ref p), some (.int ((m - 1 : Nat) : Int))], fun σ' H' z => ?_, ?_⟩
          · obtain ⟨rfl, rfl⟩ := z
            refine ⟨m - 1, by omega, rfl, by omega, rfl, ?_⟩
            rw [← et]
            obtain ⟨k, rfl⟩ : ∃ k, m = k + 1 := ⟨m - 1, by omega⟩
            rw [List.take_add_one, show row[k]? = some (0, 1) from by rw [← ez]; exact hg]
            exact (trimZ_nought _).symm
          · refine ⟨_, rfl, m, 1, rfl, rfl, rfl, ?_⟩
            show [some (V.ref p), some (V.int ((m : Int) - 1))] = _
            rw [show (m : Int) - 1 = ((m - 1 : Nat) : Int) by omega]
        · exact ends (done (.inr ⟨_, hg, fun z => c2 (decide_eq_true z)⟩))
      · have hm0 : m = 0 := by
          have : ¬ (0 : Int) < (m : Int) := fun z => c (decide_eq_true z)
          omega
        exact iteF (ends (done (.inl hm0)))
/-! ### short -/
theorem cutV_drop (vs : List V) (h : vs ≠ []) : cutV vs none (some (-1)) = vs.take (vs.length - 1) := by
  have hp := List.length_pos_iff.mpr h
  unfold cutV
  rw [HT.sIx_none]
  have e0 : HT.sIx vs.length vs.length (some (-1)) = ((-1 : Int) + (vs.length : Int)).toNat := by
    unfold HT.sIx
    rfl
  have e : HT.sIx vs.length vs.length (some (-1)) = vs.length - 1 := by
    rw [e0]
    omega
  rw [e, Nat.sub_zero, List.drop_zero]
theorem drop_row {K : PySem.W.Frag} {H : Hp} {p : Addr} {xs : List RT} {y : RT} {Q : VK} (h : RowAt K H p (xs ++ [y])) (hq : ∀ r H', Same H H' → RowAt K H' r xs → Q (.ref r) H') : rSlA K (.ref p) none (some (-1)) H Q := by
  obtain ⟨rs, h1, h2⟩ := h
  have hl := h2.length
  rw [List.length_append, List.length_singleton] at hl
  have hne : rs.map V.ref ≠ [] := fun z => by
    have := congrArg List.length z
    rw [List.length_map, List.length_nil] at this
    omega
  refine ⟨p, _, rfl, h1, fun z => ?_, fun _ r nr => ?_⟩
  · have z2 := z.2
    have e0 : HT.sIx (rs.map V.ref).length (rs.map V.ref).length (some (-1)) = ((-1 : Int) + ((rs.map V.ref).length : Int)).toNat := by
      unfold HT.sIx
      rfl
    have e : HT.sIx (rs.map V.ref).length (rs.map V.ref).length (some (-1)) = (rs.map V.ref).length - 1 := by
      rw [e0, List.length_map]
      omega
    rw [e, List.length_map] at z2
    omega
  · rw [cutV_drop _ hne, List.length_map]
    have s := same_new (o := HO.tup ((rs.map V.ref).take (rs.length - 1))) nr
    refine hq r _ s ⟨rs.take (rs.length - 1), ?_, ?_⟩
    · rw [List.map_take]
      exact SqT.of upd_same
    · have h3 := (h2.take (rs.length - 1)).tk (Tk.same (K := K) s)
      rw [hl, Nat.add_sub_cancel, List.take_left'] at h3
      · rw [hl, Nat.add_sub_cancel]
        exact h3
      · rfl
def spShort (K : PySem.W.Frag) : Sp := fun vs H Q _ => ∃ (p : Addr) (row : List RT) (step : RT), vs = [.ref p] ∧ LifeAt K H p row step ∧ (∀ x ∈ row, SmR 1900 x) ∧ StepOk 300 step ∧
  ∀ z H', Same H H' → LifeAt K H' z (shortL row step).1 (shortL row step).2 → Q (.ref z) H'
theorem ok_short {f fB fW fT : Addr} {fd fdB fdW fdT : FuncData} (F : Fun K "short" "short" s_short f fd) (C : Consts K mg aN aO)
    (FB : Fun K "behind_row" "behind_row" s_behind fB fdB) (bB : Binds K fdB ["life"] []) (gB : mg "behind_row" = some (.ref fB)) (GB : FnOk P w K mg base CX0 4 fB fdB ["life"] (spBehind K))
    (FW : Fun K "without_noughts" "without_noughts" s_wn fW fdW) (bW : Binds K fdW ["row"] []) (gW : mg "without_noughts" = some (.ref fW)) (GW : FnOk P w K mg base CX0 1 fW fdW ["row"] (spWn K))
    (FT : Fun K "times" "times" s_times fT fdT) (bT : Binds K fdT ["one", "other"] []) (gT : mg "times" = some (.ref fT)) (GT : FnOk P w K mg base CX0 3 fT fdT ["one", "other"] (spTwo K (fun a b c d => a * c)))
    (ml : mg "len" = none) : FnOk P w K mg base CX0 5 f fd ["life"] (spShort K) := by
  refine F.ok sc_short (fun vs H Q E h => ?_) (fun cdv A outer s H vs Q E hr h => ?_)
  · obtain ⟨_, _, _, rfl, _⟩ := h
    rfl
  · obtain ⟨p, row, step, rfl, hlife, hsm, hst, q⟩ := h
    obtain ⟨pr, ps, l1, l2, l3⟩ := id hlife
    have hr1 := hr.mono (show 1 ≤ 4 by decide)
    have hr3 := hr.mono (show 3 ≤ 4 by decide)
    refine ⟨_, (pss_cons (ps_asg (pv 0) (pg_tup rfl (pgs_cons (pg_name (i := 1) sc_short.nd rfl (.inl rfl)) (pgs_cons (pg_name (i := 2) sc_short.nd rfl (.inl rfl)) pgs_nil)))) (pss_cons (ps_if (pt_cmpR (op_eqD hr.units) (pe_call GB hr (by rfl) gB FB.kp bB .nil pass0 (pa_cons (pv 0) pa_nil)) (pe_glob (v := .ref aN) rfl C.gN rfl) (nomark _)) (pss_one (ps_ret (pe_call GW hr1 (by rfl) gW FW.kp bW .nil pass0 (pa_cons (pv 1) pa_nil)))) pss_nil) (pss_cons (ps_while PassesOwn.never (PW.pt (pw_and (pt_cmpR op_gt (pe_callB call_len_seq (by rfl) ml PySem.boot_len (pa_cons (pv 1) pa_nil)) pe_int (nomark _)) (pw_and1 (pt_cmpR (op_eqD hr.units) (pe_ix ix_tup (pv 1) (pe_un un_neg pe_int) (fun _ _ => rfl))
            (pe_call GT hr3 (by rfl) gT FT.kp bT .nil pass0 (pa_cons (pe_ix ix_tup (pv 1) (pe_un un_neg pe_int) (fun _ _ => rfl)) (pa_cons (pv 2) pa_nil))) (nomark _)))))
          (pss_one (ps_set (i := 1) sc_short.nd rfl (.inl rfl) (pe_slice sl_tupA (pv 1) po_none (po_some (pe_un un_neg pe_int)))))) (pss_one (ps_ret (pe_tup (pa_cons (pv 1) (pa_cons (pv 2) pa_nil)))))))), ?_⟩
    refine ⟨_, rfl, p, _, rfl, l1, rfl, _, _, rfl, _, _, rfl, rfl, ?_⟩
    refine ⟨_, rfl, p, row, step, rfl, hlife, hsm, hst, fun b H1 s1 hb => ?_⟩
    have hred : ∀ x ∈ row, Red x := fun x hx => (hsm x hx).1
    refine tC_go (eq_rat hb (C.tN _) ?_)
    refine ⟨_, rfl, ite2 (fun c => ?_) (fun c => ?_)⟩
    · have hg : ¬ GoesOn row step := (behindR_zero hred hst.1.1 hst.2.2).mp (of_decide_eq_true c)
      refine ⟨_, rfl, pr, row, rfl, l2.tk (Tk.same s1), fun z H2 s2 hz => ?_⟩
      refine q z _ (s1.trans s2) ?_
      rw [shortL_end hg]
      exact hz
    · have hg : GoesOn row step := by
        rcases Classical.em (GoesOn row step) with z | z
        · exact z
        · exact absurd (decide_eq_true ((behindR_zero hred hst.1.1 hst.2.2).mpr z)) c
      rw [shortL_go hg] at q
      dsimp only at q
      refine ⟨fun m σ H2 => ∃ (pr : Addr) (ys : List RT) (y : RT), m = ys.length ∧ σ = [some (.ref p), some (.ref pr), some (.ref ps)] ∧ Same H H2 ∧ RowAt K H2 pr (ys ++ [y]) ∧ (∀ x ∈ ys ++ [y], SmR 1900 x) ∧ trimG (ys ++ [y]) step = trimG row step, ?_, ?_⟩
      · obtain ⟨_, ys, y, rfl, _⟩ := hg
        exact ⟨_, pr, ys, y, rfl, rfl, s1, l2.tk (Tk.same s1), hsm, rfl⟩
      · rintro m σ H2 ⟨pr, ys, y, rfl, rfl, s2, hrow, hsm2, et⟩
        have ends : ∀ H3, Same H2 H3 → trimG (ys ++ [y]) step = ys ++ [y] → tRet (tTup (tCons (tVar 1) (tCons (tVar 2) tNil))) { nx := fun _ H' => Q .non H', rt := Q } [some (.ref p), some (.ref pr), some (.ref ps)] H3 := fun H3 s3 z => by
          refine ⟨_, rfl, _, rfl, by show 2 ≤ sizeLine; decide, fun a na => ?_⟩
          have e := same_new (o := HO.tup [.ref pr, .ref ps]) na
          refine q a _ (s2.trans (s3.trans e)) ⟨pr, ps, SqT.of upd_same, ?_, l3.tk (Tk.same (s2.trans (s3.trans e)))⟩
          rw [← et, z]
          exact hrow.tk (Tk.same (s3.trans e))
        obtain ⟨rs, r1, r2⟩ := id hrow
        have hl := r2.length
        rw [List.length_append, List.length_singleton] at hl
        refine ⟨_, rfl, pr, _, rfl, .inr r1, _, 1, rfl, rfl, _, rfl, ite2 (fun c2 => ?_) (fun c2 => ?_)⟩
        · have h2 : 1 ≤ ys.length := by
            have : (1 : Int) < ((rs.map V.ref).length : Nat) := of_decide_eq_true c2
            rw [List.length_map] at this
            omega
          rcases snoc_cases ys with rfl | ⟨zs, b, rfl⟩
          · simp at h2
          · have sb := hsm2 b (by simp)
            refine ⟨_, rfl, 1, rfl, ?_⟩
            refine ix_back (k := 1) (j := (zs ++ [b]).length) (x := y) hrow (by decide) (by simp) (by simp) fun r hr4 => ?_
            refine ⟨_, rfl, 2, rfl, ?_⟩
            refine ix_back (k := 2) (j := zs.length) (x := b) hrow (by decide) (by simp) (by simp) fun r2 hr5 => ?_
            refine ⟨_, rfl, r2, ps, _, _, _, _, rfl, ⟨hr5, l3.tk (Tk.same s2), sb.2.1.mono (by decide), sb.2.2.mono (by decide), hst.1.2.1.mono (by decide), hst.1.2.2.mono (by decide), sb.1.1, hst.1.1.1⟩, fun a na => ?_⟩
            have e := same_new (o := HO.tup [.int (rT b step).1, .int (rT b step).2]) na
            refine eq_rat (y := rT b step) (hr4.tk (Tk.same e)) (SqT.of upd_same) ?_
            refine ⟨_, rfl, ite2 (fun c3 => ?_) (fun c3 => ?_)⟩
            · have ey : y = rT b step := of_decide_eq_true c3
              refine ⟨fun σ' H' => ∃ pr2 : Addr, σ' = [some (.ref p), some (.ref pr2), some (.ref ps)] ∧ Same H H' ∧ RowAt K H' pr2 (zs ++ [b]), fun σ' H' z => ?_, ?_⟩
              · obtain ⟨pr2, rfl, s4, hrow4⟩ := z
                refine ⟨zs.length, by simp, pr2, zs, b, rfl, rfl, s4, hrow4, fun x hx => hsm2 x (List.mem_append_left _ hx), ?_⟩
                rw [← et, ey, trimG_cut]
              · refine ⟨_, rfl, 1, rfl, -1, rfl, ?_⟩
                refine drop_row (hrow.tk (Tk.same e)) fun r3 H4 s4 hr6 => ?_
                exact ⟨r3, rfl, s2.trans (e.trans s4), hr6⟩
            · exact ends _ e (trimG_stop _ fun z => c3 (decide_eq_true z))
        · have h2 : ys.length = 0 := by
            have : ¬ (1 : Int) < ((rs.map V.ref).length : Nat) := fun z => c2 (decide_eq_true z)
            rw [List.length_map] at this
            omega
          rw [List.length_eq_zero_iff.mp h2]
          rw [List.length_eq_zero_iff.mp h2] at ends
          exact iteF (ends _ (Same.refl _) (trimG_one y step))
end

end Fp

set_option Elab.async false
set_option linter.all false
set_option maxRecDepth 100000
set_option maxHeartbeats 4000000
set_option exponentiation.threshold 10000
namespace Fp
open PySem PySem.Spec PyProof.Rows L2
/-! ### the law's own short life -/
abbrev N_lshort : List Str := ["_law_life_here", "_law_row", "_law_step", "_law_some", "_law_first", "_law_k"]
theorem trimZ_all {row : List RT} (h : ∀ y ∈ row, y = (0, 1)) : trimZ row = [] := by
  have e : row = [] ++ List.replicate row.length (0, 1) := by
    rw [List.nil_append]
    exact List.eq_replicate_of_mem h
  rw [e, trimZ_noughts]
  rfl
theorem trimZ_at {row : List RT} {m : Nat} {x : RT} (h : row[m]? = some x) (hx : x ≠ (0, 1)) (hr : ∀ j y, m < j → row[j]? = some y → y = (0, 1)) : trimZ row = row.take (m + 1) := by
  have e : row = row.take (m + 1) ++ List.replicate (row.drop (m + 1)).length (0, 1) := by
    rw [← List.eq_replicate_of_mem (l := row.drop (m + 1)) (a := (0, 1)) ?_, List.take_append_drop]
    intro y hy
    obtain ⟨i, hi⟩ := List.mem_iff_getElem?.mp hy
    rw [List.getElem?_drop] at hi
    exact hr _ y (by omega) hi
  have e2 : trimZ row = trimZ (row.take (m + 1)) := by
    conv => lhs; rw [e]
    exact trimZ_noughts _ _
  rw [e2, List.take_add_one, h]
  exact trimZ_stop _ hx
section
variable {P : Program} {w : World} {K : PySem.W.Frag} {mg : Str → Option Value} {base : Heap}
def spLshort (K : PySem.W.Frag) : Sp := fun vs H Q _ => ∃ (p : Addr) (row : List RT) (step : RT), vs = [.ref p] ∧ LifeAt K H p row step ∧ row.length ≤ 1000 ∧ (row = [] → step = (0, 1)) ∧ (∀ x ∈ row, SmR 1900 x) ∧ StepOk 300 step ∧
  ∀ z H', Same H H' → LifeAt K H' z (shortL row step).1 (shortL row step).2 → Q (.ref z) H'
end

end Fp

set_option Elab.async false
set_option linter.all false
set_option maxRecDepth 100000
set_option maxHeartbeats 4000000
set_option exponentiation.threshold 10000
namespace Fp
open PySem PySem.Spec PyProof.Rows L2
/-! ### chances put anew: the recursion -/
def sumTo (n : Nat) (f : Nat → Rat) : Rat := ((List.range n).map f).sum
def renL (a b : Nat → Rat) : Nat → List Rat
  | 0 => []
  | n + 1 => renL a b n ++ [b n + sumTo n fun j => a j * (renL a b n)[n - 1 - j]?.getD 0]
theorem renL_len (a b : Nat → Rat) : ∀ n, (renL a b n).length = n
  | 0 => rfl
  | n + 1 => by
    show (renL a b n ++ [_]).length = _
    rw [List.length_append, renL_len a b n]
    rfl
theorem renL_at (a b : Nat → Rat) : ∀ {n j : Nat}, j < n → (renL a b n)[j]? = (renL a b (j + 1))[j]?
  | 0, j, h => absurd h (Nat.not_lt_zero _)
  | n + 1, j, h => by
    rcases (by omega : j < n ∨ j = n) with z | z
    · show (renL a b n ++ [_])[j]? = _
      rw [List.getElem?_append_left (by rw [renL_len]; exact z)]
      exact renL_at a b z
    · subst z
      rfl
/-- what is at n: the told one, and by each chance what is so much before -/
def renQ (a b : Nat → Rat) (n : Nat) : Rat := (renL a b (n + 1))[n]?.getD 0
theorem renQ_is (a b : Nat → Rat) (n : Nat) : renQ a b n = b n + sumTo n fun j => a j * renQ a b (n - 1 - j) := by
  unfold renQ
  show (renL a b n ++ [b n + sumTo n fun j => a j * (renL a b n)[n - 1 - j]?.getD 0])[n]?.getD 0 = _
  rw [List.getElem?_append_right (by rw [renL_len]; exact Nat.le_refl _), renL_len, Nat.sub_self]
  show b n + sumTo n (fun j => a j * (renL a b n)[n - 1 - j]?.getD 0) = _
  congr 1
  unfold sumTo
  congr 1
  refine List.map_congr_left fun j hj => ?_
  have := List.mem_range.mp hj
  rw [renL_at a b (show n - 1 - j < n by omega)]
def qa (xs : List RT) (j : Nat) : Rat := match xs[j]? with
  | some x => qv x
  | none => 0
theorem qa_at {xs : List RT} {j : Nat} {x : RT} (h : xs[j]? = some x) : qa xs j = qv x := by
  unfold qa
  rw [h]
def getI (xs : List Int) (j : Nat) : Int := xs[j]?.getD 0
theorem getI_at {xs : List Int} {j : Nat} (h : j < xs.length) : xs[j]? = some (getI xs j) := by
  unfold getI
  rw [List.getElem?_eq_getElem h]
  rfl
theorem CMulA.of {n m : Nat} {a b : Int} (ha : Sm n a) (hb : Sm m b) (hn : 0 < n) (hm : 0 < m) (h : n + m ≤ 1000000) : CMulA a b := by
  unfold CMulA
  have := ha.log hn
  have := hb.log hm
  omega
theorem sum_sm {e : Nat} : ∀ {xs : List Int}, (∀ x ∈ xs, Sm e x) → xs.length ≤ 32 → Sm (e + 6) xs.sum := by
  have key : ∀ {xs : List Int}, (∀ x ∈ xs, Sm e x) → xs.sum.natAbs ≤ xs.length * 2 ^ e := by
    intro xs
    induction xs with
    | nil =>
      intro _
      simp
    | cons x r ih =>
      intro h
      have h1 := h x (List.mem_cons_self ..)
      have h2 := ih fun y hy => h y (List.mem_cons_of_mem _ hy)
      rw [List.sum_cons, List.length_cons, Nat.add_mul]
      unfold Sm at h1
      have := Int.natAbs_add_le x r.sum
      omega
  intro xs h hl
  have h1 := key h
  unfold Sm
  have h2 : xs.length * 2 ^ e ≤ 32 * 2 ^ e := Nat.mul_le_mul_right _ hl
  have h3 : 2 ^ (e + 6) = 64 * 2 ^ e := by rw [Nat.pow_add, Nat.mul_comm]
  have h4 : 0 < 2 ^ e := Nat.pow_pos (by decide)
  omega
/-- the sums as the program has them -/
structure SOk (a b : Nat → Rat) (c c2 : Int) (u i : Nat) (ss : List Int) : Prop where
  len : ss.length = i
  val : ∀ j, j < i → ((getI ss j : Int) : Rat) = (c2 : Rat) * (c : Rat) ^ j * renQ a b j
  sm : ∀ j, j < i → Sm ((2 * u + 8) * (j + 1)) (getI ss j)
def partI (tp ss : List Int) (c : Int) (i j : Nat) : Int := getI tp j * c ^ j * getI ss (i - 1 - j)
theorem sumTo_cast (f : Nat → Int) (n : Nat) : ((((List.range n).map f).sum : Int) : Rat) = sumTo n fun j => ((f j : Int) : Rat) := by
  unfold sumTo
  induction n with
  | zero => rfl
  | succ n ih =>
    rw [List.range_succ, List.map_append, List.map_append, List.sum_append, Rat.intCast_add, ih]
    simp only [List.map_cons, List.map_nil]
    rw [sum_snoc]
    congr 1
    simp
theorem sumTo_mul (k : Rat) (f : Nat → Rat) (n : Nat) : k * sumTo n f = sumTo n fun j => k * f j := by
  unfold sumTo
  induction n with
  | zero =>
    show k * 0 = 0
    grind
  | succ n ih =>
    rw [List.range_succ, List.map_append, List.map_append]
    simp only [List.map_cons, List.map_nil]
    rw [sum_snoc, sum_snoc, ← ih]
    grind
theorem sumTo_congr {n : Nat} {f g : Nat → Rat} (h : ∀ j, j < n → f j = g j) : sumTo n f = sumTo n g := by
  unfold sumTo
  congr 1
  exact List.map_congr_left fun j hj => h j (List.mem_range.mp hj)
theorem cast_pow (c : Int) : ∀ j : Nat, ((c ^ j : Int) : Rat) = (c : Rat) ^ j
  | 0 => by
    rw [Int.pow_zero, Rat.pow_zero]
    rfl
  | j + 1 => by rw [Int.pow_succ, Rat.pow_succ, Rat.intCast_mul, cast_pow c j]
theorem pow_plus (c : Rat) (m : Nat) : ∀ n : Nat, c ^ (m + n) = c ^ m * c ^ n
  | 0 => by
    rw [Rat.pow_zero, Nat.add_zero]
    grind
  | n + 1 => by
    rw [← Nat.add_assoc, Rat.pow_succ, Rat.pow_succ, pow_plus c m n]
    grind
theorem SOk.step {a b : Nat → Rat} {c c2 tt : Int} {u i : Nat} {ss tp : List Int} (h : SOk a b c c2 u i ss) (hc : (c : Rat) ≠ 0) (ht : ((tt : Int) : Rat) = (c2 : Rat) * b i) (ha : ∀ j, j < i → ((getI tp j : Int) : Rat) = (c : Rat) * a j)
    (su : 0 < u) (st : Sm u tt) (sc : Sm u c) (sp : ∀ j, j < i → Sm u (getI tp j)) (hi : i ≤ 32) : SOk a b c c2 u (i + 1) (ss ++ [tt * c ^ i + ((List.range i).map (partI tp ss c i)).sum]) := by
  have old : ∀ j, j < i → ∀ x, getI (ss ++ [x]) j = getI ss j := fun j hj x => by
    unfold getI
    rw [List.getElem?_append_left (by rw [h.len]; exact hj)]
  have new : ∀ x, getI (ss ++ [x]) i = x := fun x => by
    unfold getI
    rw [List.getElem?_append_right (by rw [h.len]; exact Nat.le_refl _), h.len, Nat.sub_self]
    rfl
  refine ⟨by rw [List.length_append, h.len]; rfl, fun j hj => ?_, fun j hj => ?_⟩
  · rcases (by omega : j < i ∨ j = i) with z | z
    · rw [old j z]
      exact h.val j z
    · subst z
      rw [new, Rat.intCast_add, Rat.intCast_mul, sumTo_cast, cast_pow, ht, renQ_is a b j]
      have e : (sumTo j fun k => ((partI tp ss c j k : Int) : Rat)) = (c2 : Rat) * (c : Rat) ^ j * sumTo j fun k => a k * renQ a b (j - 1 - k) := by
        rw [sumTo_mul]
        refine sumTo_congr fun k hk => ?_
        unfold partI
        rw [Rat.intCast_mul, Rat.intCast_mul, cast_pow, ha k hk, h.val (j - 1 - k) (by omega)]
        have e2 : (c : Rat) ^ j = (c : Rat) * (c : Rat) ^ k * (c : Rat) ^ (j - 1 - k) := by
          have : j = (k + (j - 1 - k)) + 1 := by omega
          conv => lhs; rw [this]
          rw [Rat.pow_succ, pow_plus]
          grind
        rw [e2]
        grind
      rw [e]
      grind
  · rcases (by omega : j < i ∨ j = i) with z | z
    · rw [old j z]
      exact h.sm j z
    · subst z
      rw [new]
      have hU : ∀ k, k < j → Sm (u + 1 + (2 * u + 8) * j) (partI tp ss c j k) := fun k hk => by
        unfold partI
        have h1 := ((sp k hk).mul (sm_pow sc su k)).mul (h.sm (j - 1 - k) (by omega))
        refine h1.mono ?_
        have e1 : j - 1 - k + 1 = j - k := by omega
        rw [e1]
        have e2 : (2 * u + 8) * j = (2 * u + 8) * (j - k) + (2 * u + 8) * k := by rw [← Nat.mul_add]; congr 1; omega
        rw [e2]
        have e3 : u * k ≤ (2 * u + 8) * k := Nat.mul_le_mul_right _ (by omega)
        omega
      have s1 : Sm (u + 1 + (2 * u + 8) * j + 6) ((List.range j).map (partI tp ss c j)).sum := by
        refine sum_sm (fun x hx => ?_) (by rw [List.length_map, List.length_range]; exact hi)
        obtain ⟨k, hk, rfl⟩ := List.mem_map.mp hx
        exact hU k (List.mem_range.mp hk)
      have s2 : Sm (u + 1 + (2 * u + 8) * j + 6) (tt * c ^ j) := by
        refine (st.mul (sm_pow sc su j)).mono ?_
        have e3 : u * j ≤ (2 * u + 8) * j := Nat.mul_le_mul_right _ (by omega)
        omega
      have s3 := s2.add s1
      refine s3.mono ?_
      rw [Nat.mul_add]
      omega

end Fp

set_option Elab.async false
set_option linter.all false
set_option maxRecDepth 100000
set_option maxHeartbeats 4000000
set_option exponentiation.threshold 10000
namespace Fp
open PySem PySem.Spec PyProof.Rows L2
/-! ### renewed -/
abbrev s_ren : Stmt := topS 15
abbrev N_ren : List Str := ["chances", "told", "tops", "bottom", "told_tops", "told_bottom", "powers", "sums", "n", "told_top", "parts", "k", "total", "power"]
theorem sc_ren : FnScope N_ren ["chances", "told"] (defScope s_ren) := ⟨rfl, rfl, rfl, by decide +kernel, rfl, by decide +kernel, by decide +kernel⟩
def powL (c : Int) (m : Nat) : List Int := (List.range m).map fun j => c ^ j
theorem powL_len {c : Int} {m : Nat} : (powL c m).length = m := by
  unfold powL
  rw [List.length_map, List.length_range]
theorem powL_at {c : Int} {m j : Nat} (h : j < m) : (powL c m)[j]? = some (c ^ j) := by
  unfold powL
  rw [List.getElem?_map, List.getElem?_range h]
  rfl
theorem powL_succ {c : Int} {m : Nat} : powL c (m + 1) = powL c m ++ [c ^ m] := by
  unfold powL
  rw [List.range_succ, List.map_append]
  rfl
theorem tops_len {c : Int} {xs : List RT} : (topsOn c xs).length = xs.length := by
  unfold topsOn
  rw [List.length_map]
theorem tops_get {c : Int} {xs : List RT} {j : Nat} {x : RT} (h : xs[j]? = some x) : getI (topsOn c xs) j = x.1 * (c / x.2) := by
  unfold getI topsOn
  rw [List.getElem?_map, h]
  rfl
theorem tops_val {c : Int} (hc : 0 < c) {xs : List RT} {j : Nat} (hj : j < xs.length) (h : ∀ x ∈ xs, 0 < x.2 ∧ x.2 ∣ c) : ((getI (topsOn c xs) j : Int) : Rat) = (c : Rat) * qa xs j := by
  have hg : xs[j]? = some xs[j] := List.getElem?_eq_getElem hj
  obtain ⟨h1, h2⟩ := h _ (List.getElem_mem hj)
  rw [tops_get hg, qa_at hg, qv_over h1 h2 hc]
  have := cast_ne (Int.ne_of_gt hc)
  grind
theorem tops_each {n d : Nat} {c D : Int} (hD : 0 < D) (hcD : c ∣ D) (sD : Sm d D) {xs : List RT} {j : Nat} (hj : j < xs.length) (h : ∀ x ∈ xs, Sm n x.1) : Sm (n + d) (getI (topsOn c xs) j) := by
  have hg : xs[j]? = some xs[j] := List.getElem?_eq_getElem hj
  rw [tops_get hg]
  have sc : Sm d c := dvd_small hcD hD sD
  have sq : Sm d (c / xs[j].2) := by
    unfold Sm at *
    have a : (c / xs[j].2).natAbs ≤ c.natAbs := Int.natAbs_ediv_le_natAbs ..
    omega
  exact (h _ (List.getElem_mem hj)).mul sq
theorem upd_int {H : Hp} {l : Addr} {xs : List Int} {x : Int} : upd H l (.lst (xs.map V.int ++ [.int x])) l = some (.lst ((xs ++ [x]).map V.int)) := by
  rw [upd_same, List.map_append]
  rfl
section
variable {P : Program} {w : World} {K : PySem.W.Frag} {mg : Str → Option Value} {base : Heap}
def spRen (K : PySem.W.Frag) : Sp := fun vs H Q _ => ∃ (p t : Addr) (chs tld : List RT) (n1 d1 n2 d2 : Nat) (D1 D2 : Int), vs = [.ref p, .ref t] ∧ LstAt K H p chs ∧ LstAt K H t tld ∧ Over1 n1 d1 D1 chs ∧ Over1 n2 d2 D2 tld ∧ n1 ≤ 2000 ∧ d1 ≤ 300 ∧ n2 ≤ 2000 ∧ d2 ≤ 300 ∧ tld.length ≤ 22 ∧ tld.length ≤ chs.length + 1 ∧
  ∀ z rs H', Same H H' → H' z = some (.lst (rs.map V.ref)) → RsAt K H' rs ((List.range tld.length).map fun i => rdq (renQ (qa chs) (qa tld) i)) → Q (.ref z) H'
theorem ok_ren {f fO fR : Addr} {fd fdO fdR : FuncData} (F : Fun K "renewed" "renewed" s_ren f fd) (FO : Fun K "on_one_bottom" "on_one_bottom" s_oob fO fdO) (bO : Binds K fdO ["told"] []) (gO : mg "on_one_bottom" = some (.ref fO)) (GO : FnOk P w K mg base CX0 2 fO fdO ["told"] (spOob K))
    (FR : Fun K "ratio" "ratio" s_ratio fR fdR) (bR : Binds K fdR ["top", "bottom"] []) (gR : mg "ratio" = some (.ref fR)) (GR : FnOk P w K mg base CX0 2 fR fdR ["top", "bottom"] spRat0) (me : mg "enumerate" = none) (mr : mg "range" = none) (ms : mg "sum" = none) (mz : mg "zip" = none) : FnOk P w K mg base CX0 3 f fd ["chances", "told"] (spRen K) := by
  refine F.ok sc_ren (fun vs H Q E h => ?_) (fun cdv A outer s H vs Q E hr h => ?_)
  · obtain ⟨_, _, _, _, _, _, _, _, _, _, rfl, _⟩ := h
    rfl
  · obtain ⟨p, t, chs, tld, n1, d1, n2, d2, D1, D2, rfl, hp, ht, O1, O2, hn1, hd1, hn2, hd2, hl1, hl2, q⟩ := h
    refine ⟨_, (pss_cons (ps_asg (pe_call GO hr (by rfl) gO FO.kp bO .nil pass0 (pa_cons (pv 0) pa_nil)) (pg_tup rfl (pgs_cons (pg_name (i := 2) sc_ren.nd rfl (.inr rfl)) (pgs_cons (pg_name (i := 3) sc_ren.nd rfl (.inl rfl)) pgs_nil)))) (pss_cons (ps_asg (pe_call GO hr (by rfl) gO FO.kp bO .nil pass0 (pa_cons (pv 1) pa_nil)) (pg_tup rfl (pgs_cons (pg_name (i := 4) sc_ren.nd rfl (.inl rfl)) (pgs_cons (pg_name (i := 5) sc_ren.nd rfl (.inr rfl)) pgs_nil)))) (pss_cons (ps_set (i := 6) sc_ren.nd rfl (.inr rfl) (pe_lst (pa_cons pe_int pa_nil))) (pss_cons (ps_set (i := 7) sc_ren.nd rfl (.inr rfl) (pe_lst pa_nil)) (pss_mid (ps_for PassesOwn.never rfl (pi_enum (by rfl) me (pa_cons (pv 4) pa_nil)) (pg_tup rfl (pgs_cons (pg_name (i := 8) sc_ren.nd rfl (.inr rfl)) (pgs_cons (pg_name (i := 9) sc_ren.nd rfl (.inl rfl)) pgs_nil)))
          (pss_mid (ps_setLc (i := 10) (own := [("k", 11)]) (g := gName 11) (tt := tYes) (te := tOp (rI CMulA fun i j => .int (i * j)) (tOp (rI CMulA fun i j => .int (i * j)) (tOp (rIxL K) (tVar 2) (tOp (rI0 fun i j => .int (i - j)) (tVar 11) (tC (.int 1)))) (tOp (rIxL K) (tVar 6) (tOp (rI0 fun i j => .int (i - j)) (tVar 11) (tC (.int 1))))) (tOp (rIxL K) (tVar 7) (tOp (rI0 fun i j => .int (i - j)) (tVar 8) (tVar 11)))) rfl sc_ren.nd rfl rfl (sw_true rfl rfl rfl (by decide +kernel)) (pi_range2 (by rfl) mr (pa_cons pe_int (pa_cons (pe_op op_add (pv 8) pe_int) pa_nil)))
                (blkOk_by (own := [("k", 11)]) (N := N_ren) (sc := defScope s_ren) (by decide +kernel)) (fun _ _ _ _ _ => pg_name (i := 11) sc_ren.nd rfl (.inl rfl)) (fun _ _ _ _ _ => pts_nil)
                (fun _ _ _ _ _ => pe_op op_mulA (pe_op op_mulA (pe_ix ix_list (pv 2) (pe_op op_sub (pv 11) pe_int) (fun _ _ => rfl)) (pe_ix ix_list (pv 6) (pe_op op_sub (pv 11) pe_int) (fun _ _ => rfl))) (pe_ix ix_list (pv 7) (pe_op op_sub (pv 8) (pv 11)) (fun _ _ => rfl)))) (pss_cons (ps_expr (pe_bm PySem.F.plainAttrs_list PySem.F.slot_list_append PySem.F.type_list_append mt_append (pv 7) (pa_cons (pe_op op_add (pe_op op_mulA (pv 9) (pe_ix ix_list (pv 6) (pv 8) (fun _ _ => rfl))) (pe_callB (cr_sum rfl) (by rfl) ms (by decide +kernel) (pa_cons (pv 10) pa_nil))) pa_nil))) (pss_one (ps_expr (pe_bm PySem.F.plainAttrs_list PySem.F.slot_list_append PySem.F.type_list_append mt_append (pv 6) (pa_cons (pe_op op_mulA (pe_ix ix_list (pv 6) (pv 8) (fun _ _ => rfl)) (pv 3)) pa_nil))))))) (pss_one (ps_ret (pe_lc (own := [("total", 12), ("power", 13)]) (g := gTup K 2 (gCons (gName 12) (gCons (gName 13) gNil))) (tt := tYes) (te := tCall spRat0 [] E0 (tCons (tVar 12) (tCons (tOp (rI CMulA fun i j => .int (i * j)) (tVar 5) (tVar 13)) tNil))) rfl sc_ren.nd (pi_zip (by rfl) mz (pa_cons (pv 7) (pa_cons (pv 6) pa_nil))) (blkOk_by (own := [("total", 12), ("power", 13)]) (N := N_ren) (sc := defScope s_ren) (by decide +kernel))
          (fun _ _ _ _ _ => pg_tup rfl (pgs_cons (pg_name (i := 12) sc_ren.nd rfl (.inl rfl)) (pgs_cons (pg_name (i := 13) sc_ren.nd rfl (.inl rfl)) pgs_nil))) (fun _ _ _ _ _ => pts_nil) (fun _ _ _ _ _ => pe_call GR hr (by rfl) gR FR.kp bR .nil pass0 (pa_cons (pv 12) (pa_cons (pe_op op_mulA (pv 5) (pv 13)) pa_nil))))))))))), ?_⟩
    refine ⟨_, rfl, p, chs, n1, d1, D1, rfl, hp, O1, by omega, by omega, fun z1 zl c H1 s1 hz1 hzl c0 cD hc => ?_⟩
    refine ⟨z1, _, rfl, SqT.of hz1, rfl, _, _, rfl, _, _, rfl, rfl, ?_⟩
    refine ⟨_, rfl, t, tld, n2, d2, D2, rfl, ht.same s1, O2, by omega, by omega, fun z2 zt c2 H2 s2 hz2 hzt c20 c2D hc2 => ?_⟩
    refine ⟨z2, _, rfl, SqT.of hz2, rfl, _, _, rfl, _, _, rfl, rfl, ?_⟩
    have hzl2 := s2 _ _ hzl
    refine ⟨by show 1 ≤ sizeLine; decide, fun pw npw => ?_⟩
    have e3 := same_new (o := HO.lst [.int 1]) npw
    refine ⟨by show 0 ≤ sizeLine; decide, fun ls nls => ?_⟩
    have e4 := same_new (o := HO.lst []) nls
    have nls2 : H2 ls = none := e3.free nls
    have hne : ls ≠ pw := fun z => by
      rw [z, upd_same] at nls
      cases nls
    have sc1 : Sm d1 c := dvd_small cD O1.pos O1.sm
    have hcR := cast_ne (Int.ne_of_gt c0)
    have sc2 : Sm d2 c2 := dvd_small c2D O2.pos O2.sm
    have sc : Sm 2300 c := sc1.mono (by omega)
    have hok1 : ∀ x ∈ chs, 0 < x.2 ∧ x.2 ∣ c := fun x hx => ⟨(O1.ok x hx).1, hc x hx⟩
    have hok2 : ∀ x ∈ tld, 0 < x.2 ∧ x.2 ∣ c2 := fun x hx => ⟨(O2.ok x hx).1, hc2 x hx⟩
    have stp : ∀ j, j < chs.length → Sm 2300 (getI (topsOn c chs) j) := fun j hj => (tops_each O1.pos cD O1.sm hj fun x hx => (O1.ok x hx).2.2).mono (by omega)
    have stt : ∀ j, j < tld.length → Sm 2300 (getI (topsOn c2 tld) j) := fun j hj => (tops_each O2.pos c2D O2.sm hj fun x hx => (O2.ok x hx).2.2).mono (by omega)
    have spw : ∀ j, j ≤ 22 → Sm 51000 (c ^ j) := fun j hj => (sm_pow sc (by decide) j).mono (by
      have : 2300 * j ≤ 2300 * 22 := Nat.mul_le_mul_left _ hj
      omega)
    -- the loop
    refine ⟨fun σ HB => ∃ (z8 z9 z10 : Option V) (ss : List Int), σ = [some (.ref p), some (.ref t), some (.ref zl), some (.int c), some (.ref zt), some (.int c2), some (.ref pw), some (.ref ls), z8, z9, z10, none, none, none] ∧ Same H2 HB ∧ HB pw = some (.lst ((powL c (tld.length + 1)).map V.int)) ∧ HB ls = some (.lst (ss.map V.int)) ∧ SOk (qa chs) (qa tld) c c2 2300 tld.length ss, ?_, ?_⟩
    · refine ⟨_, rfl, zt, _, rfl, SqL.of ((e3.trans e4) _ _ hzt), ?_⟩
      refine for_it (walk_enum (K := K) (a := zt) (xs := (topsOn c2 tld).map V.int)) (fun i σ HB => ∃ (z8 z9 z10 : Option V) (ss : List Int), σ = [some (.ref p), some (.ref t), some (.ref zl), some (.int c), some (.ref zt), some (.int c2), some (.ref pw), some (.ref ls), z8, z9, z10, none, none, none] ∧ Same H2 HB ∧ HB pw = some (.lst ((powL c (i + 1)).map V.int)) ∧ HB ls = some (.lst (ss.map V.int)) ∧ SOk (qa chs) (qa tld) c c2 2300 i ss) ?_ ?_ ?_ ?_
      · refine ⟨none, none, none, [], rfl, e3.trans e4, ?_, upd_same, ⟨rfl, fun j hj => absurd hj (Nat.not_lt_zero _), fun j hj => absurd hj (Nat.not_lt_zero _)⟩⟩
        have e0 : powL c (0 + 1) = [1] := by
          rw [powL_succ, Int.pow_zero]
          rfl
        rw [upd_ne hne.symm, upd_same, e0]
        rfl
      · rintro i σ HB _ ⟨_, _, _, _, _, sB, _⟩
        exact SqL.of (sB _ _ hzt)
      · rintro i x σ HB HB' hi ⟨z8, z9, z10, ss, rfl, sB, hpw, hls, ok⟩ ⟨T, x1, x2, rfl, nT, rfl, ex1, ex2⟩
        dsimp only at ex1 ex2
        cases Option.some.inj ex1
        have hi2 : i < tld.length := by
          rw [List.length_map, tops_len] at hi
          exact hi
        rw [List.getElem?_map, getI_at (by rw [tops_len]; exact hi2)] at ex2
        cases Option.some.inj ex2
        have eT := same_new (o := HO.tup [.int (i : Nat), .int (getI (topsOn c2 tld) i)]) nT
        refine ⟨T, _, rfl, SqT.of upd_same, rfl, _, _, rfl, _, _, rfl, rfl, ?_⟩
        have hpw1 := eT _ _ hpw
        have hls1 := eT _ _ hls
        have sB1 := sB.trans eT
        generalize upd HB T (HO.tup [.int (i : Nat), .int (getI (topsOn c2 tld) i)]) = HC at *
        have hsl := ok.len
        -- parts
        refine ⟨fun σ HD => ∃ D : Addr, σ = [some (.ref p), some (.ref t), some (.ref zl), some (.int c), some (.ref zt), some (.int c2), some (.ref pw), some (.ref ls), some (.int (i : Nat)), some (.int (getI (topsOn c2 tld) i)), some (.ref D), none, none, none] ∧ Same HC HD ∧ HD D = some (.lst (((List.range i).map (partI (topsOn c chs) ss c i)).map V.int)), ?_, ?_⟩
        · refine ⟨_, rfl, _, 1, rfl, rfl, 1, _, rfl, ⟨by decide, by decide, by show -(2 ^ 62) ≤ ((i : Nat) : Int) + 1; omega, by show ((i : Nat) : Int) + 1 < 2 ^ 62; omega⟩, fun D nD => ?_⟩
          have eD := same_new (o := HO.lst []) nD
          have en : ((((i : Nat) : Int) + 1) - 1).toNat = i := by omega
          refine lc_range (lo := 1) (n := ((((i : Nat) : Int) + 1) - 1).toNat) (fun j HD => Same HC HD ∧ HD D = some (.lst (((List.range j).map (partI (topsOn c chs) ss c i)).map V.int))) ⟨eD, upd_same⟩ ?_ ?_
          · rintro j HD hj ⟨sD, hD⟩
            have hj2 : j < i := by omega
            have g1 : ((topsOn c chs).map V.int)[j]? = some (.int (getI (topsOn c chs) j)) := by
              rw [List.getElem?_map, getI_at (by rw [tops_len]; omega)]
              rfl
            have g2 : ((powL c (i + 1)).map V.int)[j]? = some (.int (c ^ j)) := by
              rw [List.getElem?_map, powL_at (by omega)]
              rfl
            have g3 : (ss.map V.int)[i - 1 - j]? = some (.int (getI ss (i - 1 - j))) := by
              rw [List.getElem?_map, getI_at (by rw [hsl]; omega)]
              rfl
            refine ⟨rfl, tYes_go ?_⟩
            refine iteT ?_
            refine ⟨_, rfl, _, rfl, _, 1, rfl, rfl, zl, _, _, _, rfl, rfl, SqL.of ((sB1.trans sD) _ _ hzl2), at_of (by show (1 : Int) + (j : Int) - 1 = _; omega) g1, ?_⟩
            refine ⟨_, rfl, _, rfl, _, 1, rfl, rfl, pw, _, _, _, rfl, rfl, SqL.of (sD _ _ hpw1), at_of (by show (1 : Int) + (j : Int) - 1 = _; omega) g2, ?_⟩
            refine ⟨_, _, rfl, rfl, (stp j (by omega)).cmul (spw j (by omega)) (by decide) (by decide) (by decide), ?_⟩
            refine ⟨_, rfl, _, rfl, _, rfl, _, _, rfl, rfl, ls, _, _, _, rfl, rfl, SqL.of (sD _ _ hls1), at_of (by show ((i : Nat) : Int) - ((1 : Int) + (j : Int)) = _; omega) g3, ?_⟩
            refine ⟨_, _, rfl, rfl, (((stp j (by omega)).mul (spw j (by omega))).mono (show 2300 + 51000 ≤ 60000 by decide)).cmul ((ok.sm (i - 1 - j) (by omega)).mono (show _ ≤ 110000 by
              have : (2 * 2300 + 8) * (i - 1 - j + 1) ≤ 4608 * 22 := Nat.mul_le_mul (by decide) (by omega)
              omega)) (by decide) (by decide) (by decide), ?_⟩
            refine ⟨_, hD, by rw [List.length_map, List.length_map, List.length_range]; exact small1000 (by omega), ?_, ?_⟩
            · intro b2 o hb2
              rw [upd_ne (ne_of_none hb2 nD)]
              exact sD _ _ hb2
            · rw [List.range_succ, List.map_append]
              exact upd_int
          · rintro HD ⟨sD, hD⟩
            rw [en] at hD
            exact ⟨D, rfl, sD, hD⟩
        rintro σ HD ⟨D, rfl, sD, hD⟩
        have hpw2 := sD _ _ hpw1
        have hls2 := sD _ _ hls1
        have gp : ((powL c (i + 1)).map V.int)[i]? = some (.int (c ^ i)) := by
          rw [List.getElem?_map, powL_at (by omega)]
          rfl
        refine ⟨_, rfl, .inl ⟨rfl, _, SqL.of hls2⟩, ?_⟩
        refine ⟨_, rfl, _, rfl, _, rfl, pw, _, _, _, rfl, rfl, SqL.of hpw2, at_of rfl gp, ?_⟩
        refine ⟨_, _, rfl, rfl, (stt i hi2).cmul (spw i (by omega)) (by decide) (by decide) (by decide), ?_⟩
        refine ⟨_, rfl, D, _, rfl, SqL.of hD, _, _, rfl, rfl, ?_⟩
        refine ⟨ls, _, _, rfl, rfl, hls2, by rw [List.length_map, hsl]; exact small1000 (by omega), ?_⟩
        have hpw3 : upd HD ls (.lst (ss.map V.int ++ [.int (getI (topsOn c2 tld) i * c ^ i + ((List.range i).map (partI (topsOn c chs) ss c i)).sum)])) pw = some (.lst ((powL c (i + 1)).map V.int)) := by
          rw [upd_ne hne.symm]
          exact hpw2
        refine ⟨_, rfl, .inl ⟨rfl, _, SqL.of hpw3⟩, ?_⟩
        refine ⟨_, rfl, _, rfl, pw, _, _, _, rfl, rfl, SqL.of hpw3, at_of rfl gp, _, rfl, ?_⟩
        refine ⟨_, _, rfl, rfl, (spw i (by omega)).cmul sc (by decide) (by decide) (by decide), ?_⟩
        refine ⟨pw, _, _, rfl, rfl, hpw3, by rw [List.length_map, powL_len]; exact small1000 (by omega), ?_⟩
        refine ⟨_, _, _, ss ++ [getI (topsOn c2 tld) i * c ^ i + ((List.range i).map (partI (topsOn c chs) ss c i)).sum], rfl, ?_, ?_, ?_, ?_⟩
        · intro b2 o hb2
          rw [upd_ne (ne_of_none hb2 npw), upd_ne (ne_of_none hb2 nls2)]
          exact (sB1.trans sD) _ _ hb2
        · rw [powL_succ (m := i + 1), Int.pow_succ]
          exact upd_int
        · rw [upd_ne hne]
          exact upd_int
        · exact ok.step hcR (tops_val c20 hi2 hok2) (fun j hj => tops_val c0 (by omega) hok1) (by decide) (stt i hi2) sc (fun j hj => stp j (by omega)) (by omega)
      · rintro σ HB ⟨z8, z9, z10, ss, rfl, sB, hpw, hls, ok⟩
        rw [List.length_map, tops_len] at hpw ok
        exact ⟨z8, z9, z10, ss, rfl, sB, hpw, hls, ok⟩
    rintro σ HB ⟨z8, z9, z10, ss, rfl, sB, hpw, hls, ok⟩
    -- told
    have hsl := ok.len
    refine ⟨_, rfl, _, rfl, ls, pw, _, _, rfl, SqL.of hls, SqL.of hpw, fun D nD => ?_⟩
    have eD := same_new (o := HO.lst []) nD
    refine lc_it (walk_zip (K := K) (a := ls) (b := pw) (xs := ss.map V.int) (ys := (powL c (tld.length + 1)).map V.int) (n := tld.length) (by rw [List.length_map, List.length_map, powL_len, hsl]; omega)) (fun i HC => ∃ rs : List Addr, Same HB HC ∧ HC D = some (.lst (rs.map V.ref)) ∧ RsAt K HC rs ((List.range i).map fun i => rdq (renQ (qa chs) (qa tld) i))) ⟨[], eD, upd_same, .nil⟩ ?_ ?_ ?_
    · rintro i HC _ ⟨_, sC, _⟩
      exact ⟨SqL.of (sC _ _ hls), SqL.of (sC _ _ hpw)⟩
    · rintro i x HC HC' hi ⟨rs, sC, hD, hrs⟩ ⟨T, x1, x2, rfl, nT, rfl, ex1, ex2⟩
      dsimp only at ex1 ex2
      rw [List.getElem?_map, getI_at (by rw [hsl]; exact hi)] at ex1
      cases Option.some.inj ex1
      rw [List.getElem?_map, powL_at (by omega)] at ex2
      cases Option.some.inj ex2
      have eT := same_new (o := HO.tup [.int (getI ss i), .int (c ^ i)]) nT
      refine ⟨T, _, rfl, SqT.of upd_same, rfl, _, _, rfl, _, _, rfl, rfl, rfl, tYes_go ?_⟩
      refine iteT ?_
      have hci : (0 : Int) < c ^ i := Int.pow_pos c0
      have hden : (0 : Int) < c2 * c ^ i := Int.mul_pos c20 hci
      refine ⟨_, rfl, _, rfl, _, rfl, _, _, rfl, rfl, (sc2.mono (show d2 ≤ 300 + 1 by omega)).cmul (spw i (by omega)) (by decide) (by decide) (by decide), ?_⟩
      have hb8 : (c2 * c ^ i).natAbs < 2 ^ 8000 := by
        have h1 := sc2.mul (sm_pow (sc1.mono (show d1 ≤ 300 by exact hd1)) (by decide) i)
        refine h1.mono (m := 8000) ?_
        have : 300 * i ≤ 300 * 22 := Nat.mul_le_mul_left _ (by omega)
        omega
      refine ⟨_, _, rfl, hb8, Int.ne_of_gt hden, fun z nz => ?_⟩
      have ez := same_new (o := HO.tup [.int (ratT (getI ss i) (c2 * c ^ i)), .int (ratB (getI ss i) (c2 * c ^ i))]) nz
      have ex : low2 (getI ss i) (c2 * c ^ i) = rdq (renQ (qa chs) (qa tld) i) := by
        refine is_rdq (low2_red (Int.ne_of_gt hden)) ?_
        rw [qv_low2 hden, ok.val i hi, Rat.intCast_mul, cast_pow]
        have h1 := cast_ne (Int.ne_of_gt c20)
        have h2 := cast_ne (Int.ne_of_gt hci)
        rw [cast_pow] at h2
        grind
      have hl := hrs.length
      rw [List.length_map, List.length_range] at hl
      have hD2 := (eT.trans ez) _ _ hD
      refine ⟨_, hD2, by rw [List.length_map, hl]; exact small1000 (by omega), rs ++ [z], ?_, ?_, ?_⟩
      · intro b2 o hb2
        rw [upd_ne (ne_of_none hb2 nD)]
        exact (eT.trans ez) _ _ (sC _ _ hb2)
      · rw [upd_same, List.map_append]
        rfl
      · rw [List.range_succ, List.map_append]
        refine ((hrs.tk (Tk.same (eT.trans ez))).append (.cons ?_ .nil)).tk (tk_lst hD2)
        show RAt K _ z (rdq (renQ (qa chs) (qa tld) i))
        rw [← ex]
        exact SqT.of upd_same
    · rintro HC ⟨rs, sC, hD, hrs⟩
      exact q D rs HC (s1.trans (s2.trans (sB.trans sC))) hD hrs
end

end Fp

set_option Elab.async false
set_option linter.all false
set_option maxRecDepth 100000
set_option maxHeartbeats 4000000
set_option exponentiation.threshold 10000
namespace Fp
open PySem PySem.Spec PyProof.Rows L2
/-! ### chances of drawn lives stand over a small number -/
theorem ch_dvdW {row : List RT} {step x : RT} {n i most : Nat} {W : Int} (hW : ∀ y ∈ row, y.2 ∣ W) (hr : ∀ y ∈ row, SmR n y) (hs : Red step) (hx : Red x) (h : qv x = chR row step i) (hi : i < most) : x.2 ∣ W * step.2 ^ most := by
  match e : row[i]? with
  | some y =>
    have hy := List.mem_of_getElem? e
    have ex : x = y := qv_inj hx (hr y hy).1 (h.trans (chR_in e))
    rw [ex]
    exact Int.dvd_trans (hW y hy) (Int.dvd_mul_right ..)
  | none =>
    have hle : row.length ≤ i := List.getElem?_eq_none_iff.mp e
    match el : row.getLast? with
    | none =>
      have er : row = [] := List.getLast?_eq_none_iff.mp el
      rw [er, chR_nil] at h
      have ex : x = (0, 1) := qv_inj hx ⟨by decide, by decide⟩ (by rw [h, qv_nought])
      rw [ex]
      exact Int.one_dvd _
    | some l =>
      have hl : l ∈ row := List.mem_of_getLast? el
      have hl0 := (hr l hl).1
      rw [chR_out hle el] at h
      obtain ⟨j, ej, hj⟩ : ∃ j, i + 1 - row.length = j ∧ j ≤ most := ⟨_, rfl, by omega⟩
      rw [ej] at h
      have key : ∀ j : Nat, qv l * qv step ^ j = ((l.1 * step.1 ^ j : Int) : Rat) / ((l.2 * step.2 ^ j : Int) : Rat) := by
        intro j
        induction j with
        | zero =>
          rw [Rat.pow_zero, Int.pow_zero, Int.pow_zero, Int.mul_one, Int.mul_one]
          unfold qv
          grind
        | succ j ih =>
          have h1 := cast_ne (Int.ne_of_gt hs.1)
          have h2 := cast_ne (Int.ne_of_gt (Int.mul_pos hl0.1 (show (0 : Int) < step.2 ^ j from Int.pow_pos hs.1)))
          rw [Rat.pow_succ, ← Rat.mul_assoc, ih, Int.pow_succ, Int.pow_succ, ← Int.mul_assoc, ← Int.mul_assoc, Rat.intCast_mul (l.1 * step.1 ^ j), Rat.intCast_mul (l.2 * step.2 ^ j)]
          unfold qv
          grind
      rw [key j] at h
      obtain ⟨d1, _⟩ := red_small hx (Int.mul_pos hl0.1 (Int.pow_pos hs.1)) h
      refine Int.dvd_trans d1 ?_
      obtain ⟨u, hu⟩ := hW l hl
      refine ⟨u * step.2 ^ (most - j), ?_⟩
      rw [hu, show most = j + (most - j) by omega, Int.pow_add, Nat.add_sub_cancel_left]
      rw [Int.mul_assoc l.2 u, ← Int.mul_assoc u, Int.mul_comm u (step.2 ^ j), Int.mul_assoc (step.2 ^ j), ← Int.mul_assoc l.2]
/-- one small number under a whole row -/
structure WOk (W : Int) (row : List RT) : Prop where
  pos : 0 < W
  sm : Sm 14 W
  dvd : ∀ y ∈ row, y.2 ∣ W
theorem over_chW {row : List RT} {step : RT} {n most : Nat} {chs : List RT} {W : Int} (hW : WOk W row) (hr : ∀ y ∈ row, SmR n y) (hs : SmR 5 step) (hm : most ≤ 20) (h : IsCh row step n most chs) : Over1 (n + 100) 121 (W * step.2 ^ most) chs := by
  refine ⟨Int.mul_pos hW.pos (Int.pow_pos hs.1.1), ?_, fun x hx => ?_, by rw [h.len]; omega⟩
  · exact (hW.sm.mul (sm_pow hs.2.2 (by decide) most)).mono (by omega)
  · obtain ⟨i, hi⟩ := List.mem_iff_getElem?.mp hx
    have hi2 := (List.getElem?_eq_some_iff.mp hi).1
    rw [h.len] at hi2
    obtain ⟨s1, s2⟩ := h.ok i x hi
    exact ⟨s1.1.1, ch_dvdW hW.dvd hr hs.1 s1.1 s2 hi2, s1.2.1.mono (by omega)⟩
theorem BaseLife.w {row : List RT} {step : RT} (h : BaseLife row step) : ∃ W : Int, 0 < W ∧ Sm 10 W ∧ ∀ y ∈ row, y.2 ∣ W := by
  rcases h with ⟨ws, extra, m, rfl⟩ | ⟨rfl, rfl⟩
  · obtain ⟨w0, w1⟩ := m.whole
    refine ⟨wholeOf ws extra step, w0, by unfold Sm; omega, fun y hy => ?_⟩
    unfold rowOf at hy
    obtain ⟨z, hz, rfl⟩ := List.mem_map.mp hy
    exact (red_small (low2_red (Int.ne_of_gt w0)) w0 (qv_low2 w0)).1
  · exact ⟨1, by decide, by unfold Sm; decide, fun y hy => by simp at hy⟩
theorem AnyLife.w {row : List RT} {step : RT} (h : AnyLife row step) : ∃ W : Int, WOk W row := by
  rcases h with h | ⟨row0, l, h, h5, hs, hl, rfl⟩ | ⟨row0, h, h5, rfl, hs⟩
  · obtain ⟨W, w0, w1, w2⟩ := h.w
    exact ⟨W, w0, w1.mono (by decide), w2⟩
  · obtain ⟨W, w0, w1, w2⟩ := h.w
    obtain ⟨s1, s2, s3, s4⟩ := h.sm
    refine ⟨W * step.2, Int.mul_pos w0 s2.1.1, (w1.mul s2.2.2).mono (by decide), fun y hy => ?_⟩
    rcases List.mem_append.mp hy with z | z
    · exact Int.dvd_trans (w2 y z) (Int.dvd_mul_right ..)
    · rw [List.mem_singleton.mp z]
      have hm := List.mem_of_getElem? hl
      have hp := Int.mul_pos (s1 l hm).1.1.1 s2.1.1
      have d := (red_small (x := rT l step) (low2_red (Int.ne_of_gt hp)) hp (qv_low2 hp)).1
      refine Int.dvd_trans d ?_
      obtain ⟨u, hu⟩ := w2 l hm
      exact ⟨u, by rw [hu, Int.mul_assoc, Int.mul_comm u, ← Int.mul_assoc]⟩
  · obtain ⟨W, w0, w1, w2⟩ := h.w
    refine ⟨W, w0, w1.mono (by decide), fun y hy => ?_⟩
    rcases List.mem_append.mp hy with z | z
    · exact w2 y z
    · rw [List.mem_singleton.mp z]
      exact Int.one_dvd _
theorem renQ_congr {a a' b b' : Nat → Rat} : ∀ {m n : Nat}, n ≤ m → (∀ j, j < m → a j = a' j) → (∀ j, j ≤ m → b j = b' j) → renQ a b n = renQ a' b' n := by
  intro m n
  induction n using Nat.strongRecOn with
  | ind n ih =>
    intro hn h1 h2
    rw [renQ_is, renQ_is, h2 n hn]
    congr 1
    refine sumTo_congr fun j hj => ?_
    rw [h1 j (by omega), ih (n - 1 - j) (by omega) (by omega) h1 h2]
theorem qa_ch {row : List RT} {step : RT} {n m j : Nat} {chs : List RT} (h : IsCh row step n m chs) (hj : j < m) : qa chs j = chR row step j := by
  have hj2 : j < chs.length := by rw [h.len]; exact hj
  have hg : chs[j]? = some chs[j] := List.getElem?_eq_getElem hj2
  rw [qa_at hg]
  exact (h.ok j _ hg).2

end Fp

set_option Elab.async false
set_option linter.all false
set_option maxRecDepth 100000
set_option maxHeartbeats 4000000
set_option exponentiation.threshold 10000
namespace Fp
open PySem PySem.Spec PyProof.Rows L2
/-! ### puts -/
abbrev s_puts : Stmt := topS 23
theorem sc_puts : FnScope ["life", "most"] ["life", "most"] (defScope s_puts) := ⟨rfl, rfl, rfl, by decide +kernel, rfl, by decide +kernel, by decide +kernel⟩
/-- one at the beginning, nothing told later -/
def oneAt (n : Nat) : Rat := if n = 0 then 1 else 0
def putQ (row : List RT) (step : RT) (n : Nat) : Rat := renQ (chR row step) oneAt n
theorem qa_one {m j : Nat} (h : j ≤ m) : qa ((1, 1) :: List.replicate m ((0 : Int), (1 : Int))) j = oneAt j := by
  cases j with
  | zero =>
    rw [qa_at (x := (1, 1)) rfl, qv_one]
    rfl
  | succ j =>
    rw [qa_at (x := (0, 1)) (by rw [List.getElem?_cons_succ, List.getElem?_replicate]; exact if_pos (by omega)), qv_nought]
    rfl
section
variable {P : Program} {w : World} {K : PySem.W.Frag} {mg : Str → Option Value} {base : Heap} {aN aO : Addr}
def spPuts (K : PySem.W.Frag) : Sp := fun vs H Q _ => ∃ (p : Addr) (row : List RT) (step : RT) (n most : Nat) (W : Int), vs = [.ref p, .int (most : Int)] ∧ LifeAt K H p row step ∧ LifeOk n row step ∧ WOk W row ∧ most ≤ 20 ∧
  ∀ z H', Same H H' → RowAt K H' z ((List.range (most + 1)).map fun i => rdq (putQ row step i)) → Q (.ref z) H'
theorem ok_puts {f fH fN : Addr} {fd fdH fdN : FuncData} (F : Fun K "puts" "puts" s_puts f fd) (C : Consts K mg aN aO)
    (FH : Fun K "chances_to" "chances_to" s_chto fH fdH) (bH : Binds K fdH ["life", "most"] []) (gH : mg "chances_to" = some (.ref fH)) (GH : FnOk P w K mg base CX0 4 fH fdH ["life", "most"] (spChto K))
    (FN : Fun K "renewed" "renewed" s_ren fN fdN) (bN : Binds K fdN ["chances", "told"] []) (gN : mg "renewed" = some (.ref fN)) (GN : FnOk P w K mg base CX0 3 fN fdN ["chances", "told"] (spRen K)) (mt : mg "tuple" = none) : FnOk P w K mg base CX0 5 f fd ["life", "most"] (spPuts K) := by
  refine F.ok sc_puts (fun vs H Q E h => ?_) (fun cdv A outer s H vs Q E hr h => ?_)
  · obtain ⟨_, _, _, _, _, _, rfl, _⟩ := h
    rfl
  · obtain ⟨p, row, step, n, most, W, rfl, hlife, L, hW, hm, q⟩ := h
    have hr3 := hr.mono (show 3 ≤ 4 by decide)
    refine ⟨_, (pss_one (ps_ret (pe_callTy call_tuple_of (by rfl) mt (by decide +kernel) (pa_cons (pe_call GN hr3 (by rfl) gN FN.kp bN .nil pass0 (pa_cons (pe_call GH hr (by rfl) gH FH.kp bH .nil pass0 (pa_cons (pv 0) (pa_cons (pv 1) pa_nil))) (pa_cons (pe_op op_cat (pe_lst (pa_cons (pe_glob (v := .ref aO) rfl C.gO rfl) pa_nil)) (pe_op op_rep (pe_lst (pa_cons (pe_glob (v := .ref aN) rfl C.gN rfl) pa_nil)) (pv 1))) pa_nil))) pa_nil)))), ?_⟩
    refine ⟨_, rfl, _, rfl, p, row, step, n, most, rfl, hlife, L, by omega, fun z rs chs H1 s1 hz hrs hch => ?_⟩
    refine ⟨by show 1 ≤ sizeLine; decide, fun b1 m1 => ?_⟩
    have e1 := same_new (o := HO.lst [.ref aO]) m1
    refine ⟨by show 1 ≤ sizeLine; decide, fun b2 m2 => ?_⟩
    have e2 := same_new (o := HO.lst [.ref aN]) m2
    refine ⟨_, rfl, b2, _, _, rfl, rfl, upd_same, by omega, by omega, ?_, fun b3 m3 => ?_⟩
    · rw [Int.toNat_natCast]
      show 1 * most ≤ sizeLine
      exact Nat.le_trans (show 1 * most ≤ 1000 by omega) (by decide)
    have ef : (List.replicate (most : Int).toNat [V.ref aN]).flatten = (List.replicate most aN).map V.ref := by
      rw [flat_rep, List.map_replicate, Int.toNat_natCast]
    rw [ef] at *
    have e3 := same_new (o := HO.lst ((List.replicate most aN).map V.ref)) m3
    refine ⟨b1, b3, _, _, rfl, rfl, (e2.trans e3) _ _ upd_same, upd_same, ?_, fun b4 m4 => ?_⟩
    · rw [List.length_map, List.length_replicate]
      exact Nat.le_trans (show 1 + most ≤ 1000 by omega) (by decide)
    have e4 := same_new (o := HO.lst ([.ref aO] ++ (List.replicate most aN).map V.ref)) m4
    have S4 := e1.trans (e2.trans (e3.trans e4))
    have hn := L.n64
    have O1 := over_chW hW L.sm L.st.1 hm hch
    have O2 : Over1 1 1 1 ((1, 1) :: List.replicate most ((0 : Int), (1 : Int))) := by
      refine ⟨by decide, by unfold Sm; decide, fun x hx => ?_, by rw [List.length_cons, List.length_replicate]; omega⟩
      rcases List.mem_cons.mp hx with y | y
      · rw [y]
        exact ⟨by decide, Int.dvd_refl _, by unfold Sm; decide⟩
      · rw [List.eq_of_mem_replicate y]
        exact ⟨by decide, Int.dvd_refl _, by unfold Sm; decide⟩
    have hlt : ((1, 1) :: List.replicate most ((0 : Int), (1 : Int))).length = most + 1 := by rw [List.length_cons, List.length_replicate]
    refine ⟨z, b4, chs, (1, 1) :: List.replicate most (0, 1), _, _, _, _, _, _, rfl, ⟨rs, SqL.of (S4 _ _ hz), hrs.tk (Tk.same S4)⟩, ⟨aO :: List.replicate most aN, SqL.of upd_same, .cons (C.tO _) (RsAt.rep (C.tN _) most)⟩, O1, O2, by omega, by decide, by decide, by decide, by rw [hlt]; omega, by rw [hlt, hch.len]; exact Nat.le_refl _, fun y qs H5 s5 hy hqs => ?_⟩
    refine ⟨y, _, rfl, .inl ⟨SqL.of hy, fun l nl => ?_⟩⟩
    have e6 := same_new (o := HO.tup (qs.map V.ref)) nl
    refine q l _ (s1.trans (S4.trans (s5.trans e6))) ⟨qs, SqT.of upd_same, ?_⟩
    rw [hlt] at hqs
    have ec : ((List.range (most + 1)).map fun i => rdq (renQ (qa chs) (qa ((1, 1) :: List.replicate most (0, 1))) i)) = (List.range (most + 1)).map fun i => rdq (putQ row step i) := by
      refine List.map_congr_left fun i hi => ?_
      have hi2 := List.mem_range.mp hi
      show rdq _ = rdq (renQ (chR row step) oneAt i)
      rw [renQ_congr (m := most) (show i ≤ most by omega) (fun j hj => qa_ch hch hj) (fun j hj => qa_one hj)]
    rw [ec] at hqs
    exact hqs.tk (Tk.same e6)
end

end Fp

set_option Elab.async false
set_option linter.all false
set_option maxRecDepth 100000
set_option maxHeartbeats 4000000
set_option exponentiation.threshold 10000
namespace Fp
open PySem PySem.Spec PyProof.Rows L2
/-! ### puts of lives that end -/
theorem over_chE {row : List RT} {n most : Nat} {chs : List RT} {W : Int} (hW : 0 < W ∧ Sm 120 W ∧ ∀ y ∈ row, y.2 ∣ W) (hr : ∀ y ∈ row, SmR n y) (hm : most ≤ 20) (h : IsCh row (0, 1) n most chs) : Over1 (n + 100) 121 W chs := by
  obtain ⟨h1, h2, h3⟩ := hW
  refine ⟨h1, h2.mono (by decide), fun x hx => ?_, by rw [h.len]; omega⟩
  obtain ⟨i, hi⟩ := List.mem_iff_getElem?.mp hx
  have hi2 := (List.getElem?_eq_some_iff.mp hi).1
  rw [h.len] at hi2
  obtain ⟨s1, s2⟩ := h.ok i x hi
  refine ⟨s1.1.1, ?_, s1.2.1.mono (by omega)⟩
  have := ch_dvdW h3 hr (show Red (0, 1) from ⟨by decide, by decide⟩) s1.1 s2 hi2
  rw [show ((0, 1) : RT).2 ^ most = 1 from Int.one_pow .., Int.mul_one] at this
  exact this
section
variable {P : Program} {w : World} {K : PySem.W.Frag} {mg : Str → Option Value} {base : Heap} {aN aO : Addr}
def spPutsE (K : PySem.W.Frag) : Sp := fun vs H Q _ => ∃ (p : Addr) (row : List RT) (n most : Nat) (W : Int), vs = [.ref p, .int (most : Int)] ∧ LifeAt K H p row (0, 1) ∧ LifeOkE n row (0, 1) ∧ (0 < W ∧ Sm 120 W ∧ ∀ y ∈ row, y.2 ∣ W) ∧ most ≤ 20 ∧
  ∀ z H', Same H H' → RowAt K H' z ((List.range (most + 1)).map fun i => rdq (putQ row (0, 1) i)) → Q (.ref z) H'
theorem ok_putsE {f fH fN : Addr} {fd fdH fdN : FuncData} (F : Fun K "puts" "puts" s_puts f fd) (C : Consts K mg aN aO)
    (FH : Fun K "chances_to" "chances_to" s_chto fH fdH) (bH : Binds K fdH ["life", "most"] []) (gH : mg "chances_to" = some (.ref fH)) (GH : FnOk P w K mg base CX0 4 fH fdH ["life", "most"] (spChtoE K))
    (FN : Fun K "renewed" "renewed" s_ren fN fdN) (bN : Binds K fdN ["chances", "told"] []) (gN : mg "renewed" = some (.ref fN)) (GN : FnOk P w K mg base CX0 3 fN fdN ["chances", "told"] (spRen K)) (mt : mg "tuple" = none) : FnOk P w K mg base CX0 5 f fd ["life", "most"] (spPutsE K) := by
  refine F.ok sc_puts (fun vs H Q E h => ?_) (fun cdv A outer s H vs Q E hr h => ?_)
  · obtain ⟨_, _, _, _, _, rfl, _⟩ := h
    rfl
  · obtain ⟨p, row, n, most, W, rfl, hlife, L, hW, hm, q⟩ := h
    have hr3 := hr.mono (show 3 ≤ 4 by decide)
    refine ⟨_, (pss_one (ps_ret (pe_callTy call_tuple_of (by rfl) mt (by decide +kernel) (pa_cons (pe_call GN hr3 (by rfl) gN FN.kp bN .nil pass0 (pa_cons (pe_call GH hr (by rfl) gH FH.kp bH .nil pass0 (pa_cons (pv 0) (pa_cons (pv 1) pa_nil))) (pa_cons (pe_op op_cat (pe_lst (pa_cons (pe_glob (v := .ref aO) rfl C.gO rfl) pa_nil)) (pe_op op_rep (pe_lst (pa_cons (pe_glob (v := .ref aN) rfl C.gN rfl) pa_nil)) (pv 1))) pa_nil))) pa_nil)))), ?_⟩
    refine ⟨_, rfl, _, rfl, p, row, (0, 1), n, most, rfl, hlife, L, by omega, fun z rs chs H1 s1 hz hrs hch => ?_⟩
    refine ⟨by show 1 ≤ sizeLine; decide, fun b1 m1 => ?_⟩
    have e1 := same_new (o := HO.lst [.ref aO]) m1
    refine ⟨by show 1 ≤ sizeLine; decide, fun b2 m2 => ?_⟩
    have e2 := same_new (o := HO.lst [.ref aN]) m2
    refine ⟨_, rfl, b2, _, _, rfl, rfl, upd_same, by omega, by omega, ?_, fun b3 m3 => ?_⟩
    · rw [Int.toNat_natCast]
      show 1 * most ≤ sizeLine
      exact Nat.le_trans (show 1 * most ≤ 1000 by omega) (by decide)
    have ef : (List.replicate (most : Int).toNat [V.ref aN]).flatten = (List.replicate most aN).map V.ref := by
      rw [flat_rep, List.map_replicate, Int.toNat_natCast]
    rw [ef] at *
    have e3 := same_new (o := HO.lst ((List.replicate most aN).map V.ref)) m3
    refine ⟨b1, b3, _, _, rfl, rfl, (e2.trans e3) _ _ upd_same, upd_same, ?_, fun b4 m4 => ?_⟩
    · rw [List.length_map, List.length_replicate]
      exact Nat.le_trans (show 1 + most ≤ 1000 by omega) (by decide)
    have e4 := same_new (o := HO.lst ([.ref aO] ++ (List.replicate most aN).map V.ref)) m4
    have S4 := e1.trans (e2.trans (e3.trans e4))
    have hn := L.n64
    have O1 := over_chE hW L.sm hm hch
    have O2 : Over1 1 1 1 ((1, 1) :: List.replicate most ((0 : Int), (1 : Int))) := by
      refine ⟨by decide, by unfold Sm; decide, fun x hx => ?_, by rw [List.length_cons, List.length_replicate]; omega⟩
      rcases List.mem_cons.mp hx with y | y
      · rw [y]
        exact ⟨by decide, Int.dvd_refl _, by unfold Sm; decide⟩
      · rw [List.eq_of_mem_replicate y]
        exact ⟨by decide, Int.dvd_refl _, by unfold Sm; decide⟩
    have hlt : ((1, 1) :: List.replicate most ((0 : Int), (1 : Int))).length = most + 1 := by rw [List.length_cons, List.length_replicate]
    refine ⟨z, b4, chs, (1, 1) :: List.replicate most (0, 1), _, _, _, _, _, _, rfl, ⟨rs, SqL.of (S4 _ _ hz), hrs.tk (Tk.same S4)⟩, ⟨aO :: List.replicate most aN, SqL.of upd_same, .cons (C.tO _) (RsAt.rep (C.tN _) most)⟩, O1, O2, by omega, by decide, by decide, by decide, by rw [hlt]; omega, by rw [hlt, hch.len]; exact Nat.le_refl _, fun y qs H5 s5 hy hqs => ?_⟩
    refine ⟨y, _, rfl, .inl ⟨SqL.of hy, fun l nl => ?_⟩⟩
    have e6 := same_new (o := HO.tup (qs.map V.ref)) nl
    refine q l _ (s1.trans (S4.trans (s5.trans e6))) ⟨qs, SqT.of upd_same, ?_⟩
    rw [hlt] at hqs
    have ec : ((List.range (most + 1)).map fun i => rdq (renQ (qa chs) (qa ((1, 1) :: List.replicate most (0, 1))) i)) = (List.range (most + 1)).map fun i => rdq (putQ row (0, 1) i) := by
      refine List.map_congr_left fun i hi => ?_
      have hi2 := List.mem_range.mp hi
      show rdq _ = rdq (renQ (chR row (0, 1)) oneAt i)
      rw [renQ_congr (m := most) (show i ≤ most by omega) (fun j hj => qa_ch hch hj) (fun j hj => qa_one hj)]
    rw [ec] at hqs
    exact hqs.tk (Tk.same e6)
end

end Fp

set_option Elab.async false
set_option linter.all false
set_option maxRecDepth 100000
set_option maxHeartbeats 4000000
set_option exponentiation.threshold 10000
namespace Fp
open PySem PySem.Spec PyProof.Rows L2
/-! ### put by how many parts there are -/
def pQ (a : Nat → Rat) : Nat → Nat → Rat
  | 0, m => oneAt m
  | j + 1, m => sumTo m fun k => a k * pQ a j (m - 1 - k)
theorem sumTo_succ (n : Nat) (f : Nat → Rat) : sumTo (n + 1) f = sumTo n f + f n := by
  unfold sumTo
  rw [List.range_succ, List.map_append]
  simp only [List.map_cons, List.map_nil]
  rw [sum_snoc]
theorem sumTo_zero (f : Nat → Rat) : sumTo 0 f = 0 := rfl
theorem sumTo_head (n : Nat) (f : Nat → Rat) : sumTo (n + 1) f = f 0 + sumTo n fun j => f (j + 1) := by
  induction n with
  | zero =>
    rw [sumTo_succ, sumTo_zero, sumTo_zero]
    grind
  | succ n ih =>
    rw [sumTo_succ, ih, sumTo_succ]
    grind
theorem sumTo_add (n : Nat) (f g : Nat → Rat) : sumTo n (fun j => f j + g j) = sumTo n f + sumTo n g := by
  induction n with
  | zero =>
    rw [sumTo_zero, sumTo_zero, sumTo_zero]
    grind
  | succ n ih =>
    rw [sumTo_succ, sumTo_succ, sumTo_succ, ih]
    grind
theorem sumTo_nought (n : Nat) : sumTo n (fun _ => 0) = 0 := by
  induction n with
  | zero => rfl
  | succ n ih =>
    rw [sumTo_succ, ih]
    grind
theorem sumTo_swap (n m : Nat) (f : Nat → Nat → Rat) : sumTo n (fun j => sumTo m fun k => f j k) = sumTo m fun k => sumTo n fun j => f j k := by
  induction n with
  | zero =>
    rw [sumTo_zero]
    exact (sumTo_nought m).symm
  | succ n ih =>
    rw [sumTo_succ, ih, ← sumTo_add]
    exact sumTo_congr fun k _ => (sumTo_succ n fun j => f j k).symm
/-- all of them added: what is put -/
theorem put_parts (a : Nat → Rat) : ∀ n N : Nat, n ≤ N → sumTo (N + 1) (fun j => pQ a j n) = renQ a oneAt n := by
  intro n
  induction n using Nat.strongRecOn with
  | ind n ih =>
    intro N hN
    rw [renQ_is, sumTo_head]
    show oneAt n + sumTo N (fun j => sumTo n fun k => a k * pQ a j (n - 1 - k)) = _
    congr 1
    rw [sumTo_swap]
    refine sumTo_congr fun k hk => ?_
    rw [← sumTo_mul]
    have hN2 : N = (N - 1) + 1 := by omega
    rw [hN2, ih (n - 1 - k) (by omega) (N - 1) (by omega)]
/-- with more parts than beats there is nothing -/
theorem pQ_far (a : Nat → Rat) : ∀ {j m : Nat}, m < j → pQ a j m = 0
  | 0, m, h => absurd h (Nat.not_lt_zero _)
  | j + 1, m, h => by
    show sumTo m (fun k => a k * pQ a j (m - 1 - k)) = 0
    rw [sumTo_congr (g := fun _ => 0) fun k hk => ?_]
    · exact sumTo_nought m
    · rw [pQ_far a (show m - 1 - k < j by omega)]
      grind
theorem sumTo_le {n : Nat} {f g : Nat → Rat} (h : ∀ j, j < n → f j ≤ g j) : sumTo n f ≤ sumTo n g := by
  induction n with
  | zero => exact Rat.le_refl
  | succ n ih =>
    rw [sumTo_succ, sumTo_succ]
    have h1 := ih fun j hj => h j (by omega)
    have h2 := h n (by omega)
    grind
theorem sumTo_rev (n : Nat) (f : Nat → Rat) : sumTo n (fun k => f (n - 1 - k)) = sumTo n f := by
  induction n with
  | zero => rfl
  | succ n ih =>
    rw [sumTo_head, sumTo_succ]
    have e : (sumTo n fun j => f (n + 1 - 1 - (j + 1))) = sumTo n fun k => f (n - 1 - k) := sumTo_congr fun k hk => by
      congr 1
      omega
    rw [e, ih]
    have : n + 1 - 1 - 0 = n := by omega
    rw [this]
    grind
theorem two_sum (n : Nat) : sumTo n (fun m => (2 : Rat) ^ m) = 2 ^ n - 1 := by
  induction n with
  | zero =>
    rw [sumTo_zero, Rat.pow_zero]
    grind
  | succ n ih =>
    rw [sumTo_succ, ih, Rat.pow_succ]
    grind
/-- chances from nought to one: from nought to two powers -/
theorem pQ_bound {a : Nat → Rat} {M : Nat} (h0 : ∀ k, k < M → 0 ≤ a k) (h1 : ∀ k, k < M → a k ≤ 1) : ∀ j m, m ≤ M → 0 ≤ pQ a j m ∧ pQ a j m ≤ 2 ^ m := by
  have pp : ∀ m : Nat, (0 : Rat) < 2 ^ m := fun m => Rat.pow_pos (by decide)
  intro j
  induction j with
  | zero =>
    intro m _
    show 0 ≤ oneAt m ∧ oneAt m ≤ 2 ^ m
    unfold oneAt
    split
    · rename_i e
      subst e
      rw [Rat.pow_zero]
      exact ⟨by decide, Rat.le_refl⟩
    · exact ⟨Rat.le_refl, Rat.le_of_lt (pp m)⟩
  | succ j ih =>
    intro m hm
    show 0 ≤ sumTo m (fun k => a k * pQ a j (m - 1 - k)) ∧ sumTo m (fun k => a k * pQ a j (m - 1 - k)) ≤ 2 ^ m
    refine ⟨?_, ?_⟩
    · have := sumTo_le (n := m) (f := fun _ => 0) (g := fun k => a k * pQ a j (m - 1 - k)) fun k hk => Rat.mul_nonneg (h0 k (by omega)) (ih (m - 1 - k) (by omega)).1
      rw [sumTo_nought] at this
      exact this
    · have h2 : sumTo m (fun k => a k * pQ a j (m - 1 - k)) ≤ sumTo m fun k => (2 : Rat) ^ (m - 1 - k) := sumTo_le fun k hk => by
        obtain ⟨i1, i2⟩ := ih (m - 1 - k) (by omega)
        have h3 := Rat.mul_le_mul_of_nonneg_right (h1 k (by omega)) i1
        grind
      rw [sumTo_rev m fun k => (2 : Rat) ^ k, two_sum] at h2
      grind
theorem tri_flip (n : Nat) (f : Nat → Nat → Rat) : (sumTo n fun m => sumTo (m + 1) (f m)) = sumTo n fun j => sumTo (n - j) fun k => f (j + k) j := by
  induction n with
  | zero => rfl
  | succ n ih =>
    rw [sumTo_succ, ih, sumTo_succ (n := n) (f := fun j => sumTo (n + 1 - j) fun k => f (j + k) j)]
    have e : (sumTo n fun j => sumTo (n + 1 - j) fun k => f (j + k) j) = sumTo n fun j => (sumTo (n - j) fun k => f (j + k) j) + f n j := by
      refine sumTo_congr fun j hj => ?_
      rw [show n + 1 - j = (n - j) + 1 by omega, sumTo_succ, show j + (n - j) = n by omega]
    rw [e, sumTo_add, sumTo_succ, show n + 1 - n = 0 + 1 by omega, sumTo_succ, sumTo_zero]
    rw [Nat.add_zero]
    grind

end Fp

set_option Elab.async false
set_option linter.all false
set_option maxRecDepth 100000
set_option maxHeartbeats 4000000
set_option exponentiation.threshold 10000
namespace Fp
open PySem PySem.Spec PyProof.Rows L2
/-! ### lists of ratios told by their values; values over powers of one number -/
def mkL (n : Nat) (g : Nat → Rat) : List RT := (List.range n).map fun m => rdq (g m)
theorem mkL_len {n : Nat} {g : Nat → Rat} : (mkL n g).length = n := by
  unfold mkL
  rw [List.length_map, List.length_range]
theorem mkL_at {n m : Nat} {g : Nat → Rat} (h : m < n) : (mkL n g)[m]? = some (rdq (g m)) := by
  unfold mkL
  rw [List.getElem?_map, List.getElem?_range h]
  rfl
theorem mkL_congr {n : Nat} {g g' : Nat → Rat} (h : ∀ m, m < n → g m = g' m) : mkL n g = mkL n g' := by
  unfold mkL
  refine List.map_congr_left fun m hm => ?_
  rw [h m (List.mem_range.mp hm)]
theorem mkL_set {n i : Nat} {g : Nat → Rat} {v : Rat} : (mkL n g).set i (rdq v) = mkL n fun m => if m = i then v else g m := by
  refine List.ext_getElem (by rw [List.length_set, mkL_len, mkL_len]) fun m h1 h2 => ?_
  rw [List.getElem_set]
  have hm : m < n := by
    rw [mkL_len] at h2
    exact h2
  have e : ∀ (f : Nat → Rat) (h : m < (mkL n f).length), (mkL n f)[m] = rdq (f m) := fun f h => by
    have := mkL_at (g := f) hm
    rw [List.getElem?_eq_getElem h] at this
    exact Option.some.inj this
  rw [e (fun m => if m = i then v else g m)]
  by_cases z : i = m
  · rw [if_pos z, if_pos z.symm]
  · rw [if_neg z, if_neg fun y => z y.symm, e]
theorem RsAt.set {K : PySem.W.Frag} {H : Hp} {z : Addr} {x : RT} (hz : RAt K H z x) : ∀ {rs : List Addr} {xs : List RT} (i : Nat), RsAt K H rs xs → RsAt K H (rs.set i z) (xs.set i x)
  | _, _, _, .nil => .nil
  | _, _, 0, .cons _ r => .cons hz r
  | _, _, i + 1, .cons h r => .cons h (RsAt.set hz i r)
/-- a whole number over the e-th power of D -/
def Den (D : Int) (e : Nat) (q : Rat) : Prop := ∃ T : Int, q = (T : Rat) / ((D ^ e : Int) : Rat)
section
variable {D : Int} {e f : Nat} {p q : Rat}
theorem Den.up (hD : 0 < D) (h : Den D e q) : Den D (e + 1) q := by
  obtain ⟨T, rfl⟩ := h
  refine ⟨T * D, ?_⟩
  have h1 := cast_ne (Int.ne_of_gt hD)
  have h2 := cast_ne (Int.ne_of_gt (show (0 : Int) < D ^ e from Int.pow_pos hD))
  rw [Int.pow_succ, Rat.intCast_mul, Rat.intCast_mul]
  grind
theorem Den.mono (hD : 0 < D) (h : Den D e q) : ∀ {f : Nat}, e ≤ f → Den D f q := by
  intro f hf
  induction hf with
  | refl => exact h
  | step _ ih => exact ih.up hD
theorem Den.add (hD : 0 < D) (hp : Den D e p) (hq : Den D e q) : Den D e (p + q) := by
  obtain ⟨T, rfl⟩ := hp
  obtain ⟨S, rfl⟩ := hq
  refine ⟨T + S, ?_⟩
  have h2 := cast_ne (Int.ne_of_gt (show (0 : Int) < D ^ e from Int.pow_pos hD))
  rw [Rat.intCast_add]
  grind
theorem Den.mul (hD : 0 < D) (hp : Den D e p) (hq : Den D f q) : Den D (e + f) (p * q) := by
  obtain ⟨T, rfl⟩ := hp
  obtain ⟨S, rfl⟩ := hq
  refine ⟨T * S, ?_⟩
  have h1 := cast_ne (Int.ne_of_gt (show (0 : Int) < D ^ e from Int.pow_pos hD))
  have h2 := cast_ne (Int.ne_of_gt (show (0 : Int) < D ^ f from Int.pow_pos hD))
  rw [Int.pow_add, Rat.intCast_mul, Rat.intCast_mul]
  grind
theorem Den.zero : Den D e 0 := ⟨0, by
  show (0 : Rat) = ((0 : Int) : Rat) / _
  rw [show ((0 : Int) : Rat) = 0 from rfl]
  grind⟩
theorem Den.sum (hD : 0 < D) {n : Nat} {g : Nat → Rat} (h : ∀ j, j < n → Den D e (g j)) : Den D e (sumTo n g) := by
  induction n with
  | zero => exact Den.zero
  | succ n ih =>
    rw [sumTo_succ]
    exact (ih fun j hj => h j (by omega)).add hD (h n (by omega))
theorem Den.of {x : RT} (hD : 0 < D) (hx : 0 < x.2) (h : x.2 ∣ D) : Den D 1 (qv x) := by
  refine ⟨x.1 * (D / x.2), ?_⟩
  rw [Int.pow_succ, Int.pow_zero, Int.one_mul]
  exact qv_over hx h hD
/-- what such a value's lowest form is like -/
theorem Den.red (hD : 0 < D) (h : Den D e q) {d k : Nat} (sD : Sm d D) (hd : 0 < d) (h0 : 0 ≤ q) (h1 : q ≤ 2 ^ k) : (rdq q).2 ∣ D ^ e ∧ Sm (d * e + 1 + k + 1) (rdq q).1 ∧ Sm (d * e + 1) (rdq q).2 := by
  obtain ⟨T, hT⟩ := h
  have hP : (0 : Int) < D ^ e := Int.pow_pos hD
  have hc := cast_ne (Int.ne_of_gt hP)
  obtain ⟨r1, r2⟩ := red_small (rdq_red q) hP (by rw [qv_rdq]; exact hT)
  have sP : Sm (d * e + 1) (D ^ e) := sm_pow sD hd e
  refine ⟨r1, ?_, dvd_small r1 hP sP⟩
  have hcp : (0 : Rat) < ((D ^ e : Int) : Rat) := Rat.intCast_pos.mpr hP
  have e1 : (T : Rat) = q * ((D ^ e : Int) : Rat) := by
    rw [hT]
    grind
  have t0 : 0 ≤ T := by
    have := Rat.mul_nonneg h0 (Rat.le_of_lt hcp)
    rw [← e1] at this
    exact Rat.intCast_nonneg.mp this
  have t1 : T ≤ 2 ^ k * D ^ e := by
    have := Rat.mul_le_mul_of_nonneg_right h1 (Rat.le_of_lt hcp)
    rw [← e1] at this
    have e2 : (2 : Rat) ^ k * ((D ^ e : Int) : Rat) = ((2 ^ k * D ^ e : Int) : Rat) := by
      rw [Rat.intCast_mul, cast_pow 2 k]
      rfl
    rw [e2] at this
    exact Rat.intCast_le_intCast.mp this
  unfold Sm at *
  have t2 : T.natAbs ≤ 2 ^ k * (D ^ e).natAbs := by
    have : (2 ^ k * D ^ e : Int).natAbs = 2 ^ k * (D ^ e).natAbs := by
      rw [Int.natAbs_mul, Int.natAbs_pow]
      rfl
    omega
  have t3 : 2 ^ k * (D ^ e).natAbs ≤ 2 ^ k * 2 ^ (d * e + 1) := Nat.mul_le_mul_left _ (Nat.le_of_lt sP)
  have t4 : 2 ^ (d * e + 1 + k + 1) = 2 * (2 ^ k * 2 ^ (d * e + 1)) := by
    rw [Nat.pow_succ, Nat.pow_add, Nat.mul_comm, Nat.mul_comm (2 ^ (d * e + 1))]
  have t5 : 0 < 2 ^ k * 2 ^ (d * e + 1) := Nat.mul_pos (Nat.pow_pos (by decide)) (Nat.pow_pos (by decide))
  omega
end
/-- chances from nought to one, each over D -/
structure Ch01 (D : Int) (a : Nat → Rat) (M : Nat) : Prop where
  pos : 0 < D
  sm : Sm 60 D
  ge : ∀ k, k < M → 0 ≤ a k
  le : ∀ k, k < M → a k ≤ 1
  den : ∀ k, k < M → Den D 1 (a k)
theorem Ch01.pq {D : Int} {a : Nat → Rat} {M : Nat} (h : Ch01 D a M) : ∀ j m, m ≤ M → Den D j (pQ a j m) := by
  intro j
  induction j with
  | zero =>
    intro m _
    show Den D 0 (oneAt m)
    unfold oneAt
    split
    · exact ⟨1, by
        rw [Int.pow_zero]
        grind⟩
    · exact Den.zero
  | succ j ih =>
    intro m hm
    refine Den.sum h.pos fun k hk => ?_
    rw [Nat.add_comm]
    exact (h.den k (by omega)).mul h.pos (ih (m - 1 - k) (by omega))

end Fp

set_option Elab.async false
set_option linter.all false
set_option maxRecDepth 100000
set_option maxHeartbeats 4000000
set_option exponentiation.threshold 10000
namespace Fp
open PySem PySem.Spec PyProof.Rows L2
/-! ### the law's own: by how many parts there are -/
abbrev N_bp : List Str := ["_law_life_here", "_law_most_here", "_law_chances", "_law_found", "_law_parts", "_law_here", "_law_more", "_law_n", "_law_k"]
/-- what n parts before and one more give at m -/
def fM (a : Nat → Rat) (j m n : Nat) : Rat := pQ a j n * a (m - 1 - n)
theorem fM_sum (a : Nat → Rat) (j m : Nat) : sumTo m (fM a j m) = pQ a (j + 1) m := by
  show _ = sumTo m fun k => a k * pQ a j (m - 1 - k)
  rw [← sumTo_rev m fun k => a k * pQ a j (m - 1 - k)]
  refine sumTo_congr fun k hk => ?_
  unfold fM
  rw [show m - 1 - (m - 1 - k) = k by omega]
  grind
/-- n of them taken, and of the next one those to n + kk -/
def vM (a : Nat → Rat) (j n kk m : Nat) : Rat := sumTo (min n m) (fM a j m) + if n < m ∧ m ≤ n + kk then fM a j m n else 0
theorem vM_zero (a : Nat → Rat) (j n m : Nat) : vM a j n 0 m = sumTo (min n m) (fM a j m) := by
  unfold vM
  rw [if_neg (by omega)]
  grind
theorem vM_full (a : Nat → Rat) {j n kk m : Nat} (h : m ≤ n + kk) : vM a j n kk m = sumTo (min (n + 1) m) (fM a j m) := by
  unfold vM
  rcases (by omega : n < m ∨ m ≤ n) with z | z
  · rw [if_pos ⟨z, h⟩, Nat.min_eq_left (by omega), Nat.min_eq_left (by omega), sumTo_succ]
  · rw [if_neg (by omega), Nat.min_eq_right z, Nat.min_eq_right (by omega)]
    grind
theorem vM_step (a : Nat → Rat) {j n kk m : Nat} : vM a j n (kk + 1) m = if m = n + (kk + 1) then vM a j n kk m + fM a j m n else vM a j n kk m := by
  unfold vM
  by_cases z : m = n + (kk + 1)
  · rw [if_pos z, if_pos (by omega), if_neg (by omega)]
    grind
  · rw [if_neg z]
    congr 1
    by_cases y : n < m ∧ m ≤ n + kk
    · rw [if_pos y, if_pos (by omega)]
    · rw [if_neg y, if_neg (by omega)]
section
variable {D : Int} {a : Nat → Rat} {M j m n : Nat}
theorem Ch01.f_ok (h : Ch01 D a M) (hm : m ≤ M) (hn : n < m) : 0 ≤ fM a j m n ∧ fM a j m n ≤ 2 ^ n ∧ Den D (j + 1) (fM a j m n) := by
  obtain ⟨b1, b2⟩ := pQ_bound h.ge h.le j n (by omega)
  refine ⟨Rat.mul_nonneg b1 (h.ge _ (by omega)), ?_, (h.pq j n (by omega)).mul h.pos (h.den _ (by omega))⟩
  have := Rat.mul_le_mul_of_nonneg_left (h.le (m - 1 - n) (by omega)) b1
  unfold fM
  grind
theorem pow2_le {i k : Nat} (h : i ≤ k) : (2 : Rat) ^ i ≤ 2 ^ k := by
  have pp : ∀ m : Nat, (0 : Rat) < 2 ^ m := fun m => Rat.pow_pos (by decide)
  induction h with
  | refl => exact Rat.le_refl
  | step _ ih =>
    rename_i m _
    rw [Rat.pow_succ]
    have := pp m
    grind
theorem Ch01.s_ok (h : Ch01 D a M) (hm : m ≤ M) (hn : n ≤ m) : 0 ≤ sumTo n (fM a j m) ∧ sumTo n (fM a j m) ≤ 2 ^ m ∧ Den D (j + 1) (sumTo n (fM a j m)) := by
  refine ⟨?_, ?_, Den.sum h.pos fun k hk => (h.f_ok hm (by omega)).2.2⟩
  · have := sumTo_le (n := n) (f := fun _ => 0) (g := fM a j m) fun k hk => (h.f_ok hm (by omega)).1
    rw [sumTo_nought] at this
    exact this
  · have h1 := sumTo_le (n := n) (f := fM a j m) (g := fun k => (2 : Rat) ^ k) fun k hk => (h.f_ok hm (by omega)).2.1
    rw [two_sum] at h1
    have h2 := pow2_le hn
    grind
theorem Ch01.red (h : Ch01 D a M) {q : Rat} {e k : Nat} (hd : Den D e q) (h0 : 0 ≤ q) (h1 : q ≤ 2 ^ k) (he : e ≤ 21) (hk : k ≤ 21) : (rdq q).2 ∣ D ^ e ∧ Sm 1400 (rdq q).1 ∧ Sm 1400 (rdq q).2 := by
  obtain ⟨r1, r2, r3⟩ := hd.red h.pos h.sm (by decide) h0 h1
  have : 60 * e ≤ 60 * 21 := Nat.mul_le_mul_left _ he
  exact ⟨r1, r2.mono (by omega), r3.mono (by omega)⟩
end

end Fp

set_option Elab.async false
set_option linter.all false
set_option maxRecDepth 100000
set_option maxHeartbeats 4000000
set_option exponentiation.threshold 10000
namespace Fp
open PySem PySem.Spec PyProof.Rows L2
section
variable {P : Program} {w : World} {K : PySem.W.Frag} {mg : Str → Option Value} {base : Heap}
/-- a list of ratios that may be changed -/
def LsM (K : PySem.W.Frag) (H : Hp) (p : Addr) (xs : List RT) : Prop := ∃ rs : List Addr, H p = some (.lst (rs.map V.ref)) ∧ RsAt K H rs xs
theorem LsM.same {H H' : Hp} {p : Addr} {xs : List RT} (h : LsM K H p xs) (e : Same H H') : LsM K H' p xs := by
  obtain ⟨rs, h1, h2⟩ := h
  exact ⟨rs, e _ _ h1, h2.tk (Tk.same e)⟩
theorem LsM.at {H : Hp} {p : Addr} {n m : Nat} {g : Nat → Rat} {k : Int} {Q : VK} (h : LsM K H p (mkL n g)) (hk : k = (m : Int)) (hm : m < n) (q : ∀ r, RAt K H r (rdq (g m)) → Q (.ref r) H) : rIxL K (.ref p) (.int k) H Q := by
  obtain ⟨rs, h1, h2⟩ := h
  obtain ⟨r, e1, e2⟩ := h2.get (mkL_at hm)
  have g2 : (rs.map V.ref)[m]? = some (.ref r) := by
    rw [List.getElem?_map, e1]
    rfl
  exact ⟨p, _, _, _, rfl, rfl, SqL.of h1, at_of hk g2, q r e2⟩
theorem rdq_zero {q : Rat} : rdq q = (0, 1) ↔ q = 0 := by
  constructor
  · intro h
    have := congrArg qv h
    rw [qv_rdq, qv_nought] at this
    exact this
  · intro h
    rw [h]
    exact (is_rdq ⟨by decide, by decide⟩ qv_nought).symm
def spBp (K : PySem.W.Frag) : Sp := fun vs H Q _ => ∃ (p : Addr) (row : List RT) (step : RT) (n most : Nat) (D : Int), vs = [.ref p, .int (most : Int)] ∧ LifeAt K H p row step ∧ LifeOk n row step ∧ (row = [] → step = (0, 1)) ∧ Ch01 D (chR row step) 20 ∧ most ≤ 20 ∧
  ∀ (z : Addr) (fs : List Addr) (H' : Hp), Same H H' → H' z = some (.lst (fs.map V.ref)) → fs.length = most + 1 → (∀ j f, fs[j]? = some f → LsM K H' f (mkL (most + 1) (pQ (chR row step) j))) → Q (.ref z) H'
end

end Fp

set_option Elab.async false
set_option linter.all false
set_option maxRecDepth 100000
set_option maxHeartbeats 4000000
set_option exponentiation.threshold 10000
namespace Fp
open PySem PySem.Spec PyProof.Rows L2
theorem AnyLife.ok {row : List RT} {step : RT} (h : AnyLife row step) : LifeOk 20 row step ∧ row.length ≤ 7 ∧ (row = [] → step = (0, 1)) := by
  have nought : SmR 20 (0, 1) := ⟨⟨by decide, by decide⟩, by unfold Sm; decide, by unfold Sm; decide⟩
  rcases h with h | ⟨row0, l, h, h5, hs, hl, rfl⟩ | ⟨row0, h, h5, rfl, hs⟩
  · obtain ⟨s1, s2, s3, s4⟩ := h.sm
    have := h.len
    refine ⟨⟨fun x hx => (s1 x hx).1.mono (by decide), ⟨s2.mono (by decide), s3, s4⟩, by omega, by decide, by decide⟩, by omega, fun z => ?_⟩
    rcases Classical.em (step = (0, 1)) with y | y
    · exact y
    · exact absurd z (h.ne y)
  · obtain ⟨s1, s2, s3, s4⟩ := h.sm
    have hlen : (row0 ++ [rT l step]).length ≤ 6 := by
      rw [List.length_append, List.length_singleton]
      omega
    refine ⟨⟨fun x hx => ?_, ⟨s2.mono (by decide), s3, s4⟩, by omega, by decide, by decide⟩, by omega, fun z => ?_⟩
    · rcases List.mem_append.mp hx with z | z
      · exact (s1 x z).1.mono (by decide)
      · rw [List.mem_singleton.mp z]
        exact (rT_sm (s1 l (List.mem_of_getElem? hl)).1 s2).mono (by decide)
    · have := congrArg List.length z
      simp at this
  · obtain ⟨s1, s2, s3, s4⟩ := h.sm
    have hlen : (row0 ++ [((0 : Int), (1 : Int))]).length ≤ 6 := by
      rw [List.length_append, List.length_singleton]
      omega
    refine ⟨⟨fun x hx => ?_, ?_, by omega, by decide, by decide⟩, by omega, fun z => ?_⟩
    · rcases List.mem_append.mp hx with z | z
      · exact (s1 x z).1.mono (by decide)
      · rw [List.mem_singleton.mp z]
        exact nought
    · rcases hs with rfl | rfl
      · exact ⟨⟨⟨by decide, by decide⟩, by unfold Sm; decide, by unfold Sm; decide⟩, by decide, by decide⟩
      · exact ⟨⟨⟨by decide, by decide⟩, by unfold Sm; decide, by unfold Sm; decide⟩, by decide, by decide⟩
    · have := congrArg List.length z
      simp at this

end Fp

set_option Elab.async false
set_option linter.all false
set_option maxRecDepth 100000
set_option maxHeartbeats 4000000
set_option exponentiation.threshold 10000
namespace Fp
open PySem PySem.Spec PyProof.Rows L2
/-! ### a life cut at a beat -/
theorem ch_ex {row : List RT} {step : RT} {n : Nat} (L : LifeOk n row step) : ∀ i, ∃ x, SmR (n + 5 * i) x ∧ qv x = chR row step i := by
  intro i
  induction i with
  | zero =>
    rcases Classical.em (0 < row.length) with hi | hi
    · exact ⟨row[0], (L.sm _ (List.getElem_mem hi)).mono (by omega), (chR_in (List.getElem?_eq_getElem hi)).symm⟩
    · have er : row = [] := List.length_eq_zero_iff.mp (by omega)
      subst er
      exact ⟨(0, 1), SmR.mono (n := 1) ⟨⟨by decide, by decide⟩, by unfold Sm; decide, by unfold Sm; decide⟩ (by have := L.n1; omega), by rw [chR_nil, qv_nought]⟩
  | succ j ih =>
    rcases Classical.em (j + 1 < row.length) with hi | hi
    · exact ⟨row[j + 1], (L.sm _ (List.getElem_mem hi)).mono (by omega), (chR_in (List.getElem?_eq_getElem hi)).symm⟩
    · rcases Classical.em (row = []) with er | er
      · subst er
        exact ⟨(0, 1), SmR.mono (n := 1) ⟨⟨by decide, by decide⟩, by unfold Sm; decide, by unfold Sm; decide⟩ (by have := L.n1; omega), by rw [chR_nil, qv_nought]⟩
      · obtain ⟨x, h1, h2⟩ := ih
        refine ⟨rT x step, (rT_sm h1 L.st.1).mono (by omega), ?_⟩
        rw [(qv_rT h1.1 L.st.1.1).2, h2, chR_next (by omega) er]
def chsR (row : List RT) (step : RT) (m : Nat) : List RT := (List.range m).map fun k => rdq (chR row step k)
def cutR (row : List RT) (step : RT) (m : Nat) : List RT := chsR row step m ++ [rdq (1 - sumCh row step m)]
theorem chsR_at {row : List RT} {step : RT} {m i : Nat} {x : RT} (h : (chsR row step m)[i]? = some x) : i < m ∧ x = rdq (chR row step i) := by
  unfold chsR at h
  rw [List.getElem?_map] at h
  rcases Classical.em (i < m) with z | z
  · rw [List.getElem?_range z] at h
    exact ⟨z, (Option.some.inj h).symm⟩
  · rw [List.getElem?_eq_none (by rw [List.length_range]; omega)] at h
    cases h
theorem chsR_len {row : List RT} {step : RT} {m : Nat} : (chsR row step m).length = m := by
  unfold chsR
  rw [List.length_map, List.length_range]
theorem IsCh.is {row : List RT} {step : RT} {n m : Nat} {chs : List RT} (h : IsCh row step n m chs) : chs = chsR row step m := by
  refine List.ext_getElem (by rw [h.len, chsR_len]) fun i h1 h2 => ?_
  have e1 := h.ok i _ (List.getElem?_eq_getElem h1)
  have e2 := chsR_at (List.getElem?_eq_getElem h2)
  rw [e2.2]
  exact is_rdq e1.1.1 e1.2
theorem ch_all {row : List RT} {step : RT} {n : Nat} (L : LifeOk n row step) (m : Nat) : IsCh row step n m (chsR row step m) := by
  refine ⟨chsR_len, fun i x hx => ?_⟩
  obtain ⟨_, rfl⟩ := chsR_at hx
  obtain ⟨y, h1, h2⟩ := ch_ex L i
  rw [← is_rdq h1.1 h2]
  exact ⟨h1, h2⟩
theorem chsR_sm {row : List RT} {step : RT} {n m : Nat} (L : LifeOk n row step) (hm : m ≤ 70) : ∀ x ∈ chsR row step m, SmR 500 x := by
  intro x hx
  obtain ⟨i, hi⟩ := List.mem_iff_getElem?.mp hx
  have := (chsR_at hi).1
  have := L.n64
  exact ((ch_all L m).ok i x hi).1.mono (by omega)
theorem cut_sm {row : List RT} {step : RT} {n m : Nat} (L : LifeOk n row step) (hm : m ≤ 70) : ∀ x ∈ cutR row step m, SmR 1900 x := by
  intro x hx
  rcases List.mem_append.mp hx with z | z
  · exact (chsR_sm L hm x z).mono (by decide)
  · rw [List.mem_singleton.mp z]
    have I := ch_all L m
    have O := over_ch L.sm L.st.1 L.len L.n64 hm I
    have hs := tops_sum O.pos (xs := chsR row step m) fun y hy => ⟨(O.ok y hy).1, (O.ok y hy).2.1⟩
    have hb := tops_sm O.pos O.pos (Int.dvd_refl _) O.sm (xs := chsR row step m) fun y hy => ⟨(O.ok y hy).1, (O.ok y hy).2.2⟩
    rw [I.sum] at hs
    have hD := O.pos
    have sD := O.sm
    generalize prodB row * step.2 ^ m = D at hs hb hD sD
    generalize (topsOn D (chsR row step m)).sum = T at hs hb
    have sT : Sm 1800 T := by
      unfold Sm
      refine Nat.lt_of_le_of_lt hb ?_
      rw [chsR_len]
      have h64 := L.n64
      have e1 : m * 2 ^ (n + 350 + 1300) ≤ 70 * 2 ^ (64 + 350 + 1300) := Nat.mul_le_mul hm (Nat.pow_le_pow_right (by decide) (by omega))
      exact Nat.lt_of_le_of_lt e1 (by decide)
    have sN : Sm 1801 (D - T) := (sD.mono (show 1300 ≤ 1800 by decide)).sub sT
    have sy : SmR 1801 (low2 (D - T) D) := low2_sm hD sN (sD.mono (by decide))
    have e : low2 (D - T) D = rdq (1 - sumCh row step m) := by
      refine is_rdq sy.1 ?_
      rw [qv_low2 hD, ← hs, Rat.intCast_sub]
      have := cast_ne (Int.ne_of_gt hD)
      grind
    rw [← e]
    exact sy.mono (by decide)
/-- each one with noughts before it -/
def wideR (m : Nat) (row : List RT) : List RT := row.flatMap fun x => List.replicate m ((0 : Int), (1 : Int)) ++ [x]
theorem wide_snoc {m : Nat} {xs : List RT} {x : RT} : wideR m (xs ++ [x]) = wideR m xs ++ (List.replicate m (0, 1) ++ [x]) := by
  unfold wideR
  rw [List.flatMap_append]
  simp
theorem wide_mem {m : Nat} {row : List RT} {x : RT} (h : x ∈ wideR m row) : x = (0, 1) ∨ x ∈ row := by
  unfold wideR at h
  obtain ⟨y, h1, h2⟩ := List.mem_flatMap.mp h
  rcases List.mem_append.mp h2 with z | z
  · exact .inl (List.eq_of_mem_replicate z)
  · rw [List.mem_singleton.mp z]
    exact .inr h1
theorem wide_len {m : Nat} : ∀ {row : List RT}, (wideR m row).length = row.length * (m + 1)
  | [] => by
    show 0 = 0 * (m + 1)
    omega
  | x :: r => by
    show ((List.replicate m (0, 1) ++ [x]) ++ wideR m r).length = _
    rw [List.length_append, List.length_append, List.length_replicate, List.length_singleton, wide_len, List.length_cons, Nat.add_mul]
    omega
theorem take_snoc {α : Type} {xs : List α} {i : Nat} {x : α} (h : xs[i]? = some x) : xs.take (i + 1) = xs.take i ++ [x] := by
  rw [List.take_add_one, h]
  rfl
theorem nought_sm {n : Nat} (h : 1 ≤ n) : SmR n (0, 1) := SmR.mono (n := 1) ⟨⟨by decide, by decide⟩, by unfold Sm; decide, by unfold Sm; decide⟩ h
theorem nought_step {n : Nat} (h : 1 ≤ n) : StepOk n (0, 1) := ⟨nought_sm h, by decide, by decide⟩

end Fp

set_option Elab.async false
set_option linter.all false
set_option maxRecDepth 100000
set_option maxHeartbeats 4000000
set_option exponentiation.threshold 10000
namespace Fp
open PySem PySem.Spec PyProof.Rows L2
/-! ### chances of drawn lives are from nought to one -/
theorem div_01 {t b : Int} (h0 : 0 ≤ t) (hb : 0 < b) (h : t ≤ b) : (0 : Rat) ≤ (t : Rat) / (b : Rat) ∧ (t : Rat) / (b : Rat) ≤ 1 := by
  have hc : (0 : Rat) < (b : Rat) := Rat.intCast_pos.mpr hb
  have ht : (0 : Rat) ≤ (t : Rat) := Rat.intCast_nonneg.mpr h0
  have hl : (t : Rat) ≤ (b : Rat) := Rat.intCast_le_intCast.mpr h
  have hi : (0 : Rat) ≤ (b : Rat)⁻¹ := Rat.le_of_lt (Rat.inv_pos.mpr hc)
  rw [Rat.div_def]
  refine ⟨Rat.mul_nonneg ht hi, ?_⟩
  have := Rat.mul_le_mul_of_nonneg_right hl hi
  have e : (b : Rat) * (b : Rat)⁻¹ = 1 := Rat.mul_inv_cancel _ (Rat.ne_of_gt hc)
  rw [e] at this
  exact this
theorem mem_sum : ∀ {ws : List Int}, (∀ x ∈ ws, 0 ≤ x ∧ x ≤ 5) → ∀ y ∈ ws, y ≤ ws.sum
  | [], _, y, hy => by simp at hy
  | x :: r, h, y, hy => by
    have h1 := h x (List.mem_cons_self ..)
    have h2 := (sum_bound (ws := r) fun z hz => h z (List.mem_cons_of_mem _ hz)).1
    rw [List.sum_cons]
    rcases List.mem_cons.mp hy with z | z
    · omega
    · have := mem_sum (ws := r) (fun z hz => h z (List.mem_cons_of_mem _ hz)) y z
      omega
theorem mul_01 {p q : Rat} (hp : 0 ≤ p ∧ p ≤ 1) (hq : 0 ≤ q ∧ q ≤ 1) : 0 ≤ p * q ∧ p * q ≤ 1 := by
  refine ⟨Rat.mul_nonneg hp.1 hq.1, ?_⟩
  have := Rat.mul_le_mul_of_nonneg_right hp.2 hq.1
  have h2 := hq.2
  grind
theorem pow_01 {q : Rat} (hq : 0 ≤ q ∧ q ≤ 1) : ∀ k : Nat, 0 ≤ q ^ k ∧ q ^ k ≤ 1
  | 0 => by
    rw [Rat.pow_zero]
    exact ⟨by decide, Rat.le_refl⟩
  | k + 1 => by
    rw [Rat.pow_succ]
    exact mul_01 (pow_01 hq k) hq
theorem BaseLife.q01 {row : List RT} {step : RT} (h : BaseLife row step) : (∀ x ∈ row, 0 ≤ qv x ∧ qv x ≤ 1) ∧ 0 ≤ qv step ∧ qv step ≤ 1 := by
  have hs := h.sm
  refine ⟨fun x hx => ?_, div_01 hs.2.2.1 hs.2.1.1.1 (Int.le_of_lt hs.2.2.2)⟩
  rcases h with ⟨ws, extra, m, rfl⟩ | ⟨rfl, rfl⟩
  · obtain ⟨w0, _⟩ := m.whole
    unfold rowOf at hx
    obtain ⟨y, hy, rfl⟩ := List.mem_map.mp hx
    rw [qv_low2 w0]
    have h1 := (m.nn y hy).1
    have hd : 0 ≤ step.2 - step.1 := by
      have := hs.2.2.2
      omega
    refine div_01 (Int.mul_nonneg hd h1) w0 ?_
    have h2 := mem_sum m.nn y hy
    have h3 : (step.2 - step.1) * y ≤ (step.2 - step.1) * (ws.sum + extra) := Int.mul_le_mul_of_nonneg_left (by have := m.ex.1; omega) hd
    have h4 : 0 ≤ step.1 * lastW ws := Int.mul_nonneg hs.2.2.1 (Int.le_of_lt m.last)
    unfold wholeOf
    omega
  · simp at hx
theorem AnyLife.q01 {row : List RT} {step : RT} (h : AnyLife row step) : (∀ x ∈ row, 0 ≤ qv x ∧ qv x ≤ 1) ∧ 0 ≤ qv step ∧ qv step ≤ 1 := by
  rcases h with h | ⟨row0, l, h, h5, hs, hl, rfl⟩ | ⟨row0, h, h5, rfl, hs⟩
  · exact h.q01
  · obtain ⟨q1, q2⟩ := h.q01
    obtain ⟨s1, s2, _, _⟩ := h.sm
    refine ⟨fun x hx => ?_, q2⟩
    rcases List.mem_append.mp hx with z | z
    · exact q1 x z
    · rw [List.mem_singleton.mp z]
      have hm := List.mem_of_getElem? hl
      rw [(qv_rT (s1 l hm).1.1 s2.1).2]
      exact mul_01 (q1 l hm) q2
  · obtain ⟨q1, q2⟩ := h.q01
    refine ⟨fun x hx => ?_, ?_⟩
    · rcases List.mem_append.mp hx with z | z
      · exact q1 x z
      · rw [List.mem_singleton.mp z, qv_nought]
        exact ⟨Rat.le_refl, by decide⟩
    · rcases hs with rfl | rfl
      · exact div_01 (by decide) (by decide) (by decide)
      · exact div_01 (by decide) (by decide) (by decide)
theorem chR_01 {row : List RT} {step : RT} (h1 : ∀ x ∈ row, 0 ≤ qv x ∧ qv x ≤ 1) (h2 : 0 ≤ qv step ∧ qv step ≤ 1) (i : Nat) : 0 ≤ chR row step i ∧ chR row step i ≤ 1 := by
  match e : row[i]? with
  | some x =>
    rw [chR_in e]
    exact h1 x (List.mem_of_getElem? e)
  | none =>
    have hle : row.length ≤ i := List.getElem?_eq_none_iff.mp e
    match el : row.getLast? with
    | none =>
      rw [List.getLast?_eq_none_iff.mp el, chR_nil]
      exact ⟨Rat.le_refl, by decide⟩
    | some l =>
      rw [chR_out hle el]
      exact mul_01 (h1 l (List.mem_of_getLast? el)) (pow_01 h2 _)
theorem AnyLife.step4 {row : List RT} {step : RT} (h : AnyLife row step) : 0 < step.2 ∧ step.2 ≤ 4 := by
  have b : ∀ {row : List RT} {step : RT}, BaseLife row step → 0 < step.2 ∧ step.2 ≤ 4 := fun h => by
    rcases h with ⟨ws, extra, m, _⟩ | ⟨_, rfl⟩
    · rcases m.st with rfl | rfl | rfl | rfl | rfl <;> decide
    · decide
  rcases h with h | ⟨_, _, h, _⟩ | ⟨_, _, _, _, hs⟩
  · exact b h
  · exact b h
  · rcases hs with rfl | rfl <;> decide
theorem pow_four {x : Int} (h : 0 < x ∧ x ≤ 4) : ∀ k : Nat, 0 < x ^ k ∧ x ^ k ≤ 4 ^ k
  | 0 => by
    rw [Int.pow_zero, Int.pow_zero]
    decide
  | k + 1 => by
    obtain ⟨h1, h2⟩ := pow_four h k
    rw [Int.pow_succ, Int.pow_succ]
    exact ⟨Int.mul_pos h1 h.1, Int.mul_le_mul h2 h.2 (Int.le_of_lt h.1) (Int.le_of_lt (Int.lt_of_lt_of_le h1 h2))⟩
theorem AnyLife.ch01 {row : List RT} {step : RT} (h : AnyLife row step) : ∃ D : Int, Ch01 D (chR row step) 20 := by
  obtain ⟨W, hW⟩ := h.w
  obtain ⟨L, _, _⟩ := h.ok
  obtain ⟨q1, q2⟩ := h.q01
  have sm20 : Sm 41 (step.2 ^ 20) := by
    obtain ⟨z1, z2⟩ := pow_four h.step4 20
    have e : (4 : Int) ^ 20 = 1099511627776 := by decide
    have e2 : (2 : Nat) ^ 41 = 2199023255552 := by decide
    unfold Sm
    rw [e2]
    rw [e] at z2
    omega
  have hD : 0 < W * step.2 ^ 20 := Int.mul_pos hW.pos (Int.pow_pos L.st.1.1.1)
  refine ⟨W * step.2 ^ 20, hD, (hW.sm.mul (show Sm 41 (step.2 ^ 20) from sm20)).mono (by decide), fun k _ => (chR_01 q1 q2 k).1, fun k _ => (chR_01 q1 q2 k).2, fun k hk => ?_⟩
  obtain ⟨x, sx, vx⟩ := ch_ex L k
  rw [← vx]
  exact Den.of hD sx.1.1 (ch_dvdW hW.dvd L.sm L.st.1.1 sx.1 vx hk)

end Fp

set_option Elab.async false
set_option linter.all false
set_option maxRecDepth 100000
set_option maxHeartbeats 4000000
set_option exponentiation.threshold 10000
namespace Fp
open PySem PySem.Spec PyProof.Rows L2
/-! ### the law's own puts -/
abbrev N_lp : List Str := ["_law_life_here", "_law_most_here", "_law_some", "_law_n", "_law_here"]
def retScope (b : List Stmt) (d : Scope) : Scope := match b with
  | [_, .Return (some (.ListComp _ _ sc _)) _] => sc
  | _ => d
abbrev s_lm : Stmt := topS 50
theorem sc_lm : FnScope ["_law_feed_here", "_law_way"] ["_law_feed_here"] (defScope s_lm) := ⟨rfl, rfl, rfl, by decide +kernel, rfl, by decide +kernel, by decide +kernel⟩
section
variable {P : Program} {w : World} {K : PySem.W.Frag} {mg : Str → Option Value} {base : Heap}
def spLmost : Sp := fun vs H Q _ => ∃ (d c : Addr) (t : Int), vs = [.ref d] ∧ Feed H d c t ∧ t ≤ 800000 ∧ ∀ (r : Nat) H', r ≤ 20 → Keep d H H' → Feed H' d c (t + 1 + 1) → Q (.int (r : Int)) H'
theorem ok_lmost {f fD : Addr} {fd fdD : FuncData} (F : Fun K "_law_most" "_law_most" s_lm f fd) (FD : Fun K "_law_draw" "_law_draw" s_draw fD fdD) (bD : Binds K fdD ["_law_feed_here", "_law_many"] []) (gD : mg "_law_draw" = some (.ref fD))
    (GD : FnOk P w K mg base CX0 1 fD fdD ["_law_feed_here", "_law_many"] spDraw) : FnOk P w K mg base CX0 2 f fd ["_law_feed_here"] spLmost := by
  refine F.ok sc_lm (fun vs H Q E h => ?_) (fun cdv A outer s H vs Q E hr h => ?_)
  · obtain ⟨_, _, _, rfl, _⟩ := h
    rfl
  · obtain ⟨d, c, t, rfl, f0, ht, q⟩ := h
    refine ⟨_, (pss_cons (ps_set (i := 1) sc_lm.nd rfl (.inl rfl) (pe_call GD hr (by rfl) gD FD.kp bD .nil pass0 (pa_cons (pv 0) (pa_cons pe_int pa_nil)))) (pss_one (ps_ret (pe_ifExp (pt_cmpR op_gt (pv 1) pe_int (nomark _)) (pe_call GD hr (by rfl) gD FD.kp bD .nil pass0 (pa_cons (pv 0) (pa_cons pe_int pa_nil))) (pe_op op_add pe_int (pe_call GD hr (by rfl) gD FD.kp bD .nil pass0 (pa_cons (pv 0) (pa_cons pe_int pa_nil)))))))), ?_⟩
    refine ⟨_, rfl, d, c, 8, t, rfl, f0, by omega, by decide, by decide, fun r1 H1 h10 h11 k1 f1 => ?_⟩
    refine ⟨_, rfl, r1, 0, rfl, rfl, _, rfl, ite2 (fun c1 => ?_) (fun c1 => ?_)⟩
    · refine ⟨_, rfl, d, c, 9, t + 1, rfl, f1, by omega, by decide, by decide, fun r2 H2 h20 h21 k2 f2 => ?_⟩
      have := q r2.toNat H2 (by omega) (k1.trans k2) f2
      rw [Int.toNat_of_nonneg h20] at this
      exact this
    · refine ⟨_, rfl, d, c, 9, t + 1, rfl, f1, by omega, by decide, by decide, fun r2 H2 h20 h21 k2 f2 => ?_⟩
      refine ⟨12, r2, rfl, rfl, ?_⟩
      have := q (12 + r2).toNat H2 (by omega) (k1.trans k2) f2
      rw [Int.toNat_of_nonneg (by omega)] at this
      exact this
def spLputs (K : PySem.W.Frag) : Sp := fun vs H Q _ => ∃ (p : Addr) (row : List RT) (step : RT) (n most : Nat) (D : Int), vs = [.ref p, .int (most : Int)] ∧ LifeAt K H p row step ∧ LifeOk n row step ∧ (row = [] → step = (0, 1)) ∧ Ch01 D (chR row step) 20 ∧ most ≤ 20 ∧
  ∀ z H', Same H H' → LsM K H' z (mkL (most + 1) (putQ row step)) → Q (.ref z) H'
theorem mkL_succ {i : Nat} {g : Nat → Rat} : mkL (i + 1) g = mkL i g ++ [rdq (g i)] := by
  unfold mkL
  rw [List.range_succ, List.map_append]
  rfl
theorem mkL_sum {n : Nat} {g : Nat → Rat} : ((mkL n g).map qv).sum = sumTo n g := by
  induction n with
  | zero => rfl
  | succ n ih =>
    rw [mkL_succ, List.map_append, sumTo_succ, ← ih]
    simp only [List.map_cons, List.map_nil]
    rw [sum_snoc, qv_rdq]
end

end Fp

set_option Elab.async false
set_option linter.all false
set_option maxRecDepth 100000
set_option maxHeartbeats 4000000
set_option exponentiation.threshold 10000
namespace Fp
open PySem PySem.Spec PyProof.Rows L2
/-! ### what is told anew is what is told times the puts -/
theorem tri_swap (f : Nat → Nat → Rat) : ∀ n, sumTo n (fun k => sumTo (n - k) (f k)) = sumTo n fun j => sumTo (n - j) fun k => f k j := by
  have key : ∀ (g : Nat → Nat → Rat) (n : Nat), sumTo (n + 1) (fun k => sumTo (n + 1 - k) (g k)) = sumTo n (fun k => sumTo (n - k) (g k)) + sumTo (n + 1) fun k => g k (n - k) := by
    intro g n
    rw [sumTo_succ, sumTo_succ (f := fun k => g k (n - k))]
    have e1 : sumTo n (fun k => sumTo (n + 1 - k) (g k)) = sumTo n (fun k => sumTo (n - k) (g k)) + sumTo n fun k => g k (n - k) := by
      rw [← sumTo_add]
      refine sumTo_congr fun k hk => ?_
      rw [show n + 1 - k = (n - k) + 1 by omega, sumTo_succ]
    have e2 : sumTo (n + 1 - n) (g n) = g n (n - n) := by
      rw [show n + 1 - n = 0 + 1 by omega, sumTo_succ, sumTo_zero, Nat.sub_self]
      grind
    rw [e1, e2]
    grind
  intro n
  induction n with
  | zero => rfl
  | succ n ih =>
    rw [key f n, key (fun j k => f k j) n, ih]
    congr 1
    have := sumTo_rev (n + 1) fun k => f k (n - k)
    rw [← this]
    refine sumTo_congr fun k hk => ?_
    rw [show n - (n + 1 - 1 - k) = k by omega, show n + 1 - 1 - k = n - k by omega]
theorem conv (a b : Nat → Rat) : ∀ n, renQ a b n = sumTo (n + 1) fun k => b k * renQ a oneAt (n - k) := by
  intro n
  induction n using Nat.strongRecOn with
  | ind n ih =>
    have p0 : renQ a oneAt 0 = 1 := by
      rw [renQ_is, sumTo_zero]
      show (1 : Rat) + 0 = 1
      grind
    rw [renQ_is a b n, sumTo_succ, Nat.sub_self, p0]
    have e : sumTo n (fun k => b k * renQ a oneAt (n - k)) = sumTo n fun k => sumTo (n - k) fun j => a j * (b k * renQ a oneAt (n - k - 1 - j)) := by
      refine sumTo_congr fun k hk => ?_
      rw [renQ_is a oneAt (n - k)]
      have : oneAt (n - k) = 0 := if_neg (by omega)
      rw [this]
      have e2 : sumTo (n - k) (fun j => a j * (b k * renQ a oneAt (n - k - 1 - j))) = b k * sumTo (n - k) fun j => a j * renQ a oneAt (n - k - 1 - j) := by
        rw [sumTo_mul]
        refine sumTo_congr fun j _ => ?_
        grind
      rw [e2]
      grind
    rw [e, tri_swap fun k j => a j * (b k * renQ a oneAt (n - k - 1 - j))]
    have e3 : (sumTo n fun j => sumTo (n - j) fun k => a j * (b k * renQ a oneAt (n - k - 1 - j))) = sumTo n fun j => a j * renQ a b (n - 1 - j) := by
      refine sumTo_congr fun j hj => ?_
      rw [← sumTo_mul, ih (n - 1 - j) (by omega), show n - 1 - j + 1 = n - j by omega]
      congr 1
      refine sumTo_congr fun k hk => ?_
      rw [show n - 1 - j - k = n - k - 1 - j by omega]
    rw [e3]
    grind
/-- told one beat later -/
def laterF (c : Nat → Rat) : Nat → Rat
  | 0 => 0
  | k + 1 => c k
theorem conv_later (a c : Nat → Rat) (n : Nat) : renQ a (laterF c) n = sumTo n fun k => c k * renQ a oneAt (n - 1 - k) := by
  rw [conv, sumTo_head]
  have e : (sumTo n fun j => laterF c (j + 1) * renQ a oneAt (n - (j + 1))) = sumTo n fun k => c k * renQ a oneAt (n - 1 - k) := by
    refine sumTo_congr fun k hk => ?_
    rw [show n - (k + 1) = n - 1 - k by omega]
    rfl
  rw [e]
  show (0 : Rat) * _ + _ = _
  grind

end Fp

set_option Elab.async false
set_option linter.all false
set_option maxRecDepth 100000
set_option maxHeartbeats 4000000
set_option exponentiation.threshold 10000
namespace Fp
open PySem PySem.Spec PyProof.Rows L2
/-! ### how great puts are -/
/-- a whole number over P -/
def Ov (P : Int) (q : Rat) : Prop := ∃ T : Int, q = (T : Rat) / (P : Rat)
theorem Ov.red {P : Int} {q : Rat} {s k : Nat} (hP : 0 < P) (h : Ov P q) (sP : Sm s P) (h0 : 0 ≤ q) (h1 : q ≤ 2 ^ k) : (rdq q).2 ∣ P ∧ Sm (s + k + 1) (rdq q).1 ∧ Sm s (rdq q).2 := by
  obtain ⟨T, hT⟩ := h
  have hc := cast_ne (Int.ne_of_gt hP)
  obtain ⟨r1, r2⟩ := red_small (rdq_red q) hP (by rw [qv_rdq]; exact hT)
  refine ⟨r1, ?_, dvd_small r1 hP sP⟩
  have hcp : (0 : Rat) < (P : Rat) := Rat.intCast_pos.mpr hP
  have e1 : (T : Rat) = q * (P : Rat) := by
    rw [hT]
    grind
  have t0 : 0 ≤ T := by
    have := Rat.mul_nonneg h0 (Rat.le_of_lt hcp)
    rw [← e1] at this
    exact Rat.intCast_nonneg.mp this
  have t1 : T ≤ 2 ^ k * P := by
    have := Rat.mul_le_mul_of_nonneg_right h1 (Rat.le_of_lt hcp)
    rw [← e1] at this
    have e2 : (2 : Rat) ^ k * (P : Rat) = ((2 ^ k * P : Int) : Rat) := by
      rw [Rat.intCast_mul, cast_pow 2 k]
      rfl
    rw [e2] at this
    exact Rat.intCast_le_intCast.mp this
  unfold Sm at *
  have t2 : T.natAbs ≤ 2 ^ k * P.natAbs := by
    have : (2 ^ k * P : Int).natAbs = 2 ^ k * P.natAbs := by
      rw [Int.natAbs_mul, Int.natAbs_pow]
      rfl
    omega
  have t3 : 2 ^ k * P.natAbs ≤ 2 ^ k * 2 ^ s := Nat.mul_le_mul_left _ (Nat.le_of_lt sP)
  have t4 : 2 ^ (s + k + 1) = 2 * (2 ^ k * 2 ^ s) := by
    rw [Nat.pow_succ, Nat.pow_add, Nat.mul_comm, Nat.mul_comm (2 ^ s)]
  have t5 : 0 < 2 ^ k * 2 ^ s := Nat.mul_pos (Nat.pow_pos (by decide)) (Nat.pow_pos (by decide))
  omega
theorem Ov.zero {P : Int} : Ov P 0 := ⟨0, by
  show (0 : Rat) = ((0 : Int) : Rat) / _
  rw [show ((0 : Int) : Rat) = 0 from rfl]
  grind⟩
theorem Ov.add {P : Int} {p q : Rat} (hP : 0 < P) (hp : Ov P p) (hq : Ov P q) : Ov P (p + q) := by
  obtain ⟨T, rfl⟩ := hp
  obtain ⟨S, rfl⟩ := hq
  refine ⟨T + S, ?_⟩
  have h2 := cast_ne (Int.ne_of_gt hP)
  rw [Rat.intCast_add]
  grind
theorem Ov.sum {P : Int} (hP : 0 < P) {n : Nat} {g : Nat → Rat} (h : ∀ j, j < n → Ov P (g j)) : Ov P (sumTo n g) := by
  induction n with
  | zero => exact Ov.zero
  | succ n ih =>
    rw [sumTo_succ]
    exact (ih fun j hj => h j (by omega)).add hP (h n (by omega))
theorem Den.ov {D : Int} {e : Nat} {q : Rat} (h : Den D e q) : Ov (D ^ e) q := h
theorem Ov.mul {P R : Int} {p q : Rat} (hP : 0 < P) (hR : 0 < R) (hp : Ov P p) (hq : Ov R q) : Ov (P * R) (p * q) := by
  obtain ⟨T, rfl⟩ := hp
  obtain ⟨S, rfl⟩ := hq
  refine ⟨T * S, ?_⟩
  have h1 := cast_ne (Int.ne_of_gt hP)
  have h2 := cast_ne (Int.ne_of_gt hR)
  rw [Rat.intCast_mul, Rat.intCast_mul]
  grind
section
variable {D : Int} {a : Nat → Rat} {M : Nat}
/-- puts: from nought to a power of two, over a power of the one number -/
theorem Ch01.put (h : Ch01 D a M) : ∀ n, n ≤ M → 0 ≤ renQ a oneAt n ∧ renQ a oneAt n ≤ 2 ^ n ∧ Den D n (renQ a oneAt n) := by
  have pp : ∀ m : Nat, (0 : Rat) < 2 ^ m := fun m => Rat.pow_pos (by decide)
  intro n
  induction n using Nat.strongRecOn with
  | ind n ih =>
    intro hn
    cases n with
    | zero =>
      have e : renQ a oneAt 0 = 1 := by
        rw [renQ_is, sumTo_zero]
        show (1 : Rat) + 0 = 1
        grind
      rw [e, Rat.pow_zero]
      refine ⟨by decide, Rat.le_refl, 1, ?_⟩
      rw [Int.pow_zero]
      grind
    | succ n =>
      have e : renQ a oneAt (n + 1) = sumTo (n + 1) fun j => a j * renQ a oneAt (n + 1 - 1 - j) := by
        rw [renQ_is]
        show (0 : Rat) + _ = _
        grind
      rw [e]
      refine ⟨?_, ?_, Den.sum h.pos fun j hj => ?_⟩
      · have := sumTo_le (n := n + 1) (f := fun _ => 0) (g := fun j => a j * renQ a oneAt (n + 1 - 1 - j)) fun j hj => Rat.mul_nonneg (h.ge j (by omega)) (ih (n + 1 - 1 - j) (by omega) (by omega)).1
        rw [sumTo_nought] at this
        exact this
      · have h2 : sumTo (n + 1) (fun j => a j * renQ a oneAt (n + 1 - 1 - j)) ≤ sumTo (n + 1) fun j => (2 : Rat) ^ (n + 1 - 1 - j) := sumTo_le fun j hj => by
          obtain ⟨i1, i2, _⟩ := ih (n + 1 - 1 - j) (by omega) (by omega)
          have h3 := Rat.mul_le_mul_of_nonneg_right (h.le j (by omega)) i1
          grind
        rw [sumTo_rev (n + 1) fun k => (2 : Rat) ^ k, two_sum] at h2
        grind
      · have := (h.den j (by omega)).mul h.pos (ih (n + 1 - 1 - j) (by omega) (by omega)).2.2
        exact this.mono h.pos (by omega)
end
/-- behind a first: over the product, from nought to a power of two -/
theorem after_ok {D D2 : Int} {a c : Nat → Rat} (h : Ch01 D a 20) (h2 : Ch01 D2 c 20) {n : Nat} (hn : n ≤ 20) : 0 ≤ renQ a (laterF c) n ∧ renQ a (laterF c) n ≤ 2 ^ n ∧ Ov (D2 * D ^ 20) (renQ a (laterF c) n) := by
  rw [conv_later]
  have hP : (0 : Int) < D ^ 20 := Int.pow_pos h.pos
  refine ⟨?_, ?_, Ov.sum (Int.mul_pos h2.pos hP) fun j hj => ?_⟩
  · have := sumTo_le (n := n) (f := fun _ => 0) (g := fun k => c k * renQ a oneAt (n - 1 - k)) fun j hj => Rat.mul_nonneg (h2.ge j (by omega)) (h.put (n - 1 - j) (by omega)).1
    rw [sumTo_nought] at this
    exact this
  · have h3 : sumTo n (fun k => c k * renQ a oneAt (n - 1 - k)) ≤ sumTo n fun j => (2 : Rat) ^ (n - 1 - j) := sumTo_le fun j hj => by
      obtain ⟨i1, i2, _⟩ := h.put (n - 1 - j) (by omega)
      have h4 := Rat.mul_le_mul_of_nonneg_right (h2.le j (by omega)) i1
      grind
    rw [sumTo_rev n fun k => (2 : Rat) ^ k, two_sum] at h3
    grind
  · have e1 := (h2.den j (by omega)).ov
    rw [Int.pow_succ, Int.pow_zero, Int.one_mul] at e1
    exact e1.mul h2.pos hP ((h.put (n - 1 - j) (by omega)).2.2.mono h.pos (show n - 1 - j ≤ 20 by omega)).ov
theorem cutV_from1 (vs : List V) : cutV vs (some 1) none = vs.drop 1 := by
  unfold cutV
  rw [HT.sIx_none, show (1 : Int) = ((1 : Nat) : Int) from rfl, HT.sIx_nat]
  rcases (by omega : 1 ≤ vs.length ∨ vs.length = 0) with z | z
  · rw [Nat.min_eq_left z, List.take_of_length_le (by rw [List.length_drop]; exact Nat.le_refl _)]
  · rw [List.length_eq_zero_iff.mp z]
    rfl

end Fp

set_option Elab.async false
set_option linter.all false
set_option maxRecDepth 100000
set_option maxHeartbeats 4000000
set_option exponentiation.threshold 10000
namespace Fp
open PySem PySem.Spec PyProof.Rows L2
/-! ### values with their size -/
/-- a whole number over P, within the k-th power of two -/
structure Sz (P : Int) (k : Nat) (q : Rat) : Prop where
  ov : Ov P q
  lo : -((2 : Rat) ^ k) ≤ q
  hi : q ≤ (2 : Rat) ^ k
theorem two_pos (k : Nat) : (0 : Rat) < (2 : Rat) ^ k := Rat.pow_pos (by decide)
theorem Sz.pos {P : Int} {k : Nat} {q : Rat} (h : Ov P q) (h0 : 0 ≤ q) (h1 : q ≤ (2 : Rat) ^ k) : Sz P k q := ⟨h, by have := two_pos k; grind, h1⟩
theorem Sz.mono {P : Int} {k j : Nat} {q : Rat} (h : Sz P k q) (l : k ≤ j) : Sz P j q := by
  have e := pow2_le l
  have h1 := h.lo
  have h2 := h.hi
  exact ⟨h.ov, by grind, by grind⟩
theorem Sz.neg {P : Int} {k : Nat} {q : Rat} (h : Sz P k q) : Sz P k (-q) := by
  obtain ⟨⟨T, hT⟩, h1, h2⟩ := h
  refine ⟨⟨-T, ?_⟩, by grind, by grind⟩
  rw [hT, Rat.intCast_neg]
  grind
theorem Sz.add {P : Int} {k : Nat} {p q : Rat} (hP : 0 < P) (h1 : Sz P k p) (h2 : Sz P k q) : Sz P (k + 1) (p + q) := by
  have a1 := h1.lo
  have a2 := h1.hi
  have b1 := h2.lo
  have b2 := h2.hi
  refine ⟨h1.ov.add hP h2.ov, ?_, ?_⟩ <;> (rw [Rat.pow_succ]; grind)
theorem Sz.mul {P R : Int} {k j : Nat} {p q : Rat} (hP : 0 < P) (hR : 0 < R) (h1 : Sz P k p) (h2 : Sz R j q) : Sz (P * R) (k + j) (p * q) := by
  have a1 : 0 ≤ (2 : Rat) ^ k + p := by have := h1.lo; grind
  have a2 : 0 ≤ (2 : Rat) ^ k - p := by have := h1.hi; grind
  have b1 : 0 ≤ (2 : Rat) ^ j + q := by have := h2.lo; grind
  have b2 : 0 ≤ (2 : Rat) ^ j - q := by have := h2.hi; grind
  have x1 := Rat.mul_nonneg a1 b1
  have x2 := Rat.mul_nonneg a1 b2
  have x3 := Rat.mul_nonneg a2 b1
  have x4 := Rat.mul_nonneg a2 b2
  refine ⟨h1.ov.mul hP hR h2.ov, ?_, ?_⟩ <;> (rw [pow_plus]; grind)
theorem Ov.dvd {P R : Int} {q : Rat} (h : Ov P q) (hP : 0 < P) (hR : 0 < R) (d : P ∣ R) : Ov R q := by
  obtain ⟨T, rfl⟩ := h
  obtain ⟨u, rfl⟩ := d
  refine ⟨T * u, ?_⟩
  have h1 := cast_ne (Int.ne_of_gt hP)
  have h2 := cast_ne (Int.ne_of_gt hR)
  rw [Rat.intCast_mul] at h2
  rw [Rat.intCast_mul, Rat.intCast_mul]
  grind
theorem Sz.dvd {P R : Int} {k : Nat} {q : Rat} (h : Sz P k q) (hP : 0 < P) (hR : 0 < R) (d : P ∣ R) : Sz R k q := ⟨h.ov.dvd hP hR d, h.lo, h.hi⟩
theorem Sz.sum {P : Int} {k n : Nat} {g : Nat → Rat} (hP : 0 < P) (h : ∀ j, j < n → Sz P k (g j)) (hn : n ≤ 128) : Sz P (k + 7) (sumTo n g) := by
  have key : ∀ m : Nat, m ≤ n → -(((m : Int) : Rat) * (2 : Rat) ^ k) ≤ sumTo m g ∧ sumTo m g ≤ ((m : Int) : Rat) * (2 : Rat) ^ k := by
    intro m
    induction m with
    | zero =>
      intro _
      rw [sumTo_zero, show (((0 : Nat) : Int) : Rat) = 0 from rfl]
      constructor <;> grind
    | succ m ih =>
      intro hm
      obtain ⟨i1, i2⟩ := ih (by omega)
      have z := h m (by omega)
      have z1 := z.lo
      have z2 := z.hi
      rw [sumTo_succ, show ((m + 1 : Nat) : Int) = (m : Int) + 1 by omega, Rat.intCast_add]
      rw [show ((1 : Int) : Rat) = 1 from rfl]
      constructor <;> grind
  obtain ⟨k1, k2⟩ := key n (Nat.le_refl _)
  have e : ((n : Int) : Rat) * (2 : Rat) ^ k ≤ (2 : Rat) ^ (k + 7) := by
    rw [pow_plus]
    have l : ((n : Int) : Rat) ≤ ((128 : Int) : Rat) := Rat.intCast_le_intCast.mpr (by omega)
    have := Rat.mul_le_mul_of_nonneg_right l (Rat.le_of_lt (two_pos k))
    have e2 : (2 : Rat) ^ 7 = ((128 : Int) : Rat) := by decide +kernel
    rw [e2]
    grind
  exact ⟨Ov.sum hP fun j hj => (h j hj).ov, by grind, by grind⟩
theorem Sz.red {P : Int} {q : Rat} {s k : Nat} (h : Sz P k q) (hP : 0 < P) (sP : Sm s P) : (rdq q).2 ∣ P ∧ Sm (s + k + 1) (rdq q).1 ∧ Sm s (rdq q).2 := by
  obtain ⟨⟨T, hT⟩, h0, h1⟩ := h
  have hc := cast_ne (Int.ne_of_gt hP)
  obtain ⟨r1, r2⟩ := red_small (rdq_red q) hP (by rw [qv_rdq]; exact hT)
  refine ⟨r1, ?_, dvd_small r1 hP sP⟩
  have hcp : (0 : Rat) < (P : Rat) := Rat.intCast_pos.mpr hP
  have e1 : (T : Rat) = q * (P : Rat) := by
    rw [hT]
    grind
  have e2 : (2 : Rat) ^ k * (P : Rat) = ((2 ^ k * P : Int) : Rat) := by
    rw [Rat.intCast_mul, cast_pow 2 k]
    rfl
  have t1 : T ≤ 2 ^ k * P := by
    have := Rat.mul_le_mul_of_nonneg_right h1 (Rat.le_of_lt hcp)
    rw [← e1, e2] at this
    exact Rat.intCast_le_intCast.mp this
  have t0 : -(2 ^ k * P) ≤ T := by
    have := Rat.mul_le_mul_of_nonneg_right h0 (Rat.le_of_lt hcp)
    rw [← e1] at this
    refine Rat.intCast_le_intCast.mp ?_
    rw [Rat.intCast_neg, ← e2]
    grind
  unfold Sm at *
  have t2 : T.natAbs ≤ 2 ^ k * P.natAbs := by
    have : (2 ^ k * P : Int).natAbs = 2 ^ k * P.natAbs := by
      rw [Int.natAbs_mul, Int.natAbs_pow]
      rfl
    omega
  have t3 : 2 ^ k * P.natAbs ≤ 2 ^ k * 2 ^ s := Nat.mul_le_mul_left _ (Nat.le_of_lt sP)
  have t4 : 2 ^ (s + k + 1) = 2 * (2 ^ k * 2 ^ s) := by
    rw [Nat.pow_succ, Nat.pow_add, Nat.mul_comm, Nat.mul_comm (2 ^ s)]
  have t5 : 0 < 2 ^ k * 2 ^ s := Nat.mul_pos (Nat.pow_pos (by decide)) (Nat.pow_pos (by decide))
  omega
theorem Sz.smr {P : Int} {q : Rat} {s k n : Nat} (h : Sz P k q) (hP : 0 < P) (sP : Sm s P) (hn : s + k + 1 ≤ n) : SmR n (rdq q) := by
  obtain ⟨_, h2, h3⟩ := h.red hP sP
  exact ⟨rdq_red _, h2.mono hn, h3.mono (by omega)⟩
/-- a put: its size -/
theorem Ch01.putSz {D : Int} {a : Nat → Rat} {M : Nat} (h : Ch01 D a M) {n e : Nat} (hn : n ≤ M) (he : n ≤ e) : Sz (D ^ e) n (renQ a oneAt n) := by
  obtain ⟨x1, x2, x3⟩ := h.put n hn
  exact Sz.pos (x3.mono h.pos he).ov x1 x2
theorem Ch01.chSz {D : Int} {a : Nat → Rat} {M : Nat} (h : Ch01 D a M) {n : Nat} (hn : n < M) : Sz D 0 (a n) := by
  refine Sz.pos ?_ (h.ge n hn) (by rw [Rat.pow_zero]; exact h.le n hn)
  have := (h.den n hn).ov
  rw [Int.pow_succ, Int.pow_zero, Int.one_mul] at this
  exact this
theorem Ch01.powSm {D : Int} {a : Nat → Rat} {M : Nat} (h : Ch01 D a M) (e : Nat) : 0 < D ^ e ∧ Sm (60 * e + 1) (D ^ e) := ⟨Int.pow_pos h.pos, sm_pow h.sm (by decide) e⟩
theorem Sz.nought {P : Int} {k : Nat} : Sz P k 0 := ⟨Ov.zero, by have := two_pos k; grind, by have := two_pos k; grind⟩
theorem Sz.one {k : Nat} {P : Int} (hP : 0 < P) : Sz P k 1 := by
  refine ⟨⟨P, ?_⟩, ?_, ?_⟩
  · have := cast_ne (Int.ne_of_gt hP)
    grind
  · have := two_pos k
    grind
  · have := pow2_le (Nat.zero_le k)
    rw [Rat.pow_zero] at this
    exact this
/-! ### lists told by value -/
theorem mem_mkL {n : Nat} {f : Nat → Rat} {x : RT} (h : x ∈ mkL n f) : ∃ j, j < n ∧ x = rdq (f j) := by
  obtain ⟨j, hj⟩ := List.mem_iff_getElem?.mp h
  have hj2 := (List.getElem?_eq_some_iff.mp hj).1
  rw [mkL_len] at hj2
  rw [mkL_at hj2] at hj
  exact ⟨j, hj2, (Option.some.inj hj).symm⟩
theorem over_mkL {P : Int} {n s k : Nat} {f : Nat → Rat} (hP : 0 < P) (sP : Sm s P) (z : ∀ j, j < n → Sz P k (f j)) (hn : n ≤ 1000) : Over1 (s + k + 1) s P (mkL n f) := by
  refine ⟨hP, sP, fun x hx => ?_, by rw [mkL_len]; exact hn⟩
  obtain ⟨j, hj, rfl⟩ := mem_mkL hx
  obtain ⟨h1, h2, h3⟩ := (z j hj).red hP sP
  exact ⟨(rdq_red _).1, h1, h2⟩
section
variable {K : PySem.W.Frag} {H : Hp} {Q : VK}
theorem tnil_go {σ : L2.St} {R : List V → Hp → Prop} (h : R [] H) : tNil σ H R := h
theorem lsum_go {p : Addr} {P : Int} {n s k : Nat} {f : Nat → Rat} (h : LsM K H p (mkL n f)) (hP : 0 < P) (sP : Sm s P) (z : ∀ j, j < n → Sz P k (f j)) (hn : n ≤ 1000) (hs : s ≤ 2500) (hk : k ≤ 900)
    (q : ∀ r H', Same H H' → RAt K H' r (rdq (sumTo n f)) → Q (.ref r) H') : spLsum K LstAt [.ref p] H Q E0 := by
  obtain ⟨rs, h1, h2⟩ := h
  refine ⟨p, _, _, _, P, rfl, ⟨rs, SqL.of h1, h2⟩, over_mkL hP sP z hn, by omega, by omega, fun y x HF sF hy rx vx _ _ => ?_⟩
  have ex : x = rdq (sumTo n f) := is_rdq rx (by rw [vx, mkL_sum])
  rw [ex] at hy
  exact q y HF sF hy
theorem lsumT_go {p : Addr} {P : Int} {n s k : Nat} {f : Nat → Rat} (h : RowAt K H p (mkL n f)) (hP : 0 < P) (sP : Sm s P) (z : ∀ j, j < n → Sz P k (f j)) (hn : n ≤ 1000) (hs : s ≤ 2500) (hk : k ≤ 900)
    (q : ∀ r H', Same H H' → RAt K H' r (rdq (sumTo n f)) → Q (.ref r) H') : spLsum K RowAt [.ref p] H Q E0 := by
  refine ⟨p, _, _, _, P, rfl, h, over_mkL hP sP z hn, by omega, by omega, fun y x HF sF hy rx vx _ _ => ?_⟩
  have ex : x = rdq (sumTo n f) := is_rdq rx (by rw [vx, mkL_sum])
  rw [ex] at hy
  exact q y HF sF hy
theorem times_go {p1 p2 : Addr} {x y : Rat} (h1 : RAt K H p1 (rdq x)) (h2 : RAt K H p2 (rdq y)) (s1 : SmR 3000 (rdq x)) (s2 : SmR 3000 (rdq y)) (q : ∀ r H', Same H H' → RAt K H' r (rdq (x * y)) → Q (.ref r) H') : spTwo K (fun a b c d => a * c) [.ref p1, .ref p2] H Q E0 := by
  refine ⟨p1, p2, _, _, _, _, rfl, ⟨h1, h2, s1.2.1, s1.2.2, s2.2.1, s2.2.2, s1.1.1, s2.1.1⟩, fun b nb => ?_⟩
  have e := same_new (o := HO.tup [.int (rT (rdq x) (rdq y)).1, .int (rT (rdq x) (rdq y)).2]) nb
  obtain ⟨y1, y2⟩ := qv_rT s1.1 s2.1
  have ep : rT (rdq x) (rdq y) = rdq (x * y) := is_rdq y1 (by rw [y2, qv_rdq, qv_rdq])
  refine q b _ e ?_
  rw [← ep]
  exact SqT.of upd_same
theorem minus_go {p1 p2 : Addr} {x y : Rat} (h1 : RAt K H p1 (rdq x)) (h2 : RAt K H p2 (rdq y)) (s1 : SmR 3000 (rdq x)) (s2 : SmR 3000 (rdq y)) (q : ∀ r H', Same H H' → RAt K H' r (rdq (x - y)) → Q (.ref r) H') : spTwo K (fun a b c d => a * d - c * b) [.ref p1, .ref p2] H Q E0 := by
  refine ⟨p1, p2, _, _, _, _, rfl, ⟨h1, h2, s1.2.1, s1.2.2, s2.2.1, s2.2.2, s1.1.1, s2.1.1⟩, fun b nb => ?_⟩
  have e := same_new (o := HO.tup [.int (rM (rdq x) (rdq y)).1, .int (rM (rdq x) (rdq y)).2]) nb
  obtain ⟨y1, y2⟩ := qv_rM s1.1 s2.1
  have ep : rM (rdq x) (rdq y) = rdq (x - y) := is_rdq y1 (by rw [y2, qv_rdq, qv_rdq])
  refine q b _ e ?_
  rw [← ep]
  exact SqT.of upd_same
/-- a tuple of a list -/
theorem RowAt.of_ls {p b : Addr} {xs : List RT} {rs : List Addr} (h1 : H p = some (.lst (rs.map V.ref))) (h2 : RsAt K H rs xs) (nb : H b = none) : RowAt K (upd H b (.tup (rs.map V.ref))) b xs := ⟨rs, SqT.of upd_same, h2.tk (Tk.same (same_new nb))⟩
/-- a wish of an object alone -/
@[reducible] def refQ (Qd : Addr → Hp → Prop) : VK := fun v H2 => match v with
  | .ref D => Qd D H2
  | _ => False
/-- a comprehension each turn of which gives a ratio told by its value -/
theorem lc_mkW {J : It} {n : Nat} {G : Hp → Prop} {Y : Nat → Hp → V → Hp → Prop} (w : Walk J n G Y) {g : TG} {te : TE} {vs : List Nat} {σ : L2.St} {H1 : Hp} (f : Nat → Rat) (hn : n ≤ 900) (hG : ∀ HE, Same H1 HE → G HE)
    (hs : ∀ (k : Nat) (x : V) (HE HE' : Hp) (R : VK), k < n → Same H1 HE → Y k HE x HE' → (∀ r HF, Same HE HF → RAt K HF r (rdq (f k)) → R (.ref r) HF) → g x (wipe σ vs) HE' fun σ2 H2 => wipe σ2 vs = wipe σ vs ∧ te σ2 H2 R)
    {Qd : Addr → Hp → Prop} (hd : ∀ D H2, Same H1 H2 → LsM K H2 D (mkL n f) → Qd D H2) : tLc (fun _ H2 R => R J H2) g tYes te vs σ H1 (refQ Qd) := by
  intro D nD
  have e1 := same_new (o := HO.lst []) nD
  refine lc_it w (fun k HE => ∃ qs : List Addr, Same H1 HE ∧ HE D = some (.lst (qs.map V.ref)) ∧ RsAt K HE qs (mkL k f)) ⟨[], e1, upd_same, .nil⟩ ?_ ?_ ?_
  · rintro i HE _ ⟨_, sE, _⟩
    exact hG HE sE
  · rintro k x HE HE' hk ⟨qs, sE, hE, hqs⟩ hY
    have hql := hqs.length
    rw [mkL_len] at hql
    refine hs k x HE HE' _ hk sE hY fun r HF sF hr => ?_
    have hE5 := sF _ _ hE
    refine ⟨_, hE5, by rw [List.length_map, hql]; exact small1000 (by omega), qs ++ [r], ?_, ?_, ?_⟩
    · intro b2 o hb2
      rw [upd_ne (ne_of_none hb2 nD)]
      exact (sE.trans sF) _ _ hb2
    · rw [upd_same, List.map_append]
      rfl
    · rw [mkL_succ]
      exact ((hqs.tk (Tk.same sF)).append (.cons hr .nil)).tk (tk_lst hE5)
  · rintro HE ⟨qs, sE, hE, hqs⟩
    exact hd D HE sE ⟨qs, hE, hqs⟩
theorem lc_mk {lo : Int} {n : Nat} {g : TG} {te : TE} {vs : List Nat} {σ : L2.St} {H1 : Hp} (f : Nat → Rat) (hn : n ≤ 900)
    (hs : ∀ (k : Nat) (HE : Hp) (R : VK), k < n → Same H1 HE → (∀ r HF, Same HE HF → RAt K HF r (rdq (f k)) → R (.ref r) HF) → g (.int (lo + k)) (wipe σ vs) HE fun σ2 H2 => wipe σ2 vs = wipe σ vs ∧ te σ2 H2 R)
    {Qd : Addr → Hp → Prop} (hd : ∀ D H2, Same H1 H2 → LsM K H2 D (mkL n f) → Qd D H2) : tLc (fun _ H2 R => R (Itr lo n) H2) g tYes te vs σ H1 (refQ Qd) := by
  refine lc_mkW walk_range f hn (fun _ _ => trivial) (fun k x HE HE' R hk sE hY q => ?_) hd
  obtain ⟨rfl, rfl⟩ := hY
  exact hs k _ R hk sE q
end

end Fp

set_option Elab.async false
set_option linter.all false
set_option maxRecDepth 100000
set_option maxHeartbeats 4000000
set_option exponentiation.threshold 10000
namespace Fp
open PySem PySem.Spec PyProof.Rows L2
/-! ### lists of ratios: parts, joined, cut -/
section
variable {K : PySem.W.Frag} {H H' : Hp}
theorem LsM.keep {d c p : Addr} {t : Int} {xs : List RT} (h : LsM K H p xs) (f : Feed H d c t) (k : Keep d H H') : LsM K H' p xs := by
  obtain ⟨rs, h1, h2⟩ := h
  exact ⟨rs, keep_at f k h1 (by intro _ z; cases z), h2.tk (Tk.keep f k)⟩
theorem LsM.ix {p : Addr} {xs : List RT} {m : Nat} {x : RT} {k : Int} {Q : VK} (h : LsM K H p xs) (hk : k = (m : Int)) (hm : xs[m]? = some x) (q : ∀ r, RAt K H r x → Q (.ref r) H) : rIxL K (.ref p) (.int k) H Q := by
  obtain ⟨rs, h1, h2⟩ := h
  obtain ⟨r, e1, e2⟩ := h2.get hm
  have g2 : (rs.map V.ref)[m]? = some (.ref r) := by
    rw [List.getElem?_map, e1]
    rfl
  exact ⟨p, _, _, _, rfl, rfl, SqL.of h1, at_of hk g2, q r e2⟩
/-- [x] * k -/
theorem rep_ls {p a : Addr} {x : RT} {k : Nat} {Q : VK} (h : H p = some (.lst [.ref a])) (ha : RAt K H a x) (hk : k ≤ 900) (q : ∀ r H', Same H H' → LsM K H' r (List.replicate k x) → Q (.ref r) H') : rRep (.ref p) (.int (k : Int)) H Q := by
  refine ⟨p, _, _, rfl, rfl, h, by omega, by omega, ?_, fun b nb => ?_⟩
  · rw [Int.toNat_natCast]
    show 1 * k ≤ sizeLine
    exact Nat.le_trans (show 1 * k ≤ 1000 by omega) (by decide)
  have ef : (List.replicate (k : Int).toNat [V.ref a]).flatten = (List.replicate k a).map V.ref := by
    rw [flat_rep, List.map_replicate, Int.toNat_natCast]
  rw [ef] at *
  have e := same_new (o := HO.lst ((List.replicate k a).map V.ref)) nb
  exact q b _ e ⟨_, upd_same, RsAt.rep (ha.tk (Tk.same e)) k⟩
theorem cat_ls {p r : Addr} {xs ys : List RT} {Q : VK} (h1 : LsM K H p xs) (h2 : LsM K H r ys) (hl : xs.length + ys.length ≤ 900) (q : ∀ b H', Same H H' → LsM K H' b (xs ++ ys) → Q (.ref b) H') : rCat (.ref p) (.ref r) H Q := by
  obtain ⟨as, a1, a2⟩ := h1
  obtain ⟨bs, b1, b2⟩ := h2
  have la := a2.length
  have lb := b2.length
  refine ⟨p, r, _, _, rfl, rfl, a1, b1, ?_, fun b nb => ?_⟩
  · rw [List.length_map, List.length_map, sizeLine_eq]
    omega
  have e := same_new (o := HO.lst (as.map V.ref ++ bs.map V.ref)) nb
  refine q b _ e ⟨as ++ bs, ?_, (a2.append b2).tk (Tk.same e)⟩
  rw [upd_same, List.map_append]
/-- xs[:n] of a list -/
theorem take_ls {p : Addr} {xs : List RT} {n : Nat} {Q : VK} (h : LsM K H p xs) (q : ∀ b H', Same H H' → LsM K H' b (xs.take n) → Q (.ref b) H') : rSlL K (.ref p) none (some (n : Int)) H Q := by
  obtain ⟨as, a1, a2⟩ := h
  refine ⟨p, _, rfl, SqL.of a1, fun b nb => ?_⟩
  rw [cutV_take]
  have e := same_new (o := HO.lst ((as.map V.ref).take n)) nb
  refine q b _ e ⟨as.take n, ?_, (a2.take n).tk (Tk.same e)⟩
  rw [upd_same, List.map_take]
/-- the same, and that it is new -/
theorem rep_ls2 {p a : Addr} {x : RT} {k : Nat} {Q : VK} (h : H p = some (.lst [.ref a])) (ha : RAt K H a x) (hk : k ≤ 900) (q : ∀ r H', Same H H' → H r = none → LsM K H' r (List.replicate k x) → Q (.ref r) H') : rRep (.ref p) (.int (k : Int)) H Q := by
  refine ⟨p, _, _, rfl, rfl, h, by omega, by omega, ?_, fun b nb => ?_⟩
  · rw [Int.toNat_natCast]
    show 1 * k ≤ sizeLine
    exact Nat.le_trans (show 1 * k ≤ 1000 by omega) (by decide)
  have ef : (List.replicate (k : Int).toNat [V.ref a]).flatten = (List.replicate k a).map V.ref := by
    rw [flat_rep, List.map_replicate, Int.toNat_natCast]
  rw [ef] at *
  have e := same_new (o := HO.lst ((List.replicate k a).map V.ref)) nb
  exact q b _ e nb ⟨_, upd_same, RsAt.rep (ha.tk (Tk.same e)) k⟩
/-- appending to a list that stands beside others -/
theorem LsM.push {p r : Addr} {xs : List RT} {x : RT} {rs : List Addr} (h1 : H p = some (.lst (rs.map V.ref))) (h2 : RsAt K H rs xs) (hr : RAt K H r x) : LsM K (upd H p (.lst (rs.map V.ref ++ [.ref r]))) p (xs ++ [x]) := by
  refine ⟨rs ++ [r], ?_, (h2.append (.cons hr .nil)).tk (tk_lst h1)⟩
  rw [upd_same, List.map_append]
  rfl
end
section
variable {K : PySem.W.Frag} {H : Hp}
theorem set_ls {p r : Addr} {xs : List RT} {x : RT} {m : Nat} {k : Int} {Q : Hp → Prop} (h : LsM K H p xs) (hr : RAt K H r x) (hk : k = (m : Int)) (hm : m < xs.length) (q : ∀ H', Tk K H H' → (∀ b, b ≠ p → H' b = H b) → LsM K H' p (xs.set m x) → Q H') : rSetL (.ref p) (.int k) (.ref r) H Q := by
  obtain ⟨rs, h1, h2⟩ := h
  have hl := h2.length
  refine ⟨p, _, _, m, rfl, rfl, h1, ?_, ?_⟩
  · subst hk
    unfold ixN
    rw [List.length_map, hl, if_pos (by omega), if_pos (by omega)]
    congr 1
  · refine q _ (tk_lst h1) (fun b hb => upd_ne hb) ⟨rs.set m r, ?_, (RsAt.set hr m h2).tk (tk_lst h1)⟩
    rw [upd_same, List.map_set]
end

end Fp

set_option Elab.async false
set_option linter.all false
set_option maxRecDepth 100000
set_option maxHeartbeats 4000000
set_option exponentiation.threshold 10000
namespace Fp
open PySem PySem.Spec PyProof.Rows L2
/-! ### lists of objects of one sort -/
def Obs {α : Type} (At : Hp → Addr → α → Prop) (H : Hp) (rs : List Addr) (ys : List α) : Prop := rs.length = ys.length ∧ ∀ (i : Nat) (r : Addr) (y : α), rs[i]? = some r → ys[i]? = some y → At H r y
/-- a sort of object that stands while tuples stand -/
def Stays {α : Type} (K : PySem.W.Frag) (At : Hp → Addr → α → Prop) : Prop := ∀ H H' r y, Tk K H H' → At H r y → At H' r y
section
variable {α : Type} {At : Hp → Addr → α → Prop} {K : PySem.W.Frag} {H H' : Hp}
theorem Obs.nil : Obs At H [] [] := ⟨rfl, fun i r y h => by simp at h⟩
theorem Obs.tk {rs : List Addr} {ys : List α} (st : Stays K At) (h : Obs At H rs ys) (e : Tk K H H') : Obs At H' rs ys := ⟨h.1, fun i r y h1 h2 => st _ _ _ _ e (h.2 i r y h1 h2)⟩
theorem Obs.append {rs qs : List Addr} {ys zs : List α} (h : Obs At H rs ys) (g : Obs At H qs zs) : Obs At H (rs ++ qs) (ys ++ zs) := by
  refine ⟨by rw [List.length_append, List.length_append, h.1, g.1], fun i r y h1 h2 => ?_⟩
  rcases Nat.lt_or_ge i rs.length with z | z
  · rw [List.getElem?_append_left z] at h1
    rw [List.getElem?_append_left (by rw [← h.1]; exact z)] at h2
    exact h.2 i r y h1 h2
  · rw [List.getElem?_append_right z] at h1
    rw [List.getElem?_append_right (by rw [← h.1]; exact z), ← h.1] at h2
    exact g.2 _ r y h1 h2
theorem Obs.one {r : Addr} {y : α} (h : At H r y) : Obs At H [r] [y] := by
  refine ⟨rfl, fun i q z h1 h2 => ?_⟩
  match i, h1, h2 with
  | 0, h1, h2 =>
    cases Option.some.inj h1
    cases Option.some.inj h2
    exact h
theorem Obs.get {rs : List Addr} {ys : List α} {i : Nat} {y : α} (h : Obs At H rs ys) (e : ys[i]? = some y) : ∃ r, rs[i]? = some r ∧ At H r y := by
  have hi := (List.getElem?_eq_some_iff.mp e).1
  rw [← h.1] at hi
  exact ⟨rs[i], List.getElem?_eq_getElem hi, h.2 i _ y (List.getElem?_eq_getElem hi) e⟩
/-- a list that may be changed, of such objects -/
def OLs (At : Hp → Addr → α → Prop) (H : Hp) (p : Addr) (ys : List α) : Prop := ∃ rs : List Addr, H p = some (.lst (rs.map V.ref)) ∧ Obs At H rs ys
theorem OLs.same {p : Addr} {ys : List α} (st : Stays K At) (h : OLs At H p ys) (e : Same H H') : OLs At H' p ys := by
  obtain ⟨rs, h1, h2⟩ := h
  exact ⟨rs, e _ _ h1, h2.tk st (Tk.same e)⟩
/-- a comprehension each turn of which gives such an object -/
theorem lc_obsW (st : Stays K At) {J : It} {n : Nat} {G : Hp → Prop} {Y : Nat → Hp → V → Hp → Prop} (w : Walk J n G Y) {g : TG} {te : TE} {vs : List Nat} {σ : L2.St} {H1 : Hp} (f : List α) (hf : f.length = n) (hn : n ≤ 900) (hG : ∀ HE, Same H1 HE → G HE)
    (hs : ∀ (k : Nat) (y : α) (x : V) (HE HE' : Hp) (R : VK), f[k]? = some y → Same H1 HE → Y k HE x HE' → (∀ r HF, Same HE HF → At HF r y → R (.ref r) HF) → g x (wipe σ vs) HE' fun σ2 H2 => wipe σ2 vs = wipe σ vs ∧ te σ2 H2 R)
    {Qd : Addr → Hp → Prop} (hd : ∀ D H2, Same H1 H2 → OLs At H2 D f → Qd D H2) : tLc (fun _ H2 R => R J H2) g tYes te vs σ H1 (refQ Qd) := by
  intro D nD
  have e1 := same_new (o := HO.lst []) nD
  refine lc_it w (fun k HE => ∃ qs : List Addr, Same H1 HE ∧ HE D = some (.lst (qs.map V.ref)) ∧ Obs At HE qs (f.take k)) ⟨[], e1, upd_same, Obs.nil⟩ ?_ ?_ ?_
  · rintro i HE _ ⟨_, sE, _⟩
    exact hG HE sE
  · rintro k x HE HE' hk ⟨qs, sE, hE, hqs⟩ hY
    have hql := hqs.1
    rw [List.length_take] at hql
    obtain ⟨y, hy⟩ : ∃ y, f[k]? = some y := ⟨f[k], List.getElem?_eq_getElem (by omega)⟩
    refine hs k y x HE HE' _ hy sE hY fun r HF sF hr => ?_
    have hE5 := sF _ _ hE
    refine ⟨_, hE5, by rw [List.length_map, hql]; exact small1000 (by omega), qs ++ [r], ?_, ?_, ?_⟩
    · intro b2 o hb2
      rw [upd_ne (ne_of_none hb2 nD)]
      exact (sE.trans sF) _ _ hb2
    · rw [upd_same, List.map_append]
      rfl
    · rw [List.take_add_one, hy]
      exact ((hqs.tk st (Tk.same sF)).append (Obs.one hr)).tk st (tk_lst hE5)
  · rintro HE ⟨qs, sE, hE, hqs⟩
    rw [List.take_of_length_le (by omega)] at hqs
    exact hd D HE sE ⟨qs, hE, hqs⟩
end
section
variable {K : PySem.W.Frag} {H : Hp} {Q : VK}
theorem cat_ints {p q : Addr} {xs ys : List Int} (a1 : SqT K H p (xs.map V.int)) (b1 : SqT K H q (ys.map V.int)) (hl : xs.length + ys.length ≤ 1000) (h : ∀ r H', Same H H' → SqT K H' r ((xs ++ ys).map V.int) → Q (.ref r) H') : rCatA K (.ref p) (.ref q) H Q := by
  refine ⟨p, q, _, _, rfl, rfl, a1, b1, ?_, fun z => ?_, fun _ z => ?_, fun _ _ r nr => ?_⟩
  · rw [List.length_map, List.length_map, sizeLine_eq]
    omega
  · have e : xs = [] := List.map_eq_nil_iff.mp z
    subst e
    exact h q H (Same.refl H) b1
  · have e : ys = [] := List.map_eq_nil_iff.mp z
    subst e
    refine h p H (Same.refl H) ?_
    rw [List.append_nil]
    exact a1
  · have s := same_new (o := HO.tup (xs.map V.int ++ ys.map V.int)) nr
    refine h r _ s ?_
    rw [List.map_append]
    exact SqT.of upd_same
end

end Fp

set_option Elab.async false
set_option linter.all false
set_option maxRecDepth 100000
set_option maxHeartbeats 4000000
set_option exponentiation.threshold 10000
namespace Fp
open PySem PySem.Spec PyProof.Rows L2
/-! ### what laws share -/
theorem mkL_rowD_sh {n : Nat} {g : Nat → Rat} (hn : n ≤ 21) (h : ∀ m, m < n → SmR 1900 (rdq (g m))) : Shows (.tuple (rowD (mkL n g))) := by
  refine (Shs.row (n := 1900) (by decide) (xs := mkL n g) fun x hx => ?_).tup.shows (by rw [mkL_len]; omega) (by decide)
  obtain ⟨j, hj⟩ := List.mem_iff_getElem?.mp hx
  have hj2 := (List.getElem?_eq_some_iff.mp hj).1
  rw [mkL_len] at hj2
  rw [mkL_at hj2] at hj
  cases Option.some.inj hj
  exact h j hj2
section
variable {P : Program} {w : World} {K : PySem.W.Frag} {mg : Str → Option Value} {base : Heap}
theorem drop1_row {H : Hp} {p : Addr} {xs : List RT} {Q : VK} (h : RowAt K H p xs) (hl : 1 ≤ xs.length) (hq : ∀ r H', Same H H' → RowAt K H' r (xs.drop 1) → Q (.ref r) H') : rSlA K (.ref p) (some 1) none H Q := by
  obtain ⟨rs, h1, h2⟩ := h
  have hl2 := h2.length
  refine ⟨p, _, rfl, h1, fun z => ?_, fun _ r nr => ?_⟩
  · have z1 := z.1
    rw [show (1 : Int) = ((1 : Nat) : Int) from rfl, HT.sIx_nat, List.length_map] at z1
    omega
  · rw [cutV_from1]
    have s := same_new (o := HO.tup ((rs.map V.ref).drop 1)) nr
    refine hq r _ s ⟨rs.drop 1, ?_, (h2.drop 1).tk (Tk.same s)⟩
    rw [List.map_drop]
    exact SqT.of upd_same
theorem noPart_go {σ : L2.St} {H : Hp} {k : Option Int → Hp → Prop} (h : k none H) : tNoPart σ H k := h
def spLaw (K : PySem.W.Frag) : Sp := fun vs H Q _ => ∃ (a : Addr) (ns : List Int), vs = [.ref a] ∧ SqL K H a (ns.map V.int) ∧ ∀ H', Q (.bl true) H'
end

end Fp

set_option Elab.async false
set_option linter.all false
set_option maxRecDepth 100000
set_option maxHeartbeats 4000000
set_option exponentiation.threshold 10000
namespace Fp
open PySem PySem.Spec PyProof.Rows L2
/-! ### renewed, by values -/
theorem IsCh.told {row : List RT} {step : RT} {n most : Nat} {chs : List RT} (h : IsCh row step n most chs) : chs = mkL most (chR row step) := by
  refine List.ext_getElem (by rw [mkL_len, h.len]) fun m h1 h2 => ?_
  have hm : m < most := by
    rw [mkL_len] at h2
    exact h2
  have e := mkL_at (g := chR row step) hm
  rw [List.getElem?_eq_getElem h2] at e
  rw [Option.some.inj e]
  obtain ⟨o1, o2⟩ := h.ok m _ (List.getElem?_eq_getElem h1)
  exact is_rdq o1.1 o2
theorem qa_mkL {n j : Nat} {g : Nat → Rat} (h : j < n) : qa (mkL n g) j = g j := by rw [qa_at (mkL_at h), qv_rdq]
theorem mkL_cons {n : Nat} {c : Nat → Rat} : mkL (n + 1) (laterF c) = (0, 1) :: mkL n c := by
  unfold mkL
  rw [List.range_succ_eq_map, List.map_cons, List.map_map]
  show rdq 0 :: _ = _
  rw [rdq_zero.mpr rfl]
  rfl
theorem mkL_drop {n : Nat} {g : Nat → Rat} : (mkL (n + 1) g).drop 1 = mkL n fun i => g (i + 1) := by
  unfold mkL
  rw [List.range_succ_eq_map, List.map_cons, List.map_map]
  rfl
section
variable {K : PySem.W.Frag} {H : Hp} {Q : VK}
theorem ren_go {p t : Addr} {m n s1 k1 s2 k2 : Nat} {A B : Nat → Rat} {P1 P2 : Int} (h1 : LsM K H p (mkL m A)) (h2 : LsM K H t (mkL n B)) (hP1 : 0 < P1) (sP1 : Sm s1 P1) (z1 : ∀ j, j < m → Sz P1 k1 (A j)) (hP2 : 0 < P2) (sP2 : Sm s2 P2) (z2 : ∀ j, j < n → Sz P2 k2 (B j))
    (hn : n ≤ 22) (hm : n ≤ m + 1) (hm2 : m ≤ 900) (hs1 : s1 ≤ 300) (hk1 : k1 ≤ 1000) (hs2 : s2 ≤ 300) (hk2 : k2 ≤ 1000) (q : ∀ z H', Same H H' → LsM K H' z (mkL n (renQ A B)) → Q (.ref z) H') : spRen K [.ref p, .ref t] H Q E0 := by
  obtain ⟨r1, a1, a2⟩ := h1
  obtain ⟨r2, b1, b2⟩ := h2
  refine ⟨p, t, _, _, _, _, _, _, _, _, rfl, ⟨r1, SqL.of a1, a2⟩, ⟨r2, SqL.of b1, b2⟩, over_mkL hP1 sP1 z1 (by omega), over_mkL hP2 sP2 z2 (by omega), by omega, hs1, by omega, hs2, by rw [mkL_len]; exact hn, by rw [mkL_len, mkL_len]; exact hm, fun z rs H' s hz hrs => ?_⟩
  refine q z H' s ⟨rs, hz, ?_⟩
  rw [mkL_len] at hrs
  have e : ((List.range n).map fun i => rdq (renQ (qa (mkL m A)) (qa (mkL n B)) i)) = mkL n (renQ A B) := by
    unfold mkL
    refine List.map_congr_left fun i hi => ?_
    have hi2 := List.mem_range.mp hi
    show rdq (renQ (qa (mkL m A)) (qa (mkL n B)) i) = rdq (renQ A B i)
    rw [renQ_congr (m := i) (Nat.le_refl _) (fun j hj => qa_mkL (g := A) (show j < m by omega)) (fun j hj => qa_mkL (g := B) (show j < n by omega))]
  rw [e] at hrs
  exact hrs
/-- xs[1:] of a list -/
theorem drop1_ls {p : Addr} {xs : List RT} (h : LsM K H p xs) (q : ∀ b H', Same H H' → LsM K H' b (xs.drop 1) → Q (.ref b) H') : rSlL K (.ref p) (some 1) none H Q := by
  obtain ⟨as, a1, a2⟩ := h
  refine ⟨p, _, rfl, SqL.of a1, fun b nb => ?_⟩
  rw [cutV_from1]
  have e := same_new (o := HO.lst ((as.map V.ref).drop 1)) nb
  refine q b _ e ⟨as.drop 1, ?_, (a2.drop 1).tk (Tk.same e)⟩
  rw [upd_same, List.map_drop]
end
/-! ### a share: from nought to one, by a small bottom -/
structure Part (b : Int) (s : Rat) : Prop where
  pos : 0 < b
  le5 : b ≤ 5
  ov : Ov b s
  ge : 0 ≤ s
  le : s ≤ 1
theorem Part.sm {b : Int} {s : Rat} (h : Part b s) : Sm 3 b := by
  have := h.pos
  have := h.le5
  unfold Sm
  omega
theorem Part.rest {b : Int} {s : Rat} (h : Part b s) : Part b (1 - s) := by
  obtain ⟨h1, h2, ⟨T, hT⟩, h4, h5⟩ := h
  refine ⟨h1, h2, ⟨b - T, ?_⟩, by grind, by grind⟩
  have := cast_ne (Int.ne_of_gt h1)
  rw [hT, Rat.intCast_sub]
  grind
theorem Part.sz {b : Int} {s : Rat} (h : Part b s) : Sz b 0 s := Sz.pos h.ov h.ge (by rw [Rat.pow_zero]; exact h.le)
theorem Part.pow {b : Int} {s : Rat} (h : Part b s) : ∀ j : Nat, Den b j (s ^ j) ∧ 0 ≤ s ^ j ∧ s ^ j ≤ 1
  | 0 => by
    rw [Rat.pow_zero]
    refine ⟨⟨1, ?_⟩, by decide, Rat.le_refl⟩
    rw [Int.pow_zero]
    grind
  | j + 1 => by
    obtain ⟨i1, i2, i3⟩ := h.pow j
    rw [Rat.pow_succ]
    have m := mul_01 ⟨i2, i3⟩ ⟨h.ge, h.le⟩
    have d : Den b 1 s := by
      obtain ⟨T, hT⟩ := h.ov
      refine ⟨T, ?_⟩
      rw [Int.pow_succ, Int.pow_zero, Int.one_mul]
      exact hT
    exact ⟨i1.mul h.pos d, m.1, m.2⟩
theorem Part.low {t b : Int} (h0 : 0 ≤ t) (h1 : t ≤ b) (hb : 0 < b) (h5 : b ≤ 5) : Part b (qv (low2 t b)) := by
  rw [qv_low2 hb]
  obtain ⟨x1, x2⟩ := div_01 h0 hb h1
  exact ⟨hb, h5, ⟨t, rfl⟩, x1, x2⟩
def thinQ (a : Nat → Rat) (s : Rat) (n : Nat) : Rat := renQ (fun j => (1 - s) * a j) (laterF fun j => s * a j) n
theorem pQ_scale (a : Nat → Rat) (c : Rat) : ∀ j m, pQ (fun i => c * a i) j m = c ^ j * pQ a j m
  | 0, m => by
    show oneAt m = c ^ 0 * oneAt m
    rw [Rat.pow_zero]
    grind
  | j + 1, m => by
    show (sumTo m fun k => c * a k * pQ (fun i => c * a i) j (m - 1 - k)) = c ^ (j + 1) * sumTo m fun k => a k * pQ a j (m - 1 - k)
    rw [sumTo_mul]
    refine sumTo_congr fun k _ => ?_
    rw [pQ_scale a c j, Rat.pow_succ]
    grind
/-- thinned: by how many parts there are, all but the last one lost -/
theorem thin_parts (a : Nat → Rat) (s : Rat) {n N : Nat} (h : n ≤ N) : thinQ a s n = sumTo N fun j => s * (1 - s) ^ j * pQ a (j + 1) n := by
  rcases Nat.eq_zero_or_pos N with z | z
  · have e : n = 0 := by omega
    subst z e
    unfold thinQ
    rw [conv_later, sumTo_zero, sumTo_zero]
  obtain ⟨M, rfl⟩ : ∃ M, N = M + 1 := ⟨N - 1, by omega⟩
  unfold thinQ
  rw [conv_later]
  have e : (sumTo n fun k => s * a k * renQ (fun j => (1 - s) * a j) oneAt (n - 1 - k)) = sumTo n fun k => sumTo (M + 1) fun j => s * a k * ((1 - s) ^ j * pQ a j (n - 1 - k)) := by
    refine sumTo_congr fun k hk => ?_
    rw [← put_parts (fun j => (1 - s) * a j) (n - 1 - k) M (by omega), sumTo_mul]
    refine sumTo_congr fun j _ => ?_
    rw [pQ_scale]
  rw [e, sumTo_swap]
  refine sumTo_congr fun j _ => ?_
  show _ = s * (1 - s) ^ j * sumTo n fun k => a k * pQ a j (n - 1 - k)
  rw [sumTo_mul]
  refine sumTo_congr fun k _ => ?_
  grind

end Fp

set_option Elab.async false
set_option linter.all false
set_option maxRecDepth 100000
set_option maxHeartbeats 4000000
set_option exponentiation.threshold 10000
namespace Fp
open PySem PySem.Spec PyProof.Rows L2
/-! ### thinned -/
abbrev s_thin : Stmt := topS 38
abbrev N_thin : List Str := ["life", "share", "most", "chances", "kept", "lost", "chance"]
theorem sc_thin : FnScope N_thin ["life", "share", "most"] (defScope s_thin) := ⟨rfl, rfl, rfl, by decide +kernel, rfl, by decide +kernel, by decide +kernel⟩
section
variable {P : Program} {w : World} {K : PySem.W.Frag} {mg : Str → Option Value} {base : Heap} {aN aO : Addr}
def spThin (K : PySem.W.Frag) : Sp := fun vs H Q _ => ∃ (p ps : Addr) (row : List RT) (step : RT) (n most : Nat) (D b : Int) (s : Rat), vs = [.ref p, .ref ps, .int (most : Int)] ∧ LifeAt K H p row step ∧ LifeOk n row step ∧ Ch01 D (chR row step) 20 ∧ RAt K H ps (rdq s) ∧ Part b s ∧ most ≤ 20 ∧
  ∀ z H', Same H H' → RowAt K H' z (mkL most fun i => thinQ (chR row step) s (i + 1)) → Q (.ref z) H'
theorem ok_thin {f fCT fT fM fRN : Addr} {fd fdCT fdT fdM fdRN : FuncData} (F : Fun K "thinned" "thinned" s_thin f fd) (C : Consts K mg aN aO)
    (FCT : Fun K "chances_to" "chances_to" s_chto fCT fdCT) (bCT : Binds K fdCT ["life", "most"] []) (gCT : mg "chances_to" = some (.ref fCT)) (GCT : FnOk P w K mg base CX0 4 fCT fdCT ["life", "most"] (spChto K))
    (FT : Fun K "times" "times" s_times fT fdT) (bT : Binds K fdT ["one", "other"] []) (gT : mg "times" = some (.ref fT)) (GT : FnOk P w K mg base CX0 3 fT fdT ["one", "other"] (spTwo K (fun a b c d => a * c)))
    (FM : Fun K "minus" "minus" s_minus fM fdM) (bM : Binds K fdM ["one", "other"] []) (gM : mg "minus" = some (.ref fM)) (GM : FnOk P w K mg base CX0 3 fM fdM ["one", "other"] (spTwo K (fun a b c d => a * d - c * b)))
    (FRN : Fun K "renewed" "renewed" s_ren fRN fdRN) (bRN : Binds K fdRN ["chances", "told"] []) (gRN : mg "renewed" = some (.ref fRN)) (GRN : FnOk P w K mg base CX0 3 fRN fdRN ["chances", "told"] (spRen K))
    (n_tuple : mg "tuple" = none) : FnOk P w K mg base CX0 5 f fd ["life", "share", "most"] (spThin K) := by
  refine F.ok sc_thin (fun vs H Q E h => ?_) (fun cdv A outer s H vs Q E hr h => ?_)
  · obtain ⟨_, _, _, _, _, _, _, _, _, rfl, _⟩ := h
    rfl
  · obtain ⟨p, ps, row, step, n, most, D, b, s, rfl, hlife, L, C1, hs, B, hm, q⟩ := h
    refine ⟨_, (pss_cons (ps_set (i := 3) sc_thin.nd rfl (.inl rfl) (pe_call GCT hr (by rfl) gCT FCT.kp bCT .nil pass0 (pa_cons (pv 0) (pa_cons (pv 2) pa_nil))))
      (pss_cons (ps_setLc (i := 4) (own := [("chance", 6)]) (g := (gName 6)) (tt := tYes) (te := (tCall (spTwo K (fun a b c d => a * c)) [] E0 (tCons (tVar 1) (tCons (tVar 6) tNil)))) rfl sc_thin.nd rfl rfl (sw_true rfl rfl rfl (by decide +kernel)) (pi_list (pv 3)) (blkOk_by (own := [("chance", 6)]) (N := N_thin) (sc := (defScope s_thin)) (by decide +kernel)) (fun _ _ _ _ _ => (pg_name (i := 6) sc_thin.nd rfl (.inl rfl))) (fun _ _ _ _ _ => pts_nil) (fun _ _ _ _ _ => (pe_call GT (hr.mono (by decide)) (by rfl) gT FT.kp bT .nil pass0 (pa_cons (pv 1) (pa_cons (pv 6) pa_nil)))))
      (pss_cons (ps_setLc (i := 5) (own := [("chance", 6)]) (g := (gName 6)) (tt := tYes) (te := (tCall (spTwo K (fun a b c d => a * c)) [] E0 (tCons (tCall (spTwo K (fun a b c d => a * d - c * b)) [] E0 (tCons (tC (.ref aO)) (tCons (tVar 1) tNil))) (tCons (tVar 6) tNil)))) rfl sc_thin.nd rfl rfl (sw_true rfl rfl rfl (by decide +kernel)) (pi_list (pv 3)) (blkOk_by (own := [("chance", 6)]) (N := N_thin) (sc := (defScope s_thin)) (by decide +kernel)) (fun _ _ _ _ _ => (pg_name (i := 6) sc_thin.nd rfl (.inl rfl))) (fun _ _ _ _ _ => pts_nil) (fun _ _ _ _ _ => (pe_call GT (hr.mono (by decide)) (by rfl) gT FT.kp bT .nil pass0 (pa_cons (pe_call GM (hr.mono (by decide)) (by rfl) gM FM.kp bM .nil pass0 (pa_cons (pe_glob (v := .ref aO) rfl C.gO rfl) (pa_cons (pv 1) pa_nil))) (pa_cons (pv 6) pa_nil)))))
      (pss_one (ps_ret (pe_callTy call_tuple_of (by rfl) n_tuple (by decide +kernel) (pa_cons (pe_slice sl_list (pe_call GRN (hr.mono (by decide)) (by rfl) gRN FRN.kp bRN .nil pass0 (pa_cons (pv 5) (pa_cons (pe_lst (pa_cons (pe_glob (v := .ref aN) rfl C.gN rfl) (StX.pa_star (pv 4) pa_nil))) pa_nil))) (po_some pe_int) po_none) pa_nil))))))), ?_⟩
    refine ⟨_, rfl, _, rfl, p, row, step, n, most, rfl, hlife, L, by omega, fun ch rs chs H1 s1 hz hrs hch => ?_⟩
    rw [hch.told] at hrs
    have hrl := hrs.length
    rw [mkL_len] at hrl
    have smS : SmR 3000 (rdq s) := B.sz.smr B.pos B.sm (by decide)
    have smA : ∀ k, k < most → SmR 3000 (rdq (chR row step k)) := fun k hk => (C1.chSz (show k < 20 by omega)).smr C1.pos C1.sm (by decide)
    have item : ∀ {i : Nat} {v : V} {HE : Hp}, i < most → Same H1 HE → (rs.map V.ref)[i]? = some v → ∃ r, v = .ref r ∧ RAt K HE r (rdq (chR row step i)) := fun {i v HE} hi sE hv => by
      obtain ⟨r, e1, e2⟩ := hrs.get (mkL_at hi)
      rw [List.getElem?_map, e1] at hv
      exact ⟨r, (Option.some.inj hv).symm, e2.tk (Tk.same sE)⟩
    refine ⟨_, rfl, ch, rfl, ⟨_, SqL.of hz⟩, ?_⟩
    refine lc_mkW (K := K) (walk_list (K := K) (a := ch) (xs := rs.map V.ref)) (fun k => s * chR row step k) (by rw [List.length_map, hrl]; omega) (fun HE sE => SqL.of (sE _ _ hz)) (fun i v HE HE' R hi sE hY qr => ?_) (fun kp H2 s2 hkp => ?_)
    · obtain ⟨rfl, hv⟩ := hY
      rw [List.length_map, hrl] at hi
      obtain ⟨r, rfl, hr2⟩ := item hi sE hv
      refine ⟨rfl, _, rfl, _, rfl, ?_⟩
      refine tnil_go ?_
      exact times_go ((hs.tk (Tk.same s1)).tk (Tk.same sE)) hr2 smS (smA i hi) qr
    rw [List.length_map, hrl] at hkp
    refine ⟨_, rfl, ch, rfl, ⟨_, SqL.of (s2 _ _ hz)⟩, ?_⟩
    refine lc_mkW (K := K) (walk_list (K := K) (a := ch) (xs := rs.map V.ref)) (fun k => (1 - s) * chR row step k) (by rw [List.length_map, hrl]; omega) (fun HE sE => SqL.of ((s2.trans sE) _ _ hz)) (fun i v HE HE' R hi sE hY qr => ?_) (fun lo H3 s3 hlo => ?_)
    · obtain ⟨rfl, hv⟩ := hY
      rw [List.length_map, hrl] at hi
      obtain ⟨r, rfl, hr2⟩ := item hi (s2.trans sE) hv
      refine ⟨rfl, _, rfl, ?_⟩
      refine tnil_go ?_
      have one : rdq 1 = (1, 1) := (is_rdq one_red qv_one).symm
      refine minus_go (x := 1) (y := s) (by rw [one]; exact C.tO _) (hs.tk (Tk.same (s1.trans (s2.trans sE)))) (by rw [one]; exact ⟨one_red, by unfold Sm; decide, by unfold Sm; decide⟩) smS fun r2 HF sF hr3 => ?_
      refine ⟨_, rfl, ?_⟩
      refine tnil_go ?_
      exact times_go hr3 (hr2.tk (Tk.same sF)) (B.rest.sz.smr B.pos B.sm (by decide)) (smA i hi) fun r4 HG sG hr4 => qr r4 HG (sF.trans sG) hr4
    rw [List.length_map, hrl] at hlo
    obtain ⟨ks, hk1, hk2⟩ := hkp
    refine ⟨_, rfl, _, rfl, kp, _, rfl, .inr (SqL.of (s3 _ _ hk1)), ?_⟩
    have hkl := hk2.length
    rw [mkL_len] at hkl
    refine ⟨?_, fun tb nb => ?_⟩
    · rw [List.append_nil, List.length_cons, List.length_map, hkl]
      exact Nat.le_trans (show most + 1 ≤ 1000 by omega) (by decide)
    rw [List.append_nil] at *
    have e4 := same_new (o := HO.lst (V.ref aN :: ks.map V.ref)) nb
    have htb : LsM K (upd H3 tb (.lst (V.ref aN :: ks.map V.ref))) tb (mkL (most + 1) (laterF fun j => s * chR row step j)) := by
      refine ⟨aN :: ks, upd_same, ?_⟩
      rw [mkL_cons]
      exact .cons (C.tN _) (hk2.tk (Tk.same (s3.trans e4)))
    have hDb : 0 < D * b := Int.mul_pos C1.pos B.pos
    have sDb : Sm 63 (D * b) := C1.sm.mul B.sm
    have z0 : ∀ {s' : Rat}, Part b s' → ∀ j, j < most → Sz (D * b) 0 (s' * chR row step j) := fun {s'} B' j hj => by
      have := (C1.chSz (show j < 20 by omega)).mul C1.pos B.pos B'.sz
      rw [show s' * chR row step j = chR row step j * s' by grind]
      exact this
    refine tnil_go ?_
    refine ren_go (A := fun k => (1 - s) * chR row step k) (hlo.same e4) htb hDb sDb (z0 B.rest) hDb sDb (k2 := 0) (fun j hj => ?_) (by omega) (by omega) (by omega) (by decide) (by decide) (by decide) (by decide) fun z H5 s5 hz5 => ?_
    · cases j with
      | zero => exact Sz.nought
      | succ j => exact z0 B j (by omega)
    refine ⟨1, rfl, ?_⟩
    refine noPart_go ?_
    refine drop1_ls hz5 fun z6 H6 s6 hz6 => ?_
    rw [mkL_drop] at hz6
    obtain ⟨us, hu1, hu2⟩ := hz6
    refine ⟨z6, _, rfl, .inl ⟨SqL.of hu1, fun l nl => ?_⟩⟩
    have e7 := same_new (o := HO.tup (us.map V.ref)) nl
    exact q l _ (s1.trans (s2.trans (s3.trans (e4.trans (s5.trans (s6.trans e7)))))) (RowAt.of_ls hu1 hu2 nl)
end

end Fp

set_option Elab.async false
set_option linter.all false
set_option maxRecDepth 100000
set_option maxHeartbeats 4000000
set_option exponentiation.threshold 10000
namespace Fp
open PySem PySem.Spec PyProof.Rows L2
/-! ### the law's own: thinned by how many parts there are -/
section
variable {P : Program} {w : World} {K : PySem.W.Frag} {mg : Str → Option Value} {base : Heap}
def thF (a : Nat → Rat) (s : Rat) (j n : Nat) : Rat := sumTo j fun i => s * (1 - s) ^ i * pQ a (i + 1) (n + 1)
def spDue (K : PySem.W.Frag) : Sp := fun vs H Q _ => ∃ (p ps : Addr) (row : List RT) (step : RT) (n most : Nat) (D b : Int) (s : Rat), vs = [.ref p, .ref ps, .int (most : Int)] ∧ LifeAt K H p row step ∧ LifeOk n row step ∧ (row = [] → step = (0, 1)) ∧ Ch01 D (chR row step) 20 ∧ RAt K H ps (rdq s) ∧ Part b s ∧ most ≤ 20 ∧
  ∀ z H', Same H H' → RowAt K H' z (mkL most fun i => thinQ (chR row step) s (i + 1)) → Q (.ref z) H'
/-- how great they are -/
theorem th_P {D b : Int} {a : Nat → Rat} {s : Rat} (C1 : Ch01 D a 20) (B : Part b s) : 0 < D ^ 20 * b ^ 21 ∧ Sm 1266 (D ^ 20 * b ^ 21) := ⟨Int.mul_pos (C1.powSm 20).1 (Int.pow_pos B.pos), ((C1.powSm 20).2.mul (sm_pow B.sm (by decide) 21)).mono (by decide)⟩
theorem pq_sz {D : Int} {a : Nat → Rat} (C1 : Ch01 D a 20) {j m : Nat} (hj : j ≤ 20) (hm : m ≤ 20) : Sz (D ^ 20) 20 (pQ a j m) := by
  obtain ⟨b1, b2⟩ := pQ_bound C1.ge C1.le j m hm
  exact (Sz.pos ((C1.pq j m hm).mono C1.pos hj).ov b1 b2).mono (by omega)
theorem by_part {b : Int} {s : Rat} (B : Part b s) (j : Nat) : Den b (j + 1) (s * (1 - s) ^ j) ∧ 0 ≤ s * (1 - s) ^ j ∧ s * (1 - s) ^ j ≤ 1 := by
  obtain ⟨d1, d2, d3⟩ := B.rest.pow j
  have e := B.pow 1
  rw [Rat.pow_succ, Rat.pow_zero, Rat.one_mul] at e
  have m := mul_01 ⟨e.2.1, e.2.2⟩ ⟨d2, d3⟩
  refine ⟨?_, m.1, m.2⟩
  rw [Nat.add_comm]
  exact e.1.mul B.pos d1
theorem by_sz {b : Int} {s : Rat} (B : Part b s) {j : Nat} (hj : j ≤ 20) : Sz (b ^ 21) 0 (s * (1 - s) ^ j) := by
  obtain ⟨d1, d2, d3⟩ := by_part B j
  exact Sz.pos (d1.mono B.pos (show j + 1 ≤ 21 by omega)).ov d2 (by rw [Rat.pow_zero]; exact d3)
theorem th_term {D b : Int} {a : Nat → Rat} {s : Rat} (C1 : Ch01 D a 20) (B : Part b s) {j n : Nat} (hj : j < 20) (hn : n < 20) : Sz (D ^ 20 * b ^ 21) 20 (s * (1 - s) ^ j * pQ a (j + 1) (n + 1)) := by
  rw [show s * (1 - s) ^ j * pQ a (j + 1) (n + 1) = pQ a (j + 1) (n + 1) * (s * (1 - s) ^ j) by grind]
  exact ((pq_sz C1 (show j + 1 ≤ 20 by omega) (show n + 1 ≤ 20 by omega)).mul (C1.powSm 20).1 (Int.pow_pos B.pos) (by_sz B (show j ≤ 20 by omega)))
theorem thF_sz {D b : Int} {a : Nat → Rat} {s : Rat} (C1 : Ch01 D a 20) (B : Part b s) {j n : Nat} (hj : j ≤ 20) (hn : n < 20) : Sz (D ^ 20 * b ^ 21) 27 (thF a s j n) := Sz.sum (th_P C1 B).1 (fun i hi => th_term C1 B (by omega) hn) (by omega)
theorem thF_succ (a : Nat → Rat) (s : Rat) (j n : Nat) : thF a s (j + 1) n = thF a s j n + s * (1 - s) ^ j * pQ a (j + 1) (n + 1) := sumTo_succ _ _
theorem two_sum' {n : Nat} {f : Nat → Rat} (h : n = 2) : sumTo n f = f 0 + f 1 := by
  subst h
  rw [sumTo_succ, sumTo_succ, sumTo_zero]
  grind
theorem mk2 (x y : Rat) : mkL 2 (fun i => if i = 0 then x else y) = [rdq x, rdq y] := rfl
theorem mkL_rep {n : Nat} : mkL n (fun _ => 0) = List.replicate n (0, 1) := by
  unfold mkL
  show (List.range n).map (fun _ => rdq 0) = _
  rw [rdq_zero.mpr rfl, List.map_const', List.length_range]
end

end Fp

set_option Elab.async false
set_option linter.all false
set_option maxRecDepth 100000
set_option maxHeartbeats 4000000
set_option exponentiation.threshold 10000
namespace Fp
open PySem PySem.Spec PyProof.Rows L2
/-! ### lists of whole numbers told by a function -/
def mkI (n : Nat) (f : Nat → Int) : List Int := (List.range n).map f
theorem mkI_len {n : Nat} {f : Nat → Int} : (mkI n f).length = n := by
  unfold mkI
  rw [List.length_map, List.length_range]
theorem mkI_at {n m : Nat} {f : Nat → Int} (h : m < n) : (mkI n f)[m]? = some (f m) := by
  unfold mkI
  rw [List.getElem?_map, List.getElem?_range h]
  rfl
theorem mkI_succ {n : Nat} {f : Nat → Int} : mkI (n + 1) f = mkI n f ++ [f n] := by
  unfold mkI
  rw [List.range_succ, List.map_append]
  rfl
theorem mkI_congr {n : Nat} {f g : Nat → Int} (h : ∀ m, m < n → f m = g m) : mkI n f = mkI n g := by
  unfold mkI
  exact List.map_congr_left fun m hm => h m (List.mem_range.mp hm)
theorem mkI_sum {n : Nat} {f : Nat → Int} : (((mkI n f).sum : Int) : Rat) = sumTo n fun j => ((f j : Int) : Rat) := sumTo_cast f n
theorem mkI_take {n m : Nat} {f : Nat → Int} (h : m ≤ n) : (mkI n f).take m = mkI m f := by
  unfold mkI
  rw [← List.map_take, List.take_range, Nat.min_eq_left h]
theorem is_mkI {xs : List Int} : xs = mkI xs.length (getI xs) := by
  refine List.ext_getElem (by rw [mkI_len]) fun m h1 h2 => ?_
  have e := mkI_at (f := getI xs) h1
  rw [List.getElem?_eq_getElem h2] at e
  rw [Option.some.inj e]
  unfold getI
  rw [List.getElem?_eq_getElem h1]
  rfl
theorem mkI_sm {e n : Nat} {f : Nat → Int} (h : ∀ j, j < n → Sm e (f j)) (hn : n ≤ 32) : Sm (e + 6) (mkI n f).sum := by
  refine sum_sm (fun x hx => ?_) (by rw [mkI_len]; exact hn)
  obtain ⟨j, hj, rfl⟩ := List.mem_map.mp hx
  exact h j (List.mem_range.mp hj)
theorem mkI_rep {n : Nat} {c : Int} : mkI n (fun _ => c) = List.replicate n c := by
  unfold mkI
  rw [List.map_const', List.length_range]
section
variable {K : PySem.W.Frag} {H : Hp} {Q : VK}
def IntL (H : Hp) (p : Addr) (n : Nat) (f : Nat → Int) : Prop := H p = some (.lst ((mkI n f).map V.int))
theorem ixI_go {p : Addr} {n m : Nat} {f : Nat → Int} {k : Int} (h : IntL H p n f) (hk : k = (m : Int)) (hm : m < n) (q : Q (.int (f m)) H) : rIxL K (.ref p) (.int k) H Q :=
  ⟨p, _, _, _, rfl, rfl, SqL.of h, at_of hk (by rw [List.getElem?_map, mkI_at hm]; rfl), q⟩
theorem sumI_go {p : Addr} {n : Nat} {f : Nat → Int} (h : IntL H p n f) (q : Q (.int (mkI n f).sum) H) : rSum K [.ref p] H Q := ⟨p, _, rfl, SqL.of h, q⟩
theorem takeI_go {p : Addr} {n m : Nat} {f : Nat → Int} (h : IntL H p n f) (hm : m ≤ n) (q : ∀ b H', Same H H' → IntL H' b m f → Q (.ref b) H') : rSlL K (.ref p) none (some (m : Int)) H Q := by
  refine ⟨p, _, rfl, SqL.of h, fun b nb => ?_⟩
  rw [cutV_take, ← List.map_take, mkI_take hm]
  exact q b _ (same_new nb) upd_same
theorem lc_intW {J : It} {n : Nat} {G : Hp → Prop} {Y : Nat → Hp → V → Hp → Prop} (w : Walk J n G Y) {g : TG} {te : TE} {vs : List Nat} {σ : L2.St} {H1 : Hp} (f : Nat → Int) (hn : n ≤ 900) (hG : ∀ HE, Same H1 HE → G HE)
    (hs : ∀ (k : Nat) (x : V) (HE HE' : Hp) (R : VK), k < n → Same H1 HE → Y k HE x HE' → (∀ HF, Same HE HF → R (.int (f k)) HF) → g x (wipe σ vs) HE' fun σ2 H2 => wipe σ2 vs = wipe σ vs ∧ te σ2 H2 R)
    {Qd : Addr → Hp → Prop} (hd : ∀ D H2, Same H1 H2 → IntL H2 D n f → Qd D H2) : tLc (fun _ H2 R => R J H2) g tYes te vs σ H1 (refQ Qd) := by
  intro D nD
  have e1 := same_new (o := HO.lst []) nD
  refine lc_it w (fun k HE => Same H1 HE ∧ HE D = some (.lst ((mkI k f).map V.int))) ⟨e1, upd_same⟩ ?_ ?_ ?_
  · rintro i HE _ ⟨sE, _⟩
    exact hG HE sE
  · rintro k x HE HE' hk ⟨sE, hE⟩ hY
    refine hs k x HE HE' _ hk sE hY fun HF sF => ?_
    have hE5 := sF _ _ hE
    refine ⟨_, hE5, by rw [List.length_map, mkI_len]; exact small1000 (by omega), ?_, ?_⟩
    · intro b2 o hb2
      rw [upd_ne (ne_of_none hb2 nD)]
      exact (sE.trans sF) _ _ hb2
    · rw [upd_same, mkI_succ, List.map_append]
      rfl
  · rintro HE ⟨sE, hE⟩
    exact hd D HE sE hE
theorem lc_int {lo : Int} {n : Nat} {g : TG} {te : TE} {vs : List Nat} {σ : L2.St} {H1 : Hp} (f : Nat → Int) (hn : n ≤ 900)
    (hs : ∀ (k : Nat) (HE : Hp) (R : VK), k < n → Same H1 HE → (∀ HF, Same HE HF → R (.int (f k)) HF) → g (.int (lo + k)) (wipe σ vs) HE fun σ2 H2 => wipe σ2 vs = wipe σ vs ∧ te σ2 H2 R)
    {Qd : Addr → Hp → Prop} (hd : ∀ D H2, Same H1 H2 → IntL H2 D n f → Qd D H2) : tLc (fun _ H2 R => R (Itr lo n) H2) g tYes te vs σ H1 (refQ Qd) := by
  refine lc_intW walk_range f hn (fun _ _ => trivial) (fun k x HE HE' R hk sE hY q => ?_) hd
  obtain ⟨rfl, rfl⟩ := hY
  exact hs k _ R hk sE q
/-- on one bottom, by values -/
theorem oob_go {p : Addr} {m s k : Nat} {A : Nat → Rat} {P : Int} (h : LsM K H p (mkL m A)) (hP : 0 < P) (sP : Sm s P) (z : ∀ j, j < m → Sz P k (A j)) (hm : m ≤ 900) (hs : s ≤ 2500) (hk : k ≤ 900)
    (q : ∀ z zl c T H', Same H H' → H' z = some (.tup [.ref zl, .int c]) → IntL H' zl m T → 0 < c → c ∣ P → Sm s c → (∀ j, j < m → ((T j : Int) : Rat) = (c : Rat) * A j) → (∀ j, j < m → Sm (2 * s + k + 1) (T j)) → Q (.ref z) H') : spOob K [.ref p] H Q E0 := by
  obtain ⟨rs, h1, h2⟩ := h
  have O := over_mkL hP sP z (show m ≤ 1000 by omega)
  refine ⟨p, _, _, _, _, rfl, ⟨rs, SqL.of h1, h2⟩, O, by omega, by omega, fun z1 zl c H' s1 hz hzl c0 cD hc => ?_⟩
  have hl : (mkL m A).length = m := mkL_len
  refine q z1 zl c (getI (topsOn c (mkL m A))) H' s1 hz ?_ c0 cD (dvd_small cD hP sP) (fun j hj => ?_) (fun j hj => ?_)
  · have e := is_mkI (xs := topsOn c (mkL m A))
    rw [tops_len, hl] at e
    unfold IntL
    rw [← e]
    exact hzl
  · rw [tops_val c0 (by rw [hl]; exact hj) fun x hx => ⟨(O.ok x hx).1, hc x hx⟩, qa_mkL hj]
  · have := tops_each (n := s + k + 1) O.pos cD O.sm (xs := mkL m A) (j := j) (by rw [hl]; exact hj) fun x hx => (O.ok x hx).2.2
    exact this.mono (by omega)
/-- a ratio of two whole numbers, by its value -/
theorem rat_go {t b : Int} {v : Rat} (hb : 0 < b) (s8 : b.natAbs < 2 ^ 8000) (e : ((t : Int) : Rat) = v * (b : Rat)) (q : ∀ r H', Same H H' → RAt K H' r (rdq v) → Q (.ref r) H') : spRat0 [.int t, .int b] H Q E0 := by
  refine ⟨t, b, rfl, s8, Int.ne_of_gt hb, fun p np => ?_⟩
  have hc := cast_ne (Int.ne_of_gt hb)
  have ex : low2 t b = rdq v := by
    refine is_rdq (low2_red (Int.ne_of_gt hb)) ?_
    rw [qv_low2 hb, e]
    grind
  refine q p _ (same_new np) ?_
  rw [← ex]
  exact SqT.of upd_same
end

end Fp

set_option Elab.async false
set_option linter.all false
set_option maxRecDepth 100000
set_option maxHeartbeats 4000000
set_option exponentiation.threshold 10000
namespace Fp
open PySem PySem.Spec PyProof.Rows L2
/-! ### crossed: each with each -/
abbrev s_crossed : Stmt := topS 14
abbrev N_crossed : List Str := ["ones", "others", "tops", "bottom", "other_tops", "other_bottom", "sums", "k", "top", "j", "other_top", "total"]
theorem sc_crossed : FnScope N_crossed ["ones", "others"] (defScope s_crossed) := ⟨rfl, rfl, rfl, by decide +kernel, rfl, by decide +kernel, by decide +kernel⟩
def crossQ (A B : Nat → Rat) (m n i : Nat) : Rat := sumTo m fun k => if k ≤ i ∧ i < k + n then A k * B (i - k) else 0
def cJ (T U : Nat → Int) (n kk jj i : Nat) : Int := (mkI kk fun k => if k ≤ i ∧ i < k + n then T k * U (i - k) else 0).sum + if kk ≤ i ∧ i < kk + jj then T kk * U (i - kk) else 0
theorem sumI_snoc (xs : List Int) (x : Int) : (xs ++ [x]).sum = xs.sum + x := by
  rw [List.sum_append]
  show xs.sum + (x + 0) = _
  omega
theorem cJ_full {T U : Nat → Int} {n kk i : Nat} : cJ T U n kk n i = cJ T U n (kk + 1) 0 i := by
  unfold cJ
  rw [mkI_succ, sumI_snoc, if_neg (show ¬ (kk + 1 ≤ i ∧ i < kk + 1 + 0) by omega)]
  omega
theorem cJ_step {T U : Nat → Int} {n kk jj i : Nat} : cJ T U n kk (jj + 1) i = if i = kk + jj then cJ T U n kk jj i + T kk * U jj else cJ T U n kk jj i := by
  unfold cJ
  by_cases z : i = kk + jj
  · rw [if_pos z, if_pos (by omega), if_neg (by omega), show i - kk = jj by omega]
    omega
  · rw [if_neg z]
    congr 1
    by_cases y : kk ≤ i ∧ i < kk + jj
    · rw [if_pos y, if_pos (by omega)]
    · rw [if_neg y, if_neg (by omega)]
theorem cJ_zero {T U : Nat → Int} {n i : Nat} : cJ T U n 0 0 i = 0 := by
  unfold cJ
  rw [if_neg (by omega)]
  rfl
theorem cJ_val {T U : Nat → Int} {A B : Nat → Rat} {c e : Int} {m n i : Nat} (hT : ∀ j, j < m → ((T j : Int) : Rat) = (c : Rat) * A j) (hU : ∀ j, j < n → ((U j : Int) : Rat) = (e : Rat) * B j) : ((cJ T U n m 0 i : Int) : Rat) = crossQ A B m n i * ((c * e : Int) : Rat) := by
  unfold cJ
  rw [if_neg (by omega), Int.add_zero, mkI_sum]
  have h : (sumTo m fun k => (((if k ≤ i ∧ i < k + n then T k * U (i - k) else 0 : Int)) : Rat)) = ((c : Rat) * (e : Rat)) * crossQ A B m n i := by
    unfold crossQ
    rw [sumTo_mul]
    refine sumTo_congr fun k hk => ?_
    split
    · rw [Rat.intCast_mul, hT k hk, hU (i - k) (by omega)]
      grind
    · show (0 : Rat) = _ * 0
      grind
  rw [h, Rat.intCast_mul]
  grind
theorem mkI_set {n i : Nat} {g : Nat → Int} {v : Int} : (mkI n g).set i v = mkI n fun m => if m = i then v else g m := by
  refine List.ext_getElem (by rw [List.length_set, mkI_len, mkI_len]) fun m h1 h2 => ?_
  rw [List.getElem_set]
  have hm : m < n := by
    rw [mkI_len] at h2
    exact h2
  have e : ∀ (f : Nat → Int) (h : m < (mkI n f).length), (mkI n f)[m] = f m := fun f h => by
    have := mkI_at (f := f) hm
    rw [List.getElem?_eq_getElem h] at this
    exact Option.some.inj this
  rw [e (fun m => if m = i then v else g m)]
  by_cases z : i = m
  · rw [if_pos z, if_pos z.symm]
  · rw [if_neg z, if_neg fun y => z y.symm, e]
section
variable {P : Program} {w : World} {K : PySem.W.Frag} {mg : Str → Option Value} {base : Heap}
def spCrossed (K : PySem.W.Frag) : Sp := fun vs H Q _ => ∃ (p t : Addr) (m n s1 k1 s2 k2 : Nat) (A B : Nat → Rat) (P1 P2 : Int), vs = [.ref p, .ref t] ∧ LsM K H p (mkL m A) ∧ LsM K H t (mkL n B) ∧ (0 < P1 ∧ Sm s1 P1 ∧ ∀ j, j < m → Sz P1 k1 (A j)) ∧ (0 < P2 ∧ Sm s2 P2 ∧ ∀ j, j < n → Sz P2 k2 (B j)) ∧ (1 ≤ m ∧ m ≤ 100 ∧ 1 ≤ n ∧ n ≤ 100) ∧ (0 < s1 ∧ s1 ≤ 2500 ∧ k1 ≤ 900 ∧ 0 < s2 ∧ s2 ≤ 2500 ∧ k2 ≤ 900) ∧
  ∀ z H', Same H H' → LsM K H' z (mkL (m + n - 1) (crossQ A B m n)) → Q (.ref z) H'
theorem ok_crossed {f fOB fR : Addr} {fd fdOB fdR : FuncData} (F : Fun K "crossed" "crossed" s_crossed f fd)
    (FOB : Fun K "on_one_bottom" "on_one_bottom" s_oob fOB fdOB) (bOB : Binds K fdOB ["told"] []) (gOB : mg "on_one_bottom" = some (.ref fOB)) (GOB : FnOk P w K mg base CX0 2 fOB fdOB ["told"] (spOob K))
    (FR : Fun K "ratio" "ratio" s_ratio fR fdR) (bR : Binds K fdR ["top", "bottom"] []) (gR : mg "ratio" = some (.ref fR)) (GR : FnOk P w K mg base CX0 2 fR fdR ["top", "bottom"] spRat0)
    (n_enumerate : mg "enumerate" = none) (n_len : mg "len" = none) : FnOk P w K mg base CX0 3 f fd ["ones", "others"] (spCrossed K) := by
  refine F.ok sc_crossed (fun vs H Q E h => ?_) (fun cdv A outer s H vs Q E hr h => ?_)
  · obtain ⟨_, _, _, _, _, _, _, _, _, _, _, _, rfl, _⟩ := h
    rfl
  · obtain ⟨p, t, m, n, s1, k1, s2, k2, A', B, P1, P2, rfl, hp, ht, ⟨p1, p2, p3⟩, ⟨r1, r2, r3⟩, ⟨m1, m2, n1, n2⟩, ⟨x0, x1, x2, x3, x4, x5⟩, q⟩ := h
    refine ⟨_, (pss_cons (ps_asg (pe_call GOB hr (by rfl) gOB FOB.kp bOB .nil pass0 (pa_cons (pv 0) pa_nil)) (pg_tup rfl (pgs_cons (pg_name (i := 2) sc_crossed.nd rfl (.inl rfl)) (pgs_cons (pg_name (i := 3) sc_crossed.nd rfl (.inr rfl)) pgs_nil))))
      (pss_cons (ps_asg (pe_call GOB hr (by rfl) gOB FOB.kp bOB .nil pass0 (pa_cons (pv 1) pa_nil)) (pg_tup rfl (pgs_cons (pg_name (i := 4) sc_crossed.nd rfl (.inl rfl)) (pgs_cons (pg_name (i := 5) sc_crossed.nd rfl (.inr rfl)) pgs_nil))))
      (pss_cons (ps_set (i := 6) sc_crossed.nd rfl (.inl rfl) (pe_op op_rep (pe_lst (pa_cons pe_int pa_nil)) (pe_op op_sub (pe_op op_add (pe_callB call_len_seq (by rfl) n_len PySem.boot_len (pa_cons (pv 2) pa_nil)) (pe_callB call_len_seq (by rfl) n_len PySem.boot_len (pa_cons (pv 4) pa_nil))) pe_int)))
      (pss_cons (ps_for PassesOwn.never rfl (pi_enum (by rfl) n_enumerate (pa_cons (pv 2) pa_nil)) (pg_tup rfl (pgs_cons (pg_name (i := 7) sc_crossed.nd rfl (.inl rfl)) (pgs_cons (pg_name (i := 8) sc_crossed.nd rfl (.inl rfl)) pgs_nil))) (pss_one (ps_for PassesOwn.never rfl (pi_enum (by rfl) n_enumerate (pa_cons (pv 4) pa_nil)) (pg_tup rfl (pgs_cons (pg_name (i := 9) sc_crossed.nd rfl (.inl rfl)) (pgs_cons (pg_name (i := 10) sc_crossed.nd rfl (.inl rfl)) pgs_nil))) (pss_one (ps_augS (pv 6) (pe_op op_add (pv 7) (pv 9)) get_listN (pe_op op_mulA (pv 8) (pv 10)) ip_add set_list)))))
      (pss_one (ps_ret (pe_lc (own := [("total", 11)]) (g := (gName 11)) (tt := tYes) (te := (tCall spRat0 [] E0 (tCons (tVar 11) (tCons (tOp (rI CMulA fun i j => .int (i * j)) (tVar 3) (tVar 5)) tNil)))) rfl sc_crossed.nd (pi_list (pv 6)) (blkOk_by (own := [("total", 11)]) (N := N_crossed) (sc := (defScope s_crossed)) (by decide +kernel)) (fun _ _ _ _ _ => (pg_name (i := 11) sc_crossed.nd rfl (.inl rfl))) (fun _ _ _ _ _ => pts_nil) (fun _ _ _ _ _ => (pe_call GR hr (by rfl) gR FR.kp bR .nil pass0 (pa_cons (pv 11) (pa_cons (pe_op op_mulA (pv 3) (pv 5)) pa_nil))))))))))), ?_⟩
    refine ⟨_, rfl, ?_⟩
    refine tnil_go ?_
    refine oob_go (K := K) hp p1 p2 p3 (by omega) x1 x2 fun z1 zt c T H1 s1' hz1 hzt c0 cD sc tv ts => ?_
    refine ⟨z1, _, rfl, SqT.of hz1, rfl, _, _, rfl, _, _, rfl, rfl, ?_⟩
    refine ⟨_, rfl, ?_⟩
    refine tnil_go ?_
    refine oob_go (K := K) (ht.same s1') r1 r2 r3 (by omega) x4 x5 fun z2 zu e U H2 s2' hz2 hzu e0 eD se uv us => ?_
    refine ⟨z2, _, rfl, SqT.of hz2, rfl, _, _, rfl, _, _, rfl, rfl, ?_⟩
    have hzt2 := s2' _ _ hzt
    refine ⟨by show 1 ≤ sizeLine; decide, fun b1 mb => ?_⟩
    have g1 := same_new (o := HO.lst [.int 0]) mb
    refine ⟨_, rfl, zt, _, rfl, .inl (SqL.of (g1 _ _ hzt2)), ?_⟩
    refine ⟨_, rfl, zu, _, rfl, .inl (SqL.of (g1 _ _ hzu)), ?_⟩
    refine ⟨_, _, rfl, rfl, _, 1, rfl, rfl, ?_⟩
    have el : (((mkI m T).map V.int).length : Int) + (((mkI n U).map V.int).length : Int) - 1 = ((m + n - 1 : Nat) : Int) := by
      rw [List.length_map, List.length_map, mkI_len, mkI_len]
      omega
    show rRep (.ref b1) (.int ((((mkI m T).map V.int).length : Int) + (((mkI n U).map V.int).length : Int) - 1)) _ _
    rw [el]
    refine ⟨b1, _, _, rfl, rfl, upd_same, by omega, by omega, ?_, fun sm nsm => ?_⟩
    · rw [Int.toNat_natCast]
      show 1 * (m + n - 1) ≤ sizeLine
      exact Nat.le_trans (show 1 * (m + n - 1) ≤ 1000 by omega) (by decide)
    have ef : (List.replicate ((m + n - 1 : Nat) : Int).toNat [V.int 0]).flatten = (mkI (m + n - 1) (cJ T U n 0 0)).map V.int := by
      rw [flat_rep, Int.toNat_natCast, mkI_congr (g := fun _ => 0) fun i _ => cJ_zero, mkI_rep, List.map_replicate]
    rw [ef] at *
    have g2 := same_new (o := HO.lst ((mkI (m + n - 1) (cJ T U n 0 0)).map V.int)) nsm
    have nsm2 : H2 sm = none := g1.free nsm
    have G2 := g1.trans g2
    have hsm : IntL (upd (upd H2 b1 (HO.lst [.int 0])) sm (HO.lst ((mkI (m + n - 1) (cJ T U n 0 0)).map V.int))) sm (m + n - 1) (cJ T U n 0 0) := upd_same
    generalize upd (upd H2 b1 (HO.lst [.int 0])) sm (HO.lst ((mkI (m + n - 1) (cJ T U n 0 0)).map V.int)) = H3 at *
    refine ⟨_, rfl, zt, _, rfl, SqL.of (G2 _ _ hzt2), ?_⟩
    refine for_it (walk_enum (K := K) (a := zt) (xs := (mkI m T).map V.int)) (fun k σ HB => ∃ z7 z8 z9 z10 : Option V, σ = [some (.ref p), some (.ref t), some (.ref zt), some (.int c), some (.ref zu), some (.int e), some (.ref sm), z7, z8, z9, z10, none] ∧ Same H2 HB ∧ IntL HB sm (m + n - 1) (cJ T U n k 0)) ⟨none, none, none, none, rfl, G2, hsm⟩ ?_ ?_ ?_
    · rintro k σ HB _ ⟨_, _, _, _, rfl, sB, _⟩
      exact SqL.of (sB _ _ hzt2)
    · rintro k v σ HB HB' hk ⟨z7, z8, z9, z10, rfl, sB, hB⟩ ⟨T1, y1, y2, rfl, nT, rfl, ex1, ex2⟩
      rw [List.length_map, mkI_len] at hk
      dsimp only at ex1 ex2
      cases Option.some.inj ex1
      rw [List.getElem?_map, mkI_at hk] at ex2
      cases Option.some.inj ex2
      have gT := same_new (o := HO.tup [.int ((k : Nat) : Int), .int (T k)]) nT
      refine ⟨T1, _, rfl, SqT.of upd_same, rfl, _, _, rfl, _, _, rfl, rfl, ?_⟩
      refine ⟨_, rfl, zu, _, rfl, SqL.of ((sB.trans gT) _ _ hzu), ?_⟩
      refine for_it (walk_enum (K := K) (a := zu) (xs := (mkI n U).map V.int)) (fun j σ HC => ∃ z9 z10 : Option V, σ = [some (.ref p), some (.ref t), some (.ref zt), some (.int c), some (.ref zu), some (.int e), some (.ref sm), some (.int ((k : Nat) : Int)), some (.int (T k)), z9, z10, none] ∧ Same H2 HC ∧ IntL HC sm (m + n - 1) (cJ T U n k j)) ⟨z9, z10, rfl, sB.trans gT, gT _ _ hB⟩ ?_ ?_ ?_
      · rintro j σ HC _ ⟨_, _, rfl, sC, _⟩
        exact SqL.of (sC _ _ hzu)
      · rintro j v σ HC HC' hj ⟨z9, z10, rfl, sC, hC⟩ ⟨T2, y1, y2, rfl, nT2, rfl, ex1, ex2⟩
        rw [List.length_map, mkI_len] at hj
        dsimp only at ex1 ex2
        cases Option.some.inj ex1
        rw [List.getElem?_map, mkI_at hj] at ex2
        cases Option.some.inj ex2
        have gT2 := same_new (o := HO.tup [.int ((j : Nat) : Int), .int (U j)]) nT2
        have hC2 := gT2 _ _ hC
        refine ⟨T2, _, rfl, SqT.of upd_same, rfl, _, _, rfl, _, _, rfl, rfl, ?_⟩
        refine ⟨_, rfl, _, rfl, _, rfl, _, _, rfl, rfl, ?_⟩
        refine ⟨sm, _, _, _, rfl, rfl, SqL.of hC2, by show (0 : Int) ≤ ((k : Nat) : Int) + ((j : Nat) : Int); omega, at_of (j := k + j) (by show ((k : Nat) : Int) + ((j : Nat) : Int) = _; omega) (by rw [List.getElem?_map, mkI_at (by omega)]; rfl), ?_⟩
        refine ⟨_, rfl, _, rfl, _, _, rfl, rfl, (ts k hk).cmul (us j hj) (by omega) (by omega) (by omega), ?_⟩
        refine ⟨_, _, rfl, rfl, ?_⟩
        refine ⟨sm, _, _, k + j, rfl, rfl, hC2, ?_, ?_⟩
        · show ixN ((mkI (m + n - 1) (cJ T U n k j)).map V.int).length (((k : Nat) : Int) + ((j : Nat) : Int)) = some (k + j)
          unfold ixN
          rw [List.length_map, mkI_len, if_pos (by omega), if_pos (by omega)]
          congr 1
        · refine ⟨_, _, rfl, ?_, ?_⟩
          · intro b2 o hb2
            rw [upd_ne (ne_of_none hb2 nsm2)]
            exact (sC.trans gT2) _ _ hb2
          · unfold IntL
            rw [upd_same]
            congr 2
            rw [show V.int (cJ T U n k j (k + j) + T k * U j) = V.int (cJ T U n k j (k + j) + T k * U j) from rfl, ← List.map_set, mkI_set]
            congr 1
            refine mkI_congr fun i hi => ?_
            rw [cJ_step]
            by_cases z : i = k + j
            · rw [if_pos z, if_pos z, z]
            · rw [if_neg z, if_neg z]
      · rintro σ HC ⟨z9, z10, rfl, sC, hC⟩
        rw [List.length_map, mkI_len] at hC
        refine ⟨_, _, _, _, rfl, sC, ?_⟩
        have e8 : mkI (m + n - 1) (cJ T U n k n) = mkI (m + n - 1) (cJ T U n (k + 1) 0) := mkI_congr fun i _ => cJ_full
        unfold IntL at hC ⊢
        rw [← e8]
        exact hC
    · rintro σ HB ⟨z7, z8, z9, z10, rfl, sB, hB⟩
      rw [List.length_map, mkI_len] at hB
      have hce : 0 < c * e := Int.mul_pos c0 e0
      have sce : Sm (s1 + s2) (c * e) := sc.mul se
      refine ⟨_, rfl, sm, rfl, ⟨_, SqL.of hB⟩, ?_⟩
      refine lc_mkW (K := K) (walk_list (K := K) (a := sm) (xs := (mkI (m + n - 1) (cJ T U n m 0)).map V.int)) (crossQ A' B m n) (by rw [List.length_map, mkI_len]; omega) (fun HE sE => SqL.of (sE _ _ hB)) (fun i v HE HE' R hi sE hY qr => ?_) (fun D2 HE sE hE => ?_)
      · obtain ⟨rfl, hv⟩ := hY
        rw [List.length_map, mkI_len] at hi
        rw [List.getElem?_map, mkI_at hi] at hv
        cases Option.some.inj hv
        refine ⟨rfl, _, rfl, _, rfl, _, rfl, _, _, rfl, rfl, sc.cmul se x0 x3 (by omega), ?_⟩
        refine tnil_go ?_
        exact rat_go (K := K) hce (sce.mono (m := 8000) (by omega)) (cJ_val tv uv) qr
      · rw [List.length_map, mkI_len] at hE
        exact q D2 HE (s1'.trans (s2'.trans (sB.trans sE))) hE
end

end Fp

set_option Elab.async false
set_option linter.all false
set_option maxRecDepth 100000
set_option maxHeartbeats 4000000
set_option exponentiation.threshold 10000
namespace Fp
open PySem PySem.Spec PyProof.Rows L2
/-! ### all chances together -/
structure Tot (row : List RT) (step : RT) (N E : Int) : Prop where
  nn : 0 ≤ N
  ee : 0 ≤ E
  pos : 0 < N + E
  le : N + E ≤ 255
  val : rowQ row + behQ row step = (N : Rat) / ((N + E : Int) : Rat)
theorem behQ_snoc (ys : List RT) (y step : RT) : behQ (ys ++ [y]) step = qv y * qv step / (1 - qv step) := by
  unfold behQ
  rw [List.getLast?_append]
  rfl
theorem rowQ_snoc (ys : List RT) (y : RT) : rowQ (ys ++ [y]) = rowQ ys + qv y := by
  unfold rowQ
  rw [List.map_append]
  exact sum_snoc _ _
theorem rowOf_sum {D k : Int} (hD : 0 < D) : ∀ ws : List Int, ((ws.map fun x => low2 (k * x) D).map qv).sum = ((k * ws.sum : Int) : Rat) / (D : Rat)
  | [] => by
    show (0 : Rat) = ((k * 0 : Int) : Rat) / _
    rw [Int.mul_zero]
    have := cast_ne (Int.ne_of_gt hD)
    show (0 : Rat) = 0 / _
    grind
  | x :: r => by
    have ih := rowOf_sum hD (k := k) r
    show qv (low2 (k * x) D) + ((r.map fun x => low2 (k * x) D).map qv).sum = _
    rw [ih, qv_low2 hD, List.sum_cons, Int.mul_add, Rat.intCast_add]
    have := cast_ne (Int.ne_of_gt hD)
    grind
theorem BaseLife.tot {row : List RT} {step : RT} (h : BaseLife row step) : ∃ N E, Tot row step N E := by
  rcases h with ⟨ws, extra, m, rfl⟩ | ⟨rfl, rfl⟩
  · obtain ⟨w0, w1⟩ := m.whole
    obtain ⟨s0, s1, s2, s3⟩ := m.step_ok
    have hS := sum_bound m.nn
    have hL := m.last
    have hE := m.ex
    refine ⟨(step.2 - step.1) * ws.sum + step.1 * lastW ws, (step.2 - step.1) * extra, ?_⟩
    have e : (step.2 - step.1) * ws.sum + step.1 * lastW ws + (step.2 - step.1) * extra = wholeOf ws extra step := by
      unfold wholeOf
      rw [Int.mul_add]
      omega
    refine ⟨Int.add_nonneg (Int.mul_nonneg (by omega) hS.1) (Int.mul_nonneg s0 (Int.le_of_lt hL)), Int.mul_nonneg (by omega) hE.1, by rw [e]; exact w0, by rw [e]; omega, ?_⟩
    rw [e]
    rcases snoc_cases ws with z | ⟨ys, y, z⟩
    · exact absurd z m.ne
    · have ey : lastW ws = y := by
        rw [z]
        unfold lastW
        simp
      have hr : rowQ (rowOf ws extra step) = (((step.2 - step.1) * ws.sum : Int) : Rat) / (wholeOf ws extra step : Rat) := rowOf_sum w0 ws
      have hb : behQ (rowOf ws extra step) step = ((step.1 * lastW ws : Int) : Rat) / (wholeOf ws extra step : Rat) := by
        have er : rowOf ws extra step = (ys.map fun x => low2 ((step.2 - step.1) * x) (wholeOf ws extra step)) ++ [low2 ((step.2 - step.1) * y) (wholeOf ws extra step)] := by
          show ws.map _ = _
          conv => lhs; rw [z]
          rw [List.map_append]
          rw [← z]
          rfl
        rw [er, behQ_snoc, qv_low2 w0, ey]
        have h1 := cast_ne (Int.ne_of_gt w0)
        have h2 := gap_val s3 s1
        have h3 := cast_ne (Int.ne_of_gt s3.1)
        rw [Rat.intCast_mul, Rat.intCast_mul, Rat.intCast_sub]
        unfold qv at *
        have h4 : (step.2 : Rat) - (step.1 : Rat) ≠ 0 := by
          intro z4
          apply h2
          grind
        grind
      rw [hr, hb, Rat.intCast_add]
      have h1 := cast_ne (Int.ne_of_gt w0)
      grind
  · refine ⟨0, 1, by decide, by decide, by decide, by decide, ?_⟩
    show (0 : Rat) + 0 = ((0 : Int) : Rat) / _
    show (0 : Rat) + 0 = 0 / _
    grind
theorem AnyLife.tot {row : List RT} {step : RT} (h : AnyLife row step) : ∃ N E, Tot row step N E := by
  have st := h.ok.1.st
  rcases h with h | ⟨row0, l, h, h5, hs, hl, rfl⟩ | ⟨row0, h, h5, rfl, hs⟩
  · exact h.tot
  · obtain ⟨N, E, t⟩ := h.tot
    obtain ⟨s1, s2, _, _⟩ := h.sm
    refine ⟨N, E, t.nn, t.ee, t.pos, t.le, ?_⟩
    rw [← t.val, rowQ_snoc, behQ_snoc, (qv_rT (s1 l (List.mem_of_getElem? hl)).1.1 s2.1).2]
    rcases snoc_cases row0 with z | ⟨ys, y, z⟩
    · rw [z] at hl
      simp at hl
    · have ey : l = y := by
        rw [z] at hl
        simpa using hl.symm
      rw [z, behQ_snoc, ← ey]
      have := gap_val st.1.1 st.2.2
      grind
  · obtain ⟨N, E, t⟩ := h.tot
    refine ⟨N, E, t.nn, t.ee, t.pos, t.le, ?_⟩
    rw [← t.val, rowQ_snoc, behQ_snoc, qv_nought]
    have hb : behQ row0 (0, 1) = 0 := by
      unfold behQ
      split
      · rfl
      · rw [qv_nought]
        grind
    rw [hb]
    grind

end Fp

set_option Elab.async false
set_option linter.all false
set_option maxRecDepth 100000
set_option maxHeartbeats 4000000
set_option exponentiation.threshold 10000
namespace Fp
open PySem PySem.Spec PyProof.Rows L2
/-! ### added: told as a tuple -/
section
variable {P : Program} {w : World} {K : PySem.W.Frag} {mg : Str → Option Value} {base : Heap}
def spOobT (K : PySem.W.Frag) : Sp := fun vs H Q _ => ∃ (p : Addr) (xs : List RT) (n d : Nat) (D : Int), vs = [.ref p] ∧ RowAt K H p xs ∧ Over1 n d D xs ∧ n ≤ 4000 ∧ d ≤ 4000 ∧
  ∀ z zl c H', Same H H' → H' z = some (.tup [.ref zl, .int c]) → H' zl = some (.lst ((topsOn c xs).map V.int)) → 0 < c → c ∣ D → (∀ x ∈ xs, x.2 ∣ c) → Q (.ref z) H'
theorem ok_oobT {f fC : Addr} {fd fdC : FuncData} (F : Fun K "on_one_bottom" "on_one_bottom" s_oob f fd) (FC : Fun K "common_divisor" "common_divisor" s_cd fC fdC) (bC : Binds K fdC ["one", "other"] []) (gC : mg "common_divisor" = some (.ref fC)) (ma : mg "abs" = none) :
    FnOk P w K mg base CX0 2 f fd ["told"] (spOobT K) := by
  have GC : FnOk P w K mg base CX0 1 fC fdC ["one", "other"] spCd := ok_cd FC ma
  refine F.ok sc_oob (fun vs H Q E h => ?_) (fun cdv A outer s H vs Q E hr h => ?_)
  · obtain ⟨_, _, _, _, _, rfl, _⟩ := h
    rfl
  · obtain ⟨p, xs, n, d, D, rfl, hlst, O, hn, hd, q⟩ := h
    obtain ⟨rs, r1, r2⟩ := id hlst
    have hl := r2.length
    refine ⟨_, (pss_cons (ps_set (i := 1) sc_oob.nd rfl (.inr rfl) pe_int) (pss_cons (ps_for PassesOwn.never rfl (pi_tup (pv 0)) (pg_tup rfl (pgs_cons (pg_name (i := 2) sc_oob.nd rfl (.inl rfl)) (pgs_cons (pg_name (i := 3) sc_oob.nd rfl (.inl rfl)) pgs_nil)))
          (pss_one (ps_set (i := 1) sc_oob.nd rfl (.inr rfl) (pe_op op_mulA (pe_op op_fdivA (pv 1) (pe_call GC hr (by rfl) gC FC.kp bC .nil pass0 (pa_cons (pv 1) (pa_cons (pv 3) pa_nil)))) (pv 3))))) (pss_one (ps_ret (pe_tup (pa_cons (pe_lc (own := [("top", 2), ("bottom", 3)]) (g := gTup K 2 (gCons (gName 2) (gCons (gName 3) gNil))) (tt := tYes) (te := tOp (rI CMulA fun i j => .int (i * j)) (tVar 2) (tOp (rI CDivA fun i j => .int (i.fdiv j)) (tVar 1) (tVar 3))) rfl sc_oob.nd (pi_tup (pv 0)) (blkOk_by (own := [("top", 2), ("bottom", 3)]) (N := N_oob) (sc := defScope s_oob) (by decide +kernel))
          (fun _ _ _ _ _ => pg_tup rfl (pgs_cons (pg_name (i := 2) sc_oob.nd rfl (.inl rfl)) (pgs_cons (pg_name (i := 3) sc_oob.nd rfl (.inl rfl)) pgs_nil))) (fun _ _ _ _ _ => pts_nil) (fun _ _ _ _ _ => pe_op op_mulA (pv 2) (pe_op op_fdivA (pv 1) (pv 3)))) (pa_cons (pv 1) pa_nil))))))), ?_⟩
    refine ⟨_, rfl, p, rfl, ⟨_, r1⟩, for_tup (K := K) (a := p) (xs := rs.map V.ref) (fun i σ H1 => H1 = H ∧ ∃ (c : Int) (y2 y3 : Option V), σ = [some (.ref p), some (.int c), y2, y3] ∧ 0 < c ∧ c ∣ D ∧ ∀ x ∈ xs.take i, x.2 ∣ c) ?_ ?_ ?_ ?_⟩
    · exact ⟨rfl, 1, _, _, rfl, by decide, Int.one_dvd D, fun x hx => by simp at hx⟩
    · rintro i σ H1 _ ⟨rfl, _⟩
      exact r1
    · rintro i y σ H1 hi ⟨rfl, c, y2, y3, rfl, c0, cD, hc⟩
      have hi2 : i < xs.length := by
        have := (List.getElem?_eq_some_iff.mp hi).1
        rw [List.length_map, hl] at this
        exact this
      have hg : xs[i]? = some xs[i] := List.getElem?_eq_getElem hi2
      obtain ⟨r, er, hr2⟩ := r2.get hg
      have ey : y = .ref r := by
        rw [List.getElem?_map, er] at hi
        exact (Option.some.inj hi).symm
      subst ey
      obtain ⟨b0, bD, _⟩ := O.ok xs[i] (List.getElem_mem hi2)
      have sc : Sm d c := dvd_small cD O.pos O.sm
      have sb : Sm d xs[i].2 := dvd_small bD O.pos O.sm
      have hg0 : 0 < Int.gcd c xs[i].2 := Nat.gcd_pos_of_pos_right _ (by omega)
      have hgs : Sm d ((Int.gcd c xs[i].2 : Nat) : Int) := by
        unfold Sm at *
        rw [Int.natAbs_natCast]
        exact Nat.lt_of_le_of_lt (Nat.gcd_le_right _ (by omega)) sb
      have d0 : 0 < d := by
        rcases Nat.eq_zero_or_pos d with z | z
        · rw [z] at sc
          unfold Sm at sc
          omega
        · exact z
      have hq1 : Sm d (c.fdiv ((Int.gcd c xs[i].2 : Nat) : Int)) := Nat.lt_of_le_of_lt (fdiv_le (by omega) (Int.gcd_dvd_left ..)) sc
      obtain ⟨k0, k1, k2, k3⟩ := lcm_ok c0 b0 cD bD
      refine ⟨r, _, rfl, hr2, rfl, _, _, rfl, _, _, rfl, rfl, ?_⟩
      refine ⟨_, rfl, _, rfl, _, rfl, c, xs[i].2, rfl, ?_⟩
      refine ⟨c, _, rfl, rfl, ⟨by omega, Nat.lt_of_lt_of_le (hgs.log d0) (by omega)⟩, _, rfl, _, _, rfl, rfl, hq1.cmul sb d0 d0 (by omega), rfl, _, _, _, rfl, k0, k1, fun x hx => ?_⟩
      rw [List.take_add_one, hg] at hx
      rcases List.mem_append.mp hx with z | z
      · exact Int.dvd_trans (hc x z) k2
      · rw [List.mem_singleton.mp z]
        exact k3
    · rintro σ H1 ⟨rfl, c, y2, y3, rfl, c0, cD, hc⟩
      rw [List.length_map, hl, List.take_length] at hc
      have sc : Sm d c := dvd_small cD O.pos O.sm
      have d0 : 0 < d := by
        rcases Nat.eq_zero_or_pos d with z | z
        · rw [z] at sc
          unfold Sm at sc
          omega
        · exact z
      refine ⟨_, rfl, p, rfl, ⟨_, r1⟩, fun R nR => ?_⟩
      have e1 := same_new (o := HO.lst []) nR
      refine lc_tup (K := K) (a := p) (xs := rs.map V.ref) (fun i H2 => Same H1 H2 ∧ H2 R = some (.lst ((topsOn c (xs.take i)).map V.int))) ?_ ?_ ?_ ?_
      · exact ⟨e1, upd_same⟩
      · rintro i H2 _ ⟨s2, _⟩
        exact sqT_same s2 r1
      · rintro i y H2 hi ⟨s2, hR⟩
        have hi2 : i < xs.length := by
          have := (List.getElem?_eq_some_iff.mp hi).1
          rw [List.length_map, hl] at this
          exact this
        have hg : xs[i]? = some xs[i] := List.getElem?_eq_getElem hi2
        obtain ⟨r, er, hr2⟩ := r2.get hg
        have ey : y = .ref r := by
          rw [List.getElem?_map, er] at hi
          exact (Option.some.inj hi).symm
        subst ey
        obtain ⟨b0, bD, sn⟩ := O.ok xs[i] (List.getElem_mem hi2)
        have sb : Sm d xs[i].2 := dvd_small bD O.pos O.sm
        have hdv := hc xs[i] (List.getElem_mem hi2)
        have ef : c.fdiv xs[i].2 = c / xs[i].2 := Int.fdiv_eq_ediv_of_nonneg _ (by omega)
        have sq : Sm d (c.fdiv xs[i].2) := Nat.lt_of_le_of_lt (fdiv_le b0 hdv) sc
        refine ⟨r, _, rfl, hr2.tk (Tk.same s2), rfl, _, _, rfl, _, _, rfl, rfl, rfl, tYes_go ?_⟩
        refine iteT ?_
        refine ⟨_, rfl, _, rfl, _, rfl, c, xs[i].2, rfl, rfl, ⟨by omega, Nat.lt_of_lt_of_le (sb.log d0) (by omega)⟩, _, _, rfl, rfl, (sn.mono (show n ≤ n + 1 by omega)).cmul sq (by omega) d0 (by omega), _, hR, ?_, ?_, ?_⟩
        · rw [List.length_map]
          unfold topsOn
          rw [List.length_map, List.length_take]
          have := O.len
          exact small1000 (by omega)
        · intro b o hb
          rw [upd_ne (ne_of_none hb nR)]
          exact s2 _ _ hb
        · rw [upd_same, List.take_add_one, hg]
          unfold topsOn
          rw [List.map_append, List.map_append, ef]
          rfl
      · rintro H2 ⟨s2, hR⟩
        rw [List.length_map, hl, List.take_length] at hR
        refine ⟨_, rfl, by show 2 ≤ sizeLine; decide, fun z nz => ?_⟩
        have e2 := same_new (o := HO.tup [.ref R, .int c]) nz
        exact q z R c _ (s2.trans e2) upd_same (e2 _ _ hR) c0 cD hc
def spAddedT (K : PySem.W.Frag) : Sp := fun vs H Q _ => ∃ (p : Addr) (xs : List RT) (n d : Nat) (D : Int), vs = [.ref p] ∧ RowAt K H p xs ∧ Over1 n d D xs ∧ n ≤ 4000 ∧ d ≤ 4000 ∧
  ∀ z x H', Same H H' → RAt K H' z x → Red x → qv x = (xs.map qv).sum → x.2 ∣ D → Sm (n + d + 11) x.1 → Q (.ref z) H'
theorem ok_addedT {f fO fR : Addr} {fd fdO fdR : FuncData} (F : Fun K "added" "added" s_added f fd) (FO : Fun K "on_one_bottom" "on_one_bottom" s_oob fO fdO) (bO : Binds K fdO ["told"] []) (gO : mg "on_one_bottom" = some (.ref fO)) (GO : FnOk P w K mg base CX0 2 fO fdO ["told"] (spOobT K))
    (FR : Fun K "ratio" "ratio" s_ratio fR fdR) (bR : Binds K fdR ["top", "bottom"] []) (gR : mg "ratio" = some (.ref fR)) (GR : FnOk P w K mg base CX0 2 fR fdR ["top", "bottom"] spRat0) (ms : mg "sum" = none) : FnOk P w K mg base CX0 3 f fd ["told"] (spAddedT K) := by
  refine F.ok sc_added (fun vs H Q E h => ?_) (fun cdv A outer s H vs Q E hr h => ?_)
  · obtain ⟨_, _, _, _, _, rfl, _⟩ := h
    rfl
  · obtain ⟨p, xs, n, d, D, rfl, hlst, O, hn, hd, q⟩ := h
    refine ⟨_, (pss_cons (ps_asg (pe_call GO hr (by rfl) gO FO.kp bO .nil pass0 (pa_cons (pv 0) pa_nil)) (pg_tup rfl (pgs_cons (pg_name (i := 1) sc_added.nd rfl (.inl rfl)) (pgs_cons (pg_name (i := 2) sc_added.nd rfl (.inl rfl)) pgs_nil)))) (pss_one (ps_ret (pe_call GR hr (by rfl) gR FR.kp bR .nil pass0 (pa_cons (pe_callB (cr_sum rfl) (by rfl) ms (by decide +kernel) (pa_cons (pv 1) pa_nil)) (pa_cons (pv 2) pa_nil)))))), ?_⟩
    refine ⟨_, rfl, p, xs, n, d, D, rfl, hlst, O, hn, hd, fun z zl c H1 s1 hz hzl c0 cD hc => ?_⟩
    refine ⟨z, _, rfl, SqT.of hz, rfl, _, _, rfl, _, _, rfl, rfl, ?_⟩
    have sc : Sm d c := dvd_small cD O.pos O.sm
    refine ⟨_, rfl, zl, _, rfl, SqL.of hzl, _, rfl, _, c, rfl, sc.mono (show d ≤ 8000 by omega), Int.ne_of_gt c0, fun y ny => ?_⟩
    have e := same_new (o := HO.tup [.int (ratT (topsOn c xs).sum c), .int (ratB (topsOn c xs).sum c)]) ny
    have red : Red (low2 (topsOn c xs).sum c) := low2_red (Int.ne_of_gt c0)
    have val : qv (low2 (topsOn c xs).sum c) = (((topsOn c xs).sum : Int) : Rat) / (c : Rat) := qv_low2 c0
    obtain ⟨y1, y2⟩ := red_small red c0 val
    refine q y (low2 (topsOn c xs).sum c) _ (s1.trans e) (SqT.of upd_same) red (val.trans (tops_sum c0 fun x hx => ⟨(O.ok x hx).1, hc x hx⟩)) (Int.dvd_trans y1 cD) ?_
    have t := tops_sm (n := n) c0 O.pos cD O.sm (xs := xs) fun x hx => ⟨(O.ok x hx).1, (O.ok x hx).2.2⟩
    have hlen := O.len
    unfold Sm
    have t2 : xs.length * 2 ^ (n + d) ≤ 1000 * 2 ^ (n + d) := Nat.mul_le_mul_right _ hlen
    have t3 : 2 ^ (n + d + 11) = 2048 * 2 ^ (n + d) := by rw [Nat.pow_add, Nat.mul_comm]
    have t4 : 0 < 2 ^ (n + d) := Nat.pow_pos (by decide)
    omega
theorem addT_go {H : Hp} {Q : VK} {p : Addr} {P : Int} {n s k : Nat} {f : Nat → Rat} (h : RowAt K H p (mkL n f)) (hP : 0 < P) (sP : Sm s P) (z : ∀ j, j < n → Sz P k (f j)) (hn : n ≤ 1000) (hs : s ≤ 2500) (hk : k ≤ 900)
    (q : ∀ r H', Same H H' → RAt K H' r (rdq (sumTo n f)) → Q (.ref r) H') : spAddedT K [.ref p] H Q E0 := by
  refine ⟨p, _, _, _, P, rfl, h, over_mkL hP sP z hn, by omega, by omega, fun y x HF sF hy rx vx _ _ => ?_⟩
  have ex : x = rdq (sumTo n f) := is_rdq rx (by rw [vx, mkL_sum])
  rw [ex] at hy
  exact q y HF sF hy
end

end Fp

set_option Elab.async false
set_option linter.all false
set_option maxRecDepth 100000
set_option maxHeartbeats 4000000
set_option exponentiation.threshold 10000
namespace Fp
open PySem PySem.Spec PyProof.Rows L2
/-! ### what laws need of a life -/
structure LF (row : List RT) (step : RT) : Prop where
  ok : LifeOk 20 row step
  len : row.length ≤ 7
  nil : row = [] → step = (0, 1)
  w : ∃ W, WOk W row
  ch : ∃ D, Ch01 D (chR row step) 20
  tot : ∃ N E, Tot row step N E
theorem AnyLife.lf {row : List RT} {step : RT} (h : AnyLife row step) : LF row step := ⟨h.ok.1, h.ok.2.1, h.ok.2.2, h.w, h.ch01, h.tot⟩
theorem ch01_of {row : List RT} {step : RT} {W : Int} (hW : WOk W row) (L : LifeOk 20 row step) (q1 : ∀ x ∈ row, 0 ≤ qv x ∧ qv x ≤ 1) (q2 : 0 ≤ qv step ∧ qv step ≤ 1) (s4 : 0 < step.2 ∧ step.2 ≤ 4) : Ch01 (W * step.2 ^ 20) (chR row step) 20 := by
  have sm20 : Sm 41 (step.2 ^ 20) := by
    obtain ⟨z1, z2⟩ := pow_four s4 20
    have e : (4 : Int) ^ 20 = 1099511627776 := by decide
    have e2 : (2 : Nat) ^ 41 = 2199023255552 := by decide
    unfold Sm
    rw [e2]
    rw [e] at z2
    omega
  have hD : 0 < W * step.2 ^ 20 := Int.mul_pos hW.pos (Int.pow_pos L.st.1.1.1)
  refine ⟨hD, (hW.sm.mul (show Sm 41 (step.2 ^ 20) from sm20)).mono (by decide), fun k _ => (chR_01 q1 q2 k).1, fun k _ => (chR_01 q1 q2 k).2, fun k hk => ?_⟩
  obtain ⟨x, sx, vx⟩ := ch_ex L k
  rw [← vx]
  exact Den.of hD sx.1.1 (ch_dvdW hW.dvd L.sm L.st.1.1 sx.1 vx hk)
theorem LF.sh {row : List RT} {step : RT} (h : LF row step) : Sh 500000 3 (lifeD row step) := Sh.life (n := 1900) (by decide) (fun x hx => (h.ok.sm x hx).mono (by decide)) (h.ok.st.1.mono (by decide)) (by have := h.len; omega)
theorem LF.small {row : List RT} {step : RT} {W N E : Int} (h1 : ∀ y ∈ row, SmR 20 y ∧ y.2 ∣ W ∧ 0 ≤ qv y ∧ qv y ≤ 1) (hW : 0 < W) (sW : Sm 14 W) (hs : StepOk 5 step) (hl : row.length ≤ 7) (hn : row ≠ []) (q2 : 0 ≤ qv step ∧ qv step ≤ 1) (s4 : 0 < step.2 ∧ step.2 ≤ 4) (t : Tot row step N E) : LF row step := by
  have L : LifeOk 20 row step := ⟨fun y hy => (h1 y hy).1, hs, by omega, by decide, by decide⟩
  have w : WOk W row := ⟨hW, sW, fun y hy => (h1 y hy).2.1⟩
  exact ⟨L, hl, fun z => absurd z hn, ⟨W, w⟩, ⟨_, ch01_of w L (fun x hx => (h1 x hx).2.2) q2 s4⟩, ⟨N, E, t⟩⟩

end Fp

set_option Elab.async false
set_option linter.all false
set_option maxRecDepth 100000
set_option maxHeartbeats 4000000
set_option exponentiation.threshold 10000
namespace Fp
open PySem PySem.Spec PyProof.Rows L2
/-- what is needed to stand side by side -/
structure LF0 (row : List RT) (step : RT) : Prop where
  ok : LifeOk 20 row step
  w : ∃ W, WOk W row
  ch : ∃ D, Ch01 D (chR row step) 20
theorem LF.lf0 {row : List RT} {step : RT} (h : LF row step) : LF0 row step := ⟨h.ok, h.w, h.ch⟩
/-! ### how many of several: one behind the other -/
def prevF (A : Nat → Rat) : Nat → Rat
  | 0 => 0
  | n + 1 => A n
def mixF (A : Nat → Rat) (c : Rat) (n : Nat) : Rat := (1 - c) * A n + c * prevF A n
def polyQ (cs : List Rat) : Nat → Rat := cs.foldl mixF oneAt
theorem polyQ_snoc (cs : List Rat) (c : Rat) : polyQ (cs ++ [c]) = mixF (polyQ cs) c := by
  unfold polyQ
  rw [List.foldl_append]
  rfl
theorem poly_far : ∀ (k : Nat) (cs : List Rat), cs.length = k → ∀ n, k < n → polyQ cs n = 0
  | 0, cs, h, n, hn => by
    rw [List.length_eq_zero_iff.mp h]
    exact if_neg (by omega)
  | k + 1, cs, h, n, hn => by
    rcases List.eq_nil_or_concat cs with z | ⟨ds, c, z⟩
    · rw [z] at h
      cases h
    · rw [List.concat_eq_append] at z
      subst z
      rw [List.length_append] at h
      have hk : ds.length = k := by
        have : ds.length + 1 = k + 1 := h
        omega
      rw [polyQ_snoc]
      unfold mixF
      rw [poly_far k ds hk n (by omega)]
      cases n with
      | zero => omega
      | succ n =>
        show (1 - c) * 0 + c * polyQ ds n = 0
        rw [poly_far k ds hk n (by omega)]
        grind
theorem mixF_comm (A : Nat → Rat) (c d : Rat) : mixF (mixF A c) d = mixF (mixF A d) c := by
  funext n
  unfold mixF
  match n with
  | 0 =>
    show (1 - d) * ((1 - c) * A 0 + c * 0) + d * 0 = (1 - c) * ((1 - d) * A 0 + d * 0) + c * 0
    grind
  | 1 =>
    show (1 - d) * ((1 - c) * A 1 + c * A 0) + d * ((1 - c) * A 0 + c * 0) = (1 - c) * ((1 - d) * A 1 + d * A 0) + c * ((1 - d) * A 0 + d * 0)
    grind
  | n + 2 =>
    show (1 - d) * ((1 - c) * A (n + 2) + c * A (n + 1)) + d * ((1 - c) * A (n + 1) + c * A n) = (1 - c) * ((1 - d) * A (n + 2) + d * A (n + 1)) + c * ((1 - d) * A (n + 1) + d * A n)
    grind
theorem fold_mix (c : Rat) : ∀ (cs : List Rat) (A : Nat → Rat), cs.foldl mixF (mixF A c) = mixF (cs.foldl mixF A) c
  | [], _ => rfl
  | d :: r, A => by
    show r.foldl mixF (mixF (mixF A c) d) = mixF (r.foldl mixF (mixF A d)) c
    rw [mixF_comm, fold_mix c r]
theorem poly_rev : ∀ cs : List Rat, polyQ cs.reverse = polyQ cs
  | [] => rfl
  | c :: r => by
    rw [List.reverse_cons, polyQ_snoc, poly_rev r]
    show _ = r.foldl mixF (mixF oneAt c)
    rw [fold_mix]
    rfl
/-- crossed with the two of one more -/
theorem cross_poly {cs : List Rat} {c : Rat} {B : Nat → Rat} (h0 : B 0 = 1 - c) (h1 : B 1 = c) {i : Nat} (hi : i < cs.length + 2) : crossQ (polyQ cs) B (cs.length + 1) 2 i = mixF (polyQ cs) c i := by
  have key : ∀ m, m ≤ cs.length + 1 → (sumTo m fun k => if k ≤ i ∧ i < k + 2 then polyQ cs k * B (i - k) else 0) = (if i < m then polyQ cs i * (1 - c) else 0) + if 1 ≤ i ∧ i ≤ m then polyQ cs (i - 1) * c else 0 := by
    intro m
    induction m with
    | zero =>
      intro _
      rw [sumTo_zero, if_neg (by omega), if_neg (by omega)]
      grind
    | succ m ih =>
      intro hm
      rw [sumTo_succ, ih (by omega)]
      rcases (by omega : i < m ∨ i = m ∨ i = m + 1 ∨ m + 1 < i) with z | z | z | z
      · rw [if_neg (show ¬ (m ≤ i ∧ i < m + 2) by omega), if_pos z, if_pos (show i < m + 1 by omega)]
        by_cases y : 1 ≤ i
        · rw [if_pos (show 1 ≤ i ∧ i ≤ m by omega), if_pos (show 1 ≤ i ∧ i ≤ m + 1 by omega)]
          grind
        · rw [if_neg (by omega), if_neg (by omega)]
          grind
      · rw [if_pos (show m ≤ i ∧ i < m + 2 by omega), if_neg (show ¬ i < m by omega), if_pos (show i < m + 1 by omega), show i - m = 0 by omega, h0, show polyQ cs m = polyQ cs i by rw [z]]
        by_cases y : 1 ≤ i
        · rw [if_pos (show 1 ≤ i ∧ i ≤ m by omega), if_pos (show 1 ≤ i ∧ i ≤ m + 1 by omega)]
          grind
        · rw [if_neg (by omega), if_neg (by omega)]
          grind
      · rw [if_pos (show m ≤ i ∧ i < m + 2 by omega), if_neg (show ¬ i < m by omega), if_neg (show ¬ i < m + 1 by omega), if_neg (show ¬ (1 ≤ i ∧ i ≤ m) by omega), if_pos (show 1 ≤ i ∧ i ≤ m + 1 by omega), show i - m = 1 by omega, h1, show i - 1 = m by omega]
        grind
      · rw [if_neg (show ¬ (m ≤ i ∧ i < m + 2) by omega), if_neg (show ¬ i < m by omega), if_neg (show ¬ i < m + 1 by omega), if_neg (show ¬ (1 ≤ i ∧ i ≤ m) by omega), if_neg (show ¬ (1 ≤ i ∧ i ≤ m + 1) by omega)]
        grind
  unfold crossQ
  rw [key _ (Nat.le_refl _)]
  unfold mixF
  rcases (by omega : i < cs.length + 1 ∨ i = cs.length + 1) with z | z
  · rw [if_pos z]
    cases i with
    | zero =>
      rw [if_neg (by omega)]
      show _ = (1 - c) * polyQ cs 0 + c * 0
      grind
    | succ i =>
      rw [if_pos (by omega)]
      show polyQ cs (i + 1) * (1 - c) + polyQ cs i * c = (1 - c) * polyQ cs (i + 1) + c * polyQ cs i
      grind
  · rw [if_neg (by omega), if_pos (by omega), poly_far cs.length cs rfl i (by omega), z]
    show (0 : Rat) + polyQ cs cs.length * c = (1 - c) * 0 + c * polyQ cs cs.length
    grind
/-! ### how great: puts over a small number's power -/
structure Gok (G : Int) (a : Nat → Rat) (M : Nat) : Prop where
  pos : 0 < G
  sm : Sm 17 G
  ge : ∀ k, k < M → 0 ≤ a k
  le : ∀ k, k < M → a k ≤ 1
  den : ∀ k, k < M → Den G (k + 1) (a k)
theorem Gok.put {G : Int} {a : Nat → Rat} {M : Nat} (h : Gok G a M) : ∀ n, n ≤ M → Den G n (renQ a oneAt n) := by
  intro n
  induction n using Nat.strongRecOn with
  | ind n ih =>
    intro hn
    rw [renQ_is]
    refine Den.add h.pos ?_ (Den.sum h.pos fun j hj => ?_)
    · unfold oneAt
      split
      · rename_i z
        subst z
        exact ⟨1, by
          rw [Int.pow_zero]
          grind⟩
      · exact Den.zero
    · have := (h.den j (by omega)).mul h.pos (ih (n - 1 - j) (by omega) (by omega))
      rw [show j + 1 + (n - 1 - j) = n by omega] at this
      exact this
theorem LF0.gok {row : List RT} {step : RT} (h : LF0 row step) (s4 : 0 < step.2 ∧ step.2 ≤ 4) : ∃ G, Gok G (chR row step) 20 := by
  obtain ⟨W, hW⟩ := h.w
  obtain ⟨D, C1⟩ := h.ch
  have hG : 0 < W * step.2 := Int.mul_pos hW.pos s4.1
  refine ⟨W * step.2, hG, (hW.sm.mul (show Sm 3 step.2 by unfold Sm; omega)), C1.ge, C1.le, fun k hk => ?_⟩
  obtain ⟨x, sx, vx⟩ := ch_ex h.ok k
  have d1 := ch_dvdW hW.dvd h.ok.sm h.ok.st.1.1 sx.1 vx (Nat.lt_succ_self k)
  have d2 : x.2 ∣ (W * step.2) ^ (k + 1) := by
    refine Int.dvd_trans d1 ?_
    rw [Int.mul_pow]
    refine Int.mul_dvd_mul ?_ (Int.dvd_refl _)
    rw [Int.pow_succ]
    exact Int.dvd_mul_left ..
  rw [← vx]
  exact ⟨_, qv_over sx.1.1 d2 (Int.pow_pos hG)⟩
theorem Gok.sz {G : Int} {a : Nat → Rat} (h : Gok G a 20) {D : Int} (C1 : Ch01 D a 20) {n : Nat} (hn : n ≤ 20) : Sz (G ^ 20) 20 (renQ a oneAt n) := by
  obtain ⟨x1, x2, _⟩ := C1.put n hn
  exact (Sz.pos ((h.put n hn).mono h.pos hn).ov x1 x2).mono hn

end Fp

set_option Elab.async false
set_option linter.all false
set_option maxRecDepth 100000
set_option maxHeartbeats 4000000
set_option exponentiation.threshold 10000
namespace Fp
open PySem PySem.Spec PyProof.Rows L2
/-! ### together -/
abbrev s_tog : Stmt := topS 25
abbrev N_tog : List Str := ["lives", "beat", "told", "life", "chance"]
theorem sc_tog : FnScope N_tog ["lives", "beat"] (defScope s_tog) := ⟨rfl, rfl, rfl, by decide +kernel, rfl, by decide +kernel, by decide +kernel⟩
section
variable {P : Program} {w : World} {K : PySem.W.Frag} {mg : Str → Option Value} {base : Heap} {aN aO : Addr}
abbrev LV := List RT × RT
def LvA (K : PySem.W.Frag) (H : Hp) (r : Addr) (y : LV) : Prop := LifeAt K H r y.1 y.2
theorem lva_stays : Stays K (LvA K) := fun _ _ _ _ e h => LifeAt.tk h e
/-- lives that may stand side by side -/
structure SideOk (y : LV) : Prop where
  lf : LF0 y.1 y.2
  st : 0 < y.2.2 ∧ y.2.2 ≤ 4
def putAt (beat : Nat) (y : LV) : Rat := putQ y.1 y.2 beat
/-- the number under all of some -/
theorem side_P {beat : Nat} (hb : beat ≤ 20) : ∀ (ys : List LV), ys.length ≤ 4 → (∀ y ∈ ys, SideOk y) → ∃ P : Int, 0 < P ∧ Sm (341 * ys.length + 1) P ∧ ∀ n, Sz P (22 * ys.length) (polyQ (ys.map (putAt beat)) n) := by
  have key : ∀ (k : Nat) (ys : List LV), ys.length = k → k ≤ 4 → (∀ y ∈ ys, SideOk y) → ∃ P : Int, 0 < P ∧ Sm (341 * k + 1) P ∧ ∀ n, Sz P (22 * k) (polyQ (ys.map (putAt beat)) n) := by
    intro k
    induction k with
    | zero =>
      intro ys hl _ _
      rw [List.length_eq_zero_iff.mp hl]
      refine ⟨1, by decide, by unfold Sm; decide, fun n => ?_⟩
      show Sz 1 0 (oneAt n)
      unfold oneAt
      split
      · exact Sz.one (by decide)
      · exact Sz.nought
    | succ k ih =>
      intro ys hl hk hy
      rcases List.eq_nil_or_concat ys with z | ⟨zs, y, z⟩
      · rw [z] at hl
        cases hl
      · rw [List.concat_eq_append] at z
        subst z
        have hzl : zs.length = k := by
          rw [List.length_append] at hl
          have : zs.length + 1 = k + 1 := hl
          omega
        obtain ⟨P, p0, ps, pz⟩ := ih zs hzl (by omega) fun u hu => hy u (List.mem_append_left _ hu)
        have so := hy y (List.mem_append_right _ (List.mem_singleton.mpr rfl))
        obtain ⟨G, g⟩ := so.lf.gok so.st
        obtain ⟨D, C1⟩ := so.lf.ch
        have c1 := g.sz C1 hb
        have hG : 0 < G ^ 20 := Int.pow_pos g.pos
        have c2 : Sz (G ^ 20) 21 (1 - putAt beat y) := by
          have := Sz.add hG ((Sz.one (k := 20) hG)) c1.neg
          rw [show (1 : Rat) - putAt beat y = 1 + -renQ (chR y.1 y.2) oneAt beat by unfold putAt putQ; grind]
          exact this
        refine ⟨P * G ^ 20, Int.mul_pos p0 hG, (ps.mul (sm_pow g.sm (by decide) 20)).mono (by omega), fun n => ?_⟩
        rw [List.map_append, show [y].map (putAt beat) = [putAt beat y] from rfl, polyQ_snoc]
        unfold mixF
        have a1 := (pz n).mul p0 hG c2
        have a2 : Sz (P * G ^ 20) (22 * k + 21) (prevF (polyQ (zs.map (putAt beat))) n * putAt beat y) := by
          cases n with
          | zero =>
            rw [show prevF (polyQ (zs.map (putAt beat))) 0 * putAt beat y = 0 by show (0 : Rat) * _ = 0; grind]
            exact Sz.nought
          | succ n => exact ((pz n).mul p0 hG c1).mono (by omega)
        have a3 := Sz.add (Int.mul_pos p0 hG) a1 a2
        rw [show (1 - putAt beat y) * polyQ (zs.map (putAt beat)) n + putAt beat y * prevF (polyQ (zs.map (putAt beat))) n = polyQ (zs.map (putAt beat)) n * (1 - putAt beat y) + prevF (polyQ (zs.map (putAt beat))) n * putAt beat y by grind]
        exact a3.mono (by omega)
  exact fun ys h4 hy => key ys.length ys rfl h4 hy
def spTog (K : PySem.W.Frag) : Sp := fun vs H Q _ => ∃ (p : Addr) (ps : List Addr) (ys : List LV) (beat : Nat), vs = [.ref p, .int (beat : Int)] ∧ SqT K H p (ps.map V.ref) ∧ Obs (LvA K) H ps ys ∧ (∀ y ∈ ys, SideOk y) ∧ ys.length ≤ 4 ∧ beat ≤ 20 ∧
  ∀ z H', Same H H' → RowAt K H' z (mkL (ys.length + 1) (polyQ (ys.map (putAt beat)))) → Q (.ref z) H'
theorem ok_tog {f fPU fCR fM : Addr} {fd fdPU fdCR fdM : FuncData} (F : Fun K "together" "together" s_tog f fd) (C : Consts K mg aN aO)
    (FPU : Fun K "puts" "puts" s_puts fPU fdPU) (bPU : Binds K fdPU ["life", "most"] []) (gPU : mg "puts" = some (.ref fPU)) (GPU : FnOk P w K mg base CX0 5 fPU fdPU ["life", "most"] (spPuts K))
    (FCR : Fun K "crossed" "crossed" s_crossed fCR fdCR) (bCR : Binds K fdCR ["ones", "others"] []) (gCR : mg "crossed" = some (.ref fCR)) (GCR : FnOk P w K mg base CX0 3 fCR fdCR ["ones", "others"] (spCrossed K))
    (FM : Fun K "minus" "minus" s_minus fM fdM) (bM : Binds K fdM ["one", "other"] []) (gM : mg "minus" = some (.ref fM)) (GM : FnOk P w K mg base CX0 3 fM fdM ["one", "other"] (spTwo K (fun a b c d => a * d - c * b)))
    (n_tuple : mg "tuple" = none) : FnOk P w K mg base CX0 6 f fd ["lives", "beat"] (spTog K) := by
  refine F.ok sc_tog (fun vs H Q E h => ?_) (fun cdv A outer s H vs Q E hr h => ?_)
  · obtain ⟨_, _, _, _, rfl, _⟩ := h
    rfl
  · obtain ⟨p, ps, ys, beat, rfl, hp, hps, hy, h4, hb, q⟩ := h
    refine ⟨_, (pss_cons (ps_set (i := 2) sc_tog.nd rfl (.inl rfl) (pe_lst (pa_cons (pe_glob (v := .ref aO) rfl C.gO rfl) pa_nil)))
      (pss_cons (ps_for PassesOwn.never rfl (pi_tup (pv 0)) (pg_name (i := 3) sc_tog.nd rfl (.inl rfl)) (pss_cons (ps_set (i := 4) sc_tog.nd rfl (.inl rfl) (pe_ix ix_tup (pe_call GPU hr (by rfl) gPU FPU.kp bPU .nil pass0 (pa_cons (pv 3) (pa_cons (pv 1) pa_nil))) (pv 1) (fun _ _ => rfl)))
      (pss_one (ps_set (i := 2) sc_tog.nd rfl (.inl rfl) (pe_call GCR (hr.mono (by decide)) (by rfl) gCR FCR.kp bCR .nil pass0 (pa_cons (pv 2) (pa_cons (pe_lst (pa_cons (pe_call GM (hr.mono (by decide)) (by rfl) gM FM.kp bM .nil pass0 (pa_cons (pe_glob (v := .ref aO) rfl C.gO rfl) (pa_cons (pv 4) pa_nil))) (pa_cons (pv 4) pa_nil))) pa_nil)))))))
      (pss_one (ps_ret (pe_callTy call_tuple_of (by rfl) n_tuple (by decide +kernel) (pa_cons (pv 2) pa_nil)))))), ?_⟩
    have one : rdq 1 = (1, 1) := (is_rdq one_red qv_one).symm
    have hpl := hps.1
    refine ⟨by show 1 ≤ sizeLine; decide, fun t0 m0 => ?_⟩
    have e0 := same_new (o := HO.lst [.ref aO]) m0
    refine ⟨_, rfl, p, rfl, ⟨_, sqT_same e0 hp⟩, ?_⟩
    refine for_tup (K := K) (a := p) (xs := ps.map V.ref) (fun i σ HB => ∃ (z3 z4 : Option V) (tl : Addr), σ = [some (.ref p), some (.int (beat : Int)), some (.ref tl), z3, z4] ∧ Same H HB ∧ LsM K HB tl (mkL (i + 1) (polyQ ((ys.take i).map (putAt beat))))) ?_ ?_ ?_ ?_
    · refine ⟨none, none, t0, rfl, e0, [aO], upd_same, ?_⟩
      show RsAt K _ [aO] [rdq (oneAt 0)]
      rw [show oneAt 0 = 1 from rfl, one]
      exact .cons (C.tO _) .nil
    · rintro i σ HB _ ⟨_, _, _, rfl, sB, _⟩
      exact sqT_same sB hp
    · rintro i v σ HB hv ⟨z3, z4, tl, rfl, sB, htl⟩
      have hi : i < ys.length := by
        have := (List.getElem?_eq_some_iff.mp hv).1
        rw [List.length_map, hpl] at this
        exact this
      obtain ⟨y, ey⟩ : ∃ y, ys[i]? = some y := ⟨_, List.getElem?_eq_getElem hi⟩
      obtain ⟨r, er, hr2⟩ := hps.get ey
      rw [List.getElem?_map, er] at hv
      cases Option.some.inj hv
      have so := hy y (List.mem_of_getElem? ey)
      obtain ⟨W, hW⟩ := so.lf.w
      obtain ⟨D, C1⟩ := so.lf.ch
      obtain ⟨G, g⟩ := so.lf.gok so.st
      have hr3 : LifeAt K HB r y.1 y.2 := LifeAt.tk hr2 (Tk.same sB)
      have htk : (ys.take i).length = i := by rw [List.length_take]; omega
      obtain ⟨P1, p0, psm, pz⟩ := side_P hb (ys.take i) (by omega) fun u hu => hy u (List.mem_of_mem_take hu)
      rw [htk] at psm pz
      have c1 : Sz (G ^ 20) 20 (putAt beat y) := g.sz C1 hb
      have hG : 0 < G ^ 20 := Int.pow_pos g.pos
      have sG : Sm 341 (G ^ 20) := sm_pow g.sm (by decide) 20
      have c2 : Sz (G ^ 20) 21 (1 - putAt beat y) := by
        have := Sz.add hG ((Sz.one (k := 20) hG)) c1.neg
        rw [show (1 : Rat) - putAt beat y = 1 + -putAt beat y by grind]
        exact this
      refine ⟨_, rfl, _, rfl, r, y.1, y.2, 20, beat, W, rfl, hr3, so.lf.ok, hW, hb, fun z HC sC hz => ?_⟩
      refine ⟨_, rfl, ?_⟩
      refine ix_row (K := K) (j := beat) (x := rdq (putAt beat y)) hz rfl (by rw [List.getElem?_map, List.getElem?_range (by omega)]; rfl) fun rc hrc => ?_
      have smC : SmR 3000 (rdq (putAt beat y)) := c1.smr hG sG (by decide)
      refine ⟨_, rfl, _, rfl, ?_⟩
      refine tnil_go ?_
      refine minus_go (x := 1) (y := putAt beat y) (by rw [one]; exact C.tO _) hrc (by rw [one]; exact ⟨one_red, by unfold Sm; decide, by unfold Sm; decide⟩) smC fun rm HD sD hrm => ?_
      refine ⟨_, rfl, by show 2 ≤ sizeLine; decide, fun b nb => ?_⟩
      have e5 := same_new (o := HO.lst [.ref rm, .ref rc]) nb
      have hls : LsM K (upd HD b (.lst [.ref rm, .ref rc])) b (mkL 2 fun i => if i = 0 then 1 - putAt beat y else putAt beat y) :=
        ⟨[rm, rc], upd_same, .cons (hrm.tk (Tk.same e5)) (.cons (hrc.tk (Tk.same (sD.trans e5))) .nil)⟩
      refine ⟨tl, b, i + 1, 2, 341 * i + 1, 22 * i, 341, 21, _, _, P1, G ^ 20, rfl, htl.same (sC.trans (sD.trans e5)), hls, ⟨p0, psm, fun j _ => pz j⟩, ⟨hG, sG, fun j hj => ?_⟩, ⟨by omega, by omega, by decide, by decide⟩, ⟨by omega, by omega, by omega, by decide, by decide, by decide⟩, fun z2 HE sE hz2 => ?_⟩
      · split
        · exact c2
        · exact c1.mono (by decide)
      refine ⟨_, _, z2, rfl, sB.trans (sC.trans (sD.trans (e5.trans sE))), ?_⟩
      have e6 : mkL (i + 1 + 2 - 1) (crossQ (polyQ ((ys.take i).map (putAt beat))) (fun i => if i = 0 then 1 - putAt beat y else putAt beat y) (i + 1) 2) = mkL (i + 1 + 1) (polyQ ((ys.take (i + 1)).map (putAt beat))) := by
        rw [show i + 1 + 2 - 1 = i + 1 + 1 by omega]
        refine mkL_congr fun m hm => ?_
        have hcl : ((ys.take i).map (putAt beat)).length = i := by rw [List.length_map, htk]
        have := cross_poly (cs := (ys.take i).map (putAt beat)) (c := putAt beat y) (B := fun i => if i = 0 then 1 - putAt beat y else putAt beat y) rfl rfl (i := m) (by rw [hcl]; omega)
        rw [hcl] at this
        rw [this, List.take_add_one, ey, List.map_append]
        show _ = polyQ (_ ++ [putAt beat y]) m
        rw [polyQ_snoc]
      rw [e6] at hz2
      exact hz2
    · rintro σ HB ⟨z3, z4, tl, rfl, sB, htl⟩
      rw [List.length_map, hpl, List.take_length] at htl
      obtain ⟨us, hu1, hu2⟩ := htl
      refine ⟨_, rfl, tl, _, rfl, .inl ⟨SqL.of hu1, fun l nl => ?_⟩⟩
      have e9 := same_new (o := HO.tup (us.map V.ref)) nl
      exact q l _ (sB.trans e9) (RowAt.of_ls hu1 hu2 nl)
end

end Fp

set_option Elab.async false
set_option linter.all false
set_option maxRecDepth 100000
set_option maxHeartbeats 4000000
set_option exponentiation.threshold 10000
namespace Fp
open PySem PySem.Spec PyProof.Rows L2
/-! ### lives cut, folded, later -/
abbrev s_cut : Stmt := topS 34
abbrev s_folded : Stmt := topS 35
abbrev s_later : Stmt := topS 36
theorem sc_cut : FnScope ["life", "most"] ["life", "most"] (defScope s_cut) := ⟨rfl, rfl, rfl, by decide +kernel, rfl, by decide +kernel, by decide +kernel⟩
theorem sc_folded : FnScope ["life", "many", "told", "chance"] ["life", "many"] (defScope s_folded) := ⟨rfl, rfl, rfl, by decide +kernel, rfl, by decide +kernel, by decide +kernel⟩
theorem sc_later : FnScope ["life", "by", "row", "step"] ["life", "by"] (defScope s_later) := ⟨rfl, rfl, rfl, by decide +kernel, rfl, by decide +kernel, by decide +kernel⟩
section
variable {P : Program} {w : World} {K : PySem.W.Frag} {mg : Str → Option Value} {base : Heap} {aN aO : Addr}
def spCut (K : PySem.W.Frag) : Sp := fun vs H Q _ => ∃ (p : Addr) (row : List RT) (step : RT) (n m : Nat), vs = [.ref p, .int ((m : Int) + 1)] ∧ LifeAt K H p row step ∧ LifeOk n row step ∧ m ≤ 70 ∧
  ∀ z H', Same H H' → LifeAt K H' z (shortL (cutR row step m) (0, 1)).1 (shortL (cutR row step m) (0, 1)).2 → Q (.ref z) H'
theorem ok_cut {f fS fH fG : Addr} {fd fdS fdH fdG : FuncData} (F : Fun K "cut_at" "cut_at" s_cut f fd) (C : Consts K mg aN aO)
    (FS : Fun K "short" "short" s_short fS fdS) (bS : Binds K fdS ["life"] []) (gS : mg "short" = some (.ref fS)) (GS : FnOk P w K mg base CX0 5 fS fdS ["life"] (spShort K))
    (FH : Fun K "chances_to" "chances_to" s_chto fH fdH) (bH : Binds K fdH ["life", "most"] []) (gH : mg "chances_to" = some (.ref fH)) (GH : FnOk P w K mg base CX0 4 fH fdH ["life", "most"] (spChto K))
    (FG : Fun K "lasting" "lasting" s_lasting fG fdG) (bG : Binds K fdG ["life", "k"] []) (gG : mg "lasting" = some (.ref fG)) (GG : FnOk P w K mg base CX0 5 fG fdG ["life", "k"] (spLasting K)) : FnOk P w K mg base CX0 6 f fd ["life", "most"] (spCut K) := by
  refine F.ok sc_cut (fun vs H Q E h => ?_) (fun cdv A outer s H vs Q E hr h => ?_)
  · obtain ⟨_, _, _, _, _, rfl, _⟩ := h
    rfl
  · obtain ⟨p, row, step, n, m, rfl, hlife, L, hm, q⟩ := h
    have hr4 := hr.mono (show 4 ≤ 5 by decide)
    refine ⟨_, (pss_one (ps_ret (pe_call GS hr (by rfl) gS FS.kp bS .nil pass0 (pa_cons (pe_tup (pa_cons (pe_tup (StX.pa_star (pe_call GH hr4 (by rfl) gH FH.kp bH .nil pass0 (pa_cons (pv 0) (pa_cons (pe_op op_sub (pv 1) pe_int) pa_nil))) (pa_cons (pe_call GG hr (by rfl) gG FG.kp bG .nil pass0 (pa_cons (pv 0) (pa_cons (pe_op op_sub (pv 1) pe_int) pa_nil))) pa_nil))) (pa_cons (pe_glob (v := .ref aN) rfl C.gN rfl) pa_nil))) pa_nil)))), ?_⟩
    have em : (m : Int) + 1 - 1 = (m : Int) := by omega
    refine ⟨_, rfl, _, rfl, _, 1, rfl, rfl, p, row, step, n, m, (by show [V.ref p, V.int ((m : Int) + 1 - 1)] = _; rw [em]), hlife, L, hm, fun z rs chs H1 s1 hz hrs hch => ?_⟩
    refine ⟨z, _, rfl, .inr (SqL.of hz), ?_⟩
    refine ⟨_, rfl, _, rfl, _, 1, rfl, rfl, p, row, step, n, m, (by show [V.ref p, V.int ((m : Int) + 1 - 1)] = _; rw [em]), hlife.tk (Tk.same s1), L, hm, fun y x H2 s2 hy sx vx => ?_⟩
    have hl := hrs.length
    refine ⟨?_, fun a na => ?_⟩
    · rw [List.length_append, List.length_map, hl, hch.len]
      show m + 1 ≤ sizeLine
      exact Nat.le_trans (show m + 1 ≤ 1000 by omega) (by decide)
    have e1 := same_new (o := HO.tup (rs.map V.ref ++ [.ref y])) na
    refine ⟨by show 2 ≤ sizeLine; decide, fun b nb => ?_⟩
    have e2 := same_new (o := HO.tup [.ref a, .ref aN]) nb
    have ec : chs ++ [x] = cutR row step m := by
      unfold cutR
      rw [hch.is, ← is_rdq sx.1 vx]
    have hrow : RowAt K (upd (upd H2 a (HO.tup (rs.map V.ref ++ [.ref y]))) b (HO.tup [.ref a, .ref aN])) a (cutR row step m) := by
      refine ⟨rs ++ [y], ?_, ?_⟩
      · rw [List.map_append]
        exact SqT.of (e2 _ _ upd_same)
      · rw [← ec]
        exact ((hrs.tk (Tk.same s2)).append (.cons hy .nil)).tk (Tk.same (e1.trans e2))
    exact ⟨b, _, (0, 1), rfl, ⟨a, aN, SqT.of upd_same, hrow, C.tN _⟩, cut_sm L hm, nought_step (by decide), fun z2 H5 s5 hz2 => q z2 H5 (s1.trans (s2.trans (e1.trans (e2.trans s5)))) hz2⟩
def spFolded (K : PySem.W.Frag) : Sp := fun vs H Q _ => ∃ (p : Addr) (row : List RT) (step : RT) (m : Nat), vs = [.ref p, .int ((m : Int) + 1)] ∧ LifeAt K H p row step ∧ (∀ x ∈ row, SmR 1900 x) ∧ row.length ≤ 20 ∧ m ≤ 10 ∧
  ∀ z H', Same H H' → LifeAt K H' z (shortL (wideR m row) (0, 1)).1 (shortL (wideR m row) (0, 1)).2 → Q (.ref z) H'
theorem ok_folded {f fS : Addr} {fd fdS : FuncData} (F : Fun K "folded" "folded" s_folded f fd) (C : Consts K mg aN aO)
    (FS : Fun K "short" "short" s_short fS fdS) (bS : Binds K fdS ["life"] []) (gS : mg "short" = some (.ref fS)) (GS : FnOk P w K mg base CX0 5 fS fdS ["life"] (spShort K)) (mt : mg "tuple" = none) : FnOk P w K mg base CX0 6 f fd ["life", "many"] (spFolded K) := by
  refine F.ok sc_folded (fun vs H Q E h => ?_) (fun cdv A outer s H vs Q E hr h => ?_)
  · obtain ⟨_, _, _, _, rfl, _⟩ := h
    rfl
  · obtain ⟨p, row, step, m, rfl, hlife, hsm, hlen, hm, q⟩ := h
    refine ⟨_, (pss_cons (ps_set (i := 2) sc_folded.nd rfl (.inl rfl) (pe_lst pa_nil)) (pss_cons (ps_for PassesOwn.never rfl (pi_tup (pe_ix ix_tup (pv 0) pe_int (fun _ _ => rfl))) (pg_name (i := 3) sc_folded.nd rfl (.inl rfl))
          (pss_cons (ps_expr (pe_bm PySem.F.plainAttrs_list PySem.F.slot_list_extend PySem.F.type_list_extend mt_extend (pv 2) (pa_cons (pe_op op_rep (pe_lst (pa_cons (pe_glob (v := .ref aN) rfl C.gN rfl) pa_nil)) (pe_op op_sub (pv 1) pe_int)) pa_nil))) (pss_one (ps_expr (pe_bm PySem.F.plainAttrs_list PySem.F.slot_list_append PySem.F.type_list_append mt_append (pv 2) (pa_cons (pv 3) pa_nil)))))) (pss_one (ps_ret (pe_call GS hr (by rfl) gS FS.kp bS .nil pass0 (pa_cons (pe_tup (pa_cons (pe_callTy call_tuple_of (by rfl) mt (by decide +kernel) (pa_cons (pv 2) pa_nil)) (pa_cons (pe_glob (v := .ref aN) rfl C.gN rfl) pa_nil))) pa_nil)))))), ?_⟩
    obtain ⟨pr, ps, l1, ⟨rs, r1, r2⟩, l3⟩ := id hlife
    have hrl := r2.length
    refine ⟨by show 0 ≤ sizeLine; decide, fun l nl => ?_⟩
    have e0 := same_new (o := HO.lst []) nl
    refine ⟨_, rfl, p, _, 0, _, rfl, rfl, Tk.same e0 _ _ l1, atI_nat (j := 0) rfl, ?_⟩
    refine ⟨pr, rfl, ⟨_, Tk.same e0 _ _ r1⟩, for_tup (K := K) (a := pr) (xs := rs.map V.ref) (fun i σ HB => ∃ (ch : Option V) (qs : List Addr), σ = [some (.ref p), some (.int ((m : Int) + 1)), some (.ref l), ch] ∧ Same H HB ∧ HB l = some (.lst (qs.map V.ref)) ∧ RsAt K HB qs (wideR m (row.take i))) ⟨none, [], rfl, e0, upd_same, .nil⟩ ?_ ?_ ?_⟩
    · rintro i σ HB _ ⟨_, _, _, sB, _⟩
      exact Tk.same sB _ _ r1
    · rintro i v σ HB hi ⟨ch, qs, rfl, sB, hl, hqs⟩
      have hi2 : i < row.length := by
        have := (List.getElem?_eq_some_iff.mp hi).1
        rw [List.length_map] at this
        omega
      have hg : row[i]? = some row[i] := List.getElem?_eq_getElem hi2
      obtain ⟨r, er, hr2⟩ := r2.get hg
      rw [List.getElem?_map, er] at hi
      cases Option.some.inj hi
      have hql := hqs.length
      rw [wide_len, List.length_take] at hql
      have hq2 : qs.length ≤ 220 := by
        rw [hql]
        have : min i row.length * (m + 1) ≤ 20 * 11 := Nat.mul_le_mul (by omega) (by omega)
        omega
      refine ⟨_, rfl, .inl ⟨rfl, _, SqL.of hl⟩, ?_⟩
      refine ⟨by show 1 ≤ sizeLine; decide, fun b1 m1 => ?_⟩
      have e1 := same_new (o := HO.lst [.ref aN]) m1
      refine ⟨_, rfl, _, 1, rfl, rfl, ?_⟩
      have em : (m : Int) + 1 - 1 = (m : Int) := by omega
      show rRep (.ref b1) (.int ((m : Int) + 1 - 1)) _ _
      rw [em]
      refine ⟨b1, _, _, rfl, rfl, upd_same, by omega, by omega, ?_, fun b2 m2 => ?_⟩
      · rw [Int.toNat_natCast]
        show 1 * m ≤ sizeLine
        exact Nat.le_trans (show 1 * m ≤ 1000 by omega) (by decide)
      have e2 := same_new (o := HO.lst (List.replicate (m : Int).toNat [V.ref aN]).flatten) m2
      have ef : (List.replicate (m : Int).toNat [V.ref aN]).flatten = (List.replicate m aN).map V.ref := by
        rw [flat_rep, List.map_replicate, Int.toNat_natCast]
      have hl2 := (e1.trans e2) _ _ hl
      refine ⟨l, b2, _, _, rfl, rfl, hl2, upd_same, ?_, ?_⟩
      · rw [ef, List.length_map, List.length_map, List.length_replicate]
        exact Nat.le_trans (show qs.length + m ≤ 1000 by omega) (by decide)
      refine ⟨_, rfl, .inl ⟨rfl, _, SqL.of upd_same⟩, _, rfl, l, _, _, rfl, rfl, upd_same, ?_, some (.ref r), qs ++ List.replicate m aN ++ [r], rfl, ?_, ?_, ?_⟩
      · rw [ef, List.length_append, List.length_map, List.length_map, List.length_replicate]
        exact small1000 (by omega)
      · intro b o hb
        rw [upd_ne (ne_of_none hb nl), upd_ne (ne_of_none hb nl)]
        exact (sB.trans (e1.trans e2)) _ _ hb
      · rw [upd_same, ef, List.map_append, List.map_append]
        rfl
      · rw [take_snoc hg, wide_snoc, ← List.append_assoc]
        refine RsAt.append (RsAt.append ?_ (RsAt.rep (C.tN _) m)) (.cons ?_ .nil)
        · exact ((hqs.tk (Tk.same (e1.trans e2))).tk (tk_lst hl2)).tk (tk_lst upd_same)
        · exact ((hr2.tk (Tk.same (sB.trans (e1.trans e2)))).tk (tk_lst hl2)).tk (tk_lst upd_same)
    · rintro σ HB ⟨ch, qs, rfl, sB, hl, hqs⟩
      have hql := hqs.length
      have et : row.take (rs.map V.ref).length = row := List.take_of_length_le (by rw [List.length_map]; omega)
      rw [et] at hqs hql
      refine ⟨_, rfl, l, _, rfl, .inl ⟨SqL.of hl, fun a na => ?_⟩⟩
      have e1 := same_new (o := HO.tup (qs.map V.ref)) na
      refine ⟨by show 2 ≤ sizeLine; decide, fun b nb => ?_⟩
      have e2 := same_new (o := HO.tup [.ref a, .ref aN]) nb
      refine ⟨b, _, (0, 1), rfl, ⟨a, aN, SqT.of upd_same, ⟨qs, SqT.of (e2 _ _ upd_same), hqs.tk (Tk.same (e1.trans e2))⟩, C.tN _⟩, fun x hx => ?_, nought_step (by decide), fun z2 H5 s5 hz2 => q z2 H5 (sB.trans (e1.trans (e2.trans s5))) hz2⟩
      rcases wide_mem hx with z | z
      · rw [z]
        exact nought_sm (by decide)
      · exact hsm x z
def spLater (K : PySem.W.Frag) : Sp := fun vs H Q _ => ∃ (p : Addr) (row : List RT) (step : RT) (m : Nat), vs = [.ref p, .int (m : Int)] ∧ LifeAt K H p row step ∧ (∀ x ∈ row, SmR 1900 x) ∧ StepOk 300 step ∧ row.length ≤ 100 ∧ m ≤ 100 ∧
  ∀ z H', Same H H' → LifeAt K H' z (shortL (List.replicate m (0, 1) ++ row) step).1 (shortL (List.replicate m (0, 1) ++ row) step).2 → Q (.ref z) H'
theorem ok_later {f fS : Addr} {fd fdS : FuncData} (F : Fun K "later" "later" s_later f fd) (C : Consts K mg aN aO)
    (FS : Fun K "short" "short" s_short fS fdS) (bS : Binds K fdS ["life"] []) (gS : mg "short" = some (.ref fS)) (GS : FnOk P w K mg base CX0 5 fS fdS ["life"] (spShort K)) : FnOk P w K mg base CX0 6 f fd ["life", "by"] (spLater K) := by
  refine F.ok sc_later (fun vs H Q E h => ?_) (fun cdv A outer s H vs Q E hr h => ?_)
  · obtain ⟨_, _, _, _, rfl, _⟩ := h
    rfl
  · obtain ⟨p, row, step, m, rfl, ⟨pr, ps, l1, l2, l3⟩, hsm, hst, hlen, hm, q⟩ := h
    refine ⟨_, (pss_cons (ps_asg (pv 0) (pg_tup rfl (pgs_cons (pg_name (i := 2) sc_later.nd rfl (.inl rfl)) (pgs_cons (pg_name (i := 3) sc_later.nd rfl (.inl rfl)) pgs_nil)))) (pss_one (ps_ret (pe_call GS hr (by rfl) gS FS.kp bS .nil pass0 (pa_cons (pe_tup (pa_cons (pe_op op_catA (pe_op op_repA (pe_tup (pa_cons (pe_glob (v := .ref aN) rfl C.gN rfl) pa_nil)) (pv 1)) (pv 2)) (pa_cons (pv 3) pa_nil))) pa_nil))))), ?_⟩
    refine ⟨_, rfl, p, _, rfl, l1, rfl, _, _, rfl, _, _, rfl, rfl, ?_⟩
    refine ⟨by show 1 ≤ sizeLine; decide, fun c1 n1 => ?_⟩
    have g1 := same_new (o := HO.tup [.ref aN]) n1
    refine ⟨_, rfl, ?_⟩
    refine rep_row (x := (0, 1)) (SqT.of upd_same) (C.tN _) (by omega) fun c2 H2 s2 h2 => ?_
    refine ⟨_, rfl, ?_⟩
    refine cat_row h2 (l2.tk (Tk.same (g1.trans s2))) (by rw [List.length_replicate]; omega) fun c3 H3 s3 h3 => ?_
    refine ⟨_, rfl, by show 2 ≤ sizeLine; decide, fun c4 n4 => ?_⟩
    have g4 := same_new (o := HO.tup [.ref c3, .ref ps]) n4
    have S4 := g1.trans (s2.trans (s3.trans g4))
    refine ⟨c4, _, step, rfl, ⟨c3, ps, SqT.of upd_same, h3.tk (Tk.same g4), l3.tk (Tk.same S4)⟩, fun x hx => ?_, hst, fun z H5 s5 hz => q z H5 (S4.trans s5) hz⟩
    rcases List.mem_append.mp hx with z | z
    · rw [List.eq_of_mem_replicate z]
      exact nought_sm (by decide)
    · exact hsm x z
end

end Fp

set_option Elab.async false
set_option linter.all false
set_option maxRecDepth 100000
set_option maxHeartbeats 4000000
set_option exponentiation.threshold 10000
namespace Fp
open PySem PySem.Spec PyProof.Rows L2
/-! ### enumerate(xs) of a tuple -/
theorem enum1_meets {y : Value} {ob : Obj} {Hh : Heap → Prop} (B : Begins y ob Hh) :
    Meets (Builtin.«enumerate.__new__» ⟨[.type "enumerate", y], []⟩) (fun _ R0 st => Hh st.heap ∧
      R0 (.ok (.ret (.ref (st.heap.push ob).objs.size))) { st with heap := (st.heap.push ob).push { cls := .type "enumerate", data := .fields #[.none, .bool false, .ref st.heap.objs.size, rawInt 0, .none, .none] } }) :=
  .of_wp fun pr wo Ar Rr st hst => by
    obtain ⟨hh, gg, dd, kk, oo⟩ := st
    obtain ⟨b1, b2⟩ := hst
    have subE := sub_enumerate
    have goes : ∀ {A2 : Around} {E2 : Value → Shared → Prop} {Q2 : Value → Shared → Prop}, Q2 (.ref hh.objs.size) ⟨hh.push ob, gg, dd, kk, oo⟩ → wpAny (model pr wo) A2 (pyIter y) Q2 E2 ⟨hh, gg, dd, kk, oo⟩ :=
      fun q2 => B.iter pr wo _ _ ⟨hh, gg, dd, kk, oo⟩ _ b1 q2
    wp_walk using goes
    refine wpAny_stack_any fun sk => wpAny_pure ?_
    split
    · rename_i cc _ _ _ _ _
      cases (cc == Value.type "enumerate")
      · wp_walk using goes
        exact ⟨_, rfl, b2⟩
      · wp_walk using goes
        exact ⟨_, rfl, b2⟩
    · wp_walk using goes
      exact ⟨_, rfl, b2⟩
theorem enum1_begins {prog : Program} {w : World} {A : Around} {F0 : Value → Shared → Prop} {st : Shared} {y : Value} {ob : Obj} {Hh : Heap → Prop} {Q0 : Value → Shared → Prop} (B : Begins y ob Hh) (b1 : Hh st.heap)
    (go : ∀ h2, IsEnum h2 (st.heap.objs.size + 1) st.heap.objs.size 0 .none → h2.get? st.heap.objs.size = some ob → (∀ b o, st.heap.get? b = some o → h2.get? b = some o) → Q0 (.ref (st.heap.objs.size + 1)) { st with heap := h2 }) :
    wpAny (model prog w) A (call (.type "enumerate") [y]) Q0 F0 st := by
  refine callType_new F.called_enumerate (by decide) (F.typeCall_enumerate_1 _) (F.newCall_enumerate_1 _) (fun z => F.args_object_init_2 z _) F.entry_enumerate_new (enum1_meets B) ⟨b1, ?_⟩
  have sz : (st.heap.push ob).objs.size = st.heap.objs.size + 1 := Heap.size_push ..
  show _ ∧ _
  rw [sz]
  have is : IsEnum ((st.heap.push ob).push { cls := .type "enumerate", data := .fields #[.none, .bool false, .ref st.heap.objs.size, rawInt 0, .none, .none] }) (st.heap.objs.size + 1) st.heap.objs.size 0 .none := by
    have z := Heap.get?_push_size (st.heap.push ob) (o := { cls := .type "enumerate", data := .fields #[.none, .bool false, .ref st.heap.objs.size, rawInt 0, .none, .none] }) rfl
    rw [sz] at z
    exact z
  exact ⟨⟨_, is, rfl⟩, go _ is (Heap.get?_push_of_some _ (Heap.get?_push_size _ B.free)) fun b o x => Heap.get?_push_of_some _ (Heap.get?_push_of_some _ x)⟩
theorem pi_eT {X : Cx} {e : Expr} {ta : TA} {p pos tpos : Pos} {elts : List Expr} {kk : Nat} (hg : Gl X "enumerate") (hm : X.mg "enumerate" = none) (ha : PA X [e] ta) (hs : starEach [e] X.env = [(false, eval e X.env)] := by rfl) :
    PI X (.Tuple elts kk tpos) (.Call (.Name "enumerate" p) [e] [] pos) (iQT X.K 0 ta) := by
  refine ⟨fun pn s sl H R I h => Call_ (ld_blt I hg hm boot_enumerate (PyProof.Rows.callWith_type1 (thn (ha.run pos pn s sl H _ I h) fun us s2 z2 => ?_) hs rfl))⟩
  obtain ⟨vs, H2, I2, r1, a, xs, rfl, sq, q⟩ := z2
  cases r1 with
  | cons ra rn =>
    cases rn
    cases ra
    obtain ⟨us, rv, po, _⟩ := I2.tuple sq
    have oa : s2.heap.IsTuple a us.toArray := po
    refine enum1_begins (begins_tuple a us.toArray) oa fun h2 ee oi kp2 => wpAny_pyIter_enum ee ?_
    have I3 : Inv X pn sl H2 { s2 with heap := h2 } := I2.kept (t' := s2.toks) kp2
    refine ⟨s2.heap.objs.size + 1, [s2.heap.objs.size + 1, s2.heap.objs.size], _, _, H2, rfl, I3, turn_qT 0 a (s2.heap.objs.size + 1) s2.heap.objs.size, ⟨⟨.none, ?_⟩, ⟨_, oi, rfl, rfl⟩, Nat.succ_ne_self _⟩, fun b hb => ?_, q⟩
    · rw [show (0 : Int) + ((0 : Nat) : Int) = 0 by omega]
      exact ee
    · have lb : s2.heap.objs.size ≤ b := by
        rcases (show b = s2.heap.objs.size + 1 ∨ b = s2.heap.objs.size by simpa using hb) with z | z
        · rw [z]
          exact Nat.le_add_right _ _
        · rw [z]
          exact Nat.le_refl _
      exact I2.fpOk lb (I2.hok.fresh lb)

end Fp

set_option Elab.async false
set_option linter.all false
set_option maxRecDepth 100000
set_option maxHeartbeats 4000000
set_option exponentiation.threshold 10000
namespace Fp
open PySem PySem.Spec PyProof.Rows L2
/-! ### lives that end -/
abbrev s_bounded : Stmt := topS 49
theorem sc_bounded : FnScope ["_law_feed_here", "_law_way", "_law_row", "_law_step"] ["_law_feed_here"] (defScope s_bounded) := ⟨rfl, rfl, rfl, by decide +kernel, rfl, by decide +kernel, by decide +kernel⟩
/-- a row that ends, its chances by one small number -/
structure BR (row : List RT) : Prop where
  w : ∃ W : Int, 0 < W ∧ Sm 10 W ∧ ∀ y ∈ row, y.2 ∣ W
  q : ∀ x ∈ row, 0 ≤ qv x ∧ qv x ≤ 1
  sm : ∀ x ∈ row, SmR 10 x
theorem BR.nil : BR [] := ⟨⟨1, by decide, by unfold Sm; decide, fun y hy => by simp at hy⟩, fun x hx => by simp at hx, fun x hx => by simp at hx⟩
theorem BR.app {row xs : List RT} (h : BR row) (hx : ∀ x ∈ xs, x = (0, 1)) : BR (row ++ xs) ∧ BR (xs ++ row) := by
  obtain ⟨⟨W, w1, w2, w3⟩, q, sm⟩ := h
  have z1 : ∀ x ∈ xs, x.2 ∣ W ∧ (0 ≤ qv x ∧ qv x ≤ 1) ∧ SmR 10 x := fun x h => by
    rw [hx x h, qv_nought]
    exact ⟨Int.one_dvd _, ⟨Rat.le_refl, by decide⟩, nought_sm (by decide)⟩
  have key : ∀ x, x ∈ row ∨ x ∈ xs → x.2 ∣ W ∧ (0 ≤ qv x ∧ qv x ≤ 1) ∧ SmR 10 x := fun x h => by
    rcases h with h | h
    · exact ⟨w3 x h, q x h, sm x h⟩
    · exact z1 x h
  refine ⟨⟨⟨W, w1, w2, fun y hy => (key y (List.mem_append.mp hy)).1⟩, fun x hx => (key x (List.mem_append.mp hx)).2.1, fun x hx => (key x (List.mem_append.mp hx)).2.2⟩, ⟨⟨W, w1, w2, fun y hy => (key y (List.mem_append.mp hy).symm).1⟩, fun x hx => (key x (List.mem_append.mp hx).symm).2.1, fun x hx => (key x (List.mem_append.mp hx).symm).2.2⟩⟩
section
variable {P : Program} {w : World} {K : PySem.W.Frag} {mg : Str → Option Value} {base : Heap}
def spBounded (K : PySem.W.Frag) : Sp := fun vs H Q _ => ∃ (d c : Addr) (t : Int), vs = [.ref d] ∧ Feed H d c t ∧ t ≤ 800000 ∧
  ∀ p row t' H', Keep d H H' → Feed H' d c t' → t' ≤ t + 14 → BR row → row.length ≤ 8 → LifeAt K H' p row (0, 1) → Q (.ref p) H'
theorem ok_bounded {f fD fF : Addr} {fd fdD fdF : FuncData} (F : Fun K "_law_bounded" "_law_bounded" s_bounded f fd) (FD : Fun K "_law_draw" "_law_draw" s_draw fD fdD) (bD : Binds K fdD ["_law_feed_here", "_law_many"] []) (gD : mg "_law_draw" = some (.ref fD))
    (GD : FnOk P w K mg base CX0 1 fD fdD ["_law_feed_here", "_law_many"] spDraw)
    (FF : Fun K "_law_life" "_law_life" s_life fF fdF) (bF : Binds K fdF ["_law_feed_here", "_law_way"] []) (gF : mg "_law_life" = some (.ref fF)) (GF : FnOk P w K mg base CX0 2 fF fdF ["_law_feed_here", "_law_way"] (spLife K))
    (ml : mg "len" = none) (mn : mg "min" = none) : FnOk P w K mg base CX0 3 f fd ["_law_feed_here"] (spBounded K) := by
  refine F.ok sc_bounded (fun vs H Q E h => ?_) (fun cdv A outer s H vs Q E hr2 h => ?_)
  · obtain ⟨_, _, _, rfl, _⟩ := h
    rfl
  · obtain ⟨d, c, t, rfl, f0, ht, q⟩ := h
    have hr := hr2.mono (show 1 ≤ 2 by decide)
    refine ⟨_, (pss_cons (ps_set (i := 1) sc_bounded.nd rfl (.inl rfl) (pe_call GD hr (by rfl) gD FD.kp bD .nil pass0 (pa_cons (pv 0) (pa_cons pe_int pa_nil)))) (pss_cons (ps_asg (pe_call GF hr2 (by rfl) gF FF.kp bF .nil pass0 (pa_cons (pv 0) (pa_cons (pe_ix ix_list (pe_lst (pa_cons pe_int (pa_cons pe_int (pa_cons pe_int (pa_cons pe_int pa_nil))))) (pe_op op_modN (pv 1) pe_int) (fun _ _ => rfl)) pa_nil))) (pg_tup rfl (pgs_cons (pg_name (i := 2) sc_bounded.nd rfl (.inl rfl)) (pgs_cons (pg_name (i := 3) sc_bounded.nd rfl (.inl rfl)) pgs_nil)))) (pss_mid (ps_if (pt_cmpR op_eq (pv 1) pe_int (nomark _)) (pss_one (ps_set (i := 2) sc_bounded.nd rfl (.inl rfl) (pe_tup pa_nil))) pss_nil) (pss_one (ps_ret (pe_tup (pa_cons (pe_op op_catA (pv 2) (pe_op op_repA (pe_tup (pa_cons (pe_tup (pa_cons pe_int (pa_cons pe_int pa_nil))) pa_nil)) (pe_call GD hr (by rfl) gD FD.kp bD .nil pass0 (pa_cons (pv 0) (pa_cons (pe_callB (call_min2 rfl) (by rfl) mn (by decide +kernel) (pa_cons pe_int (pa_cons (pe_op op_sub pe_int (pe_callB call_len_seq (by rfl) ml PySem.boot_len (pa_cons (pv 2) pa_nil))) pa_nil))) pa_nil))))) (pa_cons (pv 3) pa_nil)))))))), ?_⟩
    refine ⟨_, rfl, d, c, 8, t, rfl, f0, by omega, by decide, by decide, fun way H1 hw0 hw1 k1 f1 => ?_⟩
    refine ⟨_, rfl, by show 4 ≤ sizeLine; decide, fun p1 n1 => ?_⟩
    have hm : 0 ≤ way.fmod 4 ∧ way.fmod 4 < 4 := by
      rw [Int.fmod_eq_emod_of_nonneg way (by decide)]
      omega
    obtain ⟨v1, e1, x1, rfl, hx3, hx4⟩ : ∃ v, atI [V.int 0, V.int 1, V.int 2, V.int 5] (way.fmod 4) = some v ∧ ∃ x : Int, v = .int x ∧ x ≠ 3 ∧ x ≠ 4 := by
      generalize way.fmod 4 = j at hm
      rcases (by omega : j = 0 ∨ j = 1 ∨ j = 2 ∨ j = 3) with rfl | rfl | rfl | rfl
      · exact ⟨_, atI_nat (j := 0) rfl, 0, rfl, by decide, by decide⟩
      · exact ⟨_, atI_nat (j := 1) rfl, 1, rfl, by decide, by decide⟩
      · exact ⟨_, atI_nat (j := 2) rfl, 2, rfl, by decide, by decide⟩
      · exact ⟨_, atI_nat (j := 3) rfl, 5, rfl, by decide, by decide⟩
    refine ⟨_, rfl, way, 4, rfl, rfl, by show (4 : Int) ≠ 0; decide, p1, _, _, _, rfl, rfl, SqL.of upd_same, e1, ?_⟩
    refine ⟨d, c, x1, t + 1, rfl, f1.new n1, by omega, fun p ws extra step t2 H2 k2 f2 ht2 M _ _ hst Lf => ?_⟩
    obtain rfl : step = (0, 1) := hst hx3 hx4
    obtain ⟨pr, ps, l1, l2, l3⟩ := Lf
    refine ⟨p, _, rfl, l1, rfl, _, _, rfl, _, _, rfl, rfl, ?_⟩
    have K2 := k1.trans (keep_new n1 k2)
    have B : BaseLife (rowOf ws extra (0, 1)) (0, 1) := .inl ⟨ws, extra, M, rfl⟩
    refine ⟨fun σ H3 => ∃ (pr : Addr) (row : List RT), σ = [some (.ref d), some (.int way), some (.ref pr), some (.ref ps)] ∧ Keep d H H3 ∧ Feed H3 d c t2 ∧ BR row ∧ row.length ≤ 6 ∧ RowAt K H3 pr row ∧ RAt K H3 ps (0, 1), ?_, ?_⟩
    · refine ⟨_, rfl, rfl, _, rfl, ite2 (fun c7 => ?_) (fun c7 => ?_)⟩
      · refine ⟨by show 0 ≤ sizeLine; decide, fun a na => ?_⟩
        have e1 := same_new (o := HO.tup []) na
        exact ⟨a, [], rfl, K2.trans (Keep.of_same e1), f2.same e1, BR.nil, by decide, ⟨[], SqT.of upd_same, .nil⟩, l3.tk (Tk.same e1)⟩
      · exact ⟨pr, _, rfl, K2, f2, ⟨B.w, B.q01.1, fun x hx => (M.sm x hx).1⟩, B.len, l2, l3⟩
    clear l1 l2 B M
    rintro σ H3 ⟨pr, row, rfl, K3, f3, hsm, hlen, hrow, hstep⟩
    refine ⟨_, rfl, by show 2 ≤ sizeLine; decide, fun c1 m1 => ?_⟩
    have g1 := same_new (o := HO.tup [.int 0, .int 1]) m1
    refine ⟨by show 1 ≤ sizeLine; decide, fun c2 m2 => ?_⟩
    have g2 := same_new (o := HO.tup [.ref c1]) m2
    have G2 := g1.trans g2
    obtain ⟨rs, r1, r2⟩ := hrow.tk (Tk.same (K := K) G2)
    have hl := r2.length
    refine ⟨_, rfl, _, rfl, pr, _, rfl, .inr r1, 7, _, rfl, rfl, 3, _, rfl, ?_⟩
    obtain ⟨b, hb, hb1, hb2⟩ : ∃ b : Int, (if (7 : Int) - (((rs.map V.ref).length : Nat) : Int) < 3 then (7 : Int) - (((rs.map V.ref).length : Nat) : Int) else 3) = b ∧ 0 < b ∧ b ≤ 3 := by
      rw [List.length_map, hl]
      split
      · exact ⟨_, rfl, by omega, by omega⟩
      · exact ⟨3, rfl, by decide, by decide⟩
    rw [hb]
    refine ⟨d, c, b, t2, rfl, f3.same G2, by omega, hb1, by omega, fun r H4 h0 h1 k4 f4 => ?_⟩
    have tk4 : Tk K _ H4 := Tk.keep (f3.same G2) k4
    have er : r = ((r.toNat : Nat) : Int) := by omega
    show rRepA K (.ref c2) (.int r) _ _
    rw [er]
    refine rep_row (x := (0, 1)) (tk4 _ _ (SqT.of upd_same)) (tk4 _ _ (SqT.of (g2 _ _ upd_same))) (by omega) fun c3 H5 s5 h3 => ?_
    refine cat_row ((RowAt.tk ⟨rs, r1, r2⟩ tk4).tk (Tk.same s5)) h3 (by rw [List.length_replicate]; omega) fun c4 H6 s6 h4 => ?_
    refine ⟨_, rfl, by show 2 ≤ sizeLine; decide, fun c5 m5 => ?_⟩
    have g5 := same_new (o := HO.tup [.ref c4, .ref ps]) m5
    have S := s5.trans (s6.trans g5)
    refine q c5 _ (t2 + 1) _ (K3.trans ((Keep.of_same G2).trans (k4.trans (Keep.of_same S)))) (f4.same S) (by omega) (hsm.app fun x hx => List.eq_of_mem_replicate hx).1 ?_ ⟨c4, ps, SqT.of upd_same, h4.tk (Tk.same g5), ((hstep.tk (Tk.same G2)).tk tk4).tk (Tk.same S)⟩
    · rw [List.length_append, List.length_replicate]
      omega
end

end Fp

set_option Elab.async false
set_option linter.all false
set_option maxRecDepth 100000
set_option maxHeartbeats 4000000
set_option exponentiation.threshold 10000
namespace Fp
open PySem PySem.Spec PyProof.Rows L2
/-! ### tuples on one bottom -/
section
variable {K : PySem.W.Frag} {H : Hp} {Q : VK}
theorem oobT_go {p : Addr} {m s k : Nat} {A : Nat → Rat} {P : Int} (h : RowAt K H p (mkL m A)) (hP : 0 < P) (sP : Sm s P) (z : ∀ j, j < m → Sz P k (A j)) (hm : m ≤ 900) (hs : s ≤ 2500) (hk : k ≤ 900)
    (q : ∀ z zl c T H', Same H H' → H' z = some (.tup [.ref zl, .int c]) → IntL H' zl m T → 0 < c → c ∣ P → Sm s c → (∀ j, j < m → ((T j : Int) : Rat) = (c : Rat) * A j) → (∀ j, j < m → Sm (2 * s + k + 1) (T j)) → Q (.ref z) H') : spOobT K [.ref p] H Q E0 := by
  have O := over_mkL hP sP z (show m ≤ 1000 by omega)
  refine ⟨p, _, _, _, _, rfl, h, O, by omega, by omega, fun z1 zl c H' s1 hz hzl c0 cD hc => ?_⟩
  have hl : (mkL m A).length = m := mkL_len
  refine q z1 zl c (getI (topsOn c (mkL m A))) H' s1 hz ?_ c0 cD (dvd_small cD hP sP) (fun j hj => ?_) (fun j hj => ?_)
  · have e := is_mkI (xs := topsOn c (mkL m A))
    rw [tops_len, hl] at e
    unfold IntL
    rw [← e]
    exact hzl
  · rw [tops_val c0 (by rw [hl]; exact hj) fun x hx => ⟨(O.ok x hx).1, hc x hx⟩, qa_mkL hj]
  · have := tops_each (n := s + k + 1) O.pos cD O.sm (xs := mkL m A) (j := j) (by rw [hl]; exact hj) fun x hx => (O.ok x hx).2.2
    exact this.mono (by omega)
end

end Fp

set_option Elab.async false
set_option linter.all false
set_option maxRecDepth 100000
set_option maxHeartbeats 4000000
set_option exponentiation.threshold 10000
namespace Fp
open PySem PySem.Spec PyProof.Rows L2
/-! ### crossed of tuples -/
section
variable {P : Program} {w : World} {K : PySem.W.Frag} {mg : Str → Option Value} {base : Heap}
def spCrossedTT (K : PySem.W.Frag) : Sp := fun vs H Q _ => ∃ (p t : Addr) (m n s1 k1 s2 k2 : Nat) (A B : Nat → Rat) (P1 P2 : Int), vs = [.ref p, .ref t] ∧ RowAt K H p (mkL m A) ∧ RowAt K H t (mkL n B) ∧ (0 < P1 ∧ Sm s1 P1 ∧ ∀ j, j < m → Sz P1 k1 (A j)) ∧ (0 < P2 ∧ Sm s2 P2 ∧ ∀ j, j < n → Sz P2 k2 (B j)) ∧ (m ≤ 100 ∧ n ≤ 100) ∧ (0 < s1 ∧ s1 ≤ 2500 ∧ k1 ≤ 900 ∧ 0 < s2 ∧ s2 ≤ 2500 ∧ k2 ≤ 900) ∧
  ∀ z H', Same H H' → LsM K H' z (mkL (m + n - 1) (crossQ A B m n)) → Q (.ref z) H'
theorem ok_crossedCRT {f fOB fR : Addr} {fd fdOB fdR : FuncData} (F : Fun K "crossed" "crossed" s_crossed f fd)
    (FOB : Fun K "on_one_bottom" "on_one_bottom" s_oob fOB fdOB) (bOB : Binds K fdOB ["told"] []) (gOB : mg "on_one_bottom" = some (.ref fOB)) (GOT : FnOk P w K mg base CX0 2 fOB fdOB ["told"] (spOobT K))
    (FR : Fun K "ratio" "ratio" s_ratio fR fdR) (bR : Binds K fdR ["top", "bottom"] []) (gR : mg "ratio" = some (.ref fR)) (GR : FnOk P w K mg base CX0 2 fR fdR ["top", "bottom"] spRat0)
    (n_enumerate : mg "enumerate" = none) (n_len : mg "len" = none) : FnOk P w K mg base CX0 3 f fd ["ones", "others"] (spCrossedTT K) := by
  refine F.ok sc_crossed (fun vs H Q E h => ?_) (fun cdv A outer s H vs Q E hr h => ?_)
  · obtain ⟨_, _, _, _, _, _, _, _, _, _, _, _, rfl, _⟩ := h
    rfl
  · obtain ⟨p, t, m, n, s1, k1, s2, k2, A', B, P1, P2, rfl, hp, ht, ⟨p1, p2, p3⟩, ⟨r1, r2, r3⟩, ⟨m2, n2⟩, ⟨x0, x1, x2, x3, x4, x5⟩, q⟩ := h
    refine ⟨_, (pss_cons (ps_asg (pe_call GOT hr (by rfl) gOB FOB.kp bOB .nil pass0 (pa_cons (pv 0) pa_nil)) (pg_tup rfl (pgs_cons (pg_name (i := 2) sc_crossed.nd rfl (.inl rfl)) (pgs_cons (pg_name (i := 3) sc_crossed.nd rfl (.inr rfl)) pgs_nil))))
      (pss_cons (ps_asg (pe_call GOT hr (by rfl) gOB FOB.kp bOB .nil pass0 (pa_cons (pv 1) pa_nil)) (pg_tup rfl (pgs_cons (pg_name (i := 4) sc_crossed.nd rfl (.inl rfl)) (pgs_cons (pg_name (i := 5) sc_crossed.nd rfl (.inr rfl)) pgs_nil))))
      (pss_cons (ps_set (i := 6) sc_crossed.nd rfl (.inl rfl) (pe_op op_rep (pe_lst (pa_cons pe_int pa_nil)) (pe_op op_sub (pe_op op_add (pe_callB call_len_seq (by rfl) n_len PySem.boot_len (pa_cons (pv 2) pa_nil)) (pe_callB call_len_seq (by rfl) n_len PySem.boot_len (pa_cons (pv 4) pa_nil))) pe_int)))
      (pss_cons (ps_for PassesOwn.never rfl (pi_enum (by rfl) n_enumerate (pa_cons (pv 2) pa_nil)) (pg_tup rfl (pgs_cons (pg_name (i := 7) sc_crossed.nd rfl (.inl rfl)) (pgs_cons (pg_name (i := 8) sc_crossed.nd rfl (.inl rfl)) pgs_nil))) (pss_one (ps_for PassesOwn.never rfl (pi_enum (by rfl) n_enumerate (pa_cons (pv 4) pa_nil)) (pg_tup rfl (pgs_cons (pg_name (i := 9) sc_crossed.nd rfl (.inl rfl)) (pgs_cons (pg_name (i := 10) sc_crossed.nd rfl (.inl rfl)) pgs_nil))) (pss_one (ps_augS (pv 6) (pe_op op_add (pv 7) (pv 9)) get_listN (pe_op op_mulA (pv 8) (pv 10)) ip_add set_list)))))
      (pss_one (ps_ret (pe_lc (own := [("total", 11)]) (g := (gName 11)) (tt := tYes) (te := (tCall spRat0 [] E0 (tCons (tVar 11) (tCons (tOp (rI CMulA fun i j => .int (i * j)) (tVar 3) (tVar 5)) tNil)))) rfl sc_crossed.nd (pi_list (pv 6)) (blkOk_by (own := [("total", 11)]) (N := N_crossed) (sc := (defScope s_crossed)) (by decide +kernel)) (fun _ _ _ _ _ => (pg_name (i := 11) sc_crossed.nd rfl (.inl rfl))) (fun _ _ _ _ _ => pts_nil) (fun _ _ _ _ _ => (pe_call GR hr (by rfl) gR FR.kp bR .nil pass0 (pa_cons (pv 11) (pa_cons (pe_op op_mulA (pv 3) (pv 5)) pa_nil))))))))))), ?_⟩
    refine ⟨_, rfl, ?_⟩
    refine tnil_go ?_
    refine oobT_go (K := K) hp p1 p2 p3 (by omega) x1 x2 fun z1 zt c T H1 s1' hz1 hzt c0 cD sc tv ts => ?_
    refine ⟨z1, _, rfl, SqT.of hz1, rfl, _, _, rfl, _, _, rfl, rfl, ?_⟩
    refine ⟨_, rfl, ?_⟩
    refine tnil_go ?_
    refine oobT_go (K := K) (ht.tk (Tk.same s1')) r1 r2 r3 (by omega) x4 x5 fun z2 zu e U H2 s2' hz2 hzu e0 eD se uv us => ?_
    refine ⟨z2, _, rfl, SqT.of hz2, rfl, _, _, rfl, _, _, rfl, rfl, ?_⟩
    have hzt2 := s2' _ _ hzt
    refine ⟨by show 1 ≤ sizeLine; decide, fun b1 mb => ?_⟩
    have g1 := same_new (o := HO.lst [.int 0]) mb
    refine ⟨_, rfl, zt, _, rfl, .inl (SqL.of (g1 _ _ hzt2)), ?_⟩
    refine ⟨_, rfl, zu, _, rfl, .inl (SqL.of (g1 _ _ hzu)), ?_⟩
    refine ⟨_, _, rfl, rfl, _, 1, rfl, rfl, ?_⟩
    have el : (((mkI m T).map V.int).length : Int) + (((mkI n U).map V.int).length : Int) - 1 = (m : Int) + (n : Int) - 1 := by
      rw [List.length_map, List.length_map, mkI_len, mkI_len]
    have et : ((m : Int) + (n : Int) - 1).toNat = m + n - 1 := by omega
    show rRep (.ref b1) (.int ((((mkI m T).map V.int).length : Int) + (((mkI n U).map V.int).length : Int) - 1)) _ _
    rw [el]
    refine ⟨b1, _, _, rfl, rfl, upd_same, by omega, by omega, ?_, fun sm nsm => ?_⟩
    · rw [et]
      show 1 * (m + n - 1) ≤ sizeLine
      exact Nat.le_trans (show 1 * (m + n - 1) ≤ 1000 by omega) (by decide)
    have ef : (List.replicate ((m : Int) + (n : Int) - 1).toNat [V.int 0]).flatten = (mkI (m + n - 1) (cJ T U n 0 0)).map V.int := by
      rw [flat_rep, et, mkI_congr (g := fun _ => 0) fun i _ => cJ_zero, mkI_rep, List.map_replicate]
    rw [ef] at *
    have g2 := same_new (o := HO.lst ((mkI (m + n - 1) (cJ T U n 0 0)).map V.int)) nsm
    have nsm2 : H2 sm = none := g1.free nsm
    have G2 := g1.trans g2
    have hsm : IntL (upd (upd H2 b1 (HO.lst [.int 0])) sm (HO.lst ((mkI (m + n - 1) (cJ T U n 0 0)).map V.int))) sm (m + n - 1) (cJ T U n 0 0) := upd_same
    generalize upd (upd H2 b1 (HO.lst [.int 0])) sm (HO.lst ((mkI (m + n - 1) (cJ T U n 0 0)).map V.int)) = H3 at *
    refine ⟨_, rfl, zt, _, rfl, SqL.of (G2 _ _ hzt2), ?_⟩
    refine for_it (walk_enum (K := K) (a := zt) (xs := (mkI m T).map V.int)) (fun k σ HB => ∃ z7 z8 z9 z10 : Option V, σ = [some (.ref p), some (.ref t), some (.ref zt), some (.int c), some (.ref zu), some (.int e), some (.ref sm), z7, z8, z9, z10, none] ∧ Same H2 HB ∧ IntL HB sm (m + n - 1) (cJ T U n k 0)) ⟨none, none, none, none, rfl, G2, hsm⟩ ?_ ?_ ?_
    · rintro k σ HB _ ⟨_, _, _, _, rfl, sB, _⟩
      exact SqL.of (sB _ _ hzt2)
    · rintro k v σ HB HB' hk ⟨z7, z8, z9, z10, rfl, sB, hB⟩ ⟨T1, y1, y2, rfl, nT, rfl, ex1, ex2⟩
      rw [List.length_map, mkI_len] at hk
      dsimp only at ex1 ex2
      cases Option.some.inj ex1
      rw [List.getElem?_map, mkI_at hk] at ex2
      cases Option.some.inj ex2
      have gT := same_new (o := HO.tup [.int ((k : Nat) : Int), .int (T k)]) nT
      refine ⟨T1, _, rfl, SqT.of upd_same, rfl, _, _, rfl, _, _, rfl, rfl, ?_⟩
      refine ⟨_, rfl, zu, _, rfl, SqL.of ((sB.trans gT) _ _ hzu), ?_⟩
      refine for_it (walk_enum (K := K) (a := zu) (xs := (mkI n U).map V.int)) (fun j σ HC => ∃ z9 z10 : Option V, σ = [some (.ref p), some (.ref t), some (.ref zt), some (.int c), some (.ref zu), some (.int e), some (.ref sm), some (.int ((k : Nat) : Int)), some (.int (T k)), z9, z10, none] ∧ Same H2 HC ∧ IntL HC sm (m + n - 1) (cJ T U n k j)) ⟨z9, z10, rfl, sB.trans gT, gT _ _ hB⟩ ?_ ?_ ?_
      · rintro j σ HC _ ⟨_, _, rfl, sC, _⟩
        exact SqL.of (sC _ _ hzu)
      · rintro j v σ HC HC' hj ⟨z9, z10, rfl, sC, hC⟩ ⟨T2, y1, y2, rfl, nT2, rfl, ex1, ex2⟩
        rw [List.length_map, mkI_len] at hj
        dsimp only at ex1 ex2
        cases Option.some.inj ex1
        rw [List.getElem?_map, mkI_at hj] at ex2
        cases Option.some.inj ex2
        have gT2 := same_new (o := HO.tup [.int ((j : Nat) : Int), .int (U j)]) nT2
        have hC2 := gT2 _ _ hC
        refine ⟨T2, _, rfl, SqT.of upd_same, rfl, _, _, rfl, _, _, rfl, rfl, ?_⟩
        refine ⟨_, rfl, _, rfl, _, rfl, _, _, rfl, rfl, ?_⟩
        refine ⟨sm, _, _, _, rfl, rfl, SqL.of hC2, by show (0 : Int) ≤ ((k : Nat) : Int) + ((j : Nat) : Int); omega, at_of (j := k + j) (by show ((k : Nat) : Int) + ((j : Nat) : Int) = _; omega) (by rw [List.getElem?_map, mkI_at (by omega)]; rfl), ?_⟩
        refine ⟨_, rfl, _, rfl, _, _, rfl, rfl, (ts k hk).cmul (us j hj) (by omega) (by omega) (by omega), ?_⟩
        refine ⟨_, _, rfl, rfl, ?_⟩
        refine ⟨sm, _, _, k + j, rfl, rfl, hC2, ?_, ?_⟩
        · show ixN ((mkI (m + n - 1) (cJ T U n k j)).map V.int).length (((k : Nat) : Int) + ((j : Nat) : Int)) = some (k + j)
          unfold ixN
          rw [List.length_map, mkI_len, if_pos (by omega), if_pos (by omega)]
          congr 1
        · refine ⟨_, _, rfl, ?_, ?_⟩
          · intro b2 o hb2
            rw [upd_ne (ne_of_none hb2 nsm2)]
            exact (sC.trans gT2) _ _ hb2
          · unfold IntL
            rw [upd_same]
            congr 2
            rw [show V.int (cJ T U n k j (k + j) + T k * U j) = V.int (cJ T U n k j (k + j) + T k * U j) from rfl, ← List.map_set, mkI_set]
            congr 1
            refine mkI_congr fun i hi => ?_
            rw [cJ_step]
            by_cases z : i = k + j
            · rw [if_pos z, if_pos z, z]
            · rw [if_neg z, if_neg z]
      · rintro σ HC ⟨z9, z10, rfl, sC, hC⟩
        rw [List.length_map, mkI_len] at hC
        refine ⟨_, _, _, _, rfl, sC, ?_⟩
        have e8 : mkI (m + n - 1) (cJ T U n k n) = mkI (m + n - 1) (cJ T U n (k + 1) 0) := mkI_congr fun i _ => cJ_full
        unfold IntL at hC ⊢
        rw [← e8]
        exact hC
    · rintro σ HB ⟨z7, z8, z9, z10, rfl, sB, hB⟩
      rw [List.length_map, mkI_len] at hB
      have hce : 0 < c * e := Int.mul_pos c0 e0
      have sce : Sm (s1 + s2) (c * e) := sc.mul se
      refine ⟨_, rfl, sm, rfl, ⟨_, SqL.of hB⟩, ?_⟩
      refine lc_mkW (K := K) (walk_list (K := K) (a := sm) (xs := (mkI (m + n - 1) (cJ T U n m 0)).map V.int)) (crossQ A' B m n) (by rw [List.length_map, mkI_len]; omega) (fun HE sE => SqL.of (sE _ _ hB)) (fun i v HE HE' R hi sE hY qr => ?_) (fun D2 HE sE hE => ?_)
      · obtain ⟨rfl, hv⟩ := hY
        rw [List.length_map, mkI_len] at hi
        rw [List.getElem?_map, mkI_at hi] at hv
        cases Option.some.inj hv
        refine ⟨rfl, _, rfl, _, rfl, _, rfl, _, _, rfl, rfl, sc.cmul se x0 x3 (by omega), ?_⟩
        refine tnil_go ?_
        exact rat_go (K := K) hce (sce.mono (m := 8000) (by omega)) (cJ_val tv uv) qr
      · rw [List.length_map, mkI_len] at hE
        exact q D2 HE (s1'.trans (s2'.trans (sB.trans sE))) hE
end

end Fp

set_option Elab.async false
set_option linter.all false
set_option maxRecDepth 100000
set_option maxHeartbeats 4000000
set_option exponentiation.threshold 10000
namespace Fp
open PySem PySem.Spec PyProof.Rows L2
/-! ### tables: what they hold -/
theorem tk_dk {K : PySem.W.Frag} {H : Hp} {p : Addr} {xs ys : List (Key × V)} (h : H p = some (.dK xs)) : Tk K H (upd H p (.dK ys)) := fun a zs z => by
  rcases z with (z | ⟨o, z⟩) | z
  · exact .inl (.inl (by rw [upd_ne (ne_of z h (by intro y; cases y))]; exact z))
  · exact .inl (.inr ⟨o, by rw [upd_ne (ne_of z h (by intro y; cases y))]; exact z⟩)
  · exact .inr z
/-- a table: each number's chance -/
def TbA (K : PySem.W.Frag) (H : Hp) (T : Addr) (n : Nat) (F : Nat → Rat) : Prop := ∃ kvs : List (Key × V), H T = some (.dK kvs) ∧ kvs.length ≤ n ∧ (∀ kv ∈ kvs, ∃ k : Nat, kv.1 = .inl (k : Int) ∧ k ≤ 60) ∧
  ∀ k : Nat, (valV kvs (.inl (k : Int)) = none ∧ F k = 0) ∨ ∃ r, valV kvs (.inl (k : Int)) = some (.ref r) ∧ RAt K H r (rdq (F k))
section
variable {K : PySem.W.Frag} {H H' : Hp} {T : Addr} {n : Nat} {F : Nat → Rat}
theorem TbA.same (h : TbA K H T n F) (s : Same H H') : TbA K H' T n F := by
  obtain ⟨kvs, h1, h2, h3, h4⟩ := h
  refine ⟨kvs, s _ _ h1, h2, h3, fun k => ?_⟩
  rcases h4 k with z | ⟨r, z1, z2⟩
  · exact .inl z
  · exact .inr ⟨r, z1, z2.tk (Tk.same s)⟩
theorem TbA.nil : TbA K (upd H T (.dK [])) T 0 (fun _ => 0) := ⟨[], upd_same, Nat.le_refl _, fun kv h => by simp at h, fun k => .inl ⟨rfl, rfl⟩⟩
theorem TbA.congr {G : Nat → Rat} (h : TbA K H T n F) (e : ∀ k, G k = F k) : TbA K H T n G := by
  rw [funext e]
  exact h
theorem TbA.get (h : TbA K H T n F) (k : Nat) {z : Addr} (hz : RAt K H z (0, 1)) : ∃ o r, DGet H T (.int (k : Int)) o ∧ o.getD (.ref z) = .ref r ∧ RAt K H r (rdq (F k)) := by
  obtain ⟨kvs, h1, h2, h3, h4⟩ := h
  rcases h4 k with ⟨z1, z2⟩ | ⟨r, z1, z2⟩
  · refine ⟨_, z, DGet.k (k := .inl (k : Int)) h1, ?_, ?_⟩
    · rw [z1]
      rfl
    · rw [z2, rdq_zero.mpr rfl]
      exact hz
  · refine ⟨_, r, DGet.k (k := .inl (k : Int)) h1, ?_, z2⟩
    rw [z1]
    rfl
theorem mem_put {kvs : List (Key × V)} {k : Key} {v : V} : ∀ kv ∈ putK kvs k v, kv.1 = k ∨ ∃ u ∈ kvs, u.1 = kv.1 := by
  intro kv h
  unfold putK at h
  split at h
  · obtain ⟨u, hu, e⟩ := List.mem_map.mp h
    refine .inr ⟨u, hu, ?_⟩
    rw [← e]
    split <;> rfl
  · rcases List.mem_append.mp h with z | z
    · exact .inr ⟨kv, z, rfl⟩
    · rw [List.mem_singleton.mp z]
      exact .inl rfl
theorem TbA.put (h : TbA K H T n F) {k : Nat} {r : Addr} {v : Rat} (hk : k ≤ 60) (hn : n ≤ 900) (hr : RAt K H r (rdq v)) : ∃ H', DPut H T (.int (k : Int)) (.ref r) H' ∧ TbA K H' T (n + 1) (fun j => if j = k then v else F j) ∧ Tk K H H' ∧ ∀ b, b ≠ T → H' b = H b := by
  obtain ⟨kvs, h1, h2, h3, h4⟩ := h
  have tk : Tk K H (upd H T (.dK (putK kvs (.inl (k : Int)) (.ref r)))) := tk_dk h1
  refine ⟨_, DPut.k (k := .inl (k : Int)) h1 (by rw [sizeLine_eq]; omega), ⟨_, upd_same, ?_, fun kv hkv => ?_, fun j => ?_⟩, tk, fun b hb => upd_ne hb⟩
  · have := length_putK kvs (.inl (k : Int)) (.ref r)
    omega
  · rcases mem_put kv hkv with z | ⟨u, hu, z⟩
    · exact ⟨k, z, hk⟩
    · rw [← z]
      exact h3 u hu
  · rw [valV_put]
    dsimp only
    rcases Classical.em (j = k) with z | z
    · rw [if_pos (by rw [z]), if_pos z]
      exact .inr ⟨r, rfl, hr.tk tk⟩
    · rw [if_neg (by intro e; apply z; have := Sum.inl.inj e; omega), if_neg z]
      rcases h4 j with y | ⟨r2, y1, y2⟩
      · exact .inl y
      · exact .inr ⟨r2, y1, y2.tk tk⟩
end
/-! ### each with each, one after another -/
def crossP (A B : Nat → Rat) (n jj kk i : Nat) : Rat := (sumTo jj fun k => if k ≤ i ∧ i < k + n then A k * B (i - k) else 0) + if jj ≤ i ∧ i < jj + kk then A jj * B (i - jj) else 0
theorem crossP_zero (A B : Nat → Rat) (n i : Nat) : crossP A B n 0 0 i = 0 := by
  unfold crossP
  rw [sumTo_zero, if_neg (by omega)]
  grind
theorem crossP_full (A B : Nat → Rat) (n jj i : Nat) : crossP A B n jj n i = crossP A B n (jj + 1) 0 i := by
  unfold crossP
  rw [sumTo_succ, if_neg (show ¬ (jj + 1 ≤ i ∧ i < jj + 1 + 0) by omega)]
  grind
theorem crossP_all (A B : Nat → Rat) (m n i : Nat) : crossP A B n m 0 i = crossQ A B m n i := by
  unfold crossP crossQ
  rw [if_neg (by omega)]
  grind
theorem crossP_step (A B : Nat → Rat) (n jj kk i : Nat) : crossP A B n jj (kk + 1) i = if i = jj + kk then crossP A B n jj kk i + A jj * B kk else crossP A B n jj kk i := by
  unfold crossP
  rcases Classical.em (i = jj + kk) with z | z
  · rw [if_pos z, if_pos (by omega), if_neg (by omega), show i - jj = kk by omega]
    grind
  · rw [if_neg z]
    congr 1
    rcases Classical.em (jj ≤ i ∧ i < jj + kk) with y | y
    · rw [if_pos y, if_pos (by omega)]
    · rw [if_neg y, if_neg (by omega)]
theorem crossQ_far (A B : Nat → Rat) {m n i : Nat} (h : m + n ≤ i + 1) : crossQ A B m n i = 0 := by
  unfold crossQ
  rw [sumTo_congr (g := fun _ => 0) fun k hk => if_neg (by omega), sumTo_nought]
/-- the table of two behind one another -/
def tabF (C : Nat → Rat) : Nat → Rat
  | 0 => 0
  | 1 => 0
  | i + 2 => C i
theorem tabF_put (C : Nat → Rat) (i : Nat) (v : Rat) : (fun j => if j = i + 2 then v else tabF C j) = tabF fun j => if j = i then v else C j := by
  funext j
  match j with
  | 0 =>
    rw [if_neg (by omega)]
    rfl
  | 1 =>
    rw [if_neg (by omega)]
    rfl
  | j + 2 =>
    show (if j + 2 = i + 2 then v else C j) = if j = i then v else C j
    rcases Classical.em (j = i) with z | z
    · rw [if_pos (by omega), if_pos z]
    · rw [if_neg (by omega), if_neg z]
theorem tabF_row (C : Nat → Rat) (i : Nat) : tabF C (i + 1) = laterF C i := by
  cases i <;> rfl
/-! ### rows told shorter or longer -/
theorem trim_mk {f : Nat → Rat} {m M : Nat} (h : m ≤ M) (hz : ∀ i, m ≤ i → f i = 0) : trimZ (mkL M f) = trimZ (mkL m f) := by
  obtain ⟨k, rfl⟩ : ∃ k, M = m + k := ⟨M - m, by omega⟩
  have e : mkL (m + k) f = mkL m f ++ List.replicate k (0, 1) := by
    induction k with
    | zero => rw [Nat.add_zero, List.replicate_zero, List.append_nil]
    | succ k ih => rw [← Nat.add_assoc, mkL_succ, ih (by omega), hz _ (by omega), rdq_zero.mpr rfl, List.append_assoc, List.replicate_succ']
  rw [e, trimZ_noughts]
theorem goes_none {row : List RT} : ¬ GoesOn row (0, 1) := by
  rcases snoc_cases row with z | ⟨ys, y, z⟩
  · rw [z]
    exact goes_nil
  · rw [z]
    intro h
    exact (goes_snoc.mp h).1 rfl
theorem short_row (row : List RT) : shortL row (0, 1) = (trimZ row, (0, 1)) := shortL_end goes_none
theorem nstep7 : StepOk 300 (0, 1) := ⟨nought_sm (by decide), by show (0 : Int) ≤ 0; decide, by show (0 : Int) < 1; decide⟩
/-! ### rows that end -/
theorem chR_far0' {row : List RT} {i : Nat} (h : row.length ≤ i) : chR row (0, 1) i = 0 := by
  rcases Classical.em (row = []) with z | z
  · rw [z, chR_nil]
  · obtain ⟨l, h1, _, _⟩ := last_is z
    rw [chR_out h h1, qv_nought, show i + 1 - row.length = (i - row.length) + 1 by omega, Rat.pow_succ]
    grind
theorem BR.sz {row : List RT} {W : Int} (h : BR row) (hW : 0 < W) (hd : ∀ y ∈ row, y.2 ∣ W) (k : Nat) : Sz W 0 (chR row (0, 1) k) := by
  rcases (by omega : k < row.length ∨ row.length ≤ k) with z | z
  · have hm := List.getElem_mem z
    rw [chR_in (List.getElem?_eq_getElem z)]
    obtain ⟨a, b⟩ := h.q _ hm
    exact Sz.pos ⟨_, qv_over (h.sm _ hm).1.1 (hd _ hm) hW⟩ a (by rw [Rat.pow_zero]; exact b)
  · rw [chR_far0' z]
    exact Sz.nought
theorem BR.mkl {row : List RT} (h : BR row) : row = mkL row.length (chR row (0, 1)) := by
  refine List.ext_getElem (by rw [mkL_len]) fun i h1 h2 => ?_
  have e := mkL_at (g := chR row (0, 1)) h1
  rw [List.getElem?_eq_getElem h2] at e
  rw [Option.some.inj e, chR_in (List.getElem?_eq_getElem h1), ← red_rdq (h.sm _ (List.getElem_mem h1)).1]
theorem BR.ok {row : List RT} (h : BR row) (hl : row.length ≤ 14) : LifeOk 20 row (0, 1) := ⟨fun x hx => (h.sm x hx).mono (by decide), ⟨nought_sm (by decide), by show (0 : Int) ≤ 0; decide, by show (0 : Int) < 1; decide⟩, by omega, by decide, by decide⟩
theorem crossQ_sz {A B : Nat → Rat} {P1 P2 : Int} (h1 : 0 < P1) (h2 : 0 < P2) (zA : ∀ k, Sz P1 0 (A k)) (zB : ∀ k, Sz P2 0 (B k)) {m n : Nat} (hm : m ≤ 100) (i : Nat) : Sz (P1 * P2) 7 (crossQ A B m n i) := by
  unfold crossQ
  refine Sz.sum (k := 0) (Int.mul_pos h1 h2) (fun k _ => ?_) (by omega)
  split
  · exact (zA k).mul h1 h2 (zB _)
  · exact Sz.nought
theorem crossP_sz {A B : Nat → Rat} {P1 P2 : Int} (h1 : 0 < P1) (h2 : 0 < P2) (zA : ∀ k, Sz P1 0 (A k)) (zB : ∀ k, Sz P2 0 (B k)) {jj n kk : Nat} (hm : jj ≤ 100) (i : Nat) : Sz (P1 * P2) 8 (crossP A B n jj kk i) := by
  unfold crossP
  refine Sz.add (k := 7) (Int.mul_pos h1 h2) (crossQ_sz h1 h2 zA zB hm i) ?_
  split
  · exact ((zA _).mul h1 h2 (zB _)).mono (by decide)
  · exact Sz.nought

end Fp

set_option Elab.async false
set_option linter.all false
set_option maxRecDepth 100000
set_option maxHeartbeats 4000000
set_option exponentiation.threshold 10000
namespace Fp
open PySem PySem.Spec PyProof.Rows L2
/-! ### tables of chances -/
section
variable {K : PySem.W.Frag}
/-- a comprehension each turn of which gives a new list of ratios -/
theorem lc_lsW {J : It} {n : Nat} {G : Hp → Prop} {Y : Nat → Hp → V → Hp → Prop} (w : Walk J n G Y) {g : TG} {te : TE} {vs : List Nat} {σ : L2.St} {H1 : Hp} (m : Nat) (f : Nat → Nat → Rat) (hn : n ≤ 900) (hG : ∀ HE, Same H1 HE → G HE)
    (hs : ∀ (k : Nat) (x : V) (HE HE' : Hp) (R : VK), k < n → Same H1 HE → Y k HE x HE' → (∀ r HF, Same HE HF → HE r = none → LsM K HF r (mkL m (f k)) → R (.ref r) HF) → g x (wipe σ vs) HE' fun σ2 H2 => wipe σ2 vs = wipe σ vs ∧ te σ2 H2 R)
    {Qd : Addr → Hp → Prop} (hd : ∀ D H2 (fs : List Addr), Same H1 H2 → H2 D = some (.lst (fs.map V.ref)) → fs.length = n → (∀ i r, fs[i]? = some r → LsM K H2 r (mkL m (f i))) → Qd D H2) : tLc (fun _ H2 R => R J H2) g tYes te vs σ H1 (refQ Qd) := by
  intro D nD
  have e1 := same_new (o := HO.lst []) nD
  refine lc_it w (fun k HE => ∃ fs : List Addr, Same H1 HE ∧ HE D = some (.lst (fs.map V.ref)) ∧ fs.length = k ∧ ∀ i r, fs[i]? = some r → r ≠ D ∧ LsM K HE r (mkL m (f i))) ⟨[], e1, upd_same, rfl, fun i r h => by simp at h⟩ ?_ ?_ ?_
  · rintro i HE _ ⟨_, sE, _⟩
    exact hG HE sE
  · rintro k x HE HE' hk ⟨fs, sE, hE, hfl, hfs⟩ hY
    refine hs k x HE HE' _ hk sE hY fun r HF sF nr hr => ?_
    have hE5 := sF _ _ hE
    have hrD : r ≠ D := fun z => by
      rw [z, hE] at nr
      cases nr
    have stay : ∀ b ys, b ≠ D → LsM K HF b ys → LsM K (upd HF D (.lst (fs.map V.ref ++ [.ref r]))) b ys := fun b ys hb h => by
      obtain ⟨as, h1, h2⟩ := h
      refine ⟨as, ?_, h2.tk (tk_lst hE5)⟩
      rw [upd_ne hb]
      exact h1
    refine ⟨_, hE5, by rw [List.length_map, hfl]; exact small1000 (by omega), fs ++ [r], ?_, ?_, by rw [List.length_append, hfl]; rfl, fun i q hq => ?_⟩
    · intro b2 o hb2
      rw [upd_ne (ne_of_none hb2 nD)]
      exact (sE.trans sF) _ _ hb2
    · rw [upd_same, List.map_append]
      rfl
    · rcases (by omega : i < fs.length ∨ i = fs.length ∨ fs.length < i) with z | z | z
      · rw [List.getElem?_append_left z] at hq
        obtain ⟨x1, x2⟩ := hfs i q hq
        exact ⟨x1, stay q _ x1 (x2.same sF)⟩
      · rw [z, List.getElem?_append_right (Nat.le_refl _), Nat.sub_self] at hq
        cases Option.some.inj hq
        rw [z, hfl]
        exact ⟨hrD, stay r _ hrD hr⟩
      · rw [List.getElem?_append_right (by omega), List.getElem?_eq_none (by simp; omega)] at hq
        cases hq
  · rintro HE ⟨fs, sE, hE, hfl, hfs⟩
    exact hd D HE fs sE hE hfl fun i r h => (hfs i r h).2
theorem addL_go {H : Hp} {Q : VK} {p : Addr} {P : Int} {n s k : Nat} {f : Nat → Rat} (h : LsM K H p (mkL n f)) (hP : 0 < P) (sP : Sm s P) (z : ∀ j, j < n → Sz P k (f j)) (hn : n ≤ 1000) (hs : s ≤ 2500) (hk : k ≤ 900)
    (q : ∀ r H', Same H H' → RAt K H' r (rdq (sumTo n f)) → Q (.ref r) H') : spAdded K [.ref p] H Q E0 := by
  obtain ⟨rs, h1, h2⟩ := h
  refine ⟨p, _, _, _, P, rfl, ⟨rs, SqL.of h1, h2⟩, over_mkL hP sP z hn, by omega, by omega, fun y x HF sF hy rx vx _ _ => ?_⟩
  have ex : x = rdq (sumTo n f) := is_rdq rx (by rw [vx, mkL_sum])
  rw [ex] at hy
  exact q y HF sF hy
end
abbrev s_bh : Stmt := topS 33
abbrev N_bh : List Str := ["one", "other"]
theorem sc_bh : FnScope N_bh ["one", "other"] (defScope s_bh) := ⟨rfl, rfl, rfl, by decide +kernel, rfl, by decide +kernel, by decide +kernel⟩
def bhQ (rowA rowB : List RT) : Nat → Rat := laterF (crossQ (chR rowA (0, 1)) (chR rowB (0, 1)) rowA.length rowB.length)
section
variable {P : Program} {w : World} {K : PySem.W.Frag} {mg : Str → Option Value} {base : Heap} {aN aO : Addr}
theorem ne_same {H : Hp} {Q : VK} {p q : Addr} {x : RT} (h1 : RAt K H p x) (h2 : RAt K H q x) (h : Q (.bl false) H) : rNeD K (.ref p) (.ref q) H Q := by
  refine ne_rat h1 h2 ?_
  rw [decide_eq_true rfl]
  exact h
theorem bh_trim (rowA rowB : List RT) (h1 : rowA.length ≤ 14) (h2 : rowB.length ≤ 14) : trimZ (mkL (rowA.length + rowB.length - 1 + 1) (bhQ rowA rowB)) = trimZ (mkL 60 (bhQ rowA rowB)) := by
  refine (trim_mk (by omega) fun i hi => ?_).symm
  cases i with
  | zero => omega
  | succ i =>
    show crossQ _ _ _ _ i = 0
    exact crossQ_far _ _ (by omega)
def spBh (K : PySem.W.Frag) : Sp := fun vs H Q _ => ∃ (p r : Addr) (rowA rowB : List RT), vs = [.ref p, .ref r] ∧ LifeAt K H p rowA (0, 1) ∧ LifeAt K H r rowB (0, 1) ∧ BR rowA ∧ BR rowB ∧ rowA.length ≤ 14 ∧ rowB.length ≤ 14 ∧
  ∀ z H', Same H H' → LifeAt K H' z (trimZ (mkL 60 (bhQ rowA rowB))) (0, 1) → Q (.ref z) H'
theorem ok_bh {f fSHO fCR : Addr} {fd fdSHO fdCR : FuncData} (F : Fun K "behind" "behind" s_bh f fd) (C : Consts K mg aN aO)
    (FSHO : Fun K "short" "short" s_short fSHO fdSHO) (bSHO : Binds K fdSHO ["life"] []) (gSHO : mg "short" = some (.ref fSHO)) (GSHO : FnOk P w K mg base CX0 5 fSHO fdSHO ["life"] (spShort K))
    (FCR : Fun K "crossed" "crossed" s_crossed fCR fdCR) (bCR : Binds K fdCR ["ones", "others"] []) (gCR : mg "crossed" = some (.ref fCR)) (GCRT : FnOk P w K mg base CX0 3 fCR fdCR ["ones", "others"] (spCrossedTT K))
    : FnOk P w K mg base CX0 6 f fd ["one", "other"] (spBh K) := by
  refine F.ok sc_bh (fun vs H Q E h => ?_) (fun cdv A outer s H vs Q E hr h => ?_)
  · obtain ⟨_, _, _, _, rfl, _⟩ := h
    rfl
  · obtain ⟨p, r, rowA, rowB, rfl, lA, lB, bA, bB, hA, hB, q⟩ := h
    refine ⟨_, (pss_one (ps_ret (pe_call GSHO hr (by rfl) gSHO FSHO.kp bSHO .nil pass0 (pa_cons (pe_tup (pa_cons (pe_tup (pa_cons (pe_glob (v := .ref aN) rfl C.gN rfl) (StX.pa_star (pe_call GCRT (hr.mono (by decide)) (by rfl) gCR FCR.kp bCR .nil pass0 (pa_cons (pe_ix ix_tup (pv 0) pe_int (fun _ _ => rfl)) (pa_cons (pe_ix ix_tup (pv 1) pe_int (fun _ _ => rfl)) pa_nil))) pa_nil))) (pa_cons (pe_glob (v := .ref aN) rfl C.gN rfl) pa_nil))) pa_nil)))), ?_⟩
    obtain ⟨pa, sa, a1, a2, a3⟩ := id lA
    obtain ⟨pb, sb, b1, b2, b3⟩ := id lB
    obtain ⟨WA, wA1, wA2, wA3⟩ := bA.w
    obtain ⟨WB, wB1, wB2, wB3⟩ := bB.w
    rw [bA.mkl] at a2
    rw [bB.mkl] at b2
    refine ⟨_, rfl, p, _, _, _, rfl, rfl, a1, rfl, ?_⟩
    refine ⟨_, rfl, r, _, _, _, rfl, rfl, b1, rfl, ?_⟩
    refine tnil_go ?_
    refine ⟨pa, pb, rowA.length, rowB.length, 10, 0, 10, 0, chR rowA (0, 1), chR rowB (0, 1), WA, WB, rfl, a2, b2, ⟨wA1, wA2, fun j _ => bA.sz wA1 wA3 j⟩, ⟨wB1, wB2, fun j _ => bB.sz wB1 wB3 j⟩, ⟨by omega, by omega⟩, ⟨by decide, by decide, by decide, by decide, by decide, by decide⟩, fun z H1 s1 hz => ?_⟩
    obtain ⟨rs, z1, z2⟩ := hz
    have hrl := z2.length
    rw [mkL_len] at hrl
    refine ⟨z, _, rfl, .inr (SqL.of z1), ?_⟩
    refine tnil_go ?_
    refine ⟨?_, fun t nt => ?_⟩
    · show ((V.ref aN) :: (rs.map V.ref ++ [])).length ≤ sizeLine
      rw [List.append_nil, List.length_cons, List.length_map, hrl]
      exact Nat.le_trans (show rowA.length + rowB.length - 1 + 1 ≤ 1000 by omega) (by decide)
    have et : (V.ref aN :: (rs.map V.ref ++ [])) = (aN :: rs).map V.ref := by
      rw [List.append_nil]
      rfl
    rw [et] at *
    have e1 := same_new (o := HO.tup ((aN :: rs).map V.ref)) nt
    refine ⟨by show 2 ≤ sizeLine; decide, fun l nl => ?_⟩
    have e2 := same_new (o := HO.tup [.ref t, .ref aN]) nl
    refine tnil_go ?_
    have hrow : RowAt K (upd (upd H1 t (HO.tup ((aN :: rs).map V.ref))) l (HO.tup [.ref t, .ref aN])) t (mkL (rowA.length + rowB.length - 1 + 1) (bhQ rowA rowB)) := by
      refine ⟨aN :: rs, SqT.of (e2 _ _ upd_same), ?_⟩
      unfold bhQ
      rw [mkL_cons]
      exact .cons (C.tN _) (z2.tk (Tk.same (e1.trans e2)))
    refine ⟨l, _, (0, 1), rfl, ⟨t, aN, SqT.of upd_same, hrow, C.tN _⟩, fun x hx => ?_, nstep7, fun z2' H2 s2 hz2 => q z2' H2 (s1.trans (e1.trans (e2.trans s2))) ?_⟩
    · obtain ⟨j, hj, rfl⟩ := mem_mkL hx
      cases j with
      | zero =>
        rw [show bhQ rowA rowB 0 = 0 from rfl, rdq_zero.mpr rfl]
        exact nought_sm (by decide)
      | succ j => exact (crossQ_sz wA1 wB1 (bA.sz wA1 wA3) (bB.sz wB1 wB3) (by omega) j).smr (s := 20) (Int.mul_pos wA1 wB1) (wA2.mul wB2) (by decide)
    · rw [short_row, bh_trim _ _ hA hB] at hz2
      exact hz2
end

end Fp

set_option Elab.async false
set_option linter.all false
set_option maxRecDepth 100000
set_option maxHeartbeats 4000000
set_option exponentiation.threshold 10000
namespace Fp
open PySem PySem.Spec PyProof.Rows L2
/-! ### kinds -/
abbrev Tri := Nat × Nat × RT
def TriA (K : PySem.W.Frag) (H : Hp) (p : Addr) (y : Tri) : Prop := ∃ c : Addr, SqT K H p [.int ((y.1 : Nat) : Int), .int ((y.2.1 : Nat) : Int), .ref c] ∧ RAt K H c y.2.2
def KdA (K : PySem.W.Frag) (H : Hp) (p : Addr) (ys : List Tri) : Prop := ∃ rs : List Addr, SqT K H p (rs.map V.ref) ∧ Obs (TriA K) H rs ys
def KdsA (K : PySem.W.Frag) (H : Hp) (p : Addr) (ks : List (List Tri)) : Prop := ∃ rs : List Addr, SqT K H p (rs.map V.ref) ∧ Obs (KdA K) H rs ks
abbrev Mv := Nat × Tri
def MvA (K : PySem.W.Frag) (H : Hp) (p : Addr) (y : Mv) : Prop := ∃ c : Addr, SqT K H p [.int ((y.1 : Nat) : Int), .int ((y.2.1 : Nat) : Int), .int ((y.2.2.1 : Nat) : Int), .ref c] ∧ RAt K H c y.2.2.2
def movesFrom : Nat → List (List Tri) → List Mv
  | _, [] => []
  | k, ts :: r => ts.map (fun t => (k, t)) ++ movesFrom (k + 1) r
def folL (row : List RT) (f : Nat) : List Tri := (row.zipIdx.filter fun x => decide (x.1 ≠ (0, 1))).map fun x => (x.2 + 1, f, x.1)
section
variable {K : PySem.W.Frag}
theorem triA_stays : Stays K (TriA K) := fun H H' p y e h => by
  obtain ⟨c, h1, h2⟩ := h
  exact ⟨c, e _ _ h1, h2.tk e⟩
theorem kdA_stays : Stays K (KdA K) := fun H H' p y e h => by
  obtain ⟨c, h1, h2⟩ := h
  exact ⟨c, e _ _ h1, h2.tk triA_stays e⟩
theorem kdsA_stays : Stays K (KdsA K) := fun H H' p y e h => by
  obtain ⟨c, h1, h2⟩ := h
  exact ⟨c, e _ _ h1, h2.tk kdA_stays e⟩
theorem mvA_stays : Stays K (MvA K) := fun H H' p y e h => by
  obtain ⟨c, h1, h2⟩ := h
  exact ⟨c, e _ _ h1, h2.tk e⟩
/-- a comprehension with a test, each turn of which gives such an object -/
theorem lc_obsF {α β : Type} {At : Hp → Addr → β → Prop} (st : Stays K At) {J : It} {n : Nat} {G : Hp → Prop} {Y : Nat → Hp → V → Hp → Prop} (w : Walk J n G Y) {g : TG} {tt : TT} {te : TE} {vs : List Nat} {σ : L2.St} {H1 : Hp} (xs : List α) (f : α → β) (b : α → Bool) (hx : n = xs.length) (hn : n ≤ 900) (hG : ∀ HE, Same H1 HE → G HE)
    (hs : ∀ (k : Nat) (y : α) (x : V) (HE HE' : Hp) (R : VK) (N : Hp → Prop), xs[k]? = some y → Same H1 HE → Y k HE x HE' → (b y = true → ∀ r HF, Same HE HF → At HF r (f y) → R (.ref r) HF) → (b y = false → ∀ HF, Same HE HF → N HF) → g x (wipe σ vs) HE' fun σ2 H2 => wipe σ2 vs = wipe σ vs ∧ tt σ2 H2 fun bb H3 => if bb = true then te σ2 H3 R else N H3)
    {Qd : Addr → Hp → Prop} (hd : ∀ D H2, Same H1 H2 → OLs At H2 D ((xs.filter b).map f) → Qd D H2) : tLc (fun _ H2 R => R J H2) g tt te vs σ H1 (refQ Qd) := by
  intro D nD
  have e1 := same_new (o := HO.lst []) nD
  refine lc_it w (fun k HE => Same H1 HE ∧ ∃ rs : List Addr, HE D = some (.lst (rs.map V.ref)) ∧ Obs At HE rs (((xs.take k).filter b).map f)) ⟨e1, [], upd_same, Obs.nil⟩ ?_ ?_ ?_
  · rintro i HE _ ⟨sE, _⟩
    exact hG HE sE
  · rintro k x HE HE' hk ⟨sE, hE⟩ hY
    obtain ⟨y, hy⟩ : ∃ y, xs[k]? = some y := ⟨xs[k], List.getElem?_eq_getElem (by omega)⟩
    have et : (xs.take (k + 1)).filter b = (xs.take k).filter b ++ [y].filter b := by
      rw [List.take_add_one, hy, List.filter_append]
      rfl
    refine hs k y x HE HE' _ _ hy sE hY (fun hb r HF sF hr => ?_) (fun hb HF sF => ?_)
    · obtain ⟨qs, q1, q2⟩ := hE
      have q3 := q2.tk st (Tk.same (K := K) sF)
      have hql := q3.1
      have hfl : ((xs.take k).filter b).length ≤ k := Nat.le_trans (List.length_filter_le _ _) (by rw [List.length_take]; omega)
      rw [List.length_map] at hql
      refine ⟨_, sF _ _ q1, by rw [List.length_map]; exact small1000 (by omega), ?_, ?_⟩
      · intro b2 o hb2
        rw [upd_ne (ne_of_none hb2 nD)]
        exact (sE.trans sF) _ _ hb2
      · refine ⟨qs ++ [r], ?_, ?_⟩
        · rw [upd_same, List.map_append]
          rfl
        · rw [et, List.filter_cons_of_pos hb, List.map_append]
          have tk : Tk K HF (upd HF D (.lst (qs.map V.ref ++ [.ref r]))) := tk_lst (sF _ _ q1)
          exact (q3.append (Obs.one hr)).tk st tk
    · obtain ⟨qs, q1, q2⟩ := hE
      refine ⟨sE.trans sF, qs, sF _ _ q1, ?_⟩
      rw [et, List.filter_cons_of_neg (by rw [hb]; decide), List.filter_nil, List.append_nil]
      exact q2.tk st (Tk.same sF)
  · rintro HE ⟨sE, hE⟩
    rw [List.take_of_length_le (by omega)] at hE
    exact hd D HE sE hE
end
abbrev s_fol : Stmt := topS 28
abbrev N_fol : List Str := ["life", "follower", "k", "chance"]
theorem sc_fol : FnScope N_fol ["life", "follower"] (defScope s_fol) := ⟨rfl, rfl, rfl, by decide +kernel, rfl, by decide +kernel, by decide +kernel⟩
abbrev s_lent : Stmt := topS 27
abbrev N_lent : List Str := ["home", "out"]
theorem sc_lent : FnScope N_lent ["home", "out"] (defScope s_lent) := ⟨rfl, rfl, rfl, by decide +kernel, rfl, by decide +kernel, by decide +kernel⟩
section
variable {P : Program} {w : World} {K : PySem.W.Frag} {mg : Str → Option Value} {base : Heap} {aN aO : Addr}
def spFol (K : PySem.W.Frag) : Sp := fun vs H Q _ => ∃ (p : Addr) (row : List RT) (step : RT) (f : Nat), vs = [.ref p, .int ((f : Nat) : Int)] ∧ LifeAt K H p row step ∧ row.length ≤ 20 ∧
  ∀ z H', Same H H' → KdA K H' z (folL row f) → Q (.ref z) H'
def spLent (K : PySem.W.Frag) : Sp := fun vs H Q _ => ∃ (p r : Addr) (rowA rowB : List RT) (sA sB : RT), vs = [.ref p, .ref r] ∧ LifeAt K H p rowA sA ∧ LifeAt K H r rowB sB ∧ rowA.length ≤ 20 ∧ rowB.length ≤ 20 ∧
  ∀ z H', Same H H' → KdsA K H' z [folL rowA 1, folL rowB 0] → Q (.ref z) H'
theorem ok_fol {f  : Addr} {fd  : FuncData} (F : Fun K "followed" "followed" s_fol f fd) (C : Consts K mg aN aO)
    (n_enumerate : mg "enumerate" = none) (n_tuple : mg "tuple" = none) : FnOk P w K mg base CX0 1 f fd ["life", "follower"] (spFol K) := by
  refine F.ok sc_fol (fun vs H Q E h => ?_) (fun cdv A outer s H vs Q E hr h => ?_)
  · obtain ⟨_, _, _, _, rfl, _⟩ := h
    rfl
  · obtain ⟨p, row, step, f0, rfl, hl, hlen, q⟩ := h
    refine ⟨_, (pss_one (ps_ret (pe_callTy call_tuple_of (by rfl) n_tuple (by decide +kernel) (pa_cons (pe_lc (own := [("k", 2), ("chance", 3)]) (g := (gTup K 2 (gCons (gName 2) (gCons (gName 3) gNil)))) (tt := (tTest (tOp (rNeD K) (tVar 3) (tC (.ref aN))))) (te := (tTup (tCons (tVar 2) (tCons (tVar 1) (tCons (tVar 3) tNil))))) rfl sc_fol.nd (pi_qT (by decide) (by decide) (by rfl) n_enumerate (pa_cons (pe_ix ix_tup (pv 0) pe_int (fun _ _ => rfl)) pa_nil)) (blkOk_by (own := [("k", 2), ("chance", 3)]) (N := N_fol) (sc := (defScope s_fol)) (by decide +kernel)) (fun _ _ _ _ _ => (pg_tup rfl (pgs_cons (pg_name (i := 2) sc_fol.nd rfl (.inl rfl)) (pgs_cons (pg_name (i := 3) sc_fol.nd rfl (.inl rfl)) pgs_nil)))) (fun _ _ _ _ _ => (pts_one (pt_cmpR (op_neD hr.units) (pv 3) (pe_glob (v := .ref aN) rfl C.gN rfl) (nomark _)))) (fun _ _ _ _ _ => (pe_tup (pa_cons (pv 2) (pa_cons (pv 1) (pa_cons (pv 3) pa_nil)))))) pa_nil)))), ?_⟩
    obtain ⟨pr, ps, l1, l2, l3⟩ := id hl
    obtain ⟨rs, r1, r2⟩ := id l2
    have hrl := r2.length
    refine ⟨_, rfl, p, _, _, _, rfl, rfl, l1, at_of (j := 0) rfl rfl, ?_⟩
    refine tnil_go ?_
    refine ⟨pr, _, rfl, r1, ?_⟩
    refine lc_obsF (K := K) (At := TriA K) triA_stays (walk_q (Sq := fun H xs => SqT K H pr xs) (k := 1) (xs := rs.map V.ref)) row.zipIdx (fun x => (x.2 + 1, f0, x.1)) (fun x => decide (x.1 ≠ (0, 1))) (by rw [List.length_map, List.length_zipIdx, hrl]) (by rw [List.length_map, hrl]; omega) (fun HE sE => sqT_same sE r1) (fun i y v HE HE' R N hi sE hY qr qn => ?_) (fun D H2 s2 hD => ?_)
    · obtain ⟨T, x1, x2, rfl, nT, rfl, ex1, ex2⟩ := hY
      dsimp only at ex1 ex2
      cases Option.some.inj ex1
      rw [List.getElem?_zipIdx] at hi
      obtain ⟨x, hx, rfl⟩ : ∃ x : RT, row[i]? = some x ∧ y = (x, i) := by
        match h : row[i]? with
        | none => rw [h] at hi; cases hi
        | some x =>
          rw [h] at hi
          exact ⟨x, rfl, by rw [← Option.some.inj hi]; simp⟩
      obtain ⟨r, er, hr1⟩ := r2.get hx
      rw [List.getElem?_map, er] at ex2
      cases Option.some.inj ex2
      have gT := same_new (o := HO.tup [.int (1 + ((i : Nat) : Int)), .ref r]) nT
      have hr2 := hr1.tk (Tk.same (K := K) (sE.trans gT))
      refine ⟨T, _, rfl, SqT.of upd_same, rfl, _, _, rfl, _, _, rfl, rfl, rfl, ?_⟩
      refine ⟨_, rfl, ?_⟩
      refine tC_go ?_
      refine ne_rat (y := (0, 1)) hr2 (C.tN _) ?_
      refine ⟨_, rfl, ite2 (fun c1 => ?_) (fun c1 => ?_)⟩
      · refine ⟨_, rfl, _, rfl, _, rfl, by show 3 ≤ sizeLine; decide, fun b nb => ?_⟩
        have gb := same_new (o := HO.tup [.int (1 + ((i : Nat) : Int)), .int ((f0 : Nat) : Int), .ref r]) nb
        refine qr ?_ b _ (gT.trans gb) ⟨r, ?_, hr2.tk (Tk.same gb)⟩
        · exact decide_eq_true fun z => by
            have z2 : x = (0, 1) := z
            rw [z2] at c1
            simp at c1
        · rw [show ((i + 1 : Nat) : Int) = 1 + ((i : Nat) : Int) by omega]
          exact SqT.of upd_same
      · refine qn ?_ _ gT
        refine decide_eq_false fun z => c1 ?_
        show (!decide (x = (0, 1))) = true
        have z2 : ¬ x = (0, 1) := z
        exact Bool.not_eq_true' _ |>.mpr (decide_eq_false z2)
    · obtain ⟨ds, d1, d2⟩ := hD
      refine ⟨D, _, rfl, .inl ⟨SqL.of d1, fun z nz => ?_⟩⟩
      have gz := same_new (o := HO.tup (ds.map V.ref)) nz
      exact q z _ (s2.trans gz) ⟨ds, SqT.of upd_same, d2.tk triA_stays (Tk.same gz)⟩
theorem ok_lent {f fFO : Addr} {fd fdFO : FuncData} (F : Fun K "lent" "lent" s_lent f fd)
    (FFO : Fun K "followed" "followed" s_fol fFO fdFO) (bFO : Binds K fdFO ["life", "follower"] []) (gFO : mg "followed" = some (.ref fFO)) (GFO : FnOk P w K mg base CX0 1 fFO fdFO ["life", "follower"] (spFol K))
    : FnOk P w K mg base CX0 2 f fd ["home", "out"] (spLent K) := by
  refine F.ok sc_lent (fun vs H Q E h => ?_) (fun cdv A outer s H vs Q E hr h => ?_)
  · obtain ⟨_, _, _, _, _, _, rfl, _⟩ := h
    rfl
  · obtain ⟨p, r, rowA, rowB, sA, sB, rfl, hA, hB, lA, lB, q⟩ := h
    refine ⟨_, (pss_one (ps_ret (pe_tup (pa_cons (pe_call GFO hr (by rfl) gFO FFO.kp bFO .nil pass0 (pa_cons (pv 0) (pa_cons pe_int pa_nil))) (pa_cons (pe_call GFO hr (by rfl) gFO FFO.kp bFO .nil pass0 (pa_cons (pv 1) (pa_cons pe_int pa_nil))) pa_nil))))), ?_⟩
    refine ⟨_, rfl, p, rowA, sA, 1, rfl, hA, lA, fun a H1 s1 ha => ?_⟩
    refine ⟨_, rfl, r, rowB, sB, 0, rfl, hB.tk (Tk.same s1), lB, fun b H2 s2 hb => ?_⟩
    refine tnil_go ?_
    refine ⟨by show 2 ≤ sizeLine; decide, fun z nz => ?_⟩
    have gz := same_new (o := HO.tup [.ref a, .ref b]) nz
    exact q z _ (s1.trans (s2.trans gz)) ⟨[a, b], SqT.of upd_same, (Obs.one (kdA_stays _ _ _ _ (Tk.same (s2.trans gz)) ha)).append (Obs.one (kdA_stays _ _ _ _ (Tk.same gz) hb))⟩
end

end Fp

set_option Elab.async false
set_option linter.all false
set_option maxRecDepth 100000
set_option maxHeartbeats 4000000
set_option exponentiation.threshold 10000
namespace Fp
open PySem PySem.Spec PyProof.Rows L2
/-! ### where kinds are put: numbers -/
def cnd (shut : Option Nat) (n : Nat) (m : Mv) (j : Nat) : Bool := decide (m.2.2.1 = j ∧ m.2.1 ≤ n ∧ (m.2.1 = n ∨ shut ≠ some m.1))
def prI (mv : List (Mv × Int)) (c : Int) (first : Nat) (shut : Option Nat) (n j : Nat) : Int := match n with
  | 0 => if j = first then 1 else 0
  | n + 1 => (mv.map fun m => if cnd shut (n + 1) m.1 j = true then prI mv c first shut (n - (m.1.2.1 - 1)) m.1.1 * m.2 * c ^ (m.1.2.1 - 1) else 0).sum
termination_by n
decreasing_by omega
def prQ (mv : List Mv) (first : Nat) (shut : Option Nat) (n j : Nat) : Rat := match n with
  | 0 => if j = first then 1 else 0
  | n + 1 => (mv.map fun m => if cnd shut (n + 1) m j = true then qv m.2.2.2 * prQ mv first shut (n - (m.2.1 - 1)) m.1 else 0).sum
termination_by n
decreasing_by omega
theorem prI_zero {mv : List (Mv × Int)} {c : Int} {first : Nat} {shut : Option Nat} {j : Nat} : prI mv c first shut 0 j = if j = first then 1 else 0 := by rw [prI]
theorem prI_succ {mv : List (Mv × Int)} {c : Int} {first : Nat} {shut : Option Nat} {n j : Nat} : prI mv c first shut (n + 1) j = (mv.map fun m => if cnd shut (n + 1) m.1 j = true then prI mv c first shut (n - (m.1.2.1 - 1)) m.1.1 * m.2 * c ^ (m.1.2.1 - 1) else 0).sum := by rw [prI]
theorem prQ_zero {mv : List Mv} {first : Nat} {shut : Option Nat} {j : Nat} : prQ mv first shut 0 j = if j = first then 1 else 0 := by rw [prQ]
theorem prQ_succ {mv : List Mv} {first : Nat} {shut : Option Nat} {n j : Nat} : prQ mv first shut (n + 1) j = (mv.map fun m => if cnd shut (n + 1) m j = true then qv m.2.2.2 * prQ mv first shut (n - (m.2.1 - 1)) m.1 else 0).sum := by rw [prQ]
theorem cast_sumL {α : Type} (f : α → Int) : ∀ xs : List α, (((xs.map f).sum : Int) : Rat) = (xs.map fun x => ((f x : Int) : Rat)).sum
  | [] => rfl
  | x :: r => by
    show ((f x + (r.map f).sum : Int) : Rat) = _ + _
    rw [Rat.intCast_add, cast_sumL f r]
    rfl
theorem sumL_mul {α : Type} (f : α → Rat) (k : Rat) : ∀ xs : List α, (xs.map f).sum * k = (xs.map fun x => f x * k).sum
  | [] => by
    show (0 : Rat) * k = 0
    grind
  | x :: r => by
    have ih := sumL_mul f k r
    show (f x + (r.map f).sum) * k = f x * k + (r.map fun x => f x * k).sum
    rw [← ih]
    grind
theorem sumL_congr {α : Type} {f g : α → Rat} : ∀ {xs : List α}, (∀ x ∈ xs, f x = g x) → (xs.map f).sum = (xs.map g).sum := fun h => by rw [List.map_congr_left h]
theorem pr_val {mv : List (Mv × Int)} {c : Int} {first : Nat} {shut : Option Nat} (h : ∀ x ∈ mv, ((x.2 : Int) : Rat) = (c : Rat) * qv x.1.2.2.2 ∧ 1 ≤ x.1.2.1) (n : Nat) : ∀ j : Nat, ((prI mv c first shut n j : Int) : Rat) = prQ (mv.map (·.1)) first shut n j * ((c ^ n : Int) : Rat) := by
  induction n using Nat.strongRecOn with
  | ind n ih =>
    intro j
    cases n with
    | zero =>
      rw [prI_zero, prQ_zero, Int.pow_zero]
      split <;> grind
    | succ n =>
      rw [prI_succ, prQ_succ, cast_sumL, List.map_map, sumL_mul]
      refine sumL_congr fun x hx => ?_
      obtain ⟨h1, h2⟩ := h x hx
      show (((if cnd shut (n + 1) x.1 j = true then prI mv c first shut (n - (x.1.2.1 - 1)) x.1.1 * x.2 * c ^ (x.1.2.1 - 1) else 0 : Int)) : Rat) = (if cnd shut (n + 1) x.1 j = true then qv x.1.2.2.2 * prQ (mv.map (·.1)) first shut (n - (x.1.2.1 - 1)) x.1.1 else 0) * _
      by_cases z : cnd shut (n + 1) x.1 j = true
      · rw [if_pos z, if_pos z, Rat.intCast_mul, Rat.intCast_mul, ih _ (by omega), h1]
        have z2 := of_decide_eq_true z
        obtain ⟨s, hs⟩ : ∃ s, x.1.2.1 = s + 1 := ⟨x.1.2.1 - 1, by omega⟩
        have e : c ^ (n + 1) = c ^ (n - s) * c * c ^ s := by
          rw [show n + 1 = n - s + 1 + s by omega, Int.pow_add, Int.pow_succ]
        rw [hs, Nat.add_sub_cancel, e, Rat.intCast_mul, Rat.intCast_mul]
        grind
      · rw [if_neg z, if_neg z]
        show (0 : Rat) = 0 * _
        grind
theorem pr_sm {mv : List (Mv × Int)} {c : Int} {first : Nat} {shut : Option Nat} (h : ∀ x ∈ mv, Sm 60 x.2 ∧ 1 ≤ x.1.2.1) (hc : Sm 60 c) (hl : mv.length ≤ 32) (n : Nat) : ∀ j : Nat, Sm (68 * n + 1) (prI mv c first shut n j) := by
  induction n using Nat.strongRecOn with
  | ind n ih =>
    intro j
    cases n with
    | zero =>
      rw [prI_zero]
      split <;> (unfold Sm; decide)
    | succ n =>
      rw [prI_succ]
      refine (sum_sm (e := 68 * n + 63) (fun x hx => ?_) (by rw [List.length_map]; exact hl)).mono (by omega)
      obtain ⟨m, hm, rfl⟩ := List.mem_map.mp hx
      obtain ⟨h1, h2⟩ := h m hm
      split
      · rename_i z
        have z2 := of_decide_eq_true z
        exact (((ih (n - (m.1.2.1 - 1)) (by omega) m.1.1).mul h1).mul (sm_pow hc (by decide) (m.1.2.1 - 1))).mono (by omega)
      · exact Nat.lt_of_lt_of_le (by decide : (0 : Int).natAbs < 1) (Nat.one_le_two_pow)
/-! ### two clauses in a comprehension -/
section
variable {J J1 : It} {n n1 : Nat} {G G1 : Hp → Prop} {Y Y1 : Nat → Hp → V → Hp → Prop}
def inner2 (J1 : It) (g1 : TG) (tt1 : TT) (te : TE) (vs1 : List Nat) (σ2 : L2.St) (D : Addr) (H4 : Hp) (Nx : Hp → Prop) : Prop := ∃ W1 : Nat → Nat → Hp → Prop, (∃ m, W1 0 m H4) ∧ ∀ j k H, W1 j k H →
      (J1.stop j H ∧ Nx H) ∨ (J1.go j H ∧ ∃ Nx1 : Hp → Prop, (∀ H', Nx1 H' → ∃ k', k' < k ∧ W1 (j + 1) k' H') ∧ ∀ x H', J1.yld j H x H' → g1 x (wipe σ2 vs1) H' fun σ3 H5 => wipe σ3 vs1 = wipe σ2 vs1 ∧ tt1 σ3 H5 fun b H6 =>
        if b = true then te σ3 H6 fun y H7 => ∃ acc, H7 D = some (.lst acc) ∧ acc.length < sizeLine ∧ Nx1 (upd H7 D (.lst (acc ++ [y]))) else Nx1 H6)
theorem inner2_it (w : Walk J1 n1 G1 Y1) {g1 : TG} {tt1 : TT} {te : TE} {vs1 : List Nat} {σ2 : L2.St} {H4 : Hp} {D : Addr} {Nx : Hp → Prop} (Pv : Nat → Hp → Prop) (h0 : Pv 0 H4) (hG : ∀ i H, i ≤ n1 → Pv i H → G1 H)
    (hs : ∀ i x H H', i < n1 → Pv i H → Y1 i H x H' → g1 x (wipe σ2 vs1) H' fun σ3 H5 => wipe σ3 vs1 = wipe σ2 vs1 ∧ tt1 σ3 H5 fun b H6 =>
      if b = true then te σ3 H6 fun y H7 => ∃ acc, H7 D = some (.lst acc) ∧ acc.length < sizeLine ∧ Pv (i + 1) (upd H7 D (.lst (acc ++ [y]))) else Pv (i + 1) H6) (hd : ∀ H, Pv n1 H → Nx H) : inner2 J1 g1 tt1 te vs1 σ2 D H4 Nx := by
  refine ⟨fun i m H => m = n1 - i ∧ i ≤ n1 ∧ Pv i H, ⟨n1, by simp, Nat.zero_le _, h0⟩, ?_⟩
  rintro i m H ⟨rfl, hi, p⟩
  have q := hG i H hi p
  by_cases hlt : i < n1
  · refine .inr ⟨w.goes i H hlt q, Pv (i + 1), fun H' p' => ⟨n1 - (i + 1), by omega, rfl, hlt, p'⟩, fun x H' y => hs i x H H' hlt p (w.yields i H x H' hlt q y)⟩
  · have e : i = n1 := by omega
    subst e
    exact .inl ⟨w.stops H q, hd H p⟩
theorem lc2_it (w : Walk J n G Y) {wi1 : TI} {g g1 : TG} {tt tt1 : TT} {te : TE} {vs vs1 : List Nat} {σ : L2.St} {H1 : Hp} {Qd : Addr → Hp → Prop} (Pv : Addr → Nat → Hp → Prop) (h0 : ∀ D, H1 D = none → Pv D 0 (upd H1 D (.lst []))) (hG : ∀ D i H, i ≤ n → Pv D i H → G H)
    (hs : ∀ D i x H H', H1 D = none → i < n → Pv D i H → Y i H x H' → g x (wipe σ vs) H' fun σ2 H2 => wipe σ2 vs = wipe σ vs ∧ tt σ2 H2 fun b H3 =>
      if b = true then wi1 σ2 H3 fun J1 H4 => inner2 J1 g1 tt1 te vs1 σ2 D H4 (Pv D (i + 1)) else Pv D (i + 1) H3) (hd : ∀ D H, Pv D n H → Qd D H) : tLc2 (fun _ H2 R => R J H2) g tt wi1 g1 tt1 te vs vs1 σ H1 (refQ Qd) := by
  intro D nD
  refine ⟨fun i m H => m = n - i ∧ i ≤ n ∧ Pv D i H, ⟨n, by simp, Nat.zero_le _, h0 D nD⟩, ?_⟩
  rintro i m H ⟨rfl, hi, p⟩
  have q := hG D i H hi p
  by_cases hlt : i < n
  · refine .inr ⟨w.goes i H hlt q, Pv D (i + 1), fun H' p' => ⟨n - (i + 1), by omega, rfl, hlt, p'⟩, fun x H' y => hs D i x H H' nD hlt p (w.yields i H x H' hlt q y)⟩
  · have e : i = n := by omega
    subst e
    exact .inl ⟨w.stops H q, hd D H p⟩
end

end Fp

set_option Elab.async false
set_option linter.all false
set_option maxRecDepth 100000
set_option maxHeartbeats 4000000
set_option exponentiation.threshold 10000
namespace Fp
open PySem PySem.Spec PyProof.Rows L2
/-! ### where kinds are put -/
abbrev s_pr : Stmt := topS 31
abbrev N_pr : List Str := ["kinds", "first", "most", "shut", "moves", "tops", "bottom", "powers", "rows", "n", "row", "top", "kind", "stretch", "follower", "chance", "since", "triples", "triple", "move", "power", "total"]
theorem sc_pr : FnScope N_pr ["kinds", "first", "most", "shut"] (defScope s_pr) := ⟨rfl, rfl, rfl, by decide +kernel, rfl, by decide +kernel, by decide +kernel⟩
def scp0_pr (b : List Stmt) (d : Scope) : Scope := match b with
  | (_ :: _ :: _ :: _ :: _ :: (.Return (some (.ListComp _ _ sc _)) _) :: _) => sc
  | _ => d
abbrev s_kp : Stmt := topS 30
abbrev N_kp : List Str := ["kinds", "first", "most", "row"]
theorem sc_kp : FnScope N_kp ["kinds", "first", "most"] (defScope s_kp) := ⟨rfl, rfl, rfl, by decide +kernel, rfl, by decide +kernel, by decide +kernel⟩
theorem movesFrom_snoc (ts : List Tri) : ∀ (xs : List (List Tri)) (k : Nat), movesFrom k (xs ++ [ts]) = movesFrom k xs ++ ts.map fun t => (k + xs.length, t)
  | [], k => by
    show (ts.map fun t => (k, t)) ++ [] = [] ++ _
    rw [List.append_nil, List.nil_append]
    rfl
  | x :: r, k => by
    show (x.map fun t => (k, t)) ++ movesFrom (k + 1) (r ++ [ts]) = (x.map fun t => (k, t)) ++ movesFrom (k + 1) r ++ _
    rw [movesFrom_snoc ts r (k + 1), List.append_assoc, List.length_cons, show k + 1 + r.length = k + (r.length + 1) by omega]
theorem moves_take {ks : List (List Tri)} {i : Nat} {ts : List Tri} (h : ks[i]? = some ts) : movesFrom 0 (ks.take (i + 1)) = movesFrom 0 (ks.take i) ++ ts.map fun t => (i, t) := by
  have hi := (List.getElem?_eq_some_iff.mp h).1
  rw [List.take_add_one, h]
  show movesFrom 0 (ks.take i ++ [ts]) = _
  rw [movesFrom_snoc, List.length_take, Nat.min_eq_left (by omega), Nat.zero_add]
/-- moves that may be reckoned with -/
structure MvOk (P : Int) (m : Nat) (mv : List Mv) : Prop where
  pos : 0 < P
  sm : Sm 24 P
  len : mv.length ≤ 32
  red : ∀ y ∈ mv, Red y.2.2.2
  sz : ∀ y ∈ mv, Sz P 0 (qv y.2.2.2)
  st : ∀ y ∈ mv, 1 ≤ y.2.1
  kd : ∀ y ∈ mv, y.1 < m ∧ y.2.2.1 < m
def chM (mv : List Mv) (i : Nat) : Rat := match mv[i]? with
  | some y => qv y.2.2.2
  | none => 0
def shutV : Option Nat → V
  | some k => .int ((k : Nat) : Int)
  | none => .non
section
variable {K : PySem.W.Frag}
/-- a comprehension of ratios; the list is new -/
theorem lc_mkN {J : It} {n : Nat} {G : Hp → Prop} {Y : Nat → Hp → V → Hp → Prop} (w : Walk J n G Y) {g : TG} {te : TE} {vs : List Nat} {σ : L2.St} {H1 : Hp} (f : Nat → Rat) (hn : n ≤ 900) (hG : ∀ HE, Same H1 HE → G HE)
    (hs : ∀ (k : Nat) (x : V) (HE HE' : Hp) (R : VK), k < n → Same H1 HE → Y k HE x HE' → (∀ r HF, Same HE HF → RAt K HF r (rdq (f k)) → R (.ref r) HF) → g x (wipe σ vs) HE' fun σ2 H2 => wipe σ2 vs = wipe σ vs ∧ te σ2 H2 R)
    {Qd : Addr → Hp → Prop} (hd : ∀ D H2, H1 D = none → Same H1 H2 → LsM K H2 D (mkL n f) → Qd D H2) : tLc (fun _ H2 R => R J H2) g tYes te vs σ H1 (refQ Qd) := by
  intro D nD
  have h := lc_mkW (K := K) w f hn hG hs (Qd := fun E H2 => E = D → Qd D H2) (fun E H2 s2 l z => hd D H2 nD s2 (z ▸ l)) D nD
  obtain ⟨W, h0, h1⟩ := h
  refine ⟨W, h0, fun i m H2 h2 => ?_⟩
  rcases h1 i m H2 h2 with ⟨a, b⟩ | b
  · exact .inl ⟨a, b rfl⟩
  · exact .inr b
end
section
variable {K : PySem.W.Frag}
theorem lc_intN {lo : Int} {n : Nat} {g : TG} {te : TE} {vs : List Nat} {σ : L2.St} {H1 : Hp} (f : Nat → Int) (hn : n ≤ 900)
    (hs : ∀ (k : Nat) (HE : Hp) (R : VK), k < n → Same H1 HE → (∀ HF, Same HE HF → R (.int (f k)) HF) → g (.int (lo + k)) (wipe σ vs) HE fun σ2 H2 => wipe σ2 vs = wipe σ vs ∧ te σ2 H2 R)
    {Qd : Addr → Hp → Prop} (hd : ∀ D H2, H1 D = none → Same H1 H2 → IntL H2 D n f → Qd D H2) : tLc (fun _ H2 R => R (Itr lo n) H2) g tYes te vs σ H1 (refQ Qd) := by
  intro D nD
  have h := lc_int f hn hs (Qd := fun E H2 => E = D → Qd D H2) (fun E H2 s2 l z => hd D H2 nD s2 (z ▸ l)) D nD
  obtain ⟨W, h0, h1⟩ := h
  refine ⟨W, h0, fun i m H2 h2 => ?_⟩
  rcases h1 i m H2 h2 with ⟨a, b⟩ | b
  · exact .inl ⟨a, b rfl⟩
  · exact .inr b
theorem put_test {σ : L2.St} {H : Hp} {R : Bool → Hp → Prop} {since : Int} {kind : Nat} {shut : Option Nat} (h1 : σ[16]? = some (some (.int since))) (h2 : σ[12]? = some (some (.int ((kind : Nat) : Int)))) (h3 : σ[3]? = some (some (shutV shut)))
    (h : R (decide (since = 0 ∨ (0 < since ∧ shut ≠ some kind))) H) : tOr (tTest (tOp rEq (tVar 16) (tC (.int 0)))) (tAnd (tTest (tOp (rI0 fun i j => .bl (decide (j < i))) (tVar 16) (tC (.int 0)))) (tTest (tOp rNe (tVar 12) (tVar 3)))) σ H R := by
  refine ⟨_, h1, rfl, _, rfl, ite2 (fun c1 => ?_) (fun c1 => ?_)⟩
  · have z := of_decide_eq_true c1
    injection z with z
    rw [decide_eq_true (.inl z)] at h
    exact h
  · have z : ¬ since = 0 := fun z => c1 (decide_eq_true (by rw [z]))
    refine ⟨_, h1, _, _, rfl, rfl, _, rfl, ite2 (fun c2 => ?_) (fun c2 => ?_)⟩
    · have z2 : 0 < since := of_decide_eq_true c2
      refine ⟨_, h2, _, h3, ?_, _, rfl, ?_⟩
      · cases shut <;> rfl
      · have e : (decide (since = 0 ∨ (0 < since ∧ shut ≠ some kind))) = !decide (V.int ((kind : Nat) : Int) = shutV shut) := by
          cases shut with
          | none =>
            rw [decide_eq_true (.inr ⟨z2, fun y => by cases y⟩), decide_eq_false (fun y => by cases y)]
            rfl
          | some k =>
            by_cases y : kind = k
            · rw [decide_eq_false (fun x => by
                rcases x with x | ⟨_, x⟩
                · exact z x
                · exact x (by rw [y])), decide_eq_true (by rw [y]; rfl)]
              rfl
            · rw [decide_eq_true (.inr ⟨z2, fun x => y (Option.some.inj x).symm⟩), decide_eq_false (fun x => y (by
                injection x with x
                omega))]
              rfl
        rw [e] at h
        exact h
    · have z2 : ¬ 0 < since := fun y => c2 (decide_eq_true y)
      rw [decide_eq_false (fun x => by
        rcases x with x | ⟨x, _⟩
        · exact z x
        · exact z2 x)] at h
      exact h
end
def acc (mv : List (Mv × Int)) (c : Int) (first : Nat) (shut : Option Nat) (n k j : Nat) : Int := ((mv.take k).map fun m => if cnd shut (n + 1) m.1 j = true then prI mv c first shut (n - (m.1.2.1 - 1)) m.1.1 * m.2 * c ^ (m.1.2.1 - 1) else 0).sum
theorem acc_step {mv : List (Mv × Int)} {c : Int} {first : Nat} {shut : Option Nat} {n k j : Nat} {m : Mv × Int} (h : mv[k]? = some m) : acc mv c first shut n (k + 1) j = acc mv c first shut n k j + if cnd shut (n + 1) m.1 j = true then prI mv c first shut (n - (m.1.2.1 - 1)) m.1.1 * m.2 * c ^ (m.1.2.1 - 1) else 0 := by
  unfold acc
  rw [List.take_add_one, h, List.map_append]
  exact sumI_snoc _ _
theorem acc_all {mv : List (Mv × Int)} {c : Int} {first : Nat} {shut : Option Nat} {n j : Nat} : acc mv c first shut n mv.length j = prI mv c first shut (n + 1) j := by
  unfold acc
  rw [List.take_of_length_le (Nat.le_refl _), prI_succ]
section
variable {P : Program} {w : World} {K : PySem.W.Frag} {mg : Str → Option Value} {base : Heap} {aN aO : Addr}
def spPr (K : PySem.W.Frag) : Sp := fun vs H Q _ => ∃ (p : Addr) (ks : List (List Tri)) (first most : Nat) (shut : Option Nat) (P : Int), vs = [.ref p, .int ((first : Nat) : Int), .int ((most : Nat) : Int), shutV shut] ∧ KdsA K H p ks ∧ MvOk P ks.length (movesFrom 0 ks) ∧ ks.length ≤ 32 ∧ most ≤ 20 ∧
  ∀ D H2 (fs : List Addr), Same H H2 → H2 D = some (.lst (fs.map V.ref)) → fs.length = most + 1 → (∀ i r, fs[i]? = some r → LsM K H2 r (mkL ks.length (prQ (movesFrom 0 ks) first shut i))) → Q (.ref D) H2
theorem ok_pr {f fOB fR : Addr} {fd fdOB fdR : FuncData} (F : Fun K "put_rows" "put_rows" s_pr f fd)
    (FOB : Fun K "on_one_bottom" "on_one_bottom" s_oob fOB fdOB) (bOB : Binds K fdOB ["told"] []) (gOB : mg "on_one_bottom" = some (.ref fOB)) (GOB : FnOk P w K mg base CX0 2 fOB fdOB ["told"] (spOob K))
    (FR : Fun K "ratio" "ratio" s_ratio fR fdR) (bR : Binds K fdR ["top", "bottom"] []) (gR : mg "ratio" = some (.ref fR)) (GR : FnOk P w K mg base CX0 2 fR fdR ["top", "bottom"] spRat0)
    (n_enumerate : mg "enumerate" = none) (n_len : mg "len" = none) (n_range : mg "range" = none) (n_zip : mg "zip" = none) : FnOk P w K mg base CX0 3 f fd ["kinds", "first", "most", "shut"] (spPr K) := by
  refine F.ok sc_pr (fun vs H Q E h => ?_) (fun cdv A outer s H vs Q E hr h => ?_)
  · obtain ⟨_, _, _, _, _, _, rfl, _⟩ := h
    rfl
  · obtain ⟨p, ks, first, most, shut, PP, rfl, hk, M, hkl, hm, q⟩ := h
    refine ⟨_, (pss_cons (ps_setLc2 (i := 4) (own := [("kind", 12), ("triples", 17), ("triple", 18)]) (vs1 := [18]) (g := (gTup K 2 (gCons (gName 12) (gCons (gName 17) gNil)))) (g1 := (gName 18)) (tt := tYes) (tt1 := tYes) (wi1 := (iTup K (tVar 17))) (te := (tTup (tCons (tVar 12) (StX.tStar K (tVar 18) tNil)))) rfl sc_pr.nd rfl rfl (sw_true rfl rfl rfl (by decide +kernel)) (pi_eT (by rfl) n_enumerate (pa_cons (pv 0) pa_nil)) (blkOk_by (own := [("kind", 12), ("triples", 17), ("triple", 18)]) (N := N_pr) (sc := (defScope s_pr)) (by decide +kernel)) (by decide) (fun _ _ _ _ _ => (pg_tup rfl (pgs_cons (pg_name (i := 12) sc_pr.nd rfl (.inl rfl)) (pgs_cons (pg_name (i := 17) sc_pr.nd rfl (.inl rfl)) pgs_nil)))) (fun _ _ _ _ _ => pts_nil) (fun _ _ _ _ _ => (pi_tup (pv 17))) (fun _ _ _ _ _ => (pg_name (i := 18) sc_pr.nd rfl (.inl rfl))) (fun _ _ _ _ _ => pts_nil) (fun _ _ _ _ _ => (pe_tup (pa_cons (pv 12) (StX.pa_star (pv 18) pa_nil)))))
      (pss_cons (ps_asg (pe_call GOB hr (by rfl) gOB FOB.kp bOB .nil pass0 (pa_cons (pe_lc (own := [("move", 19)]) (g := (gName 19)) (tt := tYes) (te := (tOp (rIxT K) (tVar 19) (tC (.int 3)))) rfl sc_pr.nd (pi_list (pv 4)) (blkOk_by (own := [("move", 19)]) (N := N_pr) (sc := (defScope s_pr)) (by decide +kernel)) (fun _ _ _ _ _ => (pg_name (i := 19) sc_pr.nd rfl (.inl rfl))) (fun _ _ _ _ _ => pts_nil) (fun _ _ _ _ _ => (pe_ix ix_tup (pv 19) pe_int (fun _ _ => rfl)))) pa_nil)) (pg_tup rfl (pgs_cons (pg_name (i := 5) sc_pr.nd rfl (.inl rfl)) (pgs_cons (pg_name (i := 6) sc_pr.nd rfl (.inl rfl)) pgs_nil))))
      (pss_cons (ps_set (i := 7) sc_pr.nd rfl (.inl rfl) (pe_lst (pa_cons pe_int pa_nil)))
      (pss_cons (ps_set (i := 8) sc_pr.nd rfl (.inl rfl) (pe_lst (pa_cons (pe_lc (own := [("kind", 12)]) (g := (gName 12)) (tt := tYes) (te := (tIf (tTest (tOp rEq (tVar 12) (tVar 1))) (tC (.int 1)) (tC (.int 0)))) rfl sc_pr.nd (pi_range1 (by rfl) n_range (pa_cons (pe_callB call_len_seq (by rfl) n_len PySem.boot_len (pa_cons (pv 0) pa_nil)) pa_nil)) (blkOk_by (own := [("kind", 12)]) (N := N_pr) (sc := (defScope s_pr)) (by decide +kernel)) (fun _ _ _ _ _ => (pg_name (i := 12) sc_pr.nd rfl (.inl rfl))) (fun _ _ _ _ _ => pts_nil) (fun _ _ _ _ _ => (pe_ifExp (pt_cmpR op_eq (pv 12) (pv 1) (nomark _)) pe_int pe_int))) pa_nil)))
      (pss_cons (ps_for PassesOwn.never rfl (pi_range2 (by rfl) n_range (pa_cons pe_int (pa_cons (pe_op op_add (pv 2) pe_int) pa_nil))) (pg_name (i := 9) sc_pr.nd rfl (.inl rfl)) (pss_cons (ps_set (i := 10) sc_pr.nd rfl (.inl rfl) (pe_op op_rep (pe_lst (pa_cons pe_int pa_nil)) (pe_callB call_len_seq (by rfl) n_len PySem.boot_len (pa_cons (pv 0) pa_nil))))
      (pss_cons (ps_for PassesOwn.never rfl (pi_zip (by rfl) n_zip (pa_cons (pv 4) (pa_cons (pv 5) pa_nil))) (pg_tup rfl (pgs_cons (pg_tup rfl (pgs_cons (pg_name (i := 12) sc_pr.nd rfl (.inl rfl)) (pgs_cons (pg_name (i := 13) sc_pr.nd rfl (.inl rfl)) (pgs_cons (pg_name (i := 14) sc_pr.nd rfl (.inl rfl)) (pgs_cons (pg_name (i := 15) sc_pr.nd rfl (.inl rfl)) pgs_nil))))) (pgs_cons (pg_name (i := 11) sc_pr.nd rfl (.inl rfl)) pgs_nil))) (pss_cons (ps_set (i := 16) sc_pr.nd rfl (.inl rfl) (pe_op op_sub (pv 9) (pv 13)))
      (pss_one (ps_if (PW.pt (pw_or (pt_cmpR op_eq (pv 16) pe_int (nomark _)) (pw_or1 (PW.pt (pw_and (pt_cmpR op_gt (pv 16) pe_int (nomark _)) (pw_and1 (pt_cmpR op_ne (pv 12) (pv 3) (nomark _)))))))) (pss_one (ps_augS (pv 10) (pv 14) get_listN (pe_op op_mulA (pe_op op_mulA (pe_ix ix_list (pe_ix ix_list (pv 8) (pv 16) (fun _ _ => rfl)) (pv 12) (fun _ _ => rfl)) (pv 11)) (pe_ix ix_list (pv 7) (pe_op op_sub (pv 13) pe_int) (fun _ _ => rfl))) ip_add set_list)) pss_nil))))
      (pss_cons (ps_expr (pe_bm PySem.F.plainAttrs_list PySem.F.slot_list_append PySem.F.type_list_append mt_append (pv 8) (pa_cons (pv 10) pa_nil)))
      (pss_one (ps_expr (pe_bm PySem.F.plainAttrs_list PySem.F.slot_list_append PySem.F.type_list_append mt_append (pv 7) (pa_cons (pe_op op_mulA (pe_ix ix_list (pv 7) (pe_un un_neg pe_int) (fun _ _ => rfl)) (pv 6)) pa_nil))))))))
      (pss_one (ps_ret (pe_lc (own := [("row", 10), ("power", 20)]) (g := (gTup K 2 (gCons (gName 10) (gCons (gName 20) gNil)))) (tt := tYes) (te := (tLc (iList K (tVar 10)) (gName 21) tYes (tCall spRat0 [] E0 (tCons (tVar 21) (tCons (tVar 20) tNil))) [21])) rfl sc_pr.nd (pi_zip (by rfl) n_zip (pa_cons (pv 8) (pa_cons (pv 7) pa_nil))) (blkOk_by (own := [("row", 10), ("power", 20)]) (N := N_pr) (sc := (defScope s_pr)) (by decide +kernel)) (fun _ _ _ _ _ => (pg_tup rfl (pgs_cons (pg_name (i := 10) sc_pr.nd rfl (.inl rfl)) (pgs_cons (pg_name (i := 20) sc_pr.nd rfl (.inr rfl)) pgs_nil)))) (fun _ _ _ _ _ => pts_nil) (fun _ _ _ _ _ => (pe_lc (own := [("total", 21)]) (g := (gName 21)) (tt := tYes) (te := (tCall spRat0 [] E0 (tCons (tVar 21) (tCons (tVar 20) tNil)))) rfl sc_pr.nd (pi_list (pv 10)) (blkOk_by (own := [("total", 21)]) (N := N_pr) (sc := (relS (scp0_pr (defBody s_pr) (defScope s_pr)) (defScope s_pr))) (by decide +kernel)) (fun _ _ _ _ _ => (pg_name (i := 21) sc_pr.nd rfl (.inl rfl))) (fun _ _ _ _ _ => pts_nil) (fun _ _ _ _ _ => (pe_call GR hr (by rfl) gR FR.kp bR .nil pass0 (pa_cons (pv 21) (pa_cons (pv 20) pa_nil)))))))))))))), ?_⟩
    obtain ⟨rk, k1, k2⟩ := id hk
    have hrk := k2.1
    refine ⟨_, rfl, ?_⟩
    refine tnil_go ?_
    refine ⟨p, _, rfl, k1, ?_⟩
    refine lc2_it (walk_q (Sq := fun H xs => SqT K H p xs) (k := 0) (xs := rk.map V.ref)) (fun D i HE => Same H HE ∧ ∃ rs : List Addr, HE D = some (.lst (rs.map V.ref)) ∧ Obs (MvA K) HE rs (movesFrom 0 (ks.take i))) (fun D nD => ⟨same_new nD, [], upd_same, Obs.nil⟩) (fun D i HE _ h => sqT_same h.1 k1) (fun D i v HE HE' nD hi ⟨sE, rs, hD, hrs⟩ hY => ?_) (fun ml H1 ⟨s1, rs, hml, hrs⟩ => ?_)
    · obtain ⟨T, x1, x2, rfl, nT, rfl, ex1, ex2⟩ := hY
      rw [List.length_map, hrk] at hi
      dsimp only at ex1 ex2
      cases Option.some.inj ex1
      obtain ⟨ts, hts⟩ : ∃ ts, ks[i]? = some ts := ⟨ks[i], List.getElem?_eq_getElem hi⟩
      obtain ⟨kt, ekt, tr, t1, t2⟩ := k2.get hts
      rw [List.getElem?_map, ekt] at ex2
      cases Option.some.inj ex2
      have gT := same_new (o := HO.tup [.int (0 + ((i : Nat) : Int)), .ref kt]) nT
      have S1 := sE.trans gT
      refine ⟨T, _, rfl, SqT.of upd_same, rfl, _, _, rfl, _, _, rfl, rfl, rfl, ?_⟩
      refine tYes_go (iteT ?_)
      have hle : (movesFrom 0 (ks.take i)).length + ts.length ≤ 32 := by
        have h1 := M.len
        have h2 : movesFrom 0 ks = movesFrom 0 (ks.take (i + 1) ++ ks.drop (i + 1)) := by rw [List.take_append_drop]
        have h3 : ∀ (xs ys : List (List Tri)) (k : Nat), (movesFrom k xs).length ≤ (movesFrom k (xs ++ ys)).length := by
          intro xs ys
          induction xs with
          | nil => intro k; exact Nat.zero_le _
          | cons x r ih =>
            intro k
            show ((x.map fun t => (k, t)) ++ movesFrom (k + 1) r).length ≤ ((x.map fun t => (k, t)) ++ movesFrom (k + 1) (r ++ ys)).length
            rw [List.length_append, List.length_append]
            have := ih (k + 1)
            omega
        have h4 := h3 (ks.take (i + 1)) (ks.drop (i + 1)) 0
        rw [← h2, moves_take hts, List.length_append, List.length_map] at h4
        omega
      refine ⟨_, rfl, kt, rfl, ⟨_, sqT_same S1 t1⟩, ?_⟩
      refine inner2_it (walk_tup (K := K) (a := kt) (xs := tr.map V.ref)) (fun j HE => Same H HE ∧ ∃ rs : List Addr, HE D = some (.lst (rs.map V.ref)) ∧ Obs (MvA K) HE rs (movesFrom 0 (ks.take i) ++ (ts.take j).map fun t => (i, t))) ⟨S1, rs, gT _ _ hD, ?_⟩ (fun j HF _ h => sqT_same h.1 t1) (fun j v HF HF' hj ⟨sF, qs, hF, hqs⟩ hY => ?_) (fun HF ⟨sF, qs, hF, hqs⟩ => ⟨sF, qs, hF, ?_⟩)
      · rw [List.take_zero, List.map_nil, List.append_nil]
        exact hrs.tk mvA_stays (Tk.same gT)
      · obtain ⟨rfl, hv⟩ := hY
        rw [List.length_map, t2.1] at hj
        obtain ⟨t, ht⟩ : ∃ t, ts[j]? = some t := ⟨ts[j], List.getElem?_eq_getElem hj⟩
        obtain ⟨pt, ept, pc, c1, c2⟩ := t2.get ht
        rw [List.getElem?_map, ept] at hv
        cases Option.some.inj hv
        refine ⟨rfl, ?_⟩
        refine tYes_go (iteT ?_)
        refine ⟨_, rfl, _, rfl, pt, _, rfl, .inl (sqT_same sF c1), by show 4 ≤ sizeLine; decide, fun b nb => ?_⟩
        have gb := same_new (o := HO.tup [.int (0 + ((i : Nat) : Int)), .int ((t.1 : Nat) : Int), .int ((t.2.1 : Nat) : Int), .ref pc]) nb
        have hql := hqs.1
        rw [List.length_append, List.length_map, List.length_take] at hql
        refine ⟨_, gb _ _ hF, by rw [List.length_map]; exact small1000 (by omega), ?_, qs ++ [b], ?_, ?_⟩
        · intro b2 o hb2
          rw [upd_ne (ne_of_none hb2 nD)]
          exact (sF.trans gb) _ _ hb2
        · rw [upd_same, List.map_append]
          rfl
        · rw [List.take_add_one, ht, List.map_append, ← List.append_assoc]
          refine ((hqs.tk mvA_stays (Tk.same gb)).append (Obs.one ?_)).tk mvA_stays (tk_lst (gb _ _ hF))
          refine ⟨pc, ?_, (c2.tk (Tk.same sF)).tk (Tk.same gb)⟩
          exact SqT.of (upd_same.trans (by show some (HO.tup [.int (0 + ((i : Nat) : Int)), .int ((t.1 : Nat) : Int), .int ((t.2.1 : Nat) : Int), .ref pc]) = _; rw [Int.zero_add]))
      · rw [moves_take hts]
        rw [List.length_map, t2.1, List.take_of_length_le (Nat.le_refl _)] at hqs
        exact hqs
    rw [List.length_map, hrk, List.take_of_length_le (Nat.le_refl _)] at hrs
    generalize hmv : movesFrom 0 ks = mv at *
    have hrl := hrs.1
    refine ⟨_, rfl, ml, rfl, ⟨_, SqL.of hml⟩, ?_⟩
    refine lc_mkW (K := K) (walk_list (K := K) (a := ml) (xs := rs.map V.ref)) (chM mv) (by rw [List.length_map, hrl]; have := M.len; omega) (fun HE sE => SqL.of (sE _ _ hml)) (fun i v HE HE' R hi sE hY qr => ?_) (fun cl H2 s2 hcl => ?_)
    · obtain ⟨rfl, hv⟩ := hY
      rw [List.length_map, hrl] at hi
      obtain ⟨y, hy⟩ : ∃ y, mv[i]? = some y := ⟨mv[i], List.getElem?_eq_getElem hi⟩
      obtain ⟨pm, epm, pc, c1, c2⟩ := hrs.get hy
      rw [List.getElem?_map, epm] at hv
      cases Option.some.inj hv
      refine ⟨rfl, _, rfl, pm, _, _, _, rfl, rfl, sqT_same sE c1, at_of (j := 3) rfl rfl, qr pc _ (Same.refl _) ?_⟩
      have e : rdq (chM mv i) = y.2.2.2 := by
        unfold chM
        rw [hy]
        exact (is_rdq (M.red y (List.mem_of_getElem? hy)) rfl).symm
      rw [e]
      exact c2.tk (Tk.same sE)
    rw [List.length_map, hrl] at hcl
    refine tnil_go ?_
    have hml2 := s2 _ _ hml
    refine oob_go (K := K) (s := 24) (k := 0) hcl M.pos M.sm (fun j hj => ?_) (by have := M.len; omega) (by decide) (by decide) fun z1 zt c T H3 s3 hz1 hzt c0 cD sc tv ts => ?_
    · unfold chM
      rw [List.getElem?_eq_getElem hj]
      exact M.sz _ (List.getElem_mem hj)
    refine ⟨z1, _, rfl, SqT.of hz1, rfl, _, _, rfl, _, _, rfl, rfl, ?_⟩
    -- powers, rows
    refine ⟨by show 1 ≤ sizeLine; decide, fun pw npw => ?_⟩
    have g4 := same_new (o := HO.lst [.int 1]) npw
    have hpw : IntL (upd H3 pw (HO.lst [.int 1])) pw 1 (fun k => c ^ k) := by
      unfold IntL
      rw [upd_same]
      show some (HO.lst [.int 1]) = some (HO.lst [.int (c ^ 0)])
      rw [Int.pow_zero]
    have S4 := s2.trans (s3.trans g4)
    have hzt4 := g4 _ _ hzt
    generalize upd H3 pw (HO.lst [.int 1]) = H4 at *
    have k4 := sqT_same (s1.trans S4) k1
    refine ⟨_, rfl, p, _, rfl, .inr k4, ?_⟩
    have elk : (((rk.map V.ref).length : Nat) : Int) = ((ks.length : Nat) : Int) := by rw [List.length_map, hrk]
    refine ⟨_, rfl, by omega, by omega, ?_⟩
    have hfs : (((rk.map V.ref).length : Nat) : Int).toNat = ks.length := by omega
    let mvi := mv.zip (mkI mv.length T)
    have hmi : ∀ i y, mv[i]? = some y → mvi[i]? = some (y, T i) := fun i y hy => by
      have hi := (List.getElem?_eq_some_iff.mp hy).1
      show (mv.zip (mkI mv.length T))[i]? = _
      rw [List.getElem?_zip_eq_some]
      exact ⟨hy, mkI_at hi⟩
    have hml3 : mvi.length = mv.length := by
      show (mv.zip (mkI mv.length T)).length = _
      rw [List.length_zip, mkI_len, Nat.min_self]
    have hmm : mvi.map (·.1) = mv := by
      show (mv.zip (mkI mv.length T)).map Prod.fst = mv
      rw [List.map_fst_zip]
      rw [mkI_len]
      exact Nat.le_refl _
    have hmem : ∀ x ∈ mvi, ∃ i y, mv[i]? = some y ∧ x = (y, T i) := fun x hx => by
      obtain ⟨i, hi⟩ := List.mem_iff_getElem?.mp hx
      have hi2 := (List.getElem?_eq_some_iff.mp hi).1
      rw [hml3] at hi2
      have e := hmi i mv[i] (List.getElem?_eq_getElem hi2)
      rw [hi] at e
      exact ⟨i, mv[i], List.getElem?_eq_getElem hi2, Option.some.inj e⟩
    have hsmx : ∀ x ∈ mvi, Sm 60 x.2 ∧ 1 ≤ x.1.2.1 := fun x hx => by
      obtain ⟨i, y, hy, rfl⟩ := hmem x hx
      exact ⟨(ts i (List.getElem?_eq_some_iff.mp hy).1).mono (by decide), M.st y (List.mem_of_getElem? hy)⟩
    have hvx : ∀ x ∈ mvi, ((x.2 : Int) : Rat) = (c : Rat) * qv x.1.2.2.2 ∧ 1 ≤ x.1.2.1 := fun x hx => by
      obtain ⟨i, y, hy, rfl⟩ := hmem x hx
      refine ⟨?_, M.st y (List.mem_of_getElem? hy)⟩
      have e := tv i (List.getElem?_eq_some_iff.mp hy).1
      unfold chM at e
      rw [hy] at e
      exact e
    have sc60 : Sm 60 c := sc.mono (by decide)
    have PS := pr_sm (first := first) (shut := shut) hsmx sc60 (by rw [hml3]; exact M.len)
    have PV := pr_val (first := first) (shut := shut) hvx
    rw [hmm] at PV
    generalize hmvi : mvi = mw at *
    refine lc_intN (n := (((rk.map V.ref).length : Nat) : Int).toNat) (prI mw c first shut 0) (by omega) (fun k HE R hk sE qr => ?_) (fun r0 H5 nr0 s5 hr0 => ?_)
    · refine ⟨rfl, _, rfl, _, rfl, rfl, _, rfl, ite2 (fun c1 => ?_) (fun c1 => ?_)⟩
      · have := qr HE (Same.refl _)
        rw [prI_zero, if_pos] at this
        · exact this
        · have z := of_decide_eq_true c1
          injection z with z
          omega
      · have := qr HE (Same.refl _)
        rw [prI_zero, if_neg] at this
        · exact this
        · intro z
          apply c1
          apply decide_eq_true
          rw [z, Int.zero_add]
    rw [hfs] at hr0
    refine tnil_go ?_
    refine ⟨by show 1 ≤ sizeLine; decide, fun ro nro => ?_⟩
    have g6 := same_new (o := HO.lst [.ref r0]) nro
    have hro := upd_same (H := H5) (a := ro) (o := HO.lst [.ref r0])
    have hr6 := g6 _ _ hr0
    have hpw6 := g6 _ _ (s5 _ _ hpw)
    have nrr : r0 ≠ ro := ne_of_none hr0 nro
    have npr : pw ≠ ro := ne_of_none (s5 _ _ hpw) nro
    have S6 := S4.trans (s5.trans g6)
    generalize upd H5 ro (HO.lst [.ref r0]) = H6 at *
    have nrp : r0 ≠ pw := fun z => by
      rw [z, hpw] at nr0
      cases nr0
    have n3pw : H3 pw = none := npw
    have n3ro : H3 ro = none := (g4.trans s5).free nro
    have hsv : ∀ k, k ≤ 21 → Sm 1300 (c ^ k) := fun k hk => (sm_pow sc60 (by decide) k).mono (by omega)
    have hml6 := (s3.trans (g4.trans (s5.trans g6))) _ _ hml2
    refine ⟨_, rfl, _, _, rfl, rfl, 1, _, rfl, ⟨by decide, by decide, by show -(2 ^ 62) ≤ ((most : Nat) : Int) + 1; omega, by show ((most : Nat) : Int) + 1 < 2 ^ 62; omega⟩, ?_⟩
    refine for_range (lo := 1) (n := ((most : Int) + 1 - 1).toNat) (fun i σ HB => ∃ (z9 z10 z11 z12 z13 z14 z15 z16 : Option V) (fs : List Addr), σ = [some (.ref p), some (.int ((first : Nat) : Int)), some (.int ((most : Nat) : Int)), some (shutV shut), some (.ref ml), some (.ref zt), some (.int c), some (.ref pw), some (.ref ro), z9, z10, z11, z12, z13, z14, z15, z16, none, none, none, none, none] ∧ Same H3 HB ∧ IntL HB pw (i + 1) (fun k => c ^ k) ∧ HB ro = some (.lst (fs.map V.ref)) ∧ fs.length = i + 1 ∧ ∀ j r, fs[j]? = some r → r ≠ pw ∧ r ≠ ro ∧ IntL HB r ks.length (prI mw c first shut j))
      ⟨none, none, none, none, none, none, none, none, [r0], rfl, g4.trans (s5.trans g6), hpw6, hro, rfl, fun j r hj => ?_⟩ ?_ ?_
    · match j, hj with
      | 0, hj =>
        cases Option.some.inj hj
        exact ⟨nrp, nrr, hr6⟩
    · rintro i σ HB hi ⟨z9, z10, z11, z12, z13, z14, z15, z16, fs, rfl, sB, hpB, hrB, hfl, hfx⟩
      have hi20 : i < 20 := by omega
      refine ⟨by show 1 ≤ sizeLine; decide, fun b1 mb => ?_⟩
      have g7 := same_new (o := HO.lst [.int 0]) mb
      refine ⟨_, rfl, p, _, rfl, .inr (sqT_same ((s1.trans (s2.trans (s3.trans sB))).trans g7) k1), ?_⟩
      refine ⟨b1, _, _, rfl, rfl, upd_same, by omega, by omega, ?_, fun rw nrw => ?_⟩
      · rw [hfs]
        show 1 * ks.length ≤ sizeLine
        exact Nat.le_trans (show 1 * ks.length ≤ 1000 by omega) (by decide)
      have ef : (List.replicate (((rk.map V.ref).length : Nat) : Int).toNat [V.int 0]).flatten = (mkI ks.length (acc mw c first shut i 0)).map V.int := by
        rw [flat_rep, hfs, mkI_congr (f := acc mw c first shut i 0) (g := fun _ => 0) (fun j _ => rfl), mkI_rep, List.map_replicate]
      rw [ef] at *
      have g8 := same_new (o := HO.lst ((mkI ks.length (acc mw c first shut i 0)).map V.int)) nrw
      have G8 := g7.trans g8
      have nrB : HB rw = none := g7.free nrw
      have hrw0 : IntL (upd (upd HB b1 (HO.lst [.int 0])) rw (HO.lst ((mkI ks.length (acc mw c first shut i 0)).map V.int))) rw ks.length (acc mw c first shut i 0) := upd_same
      generalize upd (upd HB b1 (HO.lst [.int 0])) rw (HO.lst ((mkI ks.length (acc mw c first shut i 0)).map V.int)) = HC0 at *
      have hmlB := sB _ _ (s3 _ _ hml2)
      have hztB := sB _ _ hzt
      refine ⟨_, rfl, _, rfl, ml, zt, _, _, rfl, SqL.of (G8 _ _ hmlB), SqL.of (G8 _ _ hztB), ?_⟩
      refine for_it (walk_zip (K := K) (a := ml) (b := zt) (xs := rs.map V.ref) (ys := (mkI mv.length T).map V.int) (n := mv.length) (by rw [List.length_map, List.length_map, mkI_len, hrl, Nat.min_self])) (fun k σ HC => ∃ (z11 z12 z13 z14 z15 z16 : Option V), σ = [some (.ref p), some (.int ((first : Nat) : Int)), some (.int ((most : Nat) : Int)), some (shutV shut), some (.ref ml), some (.ref zt), some (.int c), some (.ref pw), some (.ref ro), some (.int (1 + ((i : Nat) : Int))), some (.ref rw), z11, z12, z13, z14, z15, z16, none, none, none, none, none] ∧ Same HB HC ∧ IntL HC rw ks.length (acc mw c first shut i k))
        ⟨z11, z12, z13, z14, z15, z16, rfl, G8, hrw0⟩ ?_ ?_ ?_
      · rintro k σ HC _ ⟨_, _, _, _, _, _, rfl, sC, _⟩
        exact ⟨SqL.of (sC _ _ hmlB), SqL.of (sC _ _ hztB)⟩
      · rintro k v σ HC HC' hk ⟨z11, z12, z13, z14, z15, z16, rfl, sC, hC⟩ ⟨T2, y1, y2, rfl, nT2, rfl, ex1, ex2⟩
        dsimp only at ex1 ex2
        obtain ⟨y, hy⟩ : ∃ y, mv[k]? = some y := ⟨mv[k], List.getElem?_eq_getElem hk⟩
        obtain ⟨pm, epm, pc, c1, c2⟩ := hrs.get hy
        rw [List.getElem?_map, epm] at ex1
        cases Option.some.inj ex1
        rw [List.getElem?_map, mkI_at hk] at ex2
        cases Option.some.inj ex2
        have gT2 := same_new (o := HO.tup [.ref pm, .int (T k)]) nT2
        have hC2 := gT2 _ _ hC
        have sC2 := sC.trans gT2
        have c1' := sqT_same (s2.trans (s3.trans (sB.trans sC2))) c1
        have hT2 : SqT K (upd HC T2 (HO.tup [.ref pm, .int (T k)])) T2 [.ref pm, .int (T k)] := SqT.of upd_same
        generalize upd HC T2 (HO.tup [.ref pm, .int (T k)]) = HD at *
        refine ⟨T2, _, rfl, hT2, rfl, _, _, rfl, pm, _, rfl, c1', rfl, _, _, rfl, _, _, rfl, _, _, rfl, _, _, rfl, rfl, _, _, rfl, rfl, ?_⟩
        refine ⟨_, rfl, _, rfl, _, _, rfl, rfl, ?_⟩
        have hyk := M.kd y (List.mem_of_getElem? hy)
        have hst := M.st y (List.mem_of_getElem? hy)
        have hmk := hmi k y hy
        refine put_test (kind := y.1) (shut := shut) rfl rfl rfl ?_
        refine ite2 (fun cd => ?_) (fun cd => ?_)
        · have cd2 := of_decide_eq_true cd
          have hsi : y.2.1 ≤ i + 1 := by omega
          have hsd : y.2.1 = i + 1 ∨ shut ≠ some y.1 := by
            rcases cd2 with z | z
            · exact .inl (by omega)
            · exact .inr z.2
          obtain ⟨rj, hrj⟩ : ∃ rj, fs[i - (y.2.1 - 1)]? = some rj := ⟨fs[i - (y.2.1 - 1)]'(by omega), List.getElem?_eq_getElem (by omega)⟩
          obtain ⟨nj1, nj2, hj3⟩ := hfx _ _ hrj
          refine ⟨_, rfl, _, rfl, ?_⟩
          refine ⟨rw, _, _, _, rfl, rfl, SqL.of hC2, by show (0 : Int) ≤ ((y.2.2.1 : Nat) : Int); omega, at_of (j := y.2.2.1) rfl (by rw [List.getElem?_map, mkI_at hyk.2]; rfl), ?_⟩
          refine ⟨_, rfl, _, rfl, ro, _, _, _, rfl, rfl, SqL.of (sC2 _ _ hrB), at_of (j := i - (y.2.1 - 1)) (by show 1 + ((i : Nat) : Int) - ((y.2.1 : Nat) : Int) = _; omega) (by rw [List.getElem?_map, hrj]; rfl), ?_⟩
          refine ⟨_, rfl, ?_⟩
          refine ixI_go (m := y.1) (sC2 _ _ hj3) rfl hyk.1 ?_
          refine ⟨_, rfl, _, _, rfl, rfl, (PS (i - (y.2.1 - 1)) y.1).cmul (ts k hk) (by omega) (by decide) (by omega), ?_⟩
          refine ⟨_, rfl, _, rfl, _, _, rfl, rfl, ?_⟩
          refine ixI_go (m := y.2.1 - 1) (sC2 _ _ hpB) (by show ((y.2.1 : Nat) : Int) - 1 = _; omega) (by omega) ?_
          refine ⟨_, _, rfl, rfl, ((PS (i - (y.2.1 - 1)) y.1).mul (ts k hk)).cmul (hsv (y.2.1 - 1) (by omega)) (by omega) (by decide) (by omega), ?_⟩
          refine ⟨_, _, rfl, rfl, ?_⟩
          refine ⟨rw, _, _, y.2.2.1, rfl, rfl, hC2, ?_, ?_⟩
          · show ixN ((mkI ks.length (acc mw c first shut i k)).map V.int).length ((y.2.2.1 : Nat) : Int) = some y.2.2.1
            unfold ixN
            rw [List.length_map, mkI_len, if_pos (by omega), if_pos (by omega)]
            congr 1
          · refine ⟨_, _, _, _, _, _, rfl, ?_, ?_⟩
            · intro b2 o hb2
              rw [upd_ne (ne_of_none hb2 nrB)]
              exact sC2 _ _ hb2
            · unfold IntL
              rw [upd_same, ← List.map_set, mkI_set]
              congr 3
              refine mkI_congr fun j hj => ?_
              rw [acc_step hmk]
              by_cases z : j = y.2.2.1
              · rw [if_pos z, if_pos (show cnd shut (i + 1) (y, T k).1 j = true from decide_eq_true ⟨z.symm, hsi, hsd⟩), z]
              · rw [if_neg z, if_neg (fun x => z (of_decide_eq_true x).1.symm), Int.add_zero]
        · refine ⟨_, _, _, _, _, _, rfl, sC2, ?_⟩
          have e : mkI ks.length (acc mw c first shut i (k + 1)) = mkI ks.length (acc mw c first shut i k) := mkI_congr fun j _ => by
            rw [acc_step hmk, if_neg (fun x => ?_), Int.add_zero]
            obtain ⟨x1, x2, x3⟩ : y.2.2.1 = j ∧ y.2.1 ≤ i + 1 ∧ (y.2.1 = i + 1 ∨ shut ≠ some y.1) := of_decide_eq_true x
            refine cd (decide_eq_true ?_)
            rcases x3 with x3 | x3
            · exact .inl (by omega)
            · by_cases z : y.2.1 = i + 1
              · exact .inl (by omega)
              · exact .inr ⟨by omega, x3⟩
          unfold IntL
          rw [e]
          exact hC2
      · rintro σ HC ⟨z11, z12, z13, z14, z15, z16, rfl, sC, hC⟩
        rw [← hml3] at hC
        have e : mkI ks.length (acc mw c first shut i mw.length) = mkI ks.length (prI mw c first shut (i + 1)) := mkI_congr fun j _ => acc_all
        unfold IntL at hC
        rw [e] at hC
        have hroC := sC _ _ hrB
        have npw2 : rw ≠ pw := fun z => by
          rw [z, hpB] at nrB
          cases nrB
        have nro2 : rw ≠ ro := fun z => by
          rw [z, hrB] at nrB
          cases nrB
        have hpC := sC _ _ hpB
        refine ⟨_, rfl, .inl ⟨rfl, _, SqL.of hroC⟩, _, rfl, ro, _, _, rfl, rfl, hroC, by rw [List.length_map]; exact small1000 (by omega), ?_⟩
        have hpE : upd HC ro (.lst (fs.map V.ref ++ [.ref rw])) pw = some (.lst ((mkI (i + 1) fun k => c ^ k).map V.int)) := by
          rw [upd_ne npr]
          exact hpC
        refine ⟨_, rfl, .inl ⟨rfl, _, SqL.of hpE⟩, ?_⟩
        have eat : atI ((mkI (i + 1) fun k => c ^ k).map V.int) (-1) = some (.int (c ^ i)) := by
          have e2 : ixN ((mkI (i + 1) fun k => c ^ k).map V.int).length (-1) = some i := by
            unfold ixN
            rw [List.length_map, mkI_len, if_neg (by omega), if_pos (by omega)]
            congr 1
            omega
          unfold atI
          rw [e2]
          show ((mkI (i + 1) fun k => c ^ k).map V.int)[i]? = _
          rw [List.getElem?_map, mkI_at (by omega)]
          rfl
        refine ⟨_, rfl, 1, rfl, pw, _, -1, _, rfl, rfl, SqL.of hpE, eat, ?_⟩
        refine ⟨_, rfl, _, _, rfl, rfl, (hsv i (by omega)).cmul sc60 (by decide) (by decide) (by decide), ?_⟩
        refine ⟨pw, _, _, rfl, rfl, hpE, by rw [List.length_map, mkI_len]; exact small1000 (by omega), ?_⟩
        refine ⟨_, _, _, _, _, _, _, _, fs ++ [rw], rfl, ?_, ?_, ?_, by rw [List.length_append, hfl]; rfl, fun j r hj => ?_⟩
        · intro b2 o hb2
          rw [upd_ne (ne_of_none hb2 n3pw), upd_ne (ne_of_none hb2 n3ro)]
          exact (sB.trans sC) _ _ hb2
        · unfold IntL
          rw [upd_same, mkI_succ (n := i + 1), List.map_append, Int.pow_succ]
          rfl
        · rw [upd_ne (Ne.symm npr), upd_same, List.map_append]
          rfl
        · rcases (by omega : j < fs.length ∨ j = fs.length ∨ fs.length < j) with z | z | z
          · rw [List.getElem?_append_left z] at hj
            obtain ⟨x1, x2, x3⟩ := hfx j r hj
            refine ⟨x1, x2, ?_⟩
            unfold IntL
            rw [upd_ne x1, upd_ne x2]
            exact sC _ _ x3
          · rw [z, List.getElem?_append_right (Nat.le_refl _), Nat.sub_self] at hj
            cases Option.some.inj hj
            refine ⟨npw2, nro2, ?_⟩
            unfold IntL
            rw [upd_ne npw2, upd_ne nro2, z, hfl]
            exact hC
          · rw [List.getElem?_append_right (by omega), List.getElem?_eq_none (by simp; omega)] at hj
            cases hj
    · rintro σ HB ⟨z9, z10, z11, z12, z13, z14, z15, z16, fs, rfl, sB, hpB, hrB, hfl, hfx⟩
      have em : ((most : Int) + 1 - 1).toNat = most := by omega
      rw [em] at hpB hfl
      refine ⟨_, rfl, _, rfl, ro, pw, _, _, rfl, SqL.of hrB, SqL.of hpB, ?_⟩
      refine lc_lsW (K := K) (walk_zip (K := K) (a := ro) (b := pw) (xs := fs.map V.ref) (ys := (mkI (most + 1) fun k => c ^ k).map V.int) (n := most + 1) (by rw [List.length_map, List.length_map, mkI_len, hfl, Nat.min_self])) ks.length (prQ mv first shut) (by omega) (fun HE sE => ⟨SqL.of (sE _ _ hrB), SqL.of (sE _ _ hpB)⟩) (fun k v HE HE' R hk sE hY qr => ?_) (fun D H2 gs sD hD hgl hgs => ?_)
      · obtain ⟨T2, y1, y2, rfl, nT2, rfl, ex1, ex2⟩ := hY
        dsimp only at ex1 ex2
        obtain ⟨rj, hrj⟩ : ∃ rj, fs[k]? = some rj := ⟨fs[k]'(by omega), List.getElem?_eq_getElem (by omega)⟩
        obtain ⟨nj1, nj2, hj3⟩ := hfx _ _ hrj
        rw [List.getElem?_map, hrj] at ex1
        cases Option.some.inj ex1
        rw [List.getElem?_map, mkI_at hk] at ex2
        cases Option.some.inj ex2
        have gT := same_new (o := HO.tup [.ref rj, .int (c ^ k)]) nT2
        refine ⟨T2, _, rfl, SqT.of upd_same, rfl, _, _, rfl, _, _, rfl, rfl, rfl, ?_⟩
        have hj4 := (sE.trans gT) _ _ hj3
        refine ⟨_, rfl, rj, rfl, ⟨_, SqL.of hj4⟩, ?_⟩
        refine lc_mkN (K := K) (walk_list (K := K) (a := rj) (xs := (mkI ks.length (prI mw c first shut k)).map V.int)) (prQ mv first shut k) (by rw [List.length_map, mkI_len]; omega) (fun HF sF => SqL.of (sF _ _ hj4)) (fun j v HF HF' R2 hj sF hY qr2 => ?_) (fun D2 HF nD2 sF hF => ?_)
        · obtain ⟨rfl, hv⟩ := hY
          rw [List.length_map, mkI_len] at hj
          rw [List.getElem?_map, mkI_at hj] at hv
          cases Option.some.inj hv
          refine ⟨rfl, _, rfl, _, rfl, ?_⟩
          refine tnil_go ?_
          exact rat_go (K := K) (Int.pow_pos c0) ((hsv k (by omega)).mono (m := 8000) (by decide)) (PV k j) qr2
        · rw [List.length_map, mkI_len] at hF
          exact qr D2 HF (gT.trans sF) (gT.free nD2) hF
      · exact q D H2 gs (s1.trans (s2.trans (s3.trans (sB.trans sD)))) hD hgl hgs
end

end Fp

set_option Elab.async false
set_option linter.all false
set_option maxRecDepth 100000
set_option maxHeartbeats 4000000
set_option exponentiation.threshold 10000
namespace Fp
open PySem PySem.Spec PyProof.Rows L2
/-! ### the told rows of kinds -/
def prRows (ks : List (List Tri)) (first most : Nat) : List (List RT) := (List.range (most + 1)).map fun i => mkL ks.length (prQ (movesFrom 0 ks) first none i)
@[reducible] def rTupOf (K : PySem.W.Frag) (xs : List V) (H : Hp) (Q : VK) : Prop := ∃ p ys, xs = [.ref p] ∧ ((SqL K H p ys ∧ ∀ l, H l = none → Q (.ref l) (upd H l (.tup ys))) ∨ (SqT K H p ys ∧ Q (.ref p) H))
section
variable {P : Program} {w : World} {K : PySem.W.Frag} {mg : Str → Option Value} {base : Heap} {aN aO : Addr}
theorem rowA_stays : Stays K (fun H p xs => RowAt K H p xs) := fun H H' p y e h => h.tk e
def spKp (K : PySem.W.Frag) : Sp := fun vs H Q _ => ∃ (p : Addr) (ks : List (List Tri)) (first most : Nat) (P : Int), vs = [.ref p, .int ((first : Nat) : Int), .int ((most : Nat) : Int)] ∧ KdsA K H p ks ∧ MvOk P ks.length (movesFrom 0 ks) ∧ ks.length ≤ 32 ∧ most ≤ 20 ∧
  ∀ z H' (rs : List Addr), Same H H' → SqT K H' z (rs.map V.ref) → Obs (fun H p xs => RowAt K H p xs) H' rs (prRows ks first most) → Q (.ref z) H'
theorem ok_kp {f fPR : Addr} {fd fdPR : FuncData} (F : Fun K "kind_puts" "kind_puts" s_kp f fd)
    (FPR : Fun K "put_rows" "put_rows" s_pr fPR fdPR) (bPR : Binds K fdPR ["kinds", "first", "most", "shut"] []) (gPR : mg "put_rows" = some (.ref fPR)) (GPR : FnOk P w K mg base CX0 3 fPR fdPR ["kinds", "first", "most", "shut"] (spPr K))
    (n_tuple : mg "tuple" = none) : FnOk P w K mg base CX0 4 f fd ["kinds", "first", "most"] (spKp K) := by
  refine F.ok sc_kp (fun vs H Q E h => ?_) (fun cdv A outer s H vs Q E hr h => ?_)
  · obtain ⟨_, _, _, _, _, rfl, _⟩ := h
    rfl
  · obtain ⟨p, ks, first, most, PP, rfl, hk, M, hkl, hm, q⟩ := h
    refine ⟨_, (pss_one (ps_ret (pe_callTy call_tuple_of (by rfl) n_tuple (by decide +kernel) (pa_cons (pe_lc (own := [("row", 3)]) (g := (gName 3)) (tt := tYes) (te := (tCB (rTupOf K) (tCons (tVar 3) tNil))) rfl sc_kp.nd (pi_list (pe_call GPR hr (by rfl) gPR FPR.kp bPR .nil pass0 (pa_cons (pv 0) (pa_cons (pv 1) (pa_cons (pv 2) (pa_cons pe_non pa_nil)))))) (blkOk_by (own := [("row", 3)]) (N := N_kp) (sc := (defScope s_kp)) (by decide +kernel)) (fun _ _ _ _ _ => (pg_name (i := 3) sc_kp.nd rfl (.inl rfl))) (fun _ _ _ _ _ => pts_nil) (fun _ _ _ _ _ => (pe_callTy call_tuple_of (by rfl) n_tuple (by decide +kernel) (pa_cons (pv 3) pa_nil)))) pa_nil)))), ?_⟩
    refine ⟨_, rfl, _, rfl, _, rfl, ?_⟩
    refine tC_go ?_
    refine tnil_go ?_
    refine ⟨p, ks, first, most, none, PP, rfl, hk, M, hkl, hm, fun D H1 fs s1 hD hfl hfs => ?_⟩
    refine ⟨D, rfl, ⟨_, SqL.of hD⟩, ?_⟩
    refine lc_obsW (K := K) (At := fun H p xs => RowAt K H p xs) rowA_stays (walk_list (K := K) (a := D) (xs := fs.map V.ref)) (prRows ks first most) (by unfold prRows; rw [List.length_map, List.length_map, List.length_range, hfl]) (by rw [List.length_map, hfl]; omega) (fun HE sE => SqL.of (sE _ _ hD)) (fun i y v HE HE' R hi sE hY qr => ?_) (fun D2 H2 s2 hD2 => ?_)
    · obtain ⟨rfl, hv⟩ := hY
      have hi2 : i < most + 1 := by
        have := (List.getElem?_eq_some_iff.mp hi).1
        unfold prRows at this
        rw [List.length_map, List.length_range] at this
        exact this
      have ey : y = mkL ks.length (prQ (movesFrom 0 ks) first none i) := by
        unfold prRows at hi
        rw [List.getElem?_map, List.getElem?_range hi2] at hi
        exact (Option.some.inj hi).symm
      obtain ⟨r, hr⟩ : ∃ r, fs[i]? = some r := ⟨fs[i]'(by omega), List.getElem?_eq_getElem (by omega)⟩
      rw [List.getElem?_map, hr] at hv
      cases Option.some.inj hv
      obtain ⟨as, a1, a2⟩ := (hfs i r hr).same sE
      refine ⟨rfl, _, rfl, ?_⟩
      refine tnil_go ?_
      refine ⟨r, _, rfl, .inl ⟨SqL.of a1, fun z nz => ?_⟩⟩
      have gz := same_new (o := HO.tup (as.map V.ref)) nz
      refine qr z _ gz ⟨as, SqT.of upd_same, ?_⟩
      rw [ey]
      exact a2.tk (Tk.same gz)
    · obtain ⟨rs, r1, r2⟩ := hD2
      refine tnil_go ?_
      refine ⟨D2, _, rfl, .inl ⟨SqL.of r1, fun z nz => ?_⟩⟩
      have gz := same_new (o := HO.tup (rs.map V.ref)) nz
      exact q z _ rs (s1.trans (s2.trans gz)) (SqT.of upd_same) (r2.tk rowA_stays (Tk.same gz))
end

end Fp

set_option Elab.async false
set_option linter.all false
set_option maxRecDepth 100000
set_option maxHeartbeats 4000000
set_option exponentiation.threshold 10000
namespace Fp
open PySem PySem.Spec PyProof.Rows L2
/-! ### lent kinds are behind one another -/
theorem sumTo_far {f : Nat → Rat} {a b : Nat} (h : ∀ k, a ≤ k → f k = 0) (hab : a ≤ b) : sumTo b f = sumTo a f := by
  obtain ⟨d, rfl⟩ : ∃ d, b = a + d := ⟨b - a, by omega⟩
  clear hab
  induction d with
  | zero => rfl
  | succ d ih =>
    rw [show a + (d + 1) = a + d + 1 by omega, sumTo_succ, ih, h (a + d) (by omega)]
    grind
theorem crossQ_conv {A B : Nat → Rat} {m n : Nat} (hA : ∀ k, m ≤ k → A k = 0) (hB : ∀ k, n ≤ k → B k = 0) (i : Nat) : crossQ A B m n i = sumTo (i + 1) fun k => A k * B (i - k) := by
  unfold crossQ
  have e1 := sumTo_far (f := fun k => if k ≤ i ∧ i < k + n then A k * B (i - k) else 0) (a := m) (b := m + (i + 1)) (fun k hk => by
    show (if k ≤ i ∧ i < k + n then A k * B (i - k) else 0) = 0
    split
    · rw [hA k hk]
      grind
    · rfl) (by omega)
  have e2 := sumTo_far (f := fun k => if k ≤ i ∧ i < k + n then A k * B (i - k) else 0) (a := i + 1) (b := m + (i + 1)) (fun k hk => if_neg (by omega)) (by omega)
  rw [← e1, e2]
  refine sumTo_congr fun k hk => ?_
  by_cases z : i < k + n
  · rw [if_pos ⟨by omega, z⟩]
  · rw [if_neg (fun x => z x.2), hB (i - k) (by omega)]
    grind
theorem conv3 {A B C p : Nat → Rat} (hC : ∀ i, C i = sumTo (i + 1) fun k => A k * B (i - k)) (n : Nat) : (sumTo n fun k => B k * sumTo (n - 1 - k) fun l => A l * p (n - 1 - k - 1 - l)) = sumTo n fun j => laterF C j * p (n - 1 - j) := by
  cases n with
  | zero => rfl
  | succ m =>
    rw [sumTo_head (n := m) (f := fun j => laterF C j * p (m + 1 - 1 - j)), sumTo_succ]
    have h1 : B m * (sumTo (m + 1 - 1 - m) fun l => A l * p (m + 1 - 1 - m - 1 - l)) = 0 := by
      rw [show m + 1 - 1 - m = 0 by omega, sumTo_zero]
      grind
    rw [h1, show laterF C 0 = 0 from rfl]
    have h2 : (sumTo m fun j => laterF C (j + 1) * p (m + 1 - 1 - (j + 1))) = sumTo m fun j => sumTo (j + 1) fun k => A k * B (j - k) * p (m - 1 - j) := sumTo_congr fun j _ => by
      show C j * p (m + 1 - 1 - (j + 1)) = _
      rw [hC j, show m + 1 - 1 - (j + 1) = m - 1 - j by omega]
      have e : (sumTo (j + 1) fun k => A k * B (j - k)) * p (m - 1 - j) = p (m - 1 - j) * sumTo (j + 1) fun k => A k * B (j - k) := by grind
      rw [e, sumTo_mul]
      exact sumTo_congr fun k _ => by grind
    rw [h2, tri_flip m (fun j k => A k * B (j - k) * p (m - 1 - j)), tri_swap (fun j k => A j * B (j + k - j) * p (m - 1 - (j + k))) m]
    have h3 : (sumTo m fun k => B k * sumTo (m + 1 - 1 - k) fun l => A l * p (m + 1 - 1 - k - 1 - l)) = sumTo m fun j => sumTo (m - j) fun k => A k * B (k + j - k) * p (m - 1 - (k + j)) := sumTo_congr fun k hk => by
      rw [sumTo_mul, show m + 1 - 1 - k = m - k by omega]
      refine sumTo_congr fun l hl => ?_
      rw [show l + k - l = k by omega, show m - k - 1 - l = m - 1 - (l + k) by omega]
      grind
    rw [h3]
    grind
theorem two_by_two {A B C r0 r1 : Nat → Rat} (hC : ∀ i, C i = sumTo (i + 1) fun k => A k * B (i - k)) (h0 : ∀ n, r0 n = oneAt n + sumTo n fun k => B k * r1 (n - 1 - k)) (h1 : ∀ n, r1 n = sumTo n fun k => A k * r0 (n - 1 - k)) (n : Nat) : r0 n = renQ (laterF C) oneAt n ∧ r1 n = renQ (laterF C) (laterF A) n := by
  have key : ∀ n, r0 n = renQ (laterF C) oneAt n := by
    intro n
    induction n using Nat.strongRecOn with
    | ind n ih =>
      rw [h0 n, renQ_is]
      congr 1
      have e : (sumTo n fun k => B k * r1 (n - 1 - k)) = sumTo n fun k => B k * sumTo (n - 1 - k) fun l => A l * r0 (n - 1 - k - 1 - l) := sumTo_congr fun k _ => by rw [h1]
      rw [e, conv3 hC]
      exact sumTo_congr fun j hj => by rw [ih (n - 1 - j) (by omega)]
  refine ⟨key n, ?_⟩
  rw [h1, conv_later]
  exact sumTo_congr fun k _ => by rw [key]
theorem sumL_app {α : Type} (f : α → Rat) (ys : List α) : ∀ xs : List α, ((xs ++ ys).map f).sum = (xs.map f).sum + (ys.map f).sum
  | [] => by
    show _ = (0 : Rat) + _
    rw [List.nil_append]
    grind
  | x :: r => by
    have ih := sumL_app f ys r
    show f x + ((r ++ ys).map f).sum = (f x + (r.map f).sum) + _
    rw [ih]
    grind
theorem zip_sum {g : RT → Nat → Rat} (hg : ∀ i, g (0, 1) i = 0) : ∀ (row : List RT) (o : Nat), (((row.zipIdx o).filter fun x => decide (x.1 ≠ (0, 1))).map fun x => g x.1 x.2).sum = sumTo row.length fun i => g (row[i]?.getD (0, 1)) (o + i)
  | [], o => rfl
  | x :: r, o => by
    have ih := zip_sum hg r (o + 1)
    rw [List.length_cons, sumTo_head, List.zipIdx_cons]
    have e : (sumTo r.length fun j => g ((x :: r)[j + 1]?.getD (0, 1)) (o + (j + 1))) = sumTo r.length fun i => g (r[i]?.getD (0, 1)) (o + 1 + i) := sumTo_congr fun j _ => by
      rw [List.getElem?_cons_succ, show o + (j + 1) = o + 1 + j by omega]
    rw [e, ← ih]
    show _ = g x (o + 0) + _
    by_cases z : x = (0, 1)
    · rw [List.filter_cons_of_neg (by
        show ¬ decide (x ≠ (0, 1)) = true
        simp [z]), z, hg]
      grind
    · rw [List.filter_cons_of_pos (by
        show decide (x ≠ (0, 1)) = true
        simp [z])]
      rfl
theorem fol_sum {row : List RT} {f k n j : Nat} {h : Nat → Nat → Rat} : (((folL row f).map fun t => ((k, t) : Mv)).map fun m => if cnd none (n + 1) m j = true then qv m.2.2.2 * h (n - (m.2.1 - 1)) m.1 else 0).sum = if f = j then sumTo (n + 1) fun i => chR row (0, 1) i * h (n - i) k else 0 := by
  unfold folL
  rw [List.map_map, List.map_map]
  by_cases z : f = j
  · rw [if_pos z]
    have e : (((row.zipIdx.filter fun x => decide (x.1 ≠ (0, 1))).map ((fun m : Mv => if cnd none (n + 1) m j = true then qv m.2.2.2 * h (n - (m.2.1 - 1)) m.1 else 0) ∘ (fun t => ((k, t) : Mv)) ∘ fun x => (x.2 + 1, f, x.1))).sum) = (((row.zipIdx 0).filter fun x => decide (x.1 ≠ (0, 1))).map fun x => if x.2 < n + 1 then qv x.1 * h (n - x.2) k else 0).sum := by
      congr 1
      refine List.map_congr_left fun x _ => ?_
      show (if cnd none (n + 1) (k, x.2 + 1, f, x.1) j = true then qv x.1 * h (n - (x.2 + 1 - 1)) k else 0) = _
      by_cases y : x.2 < n + 1
      · rw [if_pos (show cnd none (n + 1) (k, x.2 + 1, f, x.1) j = true from decide_eq_true ⟨z, by show x.2 + 1 ≤ n + 1; omega, .inr (fun q => by cases q)⟩), if_pos y, Nat.add_sub_cancel]
      · rw [if_neg (fun q => y (by
          have := (of_decide_eq_true q).2.1
          have : x.2 + 1 ≤ n + 1 := this
          omega)), if_neg y]
    refine Eq.trans e ?_
    rw [zip_sum (g := fun x i => if i < n + 1 then qv x * h (n - i) k else 0) (fun i => by
      show (if i < n + 1 then qv (0, 1) * h (n - i) k else 0) = 0
      rw [qv_nought]
      split <;> grind)]
    have hz : ∀ i, row.length ≤ i → (if i < n + 1 then chR row (0, 1) i * h (n - i) k else 0) = 0 := fun i hi => by
      rw [chR_far0' hi]
      split <;> grind
    have e1 : (sumTo row.length fun i => if 0 + i < n + 1 then qv (row[i]?.getD (0, 1)) * h (n - (0 + i)) k else 0) = sumTo row.length fun i => if i < n + 1 then chR row (0, 1) i * h (n - i) k else 0 := sumTo_congr fun i hi => by
      rw [Nat.zero_add, List.getElem?_eq_getElem hi, chR_in (List.getElem?_eq_getElem hi)]
      rfl
    rw [e1, ← sumTo_far hz (show row.length ≤ row.length + (n + 1) by omega), sumTo_far (a := n + 1) (fun i hi => if_neg (by omega)) (show n + 1 ≤ row.length + (n + 1) by omega)]
    exact sumTo_congr fun i hi => if_pos hi
  · rw [if_neg z]
    have e : ∀ xs : List (RT × Nat), (xs.map ((fun m : Mv => if cnd none (n + 1) m j = true then qv m.2.2.2 * h (n - (m.2.1 - 1)) m.1 else 0) ∘ (fun t => ((k, t) : Mv)) ∘ fun x => (x.2 + 1, f, x.1))).sum = 0 := by
      intro xs
      induction xs with
      | nil => rfl
      | cons x r ih =>
        show (if cnd none (n + 1) (k, x.2 + 1, f, x.1) j = true then qv x.1 * h (n - (x.2 + 1 - 1)) k else 0) + _ = 0
        rw [if_neg (fun q => z (of_decide_eq_true q).1)]
        have ih2 : (List.foldr (fun x1 x2 => x1 + x2) 0 (List.map ((fun m : Mv => if cnd none (n + 1) m j = true then qv m.2.2.2 * h (n - (m.2.1 - 1)) m.1 else 0) ∘ (fun t => ((k, t) : Mv)) ∘ fun x => (x.2 + 1, f, x.1)) r)) = 0 := ih
        grind
    exact e _
theorem lent_step {X Y : List RT} {first n j : Nat} : prQ (movesFrom 0 [folL X 1, folL Y 0]) first none (n + 1) j = (if 1 = j then sumTo (n + 1) fun i => chR X (0, 1) i * prQ (movesFrom 0 [folL X 1, folL Y 0]) first none (n - i) 0 else 0) + if 0 = j then sumTo (n + 1) fun i => chR Y (0, 1) i * prQ (movesFrom 0 [folL X 1, folL Y 0]) first none (n - i) 1 else 0 := by
  rw [prQ_succ]
  have e : movesFrom 0 [folL X 1, folL Y 0] = ((folL X 1).map fun t => ((0, t) : Mv)) ++ ((folL Y 0).map fun t => ((1, t) : Mv)) := by
    show ((folL X 1).map fun t => ((0, t) : Mv)) ++ (((folL Y 0).map fun t => ((1, t) : Mv)) ++ []) = _
    rw [List.append_nil]
  generalize hm : movesFrom 0 [folL X 1, folL Y 0] = mv at *
  generalize hp : prQ mv first none = p at *
  rw [e, sumL_app, fol_sum, fol_sum]

end Fp

set_option Elab.async false
set_option linter.all false
set_option maxRecDepth 100000
set_option maxHeartbeats 4000000
set_option exponentiation.threshold 10000
namespace Fp
open PySem PySem.Spec PyProof.Rows L2
/-! ### bounded lives, cut at six -/
structure B6 (row : List RT) : Prop where
  len : row.length ≤ 6
  w : ∃ W : Int, 0 < W ∧ Sm 10 W ∧ ∀ y ∈ row, y.2 ∣ W
  q : ∀ x ∈ row, 0 ≤ qv x ∧ qv x ≤ 1
  sm : ∀ x ∈ row, SmR 10 x
theorem B6.br {row : List RT} (h : B6 row) : BR row := ⟨h.w, h.q, h.sm⟩
theorem BR.b6 {row : List RT} (h : BR row) : B6 (row.take 6) := by
  obtain ⟨W, w1, w2, w3⟩ := h.w
  exact ⟨by rw [List.length_take]; omega, ⟨W, w1, w2, fun y hy => w3 y (List.mem_of_mem_take hy)⟩, fun x hx => h.q x (List.mem_of_mem_take hx), fun x hx => h.sm x (List.mem_of_mem_take hx)⟩
/-! ### lent kinds: puts of what is behind -/
theorem lent0 {X Y : List RT} {C : Nat → Rat} (hC : ∀ i, C i = sumTo (i + 1) fun k => chR X (0, 1) k * chR Y (0, 1) (i - k)) (n : Nat) : prQ (movesFrom 0 [folL X 1, folL Y 0]) 0 none n 0 = renQ (laterF C) oneAt n ∧ prQ (movesFrom 0 [folL X 1, folL Y 0]) 0 none n 1 = renQ (laterF C) (laterF (chR X (0, 1))) n := by
  refine two_by_two (A := chR X (0, 1)) (B := chR Y (0, 1)) (r0 := fun n => prQ (movesFrom 0 [folL X 1, folL Y 0]) 0 none n 0) (r1 := fun n => prQ (movesFrom 0 [folL X 1, folL Y 0]) 0 none n 1) hC (fun n => ?_) (fun n => ?_) n
  · cases n with
    | zero =>
      show prQ _ 0 none 0 0 = oneAt 0 + sumTo 0 _
      rw [prQ_zero, sumTo_zero]
      show (1 : Rat) = 1 + 0
      grind
    | succ n =>
      show prQ _ 0 none (n + 1) 0 = oneAt (n + 1) + _
      rw [lent_step, if_neg (by decide), if_pos rfl]
      rfl
  · cases n with
    | zero =>
      show prQ _ 0 none 0 1 = sumTo 0 _
      rw [prQ_zero]
      rfl
    | succ n =>
      show prQ _ 0 none (n + 1) 1 = _
      rw [lent_step, if_pos rfl, if_neg (by decide)]
      show _ + (0 : Rat) = _
      rw [Nat.add_sub_cancel]
      grind
theorem lent1 {X Y : List RT} {C : Nat → Rat} (hC : ∀ i, C i = sumTo (i + 1) fun k => chR Y (0, 1) k * chR X (0, 1) (i - k)) (n : Nat) : prQ (movesFrom 0 [folL X 1, folL Y 0]) 1 none n 1 = renQ (laterF C) oneAt n ∧ prQ (movesFrom 0 [folL X 1, folL Y 0]) 1 none n 0 = renQ (laterF C) (laterF (chR Y (0, 1))) n := by
  refine two_by_two (A := chR Y (0, 1)) (B := chR X (0, 1)) (r0 := fun n => prQ (movesFrom 0 [folL X 1, folL Y 0]) 1 none n 1) (r1 := fun n => prQ (movesFrom 0 [folL X 1, folL Y 0]) 1 none n 0) hC (fun n => ?_) (fun n => ?_) n
  · cases n with
    | zero =>
      show prQ _ 1 none 0 1 = oneAt 0 + sumTo 0 _
      rw [prQ_zero, sumTo_zero]
      show (1 : Rat) = 1 + 0
      grind
    | succ n =>
      show prQ _ 1 none (n + 1) 1 = oneAt (n + 1) + _
      rw [lent_step, if_pos rfl, if_neg (by decide), Nat.add_sub_cancel]
      show _ = (0 : Rat) + _
      grind
  · cases n with
    | zero =>
      show prQ _ 1 none 0 0 = sumTo 0 _
      rw [prQ_zero]
      rfl
    | succ n =>
      show prQ _ 1 none (n + 1) 0 = _
      rw [lent_step, if_neg (by decide), if_pos rfl, Nat.add_sub_cancel]
      grind
theorem trimZ_get : ∀ {n : Nat} {xs : List RT}, xs.length = n → ∀ i : Nat, ((trimZ xs)[i]?).getD (0, 1) = (xs[i]?).getD (0, 1) := by
  intro n
  induction n with
  | zero =>
    intro xs h i
    rw [List.length_eq_zero_iff.mp h]
    rfl
  | succ n ih =>
    intro xs h i
    have hne : xs ≠ [] := fun z => by rw [z] at h; cases h
    have e := List.dropLast_concat_getLast hne
    generalize xs.dropLast = ys at e
    generalize xs.getLast hne = y at e
    subst e
    rw [List.length_append] at h
    have hy : ys.length = n := by
      have : [y].length = 1 := rfl
      omega
    by_cases z : y = (0, 1)
    · rw [z, trimZ_nought, ih hy i]
      rcases (by omega : i < ys.length ∨ i = ys.length ∨ ys.length < i) with q | q | q
      · rw [List.getElem?_append_left q]
      · rw [q, List.getElem?_append_right (Nat.le_refl _), Nat.sub_self, List.getElem?_eq_none (Nat.le_refl _)]
        rfl
      · rw [List.getElem?_eq_none (by omega), List.getElem?_eq_none (by rw [List.length_append]; show ys.length + 1 ≤ i; omega)]
    · rw [trimZ_stop _ z]
theorem chR_get (row : List RT) (i : Nat) : chR row (0, 1) i = qv ((row[i]?).getD (0, 1)) := by
  rcases (by omega : i < row.length ∨ row.length ≤ i) with z | z
  · rw [List.getElem?_eq_getElem z, chR_in (List.getElem?_eq_getElem z)]
    rfl
  · rw [List.getElem?_eq_none z, chR_far0' z]
    exact qv_nought.symm
theorem chR_trim {f : Nat → Rat} {m : Nat} (h : ∀ i, m ≤ i → f i = 0) (i : Nat) : chR (trimZ (mkL m f)) (0, 1) i = f i := by
  rw [chR_get, trimZ_get rfl]
  rcases (by omega : i < m ∨ m ≤ i) with z | z
  · rw [mkL_at z]
    exact qv_rdq _
  · rw [List.getElem?_eq_none (by rw [mkL_len]; exact z), h i z]
    exact qv_nought
theorem bhQ_far {A B : List RT} (hA : A.length ≤ 14) (hB : B.length ≤ 14) (i : Nat) (hi : A.length + B.length ≤ i) : bhQ A B i = 0 := by
  unfold bhQ
  cases i with
  | zero => rfl
  | succ i => exact crossQ_far _ _ (by omega)
theorem bh_ch {A B : List RT} (hA : A.length ≤ 14) (hB : B.length ≤ 14) : chR (trimZ (mkL 60 (bhQ A B))) (0, 1) = laterF (crossQ (chR A (0, 1)) (chR B (0, 1)) A.length B.length) := by
  funext i
  exact chR_trim (fun i hi => bhQ_far hA hB i (by omega)) i
theorem bh_len {A B : List RT} (hA : A.length ≤ 6) (hB : B.length ≤ 6) : (trimZ (mkL 60 (bhQ A B))).length ≤ 13 := by
  rw [← bh_trim A B (by omega) (by omega)]
  have := trimZ_len (n := (mkL (A.length + B.length - 1 + 1) (bhQ A B)).length) (xs := mkL (A.length + B.length - 1 + 1) (bhQ A B)) rfl
  rw [mkL_len] at this
  omega
/-- the life of one behind the other may be put -/
theorem bh_ok {A B : List RT} (hA : B6 A) (hB : B6 B) : LifeOkE 60 (trimZ (mkL 60 (bhQ A B))) (0, 1) ∧ ∃ W : Int, 0 < W ∧ Sm 120 W ∧ ∀ y ∈ trimZ (mkL 60 (bhQ A B)), y.2 ∣ W := by
  obtain ⟨W1, a1, a2, a3⟩ := hA.w
  obtain ⟨W2, b1, b2, b3⟩ := hB.w
  have hP := Int.mul_pos a1 b1
  have sP : Sm 20 (W1 * W2) := a2.mul b2
  have hz : ∀ i, Sz (W1 * W2) 7 (bhQ A B i) := fun i => by
    cases i with
    | zero => exact Sz.nought
    | succ i => exact crossQ_sz a1 b1 (hA.br.sz a1 a3) (hB.br.sz b1 b3) (by have := hA.len; omega) i
  have hm : ∀ y ∈ trimZ (mkL 60 (bhQ A B)), ∃ i, y = rdq (bhQ A B i) := fun y hy => by
    obtain ⟨j, _, rfl⟩ := mem_mkL (trimZ_mem (n := (mkL 60 (bhQ A B)).length) rfl y hy)
    exact ⟨j, rfl⟩
  refine ⟨⟨fun y hy => ?_, ⟨nought_sm (by decide), by show (0 : Int) ≤ 0; decide, by show (0 : Int) < 1; decide⟩, by decide, by decide⟩, W1 * W2, hP, sP.mono (by decide), fun y hy => ?_⟩
  · obtain ⟨i, rfl⟩ := hm y hy
    exact (hz i).smr hP sP (by decide)
  · obtain ⟨i, rfl⟩ := hm y hy
    obtain ⟨T, hT⟩ := (hz i).ov
    exact (red_small (rdq_red _) hP ((qv_rdq _).trans hT)).1
theorem fol_mem {row : List RT} {f : Nat} {t : Tri} (h : t ∈ folL row f) : t.2.2 ∈ row ∧ t.2.1 = f ∧ 1 ≤ t.1 := by
  unfold folL at h
  obtain ⟨x, hx, rfl⟩ := List.mem_map.mp h
  have h1 := (List.mem_filter.mp hx).1
  obtain ⟨i, hi⟩ := List.mem_iff_getElem?.mp h1
  rw [List.getElem?_zipIdx] at hi
  refine ⟨?_, rfl, by show 1 ≤ x.2 + 1; omega⟩
  match e : row[i]? with
  | none => rw [e] at hi; cases hi
  | some y =>
    rw [e] at hi
    have := Option.some.inj hi
    rw [← this]
    exact List.mem_of_getElem? e
theorem fol_len {row : List RT} {f : Nat} : (folL row f).length ≤ row.length := by
  unfold folL
  rw [List.length_map]
  exact Nat.le_trans (List.length_filter_le _ _) (by rw [List.length_zipIdx]; exact Nat.le_refl _)
theorem lent_ok {X Y : List RT} (hX : B6 X) (hY : B6 Y) : ∃ P : Int, MvOk P 2 (movesFrom 0 [folL X 1, folL Y 0]) := by
  obtain ⟨W1, a1, a2, a3⟩ := hX.w
  obtain ⟨W2, b1, b2, b3⟩ := hY.w
  have hP := Int.mul_pos a1 b1
  have e : movesFrom 0 [folL X 1, folL Y 0] = ((folL X 1).map fun t => ((0, t) : Mv)) ++ ((folL Y 0).map fun t => ((1, t) : Mv)) := by
    show ((folL X 1).map fun t => ((0, t) : Mv)) ++ (((folL Y 0).map fun t => ((1, t) : Mv)) ++ []) = _
    rw [List.append_nil]
  have key : ∀ y ∈ movesFrom 0 [folL X 1, folL Y 0], (y.2.2.2 ∈ X ∨ y.2.2.2 ∈ Y) ∧ 1 ≤ y.2.1 ∧ y.1 < 2 ∧ y.2.2.1 < 2 := fun y hy => by
    rw [e] at hy
    rcases List.mem_append.mp hy with z | z
    · obtain ⟨t, ht, rfl⟩ := List.mem_map.mp z
      obtain ⟨x1, x2, x3⟩ := fol_mem ht
      exact ⟨.inl x1, x3, by show 0 < 2; decide, by show t.2.1 < 2; omega⟩
    · obtain ⟨t, ht, rfl⟩ := List.mem_map.mp z
      obtain ⟨x1, x2, x3⟩ := fol_mem ht
      exact ⟨.inr x1, x3, by show 1 < 2; decide, by show t.2.1 < 2; omega⟩
  have hsz : ∀ x : RT, x ∈ X ∨ x ∈ Y → Red x ∧ Sz (W1 * W2) 0 (qv x) := fun x hx => by
    rcases hx with z | z
    · obtain ⟨q0, q1⟩ := hX.q x z
      refine ⟨(hX.sm x z).1, Sz.pos ⟨_, qv_over (hX.sm x z).1.1 (Int.dvd_trans (a3 x z) (Int.dvd_mul_right ..)) hP⟩ q0 (by rw [Rat.pow_zero]; exact q1)⟩
    · obtain ⟨q0, q1⟩ := hY.q x z
      refine ⟨(hY.sm x z).1, Sz.pos ⟨_, qv_over (hY.sm x z).1.1 (Int.dvd_trans (b3 x z) (Int.dvd_mul_left ..)) hP⟩ q0 (by rw [Rat.pow_zero]; exact q1)⟩
  refine ⟨W1 * W2, hP, (a2.mul b2).mono (by decide), ?_, fun y hy => (hsz _ (key y hy).1).1, fun y hy => (hsz _ (key y hy).1).2, fun y hy => (key y hy).2.1, fun y hy => (key y hy).2.2⟩
  rw [e, List.length_append, List.length_map, List.length_map]
  have h1 := fol_len (row := X) (f := 1)
  have h2 := fol_len (row := Y) (f := 0)
  have := hX.len
  have := hY.len
  omega

end Fp

set_option Elab.async false
set_option linter.all false
set_option maxRecDepth 100000
set_option maxHeartbeats 4000000
set_option exponentiation.threshold 10000
namespace Fp
open PySem PySem.Spec PyProof.Rows L2
/-! ### rows multiplied -/
def cv (f g : Nat → Rat) (n : Nat) : Rat := sumTo (n + 1) fun k => f k * g (n - k)
theorem cv_later (a g : Nat → Rat) (n : Nat) : cv (laterF a) g n = sumTo n fun j => a j * g (n - 1 - j) := by
  unfold cv
  rw [sumTo_head]
  have e : (sumTo n fun j => laterF a (j + 1) * g (n - (j + 1))) = sumTo n fun j => a j * g (n - 1 - j) := sumTo_congr fun j _ => by
    rw [show n - (j + 1) = n - 1 - j by omega]
    rfl
  rw [e]
  show (0 : Rat) * _ + _ = _
  grind
theorem ren_cv (a b : Nat → Rat) (n : Nat) : renQ a b n = b n + cv (laterF a) (renQ a b) n := by rw [cv_later, ← renQ_is]
theorem cv_swap (f g h : Nat → Rat) (n : Nat) : cv f (cv g h) n = cv g (cv f h) n := by
  unfold cv
  have e : ∀ f g : Nat → Rat, (sumTo (n + 1) fun k => f k * sumTo (n - k + 1) fun j => g j * h (n - k - j)) = sumTo (n + 1) fun k => sumTo (n + 1 - k) fun j => f k * g j * h (n - k - j) := fun f g => sumTo_congr fun k hk => by
    rw [sumTo_mul, show n - k + 1 = n + 1 - k by omega]
    exact sumTo_congr fun j _ => by grind
  rw [e f g, e g f, tri_swap fun k j => f k * g j * h (n - k - j)]
  refine sumTo_congr fun j _ => sumTo_congr fun k _ => ?_
  rw [show n - k - j = n - j - k by omega]
  grind
theorem cv_add (f g h : Nat → Rat) (n : Nat) : cv f (fun m => g m + h m) n = cv f g n + cv f h n := by
  unfold cv
  rw [← sumTo_add]
  exact sumTo_congr fun k _ => by grind
theorem cv_addL (f g h : Nat → Rat) (n : Nat) : cv (fun m => g m + h m) f n = cv g f n + cv h f n := by
  unfold cv
  rw [← sumTo_add]
  exact sumTo_congr fun k _ => by grind
theorem cv_mul (c : Rat) (f g : Nat → Rat) (n : Nat) : cv f (fun m => c * g m) n = c * cv f g n := by
  unfold cv
  rw [sumTo_mul]
  exact sumTo_congr fun k _ => by grind
theorem cv_mulL (c : Rat) (f g : Nat → Rat) (n : Nat) : cv (fun m => c * f m) g n = c * cv f g n := by
  unfold cv
  rw [sumTo_mul]
  exact sumTo_congr fun k _ => by grind
theorem cv_one (f : Nat → Rat) (n : Nat) : cv f oneAt n = f n := by
  unfold cv
  rw [sumTo_succ, Nat.sub_self]
  have e : (sumTo n fun k => f k * oneAt (n - k)) = sumTo n fun _ => 0 := sumTo_congr fun k hk => by
    rw [show oneAt (n - k) = 0 from if_neg (by omega)]
    grind
  rw [e, sumTo_nought, show oneAt 0 = 1 from rfl]
  grind
theorem cv_congr {f f' g g' : Nat → Rat} (n : Nat) (h1 : ∀ k, k ≤ n → f k = f' k) (h2 : ∀ k, k ≤ n → g k = g' k) : cv f g n = cv f' g' n := by
  unfold cv
  exact sumTo_congr fun k hk => by rw [h1 k (by omega), h2 (n - k) (by omega)]
theorem cv_comm1 (f g : Nat → Rat) (n : Nat) : cv f g n = cv g f n := by
  have e1 : cv f g n = cv f (cv g oneAt) n := cv_congr n (fun _ _ => rfl) fun k _ => (cv_one g k).symm
  have e2 : cv g f n = cv g (cv f oneAt) n := cv_congr n (fun _ _ => rfl) fun k _ => (cv_one f k).symm
  rw [e1, e2, cv_swap]
/-- what keeps to the recursion is what is told anew -/
theorem ren_uniq {a b r : Nat → Rat} (h : ∀ n, r n = b n + sumTo n fun j => a j * r (n - 1 - j)) : ∀ n, renQ a b n = r n := by
  intro n
  induction n using Nat.strongRecOn with
  | ind n ih =>
    rw [renQ_is, h n]
    congr 1
    exact sumTo_congr fun j hj => by rw [ih (n - 1 - j) (by omega)]
/-- by the thinned chances, put anew: the share times the puts -/
theorem thin_anew (a : Nat → Rat) (s : Rat) (n : Nat) : renQ (fun i => thinQ a s (i + 1)) oneAt n = oneAt n + s * (renQ a oneAt n - oneAt n) := by
  refine ren_uniq (r := fun n => oneAt n + s * (renQ a oneAt n - oneAt n)) (fun n => ?_) n
  refine Eq.trans ?_ (congrArg (oneAt n + ·) (cv_later (fun i => thinQ a s (i + 1)) (fun n => oneAt n + s * (renQ a oneAt n - oneAt n)) n))
  generalize ep : renQ a oneAt = p
  have hp : ∀ n, p n = oneAt n + cv (laterF a) p n := fun n => by
    rw [← ep]
    exact ren_cv a oneAt n
  generalize et : thinQ a s = t
  have t0 : t 0 = 0 := by
    rw [← et]
    unfold thinQ
    rw [renQ_is, sumTo_zero]
    show (0 : Rat) + 0 = 0
    grind
  have eA : ∀ c : Rat, laterF (fun j => c * a j) = fun m => c * laterF a m := fun c => by
    funext m
    cases m with
    | zero =>
      show (0 : Rat) = c * 0
      grind
    | succ m => rfl
  have ht : ∀ n, t n = s * laterF a n + (1 - s) * cv (laterF a) t n := fun n => by
    rw [← et]
    have := ren_cv (fun j => (1 - s) * a j) (laterF fun j => s * a j) n
    rw [eA (1 - s), cv_mulL, show laterF (fun j => s * a j) n = s * laterF a n from congrFun (eA s) n] at this
    exact this
  have elt : laterF (fun i => t (i + 1)) = t := by
    funext m
    cases m with
    | zero => exact t0.symm
    | succ m => rfl
  rw [elt]
  generalize laterF a = A at *
  -- u: what is thinned, then put
  have u1 : cv t p n = t n + cv A (cv t p) n := by
    have e : cv t p n = cv t (fun m => oneAt m + cv A p m) n := cv_congr n (fun _ _ => rfl) fun k _ => hp k
    rw [e, cv_add, cv_one, cv_swap]
  have u2 : cv t p n = s * cv A p n + (1 - s) * cv A (cv t p) n := by
    have e : cv t p n = cv (fun m => s * A m + (1 - s) * cv A t m) p n := cv_congr n (fun k _ => ht k) fun _ _ => rfl
    have e3 : cv (cv A t) p n = cv A (cv t p) n := by
      rw [cv_comm1 (cv A t) p, cv_swap]
      exact cv_congr n (fun _ _ => rfl) fun k _ => cv_comm1 p t k
    rw [e, cv_addL, cv_mulL, cv_mulL, e3]
  have e4 : cv t (fun n => oneAt n + s * (p n - oneAt n)) n = (1 - s) * t n + s * cv t p n := by
    have e : cv t (fun n => oneAt n + s * (p n - oneAt n)) n = cv t (fun m => (1 - s) * oneAt m + s * p m) n := cv_congr n (fun _ _ => rfl) fun k _ => by grind
    rw [e, cv_add, cv_mul, cv_mul, cv_one]
  show oneAt n + s * (p n - oneAt n) = oneAt n + cv t (fun n => oneAt n + s * (p n - oneAt n)) n
  rw [e4]
  have := hp n
  grind
/-! ### folded: noughts between -/
theorem reidx (b : Nat) (hb : b = 1 ∨ b = 2 ∨ b = 3) (f : Nat → Rat) : ∀ m, (sumTo (b * m) fun j => if (j + 1) % b = 0 then f ((j + 1) / b - 1) else 0) = sumTo m f := by
  intro m
  induction m with
  | zero => rfl
  | succ m ih =>
    rw [sumTo_succ m f, ← ih]
    rcases hb with rfl | rfl | rfl
    · rw [show 1 * (m + 1) = 1 * m + 1 by omega, sumTo_succ, if_pos (by omega), show (1 * m + 1) / 1 - 1 = m by omega]
    · rw [show 2 * (m + 1) = 2 * m + 1 + 1 by omega, sumTo_succ, sumTo_succ, if_neg (by omega), if_pos (by omega), show (2 * m + 1 + 1) / 2 - 1 = m by omega]
      grind
    · rw [show 3 * (m + 1) = 3 * m + 1 + 1 + 1 by omega, sumTo_succ, sumTo_succ, sumTo_succ, if_neg (by omega), if_neg (by omega), if_pos (by omega), show (3 * m + 1 + 1 + 1) / 3 - 1 = m by omega]
      grind
def wideF (b : Nat) (a : Nat → Rat) (j : Nat) : Rat := if (j + 1) % b = 0 then a ((j + 1) / b - 1) else 0
theorem fold_put (b : Nat) (hb : b = 1 ∨ b = 2 ∨ b = 3) (a : Nat → Rat) (n : Nat) : renQ (wideF b a) oneAt n = if n % b = 0 then renQ a oneAt (n / b) else 0 := by
  refine ren_uniq (r := fun n => if n % b = 0 then renQ a oneAt (n / b) else 0) (fun n => ?_) n
  by_cases z : n % b = 0
  · obtain ⟨m, rfl⟩ : ∃ m, n = b * m := ⟨n / b, by rw [← Nat.div_add_mod n b, z]; rcases hb with rfl | rfl | rfl <;> omega⟩
    have hd : b * m / b = m := by rcases hb with rfl | rfl | rfl <;> omega
    have e0 : oneAt (b * m) = oneAt m := by
      unfold oneAt
      by_cases y : m = 0
      · rw [if_pos (by rw [y]; exact Nat.mul_zero b), if_pos y]
      · rw [if_neg (by rcases hb with rfl | rfl | rfl <;> omega), if_neg y]
    rw [if_pos z, hd, renQ_is, e0, ← reidx b hb]
    congr 1
    refine sumTo_congr fun j hj => ?_
    unfold wideF
    by_cases y : (j + 1) % b = 0
    · have h1 : (b * m - 1 - j) % b = 0 := by rcases hb with rfl | rfl | rfl <;> omega
      have h2 : (b * m - 1 - j) / b = m - 1 - ((j + 1) / b - 1) := by rcases hb with rfl | rfl | rfl <;> omega
      rw [if_pos y, if_pos y, if_pos h1, h2]
    · rw [if_neg y, if_neg y]
      grind
  · have e0 : oneAt n = 0 := if_neg fun y => z (by rw [y]; exact Nat.zero_mod b)
    rw [if_neg z, e0]
    have e : (sumTo n fun j => wideF b a j * if (n - 1 - j) % b = 0 then renQ a oneAt ((n - 1 - j) / b) else 0) = sumTo n fun _ => 0 := sumTo_congr fun j hj => by
      unfold wideF
      by_cases y : (j + 1) % b = 0
      · have h1 : ¬ (n - 1 - j) % b = 0 := by rcases hb with rfl | rfl | rfl <;> omega
        rw [if_neg h1]
        grind
      · rw [if_neg y]
        grind
    rw [e, sumTo_nought]
    grind
/-! ### chances of the short life, of the cut and of the folded one -/
theorem chR_trimZ (row : List RT) (i : Nat) : chR (trimZ row) (0, 1) i = chR row (0, 1) i := by rw [chR_get, trimZ_get rfl, ← chR_get]
theorem wide_get (m : Nat) (hm : m = 0 ∨ m = 1 ∨ m = 2) : ∀ (row : List RT) (j : Nat), ((wideR m row)[j]?).getD (0, 1) = if (j + 1) % (m + 1) = 0 then (row[(j + 1) / (m + 1) - 1]?).getD (0, 1) else (0, 1)
  | [], j => by
    show (([] : List RT)[j]?).getD (0, 1) = _
    simp
  | x :: r, j => by
    have ih := wide_get m hm r
    show (((List.replicate m ((0 : Int), (1 : Int)) ++ [x]) ++ wideR m r)[j]?).getD (0, 1) = _
    rcases (by omega : j < m ∨ j = m ∨ m < j) with z | z | z
    · rw [List.append_assoc, List.getElem?_append_left (by rw [List.length_replicate]; exact z), List.getElem?_replicate, if_pos z, if_neg (by rcases hm with rfl | rfl | rfl <;> omega)]
      rfl
    · subst z
      rw [List.append_assoc, List.getElem?_append_right (by rw [List.length_replicate]; exact Nat.le_refl _), List.length_replicate, Nat.sub_self, if_pos (Nat.mod_self _), Nat.div_self (by omega)]
      rfl
    · have hl : (List.replicate m ((0 : Int), (1 : Int)) ++ [x]).length = m + 1 := by
        rw [List.length_append, List.length_replicate]
        rfl
      rw [List.getElem?_append_right (by rw [hl]; omega), hl, ih (j - (m + 1))]
      have e1 : (j - (m + 1) + 1) % (m + 1) = (j + 1) % (m + 1) := by rcases hm with rfl | rfl | rfl <;> omega
      rw [e1]
      by_cases y : (j + 1) % (m + 1) = 0
      · have e2 : (j + 1) / (m + 1) - 1 = ((j - (m + 1) + 1) / (m + 1) - 1) + 1 := by rcases hm with rfl | rfl | rfl <;> omega
        rw [if_pos y, if_pos y, e2, List.getElem?_cons_succ]
      · rw [if_neg y, if_neg y]
theorem wide_ch (m : Nat) (hm : m = 0 ∨ m = 1 ∨ m = 2) (row : List RT) (j : Nat) : chR (wideR m row) (0, 1) j = wideF (m + 1) (chR row (0, 1)) j := by
  rw [chR_get, wide_get m hm]
  unfold wideF
  split
  · rw [chR_get]
  · exact qv_nought
theorem cut_ch (row : List RT) (step : RT) {m i : Nat} (h : i < m) : chR (cutR row step m) (0, 1) i = chR row step i := by
  have e : (cutR row step m)[i]? = some (rdq (chR row step i)) := by
    unfold cutR
    rw [List.getElem?_append_left (by rw [chsR_len]; exact h)]
    unfold chsR
    rw [List.getElem?_map, List.getElem?_range h]
    rfl
  rw [chR_in e, qv_rdq]
theorem ch_end {row : List RT} {step : RT} (h : ¬ GoesOn row step) (i : Nat) : chR row step i = chR row (0, 1) i := by
  rcases snoc_cases row with rfl | ⟨ys, y, rfl⟩
  · rfl
  · by_cases hi : i < (ys ++ [y]).length
    · rw [chR_in (List.getElem?_eq_getElem hi), chR_in (List.getElem?_eq_getElem hi)]
    · have hl : (ys ++ [y]).getLast? = some y := by rw [List.getLast?_append]; rfl
      rw [chR_out (by omega) hl, chR_out (by omega) hl]
      by_cases z : y = (0, 1)
      · rw [z, qv_nought]
        grind
      · have : step = (0, 1) := Classical.byContradiction fun u => h ⟨u, ys, y, rfl, z⟩
        rw [this]
theorem ch_more (ys : List RT) {b step : RT} (hb : Red b) (hs : Red step) (i : Nat) : chR (ys ++ [b] ++ [rT b step]) step i = chR (ys ++ [b]) step i := by
  have hl1 : (ys ++ [b]).length = ys.length + 1 := by rw [List.length_append]; rfl
  have hl2 : (ys ++ [b] ++ [rT b step]).length = ys.length + 2 := by rw [List.length_append, hl1]; rfl
  have g1 : (ys ++ [b]).getLast? = some b := by rw [List.getLast?_append]; rfl
  have g2 : (ys ++ [b] ++ [rT b step]).getLast? = some (rT b step) := by rw [List.getLast?_append]; rfl
  rcases (by omega : i < ys.length + 1 ∨ i = ys.length + 1 ∨ ys.length + 2 ≤ i) with z | z | z
  · have e : (ys ++ [b] ++ [rT b step])[i]? = (ys ++ [b])[i]? := List.getElem?_append_left (by omega)
    rw [chR_in (List.getElem?_eq_getElem (show i < (ys ++ [b]).length by omega)), chR_in (e.trans (List.getElem?_eq_getElem (show i < (ys ++ [b]).length by omega)))]
  · have e : (ys ++ [b] ++ [rT b step])[i]? = some (rT b step) := by
      rw [List.getElem?_append_right (by omega), hl1, z, Nat.sub_self]
      rfl
    rw [chR_in e, chR_out (by omega) g1, (qv_rT hb hs).2, hl1, z, show ys.length + 1 + 1 - (ys.length + 1) = 0 + 1 by omega, Rat.pow_succ, Rat.pow_zero]
    grind
  · rw [chR_out (by omega) g2, chR_out (by omega) g1, (qv_rT hb hs).2, hl1, hl2, show i + 1 - (ys.length + 1) = (i + 1 - (ys.length + 2)) + 1 by omega, Rat.pow_succ]
    grind
theorem ch_trimG {step : RT} (hs : Red step) : ∀ (n : Nat) (row : List RT), row.length = n → (∀ x ∈ row, Red x) → ∀ i, chR (trimG row step) step i = chR row step i := by
  intro n
  induction n with
  | zero =>
    intro row h _ i
    rw [List.length_eq_zero_iff.mp h]
    rfl
  | succ n ih =>
    intro row h hr i
    rcases snoc_cases row with rfl | ⟨xs, a, rfl⟩
    · cases h
    rcases snoc_cases xs with rfl | ⟨ys, b, rfl⟩
    · rfl
    · by_cases z : a = rT b step
      · subst z
        rw [trimG_cut, ih (ys ++ [b]) (by simpa using h) (fun x hx => hr x (List.mem_append_left _ hx)), ch_more ys (hr b (by simp)) hs]
      · rw [trimG_stop _ z]
theorem ch_short {row : List RT} {step : RT} (hr : ∀ x ∈ row, Red x) (hs : Red step) (i : Nat) : chR (shortL row step).1 (shortL row step).2 i = chR row step i := by
  rcases Classical.em (GoesOn row step) with h | h
  · rw [shortL_go h]
    exact ch_trimG hs _ row rfl hr i
  · rw [shortL_end h, ch_end h]
    exact chR_trimZ row i
/-- so much later -/
def shiftF (m : Nat) (a : Nat → Rat) (i : Nat) : Rat := if i < m then 0 else a (i - m)
theorem ch_shift (m : Nat) (row : List RT) (step : RT) (i : Nat) : chR (List.replicate m ((0 : Int), (1 : Int)) ++ row) step i = shiftF m (chR row step) i := by
  have hl : (List.replicate m ((0 : Int), (1 : Int)) ++ row).length = m + row.length := by rw [List.length_append, List.length_replicate]
  unfold shiftF
  by_cases z : i < m
  · rw [if_pos z, chR_in (x := (0, 1)) (by rw [List.getElem?_append_left (by rw [List.length_replicate]; exact z), List.getElem?_replicate, if_pos z]), qv_nought]
  rw [if_neg z]
  by_cases y : i < m + row.length
  · have e : (List.replicate m ((0 : Int), (1 : Int)) ++ row)[i]? = row[i - m]? := by rw [List.getElem?_append_right (by rw [List.length_replicate]; omega), List.length_replicate]
    rw [chR_in (e.trans (List.getElem?_eq_getElem (show i - m < row.length by omega))), chR_in (List.getElem?_eq_getElem (show i - m < row.length by omega))]
  · rcases snoc_cases row with rfl | ⟨ys, b, rfl⟩
    · rw [List.append_nil, chR_nil]
      have : ¬ i < m := z
      cases m with
      | zero => rfl
      | succ m =>
        have g : (List.replicate (m + 1) ((0 : Int), (1 : Int))).getLast? = some (0, 1) := by
          rw [List.replicate_succ', List.getLast?_append]
          rfl
        rw [chR_out (by rw [List.length_replicate]; omega) g, qv_nought]
        grind
    · have g1 : (ys ++ [b]).getLast? = some b := by rw [List.getLast?_append]; rfl
      have g2 : (List.replicate m ((0 : Int), (1 : Int)) ++ (ys ++ [b])).getLast? = some b := by rw [← List.append_assoc, List.getLast?_append]; rfl
      rw [chR_out (by omega) g2, chR_out (by omega) g1, hl, show i - m + 1 - (ys ++ [b]).length = i + 1 - (m + (ys ++ [b]).length) by omega]
/-! ### sizes -/
theorem sumCh_to (row : List RT) (step : RT) : ∀ m, sumCh row step m = sumTo m (chR row step)
  | 0 => rfl
  | m + 1 => by
    show sumCh row step m + chR row step m = _
    rw [sumTo_succ, sumCh_to row step m]
theorem BR.lf0 {row : List RT} (h : BR row) (hl : row.length ≤ 14) : LF0 row (0, 1) := by
  obtain ⟨W, w1, w2, w3⟩ := h.w
  have hW : WOk W row := ⟨w1, w2.mono (by decide), w3⟩
  have e : qv (0, 1) = 0 := qv_nought
  exact ⟨h.ok hl, ⟨W, hW⟩, ⟨_, ch01_of hW (h.ok hl) h.q (by rw [e]; exact ⟨Rat.le_refl, by decide⟩) ⟨by decide, by decide⟩⟩⟩
theorem Ch01.shift {D : Int} {a : Nat → Rat} {M : Nat} (h : Ch01 D a M) (m : Nat) : Ch01 D (shiftF m a) M := by
  refine ⟨h.pos, h.sm, fun k hk => ?_, fun k hk => ?_, fun k hk => ?_⟩
  · unfold shiftF
    split
    · exact Rat.le_refl
    · exact h.ge _ (by omega)
  · unfold shiftF
    split
    · decide
    · exact h.le _ (by omega)
  · unfold shiftF
    split
    · exact Den.zero
    · exact h.den _ (by omega)
theorem cut_ok {row : List RT} {step : RT} {D : Int} (C1 : Ch01 D (chR row step) 20) {m : Nat} (hm : m ≤ 20) : LifeOkE 80 (trimZ (cutR row step m)) (0, 1) ∧ 0 < D ∧ Sm 120 D ∧ ∀ y ∈ trimZ (cutR row step m), y.2 ∣ D := by
  have hz : ∀ y ∈ trimZ (cutR row step m), ∃ v, y = rdq v ∧ Sz D 8 v := fun y hy => by
    have hy2 := trimZ_mem rfl y hy
    unfold cutR at hy2
    rcases List.mem_append.mp hy2 with z | z
    · obtain ⟨i, hi⟩ := List.mem_iff_getElem?.mp z
      obtain ⟨h1, h2⟩ := chsR_at hi
      exact ⟨_, h2, (C1.chSz (show i < 20 by omega)).mono (by decide)⟩
    · refine ⟨_, List.mem_singleton.mp z, ?_⟩
      rw [sumCh_to]
      have h7 : Sz D 7 (sumTo m (chR row step)) := Sz.sum C1.pos (fun j hj => C1.chSz (show j < 20 by omega)) (by omega)
      have := Sz.add C1.pos (Sz.one (k := 7) C1.pos) h7.neg
      rw [show (1 : Rat) - sumTo m (chR row step) = 1 + -sumTo m (chR row step) by grind]
      exact this
  refine ⟨⟨fun y hy => ?_, ⟨nought_sm (by decide), by show (0 : Int) ≤ 0; decide, by show (0 : Int) < 1; decide⟩, by decide, by decide⟩, C1.pos, C1.sm.mono (by decide), fun y hy => ?_⟩
  · obtain ⟨v, rfl, z⟩ := hz y hy
    exact z.smr C1.pos C1.sm (by decide)
  · obtain ⟨v, rfl, z⟩ := hz y hy
    exact (z.red C1.pos C1.sm).1
theorem wide_ok {row : List RT} (h : BR row) (m : Nat) : ∃ W : Int, LifeOkE 10 (trimZ (wideR m row)) (0, 1) ∧ 0 < W ∧ Sm 120 W ∧ ∀ y ∈ trimZ (wideR m row), y.2 ∣ W := by
  obtain ⟨W, w1, w2, w3⟩ := h.w
  refine ⟨W, ⟨fun y hy => ?_, ⟨nought_sm (by decide), by show (0 : Int) ≤ 0; decide, by show (0 : Int) < 1; decide⟩, by decide, by decide⟩, w1, w2.mono (by decide), fun y hy => ?_⟩
  · rcases wide_mem (trimZ_mem rfl y hy) with z | z
    · rw [z]
      exact nought_sm (by decide)
    · exact h.sm y z
  · rcases wide_mem (trimZ_mem rfl y hy) with z | z
    · rw [z]
      exact Int.one_dvd _
    · exact w3 y z
theorem cutShort (row : List RT) (step : RT) {m n : Nat} (h : n ≤ m) : putQ (trimZ (cutR row step m)) (0, 1) n = putQ row step n := by
  unfold putQ
  exact renQ_congr (m := n) (Nat.le_refl _) (fun j hj => by rw [chR_trimZ, cut_ch row step (show j < m by omega)]) fun _ _ => rfl
theorem wideShort (m : Nat) (hm : m = 0 ∨ m = 1 ∨ m = 2) (row : List RT) (n : Nat) : putQ (trimZ (wideR m row)) (0, 1) n = if n % (m + 1) = 0 then putQ row (0, 1) (n / (m + 1)) else 0 := by
  unfold putQ
  rw [← fold_put (m + 1) (by omega) (chR row (0, 1)) n]
  exact renQ_congr (m := n) (Nat.le_refl _) (fun j hj => by rw [chR_trimZ, wide_ch m hm]) fun _ _ => rfl
theorem laterShort {row : List RT} {step : RT} (hr : ∀ x ∈ row, Red x) (hs : Red step) (m n : Nat) : putQ (shortL (List.replicate m (0, 1) ++ row) step).1 (shortL (List.replicate m (0, 1) ++ row) step).2 n = renQ (shiftF m (chR row step)) oneAt n := by
  unfold putQ
  refine renQ_congr (m := n) (Nat.le_refl _) (fun j hj => ?_) fun _ _ => rfl
  rw [ch_short (fun x hx => ?_) hs, ch_shift]
  rcases List.mem_append.mp hx with z | z
  · rw [List.eq_of_mem_replicate z]
    exact ⟨by decide, by decide⟩
  · exact hr x z

end Fp

set_option Elab.async false
set_option linter.all false
set_option maxRecDepth 100000
set_option maxHeartbeats 4000000
set_option exponentiation.threshold 10000
namespace Fp
open PySem PySem.Spec PyProof.Rows L2
/-! ### the law's own: put anew, with a share, behind one another -/
theorem rowD_shapedL (xs : List RT) : SeqAt.shaped (.list (rowD xs)) = true := by
  unfold SeqAt.shaped
  have h1 : PyData.canLay0 (.list (rowD xs)) = true := rowD_lay xs
  have h2 : (PyData.list (rowD xs)).depth ≤ 64 := by
    show PyData.depthAll (rowD xs) + 1 ≤ 64
    have := rowD_depth xs
    omega
  rw [h1, decide_eq_true h2]
  rfl
theorem LsM.dp {K : PySem.W.Frag} {H : Hp} {p : Addr} {xs : List RT} (h : LsM K H p xs) : Dp K H (.ref p) (.list (rowD xs)) := by
  obtain ⟨rs, h1, h2⟩ := h
  exact .lst (SqL.of h1) h2.dp
theorem eqv_rowL (xs : List RT) : PyData.eqv (.list (rowD xs)) (.list (rowD xs)) = true := SeqAt.eqv_refl _ (rowD_lay xs)
theorem eqL_go {K : PySem.W.Frag} {H : Hp} {p r : Addr} {xs : List RT} {Q : VK} (h1 : LsM K H p xs) (h2 : LsM K H r xs) (h : Q (.bl true) H) : rEqD K (.ref p) (.ref r) H Q := by
  refine ⟨_, _, h1.dp, h2.dp, rowD_shapedL xs, rowD_shapedL xs, ?_⟩
  rw [eqv_rowL]
  exact h
theorem neL_go {K : PySem.W.Frag} {H : Hp} {p r : Addr} {xs : List RT} {Q : VK} (h1 : LsM K H p xs) (h2 : LsM K H r xs) (h : Q (.bl false) H) : rNeD K (.ref p) (.ref r) H Q := by
  refine ⟨_, _, h1.dp, h2.dp, rowD_shapedL xs, rowD_shapedL xs, ?_⟩
  rw [eqv_rowL]
  exact h
abbrev s_anew : Stmt := topS 51
abbrev N_anew : List Str := ["_law_chances", "_law_most_here", "_law_found", "_law_n", "_law_k"]
theorem sc_anew : FnScope N_anew ["_law_chances", "_law_most_here"] (defScope s_anew) := ⟨rfl, rfl, rfl, by decide +kernel, rfl, by decide +kernel, by decide +kernel⟩
section
variable {P : Program} {w : World} {K : PySem.W.Frag} {mg : Str → Option Value} {base : Heap} {aN aO : Addr}
def spAnew (K : PySem.W.Frag) : Sp := fun vs H Q _ => ∃ (p : Addr) (m most : Nat) (ch : Nat → Rat) (P1 P2 : Int) (s1 k1 s2 k2 : Nat), vs = [.ref p, .int (most : Int)] ∧ LsM K H p (mkL m ch) ∧ most ≤ m ∧ most ≤ 20 ∧
  (0 < P1 ∧ Sm s1 P1 ∧ ∀ j, j < most → Sz P1 k1 (ch j)) ∧ (0 < P2 ∧ Sm s2 P2 ∧ ∀ j, j ≤ most → Sz P2 k2 (renQ ch oneAt j)) ∧ s1 + s2 ≤ 2400 ∧ k1 ≤ 200 ∧ k2 ≤ 200 ∧
  ∀ z H', Same H H' → LsM K H' z (mkL (most + 1) (renQ ch oneAt)) → Q (.ref z) H'
def spAnewT (K : PySem.W.Frag) : Sp := fun vs H Q _ => ∃ (p : Addr) (m most : Nat) (ch : Nat → Rat) (P1 P2 : Int) (s1 k1 s2 k2 : Nat), vs = [.ref p, .int (most : Int)] ∧ RowAt K H p (mkL m ch) ∧ most ≤ m ∧ most ≤ 20 ∧
  (0 < P1 ∧ Sm s1 P1 ∧ ∀ j, j < most → Sz P1 k1 (ch j)) ∧ (0 < P2 ∧ Sm s2 P2 ∧ ∀ j, j ≤ most → Sz P2 k2 (renQ ch oneAt j)) ∧ s1 + s2 ≤ 2400 ∧ k1 ≤ 200 ∧ k2 ≤ 200 ∧
  ∀ z H', Same H H' → LsM K H' z (mkL (most + 1) (renQ ch oneAt)) → Q (.ref z) H'
theorem ok_anew {f fSU fLT : Addr} {fd fdSU fdLT : FuncData} (F : Fun K "_law_anew" "_law_anew" s_anew f fd)
    (FSU : Fun K "_law_sum" "_law_sum" s_lsum fSU fdSU) (bSU : Binds K fdSU ["_law_some"] []) (gSU : mg "_law_sum" = some (.ref fSU)) (GSU : FnOk P w K mg base CX0 2 fSU fdSU ["_law_some"] (spLsum K LstAt))
    (FLT : Fun K "_law_times" "_law_times" s_ltimes fLT fdLT) (bLT : Binds K fdLT ["_law_one", "_law_other"] []) (gLT : mg "_law_times" = some (.ref fLT)) (GLT : FnOk P w K mg base CX0 2 fLT fdLT ["_law_one", "_law_other"] (spTwo K (fun a b c d => a * c)))
    (n_range : mg "range" = none) : FnOk P w K mg base CX0 4 f fd ["_law_chances", "_law_most_here"] (spAnew K) := by
  refine F.ok sc_anew (fun vs H Q E h => ?_) (fun cdv A outer s H vs Q E hr h => ?_)
  · obtain ⟨_, _, _, _, _, _, _, _, _, _, rfl, _⟩ := h
    rfl
  · obtain ⟨p, m, most, ch, P1, P2, s1, k1, s2, k2, rfl, hp, hm1, hm2, ⟨a1, a2, a3⟩, ⟨b1, b2, b3⟩, hs, hk1, hk2, q⟩ := h
    refine ⟨_, (pss_cons (ps_set (i := 2) sc_anew.nd rfl (.inr rfl) (pe_lst (pa_cons (pe_tup (pa_cons pe_int (pa_cons pe_int pa_nil))) pa_nil)))
      (pss_cons (ps_for PassesOwn.never rfl (pi_range2 (by rfl) n_range (pa_cons pe_int (pa_cons (pe_op op_add (pv 1) pe_int) pa_nil))) (pg_name (i := 3) sc_anew.nd rfl (.inr rfl)) (pss_one (ps_expr (pe_bm PySem.F.plainAttrs_list PySem.F.slot_list_append PySem.F.type_list_append mt_append (pv 2) (pa_cons (pe_call GSU (hr.mono (by decide)) (by rfl) gSU FSU.kp bSU .nil pass0 (pa_cons (pe_lc (own := [("_law_k", 4)]) (g := (gName 4)) (tt := tYes) (te := (tCall (spTwo K (fun a b c d => a * c)) [] E0 (tCons (tOp (rIxL K) (tVar 0) (tOp (rI0 fun i j => .int (i - j)) (tVar 4) (tC (.int 1)))) (tCons (tOp (rIxL K) (tVar 2) (tOp (rI0 fun i j => .int (i - j)) (tVar 3) (tVar 4))) tNil)))) rfl sc_anew.nd (pi_range2 (by rfl) n_range (pa_cons pe_int (pa_cons (pe_op op_add (pv 3) pe_int) pa_nil))) (blkOk_by (own := [("_law_k", 4)]) (N := N_anew) (sc := (defScope s_anew)) (by decide +kernel)) (fun _ _ _ _ _ => (pg_name (i := 4) sc_anew.nd rfl (.inl rfl))) (fun _ _ _ _ _ => pts_nil) (fun _ _ _ _ _ => (pe_call GLT (hr.mono (by decide)) (by rfl) gLT FLT.kp bLT .nil pass0 (pa_cons (pe_ix ix_list (pv 0) (pe_op op_sub (pv 4) pe_int) (fun _ _ => rfl)) (pa_cons (pe_ix ix_list (pv 2) (pe_op op_sub (pv 3) (pv 4)) (fun _ _ => rfl)) pa_nil))))) pa_nil)) pa_nil)))))
      (pss_one (ps_ret (pv 2))))), ?_⟩
    have one : rdq 1 = (1, 1) := (is_rdq one_red qv_one).symm
    have ren0 : renQ ch oneAt 0 = 1 := by
      rw [renQ_is, sumTo_zero]
      show (1 : Rat) + 0 = 1
      grind
    refine ⟨by show 2 ≤ sizeLine; decide, fun o1 n1 => ?_⟩
    have e1 := same_new (o := HO.tup [.int 1, .int 1]) n1
    refine ⟨by show 1 ≤ sizeLine; decide, fun fo nf => ?_⟩
    have e2 := same_new (o := HO.lst [.ref o1]) nf
    have nfH : H fo = none := e1.free nf
    have hfo : LsM K (upd (upd H o1 (HO.tup [.int 1, .int 1])) fo (HO.lst [.ref o1])) fo (mkL (0 + 1) (renQ ch oneAt)) := by
      refine ⟨[o1], upd_same, .cons ?_ .nil⟩
      show RAt K _ o1 (rdq (renQ ch oneAt 0))
      rw [ren0, one]
      exact SqT.of (e2 _ _ upd_same)
    have S2 := e1.trans e2
    generalize upd (upd H o1 (HO.tup [.int 1, .int 1])) fo (HO.lst [.ref o1]) = H2 at *
    refine ⟨_, rfl, _, 1, rfl, rfl, 1, _, rfl, ⟨by decide, by decide, by show -(2 ^ 62) ≤ (most : Int) + 1; omega, by show (most : Int) + 1 < 2 ^ 62; omega⟩, ?_⟩
    have en : (((most : Int) + 1) - 1).toNat = most := by omega
    refine for_range (lo := 1) (n := (((most : Int) + 1) - 1).toNat) (fun i σ HB => ∃ (z3 z4 : Option V), σ = [some (.ref p), some (.int (most : Int)), some (.ref fo), z3, z4] ∧ Same H HB ∧ LsM K HB fo (mkL (i + 1) (renQ ch oneAt))) ⟨none, none, rfl, S2, hfo⟩ ?_ ?_
    · rintro i σ HB hi ⟨z3, z4, rfl, sB, hfB⟩
      rw [en] at hi
      obtain ⟨rs, hf1, hf2⟩ := id hfB
      have hrl := hf2.length
      rw [mkL_len] at hrl
      refine ⟨_, rfl, .inl ⟨rfl, _, SqL.of hf1⟩, ?_⟩
      refine ⟨_, rfl, _, 1, rfl, rfl, 1, _, rfl, ⟨by decide, by decide, by show -(2 ^ 62) ≤ (1 : Int) + (i : Int) + 1; omega, by show (1 : Int) + (i : Int) + 1 < 2 ^ 62; omega⟩, ?_⟩
      have ek : (((1 : Int) + (i : Int) + 1) - 1).toNat = i + 1 := by omega
      refine lc_mk (K := K) (n := (((1 : Int) + (i : Int) + 1) - 1).toNat) (fun j => ch j * renQ ch oneAt (i - j)) (by omega) (fun k HE R hk sE qr => ?_) (fun l3 H3 s3 hl3 => ?_)
      · rw [ek] at hk
        refine ⟨rfl, _, rfl, _, rfl, _, 1, rfl, rfl, ?_⟩
        refine (hp.same (sB.trans sE)).at (m := k) (by show (1 : Int) + (k : Int) - 1 = _; omega) (by omega) fun r1 hr1 => ?_
        refine ⟨_, rfl, _, rfl, _, rfl, _, _, rfl, rfl, ?_⟩
        refine (hfB.same sE).at (m := i - k) (by show (1 : Int) + (i : Int) - ((1 : Int) + (k : Int)) = _; omega) (by omega) fun r2 hr2 => ?_
        refine tnil_go ?_
        exact times_go hr1 hr2 ((a3 k (by omega)).smr a1 a2 (by omega)) ((b3 (i - k) (by omega)).smr b1 b2 (by omega)) qr
      rw [ek] at hl3
      refine tnil_go ?_
      refine lsum_go (P := P1 * P2) (s := s1 + s2) (k := k1 + k2) hl3 (Int.mul_pos a1 b1) (a2.mul b2) (fun j hj => (a3 j (by omega)).mul a1 b1 (b3 (i - j) (by omega))) (by omega) (by omega) (by omega) fun r4 H4 s4 hr4 => ?_
      have hf4 := (s3.trans s4) _ _ hf1
      have ev : (sumTo (i + 1) fun j => ch j * renQ ch oneAt (i - j)) = renQ ch oneAt (i + 1) := by
        rw [renQ_is ch oneAt (i + 1), show oneAt (i + 1) = 0 from if_neg (by omega), Nat.add_sub_cancel]
        grind
      rw [ev] at hr4
      refine ⟨fo, _, _, rfl, rfl, hf4, by rw [List.length_map, hrl]; exact small1000 (by omega), ?_⟩
      refine ⟨_, _, rfl, ?_, ?_⟩
      · intro b2 o hb2
        rw [upd_ne (ne_of_none hb2 nfH)]
        exact (sB.trans (s3.trans s4)) _ _ hb2
      · rw [mkL_succ (i := i + 1)]
        exact LsM.push hf4 (hf2.tk (Tk.same (s3.trans s4))) hr4
    · rintro σ HB ⟨z3, z4, rfl, sB, hfB⟩
      rw [en] at hfB
      exact ⟨_, rfl, q fo HB sB hfB⟩
theorem ok_anewANT {f fSU fLT : Addr} {fd fdSU fdLT : FuncData} (F : Fun K "_law_anew" "_law_anew" s_anew f fd)
    (FSU : Fun K "_law_sum" "_law_sum" s_lsum fSU fdSU) (bSU : Binds K fdSU ["_law_some"] []) (gSU : mg "_law_sum" = some (.ref fSU)) (GSU : FnOk P w K mg base CX0 2 fSU fdSU ["_law_some"] (spLsum K LstAt))
    (FLT : Fun K "_law_times" "_law_times" s_ltimes fLT fdLT) (bLT : Binds K fdLT ["_law_one", "_law_other"] []) (gLT : mg "_law_times" = some (.ref fLT)) (GLT : FnOk P w K mg base CX0 2 fLT fdLT ["_law_one", "_law_other"] (spTwo K (fun a b c d => a * c)))
    (n_range : mg "range" = none) : FnOk P w K mg base CX0 4 f fd ["_law_chances", "_law_most_here"] (spAnewT K) := by
  refine F.ok sc_anew (fun vs H Q E h => ?_) (fun cdv A outer s H vs Q E hr h => ?_)
  · obtain ⟨_, _, _, _, _, _, _, _, _, _, rfl, _⟩ := h
    rfl
  · obtain ⟨p, m, most, ch, P1, P2, s1, k1, s2, k2, rfl, hp, hm1, hm2, ⟨a1, a2, a3⟩, ⟨b1, b2, b3⟩, hs, hk1, hk2, q⟩ := h
    refine ⟨_, (pss_cons (ps_set (i := 2) sc_anew.nd rfl (.inr rfl) (pe_lst (pa_cons (pe_tup (pa_cons pe_int (pa_cons pe_int pa_nil))) pa_nil)))
      (pss_cons (ps_for PassesOwn.never rfl (pi_range2 (by rfl) n_range (pa_cons pe_int (pa_cons (pe_op op_add (pv 1) pe_int) pa_nil))) (pg_name (i := 3) sc_anew.nd rfl (.inr rfl)) (pss_one (ps_expr (pe_bm PySem.F.plainAttrs_list PySem.F.slot_list_append PySem.F.type_list_append mt_append (pv 2) (pa_cons (pe_call GSU (hr.mono (by decide)) (by rfl) gSU FSU.kp bSU .nil pass0 (pa_cons (pe_lc (own := [("_law_k", 4)]) (g := (gName 4)) (tt := tYes) (te := (tCall (spTwo K (fun a b c d => a * c)) [] E0 (tCons (tOp (rIxT K) (tVar 0) (tOp (rI0 fun i j => .int (i - j)) (tVar 4) (tC (.int 1)))) (tCons (tOp (rIxL K) (tVar 2) (tOp (rI0 fun i j => .int (i - j)) (tVar 3) (tVar 4))) tNil)))) rfl sc_anew.nd (pi_range2 (by rfl) n_range (pa_cons pe_int (pa_cons (pe_op op_add (pv 3) pe_int) pa_nil))) (blkOk_by (own := [("_law_k", 4)]) (N := N_anew) (sc := (defScope s_anew)) (by decide +kernel)) (fun _ _ _ _ _ => (pg_name (i := 4) sc_anew.nd rfl (.inl rfl))) (fun _ _ _ _ _ => pts_nil) (fun _ _ _ _ _ => (pe_call GLT (hr.mono (by decide)) (by rfl) gLT FLT.kp bLT .nil pass0 (pa_cons (pe_ix ix_tup (pv 0) (pe_op op_sub (pv 4) pe_int) (fun _ _ => rfl)) (pa_cons (pe_ix ix_list (pv 2) (pe_op op_sub (pv 3) (pv 4)) (fun _ _ => rfl)) pa_nil))))) pa_nil)) pa_nil)))))
      (pss_one (ps_ret (pv 2))))), ?_⟩
    have one : rdq 1 = (1, 1) := (is_rdq one_red qv_one).symm
    have ren0 : renQ ch oneAt 0 = 1 := by
      rw [renQ_is, sumTo_zero]
      show (1 : Rat) + 0 = 1
      grind
    refine ⟨by show 2 ≤ sizeLine; decide, fun o1 n1 => ?_⟩
    have e1 := same_new (o := HO.tup [.int 1, .int 1]) n1
    refine ⟨by show 1 ≤ sizeLine; decide, fun fo nf => ?_⟩
    have e2 := same_new (o := HO.lst [.ref o1]) nf
    have nfH : H fo = none := e1.free nf
    have hfo : LsM K (upd (upd H o1 (HO.tup [.int 1, .int 1])) fo (HO.lst [.ref o1])) fo (mkL (0 + 1) (renQ ch oneAt)) := by
      refine ⟨[o1], upd_same, .cons ?_ .nil⟩
      show RAt K _ o1 (rdq (renQ ch oneAt 0))
      rw [ren0, one]
      exact SqT.of (e2 _ _ upd_same)
    have S2 := e1.trans e2
    generalize upd (upd H o1 (HO.tup [.int 1, .int 1])) fo (HO.lst [.ref o1]) = H2 at *
    refine ⟨_, rfl, _, 1, rfl, rfl, 1, _, rfl, ⟨by decide, by decide, by show -(2 ^ 62) ≤ (most : Int) + 1; omega, by show (most : Int) + 1 < 2 ^ 62; omega⟩, ?_⟩
    have en : (((most : Int) + 1) - 1).toNat = most := by omega
    refine for_range (lo := 1) (n := (((most : Int) + 1) - 1).toNat) (fun i σ HB => ∃ (z3 z4 : Option V), σ = [some (.ref p), some (.int (most : Int)), some (.ref fo), z3, z4] ∧ Same H HB ∧ LsM K HB fo (mkL (i + 1) (renQ ch oneAt))) ⟨none, none, rfl, S2, hfo⟩ ?_ ?_
    · rintro i σ HB hi ⟨z3, z4, rfl, sB, hfB⟩
      rw [en] at hi
      obtain ⟨rs, hf1, hf2⟩ := id hfB
      have hrl := hf2.length
      rw [mkL_len] at hrl
      refine ⟨_, rfl, .inl ⟨rfl, _, SqL.of hf1⟩, ?_⟩
      refine ⟨_, rfl, _, 1, rfl, rfl, 1, _, rfl, ⟨by decide, by decide, by show -(2 ^ 62) ≤ (1 : Int) + (i : Int) + 1; omega, by show (1 : Int) + (i : Int) + 1 < 2 ^ 62; omega⟩, ?_⟩
      have ek : (((1 : Int) + (i : Int) + 1) - 1).toNat = i + 1 := by omega
      refine lc_mk (K := K) (n := (((1 : Int) + (i : Int) + 1) - 1).toNat) (fun j => ch j * renQ ch oneAt (i - j)) (by omega) (fun k HE R hk sE qr => ?_) (fun l3 H3 s3 hl3 => ?_)
      · rw [ek] at hk
        refine ⟨rfl, _, rfl, _, rfl, _, 1, rfl, rfl, ?_⟩
        refine ix_row (j := k) (hp.tk (Tk.same (sB.trans sE))) (by show (1 : Int) + (k : Int) - 1 = _; omega) (mkL_at (show k < m by omega)) fun r1 hr1 => ?_
        refine ⟨_, rfl, _, rfl, _, rfl, _, _, rfl, rfl, ?_⟩
        refine (hfB.same sE).at (m := i - k) (by show (1 : Int) + (i : Int) - ((1 : Int) + (k : Int)) = _; omega) (by omega) fun r2 hr2 => ?_
        refine tnil_go ?_
        exact times_go hr1 hr2 ((a3 k (by omega)).smr a1 a2 (by omega)) ((b3 (i - k) (by omega)).smr b1 b2 (by omega)) qr
      rw [ek] at hl3
      refine tnil_go ?_
      refine lsum_go (P := P1 * P2) (s := s1 + s2) (k := k1 + k2) hl3 (Int.mul_pos a1 b1) (a2.mul b2) (fun j hj => (a3 j (by omega)).mul a1 b1 (b3 (i - j) (by omega))) (by omega) (by omega) (by omega) fun r4 H4 s4 hr4 => ?_
      have hf4 := (s3.trans s4) _ _ hf1
      have ev : (sumTo (i + 1) fun j => ch j * renQ ch oneAt (i - j)) = renQ ch oneAt (i + 1) := by
        rw [renQ_is ch oneAt (i + 1), show oneAt (i + 1) = 0 from if_neg (by omega), Nat.add_sub_cancel]
        grind
      rw [ev] at hr4
      refine ⟨fo, _, _, rfl, rfl, hf4, by rw [List.length_map, hrl]; exact small1000 (by omega), ?_⟩
      refine ⟨_, _, rfl, ?_, ?_⟩
      · intro b2 o hb2
        rw [upd_ne (ne_of_none hb2 nfH)]
        exact (sB.trans (s3.trans s4)) _ _ hb2
      · rw [mkL_succ (i := i + 1)]
        exact LsM.push hf4 (hf2.tk (Tk.same (s3.trans s4))) hr4
    · rintro σ HB ⟨z3, z4, rfl, sB, hfB⟩
      rw [en] at hfB
      exact ⟨_, rfl, q fo HB sB hfB⟩
end
abbrev s_sp : Stmt := topS 52
abbrev N_sp : List Str := ["_law_life_here", "_law_kept_by", "_law_most_here", "_law_own", "_law_told", "_law_due", "_law_one"]
theorem sc_sp : FnScope N_sp ["_law_life_here", "_law_kept_by", "_law_most_here"] (defScope s_sp) := ⟨rfl, rfl, rfl, by decide +kernel, rfl, by decide +kernel, by decide +kernel⟩
section
variable {P : Program} {w : World} {K : PySem.W.Frag} {mg : Str → Option Value} {base : Heap} {aN aO : Addr}
def spSp (K : PySem.W.Frag) : Sp := fun vs H Q _ => ∃ (p ps : Addr) (row : List RT) (step : RT) (n most : Nat) (W D b : Int) (s : Rat), vs = [.ref p, .ref ps, .int (most : Int)] ∧ LifeAt K H p row step ∧ LifeOk n row step ∧ WOk W row ∧ Ch01 D (chR row step) 20 ∧ RAt K H ps (rdq s) ∧ Part b s ∧ most ≤ 9 ∧
  ∀ H', Same H H' → Q (.bl true) H'
theorem ok_sp {f fPU fAN fTH fLT : Addr} {fd fdPU fdAN fdTH fdLT : FuncData} (F : Fun K "_law_share_puts" "_law_share_puts" s_sp f fd)
    (FPU : Fun K "puts" "puts" s_puts fPU fdPU) (bPU : Binds K fdPU ["life", "most"] []) (gPU : mg "puts" = some (.ref fPU)) (GPU : FnOk P w K mg base CX0 5 fPU fdPU ["life", "most"] (spPuts K))
    (FAN : Fun K "_law_anew" "_law_anew" s_anew fAN fdAN) (bAN : Binds K fdAN ["_law_chances", "_law_most_here"] []) (gAN : mg "_law_anew" = some (.ref fAN)) (GANT : FnOk P w K mg base CX0 4 fAN fdAN ["_law_chances", "_law_most_here"] (spAnewT K))
    (FTH : Fun K "thinned" "thinned" s_thin fTH fdTH) (bTH : Binds K fdTH ["life", "share", "most"] []) (gTH : mg "thinned" = some (.ref fTH)) (GTH : FnOk P w K mg base CX0 5 fTH fdTH ["life", "share", "most"] (spThin K))
    (FLT : Fun K "_law_times" "_law_times" s_ltimes fLT fdLT) (bLT : Binds K fdLT ["_law_one", "_law_other"] []) (gLT : mg "_law_times" = some (.ref fLT)) (GLT : FnOk P w K mg base CX0 2 fLT fdLT ["_law_one", "_law_other"] (spTwo K (fun a b c d => a * c)))
    : FnOk P w K mg base CX0 6 f fd ["_law_life_here", "_law_kept_by", "_law_most_here"] (spSp K) := by
  refine F.ok sc_sp (fun vs H Q E h => ?_) (fun cdv A outer s H vs Q E hr h => ?_)
  · obtain ⟨_, _, _, _, _, _, _, _, _, _, rfl, _⟩ := h
    rfl
  · obtain ⟨p, ps, row, step, n, most, W, D, b, s, rfl, hlife, L, hW, C1, hs, B, hm, q⟩ := h
    refine ⟨_, (pss_cons (ps_set (i := 3) sc_sp.nd rfl (.inl rfl) (pe_call GPU hr (by rfl) gPU FPU.kp bPU .nil pass0 (pa_cons (pv 0) (pa_cons (pv 2) pa_nil))))
      (pss_cons (ps_set (i := 4) sc_sp.nd rfl (.inl rfl) (pe_call GANT (hr.mono (by decide)) (by rfl) gAN FAN.kp bAN .nil pass0 (pa_cons (pe_call GTH hr (by rfl) gTH FTH.kp bTH .nil pass0 (pa_cons (pv 0) (pa_cons (pv 1) (pa_cons (pv 2) pa_nil)))) (pa_cons (pv 2) pa_nil))))
      (pss_cons (ps_set (i := 5) sc_sp.nd rfl (.inl rfl) (pe_op op_cat (pe_lst (pa_cons (pe_tup (pa_cons pe_int (pa_cons pe_int pa_nil))) pa_nil)) (pe_lc (own := [("_law_one", 6)]) (g := (gName 6)) (tt := tYes) (te := (tCall (spTwo K (fun a b c d => a * c)) [] E0 (tCons (tVar 1) (tCons (tVar 6) tNil)))) rfl sc_sp.nd (pi_tup (pe_slice sl_tupA (pv 3) (po_some pe_int) po_none)) (blkOk_by (own := [("_law_one", 6)]) (N := N_sp) (sc := (defScope s_sp)) (by decide +kernel)) (fun _ _ _ _ _ => (pg_name (i := 6) sc_sp.nd rfl (.inl rfl))) (fun _ _ _ _ _ => pts_nil) (fun _ _ _ _ _ => (pe_call GLT (hr.mono (by decide)) (by rfl) gLT FLT.kp bLT .nil pass0 (pa_cons (pv 1) (pa_cons (pv 6) pa_nil)))))))
      (pss_one (ps_ret (pe_cmpR (op_eqD hr.units) (pv 4) (pv 5) (nomark _))))))), ?_⟩
    have one : rdq 1 = (1, 1) := (is_rdq one_red qv_one).symm
    have p0 : renQ (chR row step) oneAt 0 = 1 := by
      rw [renQ_is, sumTo_zero]
      show (1 : Rat) + 0 = 1
      grind
    refine ⟨_, rfl, _, rfl, p, row, step, n, most, W, rfl, hlife, L, hW, by omega, fun ow H1 s1 how => ?_⟩
    refine ⟨_, rfl, _, rfl, _, rfl, p, ps, row, step, n, most, D, b, s, rfl, hlife.tk (Tk.same s1), L, C1, hs.tk (Tk.same s1), B, by omega, fun th H2 s2 hth => ?_⟩
    have pz : ∀ j, j ≤ 9 → Sz (D ^ 9 * b) 11 (oneAt j + s * (renQ (chR row step) oneAt j - oneAt j)) := fun j hj => by
      have hP : 0 < D ^ 9 := (C1.powSm 9).1
      have hPb : 0 < D ^ 9 * b := Int.mul_pos hP B.pos
      have x1 : Sz (D ^ 9) 9 (renQ (chR row step) oneAt j) := (C1.putSz (e := 9) (show j ≤ 20 by omega) hj).mono (by omega)
      have x2 : Sz (D ^ 9) 9 (-oneAt j) := by
        unfold oneAt
        split
        · exact (Sz.one hP).neg
        · exact Sz.nought.neg
      have x3 := (Sz.add hP x1 x2).mul hP B.pos B.sz
      have x4 : Sz (D ^ 9 * b) 10 (oneAt j) := by
        unfold oneAt
        split
        · exact Sz.one hPb
        · exact Sz.nought
      have x5 := Sz.add hPb x4 x3
      rw [show oneAt j + s * (renQ (chR row step) oneAt j - oneAt j) = oneAt j + (renQ (chR row step) oneAt j + -oneAt j) * s by grind]
      exact x5
    refine ⟨_, rfl, th, most, most, fun i => thinQ (chR row step) s (i + 1), D ^ 20 * b ^ 21, D ^ 9 * b, 1266, 27, 60 * 9 + 1 + 3, 11, rfl, hth, Nat.le_refl _, by omega, ⟨(th_P C1 B).1, (th_P C1 B).2, fun j hj => ?_⟩, ⟨Int.mul_pos (C1.powSm 9).1 B.pos, (C1.powSm 9).2.mul B.sm, fun j hj => ?_⟩, by decide, by decide, by decide, fun to H3 s3 hto => ?_⟩
    · show Sz (D ^ 20 * b ^ 21) 27 (thinQ (chR row step) s (j + 1))
      rw [thin_parts _ s (show j + 1 ≤ j + 1 from Nat.le_refl _)]
      exact thF_sz C1 B (show j + 1 ≤ 20 by omega) (show j < 20 by omega)
    · rw [thin_anew]
      exact pz j (by omega)
    rw [mkL_congr fun i _ => thin_anew (chR row step) s i] at hto
    have S3 := s1.trans (s2.trans s3)
    refine ⟨by show 2 ≤ sizeLine; decide, fun o1 n1 => ?_⟩
    have e1 := same_new (o := HO.tup [.int 1, .int 1]) n1
    refine ⟨by show 1 ≤ sizeLine; decide, fun l1 m1 => ?_⟩
    have e2 := same_new (o := HO.lst [.ref o1]) m1
    have how2 : RowAt K _ ow (mkL (most + 1) (putQ row step)) := how.tk (Tk.same (s2.trans (s3.trans (e1.trans e2))))
    have hl1 : LsM K (upd (upd H3 o1 (HO.tup [.int 1, .int 1])) l1 (HO.lst [.ref o1])) l1 [(1, 1)] := ⟨[o1], upd_same, .cons (SqT.of (e2 _ _ upd_same)) .nil⟩
    have hto2 := hto.same (e1.trans e2)
    have hs2 := hs.tk (Tk.same (K := K) (S3.trans (e1.trans e2)))
    have S4 := S3.trans (e1.trans e2)
    generalize upd (upd H3 o1 (HO.tup [.int 1, .int 1])) l1 (HO.lst [.ref o1]) = H4 at *
    refine ⟨_, rfl, 1, rfl, ?_⟩
    refine noPart_go ?_
    refine drop1_row how2 (by rw [mkL_len]; omega) fun dr H5 s5 hdr => ?_
    rw [mkL_drop] at hdr
    obtain ⟨ds, hd1, hd2⟩ := id hdr
    have hdl := hd2.length
    rw [mkL_len] at hdl
    refine ⟨dr, rfl, ⟨_, hd1⟩, ?_⟩
    refine lc_mkW (K := K) (walk_tup (K := K) (a := dr) (xs := ds.map V.ref)) (fun i => s * putQ row step (i + 1)) (by rw [List.length_map, hdl]; omega) (fun HE sE => sqT_same sE hd1) (fun i v HE HE' R hi sE hY qr => ?_) (fun l6 H6 s6 hl6 => ?_)
    · obtain ⟨rfl, hv⟩ := hY
      rw [List.length_map, hdl] at hi
      obtain ⟨r, e3, hr⟩ := hd2.get (mkL_at hi)
      rw [List.getElem?_map, e3] at hv
      cases Option.some.inj hv
      refine ⟨rfl, _, rfl, _, rfl, ?_⟩
      refine tnil_go ?_
      exact times_go (hs2.tk (Tk.same (s5.trans sE))) (hr.tk (Tk.same sE)) (B.sz.smr B.pos B.sm (by decide)) ((C1.putSz (e := 20) (show i + 1 ≤ 20 by omega) (by omega)).smr (C1.powSm 20).1 (C1.powSm 20).2 (by omega)) qr
    rw [List.length_map, hdl] at hl6
    refine cat_ls (K := K) (xs := [(1, 1)]) (hl1.same (s5.trans s6)) hl6 (by rw [mkL_len]; show 1 + most ≤ 900; omega) fun du H7 s7 hdu => ?_
    have edu : [(1, 1)] ++ mkL most (fun i => s * putQ row step (i + 1)) = mkL (most + 1) fun i => oneAt i + s * (renQ (chR row step) oneAt i - oneAt i) := by
      refine List.ext_getElem? fun i => ?_
      cases i with
      | zero =>
        rw [mkL_at (by omega), p0]
        show some (1, 1) = some (rdq ((1 : Rat) + s * (1 - 1)))
        rw [show (1 : Rat) + s * (1 - 1) = 1 by grind, one]
      | succ i =>
        show (mkL most fun i => s * putQ row step (i + 1))[i]? = _
        rcases (by omega : i < most ∨ most ≤ i) with z | z
        · rw [mkL_at z, mkL_at (by omega), show oneAt (i + 1) = 0 from if_neg (by omega)]
          show some (rdq (s * renQ (chR row step) oneAt (i + 1))) = _
          rw [show (0 : Rat) + s * (renQ (chR row step) oneAt (i + 1) - 0) = s * renQ (chR row step) oneAt (i + 1) by grind]
        · rw [List.getElem?_eq_none (by rw [mkL_len]; exact z), List.getElem?_eq_none (by rw [mkL_len]; omega)]
    rw [edu] at hdu
    refine ⟨_, rfl, _, rfl, ?_⟩
    exact eqL_go (hto2.same (s5.trans (s6.trans s7))) hdu (q _ (S4.trans (s5.trans (s6.trans s7))))
end
abbrev s_bri : Stmt := topS 53
abbrev N_bri : List Str := ["_law_feed_here", "_law_most_here", "_law_one", "_law_other", "_law_some", "_law_row"]
theorem sc_bri : FnScope N_bri ["_law_feed_here", "_law_most_here"] (defScope s_bri) := ⟨rfl, rfl, rfl, by decide +kernel, rfl, by decide +kernel, by decide +kernel⟩
section
variable {P : Program} {w : World} {K : PySem.W.Frag} {mg : Str → Option Value} {base : Heap} {aN aO : Addr}
def spBri (K : PySem.W.Frag) : Sp := fun vs H Q _ => ∃ (d c : Addr) (t : Int) (most : Nat), vs = [.ref d, .int (most : Int)] ∧ Feed H d c t ∧ t ≤ 700000 ∧ most ≤ 9 ∧
  ∀ H' t', Keep d H H' → Feed H' d c t' → t' ≤ t + 30 → Q (.bl true) H'
theorem ok_bri {f fBD fKP fLE fPU fBH : Addr} {fd fdBD fdKP fdLE fdPU fdBH : FuncData} (F : Fun K "_law_behind_right" "_law_behind_right" s_bri f fd)
    (FBD : Fun K "_law_bounded" "_law_bounded" s_bounded fBD fdBD) (bBD : Binds K fdBD ["_law_feed_here"] []) (gBD : mg "_law_bounded" = some (.ref fBD)) (GBD : FnOk P w K mg base CX0 3 fBD fdBD ["_law_feed_here"] (spBounded K))
    (FKP : Fun K "kind_puts" "kind_puts" s_kp fKP fdKP) (bKP : Binds K fdKP ["kinds", "first", "most"] []) (gKP : mg "kind_puts" = some (.ref fKP)) (GKP : FnOk P w K mg base CX0 4 fKP fdKP ["kinds", "first", "most"] (spKp K))
    (FLE : Fun K "lent" "lent" s_lent fLE fdLE) (bLE : Binds K fdLE ["home", "out"] []) (gLE : mg "lent" = some (.ref fLE)) (GLE : FnOk P w K mg base CX0 2 fLE fdLE ["home", "out"] (spLent K))
    (FPU : Fun K "puts" "puts" s_puts fPU fdPU) (bPU : Binds K fdPU ["life", "most"] []) (gPU : mg "puts" = some (.ref fPU)) (GPUE : FnOk P w K mg base CX0 5 fPU fdPU ["life", "most"] (spPutsE K))
    (FBH : Fun K "behind" "behind" s_bh fBH fdBH) (bBH : Binds K fdBH ["one", "other"] []) (gBH : mg "behind" = some (.ref fBH)) (GBH : FnOk P w K mg base CX0 6 fBH fdBH ["one", "other"] (spBh K))
    (n_list : mg "list" = none) : FnOk P w K mg base CX0 7 f fd ["_law_feed_here", "_law_most_here"] (spBri K) := by
  refine F.ok sc_bri (fun vs H Q E h => ?_) (fun cdv A outer s H vs Q E hr h => ?_)
  · obtain ⟨_, _, _, _, rfl, _⟩ := h
    rfl
  · obtain ⟨d, c, t, most, rfl, f0, ht, hm, q⟩ := h
    refine ⟨_, (pss_cons (ps_par (i := 2) (j := 3) rfl sc_bri.nd rfl rfl (by decide) rfl rfl (pa_cons (pe_call GBD (hr.mono (by decide)) (by rfl) gBD FBD.kp bBD .nil pass0 (pa_cons (pv 0) pa_nil)) (pa_cons (pe_call GBD (hr.mono (by decide)) (by rfl) gBD FBD.kp bBD .nil pass0 (pa_cons (pv 0) pa_nil)) pa_nil)) (by rfl))
      (pss_cons (ps_par (i := 2) (j := 3) rfl sc_bri.nd rfl rfl (by decide) rfl rfl (pa_cons (pe_tup (pa_cons (pe_slice sl_tupA (pe_ix ix_tup (pv 2) pe_int (fun _ _ => rfl)) po_none (po_some pe_int)) (pa_cons (pe_ix ix_tup (pv 2) pe_int (fun _ _ => rfl)) pa_nil))) (pa_cons (pe_tup (pa_cons (pe_slice sl_tupA (pe_ix ix_tup (pv 3) pe_int (fun _ _ => rfl)) po_none (po_some pe_int)) (pa_cons (pe_ix ix_tup (pv 3) pe_int (fun _ _ => rfl)) pa_nil))) pa_nil)) (by rfl))
      (pss_cons (ps_set (i := 4) sc_bri.nd rfl (.inl rfl) (pe_call GKP (hr.mono (by decide)) (by rfl) gKP FKP.kp bKP .nil pass0 (pa_cons (pe_call GLE (hr.mono (by decide)) (by rfl) gLE FLE.kp bLE .nil pass0 (pa_cons (pv 2) (pa_cons (pv 3) pa_nil))) (pa_cons pe_int (pa_cons (pv 1) pa_nil)))))
      (pss_one (ps_ret (pe_cmpR (op_eqD hr.units) (pe_lc (own := [("_law_row", 5)]) (g := (gName 5)) (tt := tYes) (te := (tOp (rIxT K) (tVar 5) (tC (.int 0)))) rfl sc_bri.nd (pi_tup (pv 4)) (blkOk_by (own := [("_law_row", 5)]) (N := N_bri) (sc := (defScope s_bri)) (by decide +kernel)) (fun _ _ _ _ _ => (pg_name (i := 5) sc_bri.nd rfl (.inl rfl))) (fun _ _ _ _ _ => pts_nil) (fun _ _ _ _ _ => (pe_ix ix_tup (pv 5) pe_int (fun _ _ => rfl)))) (pe_callTy call_list_of (by rfl) n_list (by decide +kernel) (pa_cons (pe_call GPUE (hr.mono (by decide)) (by rfl) gPU FPU.kp bPU .nil pass0 (pa_cons (pe_call GBH hr (by rfl) gBH FBH.kp bBH .nil pass0 (pa_cons (pv 2) (pa_cons (pv 3) pa_nil))) (pa_cons (pv 1) pa_nil))) pa_nil)) (nomark _))))))), ?_⟩
    refine ⟨_, rfl, d, c, t, rfl, f0, by omega, fun p1 A0 t1 H1 k1 f1 ht1 bA0 lA0 hA0 => ?_⟩
    refine ⟨_, rfl, d, c, t1, rfl, f1, by omega, fun p2 B0 t2 H2 k2 f2 ht2 bB0 lB0 hB0 => ?_⟩
    refine ⟨_, _, rfl, ?_⟩
    obtain ⟨pr, pt, a1, a2, a3⟩ := hA0.tk (Tk.keep (K := K) f1 k2)
    obtain ⟨qr, qt, b1, b2, b3⟩ := hB0
    refine ⟨_, rfl, p1, _, _, _, rfl, rfl, a1, rfl, ?_⟩
    refine noPart_go ?_
    refine ⟨6, rfl, ?_⟩
    refine take_row (K := K) (n := 6) a2 fun ra H3 s3 hra => ?_
    refine ⟨_, rfl, p1, _, _, _, rfl, rfl, Tk.same s3 _ _ a1, rfl, ?_⟩
    refine ⟨by show 2 ≤ sizeLine; decide, fun l1 n1 => ?_⟩
    have e1 := same_new (o := HO.tup [.ref ra, .ref pt]) n1
    have hA : LifeAt K (upd H3 l1 (HO.tup [.ref ra, .ref pt])) l1 (A0.take 6) (0, 1) := ⟨ra, pt, SqT.of upd_same, hra.tk (Tk.same e1), a3.tk (Tk.same (s3.trans e1))⟩
    have S3 := s3.trans e1
    generalize upd H3 l1 (HO.tup [.ref ra, .ref pt]) = H4 at *
    refine ⟨_, rfl, p2, _, _, _, rfl, rfl, Tk.same S3 _ _ b1, rfl, ?_⟩
    refine noPart_go ?_
    refine ⟨6, rfl, ?_⟩
    refine take_row (K := K) (n := 6) (b2.tk (Tk.same S3)) fun rb H5 s5 hrb => ?_
    refine ⟨_, rfl, p2, _, _, _, rfl, rfl, Tk.same (S3.trans s5) _ _ b1, rfl, ?_⟩
    refine ⟨by show 2 ≤ sizeLine; decide, fun l2 n2 => ?_⟩
    have e2 := same_new (o := HO.tup [.ref rb, .ref qt]) n2
    have hB : LifeAt K (upd H5 l2 (HO.tup [.ref rb, .ref qt])) l2 (B0.take 6) (0, 1) := ⟨rb, qt, SqT.of upd_same, hrb.tk (Tk.same e2), b3.tk (Tk.same (S3.trans (s5.trans e2)))⟩
    have S5 := S3.trans (s5.trans e2)
    have hA' := hA.tk (Tk.same (K := K) (s5.trans e2))
    have bA := bA0.b6
    have bB := bB0.b6
    generalize upd H5 l2 (HO.tup [.ref rb, .ref qt]) = H6 at *
    generalize A0.take 6 = X at *
    generalize B0.take 6 = Y at *
    refine ⟨_, _, rfl, ?_⟩
    have lA := bA.len
    have lB := bB.len
    obtain ⟨LB, WB, hWB⟩ := bh_ok bA bB
    have hch := bh_ch (A := X) (B := Y) (by omega) (by omega)
    have hcv := crossQ_conv (A := chR X (0, 1)) (B := chR Y (0, 1)) (m := X.length) (n := Y.length) (fun k hk => chR_far0' hk) (fun k hk => chR_far0' hk)
    obtain ⟨PP, M⟩ := lent_ok bA bB
    refine ⟨_, rfl, _, rfl, l1, l2, X, Y, _, _, rfl, hA', hB, by omega, by omega, fun pk H7 s7 hpk => ?_⟩
    refine ⟨_, rfl, pk, _, 0, most, PP, rfl, hpk, M, by show 2 ≤ 32; decide, by omega, fun z H8 rs s8 hz hrs => ?_⟩
    have hrl := hrs.1
    have e9 : (prRows [folL X 1, folL Y 0] 0 most).length = most + 1 := by
      unfold prRows
      rw [List.length_map, List.length_range]
    refine ⟨_, rfl, z, rfl, ⟨_, hz⟩, ?_⟩
    refine lc_mkW (K := K) (walk_tup (K := K) (a := z) (xs := rs.map V.ref)) (fun i => prQ (movesFrom 0 [folL X 1, folL Y 0]) 0 none i 0) (by rw [List.length_map, hrl, e9]; omega) (fun HE sE => sqT_same sE hz) (fun i v HE HE' R hi sE hY qr => ?_) (fun l3 H9 s9 hl3 => ?_)
    · obtain ⟨rfl, hv⟩ := hY
      rw [List.length_map, hrl, e9] at hi
      obtain ⟨ri, hri⟩ : ∃ ri, rs[i]? = some ri := ⟨rs[i]'(by omega), List.getElem?_eq_getElem (by omega)⟩
      rw [List.getElem?_map, hri] at hv
      cases Option.some.inj hv
      obtain ⟨as, x1, x2⟩ := hrs.2 i ri (mkL 2 (prQ (movesFrom 0 [folL X 1, folL Y 0]) 0 none i)) hri (by
        unfold prRows
        rw [List.getElem?_map, List.getElem?_range hi]
        rfl)
      obtain ⟨a, ea, ha⟩ := x2.get (mkL_at (show 0 < 2 by decide))
      exact ⟨rfl, _, rfl, ri, _, _, _, rfl, rfl, sqT_same sE x1, at_of (j := 0) rfl (by rw [List.getElem?_map, ea]; rfl), qr a _ (Same.refl _) (ha.tk (Tk.same sE))⟩
    rw [List.length_map, hrl, e9] at hl3
    have ev1 : (fun i => prQ (movesFrom 0 [folL X 1, folL Y 0]) 0 none i 0) = putQ (trimZ (mkL 60 (bhQ X Y))) (0, 1) := funext fun n => by
      unfold putQ
      rw [hch]
      exact (lent0 hcv n).1
    rw [ev1] at hl3
    have S9 := s7.trans (s8.trans s9)
    refine ⟨_, rfl, _, rfl, l1, l2, X, Y, rfl, hA'.tk (Tk.same S9), hB.tk (Tk.same S9), bA.br, bB.br, by omega, by omega, fun bo H10 s10 hbo => ?_⟩
    refine ⟨_, rfl, bo, _, 60, most, WB, rfl, hbo, LB, hWB, by omega, fun z4 H11 s11 hz4 => ?_⟩
    obtain ⟨as4, a4, b4⟩ := hz4
    refine tnil_go ?_
    refine ⟨z4, _, rfl, .inr a4, fun l5 n5 => ?_⟩
    have g5 := same_new (o := HO.lst (as4.map V.ref)) n5
    have hl5 : LsM K (upd H11 l5 (HO.lst (as4.map V.ref))) l5 (mkL (most + 1) (putQ (trimZ (mkL 60 (bhQ X Y))) (0, 1))) := ⟨as4, upd_same, b4.tk (Tk.same g5)⟩
    refine eqL_go (hl3.same (s10.trans (s11.trans g5))) hl5 ?_
    have SS := S5.trans (S9.trans (s10.trans (s11.trans g5)))
    exact q _ t2 ((k1.trans k2).trans (Keep.of_same SS)) (f2.same SS) (by omega)
end

end Fp

set_option Elab.async false
set_option linter.all false
set_option maxRecDepth 100000
set_option maxHeartbeats 4000000
set_option exponentiation.threshold 10000
namespace Fp
open PySem PySem.Spec PyProof.Rows L2
/-! ### the law: puts of lives that are made -/
theorem poly2_0 (x y : Rat) : polyQ [x, y] 0 = (1 - x) * (1 - y) := by
  show (1 - y) * ((1 - x) * oneAt 0 + x * 0) + y * 0 = _
  rw [show oneAt 0 = 1 from rfl]
  grind
theorem poly2_2 (x y : Rat) : polyQ [x, y] 2 = x * y := by
  show (1 - y) * ((1 - x) * oneAt 2 + x * oneAt 1) + y * ((1 - x) * oneAt 1 + x * oneAt 0) = _
  rw [show oneAt 0 = 1 from rfl, show oneAt 1 = 0 from rfl, show oneAt 2 = 0 from rfl]
  grind
theorem shift_row (m n : Nat) (a : Nat → Rat) : List.replicate m ((0 : Int), (1 : Int)) ++ mkL n a = mkL (m + n) (shiftF m a) := by
  refine List.ext_getElem? fun i => ?_
  rcases (by omega : i < m ∨ (m ≤ i ∧ i < m + n) ∨ m + n ≤ i) with z | z | z
  · rw [List.getElem?_append_left (by rw [List.length_replicate]; exact z), List.getElem?_replicate, if_pos z, mkL_at (by omega)]
    unfold shiftF
    rw [if_pos z, rdq_zero.mpr rfl]
  · rw [List.getElem?_append_right (by rw [List.length_replicate]; exact z.1), List.length_replicate, mkL_at (show i - m < n by omega), mkL_at z.2]
    unfold shiftF
    rw [if_neg (by omega)]
  · rw [List.getElem?_eq_none (by rw [List.length_append, List.length_replicate, mkL_len]; exact z), List.getElem?_eq_none (by rw [mkL_len]; exact z)]
theorem later_ok {row : List RT} {step : RT} {W : Int} (L : LifeOk 20 row step) (hl : row.length ≤ 7) (hW : WOk W row) {m : Nat} (hm : m ≤ 3) : LifeOk 20 (shortL (List.replicate m (0, 1) ++ row) step).1 (shortL (List.replicate m (0, 1) ++ row) step).2 ∧ WOk W (shortL (List.replicate m (0, 1) ++ row) step).1 := by
  have hr : ∀ x ∈ List.replicate m ((0 : Int), (1 : Int)) ++ row, SmR 20 x ∧ x.2 ∣ W := fun x hx => by
    rcases List.mem_append.mp hx with z | z
    · rw [List.eq_of_mem_replicate z]
      exact ⟨nought_sm (by decide), Int.one_dvd _⟩
    · exact ⟨L.sm x z, hW.dvd x z⟩
  obtain ⟨h1, h2, h3⟩ := shortL_mem (row := List.replicate m ((0 : Int), (1 : Int)) ++ row) (step := step) (fun x hx => (hr x hx).1.1) L.st.1.1
  rw [List.length_append, List.length_replicate] at h2
  refine ⟨⟨fun y hy => (hr y (h1 y hy)).1, ?_, by omega, by decide, by decide⟩, ⟨hW.pos, hW.sm, fun y hy => (hr y (h1 y hy)).2⟩⟩
  rcases h3 with z | z
  · rw [z]
    exact L.st
  · rw [z]
    exact ⟨nought_sm (by decide), by show (0 : Int) ≤ 0; decide, by show (0 : Int) < 1; decide⟩
abbrev s_law : Stmt := topS 54
abbrev N_law : List Str := ["_law_script", "_law_feed_here", "_law_most_here", "_law_cut", "_law_by", "_law_bottom", "_law_kept_by", "_law_life_here", "_law_ended", "_law_own", "_law_slow", "_law_due", "_law_n", "_law_chances", "_law_both", "_law_first", "_law_second", "_law_none", "_law_k"]
theorem sc_law : FnScope N_law ["_law_script"] (defScope s_law) := ⟨rfl, rfl, rfl, by decide +kernel, rfl, by decide +kernel, by decide +kernel⟩
section
variable {P : Program} {w : World} {K : PySem.W.Frag} {mg : Str → Option Value} {base : Heap}
theorem ok_law {f fE fLM fD fL fAL fBD fPU fCU fFD fSP fBRI fCH fAN fLT8 fTO fLT fLL : Addr} {fd fdE fdLM fdD fdL fdAL fdBD fdPU fdCU fdFD fdSP fdBRI fdCH fdAN fdLT8 fdTO fdLT fdLL : FuncData} (F : Fun K "law" "law" s_law f fd)
    (FE : Fun K "_law_feed" "_law_feed" s_feed fE fdE) (bE : Binds K fdE ["_law_script"] []) (gE : mg "_law_feed" = some (.ref fE)) (GE : FnOk P w K mg base CX0 1 fE fdE ["_law_script"] (spFeed K))
    (FLM : Fun K "_law_most" "_law_most" s_lm fLM fdLM) (bLM : Binds K fdLM ["_law_feed_here"] []) (gLM : mg "_law_most" = some (.ref fLM)) (GLM : FnOk P w K mg base CX0 2 fLM fdLM ["_law_feed_here"] spLmost)
    (FD : Fun K "_law_draw" "_law_draw" s_draw fD fdD) (bD : Binds K fdD ["_law_feed_here", "_law_many"] []) (gD : mg "_law_draw" = some (.ref fD)) (GD : FnOk P w K mg base CX0 1 fD fdD ["_law_feed_here", "_law_many"] spDraw)
    (FL : Fun K "_law_low" "_law_low" s_low fL fdL) (bL : Binds K fdL ["_law_top", "_law_bottom"] []) (gL : mg "_law_low" = some (.ref fL)) (GL : FnOk P w K mg base CX0 1 fL fdL ["_law_top", "_law_bottom"] spLow)
    (FAL : Fun K "_law_any_life" "_law_any_life" s_any fAL fdAL) (bAL : Binds K fdAL ["_law_feed_here"] []) (gAL : mg "_law_any_life" = some (.ref fAL)) (GAL : FnOk P w K mg base CX0 3 fAL fdAL ["_law_feed_here"] (spAny K))
    (FBD : Fun K "_law_bounded" "_law_bounded" s_bounded fBD fdBD) (bBD : Binds K fdBD ["_law_feed_here"] []) (gBD : mg "_law_bounded" = some (.ref fBD)) (GBD : FnOk P w K mg base CX0 3 fBD fdBD ["_law_feed_here"] (spBounded K))
    (FPU : Fun K "puts" "puts" s_puts fPU fdPU) (bPU : Binds K fdPU ["life", "most"] []) (gPU : mg "puts" = some (.ref fPU)) (GPU : FnOk P w K mg base CX0 5 fPU fdPU ["life", "most"] (spPuts K)) (GPUE : FnOk P w K mg base CX0 5 fPU fdPU ["life", "most"] (spPutsE K))
    (FCU : Fun K "cut_at" "cut_at" s_cut fCU fdCU) (bCU : Binds K fdCU ["life", "most"] []) (gCU : mg "cut_at" = some (.ref fCU)) (GCU : FnOk P w K mg base CX0 6 fCU fdCU ["life", "most"] (spCut K))
    (FFD : Fun K "folded" "folded" s_folded fFD fdFD) (bFD : Binds K fdFD ["life", "many"] []) (gFD : mg "folded" = some (.ref fFD)) (GFD : FnOk P w K mg base CX0 6 fFD fdFD ["life", "many"] (spFolded K))
    (FSP : Fun K "_law_share_puts" "_law_share_puts" s_sp fSP fdSP) (bSP : Binds K fdSP ["_law_life_here", "_law_kept_by", "_law_most_here"] []) (gSP : mg "_law_share_puts" = some (.ref fSP)) (GSP : FnOk P w K mg base CX0 6 fSP fdSP ["_law_life_here", "_law_kept_by", "_law_most_here"] (spSp K))
    (FBRI : Fun K "_law_behind_right" "_law_behind_right" s_bri fBRI fdBRI) (bBRI : Binds K fdBRI ["_law_feed_here", "_law_most_here"] []) (gBRI : mg "_law_behind_right" = some (.ref fBRI)) (GBRI : FnOk P w K mg base CX0 7 fBRI fdBRI ["_law_feed_here", "_law_most_here"] (spBri K))
    (FCH : Fun K "_law_chance" "_law_chance" s_lchance fCH fdCH) (bCH : Binds K fdCH ["_law_life_here", "_law_k"] []) (gCH : mg "_law_chance" = some (.ref fCH)) (GCH : FnOk P w K mg base CX0 2 fCH fdCH ["_law_life_here", "_law_k"] (spLchance K))
    (FAN : Fun K "_law_anew" "_law_anew" s_anew fAN fdAN) (bAN : Binds K fdAN ["_law_chances", "_law_most_here"] []) (gAN : mg "_law_anew" = some (.ref fAN)) (GAN : FnOk P w K mg base CX0 4 fAN fdAN ["_law_chances", "_law_most_here"] (spAnew K))
    (FLT8 : Fun K "later" "later" s_later fLT8 fdLT8) (bLT8 : Binds K fdLT8 ["life", "by"] []) (gLT8 : mg "later" = some (.ref fLT8)) (GLT8 : FnOk P w K mg base CX0 6 fLT8 fdLT8 ["life", "by"] (spLater K))
    (FTO : Fun K "together" "together" s_tog fTO fdTO) (bTO : Binds K fdTO ["lives", "beat"] []) (gTO : mg "together" = some (.ref fTO)) (GTO : FnOk P w K mg base CX0 6 fTO fdTO ["lives", "beat"] (spTog K))
    (FLT : Fun K "_law_times" "_law_times" s_ltimes fLT fdLT) (bLT : Binds K fdLT ["_law_one", "_law_other"] []) (gLT : mg "_law_times" = some (.ref fLT)) (GLT : FnOk P w K mg base CX0 2 fLT fdLT ["_law_one", "_law_other"] (spTwo K (fun a b c d => a * c)))
    (FLL : Fun K "_law_less" "_law_less" s_lless fLL fdLL) (bLL : Binds K fdLL ["_law_one", "_law_other"] []) (gLL : mg "_law_less" = some (.ref fLL)) (GLL : FnOk P w K mg base CX0 2 fLL fdLL ["_law_one", "_law_other"] (spTwo K (fun a b c d => a * d - c * b)))
    (n_list : mg "list" = none) (n_min : mg "min" = none) (n_range : mg "range" = none) (n_repr : mg "repr" = none) : FnG P w K mg base CX0 8 f fd ["_law_script"] (spLaw K) := by
  refine okG F sc_law (fun vs H Q E h => ?_) (fun cdv A outer s H vs Q E hq hr h => ?_)
  · obtain ⟨_, _, rfl, _⟩ := h
    rfl
  · obtain ⟨a0, ns, rfl, hS, q⟩ := h
    refine ⟨_, (pss_cons (ps_set (i := 1) sc_law.nd rfl (.inl rfl) (pe_call GE (hr.mono (by decide)) (by rfl) gE FE.kp bE .nil pass0 (pa_cons (pv 0) pa_nil)))
      (pss_cons (ps_par3 (i := 2) (j := 3) (l := 4) rfl sc_law.nd rfl rfl rfl (by decide) (by decide) (by decide) rfl rfl rfl (pa_cons (pe_call GLM (hr.mono (by decide)) (by rfl) gLM FLM.kp bLM .nil pass0 (pa_cons (pv 1) pa_nil)) (pa_cons (pe_op op_add pe_int (pe_call GD (hr.mono (by decide)) (by rfl) gD FD.kp bD .nil pass0 (pa_cons (pv 1) (pa_cons pe_int pa_nil)))) (pa_cons (pe_op op_add pe_int (pe_call GD (hr.mono (by decide)) (by rfl) gD FD.kp bD .nil pass0 (pa_cons (pv 1) (pa_cons pe_int pa_nil)))) pa_nil))) (by rfl))
      (pss_cons (ps_set (i := 5) sc_law.nd rfl (.inl rfl) (pe_op op_add pe_int (pe_call GD (hr.mono (by decide)) (by rfl) gD FD.kp bD .nil pass0 (pa_cons (pv 1) (pa_cons pe_int pa_nil)))))
      (pss_cons (ps_set (i := 6) sc_law.nd rfl (.inl rfl) (pe_call GL (hr.mono (by decide)) (by rfl) gL FL.kp bL .nil pass0 (pa_cons (pe_call GD (hr.mono (by decide)) (by rfl) gD FD.kp bD .nil pass0 (pa_cons (pv 1) (pa_cons (pe_op op_add (pv 5) pe_int) pa_nil))) (pa_cons (pv 5) pa_nil))))
      (pss_cons (ps_asg (pe_tup (pa_cons (pe_call GAL (hr.mono (by decide)) (by rfl) gAL FAL.kp bAL .nil pass0 (pa_cons (pv 1) pa_nil)) (pa_cons (pe_call GBD (hr.mono (by decide)) (by rfl) gBD FBD.kp bBD .nil pass0 (pa_cons (pv 1) pa_nil)) pa_nil))) (pg_tup rfl (pgs_cons (pg_name (i := 7) sc_law.nd rfl (.inr rfl)) (pgs_cons (pg_name (i := 8) sc_law.nd rfl (.inl rfl)) pgs_nil))))
      (pss_cons (ps_set (i := 9) sc_law.nd rfl (.inl rfl) (pe_call GPU (hr.mono (by decide)) (by rfl) gPU FPU.kp bPU .nil pass0 (pa_cons (pv 7) (pa_cons (pv 2) pa_nil))))
      (pss_cons (ps_if (pt_cmpR op_ne (pe_callB (call_reprD hq hr) (by rfl) n_repr (by decide +kernel) (pa_cons (pe_call GPUE (hr.mono (by decide)) (by rfl) gPU FPU.kp bPU .nil pass0 (pa_cons (pe_call GCU (hr.mono (by decide)) (by rfl) gCU FCU.kp bCU .nil pass0 (pa_cons (pv 7) (pa_cons (pv 3) pa_nil))) (pa_cons (pe_callB (call_min2 rfl) (by rfl) n_min (by decide +kernel) (pa_cons (pv 2) (pa_cons (pe_op op_sub (pv 3) pe_int) pa_nil))) pa_nil))) pa_nil)) (pe_callB (call_reprD hq hr) (by rfl) n_repr (by decide +kernel) (pa_cons (pe_slice sl_tupA (pv 9) po_none (po_some (pv 3))) pa_nil)) (nomark _)) (pss_one (ps_ret pe_bl)) pss_nil)
      (pss_cons (ps_set (i := 10) sc_law.nd rfl (.inl rfl) (pe_call GPUE (hr.mono (by decide)) (by rfl) gPU FPU.kp bPU .nil pass0 (pa_cons (pe_call GFD (hr.mono (by decide)) (by rfl) gFD FFD.kp bFD .nil pass0 (pa_cons (pv 8) (pa_cons (pv 4) pa_nil))) (pa_cons (pe_op op_mulA pe_int (pv 4)) pa_nil))))
      (pss_cons (ps_set (i := 11) sc_law.nd rfl (.inl rfl) (pe_call GPU (hr.mono (by decide)) (by rfl) gPU FPU.kp bPU .nil pass0 (pa_cons (pv 8) (pa_cons pe_int pa_nil))))
      (pss_cons (ps_for PassesOwn.never rfl (pi_range1 (by rfl) n_range (pa_cons (pe_op op_add (pe_op op_mulA pe_int (pv 4)) pe_int) pa_nil)) (pg_name (i := 12) sc_law.nd rfl (.inl rfl)) (pss_one (ps_if (pt_cmpR (op_neD hr.units) (pe_ix ix_tup (pv 10) (pv 12) (fun _ _ => rfl)) (pe_ifExp (pt_cmpR op_eq (pe_op op_mod (pv 12) (pv 4)) pe_int (nomark _)) (pe_ix ix_tup (pv 11) (pe_op op_fdivA (pv 12) (pv 4)) (fun _ _ => rfl)) (pe_tup (pa_cons pe_int (pa_cons pe_int pa_nil)))) (nomark _)) (pss_one (ps_ret pe_bl)) pss_nil)))
      (pss_cons (ps_if (pt_not (pt_val (pe_call GSP (hr.mono (by decide)) (by rfl) gSP FSP.kp bSP .nil pass0 (pa_cons (pv 7) (pa_cons (pv 6) (pa_cons (pe_callB (call_min2 rfl) (by rfl) n_min (by decide +kernel) (pa_cons (pv 2) (pa_cons pe_int pa_nil))) pa_nil)))))) (pss_one (ps_ret pe_bl)) pss_nil)
      (pss_cons (ps_if (pt_not (pt_val (pe_call GBRI hr (by rfl) gBRI FBRI.kp bBRI .nil pass0 (pa_cons (pv 1) (pa_cons (pe_callB (call_min2 rfl) (by rfl) n_min (by decide +kernel) (pa_cons (pv 2) (pa_cons pe_int pa_nil))) pa_nil))))) (pss_one (ps_ret pe_bl)) pss_nil)
      (pss_cons (ps_set (i := 13) sc_law.nd rfl (.inl rfl) (pe_op op_cat (pe_op op_rep (pe_lst (pa_cons (pe_tup (pa_cons pe_int (pa_cons pe_int pa_nil))) pa_nil)) (pv 4)) (pe_lc (own := [("_law_k", 18)]) (g := (gName 18)) (tt := tYes) (te := (tCall (spLchance K) [] E0 (tCons (tVar 7) (tCons (tVar 18) tNil)))) rfl sc_law.nd (pi_range2 (by rfl) n_range (pa_cons pe_int (pa_cons (pe_op op_add (pv 2) pe_int) pa_nil))) (blkOk_by (own := [("_law_k", 18)]) (N := N_law) (sc := (defScope s_law)) (by decide +kernel)) (fun _ _ _ _ _ => (pg_name (i := 18) sc_law.nd rfl (.inl rfl))) (fun _ _ _ _ _ => pts_nil) (fun _ _ _ _ _ => (pe_call GCH (hr.mono (by decide)) (by rfl) gCH FCH.kp bCH .nil pass0 (pa_cons (pv 7) (pa_cons (pv 18) pa_nil)))))))
      (pss_cons (ps_if (pt_cmpR (op_neD hr.units) (pe_call GAN (hr.mono (by decide)) (by rfl) gAN FAN.kp bAN .nil pass0 (pa_cons (pv 13) (pa_cons (pe_callB (call_min2 rfl) (by rfl) n_min (by decide +kernel) (pa_cons (pv 2) (pa_cons pe_int pa_nil))) pa_nil))) (pe_callTy call_list_of (by rfl) n_list (by decide +kernel) (pa_cons (pe_call GPU (hr.mono (by decide)) (by rfl) gPU FPU.kp bPU .nil pass0 (pa_cons (pe_call GLT8 (hr.mono (by decide)) (by rfl) gLT8 FLT8.kp bLT8 .nil pass0 (pa_cons (pv 7) (pa_cons (pv 4) pa_nil))) (pa_cons (pe_callB (call_min2 rfl) (by rfl) n_min (by decide +kernel) (pa_cons (pv 2) (pa_cons pe_int pa_nil))) pa_nil))) pa_nil)) (nomark _)) (pss_one (ps_ret pe_bl)) pss_nil)
      (pss_cons (ps_set (i := 14) sc_law.nd rfl (.inl rfl) (pe_call GTO (hr.mono (by decide)) (by rfl) gTO FTO.kp bTO .nil pass0 (pa_cons (pe_tup (pa_cons (pv 7) (pa_cons (pv 8) pa_nil))) (pa_cons (pe_callB (call_min2 rfl) (by rfl) n_min (by decide +kernel) (pa_cons (pv 2) (pa_cons pe_int pa_nil))) pa_nil))))
      (pss_cons (ps_par (i := 15) (j := 16) rfl sc_law.nd rfl rfl (by decide) rfl rfl (pa_cons (pe_ix ix_tup (pe_call GPU (hr.mono (by decide)) (by rfl) gPU FPU.kp bPU .nil pass0 (pa_cons (pv 7) (pa_cons (pe_callB (call_min2 rfl) (by rfl) n_min (by decide +kernel) (pa_cons (pv 2) (pa_cons pe_int pa_nil))) pa_nil))) (pe_un un_neg pe_int) (fun _ _ => rfl)) (pa_cons (pe_ix ix_tup (pe_call GPU (hr.mono (by decide)) (by rfl) gPU FPU.kp bPU .nil pass0 (pa_cons (pv 8) (pa_cons (pe_callB (call_min2 rfl) (by rfl) n_min (by decide +kernel) (pa_cons (pv 2) (pa_cons pe_int pa_nil))) pa_nil))) (pe_un un_neg pe_int) (fun _ _ => rfl)) pa_nil)) (by rfl))
      (pss_cons (ps_set (i := 17) sc_law.nd rfl (.inl rfl) (pe_call GLT (hr.mono (by decide)) (by rfl) gLT FLT.kp bLT .nil pass0 (pa_cons (pe_call GLL (hr.mono (by decide)) (by rfl) gLL FLL.kp bLL .nil pass0 (pa_cons (pe_tup (pa_cons pe_int (pa_cons pe_int pa_nil))) (pa_cons (pv 15) pa_nil))) (pa_cons (pe_call GLL (hr.mono (by decide)) (by rfl) gLL FLL.kp bLL .nil pass0 (pa_cons (pe_tup (pa_cons pe_int (pa_cons pe_int pa_nil))) (pa_cons (pv 16) pa_nil))) pa_nil))))
      (pss_cons (ps_if (PW.pt (pw_or (pt_cmpR (op_neD hr.units) (pe_ix ix_tup (pv 14) pe_int (fun _ _ => rfl)) (pv 17) (nomark _)) (pw_or1 (pt_cmpR (op_neD hr.units) (pe_ix ix_tup (pv 14) pe_int (fun _ _ => rfl)) (pe_call GLT (hr.mono (by decide)) (by rfl) gLT FLT.kp bLT .nil pass0 (pa_cons (pv 15) (pa_cons (pv 16) pa_nil))) (nomark _))))) (pss_one (ps_ret pe_bl)) pss_nil)
      (pss_one (ps_ret pe_bl)))))))))))))))))))), ?_⟩
    refine ⟨_, rfl, a0, ns, rfl, hS, fun d c H1 s1 f1 => ?_⟩
    refine ⟨_, rfl, d, c, 0, rfl, f1, by decide, fun most H2 hm k2 f2 => ?_⟩
    refine ⟨_, rfl, d, c, 12, _, rfl, f2, by decide, by decide, by decide, fun rc H3 c0 c1 k3 f3 => ?_⟩
    refine ⟨1, rc, rfl, rfl, ?_⟩
    refine ⟨_, rfl, d, c, 3, _, rfl, f3, by decide, by decide, by decide, fun rb H4 b0 b1 k4 f4 => ?_⟩
    refine ⟨1, rb, rfl, rfl, ?_⟩
    refine ⟨_, _, _, rfl, ?_⟩
    obtain ⟨cm, rfl⟩ := Int.eq_ofNat_of_zero_le c0
    obtain ⟨bm, rfl⟩ := Int.eq_ofNat_of_zero_le b0
    have hbm : bm = 0 ∨ bm = 1 ∨ bm = 2 := by omega
    refine ⟨_, rfl, d, c, 5, _, rfl, f4, by decide, by decide, by decide, fun r1 H5 r10 r11 k5 f5 => ?_⟩
    refine ⟨1, r1, rfl, rfl, ?_⟩
    refine ⟨_, rfl, _, rfl, _, 1, rfl, rfl, d, c, 1 + r1 + 1, _, rfl, f5, by decide, by omega, by omega, fun r2 H6 r20 r21 k6 f6 => ?_⟩
    refine ⟨_, rfl, r2, 1 + r1, rfl, by omega, by unfold Sm; omega, fun kb nkb => ?_⟩
    have e7 := same_new (o := HO.tup [.int (ratT r2 (1 + r1)), .int (ratB r2 (1 + r1))]) nkb
    have B : Part (1 + r1) (qv (low2 r2 (1 + r1))) := Part.low r20 (by omega) (by omega) (by omega)
    have hkb : RAt K (upd H6 kb (.tup [.int (ratT r2 (1 + r1)), .int (ratB r2 (1 + r1))])) kb (rdq (qv (low2 r2 (1 + r1)))) := by
      rw [← red_rdq (low2_red (t := r2) (show 1 + r1 ≠ 0 by omega))]
      exact SqT.of upd_same
    have f7 := f6.same e7
    generalize qv (low2 r2 (1 + r1)) = s at *
    generalize upd H6 kb (.tup [.int (ratT r2 (1 + r1)), .int (ratB r2 (1 + r1))]) = H7 at *
    -- the lives
    refine ⟨_, rfl, d, c, _, rfl, f7, by decide, fun p row step t8 H8 k8 f8 ht8 any Lf => ?_⟩
    refine ⟨_, rfl, d, c, t8, rfl, f8, by omega, fun pe rowE t9 H9 k9 f9 ht9 bE lE LE => ?_⟩
    refine ⟨by show 2 ≤ sizeLine; decide, fun tt nt => ?_⟩
    have e9 := same_new (o := HO.tup [.ref p, .ref pe]) nt
    refine ⟨tt, _, rfl, SqT.of upd_same, rfl, _, _, rfl, _, _, rfl, rfl, ?_⟩
    have Lf9 := (Lf.tk (Tk.keep (K := K) f8 k9)).tk (Tk.same e9)
    have LE9 := LE.tk (Tk.same (K := K) e9)
    have hkb9 := ((hkb.tk (Tk.keep (K := K) f7 k8)).tk (Tk.keep (K := K) f8 k9)).tk (Tk.same e9)
    have f10 := f9.same e9
    generalize upd H9 tt (HO.tup [.ref p, .ref pe]) = H10 at *
    obtain ⟨lok, hl7, hnil⟩ := any.ok
    obtain ⟨W, hW⟩ := any.w
    obtain ⟨D, C1⟩ := any.ch01
    have lfE : LF0 rowE (0, 1) := bE.lf0 (by omega)
    obtain ⟨WE, hWE⟩ := lfE.w
    obtain ⟨DE, CE⟩ := lfE.ch
    have psm : ∀ i, i ≤ 20 → SmR 1900 (rdq (putQ row step i)) := fun i hi => (C1.putSz (e := 20) hi hi).smr (C1.powSm 20).1 (C1.powSm 20).2 (by omega)
    have psmE : ∀ i, i ≤ 20 → SmR 1900 (rdq (putQ rowE (0, 1) i)) := fun i hi => (CE.putSz (e := 20) hi hi).smr (CE.powSm 20).1 (CE.powSm 20).2 (by omega)
    have shP : ∀ m, m ≤ 20 → Shows (.tuple (rowD (mkL (m + 1) (putQ row step)))) := fun m hm2 => mkL_rowD_sh (by omega) fun i hi => psm i (by omega)
    refine ⟨_, rfl, _, rfl, p, row, step, 20, most, W, rfl, Lf9, lok, hW, hm, fun ow H11 s11 how => ?_⟩
    have how0 : RowAt K H11 ow (mkL (most + 1) (putQ row step)) := how
    -- cut
    refine ⟨_, rfl, _, rfl, p, row, step, 20, cm, (by show [V.ref p, V.int (1 + (cm : Int))] = _; rw [Int.add_comm]), Lf9.tk (Tk.same s11), lok, by omega, fun pc H12 s12 hpc => ?_⟩
    rw [short_row] at hpc
    refine ⟨_, rfl, _, rfl, _, 1, rfl, rfl, _, _, rfl, ?_⟩
    have emin : (if (1 : Int) + (cm : Int) - 1 < (most : Int) then (1 : Int) + (cm : Int) - 1 else (most : Int)) = ((min most cm : Nat) : Int) := by
      split <;> omega
    obtain ⟨k1, k2'⟩ := cut_ok C1 (show cm ≤ 20 by omega)
    refine ⟨pc, trimZ (cutR row step cm), 80, min most cm, D, (by show [V.ref pc, V.int (if (1 : Int) + (cm : Int) - 1 < (most : Int) then (1 : Int) + (cm : Int) - 1 else (most : Int))] = _; rw [emin]), hpc, k1, k2', by omega, fun z H13 s13 hz => ?_⟩
    have ez : ((List.range (min most cm + 1)).map fun i => rdq (putQ (trimZ (cutR row step cm)) (0, 1) i)) = mkL (min most cm + 1) (putQ row step) := List.map_congr_left fun i hi => by
      have := List.mem_range.mp hi
      rw [cutShort row step (show i ≤ cm by omega)]
    rw [ez] at hz
    refine ⟨z, _, rfl, hz.dp, shP (min most cm) (by omega), ?_⟩
    refine ⟨_, rfl, ?_⟩
    refine noPart_go ?_
    refine ⟨_, rfl, _, rfl, ?_⟩
    show rSlA K (.ref ow) none (some (1 + (cm : Int))) _ _
    rw [show 1 + (cm : Int) = ((cm + 1 : Nat) : Int) by omega]
    refine take_row (K := K) (n := cm + 1) (how0.tk (Tk.same (s12.trans s13))) fun y H14 s14 hy => ?_
    have et : (mkL (most + 1) (putQ row step)).take (cm + 1) = mkL (min most cm + 1) (putQ row step) := by
      unfold mkL
      rw [← List.map_take, List.take_range, show min (cm + 1) (most + 1) = min most cm + 1 by omega]
    rw [et] at hy
    refine ⟨y, _, rfl, hy.dp, shP (min most cm) (by omega), rfl, _, rfl, ?_⟩
    rw [decide_eq_true rfl]
    refine iteF ?_
    have S14 := s11.trans (s12.trans (s13.trans s14))
    -- folded
    refine ⟨_, rfl, _, rfl, pe, rowE, (0, 1), bm, (by show [V.ref pe, V.int (1 + (bm : Int))] = _; rw [Int.add_comm]), LE9.tk (Tk.same S14), fun x hx => (bE.sm x hx).mono (by decide), by omega, by omega, fun pf H15 s15 hpf => ?_⟩
    rw [short_row] at hpf
    obtain ⟨W2, w1, w2⟩ := wide_ok bE bm
    have cmul : CMulA 3 (1 + (bm : Int)) := CMulA.of (n := 2) (m := 3) (by unfold Sm; decide) (by unfold Sm; omega) (by decide) (by decide) (by decide)
    refine ⟨_, rfl, 3, _, rfl, rfl, cmul, ?_⟩
    refine ⟨pf, trimZ (wideR bm rowE), 10, 3 * (bm + 1), W2, (by show [V.ref pf, V.int (3 * (1 + (bm : Int)))] = _; rw [show 3 * (1 + (bm : Int)) = ((3 * (bm + 1) : Nat) : Int) by omega]), hpf, w1, w2, by omega, fun sl H16 s16 hsl => ?_⟩
    have hsl0 : RowAt K H16 sl (mkL (3 * (bm + 1) + 1) (putQ (trimZ (wideR bm rowE)) (0, 1))) := hsl
    have S16 := S14.trans (s15.trans s16)
    refine ⟨_, rfl, pe, rowE, (0, 1), 20, 3, WE, rfl, LE9.tk (Tk.same S16), lfE.ok, hWE, by decide, fun du H17 s17 hdu => ?_⟩
    have hdu0 : RowAt K H17 du (mkL (3 + 1) (putQ rowE (0, 1))) := hdu
    have S17 := S16.trans s17
    have hsl17 := hsl0.tk (Tk.same s17)
    refine ⟨_, rfl, 3, _, rfl, rfl, cmul, _, 1, rfl, rfl, _, rfl, by show -(2 ^ 62) ≤ 3 * (1 + (bm : Int)) + 1; omega, by show 3 * (1 + (bm : Int)) + 1 < 2 ^ 62; omega, ?_⟩
    refine for_range (lo := 0) (n := (3 * (1 + (bm : Int)) + 1).toNat) (fun n σ HF => ∃ z12 : Option V, σ = [some (.ref a0), some (.ref d), some (.int (most : Int)), some (.int (1 + (cm : Int))), some (.int (1 + (bm : Int))), some (.int (1 + r1)), some (.ref kb), some (.ref p), some (.ref pe), some (.ref ow), some (.ref sl), some (.ref du), z12, none, none, none, none, none, none] ∧ Same H17 HF) ⟨none, rfl, Same.refl _⟩ ?_ ?_
    · rintro n σ HF hn ⟨z12, rfl, sF⟩
      have hn2 : n < 3 * (bm + 1) + 1 := by omega
      have ew := wideShort bm hbm rowE n
      refine ⟨_, rfl, _, rfl, ?_⟩
      refine ix_row (j := n) (hsl17.tk (Tk.same sF)) (by show (0 : Int) + (n : Int) = _; omega) (mkL_at hn2) fun x1 hx1 => ?_
      rw [ew] at hx1
      refine ⟨_, rfl, _, rfl, _, _, rfl, rfl, by show (0 : Int) < 1 + (bm : Int); omega, rfl, _, rfl, ite2 (fun c3 => ?_) (fun c3 => ?_)⟩
      · have hmod : n % (bm + 1) = 0 := by
          have := V.int.inj (of_decide_eq_true c3)
          have e2 : ((0 : Int) + (n : Int)) % (1 + (bm : Int)) = ((n % (bm + 1) : Nat) : Int) := by
            rw [Int.natCast_emod]
            congr 1 <;> omega
          rw [e2] at this
          omega
        rw [if_pos hmod] at hx1
        refine ⟨_, rfl, _, rfl, _, rfl, _, _, rfl, rfl, ⟨by omega, Nat.lt_of_le_of_lt (Nat.log2_le_self _) (by omega)⟩, ?_⟩
        refine ix_row (j := n / (bm + 1)) (hdu0.tk (Tk.same sF)) ?_ (mkL_at (show n / (bm + 1) < 3 + 1 from Nat.div_lt_of_lt_mul (by omega))) fun x2 hx2 => ?_
        · show ((0 : Int) + (n : Int)).fdiv (1 + (bm : Int)) = _
          rw [Int.fdiv_eq_ediv_of_nonneg _ (by omega), Int.natCast_ediv]
          congr 1 <;> omega
        refine ne_same hx1 hx2 ?_
        exact ⟨_, rfl, iteF ⟨_, rfl, sF⟩⟩
      · have hmod : ¬ n % (bm + 1) = 0 := fun z => by
          apply c3
          refine decide_eq_true ?_
          have e2 : ((0 : Int) + (n : Int)) % (1 + (bm : Int)) = ((n % (bm + 1) : Nat) : Int) := by
            rw [Int.natCast_emod]
            congr 1 <;> omega
          show V.int (((0 : Int) + (n : Int)) % (1 + (bm : Int))) = V.int 0
          rw [e2, z]
          rfl
        rw [if_neg hmod, rdq_zero.mpr rfl] at hx1
        refine ⟨by show 2 ≤ sizeLine; decide, fun b4 m4 => ?_⟩
        have g4 := same_new (o := HO.tup [.int 0, .int 1]) m4
        refine ne_same (hx1.tk (Tk.same g4)) (SqT.of upd_same) ?_
        exact ⟨_, rfl, iteF ⟨_, rfl, sF.trans g4⟩⟩
    rintro σ HF ⟨z12, rfl, sF⟩
    have S18 := S17.trans sF
    have em9 : (if (9 : Int) < (most : Int) then (9 : Int) else (most : Int)) = ((min most 9 : Nat) : Int) := by
      split <;> omega
    -- with a share
    refine ⟨_, rfl, _, rfl, _, rfl, _, _, rfl, ?_⟩
    refine ⟨p, kb, row, step, 20, min most 9, W, D, 1 + r1, s, (by show [V.ref p, V.ref kb, V.int (if (9 : Int) < (most : Int) then (9 : Int) else (most : Int))] = _; rw [em9]), Lf9.tk (Tk.same S18), lok, hW, C1, hkb9.tk (Tk.same S18), B, by omega, fun H19 s19 => ?_⟩
    refine ⟨_, rfl, ?_⟩
    refine iteF ?_
    have S19 := S18.trans s19
    -- behind one another
    refine ⟨_, rfl, _, rfl, _, _, rfl, ?_⟩
    refine ⟨d, c, t9, min most 9, (by show [V.ref d, V.int (if (9 : Int) < (most : Int) then (9 : Int) else (most : Int))] = _; rw [em9]), f10.same S19, by omega, by omega, fun H20 t20 k20 f20 ht20 => ?_⟩
    refine ⟨_, rfl, ?_⟩
    refine iteF ?_
    have tk20 : Tk K H10 H20 := (Tk.same S19).trans (Tk.keep (f10.same S19) k20)
    have Lf20 := Lf9.tk tk20
    have LE20 := LE9.tk tk20
    -- later
    refine ⟨by show 2 ≤ sizeLine; decide, fun b1' m1 => ?_⟩
    have e1 := same_new (o := HO.tup [.int 0, .int 1]) m1
    refine ⟨by show 1 ≤ sizeLine; decide, fun b2 m2 => ?_⟩
    have e2 := same_new (o := HO.lst [.ref b1']) m2
    refine ⟨_, rfl, ?_⟩
    show rRep (.ref b2) (.int (1 + (bm : Int))) _ _
    rw [show 1 + (bm : Int) = ((bm + 1 : Nat) : Int) by omega]
    refine rep_ls (K := K) (x := (0, 1)) upd_same (SqT.of (e2 _ _ upd_same)) (by omega) fun b3 H21 s21 hb3 => ?_
    have S21 := e1.trans (e2.trans s21)
    refine ⟨_, rfl, _, 1, rfl, rfl, 1, _, rfl, ⟨by decide, by decide, by show -(2 ^ 62) ≤ (most : Int) + 1; omega, by show (most : Int) + 1 < 2 ^ 62; omega⟩, ?_⟩
    have en : (((most : Int) + 1) - 1).toNat = most := by omega
    refine lc_mk (K := K) (n := (((most : Int) + 1) - 1).toNat) (chR row step) (by omega) (fun k HE R hk sE qr => ?_) (fun b4 H22 s22 hb4 => ?_)
    · refine ⟨rfl, _, rfl, _, rfl, p, row, step, 20, k + 1, ?_, Lf20.tk (Tk.same (S21.trans sE)), lok, hnil, by omega, by omega, fun z x H3 s3 hz sx vx => ?_⟩
      · show [V.ref p, V.int (1 + (k : Int))] = [V.ref p, V.int ((k + 1 : Nat) : Int)]
        rw [show (1 : Int) + (k : Int) = ((k + 1 : Nat) : Int) by omega]
      refine qr z H3 s3 ?_
      rw [← is_rdq sx.1 (show qv x = chR row step k from vx)]
      exact hz
    rw [en] at hb4
    refine cat_ls (K := K) (hb3.same s22) hb4 (by rw [List.length_replicate, mkL_len]; omega) fun cs H23 s23 hcs => ?_
    rw [shift_row] at hcs
    have S23 := S21.trans (s22.trans s23)
    have C2 := C1.shift (bm + 1)
    refine ⟨_, rfl, _, rfl, _, _, rfl, ?_⟩
    refine ⟨cs, bm + 1 + most, min most 9, shiftF (bm + 1) (chR row step), D, D ^ 9, 60, 0, 60 * 9 + 1, 9, (by show [V.ref cs, V.int (if (9 : Int) < (most : Int) then (9 : Int) else (most : Int))] = _; rw [em9]), hcs, by omega, by omega, ⟨C2.pos, C2.sm, fun j hj => C2.chSz (show j < 20 by omega)⟩, ⟨(C2.powSm 9).1, (C2.powSm 9).2, fun j hj => (C2.putSz (e := 9) (show j ≤ 20 by omega) (by omega)).mono (by omega)⟩, by decide, by decide, by decide, fun an H24 s24 han => ?_⟩
    have S24 := S23.trans s24
    refine ⟨_, rfl, _, rfl, p, row, step, bm + 1, rfl, Lf20.tk (Tk.same S24), fun x hx => (lok.sm x hx).mono (by decide), ⟨lok.st.1.mono (by decide), lok.st.2⟩, by omega, by omega, fun pl H25 s25 hpl => ?_⟩
    obtain ⟨LO, WO⟩ := later_ok lok hl7 hW (show bm + 1 ≤ 3 by omega)
    refine ⟨_, rfl, _, _, rfl, ?_⟩
    refine ⟨pl, _, _, 20, min most 9, W, (by show [V.ref pl, V.int (if (9 : Int) < (most : Int) then (9 : Int) else (most : Int))] = _; rw [em9]), hpl, LO, WO, by omega, fun pz H26 s26 hpz => ?_⟩
    have epz : ((List.range (min most 9 + 1)).map fun i => rdq (putQ (shortL (List.replicate (bm + 1) (0, 1) ++ row) step).1 (shortL (List.replicate (bm + 1) (0, 1) ++ row) step).2 i)) = mkL (min most 9 + 1) (renQ (shiftF (bm + 1) (chR row step)) oneAt) := List.map_congr_left fun i _ => by rw [laterShort (fun x hx => (lok.sm x hx).1) lok.st.1.1]
    rw [epz] at hpz
    obtain ⟨as, as1, as2⟩ := hpz
    refine tnil_go ?_
    refine ⟨pz, _, rfl, .inr as1, fun l5 n5 => ?_⟩
    have g5 := same_new (o := HO.lst (as.map V.ref)) n5
    have hl5 : LsM K (upd H26 l5 (HO.lst (as.map V.ref))) l5 (mkL (min most 9 + 1) (renQ (shiftF (bm + 1) (chR row step)) oneAt)) := ⟨as, upd_same, as2.tk (Tk.same g5)⟩
    refine neL_go (han.same (s25.trans (s26.trans g5))) hl5 ?_
    refine ⟨_, rfl, ?_⟩
    refine iteF ?_
    have S26 := S24.trans (s25.trans (s26.trans g5))
    generalize upd H26 l5 (HO.lst (as.map V.ref)) = H27 at *
    -- together
    have so1 : SideOk (row, step) := ⟨any.lf.lf0, any.step4⟩
    have so2 : SideOk (rowE, ((0 : Int), (1 : Int))) := ⟨lfE, by show (0 : Int) < 1; decide, by show (1 : Int) ≤ 4; decide⟩
    have Lf27 := Lf20.tk (Tk.same S26)
    have LE27 := LE20.tk (Tk.same S26)
    refine ⟨_, rfl, _, rfl, by show 2 ≤ sizeLine; decide, fun tb ntb => ?_⟩
    have e8 := same_new (o := HO.tup [.ref p, .ref pe]) ntb
    refine ⟨_, rfl, _, _, rfl, ?_⟩
    refine ⟨tb, [p, pe], [(row, step), (rowE, (0, 1))], min most 9, (by show [V.ref tb, V.int (if (9 : Int) < (most : Int) then (9 : Int) else (most : Int))] = _; rw [em9]), SqT.of upd_same, (Obs.one (At := LvA K) (y := (row, step)) (Lf27.tk (Tk.same e8))).append (Obs.one (At := LvA K) (y := (rowE, (0, 1))) (LE27.tk (Tk.same e8))), fun y hy => ?_, by show 2 ≤ 4; decide, by omega, fun bo H28 s28 hbo => ?_⟩
    · rcases List.mem_cons.mp hy with z | z
      · rw [z]
        exact so1
      · rw [List.mem_singleton.mp z]
        exact so2
    have hbo0 : RowAt K H28 bo (mkL 3 (polyQ [putQ row step (min most 9), putQ rowE (0, 1) (min most 9)])) := hbo
    have S28 := e8.trans s28
    refine ⟨_, rfl, _, rfl, _, _, rfl, ?_⟩
    refine ⟨p, row, step, 20, min most 9, W, (by show [V.ref p, V.int (if (9 : Int) < (most : Int) then (9 : Int) else (most : Int))] = _; rw [em9]), Lf27.tk (Tk.same S28), lok, hW, by omega, fun u1 H29 s29 hu1 => ?_⟩
    refine ⟨1, rfl, ?_⟩
    refine ix_back (K := K) (k := 1) (j := min most 9) (x := rdq (putQ row step (min most 9))) hu1 (by decide) (by rw [List.length_map, List.length_range]) (by rw [List.getElem?_map, List.getElem?_range (by omega)]; rfl) fun x1 hx1 => ?_
    refine ⟨_, rfl, _, rfl, _, _, rfl, ?_⟩
    refine ⟨pe, rowE, (0, 1), 20, min most 9, WE, (by show [V.ref pe, V.int (if (9 : Int) < (most : Int) then (9 : Int) else (most : Int))] = _; rw [em9]), LE27.tk (Tk.same (S28.trans s29)), lfE.ok, hWE, by omega, fun u2 H30 s30 hu2 => ?_⟩
    refine ⟨1, rfl, ?_⟩
    refine ix_back (K := K) (k := 1) (j := min most 9) (x := rdq (putQ rowE (0, 1) (min most 9))) hu2 (by decide) (by rw [List.length_map, List.length_range]) (by rw [List.getElem?_map, List.getElem?_range (by omega)]; rfl) fun x2 hx2 => ?_
    refine ⟨_, _, rfl, ?_⟩
    have hx1' := hx1.tk (Tk.same s30)
    have hbo1 := hbo0.tk (Tk.same (s29.trans s30))
    have one : rdq 1 = (1, 1) := (is_rdq one_red qv_one).symm
    have smF := (psm (min most 9) (by omega)).mono (show 1900 ≤ 3000 by decide)
    have smS := (psmE (min most 9) (by omega)).mono (show 1900 ≤ 3000 by decide)
    have smF1 : SmR 3000 (rdq (1 - putQ row step (min most 9))) := by
      have hP := (C1.powSm 20).1
      have := Sz.add hP (Sz.one (k := 20) hP) ((C1.putSz (e := 20) (show min most 9 ≤ 20 by omega) (show min most 9 ≤ 20 by omega)).mono (show min most 9 ≤ 20 by omega)).neg
      rw [show (1 : Rat) - putQ row step (min most 9) = 1 + -renQ (chR row step) oneAt (min most 9) by unfold putQ; grind]
      exact this.smr hP (C1.powSm 20).2 (by decide)
    have smS1 : SmR 3000 (rdq (1 - putQ rowE (0, 1) (min most 9))) := by
      have hP := (CE.powSm 20).1
      have := Sz.add hP (Sz.one (k := 20) hP) ((CE.putSz (e := 20) (show min most 9 ≤ 20 by omega) (show min most 9 ≤ 20 by omega)).mono (show min most 9 ≤ 20 by omega)).neg
      rw [show (1 : Rat) - putQ rowE (0, 1) (min most 9) = 1 + -renQ (chR rowE (0, 1)) oneAt (min most 9) by unfold putQ; grind]
      exact this.smr hP (CE.powSm 20).2 (by decide)
    generalize putQ row step (min most 9) = vF at *
    generalize putQ rowE (0, 1) (min most 9) = vS at *
    have sm1 : SmR 3000 (rdq 1) := by
      rw [one]
      exact ⟨one_red, by unfold Sm; decide, by unfold Sm; decide⟩
    refine ⟨by show 2 ≤ sizeLine; decide, fun o1 q1 => ?_⟩
    have g1 := same_new (o := HO.tup [.int 1, .int 1]) q1
    refine ⟨_, rfl, ?_⟩
    refine tnil_go ?_
    refine minus_go (x := 1) (y := vF) (by rw [one]; exact SqT.of upd_same) (hx1'.tk (Tk.same g1)) sm1 smF fun d1 H31 s31 hd1 => ?_
    refine ⟨by show 2 ≤ sizeLine; decide, fun o2 q2 => ?_⟩
    have g2 := same_new (o := HO.tup [.int 1, .int 1]) q2
    refine ⟨_, rfl, ?_⟩
    refine tnil_go ?_
    refine minus_go (x := 1) (y := vS) (by rw [one]; exact SqT.of upd_same) (hx2.tk (Tk.same (g1.trans (s31.trans g2)))) sm1 smS fun d2 H32 s32 hd2 => ?_
    refine tnil_go ?_
    refine times_go (hd1.tk (Tk.same (g2.trans s32))) hd2 smF1 smS1 fun no H33 s33 hno => ?_
    have S33 := g1.trans (s31.trans (g2.trans (s32.trans s33)))
    refine ⟨_, rfl, ?_⟩
    refine tC_go ?_
    refine ix_row (j := 0) (hbo1.tk (Tk.same S33)) rfl (mkL_at (show 0 < 3 by decide)) fun y1 hy1 => ?_
    rw [poly2_0] at hy1
    refine ⟨_, rfl, ?_⟩
    refine ne_same hy1 hno ?_
    refine ⟨_, rfl, ?_⟩
    refine iteF ?_
    refine ⟨_, rfl, ?_⟩
    refine tC_go ?_
    refine ix_row (j := 2) (hbo1.tk (Tk.same S33)) rfl (mkL_at (show 2 < 3 by decide)) fun y2 hy2 => ?_
    rw [poly2_2] at hy2
    refine ⟨_, rfl, _, rfl, ?_⟩
    refine tnil_go ?_
    refine times_go (hx1'.tk (Tk.same S33)) (hx2.tk (Tk.same S33)) smF smS fun al H34 s34 hal => ?_
    refine ne_same (hy2.tk (Tk.same s34)) hal ?_
    refine ⟨_, rfl, ?_⟩
    refine iteF ?_
    exact q _
end

end Fp

set_option Elab.async false
set_option linter.all false
set_option maxRecDepth 100000
set_option maxHeartbeats 4000000
set_option exponentiation.threshold 10000
namespace Fp
open PySem PySem.Spec PyProof.Rows L2
theorem all_mk {l : PySem.W.OpenLaw} {w : World} {K : PySem.W.Frag} {h : Heap} {mg : Str → Option Value} {fa fC fR fM fT fO fOB fAD fCR fRN fBR fCT fLA fSHO fWN fPU fTO fLE fFO fKP fPR fBH fCU fFD fLT8 fTH fE fD fL fSU fLT fLL fLF fAL fCH fBD fLM fAN fSP fBRI fZ a_NOUGHT a_ONE : Addr} (X : K.In h) (G : h.Ns mainGlobals mg) (hfa : mg "law" = some (.ref fa))
    {odC anC : Option Addr} {slC : Array (Option Value)} {ocC kVC dcC pmC cdC ctC : Value}
    {odR anR : Option Addr} {slR : Array (Option Value)} {ocR kVR dcR pmR cdR ctR : Value}
    {odM anM : Option Addr} {slM : Array (Option Value)} {ocM kVM dcM pmM cdM ctM : Value}
    {odT anT : Option Addr} {slT : Array (Option Value)} {ocT kVT dcT pmT cdT ctT : Value}
    {odO anO : Option Addr} {slO : Array (Option Value)} {ocO kVO dcO pmO cdO ctO : Value}
    {odOB anOB : Option Addr} {slOB : Array (Option Value)} {ocOB kVOB dcOB pmOB cdOB ctOB : Value}
    {odAD anAD : Option Addr} {slAD : Array (Option Value)} {ocAD kVAD dcAD pmAD cdAD ctAD : Value}
    {odCR anCR : Option Addr} {slCR : Array (Option Value)} {ocCR kVCR dcCR pmCR cdCR ctCR : Value}
    {odRN anRN : Option Addr} {slRN : Array (Option Value)} {ocRN kVRN dcRN pmRN cdRN ctRN : Value}
    {odBR anBR : Option Addr} {slBR : Array (Option Value)} {ocBR kVBR dcBR pmBR cdBR ctBR : Value}
    {odCT anCT : Option Addr} {slCT : Array (Option Value)} {ocCT kVCT dcCT pmCT cdCT ctCT : Value}
    {odLA anLA : Option Addr} {slLA : Array (Option Value)} {ocLA kVLA dcLA pmLA cdLA ctLA : Value}
    {odSHO anSHO : Option Addr} {slSHO : Array (Option Value)} {ocSHO kVSHO dcSHO pmSHO cdSHO ctSHO : Value}
    {odWN anWN : Option Addr} {slWN : Array (Option Value)} {ocWN kVWN dcWN pmWN cdWN ctWN : Value}
    {odPU anPU : Option Addr} {slPU : Array (Option Value)} {ocPU kVPU dcPU pmPU cdPU ctPU : Value}
    {odTO anTO : Option Addr} {slTO : Array (Option Value)} {ocTO kVTO dcTO pmTO cdTO ctTO : Value}
    {odLE anLE : Option Addr} {slLE : Array (Option Value)} {ocLE kVLE dcLE pmLE cdLE ctLE : Value}
    {odFO anFO : Option Addr} {slFO : Array (Option Value)} {ocFO kVFO dcFO pmFO cdFO ctFO : Value}
    {odKP anKP : Option Addr} {slKP : Array (Option Value)} {ocKP kVKP dcKP pmKP cdKP ctKP : Value}
    {odPR anPR : Option Addr} {slPR : Array (Option Value)} {ocPR kVPR dcPR pmPR cdPR ctPR : Value}
    {odBH anBH : Option Addr} {slBH : Array (Option Value)} {ocBH kVBH dcBH pmBH cdBH ctBH : Value}
    {odCU anCU : Option Addr} {slCU : Array (Option Value)} {ocCU kVCU dcCU pmCU cdCU ctCU : Value}
    {odFD anFD : Option Addr} {slFD : Array (Option Value)} {ocFD kVFD dcFD pmFD cdFD ctFD : Value}
    {odLT8 anLT8 : Option Addr} {slLT8 : Array (Option Value)} {ocLT8 kVLT8 dcLT8 pmLT8 cdLT8 ctLT8 : Value}
    {odTH anTH : Option Addr} {slTH : Array (Option Value)} {ocTH kVTH dcTH pmTH cdTH ctTH : Value}
    {odE anE : Option Addr} {slE : Array (Option Value)} {ocE kVE dcE pmE cdE ctE : Value}
    {odD anD : Option Addr} {slD : Array (Option Value)} {ocD kVD dcD pmD cdD ctD : Value}
    {odL anL : Option Addr} {slL : Array (Option Value)} {ocL kVL dcL pmL cdL ctL : Value}
    {odSU anSU : Option Addr} {slSU : Array (Option Value)} {ocSU kVSU dcSU pmSU cdSU ctSU : Value}
    {odLT anLT : Option Addr} {slLT : Array (Option Value)} {ocLT kVLT dcLT pmLT cdLT ctLT : Value}
    {odLL anLL : Option Addr} {slLL : Array (Option Value)} {ocLL kVLL dcLL pmLL cdLL ctLL : Value}
    {odLF anLF : Option Addr} {slLF : Array (Option Value)} {ocLF kVLF dcLF pmLF cdLF ctLF : Value}
    {odAL anAL : Option Addr} {slAL : Array (Option Value)} {ocAL kVAL dcAL pmAL cdAL ctAL : Value}
    {odCH anCH : Option Addr} {slCH : Array (Option Value)} {ocCH kVCH dcCH pmCH cdCH ctCH : Value}
    {odBD anBD : Option Addr} {slBD : Array (Option Value)} {ocBD kVBD dcBD pmBD cdBD ctBD : Value}
    {odLM anLM : Option Addr} {slLM : Array (Option Value)} {ocLM kVLM dcLM pmLM cdLM ctLM : Value}
    {odAN anAN : Option Addr} {slAN : Array (Option Value)} {ocAN kVAN dcAN pmAN cdAN ctAN : Value}
    {odSP anSP : Option Addr} {slSP : Array (Option Value)} {ocSP kVSP dcSP pmSP cdSP ctSP : Value}
    {odBRI anBRI : Option Addr} {slBRI : Array (Option Value)} {ocBRI kVBRI dcBRI pmBRI cdBRI ctBRI : Value}
    {odZ anZ : Option Addr} {slZ : Array (Option Value)} {ocZ kVZ dcZ pmZ cdZ ctZ : Value}
    {od_NOUGHT : Option Addr} {n_NOUGHTx : Nat} {sl_NOUGHT : Array (Option Value)} {t0_NOUGHT t1_NOUGHT : Tok}
    {od_ONE : Option Addr} {n_ONEx : Nat} {sl_ONE : Array (Option Value)} {t0_ONE t1_ONE : Tok}
    (aC : PySem.W.nsIn K mainGlobals "common_divisor" = some (some (.ref fC))) (lC : K.lookup fC = some ⟨ocC, odC, .func (PySem.W.fnOf "common_divisor" "common_divisor" (defArgs s_cd) (defBody s_cd) (defScope s_cd) .none kVC dcC pmC anC cdC ctC), slC⟩) (cC : PySem.W.codeIn K cdC "common_divisor" = true) (kC : PySem.W.keepIn K (.ref fC) = true)
    (aR : PySem.W.nsIn K mainGlobals "ratio" = some (some (.ref fR))) (lR : K.lookup fR = some ⟨ocR, odR, .func (PySem.W.fnOf "ratio" "ratio" (defArgs s_ratio) (defBody s_ratio) (defScope s_ratio) .none kVR dcR pmR anR cdR ctR), slR⟩) (cR : PySem.W.codeIn K cdR "ratio" = true) (kR : PySem.W.keepIn K (.ref fR) = true)
    (aM : PySem.W.nsIn K mainGlobals "minus" = some (some (.ref fM))) (lM : K.lookup fM = some ⟨ocM, odM, .func (PySem.W.fnOf "minus" "minus" (defArgs s_minus) (defBody s_minus) (defScope s_minus) .none kVM dcM pmM anM cdM ctM), slM⟩) (cM : PySem.W.codeIn K cdM "minus" = true) (kM : PySem.W.keepIn K (.ref fM) = true)
    (aT : PySem.W.nsIn K mainGlobals "times" = some (some (.ref fT))) (lT : K.lookup fT = some ⟨ocT, odT, .func (PySem.W.fnOf "times" "times" (defArgs s_times) (defBody s_times) (defScope s_times) .none kVT dcT pmT anT cdT ctT), slT⟩) (cT : PySem.W.codeIn K cdT "times" = true) (kT : PySem.W.keepIn K (.ref fT) = true)
    (aO : PySem.W.nsIn K mainGlobals "over" = some (some (.ref fO))) (lO : K.lookup fO = some ⟨ocO, odO, .func (PySem.W.fnOf "over" "over" (defArgs s_over) (defBody s_over) (defScope s_over) .none kVO dcO pmO anO cdO ctO), slO⟩) (cO : PySem.W.codeIn K cdO "over" = true) (kO : PySem.W.keepIn K (.ref fO) = true)
    (aOB : PySem.W.nsIn K mainGlobals "on_one_bottom" = some (some (.ref fOB))) (lOB : K.lookup fOB = some ⟨ocOB, odOB, .func (PySem.W.fnOf "on_one_bottom" "on_one_bottom" (defArgs s_oob) (defBody s_oob) (defScope s_oob) .none kVOB dcOB pmOB anOB cdOB ctOB), slOB⟩) (cOB : PySem.W.codeIn K cdOB "on_one_bottom" = true) (kOB : PySem.W.keepIn K (.ref fOB) = true)
    (aAD : PySem.W.nsIn K mainGlobals "added" = some (some (.ref fAD))) (lAD : K.lookup fAD = some ⟨ocAD, odAD, .func (PySem.W.fnOf "added" "added" (defArgs s_added) (defBody s_added) (defScope s_added) .none kVAD dcAD pmAD anAD cdAD ctAD), slAD⟩) (cAD : PySem.W.codeIn K cdAD "added" = true) (kAD : PySem.W.keepIn K (.ref fAD) = true)
    (aCR : PySem.W.nsIn K mainGlobals "crossed" = some (some (.ref fCR))) (lCR : K.lookup fCR = some ⟨ocCR, odCR, .func (PySem.W.fnOf "crossed" "crossed" (defArgs s_crossed) (defBody s_crossed) (defScope s_crossed) .none kVCR dcCR pmCR anCR cdCR ctCR), slCR⟩) (cCR : PySem.W.codeIn K cdCR "crossed" = true) (kCR : PySem.W.keepIn K (.ref fCR) = true)
    (aRN : PySem.W.nsIn K mainGlobals "renewed" = some (some (.ref fRN))) (lRN : K.lookup fRN = some ⟨ocRN, odRN, .func (PySem.W.fnOf "renewed" "renewed" (defArgs s_ren) (defBody s_ren) (defScope s_ren) .none kVRN dcRN pmRN anRN cdRN ctRN), slRN⟩) (cRN : PySem.W.codeIn K cdRN "renewed" = true) (kRN : PySem.W.keepIn K (.ref fRN) = true)
    (aBR : PySem.W.nsIn K mainGlobals "behind_row" = some (some (.ref fBR))) (lBR : K.lookup fBR = some ⟨ocBR, odBR, .func (PySem.W.fnOf "behind_row" "behind_row" (defArgs s_behind) (defBody s_behind) (defScope s_behind) .none kVBR dcBR pmBR anBR cdBR ctBR), slBR⟩) (cBR : PySem.W.codeIn K cdBR "behind_row" = true) (kBR : PySem.W.keepIn K (.ref fBR) = true)
    (aCT : PySem.W.nsIn K mainGlobals "chances_to" = some (some (.ref fCT))) (lCT : K.lookup fCT = some ⟨ocCT, odCT, .func (PySem.W.fnOf "chances_to" "chances_to" (defArgs s_chto) (defBody s_chto) (defScope s_chto) .none kVCT dcCT pmCT anCT cdCT ctCT), slCT⟩) (cCT : PySem.W.codeIn K cdCT "chances_to" = true) (kCT : PySem.W.keepIn K (.ref fCT) = true)
    (aLA : PySem.W.nsIn K mainGlobals "lasting" = some (some (.ref fLA))) (lLA : K.lookup fLA = some ⟨ocLA, odLA, .func (PySem.W.fnOf "lasting" "lasting" (defArgs s_lasting) (defBody s_lasting) (defScope s_lasting) .none kVLA dcLA pmLA anLA cdLA ctLA), slLA⟩) (cLA : PySem.W.codeIn K cdLA "lasting" = true) (kLA : PySem.W.keepIn K (.ref fLA) = true)
    (aSHO : PySem.W.nsIn K mainGlobals "short" = some (some (.ref fSHO))) (lSHO : K.lookup fSHO = some ⟨ocSHO, odSHO, .func (PySem.W.fnOf "short" "short" (defArgs s_short) (defBody s_short) (defScope s_short) .none kVSHO dcSHO pmSHO anSHO cdSHO ctSHO), slSHO⟩) (cSHO : PySem.W.codeIn K cdSHO "short" = true) (kSHO : PySem.W.keepIn K (.ref fSHO) = true)
    (aWN : PySem.W.nsIn K mainGlobals "without_noughts" = some (some (.ref fWN))) (lWN : K.lookup fWN = some ⟨ocWN, odWN, .func (PySem.W.fnOf "without_noughts" "without_noughts" (defArgs s_wn) (defBody s_wn) (defScope s_wn) .none kVWN dcWN pmWN anWN cdWN ctWN), slWN⟩) (cWN : PySem.W.codeIn K cdWN "without_noughts" = true) (kWN : PySem.W.keepIn K (.ref fWN) = true)
    (aPU : PySem.W.nsIn K mainGlobals "puts" = some (some (.ref fPU))) (lPU : K.lookup fPU = some ⟨ocPU, odPU, .func (PySem.W.fnOf "puts" "puts" (defArgs s_puts) (defBody s_puts) (defScope s_puts) .none kVPU dcPU pmPU anPU cdPU ctPU), slPU⟩) (cPU : PySem.W.codeIn K cdPU "puts" = true) (kPU : PySem.W.keepIn K (.ref fPU) = true)
    (aTO : PySem.W.nsIn K mainGlobals "together" = some (some (.ref fTO))) (lTO : K.lookup fTO = some ⟨ocTO, odTO, .func (PySem.W.fnOf "together" "together" (defArgs s_tog) (defBody s_tog) (defScope s_tog) .none kVTO dcTO pmTO anTO cdTO ctTO), slTO⟩) (cTO : PySem.W.codeIn K cdTO "together" = true) (kTO : PySem.W.keepIn K (.ref fTO) = true)
    (aLE : PySem.W.nsIn K mainGlobals "lent" = some (some (.ref fLE))) (lLE : K.lookup fLE = some ⟨ocLE, odLE, .func (PySem.W.fnOf "lent" "lent" (defArgs s_lent) (defBody s_lent) (defScope s_lent) .none kVLE dcLE pmLE anLE cdLE ctLE), slLE⟩) (cLE : PySem.W.codeIn K cdLE "lent" = true) (kLE : PySem.W.keepIn K (.ref fLE) = true)
    (aFO : PySem.W.nsIn K mainGlobals "followed" = some (some (.ref fFO))) (lFO : K.lookup fFO = some ⟨ocFO, odFO, .func (PySem.W.fnOf "followed" "followed" (defArgs s_fol) (defBody s_fol) (defScope s_fol) .none kVFO dcFO pmFO anFO cdFO ctFO), slFO⟩) (cFO : PySem.W.codeIn K cdFO "followed" = true) (kFO : PySem.W.keepIn K (.ref fFO) = true)
    (aKP : PySem.W.nsIn K mainGlobals "kind_puts" = some (some (.ref fKP))) (lKP : K.lookup fKP = some ⟨ocKP, odKP, .func (PySem.W.fnOf "kind_puts" "kind_puts" (defArgs s_kp) (defBody s_kp) (defScope s_kp) .none kVKP dcKP pmKP anKP cdKP ctKP), slKP⟩) (cKP : PySem.W.codeIn K cdKP "kind_puts" = true) (kKP : PySem.W.keepIn K (.ref fKP) = true)
    (aPR : PySem.W.nsIn K mainGlobals "put_rows" = some (some (.ref fPR))) (lPR : K.lookup fPR = some ⟨ocPR, odPR, .func (PySem.W.fnOf "put_rows" "put_rows" (defArgs s_pr) (defBody s_pr) (defScope s_pr) .none kVPR dcPR pmPR anPR cdPR ctPR), slPR⟩) (cPR : PySem.W.codeIn K cdPR "put_rows" = true) (kPR : PySem.W.keepIn K (.ref fPR) = true)
    (aBH : PySem.W.nsIn K mainGlobals "behind" = some (some (.ref fBH))) (lBH : K.lookup fBH = some ⟨ocBH, odBH, .func (PySem.W.fnOf "behind" "behind" (defArgs s_bh) (defBody s_bh) (defScope s_bh) .none kVBH dcBH pmBH anBH cdBH ctBH), slBH⟩) (cBH : PySem.W.codeIn K cdBH "behind" = true) (kBH : PySem.W.keepIn K (.ref fBH) = true)
    (aCU : PySem.W.nsIn K mainGlobals "cut_at" = some (some (.ref fCU))) (lCU : K.lookup fCU = some ⟨ocCU, odCU, .func (PySem.W.fnOf "cut_at" "cut_at" (defArgs s_cut) (defBody s_cut) (defScope s_cut) .none kVCU dcCU pmCU anCU cdCU ctCU), slCU⟩) (cCU : PySem.W.codeIn K cdCU "cut_at" = true) (kCU : PySem.W.keepIn K (.ref fCU) = true)
    (aFD : PySem.W.nsIn K mainGlobals "folded" = some (some (.ref fFD))) (lFD : K.lookup fFD = some ⟨ocFD, odFD, .func (PySem.W.fnOf "folded" "folded" (defArgs s_folded) (defBody s_folded) (defScope s_folded) .none kVFD dcFD pmFD anFD cdFD ctFD), slFD⟩) (cFD : PySem.W.codeIn K cdFD "folded" = true) (kFD : PySem.W.keepIn K (.ref fFD) = true)
    (aLT8 : PySem.W.nsIn K mainGlobals "later" = some (some (.ref fLT8))) (lLT8 : K.lookup fLT8 = some ⟨ocLT8, odLT8, .func (PySem.W.fnOf "later" "later" (defArgs s_later) (defBody s_later) (defScope s_later) .none kVLT8 dcLT8 pmLT8 anLT8 cdLT8 ctLT8), slLT8⟩) (cLT8 : PySem.W.codeIn K cdLT8 "later" = true) (kLT8 : PySem.W.keepIn K (.ref fLT8) = true)
    (aTH : PySem.W.nsIn K mainGlobals "thinned" = some (some (.ref fTH))) (lTH : K.lookup fTH = some ⟨ocTH, odTH, .func (PySem.W.fnOf "thinned" "thinned" (defArgs s_thin) (defBody s_thin) (defScope s_thin) .none kVTH dcTH pmTH anTH cdTH ctTH), slTH⟩) (cTH : PySem.W.codeIn K cdTH "thinned" = true) (kTH : PySem.W.keepIn K (.ref fTH) = true)
    (aE : PySem.W.nsIn K mainGlobals "_law_feed" = some (some (.ref fE))) (lE : K.lookup fE = some ⟨ocE, odE, .func (PySem.W.fnOf "_law_feed" "_law_feed" (defArgs s_feed) (defBody s_feed) (defScope s_feed) .none kVE dcE pmE anE cdE ctE), slE⟩) (cE : PySem.W.codeIn K cdE "_law_feed" = true) (kE : PySem.W.keepIn K (.ref fE) = true)
    (aD : PySem.W.nsIn K mainGlobals "_law_draw" = some (some (.ref fD))) (lD : K.lookup fD = some ⟨ocD, odD, .func (PySem.W.fnOf "_law_draw" "_law_draw" (defArgs s_draw) (defBody s_draw) (defScope s_draw) .none kVD dcD pmD anD cdD ctD), slD⟩) (cD : PySem.W.codeIn K cdD "_law_draw" = true) (kD : PySem.W.keepIn K (.ref fD) = true)
    (aL : PySem.W.nsIn K mainGlobals "_law_low" = some (some (.ref fL))) (lL : K.lookup fL = some ⟨ocL, odL, .func (PySem.W.fnOf "_law_low" "_law_low" (defArgs s_low) (defBody s_low) (defScope s_low) .none kVL dcL pmL anL cdL ctL), slL⟩) (cL : PySem.W.codeIn K cdL "_law_low" = true) (kL : PySem.W.keepIn K (.ref fL) = true)
    (aSU : PySem.W.nsIn K mainGlobals "_law_sum" = some (some (.ref fSU))) (lSU : K.lookup fSU = some ⟨ocSU, odSU, .func (PySem.W.fnOf "_law_sum" "_law_sum" (defArgs s_lsum) (defBody s_lsum) (defScope s_lsum) .none kVSU dcSU pmSU anSU cdSU ctSU), slSU⟩) (cSU : PySem.W.codeIn K cdSU "_law_sum" = true) (kSU : PySem.W.keepIn K (.ref fSU) = true)
    (aLT : PySem.W.nsIn K mainGlobals "_law_times" = some (some (.ref fLT))) (lLT : K.lookup fLT = some ⟨ocLT, odLT, .func (PySem.W.fnOf "_law_times" "_law_times" (defArgs s_ltimes) (defBody s_ltimes) (defScope s_ltimes) .none kVLT dcLT pmLT anLT cdLT ctLT), slLT⟩) (cLT : PySem.W.codeIn K cdLT "_law_times" = true) (kLT : PySem.W.keepIn K (.ref fLT) = true)
    (aLL : PySem.W.nsIn K mainGlobals "_law_less" = some (some (.ref fLL))) (lLL : K.lookup fLL = some ⟨ocLL, odLL, .func (PySem.W.fnOf "_law_less" "_law_less" (defArgs s_lless) (defBody s_lless) (defScope s_lless) .none kVLL dcLL pmLL anLL cdLL ctLL), slLL⟩) (cLL : PySem.W.codeIn K cdLL "_law_less" = true) (kLL : PySem.W.keepIn K (.ref fLL) = true)
    (aLF : PySem.W.nsIn K mainGlobals "_law_life" = some (some (.ref fLF))) (lLF : K.lookup fLF = some ⟨ocLF, odLF, .func (PySem.W.fnOf "_law_life" "_law_life" (defArgs s_life) (defBody s_life) (defScope s_life) .none kVLF dcLF pmLF anLF cdLF ctLF), slLF⟩) (cLF : PySem.W.codeIn K cdLF "_law_life" = true) (kLF : PySem.W.keepIn K (.ref fLF) = true)
    (aAL : PySem.W.nsIn K mainGlobals "_law_any_life" = some (some (.ref fAL))) (lAL : K.lookup fAL = some ⟨ocAL, odAL, .func (PySem.W.fnOf "_law_any_life" "_law_any_life" (defArgs s_any) (defBody s_any) (defScope s_any) .none kVAL dcAL pmAL anAL cdAL ctAL), slAL⟩) (cAL : PySem.W.codeIn K cdAL "_law_any_life" = true) (kAL : PySem.W.keepIn K (.ref fAL) = true)
    (aCH : PySem.W.nsIn K mainGlobals "_law_chance" = some (some (.ref fCH))) (lCH : K.lookup fCH = some ⟨ocCH, odCH, .func (PySem.W.fnOf "_law_chance" "_law_chance" (defArgs s_lchance) (defBody s_lchance) (defScope s_lchance) .none kVCH dcCH pmCH anCH cdCH ctCH), slCH⟩) (cCH : PySem.W.codeIn K cdCH "_law_chance" = true) (kCH : PySem.W.keepIn K (.ref fCH) = true)
    (aBD : PySem.W.nsIn K mainGlobals "_law_bounded" = some (some (.ref fBD))) (lBD : K.lookup fBD = some ⟨ocBD, odBD, .func (PySem.W.fnOf "_law_bounded" "_law_bounded" (defArgs s_bounded) (defBody s_bounded) (defScope s_bounded) .none kVBD dcBD pmBD anBD cdBD ctBD), slBD⟩) (cBD : PySem.W.codeIn K cdBD "_law_bounded" = true) (kBD : PySem.W.keepIn K (.ref fBD) = true)
    (aLM : PySem.W.nsIn K mainGlobals "_law_most" = some (some (.ref fLM))) (lLM : K.lookup fLM = some ⟨ocLM, odLM, .func (PySem.W.fnOf "_law_most" "_law_most" (defArgs s_lm) (defBody s_lm) (defScope s_lm) .none kVLM dcLM pmLM anLM cdLM ctLM), slLM⟩) (cLM : PySem.W.codeIn K cdLM "_law_most" = true) (kLM : PySem.W.keepIn K (.ref fLM) = true)
    (aAN : PySem.W.nsIn K mainGlobals "_law_anew" = some (some (.ref fAN))) (lAN : K.lookup fAN = some ⟨ocAN, odAN, .func (PySem.W.fnOf "_law_anew" "_law_anew" (defArgs s_anew) (defBody s_anew) (defScope s_anew) .none kVAN dcAN pmAN anAN cdAN ctAN), slAN⟩) (cAN : PySem.W.codeIn K cdAN "_law_anew" = true) (kAN : PySem.W.keepIn K (.ref fAN) = true)
    (aSP : PySem.W.nsIn K mainGlobals "_law_share_puts" = some (some (.ref fSP))) (lSP : K.lookup fSP = some ⟨ocSP, odSP, .func (PySem.W.fnOf "_law_share_puts" "_law_share_puts" (defArgs s_sp) (defBody s_sp) (defScope s_sp) .none kVSP dcSP pmSP anSP cdSP ctSP), slSP⟩) (cSP : PySem.W.codeIn K cdSP "_law_share_puts" = true) (kSP : PySem.W.keepIn K (.ref fSP) = true)
    (aBRI : PySem.W.nsIn K mainGlobals "_law_behind_right" = some (some (.ref fBRI))) (lBRI : K.lookup fBRI = some ⟨ocBRI, odBRI, .func (PySem.W.fnOf "_law_behind_right" "_law_behind_right" (defArgs s_bri) (defBody s_bri) (defScope s_bri) .none kVBRI dcBRI pmBRI anBRI cdBRI ctBRI), slBRI⟩) (cBRI : PySem.W.codeIn K cdBRI "_law_behind_right" = true) (kBRI : PySem.W.keepIn K (.ref fBRI) = true)
    (aZ : PySem.W.nsIn K mainGlobals "law" = some (some (.ref fZ))) (lZ : K.lookup fZ = some ⟨ocZ, odZ, .func (PySem.W.fnOf "law" "law" (defArgs s_law) (defBody s_law) (defScope s_law) .none kVZ dcZ pmZ anZ cdZ ctZ), slZ⟩) (cZ : PySem.W.codeIn K cdZ "law" = true) (kZ : PySem.W.keepIn K (.ref fZ) = true)
    (g_NOUGHT : PySem.W.nsIn K mainGlobals "NOUGHT" = some (some (.ref a_NOUGHT))) (l_NOUGHT : K.lookup a_NOUGHT = some ⟨.type "tuple", od_NOUGHT, .seq #[.int 0 t0_NOUGHT, .int 1 t1_NOUGHT] n_NOUGHTx, sl_NOUGHT⟩)
    (g_ONE : PySem.W.nsIn K mainGlobals "ONE" = some (some (.ref a_ONE))) (l_ONE : K.lookup a_ONE = some ⟨.type "tuple", od_ONE, .seq #[.int 1 t0_ONE, .int 1 t1_ONE] n_ONEx, sl_ONE⟩)
    (z_abs : PySem.W.nsIn K mainGlobals "abs" = some none)
    (z_enumerate : PySem.W.nsIn K mainGlobals "enumerate" = some none)
    (z_int : PySem.W.nsIn K mainGlobals "int" = some none)
    (z_len : PySem.W.nsIn K mainGlobals "len" = some none)
    (z_list : PySem.W.nsIn K mainGlobals "list" = some none)
    (z_min : PySem.W.nsIn K mainGlobals "min" = some none)
    (z_range : PySem.W.nsIn K mainGlobals "range" = some none)
    (z_repr : PySem.W.nsIn K mainGlobals "repr" = some none)
    (z_sum : PySem.W.nsIn K mainGlobals "sum" = some none)
    (z_tuple : PySem.W.nsIn K mainGlobals "tuple" = some none)
    (z_zip : PySem.W.nsIn K mainGlobals "zip" = some none)
    : ∃ fd : FuncData, (∀ (s : Shared) (v : Value), BindsTo s fd ⟨[v], []⟩ [("_law_script", v)]) ∧ ∀ base : Heap, K.In base → base.Ns mainGlobals mg → FnG l.prog w K mg base CX0 8 fa fd ["_law_script"] (spLaw K) := by
  have e := hfa.symm.trans (PySem.W.mg_of X G aZ)
  cases e
  have FC := fun_mk (st := s_cd) lC cC kC
  have bC := FC.binds (ps := ["one", "other"]) fun _ _ _ _ _ _ us hl => match us, hl with | [_, _], _ => rfl
  have gC := PySem.W.mg_of X G aC
  have FR := fun_mk (st := s_ratio) lR cR kR
  have bR := FR.binds (ps := ["top", "bottom"]) fun _ _ _ _ _ _ us hl => match us, hl with | [_, _], _ => rfl
  have gR := PySem.W.mg_of X G aR
  have FM := fun_mk (st := s_minus) lM cM kM
  have bM := FM.binds (ps := ["one", "other"]) fun _ _ _ _ _ _ us hl => match us, hl with | [_, _], _ => rfl
  have gM := PySem.W.mg_of X G aM
  have FT := fun_mk (st := s_times) lT cT kT
  have bT := FT.binds (ps := ["one", "other"]) fun _ _ _ _ _ _ us hl => match us, hl with | [_, _], _ => rfl
  have gT := PySem.W.mg_of X G aT
  have FO := fun_mk (st := s_over) lO cO kO
  have bO := FO.binds (ps := ["one", "other"]) fun _ _ _ _ _ _ us hl => match us, hl with | [_, _], _ => rfl
  have gO := PySem.W.mg_of X G aO
  have FOB := fun_mk (st := s_oob) lOB cOB kOB
  have bOB := FOB.binds (ps := ["told"]) fun _ _ _ _ _ _ us hl => match us, hl with | [_], _ => rfl
  have gOB := PySem.W.mg_of X G aOB
  have FAD := fun_mk (st := s_added) lAD cAD kAD
  have bAD := FAD.binds (ps := ["told"]) fun _ _ _ _ _ _ us hl => match us, hl with | [_], _ => rfl
  have gAD := PySem.W.mg_of X G aAD
  have FCR := fun_mk (st := s_crossed) lCR cCR kCR
  have bCR := FCR.binds (ps := ["ones", "others"]) fun _ _ _ _ _ _ us hl => match us, hl with | [_, _], _ => rfl
  have gCR := PySem.W.mg_of X G aCR
  have FRN := fun_mk (st := s_ren) lRN cRN kRN
  have bRN := FRN.binds (ps := ["chances", "told"]) fun _ _ _ _ _ _ us hl => match us, hl with | [_, _], _ => rfl
  have gRN := PySem.W.mg_of X G aRN
  have FBR := fun_mk (st := s_behind) lBR cBR kBR
  have bBR := FBR.binds (ps := ["life"]) fun _ _ _ _ _ _ us hl => match us, hl with | [_], _ => rfl
  have gBR := PySem.W.mg_of X G aBR
  have FCT := fun_mk (st := s_chto) lCT cCT kCT
  have bCT := FCT.binds (ps := ["life", "most"]) fun _ _ _ _ _ _ us hl => match us, hl with | [_, _], _ => rfl
  have gCT := PySem.W.mg_of X G aCT
  have FLA := fun_mk (st := s_lasting) lLA cLA kLA
  have bLA := FLA.binds (ps := ["life", "k"]) fun _ _ _ _ _ _ us hl => match us, hl with | [_, _], _ => rfl
  have gLA := PySem.W.mg_of X G aLA
  have FSHO := fun_mk (st := s_short) lSHO cSHO kSHO
  have bSHO := FSHO.binds (ps := ["life"]) fun _ _ _ _ _ _ us hl => match us, hl with | [_], _ => rfl
  have gSHO := PySem.W.mg_of X G aSHO
  have FWN := fun_mk (st := s_wn) lWN cWN kWN
  have bWN := FWN.binds (ps := ["row"]) fun _ _ _ _ _ _ us hl => match us, hl with | [_], _ => rfl
  have gWN := PySem.W.mg_of X G aWN
  have FPU := fun_mk (st := s_puts) lPU cPU kPU
  have bPU := FPU.binds (ps := ["life", "most"]) fun _ _ _ _ _ _ us hl => match us, hl with | [_, _], _ => rfl
  have gPU := PySem.W.mg_of X G aPU
  have FTO := fun_mk (st := s_tog) lTO cTO kTO
  have bTO := FTO.binds (ps := ["lives", "beat"]) fun _ _ _ _ _ _ us hl => match us, hl with | [_, _], _ => rfl
  have gTO := PySem.W.mg_of X G aTO
  have FLE := fun_mk (st := s_lent) lLE cLE kLE
  have bLE := FLE.binds (ps := ["home", "out"]) fun _ _ _ _ _ _ us hl => match us, hl with | [_, _], _ => rfl
  have gLE := PySem.W.mg_of X G aLE
  have FFO := fun_mk (st := s_fol) lFO cFO kFO
  have bFO := FFO.binds (ps := ["life", "follower"]) fun _ _ _ _ _ _ us hl => match us, hl with | [_, _], _ => rfl
  have gFO := PySem.W.mg_of X G aFO
  have FKP := fun_mk (st := s_kp) lKP cKP kKP
  have bKP := FKP.binds (ps := ["kinds", "first", "most"]) fun _ _ _ _ _ _ us hl => match us, hl with | [_, _, _], _ => rfl
  have gKP := PySem.W.mg_of X G aKP
  have FPR := fun_mk (st := s_pr) lPR cPR kPR
  have bPR := FPR.binds (ps := ["kinds", "first", "most", "shut"]) fun _ _ _ _ _ _ us hl => match us, hl with | [_, _, _, _], _ => rfl
  have gPR := PySem.W.mg_of X G aPR
  have FBH := fun_mk (st := s_bh) lBH cBH kBH
  have bBH := FBH.binds (ps := ["one", "other"]) fun _ _ _ _ _ _ us hl => match us, hl with | [_, _], _ => rfl
  have gBH := PySem.W.mg_of X G aBH
  have FCU := fun_mk (st := s_cut) lCU cCU kCU
  have bCU := FCU.binds (ps := ["life", "most"]) fun _ _ _ _ _ _ us hl => match us, hl with | [_, _], _ => rfl
  have gCU := PySem.W.mg_of X G aCU
  have FFD := fun_mk (st := s_folded) lFD cFD kFD
  have bFD := FFD.binds (ps := ["life", "many"]) fun _ _ _ _ _ _ us hl => match us, hl with | [_, _], _ => rfl
  have gFD := PySem.W.mg_of X G aFD
  have FLT8 := fun_mk (st := s_later) lLT8 cLT8 kLT8
  have bLT8 := FLT8.binds (ps := ["life", "by"]) fun _ _ _ _ _ _ us hl => match us, hl with | [_, _], _ => rfl
  have gLT8 := PySem.W.mg_of X G aLT8
  have FTH := fun_mk (st := s_thin) lTH cTH kTH
  have bTH := FTH.binds (ps := ["life", "share", "most"]) fun _ _ _ _ _ _ us hl => match us, hl with | [_, _, _], _ => rfl
  have gTH := PySem.W.mg_of X G aTH
  have FE := fun_mk (st := s_feed) lE cE kE
  have bE := FE.binds (ps := ["_law_script"]) fun _ _ _ _ _ _ us hl => match us, hl with | [_], _ => rfl
  have gE := PySem.W.mg_of X G aE
  have FD := fun_mk (st := s_draw) lD cD kD
  have bD := FD.binds (ps := ["_law_feed_here", "_law_many"]) fun _ _ _ _ _ _ us hl => match us, hl with | [_, _], _ => rfl
  have gD := PySem.W.mg_of X G aD
  have FL := fun_mk (st := s_low) lL cL kL
  have bL := FL.binds (ps := ["_law_top", "_law_bottom"]) fun _ _ _ _ _ _ us hl => match us, hl with | [_, _], _ => rfl
  have gL := PySem.W.mg_of X G aL
  have FSU := fun_mk (st := s_lsum) lSU cSU kSU
  have bSU := FSU.binds (ps := ["_law_some"]) fun _ _ _ _ _ _ us hl => match us, hl with | [_], _ => rfl
  have gSU := PySem.W.mg_of X G aSU
  have FLT := fun_mk (st := s_ltimes) lLT cLT kLT
  have bLT := FLT.binds (ps := ["_law_one", "_law_other"]) fun _ _ _ _ _ _ us hl => match us, hl with | [_, _], _ => rfl
  have gLT := PySem.W.mg_of X G aLT
  have FLL := fun_mk (st := s_lless) lLL cLL kLL
  have bLL := FLL.binds (ps := ["_law_one", "_law_other"]) fun _ _ _ _ _ _ us hl => match us, hl with | [_, _], _ => rfl
  have gLL := PySem.W.mg_of X G aLL
  have FLF := fun_mk (st := s_life) lLF cLF kLF
  have bLF := FLF.binds (ps := ["_law_feed_here", "_law_way"]) fun _ _ _ _ _ _ us hl => match us, hl with | [_, _], _ => rfl
  have gLF := PySem.W.mg_of X G aLF
  have FAL := fun_mk (st := s_any) lAL cAL kAL
  have bAL := FAL.binds (ps := ["_law_feed_here"]) fun _ _ _ _ _ _ us hl => match us, hl with | [_], _ => rfl
  have gAL := PySem.W.mg_of X G aAL
  have FCH := fun_mk (st := s_lchance) lCH cCH kCH
  have bCH := FCH.binds (ps := ["_law_life_here", "_law_k"]) fun _ _ _ _ _ _ us hl => match us, hl with | [_, _], _ => rfl
  have gCH := PySem.W.mg_of X G aCH
  have FBD := fun_mk (st := s_bounded) lBD cBD kBD
  have bBD := FBD.binds (ps := ["_law_feed_here"]) fun _ _ _ _ _ _ us hl => match us, hl with | [_], _ => rfl
  have gBD := PySem.W.mg_of X G aBD
  have FLM := fun_mk (st := s_lm) lLM cLM kLM
  have bLM := FLM.binds (ps := ["_law_feed_here"]) fun _ _ _ _ _ _ us hl => match us, hl with | [_], _ => rfl
  have gLM := PySem.W.mg_of X G aLM
  have FAN := fun_mk (st := s_anew) lAN cAN kAN
  have bAN := FAN.binds (ps := ["_law_chances", "_law_most_here"]) fun _ _ _ _ _ _ us hl => match us, hl with | [_, _], _ => rfl
  have gAN := PySem.W.mg_of X G aAN
  have FSP := fun_mk (st := s_sp) lSP cSP kSP
  have bSP := FSP.binds (ps := ["_law_life_here", "_law_kept_by", "_law_most_here"]) fun _ _ _ _ _ _ us hl => match us, hl with | [_, _, _], _ => rfl
  have gSP := PySem.W.mg_of X G aSP
  have FBRI := fun_mk (st := s_bri) lBRI cBRI kBRI
  have bBRI := FBRI.binds (ps := ["_law_feed_here", "_law_most_here"]) fun _ _ _ _ _ _ us hl => match us, hl with | [_, _], _ => rfl
  have gBRI := PySem.W.mg_of X G aBRI
  have FZ := fun_mk (st := s_law) lZ cZ kZ
  have bZ := FZ.binds (ps := ["_law_script"]) fun _ _ _ _ _ _ us hl => match us, hl with | [_], _ => rfl
  have gZ := PySem.W.mg_of X G aZ
  have n_abs := PySem.W.mg_none_of X G z_abs
  have n_enumerate := PySem.W.mg_none_of X G z_enumerate
  have n_int := PySem.W.mg_none_of X G z_int
  have n_len := PySem.W.mg_none_of X G z_len
  have n_list := PySem.W.mg_none_of X G z_list
  have n_min := PySem.W.mg_none_of X G z_min
  have n_range := PySem.W.mg_none_of X G z_range
  have n_repr := PySem.W.mg_none_of X G z_repr
  have n_sum := PySem.W.mg_none_of X G z_sum
  have n_tuple := PySem.W.mg_none_of X G z_tuple
  have n_zip := PySem.W.mg_none_of X G z_zip
  have m_NOUGHT := PySem.W.mg_of X G g_NOUGHT
  have r_NOUGHT : ∀ H, RAt K H a_NOUGHT (0, 1) := fun H => .inr ⟨_, _, _, l_NOUGHT, rfl, rfl, by show 2 ≤ sizeLine; decide, .cons ⟨_, rfl⟩ (.cons ⟨_, rfl⟩ .nil)⟩
  have m_ONE := PySem.W.mg_of X G g_ONE
  have r_ONE : ∀ H, RAt K H a_ONE (1, 1) := fun H => .inr ⟨_, _, _, l_ONE, rfl, rfl, by show 2 ≤ sizeLine; decide, .cons ⟨_, rfl⟩ (.cons ⟨_, rfl⟩ .nil)⟩
  refine ⟨PySem.W.fnOf "law" "law" (defArgs s_law) (defBody s_law) (defScope s_law) .none kVZ dcZ pmZ anZ cdZ ctZ, fun s v => .of_eq rfl, fun base _ _ => ?_⟩
  have C : Consts K mg a_NOUGHT a_ONE := ⟨m_NOUGHT, m_ONE, r_NOUGHT, r_ONE⟩
  have GWN : FnOk l.prog w K mg base CX0 1 fWN _ ["row"] (spWn K) := ok_wn FWN C n_len
  have GFO := ok_fol (P := l.prog) (w := w) (base := base) FFO C n_enumerate n_tuple
  have GE : FnOk l.prog w K mg base CX0 1 fE _ ["_law_script"] (spFeed K) := ok_feed FE n_list
  have GD : FnOk l.prog w K mg base CX0 1 fD _ ["_law_feed_here", "_law_many"] spDraw := ok_draw FD n_len
  have GL : FnOk l.prog w K mg base CX0 1 fL _ ["_law_top", "_law_bottom"] spLow := ok_low FL n_abs
  have GR := ok_ratio (P := l.prog) (w := w) (base := base) FR FC bC gC n_abs
  have GOB := ok_oob (P := l.prog) (w := w) (base := base) FOB FC bC gC n_abs
  have GOT := ok_oobT (P := l.prog) (w := w) (base := base) FOB FC bC gC n_abs
  have GLE := ok_lent FLE FFO bFO gFO GFO
  have GSU := ok_lsumL FSU FL bL gL GL
  have GST := ok_lsumT FSU FL bL gL GL
  have GLT := ok_ltimes FLT FL bL gL GL
  have GLL := ok_lless FLL FL bL gL GL
  have GLF := ok_life FLF FD bD gD GD FL bL gL GL n_range n_int n_sum n_tuple
  have GCH := ok_lchance FCH FL bL gL GL n_len n_range
  have GLM := ok_lmost FLM FD bD gD GD
  have GM := ok_minus FM FR bR gR GR
  have GT := ok_times FT FR bR gR GR
  have GO := ok_over FO FR bR gR GR
  have GAD := ok_added FAD FOB bOB gOB GOB FR bR gR GR n_sum
  have GAT := ok_addedT FAD FOB bOB gOB GOT FR bR gR GR n_sum
  have GCR := ok_crossed FCR FOB bOB gOB GOB FR bR gR GR n_enumerate n_len
  have GCRT := ok_crossedCRT FCR FOB bOB gOB GOT FR bR gR GR n_enumerate n_len
  have GRN := ok_ren FRN FOB bOB gOB GOB FR bR gR GR n_enumerate n_range n_sum n_zip
  have GPR := ok_pr FPR FOB bOB gOB GOB FR bR gR GR n_enumerate n_len n_range n_zip
  have GAL := ok_any FAL FD bD gD GD FLF bLF gLF GLF FLT bLT gLT GLT n_len
  have GBD := ok_bounded FBD FD bD gD GD FLF bLF gLF GLF n_len n_min
  have GBR := ok_behind FBR C FO bO gO GO FT bT gT GT FM bM gM GM
  have GCT := ok_chto FCT C.n FT bT gT GT n_len n_list
  have GCTE := ok_chtoE FCT C.n FT bT gT GT n_len n_list
  have GKP := ok_kp FKP FPR bPR gPR GPR n_tuple
  have GAN := ok_anew FAN FSU bSU gSU GSU FLT bLT gLT GLT n_range
  have GANT := ok_anewANT FAN FSU bSU gSU GSU FLT bLT gLT GLT n_range
  have GLA := ok_lasting FLA C FCT bCT gCT GCT FAD bAD gAD GAD FM bM gM GM
  have GSHO := ok_short FSHO C FBR bBR gBR GBR FWN bWN gWN GWN FT bT gT GT n_len
  have GPU := ok_puts FPU C FCT bCT gCT GCT FRN bRN gRN GRN n_tuple
  have GPUE := ok_putsE FPU C FCT bCT gCT GCTE FRN bRN gRN GRN n_tuple
  have GTH := ok_thin FTH C FCT bCT gCT GCT FT bT gT GT FM bM gM GM FRN bRN gRN GRN n_tuple
  have GTO := ok_tog FTO C FPU bPU gPU GPU FCR bCR gCR GCR FM bM gM GM n_tuple
  have GBH := ok_bh FBH C FSHO bSHO gSHO GSHO FCR bCR gCR GCRT
  have GCU := ok_cut FCU C FSHO bSHO gSHO GSHO FCT bCT gCT GCT FLA bLA gLA GLA
  have GFD := ok_folded FFD C FSHO bSHO gSHO GSHO n_tuple
  have GLT8 := ok_later FLT8 C FSHO bSHO gSHO GSHO
  have GSP := ok_sp FSP FPU bPU gPU GPU FAN bAN gAN GANT FTH bTH gTH GTH FLT bLT gLT GLT
  have GBRI := ok_bri FBRI FBD bBD gBD GBD FKP bKP gKP GKP FLE bLE gLE GLE FPU bPU gPU GPUE FBH bBH gBH GBH n_list
  exact ok_law FZ FE bE gE GE FLM bLM gLM GLM FD bD gD GD FL bL gL GL FAL bAL gAL GAL FBD bBD gBD GBD FPU bPU gPU GPU GPUE FCU bCU gCU GCU FFD bFD gFD GFD FSP bSP gSP GSP FBRI bBRI gBRI GBRI FCH bCH gCH GCH FAN bAN gAN GAN FLT8 bLT8 gLT8 GLT8 FTO bTO gTO GTO FLT bLT gLT GLT FLL bLL gLL GLL n_list n_min n_range n_repr
end Fp
open PySem PySem.W PyProof.Rows
set_option maxHeartbeats 0 in
theorem PySem.Challenge.cw_freshparts_k94_whole_puts_turn_as_told_holds : PySem.Challenge.rw_freshparts_k94_whole_puts_turn_as_told.Holds := by
  w_on; o_law; k_head; (case hw => w_witness2)
  k_fill
  refine Fp.walkG (l := PySem.Challenge.rw_freshparts_k94_whole_puts_turn_as_told) (n := 63) (lv := 8) (x := "_law_script") (sp := fun w => Fp.spLaw _) rfl (by decide) rfl ⟨rfl, by decide, by decide⟩ (fun w h Y => PySem.W.kIn_of Y) ?F (fun _ _ a ns hl _ hS => ⟨a, ns, rfl, hS, fun _ => rfl⟩)
  case F =>
    intro w mg fa h KX G hmg
    refine' Fp.all_mk KX G hmg ?aC ?lC ?cC ?kC ?aR ?lR ?cR ?kR ?aM ?lM ?cM ?kM ?aT ?lT ?cT ?kT ?aO ?lO ?cO ?kO ?aOB ?lOB ?cOB ?kOB ?aAD ?lAD ?cAD ?kAD ?aCR ?lCR ?cCR ?kCR ?aRN ?lRN ?cRN ?kRN ?aBR ?lBR ?cBR ?kBR ?aCT ?lCT ?cCT ?kCT ?aLA ?lLA ?cLA ?kLA ?aSHO ?lSHO ?cSHO ?kSHO ?aWN ?lWN ?cWN ?kWN ?aPU ?lPU ?cPU ?kPU ?aTO ?lTO ?cTO ?kTO ?aLE ?lLE ?cLE ?kLE ?aFO ?lFO ?cFO ?kFO ?aKP ?lKP ?cKP ?kKP ?aPR ?lPR ?cPR ?kPR ?aBH ?lBH ?cBH ?kBH ?aCU ?lCU ?cCU ?kCU ?aFD ?lFD ?cFD ?kFD ?aLT8 ?lLT8 ?cLT8 ?kLT8 ?aTH ?lTH ?cTH ?kTH ?aE ?lE ?cE ?kE ?aD ?lD ?cD ?kD ?aL ?lL ?cL ?kL ?aSU ?lSU ?cSU ?kSU ?aLT ?lLT ?cLT ?kLT ?aLL ?lLL ?cLL ?kLL ?aLF ?lLF ?cLF ?kLF ?aAL ?lAL ?cAL ?kAL ?aCH ?lCH ?cCH ?kCH ?aBD ?lBD ?cBD ?kBD ?aLM ?lLM ?cLM ?kLM ?aAN ?lAN ?cAN ?kAN ?aSP ?lSP ?cSP ?kSP ?aBRI ?lBRI ?cBRI ?kBRI ?aZ ?lZ ?cZ ?kZ ?g_NOUGHT ?l_NOUGHT ?g_ONE ?l_ONE ?z_abs ?z_enumerate ?z_int ?z_len ?z_list ?z_min ?z_range ?z_repr ?z_sum ?z_tuple ?z_zip
    (case aC => first | k_is | rfl); (case lC => first | k_is | rfl); (case cC => first | k_is | rfl); (case kC => first | k_is | rfl); (case aR => first | k_is | rfl); (case lR => first | k_is | rfl)
    (case cR => first | k_is | rfl); (case kR => first | k_is | rfl); (case aM => first | k_is | rfl); (case lM => first | k_is | rfl); (case cM => first | k_is | rfl); (case kM => first | k_is | rfl)
    (case aT => first | k_is | rfl); (case lT => first | k_is | rfl); (case cT => first | k_is | rfl); (case kT => first | k_is | rfl); (case aO => first | k_is | rfl); (case lO => first | k_is | rfl)
    (case cO => first | k_is | rfl); (case kO => first | k_is | rfl); (case aOB => first | k_is | rfl); (case lOB => first | k_is | rfl); (case cOB => first | k_is | rfl); (case kOB => first | k_is | rfl)
    (case aAD => first | k_is | rfl); (case lAD => first | k_is | rfl); (case cAD => first | k_is | rfl); (case kAD => first | k_is | rfl); (case aCR => first | k_is | rfl); (case lCR => first | k_is | rfl)
    (case cCR => first | k_is | rfl); (case kCR => first | k_is | rfl); (case aRN => first | k_is | rfl); (case lRN => first | k_is | rfl); (case cRN => first | k_is | rfl); (case kRN => first | k_is | rfl)
    (case aBR => first | k_is | rfl); (case lBR => first | k_is | rfl); (case cBR => first | k_is | rfl); (case kBR => first | k_is | rfl); (case aCT => first | k_is | rfl); (case lCT => first | k_is | rfl)
    (case cCT => first | k_is | rfl); (case kCT => first | k_is | rfl); (case aLA => first | k_is | rfl); (case lLA => first | k_is | rfl); (case cLA => first | k_is | rfl); (case kLA => first | k_is | rfl)
    (case aSHO => first | k_is | rfl); (case lSHO => first | k_is | rfl); (case cSHO => first | k_is | rfl); (case kSHO => first | k_is | rfl); (case aWN => first | k_is | rfl); (case lWN => first | k_is | rfl)
    (case cWN => first | k_is | rfl); (case kWN => first | k_is | rfl); (case aPU => first | k_is | rfl); (case lPU => first | k_is | rfl); (case cPU => first | k_is | rfl); (case kPU => first | k_is | rfl)
    (case aTO => first | k_is | rfl); (case lTO => first | k_is | rfl); (case cTO => first | k_is | rfl); (case kTO => first | k_is | rfl); (case aLE => first | k_is | rfl); (case lLE => first | k_is | rfl)
    (case cLE => first | k_is | rfl); (case kLE => first | k_is | rfl); (case aFO => first | k_is | rfl); (case lFO => first | k_is | rfl); (case cFO => first | k_is | rfl); (case kFO => first | k_is | rfl)
    (case aKP => first | k_is | rfl); (case lKP => first | k_is | rfl); (case cKP => first | k_is | rfl); (case kKP => first | k_is | rfl); (case aPR => first | k_is | rfl); (case lPR => first | k_is | rfl)
    (case cPR => first | k_is | rfl); (case kPR => first | k_is | rfl); (case aBH => first | k_is | rfl); (case lBH => first | k_is | rfl); (case cBH => first | k_is | rfl); (case kBH => first | k_is | rfl)
    (case aCU => first | k_is | rfl); (case lCU => first | k_is | rfl); (case cCU => first | k_is | rfl); (case kCU => first | k_is | rfl); (case aFD => first | k_is | rfl); (case lFD => first | k_is | rfl)
    (case cFD => first | k_is | rfl); (case kFD => first | k_is | rfl); (case aLT8 => first | k_is | rfl); (case lLT8 => first | k_is | rfl); (case cLT8 => first | k_is | rfl); (case kLT8 => first | k_is | rfl)
    (case aTH => first | k_is | rfl); (case lTH => first | k_is | rfl); (case cTH => first | k_is | rfl); (case kTH => first | k_is | rfl); (case aE => first | k_is | rfl); (case lE => first | k_is | rfl)
    (case cE => first | k_is | rfl); (case kE => first | k_is | rfl); (case aD => first | k_is | rfl); (case lD => first | k_is | rfl); (case cD => first | k_is | rfl); (case kD => first | k_is | rfl)
    (case aL => first | k_is | rfl); (case lL => first | k_is | rfl); (case cL => first | k_is | rfl); (case kL => first | k_is | rfl); (case aSU => first | k_is | rfl); (case lSU => first | k_is | rfl)
    (case cSU => first | k_is | rfl); (case kSU => first | k_is | rfl); (case aLT => first | k_is | rfl); (case lLT => first | k_is | rfl); (case cLT => first | k_is | rfl); (case kLT => first | k_is | rfl)
    (case aLL => first | k_is | rfl); (case lLL => first | k_is | rfl); (case cLL => first | k_is | rfl); (case kLL => first | k_is | rfl); (case aLF => first | k_is | rfl); (case lLF => first | k_is | rfl)
    (case cLF => first | k_is | rfl); (case kLF => first | k_is | rfl); (case aAL => first | k_is | rfl); (case lAL => first | k_is | rfl); (case cAL => first | k_is | rfl); (case kAL => first | k_is | rfl)
    (case aCH => first | k_is | rfl); (case lCH => first | k_is | rfl); (case cCH => first | k_is | rfl); (case kCH => first | k_is | rfl); (case aBD => first | k_is | rfl); (case lBD => first | k_is | rfl)
    (case cBD => first | k_is | rfl); (case kBD => first | k_is | rfl); (case aLM => first | k_is | rfl); (case lLM => first | k_is | rfl); (case cLM => first | k_is | rfl); (case kLM => first | k_is | rfl)
    (case aAN => first | k_is | rfl); (case lAN => first | k_is | rfl); (case cAN => first | k_is | rfl); (case kAN => first | k_is | rfl); (case aSP => first | k_is | rfl); (case lSP => first | k_is | rfl)
    (case cSP => first | k_is | rfl); (case kSP => first | k_is | rfl); (case aBRI => first | k_is | rfl); (case lBRI => first | k_is | rfl); (case cBRI => first | k_is | rfl); (case kBRI => first | k_is | rfl)
    (case aZ => first | k_is | rfl); (case lZ => first | k_is | rfl); (case cZ => first | k_is | rfl); (case kZ => first | k_is | rfl); (case g_NOUGHT => first | k_is | rfl); (case l_NOUGHT => first | k_is | rfl)
    (case g_ONE => first | k_is | rfl); (case l_ONE => first | k_is | rfl); (case z_abs => first | k_is | rfl); (case z_enumerate => first | k_is | rfl); (case z_int => first | k_is | rfl); (case z_len => first | k_is | rfl)
    (case z_list => first | k_is | rfl); (case z_min => first | k_is | rfl); (case z_range => first | k_is | rfl); (case z_repr => first | k_is | rfl); (case z_sum => first | k_is | rfl); (case z_tuple => first | k_is | rfl)
    (case z_zip => first | k_is | rfl)
