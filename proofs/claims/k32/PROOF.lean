import PyProof.Rows.All
import Wide.All
import OpenK.AllK
import Wide.FinOn
import PyProof.ReprRoads
import PyProof.ReprLen
import HandS.Base
import HandS.Call
import HandS.List
import HandS.Ends
import HandS.Exc
import HandS.TryOnly
import HandS.ExcOwn
import HandS.ExcInit
import HandS.Dict
import HandS.Words
import HandS.WordsList
import HandS.WordsDict
import HandS.WordsExc
import HandS.Comp
import HandS.Iter
import HandS.Wide
import HandS.TupAny
import HandS.TupMul
import HandS.Conv
import HandS.Star
import HandS.Style
import HandS.Walk
import HandS.RaiseMore
import PyProof.CallFns
import HandS.WideBits
import KE.GoesEnumKw
import PySem.Challenge.RW_freshparts_k32_whole_what_stands_hangs_t
set_option Elab.async false
set_option linter.all false
set_option maxRecDepth 100000
set_option maxHeartbeats 4000000
namespace Fp
open PySem PySem.Spec PyProof.Rows L2

/-! ### promises of defs that show things: no repr runs around the call -/
structure FnG (P : Program) (w : World) (K : PySem.W.Frag) (mg : Str → Option Value) (base : Heap) (CX : CXT) (lv : Nat) (f : Addr) (fd : FuncData) (ps : List Str) (sp : Sp) : Prop where
  lens : ∀ vs H Q E, sp vs H Q E → vs.length = ps.length
  runs : ∀ (A : Around) (outer : List Env) (s : Shared) (H : Hp) (args : Args) (us : List Value) (vs : List V) (Q : VK) (E : XK), A.guards = some [] → Room lv A → Env0 P w K mg base A outer s H →
    BindsTo s fd args (ps.zip us) → Vals vs us → sp vs H Q E → codeAny (model P w) A (.call (.ref f) args) (CR CX outer P w H s Q E) s

section
variable {X : Cx} {CX : CXT} {lv : Nat} {f : Addr} {fd : FuncData} {ps : List Str} {sp : Sp} {E : XK} {x : Str} {p pos : Pos} {e : Expr} {es : List Expr} {t : TA}
theorem run_g {pins : List (Addr × Obj)} {σ : L2.St} {H : Hp} {s : Shared} {Q : VK} {us : List Value} {vs : List V} (G : FnG X.prog X.w X.K X.mg X.base CX lv f fd ps sp) (hq : X.A.guards = some []) (hr : Room lv X.A) (hb : Binds X.K fd ps [])
    (hx : Passes CX X E) (I : Inv X pins σ H s) (r : Vals vs us) (h : sp vs H Q E) : wpAny (model X.prog X.w) X.A (call (.ref f) us) (EP X pins σ Q) X.xe s := by
  have hl : us.length = ps.length := r.length.symm.trans (G.lens _ _ _ _ h)
  have b := hb s us I.kIn (by rw [List.append_nil]; exact hl)
  rw [List.append_nil] at b
  refine wpAny_call (codeAny_mono (G.runs X.A X.stack s H ⟨us, []⟩ us vs Q E hq hr I.env0 b r h) fun res s2 z => ?_)
  match res, z with
  | .error e, z => exact hx pins σ H s e s2 I z
  | .ok (.ret u), z => exact I.after z
  | .ok .next, z => exact False.elim z
  | .ok .brk, z => exact False.elim z
  | .ok .cont, z => exact False.elim z
def tCallG (sp : Sp) (E : XK) (t : TA) : TE := fun σ H Q => t σ H fun vs H1 => sp vs H1 Q E
theorem pe_callG (G : FnG X.prog X.w X.K X.mg X.base CX lv f fd ps sp) (hq : X.A.guards = some []) (hr : Room lv X.A) (hg : Gl X x) (hm : X.mg x = some (.ref f)) (hk : PySem.W.keepIn X.K (.ref f) = true) (hb : Binds X.K fd ps []) (hx : Passes CX X E)
    (ha : PA X (e :: es) t) (hdb : (x == ("__debug__" : Str)) = false := by decide) (he : starEach (e :: es) X.env = (false, eval e X.env) :: starEach es X.env := by rfl) (hpl : (backTo pos (starEach es X.env)).any (·.1) = false := by rfl) :
    PE X (.Call (.Name x p) (e :: es) [] pos) (tCallG sp E t) := by
  refine ⟨fun pins s σ H Q I h => wpAny_Call_Name_kw (ld_glob I hg hm ?_ hdb)⟩
  refine PySem.W.callWith_K (h₀ := X.base) I.ok.mod.kin hk (thn (ha.run pos pins s σ H _ I h) fun us s1 z => ?_) he hpl
  obtain ⟨vs, H1, I1, r, q⟩ := z
  exact ⟨I1.kIn, run_g G hq hr hb hx I1 r q⟩
end

section
variable {P : Program} {w : World} {K : PySem.W.Frag} {mg : Str → Option Value} {base : Heap}
theorem okG {x qual : Str} {st : Stmt} {f : Addr} {fd : FuncData} {N ps : List Str} {lv : Nat} {sp : Sp} (F : Fun K x qual st f fd) (S : FnScope N ps (defScope st)) (len : ∀ vs H Q E, sp vs H Q E → vs.length = ps.length)
    (hbody : ∀ (cdv : Value) (A : Around) (outer : List Env) (s : Shared) (H : Hp) (vs : List V) (Q : VK) (E : XK), (A.deeper (envOfC qual (defScope st) s.heap.objs.size f cdv)).guards = some [] → Room lv (A.deeper (envOfC qual (defScope st) s.heap.objs.size f cdv)) →
      sp vs H Q E → ∃ t, PSs (cxOf CX0 P w K mg base N qual (defScope st) f cdv A outer s H E).nox (defBody st) t ∧ t { nx := fun _ H' => Q .non H', rt := Q } (start N vs) H) : FnG P w K mg base CX0 (lv + 1) f fd ps sp := by
  obtain ⟨oc, od, kV, doc, pm, an, cdv, ct, osl, rfl, lk, hcd⟩ := F.ex
  refine ⟨len, fun A outer s H args us vs Q E hq hr e0 hb r hsp => ?_⟩
  have hl := len _ _ _ _ hsp
  have KX : K.In s.heap := e0.mod.kin.keeps fun b o z => (e0.bs b o z).1
  have lim : s.heap.NoLimit := e0.mod.nolimit.keeps fun b o z => (e0.bs b o z).1
  have kinds : ∀ y ∈ ps.zip us, (defScope st).names.lookup y.1 = some .local ∨ ((defScope st).names.lookup y.1 = some .cell ∧ ((cellsFrom (s.heap.objs.size + 1) (defScope st).names []).lookup y.1).isSome = true) := by
    rintro ⟨n, v⟩ hy
    exact (S.par n (List.of_mem_zip hy).1).imp id fun q => ⟨q, PySem.W.cellsFrom_some _ _ _ (.inl q)⟩
  refine codeAny_call_function hr.depth (KX _ _ lk) rfl S.co S.gen rfl (PySem.W.codeRec_of KX hcd) (hb _ _ _ _ ?_)
  refine wpAny_newFunctionEnv_cells S.kind kinds fun env he s1 z => ?_
  subst he
  refine ⟨lim.keeps z.toInCall.keep, codeAny_func ?_⟩
  obtain ⟨t, ht, hq2⟩ := hbody cdv A outer s H vs Q E hq (hr.deeper _) hsp
  have I : Inv (cxOf CX0 P w K mg base N qual (defScope st) f cdv A outer s H E) [] (start N vs) H s1 := inv_start S hr.hd e0 hl r z
  refine wpAny_mono (ht.nox.run [] s1 (start N vs) H _ I hq2) (fun fl s2 hs => ?_) fun _ _ hs => hs
  have fin : ∀ {σ' : L2.St} {H' : Hp} {v : V} {u : Value}, Inv (cxOf CX0 P w K mg base N qual (defScope st) f cdv A outer s H E) [] σ' H' s2 → RelV v u → Q v H' → CE outer P w H s Q u s2 :=
    fun {_ H' v _} J rv q => ⟨v, H', J.os, J.bare, J.base, J.hok, rv, q⟩
  match fl, hs with
  | .ret u, ⟨v, σ', H', J, rv, q⟩ => exact fin J rv q
  | .next, ⟨σ', H', J, q⟩ => exact fin (v := V.non) (u := Value.none) J rfl q
  | .brk, ⟨_, _, _, q⟩ => exact False.elim q
  | .cont, ⟨_, _, _, q⟩ => exact False.elim q
end

/-! ### the end of a law that shows things -/
theorem lawG {P : Program} {w : World} {K : PySem.W.Frag} {mg mb : Str → Option Value} {lv : Nat} {fa a : Addr} {fd : FuncData} {x : Str} {sp : Sp} {s1 : Shared} {vs : List Value} {ns : List Int}
    (KX : K.In s1.heap) (hns : s1.heap.Ns mainGlobals mg) (hb : s1.heap.Ns builtinsNs mb) (hbb : ∀ x : Str, x ≠ "__name__" → mb x = bootBuiltins x) (hlim : s1.heap.NoLimit) (hg : s1.gens = #[])
    (ha : s1.heap.get? a = some { cls := .type "list", data := .seq vs.toArray }) (hi : IntsAre vs ns) (hl : ns.length ≤ sizeLine) (hr : Room lv callerA)
    (G : ∀ base : Heap, K.In base → base.Ns mainGlobals mg → FnG P w K mg base CX0 lv fa fd [x] sp) (hbind : ∀ (s : Shared) (u : Value), BindsTo s fd ⟨[u], []⟩ [(x, u)])
    (hsp : ∀ H : Hp, Only H → SqL K H a (ns.map V.int) → sp [.ref a] H (fun v _ => v = .bl true) fun _ _ _ => False) :
    codeAny (model P w) callerA (.call (.ref fa) ⟨[.ref a], []⟩) (fun r s2 => r = .ok (.ret (.bool true)) ∧ OldK s1.heap s2.heap ∧ s2.os = s1.os ∧ AllBare s2.gens) s1 := by
  have rv := vals_ints hi
  have lenV := hi.length
  have main : ∀ H : Hp, Only H → SqL K H a (ns.map V.int) → HOk P w H s1.heap → (∀ b, H b ≠ none → b = a) → (H a ≠ none → K.lookup a = none) →
      codeAny (model P w) callerA (.call (.ref fa) ⟨[.ref a], []⟩) (fun r s2 => r = .ok (.ret (.bool true)) ∧ OldK s1.heap s2.heap ∧ s2.os = s1.os ∧ AllBare s2.gens) s1 := by
    intro H hO hS hok hA hK
    have kept : ∀ {b : Addr} {o : Obj}, s1.heap.get? b = some o → H b = none → (hidT s1.heap H).get? b = some o := fun z n => hidT_get z n
    have isA : ∀ {b : Addr} {u : HO}, H b = some u → b = a := fun {b u} z => hA b (by rw [z]; simp)
    have noD : ∀ {b : Addr} {o : Obj} {es : Array DictEntry} {ep : Nat}, s1.heap.get? b = some o → o.data = .dict es ep → H b = none := by
      intro b o es ep z d
      match q : H b with
      | none => rfl
      | some u =>
        have e2 := isA q
        subst e2
        rw [ha] at z; cases z
        have d2 : Data.seq vs.toArray _ = Data.dict es ep := d
        cases d2
    have nsK : ∀ {b : Addr} {m : Str → Option Value}, s1.heap.Ns b m → (hidT s1.heap H).Ns b m := fun {b m} z => by
      obtain ⟨o, es, ep, e1, d1, r1⟩ := z
      exact ⟨o, es, ep, kept e1 (noD e1 d1), d1, r1⟩
    have kinB : K.In (hidT s1.heap H) := fun b o z => kept (KX b o z) (by
      match q : H b with
      | none => rfl
      | some u =>
        have e2 := isA q
        subst e2
        rw [hK (by rw [q]; simp)] at z; cases z)
    have M : Mod K mg (hidT s1.heap H) := ⟨kinB, nsK hns, ⟨mb, nsK hb, hbb⟩, by obtain ⟨mc, h1, h2⟩ := hlim; exact ⟨mc, nsK h1, h2⟩⟩
    have nil_fr : ∀ {b : Addr}, ¬ b ∈ frs [] := fun {b} z => by
      have z2 : b ∈ ([] : List Addr) := z
      simp at z2
    have e0 : Env0 P w K mg (hidT s1.heap H) callerA [] s1 H := ⟨rfl, M, fun b o z => of_hidT z, Nat.le_of_eq (hidT_size _ _), trivial, fun b z => absurd z nil_fr, hok, .of_eq hg⟩
    refine codeAny_mono ((G _ kinB (nsK hns)).runs callerA [] s1 H ⟨[.ref a], []⟩ [.ref a] [.ref a] _ _ rfl hr e0 (hbind s1 (.ref a)) (.cons rfl .nil) (hsp H hO hS)) fun res s2 z => ?_
    match res, z with
    | .error e, z => exact False.elim z
    | .ok .next, z => exact False.elim z
    | .ok .brk, z => exact False.elim z
    | .ok .cont, z => exact False.elim z
    | .ok (.ret u), z =>
      obtain ⟨v, H2, os, bare, un, hok2, r2, q⟩ := z
      have qv : v = .bl true := q
      subst qv
      obtain rfl : u = Value.bool true := r2
      refine ⟨rfl, OldK.of_keep fun b o e1 => ?_, os, bare⟩
      match q : H b with
      | none => exact un.keep b o e1 q nil_fr (by simp)
      | some u =>
        rcases hO b with z | ⟨ob, xs, z⟩
        · rw [q] at z; cases z
        · obtain ⟨g1, _⟩ := hok b _ z
          obtain ⟨g2, _⟩ := hok2 b _ (un.frzs b ob _ z)
          rw [e1] at g1; cases g1
          exact g2
  match hk : K.lookup a with
  | some o =>
    have z := KX a o hk
    rw [ha] at z
    cases z
    refine main (fun _ => none) (fun _ => .inl rfl) (.inr ⟨_, vs.toArray, _, hk, rfl, rfl, rfl, by rw [List.size_toArray, lenV]; exact hl, by simpa using rv⟩) (fun b u z => ?_) (fun b z => absurd rfl z) fun z => absurd rfl z
    have z2 : (none : Option HO) = some u := z
    cases z2
  | none =>
    have yes : ∀ {b : Addr}, b = a → (if b = a then some (HO.frz { cls := .type "list", data := .seq vs.toArray } (.lst (ns.map V.int))) else none) = some (HO.frz { cls := .type "list", data := .seq vs.toArray } (.lst (ns.map V.int))) := fun z => if_pos z
    have nay : ∀ {b : Addr}, b ≠ a → (if b = a then some (HO.frz { cls := .type "list", data := .seq vs.toArray } (.lst (ns.map V.int))) else none) = none := fun z => if_neg z
    refine main (fun b => if b = a then some (HO.frz { cls := .type "list", data := .seq vs.toArray } (.lst (ns.map V.int))) else none) (fun b => ?_) (.inl (.inr ⟨_, yes rfl⟩)) (fun b u z => ?_) (fun b z => ?_) fun _ => hk
    · rcases Classical.em (b = a) with h | h
      · exact .inr ⟨_, _, yes h⟩
      · exact .inl (nay h)
    · rcases Classical.em (b = a) with h | h
      · have z2 := (yes h).symm.trans z
        cases z2
        subst h
        exact ⟨ha, by rw [List.length_map]; exact hl, vs, _, rv, ha⟩
      · have z2 := (nay h).symm.trans z
        cases z2
    · rcases Classical.em (b = a) with h | h
      · exact h
      · exact absurd (nay h) z

theorem walkG {l : PySem.W.OpenLaw} {n lv : Nat} {q : Program} {loose : List Str} {XP : (Str → Option Value) → Heap → Prop} {YP : World → Heap → Prop} {d : DefRec} {K : Params → PySem.W.Frag} {sp : World → Sp} {x : Str}
    (hn : l.most = some n) (hn2 : n ≤ sizeLine) (hdf : d.params.defaults = []) (hr : Room lv callerA) (hY : ∀ (w : World) (h : Heap), YP w h → (K w.params).In h)
    (G : ∀ (w : World) (mg : Str → Option Value) (fa : Addr) (h : Heap), (K w.params).In h → h.Ns mainGlobals mg → mg d.name = some (.ref fa) →
      ∃ fd : FuncData, (∀ (s : Shared) (u : Value), BindsTo s fd ⟨[u], []⟩ [(x, u)]) ∧ ∀ base : Heap, (K w.params).In base → base.Ns mainGlobals mg → FnG l.prog w (K w.params) mg base CX0 lv fa fd [x] (sp w))
    (hsp : ∀ (w : World) (H : Hp) (a : Addr) (ns : List Int), ns.length ≤ n → Only H → SqL (K w.params) H a (ns.map V.int) → sp w [.ref a] H (fun v _ => v = .bl true) fun _ _ _ => False) :
    PySem.W.WalkO q loose XP YP l.row.toRowW d [] (fun f vs => PySem.call f vs) := by
  refine Att.attach_call hn hdf fun w s0 s1 mg mb fa o pm cd doc a vs ns Gr Y ho hd hcd hmg hobj hints hlen hg => ?_
  have KX := hY w _ Y
  obtain ⟨fd, hb, hF⟩ := G w mg fa _ KX Gr.T.g hmg
  exact lawG KX Gr.T.g Gr.T.b Gr.T.builtins Gr.T.nolimit hg hobj hints (Nat.le_trans hlen hn2) hr hF hb fun H hO hS => hsp w H a ns hlen hO hS

/-! ### repr of tuples and lists -/
mutual
theorem dp_noDict {K : PySem.W.Frag} {H : Hp} : ∀ {v : V} {d : PyData}, Dp K H v d → d.hasDict = false
  | _, _, .non => by simp only [PyData.hasDict]
  | _, _, .bl _ => by simp only [PyData.hasDict]
  | _, _, .int _ => by simp only [PyData.hasDict]
  | _, _, .str _ => by simp only [PyData.hasDict]
  | _, _, .lst _ h => by simp only [PyData.hasDict]; exact dp_noDictAll h
  | _, _, .tup _ h => by simp only [PyData.hasDict]; exact dp_noDictAll h
theorem dp_noDictAll {K : PySem.W.Frag} {H : Hp} : ∀ {vs : List V} {ds : List PyData}, DpAll K H vs ds → PyData.hasDictAll ds = false
  | _, _, .nil => by simp only [PyData.hasDictAll]
  | _, _, .cons h r => by simp only [PyData.hasDictAll, dp_noDict h, dp_noDictAll r, Bool.or_false]
end
/-! how long a thing is, shown, at most -/
mutual
def cost : PyData → Nat
  | .none | .bool _ => 5
  | .int _ => 2000
  | .str x => 10 * x.cps.size + 2
  | .list xs | .tuple xs => costAll xs + 3
  | .dict _ => 0
def costAll : List PyData → Nat
  | [] => 0
  | x :: xs => cost x + 2 + costAll xs
end
mutual
theorem shown_cost : ∀ d : PyData, d.leavesShort 2000 = true → d.hasDict = false → d.shown.length ≤ cost d
  | .none, _, _ => by decide
  | .bool b, _, _ => by cases b <;> decide
  | .int i, h, _ => by
    simp only [PyData.leavesShort, decide_eq_true_eq] at h
    simp only [cost]
    exact h
  | .str x, h, _ => by
    have hx : ∀ c ∈ x.cps.toList, c < 16 ^ 8 := by simpa only [PyData.leavesShort, List.all_eq_true, decide_eq_true_eq] using h
    have e := StrLaws.reprText_len x hx
    have e2 : x.length = x.cps.size := rfl
    simp only [PyData.shown, cost]
    omega
  | .list xs, h, hd => by
    have h1 := shown_costs xs (by simpa only [PyData.leavesShort] using h) (by simpa only [PyData.hasDict] using hd)
    have h2 := listText_len_le (PyData.shownAll xs)
    have h3 := PyData.shownAll_length xs
    simp only [PyData.shown, cost]
    omega
  | .tuple xs, h, hd => by
    have h1 := shown_costs xs (by simpa only [PyData.leavesShort] using h) (by simpa only [PyData.hasDict] using hd)
    have h2 := tupleText_len_le (PyData.shownAll xs)
    have h3 := PyData.shownAll_length xs
    simp only [PyData.shown, cost]
    omega
  | .dict _, _, hd => by simp [PyData.hasDict] at hd
theorem shown_costs : ∀ xs : List PyData, PyData.leavesShortAll 2000 xs = true → PyData.hasDictAll xs = false → ((PyData.shownAll xs).map (·.length)).sum + 2 * xs.length ≤ costAll xs
  | [], _, _ => by simp only [PyData.shownAll, costAll, List.map_nil, List.sum_nil, List.length_nil]; omega
  | x :: xs, h, hd => by
    simp only [PyData.leavesShortAll, Bool.and_eq_true] at h
    simp only [PyData.hasDictAll, Bool.or_eq_false_iff] at hd
    have h1 := shown_cost x h.1 hd.1
    have h2 := shown_costs xs h.2 hd.2
    simp only [PyData.shownAll, costAll, List.map_cons, List.sum_cons, List.length_cons]
    omega
end
/-- what may be shown: ints of at most 1919 bits, texts of plain signs; its length and depth bounded -/
def Shows (d : PyData) : Prop := d.showable = true ∧ d.leavesShort 2000 = true ∧ cost d ≤ 16000000 ∧ d.depth ≤ 60
theorem Shows.len {d : PyData} (h : Shows d) (n : d.hasDict = false) : d.shown.length ≤ sizeLine := by
  have e := shown_cost d h.2.1 n
  have w := h.2.2.1
  rw [sizeLine_eq]
  omega
section
variable {X : Cx}
theorem call_reprD {lv : Nat} (hq : X.A.guards = some []) (hr : Room lv X.A) : CallR X (.builtin "repr") (fun xs H Q => ∃ a d, xs = [.ref a] ∧ Dp X.K H (.ref a) d ∧ Shows d ∧ Q (.str d.shown) H) := by
  intro pins s σ H xs us Q I r h
  obtain ⟨a, d, rfl, hd, hs, q⟩ := h
  obtain ⟨u, rfl, ru⟩ := vals1 r
  obtain ⟨as, rd⟩ := Dp.reads I d _ _ hd ru
  obtain rfl : u = Value.ref a := ru
  have hu := hr.un
  have hdp := hs.2.2.2
  refine repr_of_reads' (h₀ := s.heap) rd hs.1 (PyData.noDict_hsm (dp_noDict hd)) hq (by omega) (fun _ _ z => z) (fun h' t tk k => ?_) (hs.len (dp_noDict hd))
  exact ⟨.str d.shown, H, I.kept k, ⟨t, rfl⟩, q⟩
/-- // by any number but nought, below 2 ^ 9000 in size -/
def CDivA (_ j : Int) : Prop := j ≠ 0 ∧ j.natAbs.log2 < 9000
theorem op_fdivA : OpR X (binaryOp .FloorDiv) (rI CDivA fun i j => .int (i.fdiv j)) := opI fun i j _ _ _ _ _ hc q => floordiv_int hc.1 q (.inl (PyProof.noPylong_of_log2 hc.2))
/-- * of two factors of together less than a million bits -/
def CMulA (i j : Int) : Prop := i.natAbs.log2 + j.natAbs.log2 < 1000000
theorem mulA_ok {i j : Int} (h : CMulA i j) : IntMulOk i j := by
  have bits : ∀ x : Int, Builtin.Int.intBits x ≤ x.natAbs.log2 + 1 := fun x => by
    unfold Builtin.Int.intBits
    split <;> omega
  have h1 := bits i
  have h2 := bits j
  have h3 : i.natAbs.log2 + j.natAbs.log2 < 1000000 := h
  intro z
  rw [Bool.and_eq_true] at z
  have z3 := of_decide_eq_true (show decide _ = true from z.2)
  have e : bitsLine = 134217728 := by decide
  rw [e] at z3
  omega
theorem op_mulA : OpR X (binaryOp .Mult) (rI CMulA fun i j => .int (i * j)) := opI fun _ _ _ _ _ _ _ hc q => mul_int q (mulA_ok hc)
end
/-! ### a word between two statements -/
def tMid (t u : TS) : TS := fun D σ H => ∃ M : L2.St → Hp → Prop, t { D with nx := M } σ H ∧ ∀ σ2 H2, M σ2 H2 → u D σ2 H2
theorem pss_mid {X : Cx} {st : Stmt} {more : List Stmt} {t u : TS} (a : PS X st t) (b : PSs X more u) : PSs X (st :: more) (tMid t u) := by
  refine ⟨fun pins s σ H D I h => ?_⟩
  obtain ⟨M, hm, hu⟩ := h
  refine wpAny_execs_cons (thn (a.run pins s σ H { D with nx := M } I hm) fun fl s1 z => ?_)
  match fl, z with
  | .next, ⟨σ2, H2, I2, z⟩ => exact b.run pins s1 σ2 H2 D I2 (hu σ2 H2 z)
  | .ret v, z => exact z
  | .brk, z => exact z
  | .cont, z => exact z
end Fp

set_option Elab.async false
set_option linter.all false
set_option maxRecDepth 100000
set_option maxHeartbeats 4000000
namespace Fp
open PySem PySem.Spec PyProof.Rows L2
/-! ### C.f(e, ..), C a class of one's own, f a def of its body -/
structure ClsFn (K : PySem.W.Frag) (C : Addr) (m : Str) (f : Addr) : Prop where
  rd : PySem.W.readsIn K C (.type "type") = true
  fc : PySem.W.findCls K (.ref C) (.type "type") m = some (.val (.ref f))
  hd : PySem.W.handedIn (.ref f) = true
  sp : PySem.W.specialIn K (.ref C) "__getattribute__" = some (some (.builtin "type.__getattribute__"))
  kp : PySem.W.keepIn K (.ref f) = true
section
variable {X : Cx} {CX : CXT} {lv : Nat} {f C : Addr} {fd : FuncData} {ps : List Str} {sp : Sp} {E : XK} {x m : Str} {p pos apos : Pos} {e : Expr} {es : List Expr} {t : TA}
theorem pe_clsfn {pl : Sem Bool} (c : ClsFn X.K C m f) (F : FnOk X.prog X.w X.K X.mg X.base CX lv f fd ps sp) (hr : Room lv X.A) (hg : Gl X x) (hm : X.mg x = some (.ref C)) (hb : Binds X.K fd ps []) (hx : Passes CX X E) (ha : PA X (e :: es) t)
    (hdb : (x == ("__debug__" : Str)) = false := by decide) (hst : starEach (e :: es) X.env = (false, eval e X.env) :: starEach es X.env := by rfl) (hpl : (backTo pos (starEach es X.env)).any (·.1) = false := by rfl)
    (ht : eval (.Call (.Attribute (.Name x p) m apos) (e :: es) [] pos) X.env = (do
      let ov ← eval (.Name x p) X.env
      standAt apos.atName
      let (g, first) ← holding [ov] (getMethod ov m pl)
      callWith pos g first (backTo pos (starEach (e :: es) X.env)) (backToKw pos (keywordEach [] X.env))) := by rfl) :
    PE X (.Call (.Attribute (.Name x p) m apos) (e :: es) [] pos) (tCall sp [] E t) := by
  refine ⟨fun pins s σ H Q I h => PySem.W.methodCall_KW (pl := pl) (ld_glob I hg hm ?_ hdb) ht⟩
  refine PySem.W.method_cls I.kIn c.sp (PySem.W.cls_value I.kIn c.rd c.fc c.hd ?_)
  refine PySem.W.callWith_K (first := []) (h₀ := X.base) I.ok.mod.kin c.kp (thn (ha.run pos pins _ σ H _ (I.tok _) h) fun us s2 z => ?_) hst hpl
  obtain ⟨vs, H2, I2, r, q⟩ := z
  exact ⟨I2.kIn, run_fn F hr hb .nil hx I2 r q⟩
end
/-- an error of the class at S is what an except of S names -/
theorem exm_own {K : PySem.W.Frag} {S : Addr} (h1 : PySem.W.subIn K (.ref S) (.type "BaseException") = some true) (h2 : PySem.W.isClsIn K S = true) (h3 : PySem.W.typeIn K (.ref S) = some (.type "type")) (h4 : PySem.W.subIn K (.ref S) (.ref S) = some true) :
    PySem.W.exmOne K (.ref S) (.ref S) = some true := by
  have y1 : (PySem.W.subIn K (.ref S) (.type "BaseException") == some true) = true := by rw [h1] <;> rfl
  have y2 : ((PySem.W.clsIn K S).isSome && PySem.W.typeIn K (.ref S) == some (.type "type")) = true := by
    have h5 : (PySem.W.clsIn K S).isSome = true := h2
    rw [h5, h3] <;> rfl
  show (if (PySem.W.subIn K (.ref S) (.type "BaseException") == some true) = true then (if ((PySem.W.clsIn K S).isSome && PySem.W.typeIn K (.ref S) == some (.type "type")) = true then PySem.W.subIn K (.ref S) (.ref S) else none) else none) = some true
  rw [if_pos y1, if_pos y2]
  exact h4
/-! ### C(), C an own exception over ValueError whose __init__ stores nothing -/
section
variable {X : Cx}
/-- the promise of such an __init__ of one argument, self -/
def spIni (K : PySem.W.Frag) : Sp := fun vs H Q _ => ∃ a C : Addr, vs = [.ref a] ∧ OexC K C ∧ H a = some (exo a C none) ∧ Q .non H
/-- .. of self and a text -/
def spIni1 (K : PySem.W.Frag) : Sp := fun vs H Q _ => ∃ (a C : Addr) (y : V), vs = [.ref a, y] ∧ OexC K C ∧ H a = some (exo a C none) ∧ Q .non H
theorem let_go {pins : List (Addr × Obj)} {σ : L2.St} {H1 : Hp} {hp hp2 h2 : Heap} {g1 g2 : Array GenState} {d1 d2 : Drawn} {t1 t2 : Nat} {os1 os2 : OsState} {a C : Addr} (I1 : Inv X pins σ H1 ⟨hp, g1, d1, t1, os1⟩)
    (ha : hp.objs.size ≤ a) (k : ∀ b o, hp.get? b = some o → hp2.get? b = some o) (un : Un (frs X.stack) [] (upd H1 a (exo a C none)) (upd H1 a (exo a C none)) hp2 h2) (hok : HOk X.prog X.w (upd H1 a (exo a C none)) h2) (ho : os2 = os1) (hb : AllBare g2) :
    ∃ (t0 : Addr) (G : Heap), Inv X pins σ H1 ⟨G, g2, d2, t2, os2⟩ ∧ (∀ b o, G.get? b = some o → h2.get? b = some o) ∧ G.get? a = none ∧
      h2.get? a = some ({ cls := .ref C, dict := none, data := .fields #[.ref t0, .none, .none, .none, .bool false, .none] } : Obj) := by
  obtain ⟨t0, hoe⟩ := exo_at hok (upd_same (H := H1))
  have hn : H1 a = none := I1.hok.fresh ha
  obtain ⟨G, y1, y2⟩ := restrict h2 fun b => decide (b ≠ a)
  have gk : ∀ b, b ≠ a → G.get? b = h2.get? b := fun b hb => y1 b (decide_eq_true hb)
  have ge : G.get? a = none := y2 a (by simp)
  have old : ∀ {b : Addr} {o : Obj}, hp.get? b = some o → b ≠ a := fun {b o} z => Nat.ne_of_lt (Nat.lt_of_lt_of_le (Heap.lt_size z) ha)
  have up : ∀ {b : Addr}, b ≠ a → H1 b = none → upd H1 a (exo a C none) b = none := fun {b} hb n => by rw [upd_ne hb]; exact n
  have dn : ∀ {b : Addr} {u : HO}, H1 b = some u → upd H1 a (exo a C none) b = some u := fun {b u} z => by rw [upd_ne (ne_of_none z hn)]; exact z
  have ne : ∀ {b : Addr} {u : HO}, H1 b = some u → b ≠ a := fun {b u} z => ne_of_none z hn
  have U : Un (frs X.stack) [] H1 H1 hp G :=
    ⟨fun b o z n hf hx => by rw [gk b (old z)]; exact un.keep b o (k b o z) (up (old z) n) hf hx,
     fun b o z n hf hx => by rw [gk b (old z)]; exact un.slot b o (k b o z) (up (old z) n) hf hx,
     fun b o z n hx => n,
     fun b o z hx => by rw [gk b (old z)]; exact un.there b o (k b o z) hx,
     fun b xs z => z, fun b o v z => z, fun b qs z => ⟨#[], by rw [z]; simp⟩⟩
  have hok3 : HOk X.prog X.w H1 G := fun b o z => by
    refine (hok b o (dn z)).stay (fun c v hc y => ?_) (fun c hc => ?_) (fun c xs hc => ?_)
    · have hca : c ≠ a := by
        rcases hc with hc | hc
        · rw [hc]; exact ne z
        · exact at_ne (upd_same (H := H1)) hc exo_own
      rw [gk c hca]
      exact y
    · have hca : c ≠ a := at_ne (upd_same (H := H1)) hc exo_own
      rw [upd_ne hca] at hc
      exact hc
    · have hca : c ≠ a := at_ne (upd_same (H := H1)) hc exo_tup
      rw [upd_ne hca] at hc
      exact hc
  have J : Inv X pins σ H1 ⟨G, g2, d2, t2, os2⟩ := I1.call' (ch := []) ho U hok3 hb (fun b z => absurd z (by simp))
  refine ⟨t0, G, J, fun b o z => ?_, ge, hoe⟩
  rcases Classical.em (b = a) with hba | hba
  · rw [hba, ge] at z
    cases z
  · exact (gk b hba).symm.trans z
theorem pmk_bare {CX : CXT} {x : Str} {C fI : Addr} {lv : Nat} {fd : FuncData} {ps : List Str} {p pos : Pos} (T : OexC X.K C) (iC : PySem.W.findIn X.K (.ref C) "__init__" = some (some (.ref fI))) (tI : PySem.W.typeIn X.K (.ref fI) = some (.type "function"))
    (F1 : FnOk X.prog X.w X.K X.mg X.base CX lv fI fd ps (spIni X.K)) (hr : Room (lv + 1) X.A) (hb : Binds X.K fd ps []) (hx : Passes CX X (fun _ _ _ => False)) (hg : Gl X x) (hm : X.mg x = some (.ref C)) (hdb : (x == ("__debug__" : Str)) = false := by decide) :
    PMk X (.Call (.Name x p) [] [] pos) (fun _ H Q => Q (.ref C) none H) := by
  intro pins s σ H Q I h
  obtain ⟨nm, q, N, bs, bm, sn, sub, ab, col, dd, k0, k1, k2, k3, k5, hC, hbm⟩ := T.cls
  refine wpAny_Call_Name_kw (ld_glob I hg hm ?_ hdb)
  refine PySem.W.callWith_K0 I.kIn T.kC ?_
  show wpAny _ _ (call (.ref C) []) _ _ _
  obtain ⟨hp, g, dr, tk, os⟩ := s
  have hsz : hp.objs.size ≤ hp.objs.size + 1 := Nat.le_succ _
  have kk : ∀ b o, hp.get? b = some o → ((hp.push (PySem.W.kdv_tup [])).push (PySem.HandSPX.excO C hp.objs.size)).get? b = some o := fun b o z => Heap.get?_push_of_some _ (Heap.get?_push_of_some _ z)
  have hget : ((hp.push (PySem.W.kdv_tup [])).push (PySem.HandSPX.excO C hp.objs.size)).get? (hp.objs.size + 1) = some (PySem.HandSPX.excO C hp.objs.size) := by heap_get
  have I2 : Inv X pins σ (upd H (hp.objs.size + 1) (exo (hp.objs.size + 1) C none)) ⟨(hp.push (PySem.W.kdv_tup [])).push (PySem.HandSPX.excO C hp.objs.size), g, dr, tk, os⟩ :=
    I.laid (t' := tk) (a := hp.objs.size + 1) (o := exo (hp.objs.size + 1) C none) (h' := (hp.push (PySem.W.kdv_tup [])).push (PySem.HandSPX.excO C hp.objs.size)) kk hsz (exo_ok hget)
  have r2 : Vals [V.ref (hp.objs.size + 1)] [Value.ref (hp.objs.size + 1)] := .cons rfl .nil
  have hsp : spIni X.K [V.ref (hp.objs.size + 1)] (upd H (hp.objs.size + 1) (exo (hp.objs.size + 1) C none)) (fun v H2 => v = .non ∧ H2 = upd H (hp.objs.size + 1) (exo (hp.objs.size + 1) C none)) (fun _ _ _ => False) :=
    ⟨_, C, rfl, T, upd_same, rfl, rfl⟩
  have hl : ([Value.ref (hp.objs.size + 1)] ++ []).length = ps.length := by
    have z := F1.len _ _ _ _ hsp
    exact z
  refine wpAny_call (PySem.HandSPX.call_own F.excBase_ValueError (fun Y => PySem.HandSPX.refsVE_contains Y bm hbm) (I.kIn _ _ hC) (PySem.W.looks_findIn I.kIn iC) (fun self => PySem.W.bind_fn I.kIn self tI) (Nat.zero_le _)
    (codeAny_mono (F1.run _ X.stack _ _ ⟨[Value.ref (hp.objs.size + 1)], []⟩ [Value.ref (hp.objs.size + 1)] _ _ (fun _ _ _ => False) (hr.make C [] []) (I2.env0.make C [] []) (hb _ [Value.ref (hp.objs.size + 1)] I2.kIn hl) r2 hsp) fun res s2 z => ?_))
  match res, z with
  | .error er, z => exact hx pins σ _ _ er s2 I2 z
  | .ok .next, z => exact False.elim z
  | .ok .brk, z => exact False.elim z
  | .ok .cont, z => exact False.elim z
  | .ok (.ret u), z =>
    obtain ⟨v, H2, os2, bare2, un2, hok2, rv, ev, eH⟩ := z
    subst ev
    rw [eH] at un2 hok2
    obtain ⟨h2, g2, d2, t2, os3⟩ := s2
    obtain ⟨t0, G, J, kG, ge, hoe⟩ := let_go (d2 := d2) (t2 := t2) I hsz kk un2 hok2 os2 bare2
    exact ⟨rv, _, _, _, ⟨G, g2, d2, t2, os3⟩, _, .ref C, none, rfl, J, kG, ge, hoe, ⟨rfl, rfl⟩, rfl, rfl, I.hok.fresh hsz, rfl, bare2, raises_own T.exC T.tyC, h⟩
end
end Fp

set_option Elab.async false
set_option linter.all false
set_option maxRecDepth 100000
set_option maxHeartbeats 4000000
namespace Fp
open PySem PySem.Spec PyProof.Rows L2
/-! ### a tuple taken some times, none and once too -/
theorem tuple_mul_one (l : Addr) (items : Array Value) (n : Nat) (dd : Option Addr) (sl : Array (Option Value)) (u : Tok) :
    Meets (Builtin.«tuple.__mul__» ⟨[.ref l, .int 1 u], []⟩) (fun _ R s => s.heap.get? l = some { cls := .type "tuple", dict := dd, data := .seq items n, slots := sl } ∧ R (.ok (.ret (Value.ref l))) s) :=
  .of_wp fun prog w A R s h => by
    obtain ⟨hp, g, d, tk, os⟩ := s
    obtain ⟨hl, h⟩ := h
    have f1 := AutoSeq1.idx_int
    have c1 : (items.isEmpty || (1 : Int) == 1) = true := by simp
    wp_walk using wpAny_loadPart' hl
    exact ⟨_, rfl, h⟩
theorem tuple_mul_nil (l : Addr) (items : Array Value) (n : Nat) (dd : Option Addr) (sl : Array (Option Value)) (u : Tok) (c1 : items.isEmpty = false) :
    Meets (Builtin.«tuple.__mul__» ⟨[.ref l, .int 0 u], []⟩) (fun _ R s => s.heap.get? l = some { cls := .type "tuple", dict := dd, data := .seq items n, slots := sl } ∧
      R (.ok (.ret (Value.ref s.heap.objs.size))) { s with heap := s.heap.push { cls := Value.type "tuple", data := Data.seq #[] }, toks := s.toks }) :=
  .of_wp fun prog w A R s h => by
    obtain ⟨hp, g, d, tk, os⟩ := s
    obtain ⟨hl, h⟩ := h
    have f1 := AutoSeq1.idx_int
    have c2 : (items.isEmpty || (0 : Int) == 1) = false := by rw [c1]; rfl
    wp_walk using wpAny_loadPart' hl
    exact ⟨_, rfl, h⟩
def rRepA (K : PySem.W.Frag) : R2 := fun x y H Q => ∃ l k xs, x = .ref l ∧ y = .int k ∧ SqT K H l xs ∧ xs ≠ [] ∧ 0 ≤ k ∧ k ≤ 1000 ∧ xs.length ≤ 1000 ∧ (k = 1 → Q (.ref l) H) ∧ (k ≠ 1 → ∀ p, H p = none → Q (.ref p) (upd H p (.tup (List.replicate k.toNat xs).flatten)))
section
variable {X : Cx}
theorem op_repA : OpR X (binaryOp .Mult) (rRepA X.K) := by
  intro pins s σ H x y v u Q I rx ry h
  obtain ⟨l, k, xs, rfl, rfl, hT, hne, h0, h2, hz, q1, q2⟩ := h
  rcases (by omega : k = 0 ∨ k = 1 ∨ 2 ≤ k) with rfl | rfl | hk
  · cases rx
    obtain ⟨t, rfl⟩ := ry
    obtain ⟨its, r, ⟨⟨cls, dd, data, sl⟩, ho, hc, n, hd⟩, hs⟩ := I.tuple hT
    simp only at hc hd
    subst hc hd
    have hle : its.length = xs.length := r.length.symm
    have hi : its.toArray.isEmpty = false := by
      cases its with
      | nil => exact absurd (List.eq_nil_of_length_eq_zero hle.symm) hne
      | cons a b => rfl
    refine wpAny_binaryOp_repeat_ref (T := "tuple") (U := "int") (by decide) ⟨_, ho, rfl⟩ (fun s2 => typeIs_int s2 0 t) noFill_tuple_mul F.fills_int_mul F.slot_int_rmul repeat_tuple F.slot_int_index.lookup
      (call_meets F.slot_int_rmul (typeIs_int s 0 t) F.entry_int_rmul (F.args_int_rmul_2 _ _) (int_rmul_tuple 0 t l its.toArray n dd sl)
        ⟨ho, rfl, ⟨_, ho, rfl⟩, call_meets F.slot_tuple_mul ⟨_, ho, rfl⟩ F.entry_tuple_mul (F.args_tuple_mul_2 _ _) (tuple_mul_nil l its.toArray n dd sl t hi) ⟨ho, ?_⟩⟩)
    refine ⟨.ref s.heap.objs.size, _, I.laid (t' := s.toks) (o := .tup []) (fun b ob z => Heap.get?_push_of_some _ z) (Nat.le_refl _) ?_, rfl, q2 (by decide) _ (I.hok.fresh (Nat.le_refl _))⟩
    exact ⟨Nat.zero_le _, [], .nil, IsTup.new _ _⟩
  · cases rx
    obtain ⟨t, rfl⟩ := ry
    obtain ⟨its, r, ⟨⟨cls, dd, data, sl⟩, ho, hc, n, hd⟩, hs⟩ := I.tuple hT
    simp only at hc hd
    subst hc hd
    refine wpAny_binaryOp_repeat_ref (T := "tuple") (U := "int") (by decide) ⟨_, ho, rfl⟩ (fun s2 => typeIs_int s2 1 t) noFill_tuple_mul F.fills_int_mul F.slot_int_rmul repeat_tuple F.slot_int_index.lookup
      (call_meets F.slot_int_rmul (typeIs_int s 1 t) F.entry_int_rmul (F.args_int_rmul_2 _ _) (int_rmul_tuple 1 t l its.toArray n dd sl)
        ⟨ho, rfl, ⟨_, ho, rfl⟩, call_meets F.slot_tuple_mul ⟨_, ho, rfl⟩ F.entry_tuple_mul (F.args_tuple_mul_2 _ _) (tuple_mul_one l its.toArray n dd sl t) ⟨ho, ?_⟩⟩)
    exact ⟨.ref l, H, I, rfl, q1 rfl⟩
  · exact op_repT pins s σ H _ _ v u Q I rx ry ⟨l, k, xs, rfl, rfl, hT, hne, hk, h2, hz, q2 (by omega)⟩
end
end Fp


set_option Elab.async false
set_option linter.all false
set_option maxRecDepth 100000
set_option maxHeartbeats 4000000
namespace Fp
open PySem PySem.Spec PyProof.Rows L2
/-! ### x *= y of great numbers; xs[i] += y -/
section
variable {X : Cx}
theorem ip_mulA : PIp X .Mult (rI CMulA fun i j => .int (i * j)) := opI fun _ _ _ _ _ _ _ hc q => imul_int q (mulA_ok hc)
def rIxN (K : PySem.W.Frag) : V → V → Hp → VK → Prop := fun x y H Q => ∃ p xs i v, x = .ref p ∧ y = .int i ∧ SqL K H p xs ∧ 0 ≤ i ∧ atI xs i = some v ∧ Q v H
theorem get_listN : PGet X (rIxN X.K) := by
  intro pins s σ H x y v u Q I rx ry h
  obtain ⟨p, xs, i, z, rfl, rfl, hq, h0, he, q⟩ := h
  cases rx
  obtain ⟨t, rfl⟩ := ry
  obtain ⟨its, r, pl, hz⟩ := I.list hq
  obtain ⟨j, h1, h2, h3, h4, h5⟩ := atI_get he
  obtain ⟨w, ew, rw'⟩ := r.get h2
  have hl := r.length
  have hn := line63
  have hj : i.toNat = j := by
    rw [seqIndex_of h0 h5] at h1
    exact Option.some.inj h1
  exact wpAny_getItem_list pl.isList h0 (by omega) (by rw [hj]; simpa using ew) ⟨z, H, I, rw', q⟩
end
end Fp

set_option Elab.async false
set_option linter.all false
set_option maxRecDepth 100000
set_option maxHeartbeats 4000000
namespace Fp
open PySem PySem.Spec PyProof.Rows L2
/-! ### repr of what may be None, a number or an object -/
theorem shown_non : PyData.none.shown = ("None" : Str) := rfl
theorem shown_int (i : Int) : (PyData.int i).shown = Str.ofString (toString i) := rfl
section
variable {X : Cx}
theorem call_reprV {lv : Nat} (hq : X.A.guards = some []) (hr : Room lv X.A) : CallR X (.builtin "repr") (fun xs H Q => ∃ v d, xs = [v] ∧ (v = .non ∨ (∃ i, v = .int i) ∨ ∃ a, v = .ref a) ∧ Dp X.K H v d ∧ Shows d ∧ Q (.str d.shown) H) := by
  intro pins s σ H xs us Q I r h
  obtain ⟨v, d, rfl, hv, hd, hs, q⟩ := h
  rcases hv with rfl | ⟨i, rfl⟩ | ⟨a, rfl⟩
  · cases hd
    obtain ⟨u, rfl, ru⟩ := vals1 r
    obtain rfl : u = Value.none := ru
    exact PySem.P.repr_of_none ⟨.str PyData.none.shown, H, I.tok _, ⟨_, rfl⟩, q⟩
  · cases hd
    refine SkE.call_repr_int pins s σ H _ us Q I r ⟨i, rfl, ?_, q⟩
    have h1 := hs.1
    simp only [PyData.showable, decide_eq_true_eq] at h1
    omega
  · exact call_reprD hq hr pins s σ H _ us Q I r ⟨a, d, rfl, hd, hs, q⟩
end
end Fp


set_option Elab.async false
set_option linter.all false
set_option maxRecDepth 100000
set_option maxHeartbeats 4000000
namespace Fp
open PySem PySem.Spec PyProof.Rows L2
/-! ### enumerate(xs, start=k), of a list and of a tuple -/
/-- the items of a row as it stands, each in a new pair with its number from k on -/
def Itq (Sq : Hp → List V → Prop) (k : Int) : It :=
  ⟨fun i H => ∃ xs x, Sq H xs ∧ xs[i]? = some x, fun i H v H2 => ∃ T x, v = .ref T ∧ H T = none ∧ H2 = upd H T (.tup [.int (k + (i : Nat)), x]) ∧ ∀ zs, Sq H zs → zs[i]? = some x, fun i H => ∃ xs, Sq H xs ∧ xs.length ≤ i⟩
theorem walk_q {Sq : Hp → List V → Prop} {k : Int} {xs : List V} : Walk (Itq Sq k) xs.length (fun H => Sq H xs) (YPair (fun i => some (.int (k + (i : Nat)))) (fun i => xs[i]?)) := by
  refine ⟨fun i _ hi q => ⟨xs, xs[i], q, by simp [hi]⟩, fun _ q => ⟨xs, q, Nat.le_refl _⟩, fun i H v H2 _ q y => ?_⟩
  obtain ⟨T, x, y1, y2, y3, y4⟩ := y
  exact ⟨T, _, x, y1, y2, y3, rfl, y4 xs q⟩
section
variable {M : Model} {A : Around} {E : Value → Shared → Prop} {s : Shared} {env : Env}
theorem cw_typeKw {pos : Pos} {T : String} {args : List (Bool × Sem Value)} {kws : List (Option Str × Sem Value)} {Q : Value → Shared → Prop} (hp : args.any (·.1) = false) (hk : kws.any (·.1.isNone) = false)
    (h : wpAny M A (evalArgs (.type T) true args kws) (fun a t => wpAny M A (call (.type T) a.pos a.kw) Q E t) E s) : wpAny M A (callWith pos (.type T) [] args kws) Q E s := by
  unfold callWith
  refine wpAny_bind (wpAny_holding (wpAny_mono h (fun g t hg => wpAny_bind (wpAny_standAt ?_)) fun _ _ z => z))
  simp only [hp, hk, Bool.or_false]
  refine wpAny_bind (wpAny_pure ?_)
  exact wpAny_bind (wpAny_mono hg (fun r t2 hr => wpAny_bind (wpAny_holding (wpAny_point (wpAny_pure hr)))) fun _ _ z => z)
end
section
variable {prog : Program} {w : World} {A : Around} {E : Value → Shared → Prop} {s : Shared}
theorem enum_end_q {e it : Addr} {i : Int} {old : Value} {Q : Option Value → Shared → Prop} (ee : IsEnum s.heap e it i old)
    (dn : ∀ (Q2 : Value → Shared → Prop) (F : Value → Shared → Prop), (∀ h2 x, Heap.ExtBut it s.heap h2 → (∃ o, h2.get? x = some o ∧ o.cls = .type "StopIteration") → F (.ref x) { s with heap := h2 }) → wpAny (model prog w) A.in1 (Builtin.SmallTypes.nextOf (.ref it)) Q2 F s)
    (hQ : ∀ h2, Heap.ExtBut it s.heap h2 → Q none { s with heap := h2 }) : wpAny (model prog w) A (pyNext (.ref e)) Q E s := by
  have ty : s.TypeIs (.ref e) "enumerate" := ⟨_, ee, rfl⟩
  unfold pyNext
  refine wpAny_bind (wpAny_attempt (wpAny_callSpecial?_slot (name := Str.ofString "__next__") ty F.slot_enumerate_next (wpAny_call_entry F.slot_enumerate_next ty F.entry_enumerate_next ?_ (F.args_enumerate_next_1 _))))
  show wpAny (model prog w) _ (field (.ref e) 2 >>= _) _ _ _
  refine wpAny_bind (wpAny_field ee rfl (x := .ref it) rfl (wpAny_bind (dn _ _ fun h2 x eb ox => ?_)))
  obtain ⟨o, oe, oc⟩ := ox
  exact wpAny_bind (wpAny_isInstance (T := "StopIteration") (b := true) ⟨o, oe, oc⟩ isSubtype_stop (wpAny_pure (hQ _ eb)))
end
theorem turn_qL {P : Program} {w : World} {K : PySem.W.Frag} {elts : List Expr} {kk : Nat} {tpos : Pos} (k : Int) (a e it : Addr) :
    Turn P w K (.Tuple elts kk tpos) (Itq (fun H xs => SqL K H a xs) k) [e, it] e (fun i h => (∃ old, IsEnum h e it (k + (i : Nat)) old) ∧ h.IsListIter it a i ∧ e ≠ it) where
  mem := by simp
  obj := fun i h st b hb => by
    obtain ⟨⟨_, ee⟩, ⟨o, oe, _, od⟩, _⟩ := st
    rcases (show b = e ∨ b = it by simpa using hb) with z | z
    · subst z
      exact ⟨_, ee, fun v q => nomatch q⟩
    · subst z
      exact ⟨o, oe, fun v q => by rw [od] at q; cases q⟩
  keep := fun i h h2 st kp => by
    obtain ⟨⟨old, ee⟩, ie, hne⟩ := st
    exact ⟨⟨old, kp e (by simp) _ ee⟩, ie.at fun o q => kp it (by simp) o q, hne⟩
  item := by
    intro Y yP yw yK yc i pn s sl H F I hf st hg
    subst yP yw yK
    obtain ⟨⟨old, ee⟩, ie, hne⟩ := st
    obtain ⟨xs, x, sq, ex⟩ := hg
    obtain ⟨vs, rv, po, _⟩ := I.list sq
    obtain ⟨u, eu, ru⟩ := rv.get ex
    have oa : s.heap.IsList a vs.toArray := po.isList
    have ai : a ≠ it := fun z => by
      subst z
      obtain ⟨o1, q1, c1, _⟩ := ie
      obtain ⟨o2, q2, c2, _⟩ := id oa
      rw [q1] at q2
      cases q2
      rw [c1] at c2
      injection c2 with c3
      exact absurd c3 (by decide)
    have ae : e ≠ a := fun z => by
      subst z
      obtain ⟨o2, q2, c2, _⟩ := id oa
      have q1 : s.heap.get? e = _ := ee
      rw [q1] at q2
      cases q2
      have c3 := c2
      injection c3 with c4
      exact absurd c4 (by decide)
    have le : e < s.heap.objs.size := Heap.lt_size ee
    have li : it < s.heap.objs.size := by
      obtain ⟨_, q, _⟩ := ie
      exact Heap.lt_size q
    have hi : i < vs.toArray.size := by
      have := (List.getElem?_eq_some_iff.mp eu).1
      simpa using this
    refine wpAny_pyNext_enum_itemC (Draws.list (A := Y.A.in1) (show Y.A.in1.handled = none from I.ok.hd yc) it a ai vs.toArray) ee ⟨ie, oa⟩ hi hne (by simp [hne, ae]) fun u2 h2 tk pu oe st2 oT zT kp => ?_
    have e2 : u2 = u := by
      have : vs[i]? = some u2 := by simpa using pu
      rw [eu] at this
      exact Option.some.inj this.symm
    subst e2
    refine ⟨_, rfl, wpAny_letOwnedTupleGo_enum (s := { s with heap := h2, toks := tk + 1 }) oe fun h3 ee3 sb => ?_⟩
    have oT3 := (sb.2 _ (Nat.ne_of_gt le)).trans oT
    have new : ObjOk Y.prog Y.w (upd H s.heap.objs.size (.tup [.int (k + (i : Nat)), x])) h3 s.heap.objs.size (.tup [.int (k + (i : Nat)), x]) :=
      ⟨by show 2 ≤ sizeLine; decide, [.int (k + (i : Nat)) tk, u2], .cons ⟨_, rfl⟩ (.cons ru .nil), ⟨_, oT3, rfl, _, rfl⟩⟩
    have I3 : Inv Y pn sl (upd H s.heap.objs.size (.tup [.int (k + (i : Nat)), x])) { s with heap := h3, toks := tk + 1 } := by
      refine I.turnedNew (ch := [e, it]) (fun b ob hb q => ?_) hf (Nat.le_refl _) new
      exact (sb.2 b fun z => hb (by simp [z])).trans (kp b ob (fun z => hb (by simp [z])) (fun z => hb (by simp [z])) q)
    refine ⟨.ref s.heap.objs.size, _, I3, rfl, ⟨_, x, rfl, I.hok.fresh (Nat.le_refl _), rfl, fun zs hz => ?_⟩, ⟨⟨u2, ?_⟩, st2.1.at fun o q => (sb.2 it (Ne.symm hne)).trans q, hne⟩, fun b hb => ?_⟩
    · rw [I.list_inj hz sq]
      exact ex
    · rw [show k + ((i + 1 : Nat) : Int) = k + (i : Int) + 1 by omega]
      exact ee3
    · have lb : b < s.heap.objs.size := by
        rcases (show b = e ∨ b = it by simpa using hb) with z | z
        · rw [z]
          exact le
        · rw [z]
          exact li
      rw [upd_ne (Nat.ne_of_lt lb)]
      exact (hf b hb).1
  done := by
    intro Y yP yw yK yc i pn s sl H F I hf st hg
    subst yP yw yK
    obtain ⟨⟨old, ee⟩, ie, hne⟩ := st
    obtain ⟨xs, sq, hx⟩ := hg
    obtain ⟨vs, rv, po, _⟩ := I.list sq
    have oa : s.heap.IsList a vs.toArray := po.isList
    obtain ⟨g0, g1, g2, g3, g4, g5⟩ := hf it (by simp)
    have hl := rv.length
    have ai : a ≠ it := fun z => by
      subst z
      obtain ⟨o1, q1, c1, _⟩ := ie
      obtain ⟨o2, q2, c2, _⟩ := id oa
      rw [q1] at q2
      cases q2
      rw [c1] at c2
      injection c2 with c3
      exact absurd c3 (by decide)
    exact enum_end_q ee (fun Q2 F2 hQ2 => wpAny_nextOf_list_end (show Y.A.in1.handled = none from I.ok.hd yc) ie oa (by simp; omega) hQ2) fun h2 eb => ⟨rfl, I.turned (t' := s.toks) (fun b o hb q => eb b o hb q) g0 g1 g3 g4 g5⟩
  self := fun A2 i s Q F st h => by
    obtain ⟨⟨_, ee⟩, _⟩ := st
    exact wpAny_pyIter_enum ee h
theorem turn_qT {P : Program} {w : World} {K : PySem.W.Frag} {elts : List Expr} {kk : Nat} {tpos : Pos} (k : Int) (a e it : Addr) :
    Turn P w K (.Tuple elts kk tpos) (Itq (fun H xs => SqT K H a xs) k) [e, it] e (fun i h => (∃ old, IsEnum h e it (k + (i : Nat)) old) ∧ h.IsTupleIter it a i ∧ e ≠ it) where
  mem := by simp
  obj := fun i h st b hb => by
    obtain ⟨⟨_, ee⟩, ⟨o, oe, _, od⟩, _⟩ := st
    rcases (show b = e ∨ b = it by simpa using hb) with z | z
    · subst z
      exact ⟨_, ee, fun v q => nomatch q⟩
    · subst z
      exact ⟨o, oe, fun v q => by rw [od] at q; cases q⟩
  keep := fun i h h2 st kp => by
    obtain ⟨⟨old, ee⟩, ie, hne⟩ := st
    exact ⟨⟨old, kp e (by simp) _ ee⟩, ie.at fun o q => kp it (by simp) o q, hne⟩
  item := by
    intro Y yP yw yK yc i pn s sl H F I hf st hg
    subst yP yw yK
    obtain ⟨⟨old, ee⟩, ie, hne⟩ := st
    obtain ⟨xs, x, sq, ex⟩ := hg
    obtain ⟨vs, rv, po, _⟩ := I.tuple sq
    obtain ⟨u, eu, ru⟩ := rv.get ex
    have oa : s.heap.IsTuple a vs.toArray := po
    have ai : a ≠ it := fun z => by
      subst z
      obtain ⟨o1, q1, c1, _⟩ := ie
      obtain ⟨o2, q2, c2, _⟩ := id oa
      rw [q1] at q2
      cases q2
      rw [c1] at c2
      injection c2 with c3
      exact absurd c3 (by decide)
    have ae : e ≠ a := fun z => by
      subst z
      obtain ⟨o2, q2, c2, _⟩ := id oa
      have q1 : s.heap.get? e = _ := ee
      rw [q1] at q2
      cases q2
      have c3 := c2
      injection c3 with c4
      exact absurd c4 (by decide)
    have le : e < s.heap.objs.size := Heap.lt_size ee
    have li : it < s.heap.objs.size := by
      obtain ⟨_, q, _⟩ := ie
      exact Heap.lt_size q
    have hi : i < vs.toArray.size := by
      have := (List.getElem?_eq_some_iff.mp eu).1
      simpa using this
    refine wpAny_pyNext_enum_itemC (Draws.tuple (A := Y.A.in1) (show Y.A.in1.handled = none from I.ok.hd yc) it a ai vs.toArray) ee ⟨ie, oa⟩ hi hne (by simp [hne, ae]) fun u2 h2 tk pu oe st2 oT zT kp => ?_
    have e2 : u2 = u := by
      have : vs[i]? = some u2 := by simpa using pu
      rw [eu] at this
      exact Option.some.inj this.symm
    subst e2
    refine ⟨_, rfl, wpAny_letOwnedTupleGo_enum (s := { s with heap := h2, toks := tk + 1 }) oe fun h3 ee3 sb => ?_⟩
    have oT3 := (sb.2 _ (Nat.ne_of_gt le)).trans oT
    have new : ObjOk Y.prog Y.w (upd H s.heap.objs.size (.tup [.int (k + (i : Nat)), x])) h3 s.heap.objs.size (.tup [.int (k + (i : Nat)), x]) :=
      ⟨by show 2 ≤ sizeLine; decide, [.int (k + (i : Nat)) tk, u2], .cons ⟨_, rfl⟩ (.cons ru .nil), ⟨_, oT3, rfl, _, rfl⟩⟩
    have I3 : Inv Y pn sl (upd H s.heap.objs.size (.tup [.int (k + (i : Nat)), x])) { s with heap := h3, toks := tk + 1 } := by
      refine I.turnedNew (ch := [e, it]) (fun b ob hb q => ?_) hf (Nat.le_refl _) new
      exact (sb.2 b fun z => hb (by simp [z])).trans (kp b ob (fun z => hb (by simp [z])) (fun z => hb (by simp [z])) q)
    refine ⟨.ref s.heap.objs.size, _, I3, rfl, ⟨_, x, rfl, I.hok.fresh (Nat.le_refl _), rfl, fun zs hz => ?_⟩, ⟨⟨u2, ?_⟩, st2.1.at fun o q => (sb.2 it (Ne.symm hne)).trans q, hne⟩, fun b hb => ?_⟩
    · rw [I.tuple_inj hz sq]
      exact ex
    · rw [show k + ((i + 1 : Nat) : Int) = k + (i : Int) + 1 by omega]
      exact ee3
    · have lb : b < s.heap.objs.size := by
        rcases (show b = e ∨ b = it by simpa using hb) with z | z
        · rw [z]
          exact le
        · rw [z]
          exact li
      rw [upd_ne (Nat.ne_of_lt lb)]
      exact (hf b hb).1
  done := by
    intro Y yP yw yK yc i pn s sl H F I hf st hg
    subst yP yw yK
    obtain ⟨⟨old, ee⟩, ie, hne⟩ := st
    obtain ⟨xs, sq, hx⟩ := hg
    obtain ⟨vs, rv, po, _⟩ := I.tuple sq
    have oa : s.heap.IsTuple a vs.toArray := po
    obtain ⟨g0, g1, g2, g3, g4, g5⟩ := hf it (by simp)
    have hl := rv.length
    have ai : a ≠ it := fun z => by
      subst z
      obtain ⟨o1, q1, c1, _⟩ := ie
      obtain ⟨o2, q2, c2, _⟩ := id oa
      rw [q1] at q2
      cases q2
      rw [c1] at c2
      injection c2 with c3
      exact absurd c3 (by decide)
    exact enum_end_q ee (fun Q2 F2 hQ2 => wpAny_nextOf_tuple_end (show Y.A.in1.handled = none from I.ok.hd yc) ie oa (by simp; omega) hQ2) fun h2 eb => ⟨rfl, I.turned (t' := s.toks) (fun b o hb q => eb b o hb q) g0 g1 g3 g4 g5⟩
  self := fun A2 i s Q F st h => by
    obtain ⟨⟨_, ee⟩, _⟩ := st
    exact wpAny_pyIter_enum ee h
def iQL (K : PySem.W.Frag) (k : Int) (ta : TA) : TI := fun σ H R => ta σ H fun vs H1 => ∃ a xs, vs = [.ref a] ∧ SqL K H1 a xs ∧ R (Itq (fun H xs => SqL K H a xs) k) H1
theorem pi_qL {X : Cx} {e : Expr} {ta : TA} {p pos tpos kp cp : Pos} {elts : List Expr} {kk jj : Nat} {k : Int} (k0 : -(2 ^ 63) ≤ k) (k1 : k < 2 ^ 63) (hg : Gl X "enumerate") (hm : X.mg "enumerate" = none) (ha : PA X [e] ta) (hs : starEach [e] X.env = [(false, eval e X.env)] := by rfl) :
    PI X (.Tuple elts kk tpos) (.Call (.Name "enumerate" p) [e] [⟨some "start", .Constant (.int k) jj cp, kp⟩] pos) (iQL X.K k ta) := by
  refine ⟨fun pn s sl H R I h => wpAny_Call_Name_kw (ld_blt I hg hm boot_enumerate ?_)⟩
  have he : backTo pos (starEach [e] X.env) = (false, eval e X.env) :: [] := by
    rw [hs]
    rfl
  refine cw_typeKw (by rw [he]; rfl) (by rfl) ?_
  have go := ha.run pos pn s sl H _ I h
  rw [he] at go ⊢
  refine evalArgs_kwB (by rfl) (thn go fun us s1 z1 => ?_)
  obtain ⟨vs, H1, I1, r1, q1⟩ := z1
  have pkw : PK X [⟨some "start", .Constant (.int k) jj cp, kp⟩] (tCons (tC (.int k)) tNil) := pk_cons pe_int pk_nil
  refine thn (pkw.run pos pn s1 sl H1 (fun zs H2 => zs = [.int k] ∧ H2 = H1) I1 ⟨rfl, rfl⟩) fun ws s2 z2 => ?_
  obtain ⟨zs, H2, I2, r2, rfl, rfl⟩ := z2
  obtain ⟨a, xs, rfl, sq, q⟩ := q1
  cases r1 with
  | cons ra rn =>
    cases rn
    cases ra
    cases r2 with
    | cons rk rn =>
      cases rn
      obtain ⟨tk, rfl⟩ := rk
      obtain ⟨us, rv, po, _⟩ := I2.list sq
      have oa : s2.heap.IsList a us.toArray := po.isList
      refine enum_begins_start (begins_list a us.toArray) oa k0 k1 fun h2 ee oi _ kp2 => wpAny_pyIter_enum ee ?_
      have I3 : Inv X pn sl H2 { s2 with heap := h2 } := I2.kept (t' := s2.toks) kp2
      refine ⟨s2.heap.objs.size + 1, [s2.heap.objs.size + 1, s2.heap.objs.size], _, _, H2, rfl, I3, turn_qL k a (s2.heap.objs.size + 1) s2.heap.objs.size, ⟨⟨.none, ?_⟩, ⟨_, oi, rfl, rfl⟩, Nat.succ_ne_self _⟩, fun b hb => ?_, q⟩
      · rw [show k + ((0 : Nat) : Int) = k by omega]
        exact ee
      · have lb : s2.heap.objs.size ≤ b := by
          rcases (show b = s2.heap.objs.size + 1 ∨ b = s2.heap.objs.size by simpa using hb) with z | z
          · rw [z]
            exact Nat.le_add_right _ _
          · rw [z]
            exact Nat.le_refl _
        exact I2.fpOk lb (I2.hok.fresh lb)
def iQT (K : PySem.W.Frag) (k : Int) (ta : TA) : TI := fun σ H R => ta σ H fun vs H1 => ∃ a xs, vs = [.ref a] ∧ SqT K H1 a xs ∧ R (Itq (fun H xs => SqT K H a xs) k) H1
theorem pi_qT {X : Cx} {e : Expr} {ta : TA} {p pos tpos kp cp : Pos} {elts : List Expr} {kk jj : Nat} {k : Int} (k0 : -(2 ^ 63) ≤ k) (k1 : k < 2 ^ 63) (hg : Gl X "enumerate") (hm : X.mg "enumerate" = none) (ha : PA X [e] ta) (hs : starEach [e] X.env = [(false, eval e X.env)] := by rfl) :
    PI X (.Tuple elts kk tpos) (.Call (.Name "enumerate" p) [e] [⟨some "start", .Constant (.int k) jj cp, kp⟩] pos) (iQT X.K k ta) := by
  refine ⟨fun pn s sl H R I h => wpAny_Call_Name_kw (ld_blt I hg hm boot_enumerate ?_)⟩
  have he : backTo pos (starEach [e] X.env) = (false, eval e X.env) :: [] := by
    rw [hs]
    rfl
  refine cw_typeKw (by rw [he]; rfl) (by rfl) ?_
  have go := ha.run pos pn s sl H _ I h
  rw [he] at go ⊢
  refine evalArgs_kwB (by rfl) (thn go fun us s1 z1 => ?_)
  obtain ⟨vs, H1, I1, r1, q1⟩ := z1
  have pkw : PK X [⟨some "start", .Constant (.int k) jj cp, kp⟩] (tCons (tC (.int k)) tNil) := pk_cons pe_int pk_nil
  refine thn (pkw.run pos pn s1 sl H1 (fun zs H2 => zs = [.int k] ∧ H2 = H1) I1 ⟨rfl, rfl⟩) fun ws s2 z2 => ?_
  obtain ⟨zs, H2, I2, r2, rfl, rfl⟩ := z2
  obtain ⟨a, xs, rfl, sq, q⟩ := q1
  cases r1 with
  | cons ra rn =>
    cases rn
    cases ra
    cases r2 with
    | cons rk rn =>
      cases rn
      obtain ⟨tk, rfl⟩ := rk
      obtain ⟨us, rv, po, _⟩ := I2.tuple sq
      have oa : s2.heap.IsTuple a us.toArray := po
      refine enum_begins_start (begins_tuple a us.toArray) oa k0 k1 fun h2 ee oi _ kp2 => wpAny_pyIter_enum ee ?_
      have I3 : Inv X pn sl H2 { s2 with heap := h2 } := I2.kept (t' := s2.toks) kp2
      refine ⟨s2.heap.objs.size + 1, [s2.heap.objs.size + 1, s2.heap.objs.size], _, _, H2, rfl, I3, turn_qT k a (s2.heap.objs.size + 1) s2.heap.objs.size, ⟨⟨.none, ?_⟩, ⟨_, oi, rfl, rfl⟩, Nat.succ_ne_self _⟩, fun b hb => ?_, q⟩
      · rw [show k + ((0 : Nat) : Int) = k by omega]
        exact ee
      · have lb : s2.heap.objs.size ≤ b := by
          rcases (show b = s2.heap.objs.size + 1 ∨ b = s2.heap.objs.size by simpa using hb) with z | z
          · rw [z]
            exact Nat.le_add_right _ _
          · rw [z]
            exact Nat.le_refl _
        exact I2.fpOk lb (I2.hok.fresh lb)
end Fp

set_option Elab.async false
set_option linter.all false
set_option maxRecDepth 100000
set_option maxHeartbeats 4000000
set_option exponentiation.threshold 10000
namespace Fp
open PySem PySem.Spec PyProof.Rows L2
def topS (i : Nat) : Stmt := PySem.Challenge.pw_freshparts_k32_whole_what_stands_hangs_t.main.body.getD i (.Pass ⟨0, 0, 0, 0⟩)
abbrev s_cd : Stmt := topS 6
theorem sc_cd : FnScope ["one", "other", "great", "small"] ["one", "other"] (defScope s_cd) := ⟨rfl, rfl, rfl, by decide +kernel, rfl, by decide +kernel, by decide +kernel⟩

/-! ### the greatest common divisor -/
theorem abs_if (i : Int) : (if i < 0 then -i else i) = (i.natAbs : Int) := by split <;> omega
theorem gcd_turn {g s : Int} (hs : 0 < s) (hg : 0 ≤ g) : Int.gcd s (g.fmod s) = Int.gcd g s := by
  obtain ⟨n, rfl⟩ := Int.eq_ofNat_of_zero_le hg
  obtain ⟨m, rfl⟩ := Int.eq_ofNat_of_zero_le (Int.le_of_lt hs)
  rw [Int.fmod_eq_emod_of_nonneg _ (Int.le_of_lt hs)]
  show Nat.gcd m ((n : Int) % (m : Int)).natAbs = Nat.gcd n m
  rw [show ((n : Int) % (m : Int)) = ((n % m : Nat) : Int) from (Int.natCast_emod n m).symm, Int.natAbs_natCast, Nat.gcd_comm n m, Nat.gcd_comm m (n % m)]
  exact (Nat.gcd_rec m n).symm

section
variable {P : Program} {w : World} {K : PySem.W.Frag} {mg : Str → Option Value} {base : Heap}
def spCd : Sp := fun vs H Q _ => ∃ a b : Int, vs = [.int a, .int b] ∧ Q (.int (Int.gcd a b : Nat)) H
theorem ok_cd {f : Addr} {fd : FuncData} {k : Nat} (F : Fun K "common_divisor" "common_divisor" s_cd f fd) (ma : mg "abs" = none) : FnOk P w K mg base CX0 (k + 1) f fd ["one", "other"] spCd := by
  refine F.ok sc_cd (fun vs H Q E h => ?_) (fun cdv A outer s H vs Q E hr h => ?_)
  · obtain ⟨a, b, rfl, _⟩ := h
    rfl
  · obtain ⟨a, b, rfl, q⟩ := h
    refine ⟨_, pss_cons (ps_par (i := 2) (j := 3) rfl sc_cd.nd rfl rfl (by decide) rfl rfl (pa_cons (pe_callB call_abs (by rfl) ma (by decide +kernel) (pa_cons (pv 0) pa_nil)) (pa_cons (pe_callB call_abs (by rfl) ma (by decide +kernel) (pa_cons (pv 1) pa_nil)) pa_nil)) (by rfl))
      (pss_cons (ps_while PassesOwn.never (pt_cmpR op_ne (pv 3) pe_int (nomark _)) (pss_one (ps_par (i := 2) (j := 3) rfl sc_cd.nd rfl rfl (by decide) rfl rfl (pa_cons (pv 3) (pa_cons (pe_op op_modN (pv 2) (pv 3)) pa_nil)) (by rfl))))
      (pss_one (ps_ret (pv 2)))), ?_⟩
    refine ⟨_, rfl, a, rfl, _, rfl, b, rfl, _, _, rfl, ?_⟩
    refine while_by (fun σ H1 => H1 = H ∧ ∃ g s : Int, σ = [some (.int a), some (.int b), some (.int g), some (.int s)] ∧ 0 ≤ g ∧ 0 ≤ s ∧ Int.gcd g s = Int.gcd a b)
      (fun σ _ => match σ with | [_, _, _, some (.int s)] => s.toNat | _ => 0) ?_ ?_ ?_
    · refine ⟨rfl, _, _, rfl, ?_, ?_, ?_⟩
      · rw [abs_if]; omega
      · rw [abs_if]; omega
      · rw [abs_if, abs_if]
        show Nat.gcd _ _ = Nat.gcd _ _
        rw [Int.natAbs_natCast, Int.natAbs_natCast]
    · rintro σ H1 ⟨rfl, g, s, rfl, hg, hs, e⟩
      refine ⟨_, rfl, rfl, _, rfl, ite2 (fun c => ?_) (fun c => ?_)⟩
      · have hs0 : s ≠ 0 := fun z => by
          rw [z] at c
          exact absurd c (by decide)
        have hp : 0 < s := by omega
        have lt : s > g.fmod s := Int.fmod_lt_of_pos g hp
        have nn : 0 ≤ g.fmod s := Int.fmod_nonneg_of_pos g hp
        refine ⟨_, rfl, _, rfl, _, rfl, g, s, rfl, rfl, hs0, _, _, rfl, ⟨rfl, s, g.fmod s, rfl, hs, nn, ?_⟩, ?_⟩
        · rw [gcd_turn hp hg]; exact e
        · show (g.fmod s).toNat < s.toNat
          omega
      · have hs0 : s = 0 := by
          rcases Classical.em (s = 0) with z | z
          · exact z
          · exact absurd (show (!decide (V.int s = V.int 0)) = true by simp [z]) c
        subst hs0
        refine ⟨_, rfl, ?_⟩
        have eg : g = ((Int.gcd a b : Nat) : Int) := by
          rw [← e, Int.gcd_zero_right]
          omega
        rw [eg]
        exact q
    · intro σ H1 Q1 Q2 hq h
      obtain ⟨v, e1, e2, k, e3, h⟩ := h
      exact ⟨v, e1, e2, k, e3, hq _ _ h⟩
end

end Fp

set_option Elab.async false
set_option linter.all false
set_option maxRecDepth 100000
set_option maxHeartbeats 4000000
set_option exponentiation.threshold 10000
namespace Fp
open PySem PySem.Spec PyProof.Rows L2
/-! ### ratio -/
def ratG (t b : Int) : Int := if b < 0 then -((Int.gcd t b : Nat) : Int) else ((Int.gcd t b : Nat) : Int)
def ratT (t b : Int) : Int := t.fdiv (ratG t b)
def ratB (t b : Int) : Int := b.fdiv (ratG t b)
theorem gcd_le {t b : Int} (h : b ≠ 0) : 0 < Int.gcd t b ∧ Int.gcd t b ≤ b.natAbs := by
  have hb : 0 < b.natAbs := by omega
  exact ⟨Nat.gcd_pos_of_pos_right _ hb, Nat.gcd_le_right _ hb⟩
theorem ratG_ok {t b : Int} {n : Nat} (h : b ≠ 0) (hb : b.natAbs < 2 ^ n) (hn : n ≤ 9000) (h0 : 0 < n) : CDivA t (ratG t b) ∧ CDivA b (ratG t b) := by
  obtain ⟨h1, h2⟩ := gcd_le (t := t) h
  have e : (ratG t b).natAbs = Int.gcd t b := by
    unfold ratG
    split <;> omega
  have ne : ratG t b ≠ 0 := by omega
  have l : (ratG t b).natAbs.log2 < 9000 := by
    rw [e]
    exact Nat.lt_of_lt_of_le ((Nat.log2_lt (by omega)).mpr (Nat.lt_of_le_of_lt h2 hb)) hn
  exact ⟨⟨ne, l⟩, ⟨ne, l⟩⟩

end Fp

set_option Elab.async false
set_option linter.all false
set_option maxRecDepth 100000
set_option maxHeartbeats 4000000
set_option exponentiation.threshold 10000
namespace Fp
open PySem PySem.Spec PyProof.Rows L2
abbrev s_ratio : Stmt := topS 7
theorem sc_ratio : FnScope ["top", "bottom", "divisor"] ["top", "bottom"] (defScope s_ratio) := ⟨rfl, rfl, rfl, by decide +kernel, rfl, by decide +kernel, by decide +kernel⟩
section
variable {P : Program} {w : World} {K : PySem.W.Frag} {mg : Str → Option Value} {base : Heap}
def spRat0 : Sp := fun vs H Q _ => ∃ (t b : Int), vs = [.int t, .int b] ∧ b.natAbs < 2 ^ 8000 ∧ b ≠ 0 ∧ ∀ p, H p = none → Q (.ref p) (upd H p (.tup [.int (ratT t b), .int (ratB t b)]))
theorem ok_ratio {f fC : Addr} {fd fdC : FuncData} (F : Fun K "ratio" "ratio" s_ratio f fd) (FC : Fun K "common_divisor" "common_divisor" s_cd fC fdC) (bC : Binds K fdC ["one", "other"] [])
    (gC : mg "common_divisor" = some (.ref fC)) (ma : mg "abs" = none) : FnOk P w K mg base CX0 2 f fd ["top", "bottom"] spRat0 := by
  have GC : FnOk P w K mg base CX0 1 fC fdC ["one", "other"] spCd := ok_cd FC ma
  refine F.ok sc_ratio (fun vs H Q E h => ?_) (fun cdv A outer s H vs Q E hr h => ?_)
  · obtain ⟨t, b, rfl, _⟩ := h
    rfl
  · obtain ⟨t, b, rfl, hb, h0, q1⟩ := h
    refine ⟨_, (pss_cons (ps_if (pt_cmpR op_eq (pv 1) pe_int (nomark _)) (pss_one ps_never) pss_nil) (pss_cons (ps_set (i := 2) sc_ratio.nd rfl (.inl rfl) (pe_call GC hr (by rfl) gC FC.kp bC .nil pass0 (pa_cons (pv 0) (pa_cons (pv 1) pa_nil)))) (pss_cons (ps_if (pt_cmpR op_lt (pv 1) pe_int (nomark _)) (pss_one (ps_set (i := 2) sc_ratio.nd rfl (.inl rfl) (pe_un un_neg (pv 2)))) pss_nil) (pss_one (ps_ret (pe_tup (pa_cons (pe_op op_fdivA (pv 0) (pv 2)) (pa_cons (pe_op op_fdivA (pv 1) (pv 2)) pa_nil)))))))), ?_⟩
    refine ⟨_, rfl, rfl, _, rfl, ite2 (fun c => ?_) (fun c => ?_)⟩
    · exact absurd (V.int.inj (of_decide_eq_true c)) h0
    · obtain ⟨c1, c2⟩ := ratG_ok (t := t) h0 hb (by decide) (by decide)
      refine ⟨_, rfl, _, rfl, t, b, rfl, ?_⟩
      have fin : ∀ g : Int, g = ratG t b → ∀ p, H p = none → Q (.ref p) (upd H p (.tup [.int (t.fdiv g), .int (b.fdiv g)])) := fun g eg p hp => by
        rw [eg]
        exact q1 p hp
      refine ⟨_, rfl, b, 0, rfl, rfl, _, rfl, ite2 (fun c3 => ?_) (fun c3 => ?_)⟩
      · have hneg : b < 0 := of_decide_eq_true c3
        have eg : -((Int.gcd t b : Nat) : Int) = ratG t b := by unfold ratG; rw [if_pos hneg]
        refine ⟨_, rfl, _, rfl, ?_⟩
        refine ⟨_, rfl, _, rfl, t, _, rfl, rfl, by rw [eg]; exact c1, _, rfl, _, rfl, b, _, rfl, rfl, by rw [eg]; exact c2, by show 2 ≤ sizeLine; decide, fin _ eg⟩
      · have hneg : ¬ b < 0 := fun z => c3 (decide_eq_true z)
        have eg : ((Int.gcd t b : Nat) : Int) = ratG t b := by unfold ratG; rw [if_neg hneg]
        refine ⟨_, rfl, _, rfl, t, _, rfl, rfl, by rw [eg]; exact c1, _, rfl, _, rfl, b, _, rfl, rfl, by rw [eg]; exact c2, by show 2 ≤ sizeLine; decide, fin _ eg⟩
end

end Fp

set_option Elab.async false
set_option linter.all false
set_option maxRecDepth 100000
set_option maxHeartbeats 4000000
set_option exponentiation.threshold 10000
namespace Fp
open PySem PySem.Spec PyProof.Rows L2
/-! ### two ratios reckoned -/
theorem sqT_same {K : PySem.W.Frag} {H H' : Hp} {a : Addr} {xs : List V} (e : Same H H') (h : SqT K H a xs) : SqT K H' a xs := by
  rcases h with (h | ⟨o, h⟩) | h
  · exact .inl (.inl (e _ _ h))
  · exact .inl (.inr ⟨o, e _ _ h⟩)
  · exact .inr h
theorem same_new {H : Hp} {p : Addr} {o : HO} (h : H p = none) : Same H (upd H p o) := fun b x z => by
  rw [upd_ne (ne_of_none z h)]
  exact z
/-- bounds of what is multiplied -/
def Sm (n : Nat) (a : Int) : Prop := a.natAbs < 2 ^ n
theorem Sm.log {n : Nat} {a : Int} (h : Sm n a) (h0 : 0 < n) : a.natAbs.log2 < n := by
  rcases Nat.eq_zero_or_pos a.natAbs with z | z
  · rw [z]; simpa using h0
  · exact (Nat.log2_lt (by omega)).mpr h
theorem Sm.mul {n m : Nat} {a b : Int} (ha : Sm n a) (hb : Sm m b) : Sm (n + m) (a * b) := by
  unfold Sm at *
  rw [Int.natAbs_mul, Nat.pow_add]
  exact Nat.mul_lt_mul'' ha hb
theorem Sm.add {n : Nat} {a b : Int} (ha : Sm n a) (hb : Sm n b) : Sm (n + 1) (a + b) := by
  unfold Sm at *
  rw [Nat.pow_succ]
  omega
theorem Sm.sub {n : Nat} {a b : Int} (ha : Sm n a) (hb : Sm n b) : Sm (n + 1) (a - b) := by
  unfold Sm at *
  rw [Nat.pow_succ]
  omega
theorem Sm.mono {n m : Nat} {a : Int} (h : Sm n a) (l : n ≤ m) : Sm m a := Nat.lt_of_lt_of_le h (Nat.pow_le_pow_right (by decide) l)
theorem Sm.cmul {n m : Nat} {a b : Int} (ha : Sm n a) (hb : Sm m b) (h0 : 0 < n) (h1 : 0 < m) (h : n + m ≤ 1000000) : CMulA a b := by
  have x := ha.log h0
  have y := hb.log h1
  unfold CMulA
  omega
/-- at p1 and p2 the ratios a by b, c by d -/
structure Two (K : PySem.W.Frag) (H : Hp) (p1 p2 : Addr) (a b c d : Int) : Prop where
  t1 : SqT K H p1 [.int a, .int b]
  t2 : SqT K H p2 [.int c, .int d]
  sa : Sm 3000 a
  sb : Sm 3000 b
  sc : Sm 3000 c
  sd : Sm 3000 d
  pb : 0 < b
  pd : 0 < d
theorem Two.den {K : PySem.W.Frag} {H : Hp} {p1 p2 : Addr} {a b c d : Int} (h : Two K H p1 p2 a b c d) : 0 < b * d := Int.mul_pos h.pb h.pd
theorem Two.same {K : PySem.W.Frag} {H H' : Hp} {p1 p2 : Addr} {a b c d : Int} (h : Two K H p1 p2 a b c d) (e : Same H H') : Two K H' p1 p2 a b c d := ⟨sqT_same e h.t1, sqT_same e h.t2, h.sa, h.sb, h.sc, h.sd, h.pb, h.pd⟩
def spTwo (K : PySem.W.Frag) (num : Int → Int → Int → Int → Int) : Sp := fun vs H Q _ => ∃ (p1 p2 : Addr) (a b c d : Int), vs = [.ref p1, .ref p2] ∧ Two K H p1 p2 a b c d ∧
  ∀ p, H p = none → Q (.ref p) (upd H p (.tup [.int (ratT (num a b c d) (b * d)), .int (ratB (num a b c d) (b * d))]))

end Fp

set_option Elab.async false
set_option linter.all false
set_option maxRecDepth 100000
set_option maxHeartbeats 4000000
set_option exponentiation.threshold 10000
namespace Fp
open PySem PySem.Spec PyProof.Rows L2
abbrev s_plus : Stmt := topS 8
theorem sc_plus : FnScope ["one", "other"] ["one", "other"] (defScope s_plus) := ⟨rfl, rfl, rfl, by decide +kernel, rfl, by decide +kernel, by decide +kernel⟩
section
variable {P : Program} {w : World} {K : PySem.W.Frag} {mg : Str → Option Value} {base : Heap}
theorem ok_plus {f fR : Addr} {fd fdR : FuncData} (F : Fun K "plus" "plus" s_plus f fd) (FR : Fun K "ratio" "ratio" s_ratio fR fdR) (bR : Binds K fdR ["top", "bottom"] []) (gR : mg "ratio" = some (.ref fR)) (GR : FnOk P w K mg base CX0 2 fR fdR ["top", "bottom"] spRat0) : FnOk P w K mg base CX0 3 f fd ["one", "other"] (spTwo K (fun a b c d => a * d + c * b)) := by
  refine F.ok sc_plus (fun vs H Q E h => ?_) (fun cdv A outer s H vs Q E hr h => ?_)
  · obtain ⟨_, _, _, _, _, _, rfl, _⟩ := h
    rfl
  · obtain ⟨p1, p2, a, b, c, d, rfl, T, q⟩ := h
    refine ⟨_, pss_one (ps_ret (pe_call GR hr (by rfl) gR FR.kp bR .nil pass0 (pa_cons (pe_op op_add (pe_op op_mulA (pe_ix ix_tup (pv 0) pe_int (fun _ _ => rfl)) (pe_ix ix_tup (pv 1) pe_int (fun _ _ => rfl))) (pe_op op_mulA (pe_ix ix_tup (pv 1) pe_int (fun _ _ => rfl)) (pe_ix ix_tup (pv 0) pe_int (fun _ _ => rfl)))) (pa_cons (pe_op op_mulA (pe_ix ix_tup (pv 0) pe_int (fun _ _ => rfl)) (pe_ix ix_tup (pv 1) pe_int (fun _ _ => rfl))) pa_nil)))), ?_⟩
    refine ⟨_, rfl, p1, _, 0, _, rfl, rfl, T.t1, atI_nat (j := 0) rfl, _, rfl, p2, _, 1, _, rfl, rfl, T.t2, atI_nat (j := 1) rfl, a, d, rfl, rfl, T.sa.cmul T.sd (by decide) (by decide) (by decide), _, rfl, p2, _, 0, _, rfl, rfl, T.t2, atI_nat (j := 0) rfl, _, rfl, p1, _, 1, _, rfl, rfl, T.t1, atI_nat (j := 1) rfl, c, b, rfl, rfl, T.sc.cmul T.sb (by decide) (by decide) (by decide), _, _, rfl, rfl, _, rfl, p1, _, 1, _, rfl, rfl, T.t1, atI_nat (j := 1) rfl, _, rfl, p2, _, 1, _, rfl, rfl, T.t2, atI_nat (j := 1) rfl, b, d, rfl, rfl, T.sb.cmul T.sd (by decide) (by decide) (by decide), ?_⟩
    exact ⟨_, _, rfl, (T.sb.mul T.sd).mono (by decide), Int.ne_of_gt T.den, q⟩
end

end Fp

set_option Elab.async false
set_option linter.all false
set_option maxRecDepth 100000
set_option maxHeartbeats 4000000
set_option exponentiation.threshold 10000
namespace Fp
open PySem PySem.Spec PyProof.Rows L2
abbrev s_minus : Stmt := topS 9
theorem sc_minus : FnScope ["one", "other"] ["one", "other"] (defScope s_minus) := ⟨rfl, rfl, rfl, by decide +kernel, rfl, by decide +kernel, by decide +kernel⟩
section
variable {P : Program} {w : World} {K : PySem.W.Frag} {mg : Str → Option Value} {base : Heap}
theorem ok_minus {f fR : Addr} {fd fdR : FuncData} (F : Fun K "minus" "minus" s_minus f fd) (FR : Fun K "ratio" "ratio" s_ratio fR fdR) (bR : Binds K fdR ["top", "bottom"] []) (gR : mg "ratio" = some (.ref fR)) (GR : FnOk P w K mg base CX0 2 fR fdR ["top", "bottom"] spRat0) : FnOk P w K mg base CX0 3 f fd ["one", "other"] (spTwo K (fun a b c d => a * d - c * b)) := by
  refine F.ok sc_minus (fun vs H Q E h => ?_) (fun cdv A outer s H vs Q E hr h => ?_)
  · obtain ⟨_, _, _, _, _, _, rfl, _⟩ := h
    rfl
  · obtain ⟨p1, p2, a, b, c, d, rfl, T, q⟩ := h
    refine ⟨_, pss_one (ps_ret (pe_call GR hr (by rfl) gR FR.kp bR .nil pass0 (pa_cons (pe_op op_sub (pe_op op_mulA (pe_ix ix_tup (pv 0) pe_int (fun _ _ => rfl)) (pe_ix ix_tup (pv 1) pe_int (fun _ _ => rfl))) (pe_op op_mulA (pe_ix ix_tup (pv 1) pe_int (fun _ _ => rfl)) (pe_ix ix_tup (pv 0) pe_int (fun _ _ => rfl)))) (pa_cons (pe_op op_mulA (pe_ix ix_tup (pv 0) pe_int (fun _ _ => rfl)) (pe_ix ix_tup (pv 1) pe_int (fun _ _ => rfl))) pa_nil)))), ?_⟩
    refine ⟨_, rfl, p1, _, 0, _, rfl, rfl, T.t1, atI_nat (j := 0) rfl, _, rfl, p2, _, 1, _, rfl, rfl, T.t2, atI_nat (j := 1) rfl, a, d, rfl, rfl, T.sa.cmul T.sd (by decide) (by decide) (by decide), _, rfl, p2, _, 0, _, rfl, rfl, T.t2, atI_nat (j := 0) rfl, _, rfl, p1, _, 1, _, rfl, rfl, T.t1, atI_nat (j := 1) rfl, c, b, rfl, rfl, T.sc.cmul T.sb (by decide) (by decide) (by decide), _, _, rfl, rfl, _, rfl, p1, _, 1, _, rfl, rfl, T.t1, atI_nat (j := 1) rfl, _, rfl, p2, _, 1, _, rfl, rfl, T.t2, atI_nat (j := 1) rfl, b, d, rfl, rfl, T.sb.cmul T.sd (by decide) (by decide) (by decide), ?_⟩
    exact ⟨_, _, rfl, (T.sb.mul T.sd).mono (by decide), Int.ne_of_gt T.den, q⟩
end

end Fp

set_option Elab.async false
set_option linter.all false
set_option maxRecDepth 100000
set_option maxHeartbeats 4000000
set_option exponentiation.threshold 10000
namespace Fp
open PySem PySem.Spec PyProof.Rows L2
abbrev s_times : Stmt := topS 10
theorem sc_times : FnScope ["one", "other"] ["one", "other"] (defScope s_times) := ⟨rfl, rfl, rfl, by decide +kernel, rfl, by decide +kernel, by decide +kernel⟩
section
variable {P : Program} {w : World} {K : PySem.W.Frag} {mg : Str → Option Value} {base : Heap}
theorem ok_times {f fR : Addr} {fd fdR : FuncData} (F : Fun K "times" "times" s_times f fd) (FR : Fun K "ratio" "ratio" s_ratio fR fdR) (bR : Binds K fdR ["top", "bottom"] []) (gR : mg "ratio" = some (.ref fR)) (GR : FnOk P w K mg base CX0 2 fR fdR ["top", "bottom"] spRat0) : FnOk P w K mg base CX0 3 f fd ["one", "other"] (spTwo K (fun a b c d => a * c)) := by
  refine F.ok sc_times (fun vs H Q E h => ?_) (fun cdv A outer s H vs Q E hr h => ?_)
  · obtain ⟨_, _, _, _, _, _, rfl, _⟩ := h
    rfl
  · obtain ⟨p1, p2, a, b, c, d, rfl, T, q⟩ := h
    refine ⟨_, pss_one (ps_ret (pe_call GR hr (by rfl) gR FR.kp bR .nil pass0 (pa_cons (pe_op op_mulA (pe_ix ix_tup (pv 0) pe_int (fun _ _ => rfl)) (pe_ix ix_tup (pv 1) pe_int (fun _ _ => rfl))) (pa_cons (pe_op op_mulA (pe_ix ix_tup (pv 0) pe_int (fun _ _ => rfl)) (pe_ix ix_tup (pv 1) pe_int (fun _ _ => rfl))) pa_nil)))), ?_⟩
    refine ⟨_, rfl, p1, _, 0, _, rfl, rfl, T.t1, atI_nat (j := 0) rfl, _, rfl, p2, _, 0, _, rfl, rfl, T.t2, atI_nat (j := 0) rfl, a, c, rfl, rfl, T.sa.cmul T.sc (by decide) (by decide) (by decide), _, rfl, p1, _, 1, _, rfl, rfl, T.t1, atI_nat (j := 1) rfl, _, rfl, p2, _, 1, _, rfl, rfl, T.t2, atI_nat (j := 1) rfl, b, d, rfl, rfl, T.sb.cmul T.sd (by decide) (by decide) (by decide), ?_⟩
    exact ⟨_, _, rfl, (T.sb.mul T.sd).mono (by decide), Int.ne_of_gt T.den, q⟩
end

end Fp

set_option Elab.async false
set_option linter.all false
set_option maxRecDepth 100000
set_option maxHeartbeats 4000000
set_option exponentiation.threshold 10000
namespace Fp
open PySem PySem.Spec PyProof.Rows L2
abbrev s_over : Stmt := topS 11
theorem sc_over : FnScope ["one", "other"] ["one", "other"] (defScope s_over) := ⟨rfl, rfl, rfl, by decide +kernel, rfl, by decide +kernel, by decide +kernel⟩
section
variable {P : Program} {w : World} {K : PySem.W.Frag} {mg : Str → Option Value} {base : Heap}
def spOver0 (K : PySem.W.Frag) : Sp := fun vs H Q _ => ∃ (p1 p2 : Addr) (a b c d : Int), vs = [.ref p1, .ref p2] ∧ Two K H p1 p2 a b c d ∧ b * c ≠ 0 ∧
  ∀ p, H p = none → Q (.ref p) (upd H p (.tup [.int (ratT (a * d) (b * c)), .int (ratB (a * d) (b * c))]))
theorem ok_over {f fR : Addr} {fd fdR : FuncData} (F : Fun K "over" "over" s_over f fd) (FR : Fun K "ratio" "ratio" s_ratio fR fdR) (bR : Binds K fdR ["top", "bottom"] []) (gR : mg "ratio" = some (.ref fR)) (GR : FnOk P w K mg base CX0 2 fR fdR ["top", "bottom"] spRat0) : FnOk P w K mg base CX0 3 f fd ["one", "other"] (spOver0 K) := by
  refine F.ok sc_over (fun vs H Q E h => ?_) (fun cdv A outer s H vs Q E hr h => ?_)
  · obtain ⟨_, _, _, _, _, _, rfl, _⟩ := h
    rfl
  · obtain ⟨p1, p2, a, b, c, d, rfl, T, ne, q⟩ := h
    refine ⟨_, pss_one (ps_ret (pe_call GR hr (by rfl) gR FR.kp bR .nil pass0 (pa_cons (pe_op op_mulA (pe_ix ix_tup (pv 0) pe_int (fun _ _ => rfl)) (pe_ix ix_tup (pv 1) pe_int (fun _ _ => rfl))) (pa_cons (pe_op op_mulA (pe_ix ix_tup (pv 0) pe_int (fun _ _ => rfl)) (pe_ix ix_tup (pv 1) pe_int (fun _ _ => rfl))) pa_nil)))), ?_⟩
    refine ⟨_, rfl, p1, _, 0, _, rfl, rfl, T.t1, atI_nat (j := 0) rfl, _, rfl, p2, _, 1, _, rfl, rfl, T.t2, atI_nat (j := 1) rfl, a, d, rfl, rfl, T.sa.cmul T.sd (by decide) (by decide) (by decide), _, rfl, p1, _, 1, _, rfl, rfl, T.t1, atI_nat (j := 1) rfl, _, rfl, p2, _, 0, _, rfl, rfl, T.t2, atI_nat (j := 0) rfl, b, c, rfl, rfl, T.sb.cmul T.sc (by decide) (by decide) (by decide), ?_⟩
    exact ⟨_, _, rfl, (T.sb.mul T.sc).mono (by decide), ne, q⟩
end

end Fp

set_option Elab.async false
set_option linter.all false
set_option maxRecDepth 100000
set_option maxHeartbeats 4000000
set_option exponentiation.threshold 10000
namespace Fp
open PySem PySem.Spec PyProof.Rows L2
/-! ### the feed of draws -/
abbrev s_feed : Stmt := topS 44
abbrev s_draw : Stmt := topS 45
theorem sc_feed : FnScope ["_law_script"] ["_law_script"] (defScope s_feed) := ⟨rfl, rfl, rfl, by decide +kernel, rfl, by decide +kernel, by decide +kernel⟩
theorem sc_draw : FnScope ["_law_feed_here", "_law_many", "_law_digit", "_law_spot", "_law_cell", "_law_mixed"] ["_law_feed_here", "_law_many"] (defScope s_draw) := ⟨rfl, rfl, rfl, by decide +kernel, rfl, by decide +kernel, by decide +kernel⟩
def feedL (c : Addr) (a l t : Int) : List (Key × V) := [(.inr "cells", .ref c), (.inr "at", .int a), (.inr "left", .int l), (.inr "turn", .int t)]
theorem feed_at (c : Addr) (a l t : Int) : valV (feedL c a l t) (.inr "at") = some (.int a) := rfl
theorem feed_cells (c : Addr) (a l t : Int) : valV (feedL c a l t) (.inr "cells") = some (.ref c) := rfl
theorem feed_left (c : Addr) (a l t : Int) : valV (feedL c a l t) (.inr "left") = some (.int l) := rfl
theorem feed_turn (c : Addr) (a l t : Int) : valV (feedL c a l t) (.inr "turn") = some (.int t) := rfl
theorem put_at (c : Addr) (a l t x : Int) : putK (feedL c a l t) (.inr "at") (.int x) = feedL c x l t := rfl
theorem put_left (c : Addr) (a l t x : Int) : putK (feedL c a l t) (.inr "left") (.int x) = feedL c a x t := rfl
theorem put_turn (c : Addr) (a l t x : Int) : putK (feedL c a l t) (.inr "turn") (.int x) = feedL c a l x := rfl
theorem feed_len (c : Addr) (a l t : Int) : (feedL c a l t).length < sizeLine := by show 4 < sizeLine; decide
theorem feed_merge (c : Addr) : mergeK [] (feedL c 0 0 0) = feedL c 0 0 0 := rfl
/-- at d a feed that has told t draws -/
def Feed (H : Hp) (d c : Addr) (t : Int) : Prop := ∃ (a l : Int) (ns : List Int), H d = some (.dK (feedL c a l t)) ∧ H c = some (.lst (ns.map V.int)) ∧ 0 ≤ t
/-- all but d as it was -/
def Keep (d : Addr) (H H' : Hp) : Prop := ∀ b o, b ≠ d → H b = some o → H' b = some o
theorem Keep.trans {d : Addr} {H H1 H2 : Hp} (a : Keep d H H1) (b : Keep d H1 H2) : Keep d H H2 := fun c o n z => b c o n (a c o n z)
theorem Keep.of_same {d : Addr} {H H' : Hp} (a : Same H H') : Keep d H H' := fun b o _ z => a b o z
theorem Keep.upd {d : Addr} {H : Hp} {o : HO} : Keep d H (upd H d o) := fun b x n z => by rw [upd_ne n]; exact z
theorem Feed.same {H H' : Hp} {d c : Addr} {t : Int} (f : Feed H d c t) (e : Same H H') : Feed H' d c t := by
  obtain ⟨a, l, ns, h1, h2, h3⟩ := f
  exact ⟨a, l, ns, e _ _ h1, e _ _ h2, h3⟩
theorem Feed.wr {H : Hp} {d c p : Addr} {t : Int} {o : HO} (f : Feed H d c t) (h1 : p ≠ d) (h2 : p ≠ c) : Feed (upd H p o) d c t := by
  obtain ⟨a, l, ns, e1, e2, e3⟩ := f
  exact ⟨a, l, ns, by rw [upd_ne h1.symm]; exact e1, by rw [upd_ne h2.symm]; exact e2, e3⟩
theorem Feed.ne {H : Hp} {d c p : Addr} {t : Int} {o : HO} (f : Feed H d c t) (h : H p = some o) (n : ∀ kvs, o ≠ .dK kvs) : p ≠ d := by
  obtain ⟨a, l, ns, h1, _⟩ := f
  exact ne_of h h1 (n _)
theorem Feed.nd {H : Hp} {d c p : Addr} {t : Int} (f : Feed H d c t) (h : H p = none) : p ≠ d := by
  obtain ⟨a, l, ns, h1, _⟩ := f
  exact (ne_of_none h1 h).symm
theorem Feed.nc {H : Hp} {d c p : Addr} {t : Int} (f : Feed H d c t) (h : H p = none) : p ≠ c := by
  obtain ⟨a, l, ns, _, h1, _⟩ := f
  exact (ne_of_none h1 h).symm
theorem Feed.new {H : Hp} {d c p : Addr} {t : Int} {o : HO} (f : Feed H d c t) (n : H p = none) : Feed (upd H p o) d c t := f.same (same_new n)
theorem keep_at {d c p : Addr} {H H' : Hp} {t : Int} {o : HO} (f : Feed H d c t) (k : Keep d H H') (h : H p = some o) (n : ∀ kvs, o ≠ .dK kvs) : H' p = some o := k p o (f.ne h n) h
theorem keep_new {d p : Addr} {H H' : Hp} {o : HO} (n : H p = none) (k : Keep d (upd H p o) H') : Keep d H H' := (Keep.of_same (same_new n)).trans k
theorem Keep.none {d c p : Addr} {t : Int} {H H' : Hp} (k : Keep d H H') (f : Feed H' d c t) (n : H' p = none) : H p = none := by
  match z : H p with
  | Option.none => rfl
  | some o =>
    have := k p o (f.nd n) z
    rw [n] at this
    cases this
/-- what was not there when k began may be written -/
theorem Keep.wr {d p : Addr} {H H' : Hp} {o : HO} (k : Keep d H H') (n : H p = Option.none) : Keep d H (L2.upd H' p o) := fun b x hb z => by
  rw [upd_ne (ne_of_none z n)]
  exact k b x hb z
theorem Keep.refl {d : Addr} {H : Hp} : Keep d H H := fun _ _ _ z => z
theorem sqT_keep {K : PySem.W.Frag} {H H' : Hp} {a d c : Addr} {t : Int} {xs : List V} (f : Feed H d c t) (e : Keep d H H') (h : SqT K H a xs) : SqT K H' a xs := by
  obtain ⟨x, l, ns, h1, _⟩ := f
  rcases h with (h | ⟨o, h⟩) | h
  · exact .inl (.inl (e _ _ (ne_of h h1 (by intro z; cases z)) h))
  · exact .inl (.inr ⟨o, e _ _ (ne_of h h1 (by intro z; cases z)) h⟩)
  · exact .inr h
theorem cut_ints (ns : List Int) (lo hi : Option Int) : ∃ ms : List Int, cutV (ns.map V.int) lo hi = ms.map V.int := by
  unfold cutV
  exact ⟨_, by rw [← List.map_drop, ← List.map_take]⟩
theorem dpAll_ints {K : PySem.W.Frag} {H : Hp} : ∀ ns : List Int, DpAll K H (ns.map V.int) (ns.map PyData.int)
  | [] => .nil
  | n :: r => .cons (.int n) (dpAll_ints r)
theorem canLay_ints : ∀ ns : List Int, PyData.canLayAll0 (ns.map PyData.int) = true
  | [] => rfl
  | n :: r => by
    show (PyData.canLay0 (.int n) && PyData.canLayAll0 (r.map PyData.int)) = true
    rw [canLay_ints r]
    rfl
theorem depth_ints : ∀ ns : List Int, PyData.depthAll (ns.map PyData.int) = 0
  | [] => rfl
  | n :: r => by
    show max (PyData.depth (.int n)) (PyData.depthAll (r.map PyData.int)) = 0
    rw [depth_ints r]
    rfl
theorem shaped_ints (ns : List Int) : SeqAt.shaped (.list (ns.map PyData.int)) = true := by
  unfold SeqAt.shaped
  have h1 : PyData.canLay0 (.list (ns.map PyData.int)) = true := by
    show PyData.canLayAll0 (ns.map PyData.int) = true
    exact canLay_ints ns
  have h2 : (PyData.list (ns.map PyData.int)).depth = 1 := by
    show PyData.depthAll (ns.map PyData.int) + 1 = 1
    rw [depth_ints]
  rw [h1, h2]
  rfl
theorem eqv_nil (ns : List Int) : PyData.eqv (.list (ns.map PyData.int)) (.list []) = ns.isEmpty := by
  cases ns with
  | nil => rfl
  | cons n r => rfl

section
variable {P : Program} {w : World} {K : PySem.W.Frag} {mg : Str → Option Value} {base : Heap}
def spFeed (K : PySem.W.Frag) : Sp := fun vs H Q _ => ∃ (a : Addr) (ns : List Int), vs = [.ref a] ∧ SqL K H a (ns.map V.int) ∧ ∀ d c H', Same H H' → Feed H' d c 0 → Q (.ref d) H'
theorem ok_feed {f : Addr} {fd : FuncData} {k : Nat} (F : Fun K "_law_feed" "_law_feed" s_feed f fd) (ml : mg "list" = none) : FnOk P w K mg base CX0 (k + 1) f fd ["_law_script"] (spFeed K) := by
  refine F.ok sc_feed (fun vs H Q E h => ?_) (fun cdv A outer s H vs Q E hr h => ?_)
  · obtain ⟨a, ns, rfl, _⟩ := h
    rfl
  · obtain ⟨a, ns, rfl, hS, q⟩ := h
    refine ⟨_, pss_one (ps_ret (pe_disp (pps_cons pe_str (pe_callTy call_list_of (by rfl) ml (by decide +kernel) (pa_cons (pe_slice sl_list (pv 0) po_none (po_some pe_int)) pa_nil))
      (pps_cons pe_str pe_int (pps_cons pe_str pe_int (pps_cons pe_str pe_int pps_nil)))) (by rfl) (by rfl) (fun z => by cases z) (by decide))), ?_⟩
    refine fun d nd => ?_
    have s1 : Same H (upd H d (.dK [])) := same_new nd
    obtain ⟨ms, em⟩ := cut_ints ns none (some 63)
    refine ⟨_, rfl, 63, rfl, a, ns.map V.int, rfl, s1.seq hS, fun x nx => ?_⟩
    have s2 := same_new (o := HO.lst (cutV (ns.map V.int) none (some 63))) nx
    refine ⟨x, _, rfl, .inl (SqL.of upd_same), fun c nc => ?_⟩
    have s3 := same_new (o := HO.lst (cutV (ns.map V.int) none (some 63))) nc
    refine ⟨?_, feedL c 0 0 0, rfl, by show 4 ≤ 15; decide, ?_⟩
    · exact s3 _ _ (s2 _ _ upd_same)
    · rw [feed_merge]
      have ncd : c ≠ d := fun z => by
        rw [z] at nc
        exact absurd nc (by rw [s2 _ _ upd_same]; exact fun z => nomatch z)
      refine q d c _ (fun b o z => ?_) ⟨0, 0, ms, upd_same, ?_, by decide⟩
      · have nb : b ≠ d := ne_of_none z nd
        rw [upd_ne nb]
        exact s3 _ _ (s2 _ _ (s1 _ _ z))
      · rw [upd_ne ncd, upd_same, em]
def spDraw : Sp := fun vs H Q _ => ∃ (d c : Addr) (many t : Int), vs = [.ref d, .int many] ∧ Feed H d c t ∧ t ≤ 1000000 ∧ 0 < many ∧ many < 1073741824 ∧
  ∀ r H', 0 ≤ r → r < many → Keep d H H' → Feed H' d c (t + 1) → Q (.int r) H'
theorem ok_draw {f : Addr} {fd : FuncData} {k : Nat} (F : Fun K "_law_draw" "_law_draw" s_draw f fd) (ml : mg "len" = none) : FnOk P w K mg base CX0 (k + 1) f fd ["_law_feed_here", "_law_many"] spDraw := by
  refine F.ok sc_draw (fun vs H Q E h => ?_) (fun cdv A outer s H vs Q E hr h => ?_)
  · obtain ⟨_, _, _, _, rfl, _⟩ := h
    rfl
  · obtain ⟨d, c, many, t, rfl, ⟨a, l, ns, hd, hc, ht0⟩, ht, hm0, hm1, q⟩ := h
    have hu := hu_of hr
    refine ⟨_, pss_cons (ps_dput hu (pv 0) pe_str (pe_op op_add (pe_dget hu (pv 0) pe_str (fun _ _ => rfl)) pe_int) rfl)
      (pss_cons (ps_if (pt_cmpR op_gt (pe_dget hu (pv 0) pe_str (fun _ _ => rfl)) pe_int (nomark _))
        (pss_cons (ps_set (i := 2) sc_draw.nd rfl (.inl rfl) (pe_op op_modN (pe_dget hu (pv 0) pe_str (fun _ _ => rfl)) (pv 1)))
        (pss_cons (ps_dput hu (pv 0) pe_str (pe_op op_fdiv (pe_dget hu (pv 0) pe_str (fun _ _ => rfl)) (pv 1)) rfl)
        (pss_one (ps_ret (pv 2))))) pss_nil)
      (pss_cons (ps_set (i := 3) sc_draw.nd rfl (.inl rfl) (pe_dget hu (pv 0) pe_str (fun _ _ => rfl)))
      (pss_cons (ps_dput hu (pv 0) pe_str (pe_op op_add (pv 3) pe_int) rfl)
      (pss_cons (ps_set (i := 4) sc_draw.nd rfl (.inl rfl) (pe_ifExp (pt_cmpR (op_neD hr.units) (pe_dget hu (pv 0) pe_str (fun _ _ => rfl)) (pe_lst pa_nil) (nomark _))
          (pe_ix ix_list (pe_dget hu (pv 0) pe_str (fun _ _ => rfl)) (pe_op op_modN (pv 3) (pe_callB call_len_seq (by rfl) ml PySem.boot_len (pa_cons (pe_dget hu (pv 0) pe_str (fun _ _ => rfl)) pa_nil))) (fun _ _ => rfl)) pe_int))
      (pss_cons (ps_if (PW.pt (pw_and (pt_cmpR op_ge (pv 4) (pe_op op_pow pe_int pe_int) (nomark _)) (pw_and1 (pt_cmpR op_lt (pv 3) (pe_callB call_len_seq (by rfl) ml PySem.boot_len (pa_cons (pe_dget hu (pv 0) pe_str (fun _ _ => rfl)) pa_nil)) (nomark _)))))
        (pss_cons (ps_dput hu (pv 0) pe_str (pe_op op_fdiv (pv 4) (pv 1)) rfl) (pss_one (ps_ret (pe_op op_modN (pv 4) (pv 1))))) pss_nil)
      (pss_cons (ps_set (i := 5) sc_draw.nd rfl (.inl rfl) (pe_op op_modN (pe_op op_mul (pe_op op_add (pe_op op_modN (pv 4) pe_int) pe_int) (pe_op op_add (pe_op op_mul pe_int (pe_dget hu (pv 0) pe_str (fun _ _ => rfl))) pe_int)) pe_int))
      (pss_cons (ps_set (i := 5) sc_draw.nd rfl (.inl rfl) (pe_op op_modN (pe_op op_mul (pe_op op_add (pe_op op_modN (pe_op op_pow (pv 5) pe_int) pe_int) (pe_op op_mul pe_int (pv 3))) pe_int) pe_int))
      (pss_one (ps_ret (pe_op op_modN (pe_op op_fdiv (pv 5) pe_int) (pv 1))))))))))), ?_⟩
    have ndc : c ≠ d := ne_of hc hd (by intro z; cases z)
    have mod_ok : ∀ x : Int, 0 ≤ x.fmod many ∧ x.fmod many < many := fun x => ⟨Int.fmod_nonneg_of_pos x hm0, Int.fmod_lt_of_pos x hm0⟩
    -- turn
    refine ⟨_, rfl, d, _, rfl, .inl ⟨_, .inr "turn", .inl hd, rfl, feed_turn c a l t⟩, t, 1, rfl, rfl, _, rfl, d, _, rfl, DPut.k (k := .inr "turn") hd (feed_len c a l t), ?_⟩
    rw [put_turn]
    -- left
    refine ⟨_, rfl, d, _, rfl, .inl ⟨_, .inr "left", .inl upd_same, rfl, feed_left c a l (t + 1)⟩, l, 0, rfl, rfl, _, rfl, ite2 (fun cl => ?_) (fun cl => ?_)⟩
    · refine ⟨_, rfl, d, _, rfl, .inl ⟨_, .inr "left", .inl upd_same, rfl, feed_left c a l (t + 1)⟩, _, rfl, l, many, rfl, rfl, Int.ne_of_gt hm0, ?_⟩
      refine ⟨_, rfl, d, _, rfl, .inl ⟨_, .inr "left", .inl upd_same, rfl, feed_left c a l (t + 1)⟩, _, rfl, l, many, rfl, rfl, ⟨hm0, hm1⟩, _, rfl, d, _, rfl, DPut.k (k := .inr "left") upd_same (feed_len c a l (t + 1)), ?_⟩
      rw [put_left, upd_upd]
      refine ⟨_, rfl, q _ _ (mod_ok l).1 (mod_ok l).2 Keep.upd ⟨a, _, ns, upd_same, ?_, by omega⟩⟩
      rw [upd_ne ndc]
      exact hc
    · refine ⟨_, rfl, d, _, rfl, .inl ⟨_, .inr "at", .inl upd_same, rfl, feed_at c a l (t + 1)⟩, ?_⟩
      refine ⟨_, rfl, a, 1, rfl, rfl, _, rfl, d, _, rfl, DPut.k (k := .inr "at") upd_same (feed_len c a l (t + 1)), ?_⟩
      rw [put_at, upd_upd]
      have hd2 : upd H d (.dK (feedL c (a + 1) l (t + 1))) d = some (.dK (feedL c (a + 1) l (t + 1))) := upd_same
      have hc2 : upd H d (.dK (feedL c (a + 1) l (t + 1))) c = some (.lst (ns.map V.int)) := by
        rw [upd_ne ndc]
        exact hc
      -- cells != []
      refine ⟨_, rfl, d, _, rfl, .inl ⟨_, .inr "cells", .inl upd_same, rfl, feed_cells c (a + 1) l (t + 1)⟩, Nat.zero_le _, fun e ne => ?_⟩
      have s1 := same_new (o := HO.lst []) ne
      have hc3 := s1 _ _ hc2
      have hd3 := s1 _ _ hd2
      have k3 : Keep d H (upd (upd H d (.dK (feedL c (a + 1) l (t + 1)))) e (.lst [])) := Keep.upd.trans (Keep.of_same s1)
      refine ⟨.list (ns.map PyData.int), .list [], .lst (SqL.of hc3) (dpAll_ints ns), .lst (SqL.of upd_same) .nil, shaped_ints ns, rfl, _, rfl, ?_⟩
      rw [eqv_nil]
      -- behind the cell
      have rest : ∀ cell : Int, tSeq (tIfS (tAnd (tTest (tOp (rI0 fun i j => .bl (decide (j ≤ i))) (tVar 4) (tOp (rI CPow fun i j => .int (i ^ j.toNat)) (tC (.int 10)) (tC (.int 18))))) (tTest (tOp (rI0 fun i j => .bl (decide (i < j))) (tVar 3) (tCB (fun xs H Q => ∃ p ys, xs = [.ref p] ∧ (SqL K H p ys ∨ SqT K H p ys) ∧ Q (.int ys.length) H) (tCons (tDGet (tVar 0) (tC (.str "cells"))) tNil)))))
          (tSeq (sDPut (tVar 0) (tC (.str "left")) (tOp (rI CDiv fun i j => .int (i / j)) (tVar 4) (tVar 1))) (tRet (tOp (rI (fun _ j => j ≠ 0) fun i j => .int (i.fmod j)) (tVar 4) (tVar 1)))) tNext)
          (tSeq (tAsg (tOp (rI (fun _ j => j ≠ 0) fun i j => .int (i.fmod j)) (tOp (rI CMul fun i j => .int (i * j)) (tOp (rI0 fun i j => .int (i + j)) (tOp (rI (fun _ j => j ≠ 0) fun i j => .int (i.fmod j)) (tVar 4) (tC (.int 1000003))) (tC (.int 8191))) (tOp (rI0 fun i j => .int (i + j)) (tOp (rI CMul fun i j => .int (i * j)) (tC (.int 104723)) (tDGet (tVar 0) (tC (.str "turn")))) (tC (.int 57)))) (tC (.int 2147483629))) (gName 5))
          (tSeq (tAsg (tOp (rI (fun _ j => j ≠ 0) fun i j => .int (i.fmod j)) (tOp (rI CMul fun i j => .int (i * j)) (tOp (rI0 fun i j => .int (i + j)) (tOp (rI (fun _ j => j ≠ 0) fun i j => .int (i.fmod j)) (tOp (rI CPow fun i j => .int (i ^ j.toNat)) (tVar 5) (tC (.int 5))) (tC (.int 2147483647))) (tOp (rI CMul fun i j => .int (i * j)) (tC (.int 613)) (tVar 3))) (tC (.int 48271))) (tC (.int 2147483587))) (gName 5))
          (tRet (tOp (rI (fun _ j => j ≠ 0) fun i j => .int (i.fmod j)) (tOp (rI CDiv fun i j => .int (i / j)) (tVar 5) (tC (.int 64))) (tVar 1)))))
          { nx := fun _ H' => Q .non H', rt := Q } [some (.ref d), some (.int many), none, some (.int a), some (.int cell), none] (upd (upd H d (.dK (feedL c (a + 1) l (t + 1)))) e (.lst [])) := by
        intro cell
        have fin : tSeq (tAsg (tOp (rI (fun _ j => j ≠ 0) fun i j => .int (i.fmod j)) (tOp (rI CMul fun i j => .int (i * j)) (tOp (rI0 fun i j => .int (i + j)) (tOp (rI (fun _ j => j ≠ 0) fun i j => .int (i.fmod j)) (tVar 4) (tC (.int 1000003))) (tC (.int 8191))) (tOp (rI0 fun i j => .int (i + j)) (tOp (rI CMul fun i j => .int (i * j)) (tC (.int 104723)) (tDGet (tVar 0) (tC (.str "turn")))) (tC (.int 57)))) (tC (.int 2147483629))) (gName 5))
          (tSeq (tAsg (tOp (rI (fun _ j => j ≠ 0) fun i j => .int (i.fmod j)) (tOp (rI CMul fun i j => .int (i * j)) (tOp (rI0 fun i j => .int (i + j)) (tOp (rI (fun _ j => j ≠ 0) fun i j => .int (i.fmod j)) (tOp (rI CPow fun i j => .int (i ^ j.toNat)) (tVar 5) (tC (.int 5))) (tC (.int 2147483647))) (tOp (rI CMul fun i j => .int (i * j)) (tC (.int 613)) (tVar 3))) (tC (.int 48271))) (tC (.int 2147483587))) (gName 5))
          (tRet (tOp (rI (fun _ j => j ≠ 0) fun i j => .int (i.fmod j)) (tOp (rI CDiv fun i j => .int (i / j)) (tVar 5) (tC (.int 64))) (tVar 1))))
          { nx := fun _ H' => Q .non H', rt := Q } [some (.ref d), some (.int many), none, some (.int a), some (.int cell), none] (upd (upd H d (.dK (feedL c (a + 1) l (t + 1)))) e (.lst [])) := by
          have hm : 0 ≤ cell.fmod 1000003 ∧ cell.fmod 1000003 < 1000003 := ⟨Int.fmod_nonneg_of_pos _ (by decide), Int.fmod_lt_of_pos _ (by decide)⟩
          have e64 : (2 : Nat) ^ 64 = 18446744073709551616 := by decide
          refine ⟨_, rfl, cell, 1000003, rfl, rfl, by show (1000003 : Int) ≠ 0; decide, _, 8191, rfl, rfl, ?_⟩
          refine ⟨_, rfl, d, _, rfl, .inl ⟨_, .inr "turn", .inl hd3, rfl, feed_turn c (a + 1) l (t + 1)⟩, 104723, t + 1, rfl, rfl, .inl ⟨by decide, by decide⟩, _, 57, rfl, rfl, _, _, rfl, rfl, .inl ⟨?_, ?_⟩, _, 2147483629, rfl, rfl, by show (2147483629 : Int) ≠ 0; decide, ?_⟩
          · omega
          · omega
          · generalize hx : (cell.fmod 1000003 + 8191) * (104723 * (t + 1) + 57) = x
            have hm2 : 0 ≤ x.fmod 2147483629 ∧ x.fmod 2147483629 < 2147483629 := ⟨Int.fmod_nonneg_of_pos _ (by decide), Int.fmod_lt_of_pos _ (by decide)⟩
            refine ⟨_, rfl, _, 5, rfl, rfl, ⟨by decide, by decide, ?_⟩, _, 2147483647, rfl, rfl, by show (2147483647 : Int) ≠ 0; decide, ?_⟩
            · rw [e64]
              omega
            · refine ⟨_, rfl, 613, a, rfl, rfl, .inl ⟨by decide, by decide⟩, _, _, rfl, rfl, _, 48271, rfl, rfl, .inr ⟨by decide, by decide⟩, _, 2147483587, rfl, rfl, by show (2147483587 : Int) ≠ 0; decide, ?_⟩
              refine ⟨_, rfl, _, 64, rfl, rfl, ⟨by decide, by decide⟩, _, rfl, _, many, rfl, rfl, Int.ne_of_gt hm0, ?_⟩
              exact q _ _ (mod_ok _).1 (mod_ok _).2 k3 ⟨a + 1, l, ns, hd3, hc3, by omega⟩
        refine ⟨_, rfl, 10, 18, rfl, rfl, ⟨by decide, by decide, by decide⟩, cell, _, rfl, rfl, _, rfl, ite2 (fun c1 => ?_) (fun c1 => iteF fin)⟩
        refine ⟨_, rfl, _, rfl, d, _, rfl, .inl ⟨_, .inr "cells", .inl hd3, rfl, feed_cells c (a + 1) l (t + 1)⟩, c, _, rfl, .inl (SqL.of hc3), a, _, rfl, rfl, _, rfl, ite2 (fun c2 => ?_) (fun c2 => fin)⟩
        refine ⟨_, rfl, _, rfl, cell, many, rfl, rfl, ⟨hm0, hm1⟩, _, rfl, d, _, rfl, DPut.k (k := .inr "left") hd3 (feed_len c (a + 1) l (t + 1)), ?_⟩
        rw [put_left]
        refine ⟨_, rfl, _, rfl, cell, many, rfl, rfl, Int.ne_of_gt hm0, q _ _ (mod_ok cell).1 (mod_ok cell).2 (k3.trans Keep.upd) ⟨a + 1, _, ns, upd_same, ?_, by omega⟩⟩
        rw [upd_ne ndc]
        exact hc3
      cases ns with
      | nil => exact iteF (rest 0)
      | cons n r =>
        refine iteT ?_
        have hlen : (0 : Int) < (((n :: r).map V.int).length : Nat) := by simp
        have h1 : 0 ≤ a.fmod ((((n :: r).map V.int).length : Nat) : Int) := Int.fmod_nonneg_of_pos _ hlen
        have h2 : a.fmod ((((n :: r).map V.int).length : Nat) : Int) < ((((n :: r).map V.int).length : Nat) : Int) := Int.fmod_lt_of_pos _ hlen
        have h3 : (a.fmod ((((n :: r).map V.int).length : Nat) : Int)).toNat < ((n :: r).map V.int).length := by omega
        have h4 : ∃ x, ((n :: r).map V.int)[(a.fmod ((((n :: r).map V.int).length : Nat) : Int)).toNat]? = some (.int x) := by
          rw [List.getElem?_map]
          rw [List.length_map] at h3
          rw [List.length_map, List.getElem?_eq_getElem h3]
          exact ⟨_, rfl⟩
        obtain ⟨x, hx⟩ := h4
        refine ⟨_, rfl, d, _, rfl, .inl ⟨_, .inr "cells", .inl hd3, rfl, feed_cells c (a + 1) l (t + 1)⟩, _, rfl, _, rfl, d, _, rfl, .inl ⟨_, .inr "cells", .inl hd3, rfl, feed_cells c (a + 1) l (t + 1)⟩, c, _, rfl, .inl (SqL.of hc3), a, _, rfl, rfl, Int.ne_of_gt hlen, c, _, _, _, rfl, rfl, SqL.of hc3, at_of (Int.toNat_of_nonneg h1).symm hx, rest x⟩
end

end Fp

set_option Elab.async false
set_option linter.all false
set_option maxRecDepth 100000
set_option maxHeartbeats 4000000
set_option exponentiation.threshold 10000
namespace Fp
open PySem PySem.Spec PyProof.Rows L2
abbrev s_lcommon : Stmt := topS 46
abbrev N_lcommon : List Str := ["_law_one", "_law_other"]
theorem sc_lcommon : FnScope N_lcommon ["_law_one", "_law_other"] (defScope s_lcommon) := ⟨rfl, rfl, rfl, by decide +kernel, rfl, by decide +kernel, by decide +kernel⟩
abbrev s_low2 : Stmt := topS 47
abbrev N_low2 : List Str := ["_law_top", "_law_bottom", "_law_part"]
theorem sc_low2 : FnScope N_low2 ["_law_top", "_law_bottom"] (defScope s_low2) := ⟨rfl, rfl, rfl, by decide +kernel, rfl, by decide +kernel, by decide +kernel⟩
section
variable {P : Program} {w : World} {K : PySem.W.Frag} {mg : Str → Option Value} {base : Heap} {aN aO : Addr}
/-! ### lowest terms by the law's own division -/
def spLow : Sp := fun vs H Q _ => ∃ (t b : Int), vs = [.int t, .int b] ∧ 0 < b ∧ Sm 8000 b ∧ ∀ p, H p = none → Q (.ref p) (upd H p (.tup [.int (ratT t b), .int (ratB t b)]))
def spLcommon : Sp := fun vs H Q _ => ∃ (a b : Int), vs = [.int a, .int b] ∧ 0 ≤ a ∧ 0 ≤ b ∧ Q (.int ((Int.gcd a b : Nat) : Int)) H
theorem ok_lcommon {f  : Addr} {fd  : FuncData} (F : Fun K "_law_common" "_law_common" s_lcommon f fd)
    : FnOk P w K mg base CX0 1 f fd ["_law_one", "_law_other"] spLcommon := by
  refine F.ok sc_lcommon (fun vs H Q E h => ?_) (fun cdv A outer s H vs Q E hr h => ?_)
  · obtain ⟨_, _, rfl, _⟩ := h
    rfl
  · obtain ⟨a, b, rfl, ha, hb, q⟩ := h
    refine ⟨_, (pss_cons (ps_while PassesOwn.never (pt_cmpR op_gt (pv 1) pe_int (nomark _)) (pss_one (ps_par (i := 0) (j := 1) rfl sc_lcommon.nd rfl rfl (by decide) rfl rfl (pa_cons (pv 1) (pa_cons (pe_op op_mod (pv 0) (pv 1)) pa_nil)) (by rfl))))
      (pss_one (ps_ret (pv 0)))), ?_⟩
    refine while_by (fun σ H1 => H1 = H ∧ ∃ g s : Int, σ = [some (.int g), some (.int s)] ∧ 0 ≤ g ∧ 0 ≤ s ∧ Int.gcd g s = Int.gcd a b)
      (fun σ _ => match σ with | [_, some (.int s)] => s.toNat | _ => 0) ?_ ?_ ?_
    · exact ⟨rfl, a, b, rfl, ha, hb, rfl⟩
    · rintro σ H1 ⟨rfl, g, s, rfl, hg, hs, e⟩
      refine ⟨_, rfl, s, 0, rfl, rfl, _, rfl, ite2 (fun c => ?_) (fun c => ?_)⟩
      · have hp : 0 < s := of_decide_eq_true c
        have ef : g % s = g.fmod s := (Int.fmod_eq_emod_of_nonneg g hs).symm
        have lt : s > g.fmod s := Int.fmod_lt_of_pos g hp
        have nn : 0 ≤ g.fmod s := Int.fmod_nonneg_of_pos g hp
        refine ⟨_, rfl, _, rfl, _, rfl, g, s, rfl, rfl, hp, _, _, rfl, ⟨rfl, s, g % s, rfl, hs, by rw [ef]; exact nn, ?_⟩, ?_⟩
        · rw [ef, gcd_turn hp hg]; exact e
        · show (g % s).toNat < s.toNat
          rw [ef]
          omega
      · have hs0 : s = 0 := by
          have : ¬ 0 < s := fun z => c (decide_eq_true z)
          omega
        subst hs0
        have eg : g = ((Int.gcd a b : Nat) : Int) := by
          rw [← e, Int.gcd_zero_right]
          omega
        rw [← eg] at q
        exact ⟨_, rfl, q⟩
    · intro σ H1 Q1 Q2 hq h
      obtain ⟨v, e1, i, j, e2, e3, k, e4, h⟩ := h
      exact ⟨v, e1, i, j, e2, e3, k, e4, hq _ _ h⟩
theorem ok_low2 {f fCM : Addr} {fd fdCM : FuncData} (F : Fun K "_law_low" "_law_low" s_low2 f fd)
    (FCM : Fun K "_law_common" "_law_common" s_lcommon fCM fdCM) (bCM : Binds K fdCM ["_law_one", "_law_other"] []) (gCM : mg "_law_common" = some (.ref fCM)) (GCM : FnOk P w K mg base CX0 1 fCM fdCM ["_law_one", "_law_other"] spLcommon)
    (n_abs : mg "abs" = none) : FnOk P w K mg base CX0 2 f fd ["_law_top", "_law_bottom"] spLow := by
  refine F.ok sc_low2 (fun vs H Q E h => ?_) (fun cdv A outer s H vs Q E hr h => ?_)
  · obtain ⟨_, _, rfl, _⟩ := h
    rfl
  · obtain ⟨a, b, rfl, hb, sb, q⟩ := h
    refine ⟨_, (pss_cons (ps_set (i := 2) sc_low2.nd rfl (.inl rfl) (pe_call GCM hr (by rfl) gCM FCM.kp bCM .nil pass0 (pa_cons (pe_callB call_abs (by rfl) n_abs (by decide +kernel) (pa_cons (pv 0) pa_nil)) (pa_cons (pv 1) pa_nil))))
      (pss_one (ps_ret (pe_tup (pa_cons (pe_op op_fdivA (pv 0) (pv 2)) (pa_cons (pe_op op_fdivA (pv 1) (pv 2)) pa_nil)))))), ?_⟩
    refine ⟨_, rfl, a, rfl, _, rfl, _, b, rfl, by rw [abs_if]; omega, Int.le_of_lt hb, ?_⟩
    have eg : ((Int.gcd (if a < 0 then -a else a) b : Nat) : Int) = ratG a b := by
      rw [abs_if]
      unfold ratG
      rw [if_neg (by omega)]
      show ((Nat.gcd _ _ : Nat) : Int) = ((Nat.gcd _ _ : Nat) : Int)
      rw [Int.natAbs_natCast]
    obtain ⟨c1, c2⟩ := ratG_ok (t := a) (Int.ne_of_gt hb) sb (by decide) (by decide)
    rw [eg]
    exact ⟨_, rfl, _, rfl, a, _, rfl, rfl, c1, _, rfl, _, rfl, b, _, rfl, rfl, c2, by show 2 ≤ sizeLine; decide, q⟩
end
section
variable {P : Program} {w : World} {K : PySem.W.Frag} {mg : Str → Option Value} {base : Heap}
/-- what comes of lowest terms is no greater -/
theorem fdiv_le {x g : Int} (hg : 0 < g) (hd : g ∣ x) : (x.fdiv g).natAbs ≤ x.natAbs := by
  obtain ⟨y, rfl⟩ := hd
  rw [Int.mul_fdiv_cancel_left y (Int.ne_of_gt hg), Int.natAbs_mul]
  have : 1 ≤ g.natAbs := by omega
  exact Nat.le_mul_of_pos_left _ this
theorem ratG_pos {t b : Int} (hb : 0 < b) : 0 < ratG t b ∧ ratG t b ∣ t ∧ ratG t b ∣ b := by
  have e : ratG t b = ((Int.gcd t b : Nat) : Int) := by
    unfold ratG
    rw [if_neg (by omega)]
  rw [e]
  have := (gcd_le (t := t) (Int.ne_of_gt hb)).1
  exact ⟨by omega, Int.gcd_dvd_left .., Int.gcd_dvd_right ..⟩
theorem ratT_sm {t b : Int} {n : Nat} (hb : 0 < b) (h : Sm n t) : Sm n (ratT t b) := by
  obtain ⟨h1, h2, _⟩ := ratG_pos (t := t) hb
  exact Nat.lt_of_le_of_lt (fdiv_le h1 h2) h
theorem ratB_sm {t b : Int} {n : Nat} (hb : 0 < b) (h : Sm n b) : Sm n (ratB t b) := by
  obtain ⟨h1, _, h2⟩ := ratG_pos (t := t) hb
  exact Nat.lt_of_le_of_lt (fdiv_le h1 h2) h
theorem ratB_pos {t b : Int} (hb : 0 < b) : 0 < ratB t b := by
  obtain ⟨h1, _, y, hy⟩ := ratG_pos (t := t) hb
  unfold ratB
  have e : b.fdiv (ratG t b) = y := by
    have := Int.mul_fdiv_cancel_left y (Int.ne_of_gt h1)
    rw [← hy] at this
    exact this
  rw [e]
  rcases Int.lt_trichotomy y 0 with z | z | z
  · have := Int.mul_neg_of_pos_of_neg h1 z
    omega
  · rw [z, Int.mul_zero] at hy
    omega
  · exact z
end

end Fp

set_option Elab.async false
set_option linter.all false
set_option maxRecDepth 100000
set_option maxHeartbeats 4000000
set_option exponentiation.threshold 10000
namespace Fp
open PySem PySem.Spec PyProof.Rows L2
section
variable {P : Program} {w : World} {K : PySem.W.Frag} {mg : Str → Option Value} {base : Heap}
end

end Fp

set_option Elab.async false
set_option linter.all false
set_option maxRecDepth 100000
set_option maxHeartbeats 4000000
set_option exponentiation.threshold 10000
namespace Fp
open PySem PySem.Spec PyProof.Rows L2
section
variable {P : Program} {w : World} {K : PySem.W.Frag} {mg : Str → Option Value} {base : Heap}
end

end Fp

set_option Elab.async false
set_option linter.all false
set_option maxRecDepth 100000
set_option maxHeartbeats 4000000
set_option exponentiation.threshold 10000
namespace Fp
open PySem PySem.Spec PyProof.Rows L2
theorem tC_go {v : V} {σ : L2.St} {H : Hp} {Q : VK} (h : Q v H) : tC v σ H Q := h
theorem tYes_go {σ : L2.St} {H : Hp} {Q : Bool → Hp → Prop} (h : Q true H) : tYes σ H Q := h
/-! ### lives as they stand in the heap -/
abbrev RT := Int × Int
def RAt (K : PySem.W.Frag) (H : Hp) (p : Addr) (x : RT) : Prop := SqT K H p [.int x.1, .int x.2]
inductive RsAt (K : PySem.W.Frag) (H : Hp) : List Addr → List RT → Prop
  | nil : RsAt K H [] []
  | cons {p : Addr} {x : RT} {ps : List Addr} {xs : List RT} : RAt K H p x → RsAt K H ps xs → RsAt K H (p :: ps) (x :: xs)
def RowAt (K : PySem.W.Frag) (H : Hp) (p : Addr) (xs : List RT) : Prop := ∃ rs : List Addr, SqT K H p (rs.map V.ref) ∧ RsAt K H rs xs
def LifeAt (K : PySem.W.Frag) (H : Hp) (p : Addr) (row : List RT) (step : RT) : Prop := ∃ pr ps : Addr, SqT K H p [.ref pr, .ref ps] ∧ RowAt K H pr row ∧ RAt K H ps step
/-- tuples stay -/
def Tk (K : PySem.W.Frag) (H H' : Hp) : Prop := ∀ a xs, SqT K H a xs → SqT K H' a xs
section
variable {K : PySem.W.Frag} {H H' H2 : Hp}
theorem Tk.refl : Tk K H H := fun _ _ h => h
theorem Tk.trans (a : Tk K H H') (b : Tk K H' H2) : Tk K H H2 := fun p xs h => b p xs (a p xs h)
theorem Tk.same (e : Same H H') : Tk K H H' := fun _ _ h => sqT_same e h
theorem Tk.new {p : Addr} {o : HO} (n : H p = none) : Tk K H (upd H p o) := Tk.same (same_new n)
theorem Tk.keep {d c : Addr} {t : Int} (f : Feed H d c t) (e : Keep d H H') : Tk K H H' := fun _ _ h => sqT_keep f e h
theorem RAt.tk {p : Addr} {x : RT} (h : RAt K H p x) (e : Tk K H H') : RAt K H' p x := e _ _ h
theorem RsAt.tk : ∀ {ps : List Addr} {xs : List RT}, RsAt K H ps xs → Tk K H H' → RsAt K H' ps xs
  | _, _, .nil, _ => .nil
  | _, _, .cons h r, e => .cons (h.tk e) (r.tk e)
theorem RowAt.tk {p : Addr} {xs : List RT} (h : RowAt K H p xs) (e : Tk K H H') : RowAt K H' p xs := by
  obtain ⟨rs, h1, h2⟩ := h
  exact ⟨rs, e _ _ h1, h2.tk e⟩
theorem LifeAt.tk {p : Addr} {row : List RT} {step : RT} (h : LifeAt K H p row step) (e : Tk K H H') : LifeAt K H' p row step := by
  obtain ⟨pr, ps, h1, h2, h3⟩ := h
  exact ⟨pr, ps, e _ _ h1, h2.tk e, h3.tk e⟩
theorem RsAt.length : ∀ {ps : List Addr} {xs : List RT}, RsAt K H ps xs → ps.length = xs.length
  | _, _, .nil => rfl
  | _, _, .cons _ r => congrArg (· + 1) r.length
theorem RsAt.get : ∀ {ps : List Addr} {xs : List RT} {i : Nat} {x : RT}, RsAt K H ps xs → xs[i]? = some x → ∃ p, ps[i]? = some p ∧ RAt K H p x
  | _, _, _, _, .nil, e => by simp at e
  | _, _, 0, _, .cons h _, e => by
    cases Option.some.inj e
    exact ⟨_, rfl, h⟩
  | _, _, i + 1, x, .cons _ r, e => RsAt.get (i := i) (x := x) r e
theorem RsAt.append : ∀ {ps qs : List Addr} {xs ys : List RT}, RsAt K H ps xs → RsAt K H qs ys → RsAt K H (ps ++ qs) (xs ++ ys)
  | _, _, _, _, .nil, s => s
  | _, _, _, _, .cons h r, s => .cons h (r.append s)
theorem RsAt.take : ∀ {ps : List Addr} {xs : List RT} (n : Nat), RsAt K H ps xs → RsAt K H (ps.take n) (xs.take n)
  | _, _, 0, _ => .nil
  | _, _, _ + 1, .nil => .nil
  | _, _, n + 1, .cons h r => .cons h (r.take n)
theorem RsAt.drop : ∀ {ps : List Addr} {xs : List RT} (n : Nat), RsAt K H ps xs → RsAt K H (ps.drop n) (xs.drop n)
  | _, _, 0, r => r
  | _, _, _ + 1, .nil => .nil
  | _, _, n + 1, .cons _ r => RsAt.drop n r
end
/-! ### lowest terms -/
def low2 (t b : Int) : RT := (ratT t b, ratB t b)
/-- a ratio in lowest terms -/
def Red (x : RT) : Prop := 0 < x.2 ∧ Int.gcd x.1 x.2 = 1
theorem low2_red {t b : Int} (hb : b ≠ 0) : Red (low2 t b) := by
  have main : ∀ (t b : Int), 0 < b → Red (low2 t b) := fun t b hb => by
    refine ⟨ratB_pos hb, ?_⟩
    have e : ratG t b = ((Int.gcd t b : Nat) : Int) := by
      unfold ratG
      rw [if_neg (by omega)]
    have hg := (gcd_le (t := t) (Int.ne_of_gt hb)).1
    obtain ⟨h1, ⟨x, hx⟩, ⟨y, hy⟩⟩ := ratG_pos (t := t) hb
    have ex : t.fdiv (ratG t b) = x := by
      have := Int.mul_fdiv_cancel_left x (Int.ne_of_gt h1)
      rw [← hx] at this
      exact this
    have ey : b.fdiv (ratG t b) = y := by
      have := Int.mul_fdiv_cancel_left y (Int.ne_of_gt h1)
      rw [← hy] at this
      exact this
    show Int.gcd (t.fdiv (ratG t b)) (b.fdiv (ratG t b)) = 1
    rw [ex, ey]
    have z : Int.gcd t b = (ratG t b).natAbs * Int.gcd x y := by
      have := Int.gcd_mul_left (ratG t b) x y
      rw [← hx, ← hy] at this
      exact this
    have z2 : (ratG t b).natAbs = Int.gcd t b := by rw [e]; exact Int.natAbs_natCast _
    rw [z2] at z
    exact (Nat.eq_of_mul_eq_mul_left hg (by rw [Nat.mul_one]; exact z)).symm
  rcases (by omega : 0 < b ∨ b < 0) with z | z
  · exact main t b z
  · have e1 : ratG t b = -((Int.gcd t b : Nat) : Int) := by unfold ratG; rw [if_pos z]
    have e2 : ratG (-t) (-b) = ((Int.gcd t b : Nat) : Int) := by
      unfold ratG
      rw [if_neg (by omega)]
      show ((Nat.gcd _ _ : Nat) : Int) = ((Nat.gcd _ _ : Nat) : Int)
      rw [Int.natAbs_neg, Int.natAbs_neg]
    have fl : ∀ x g : Int, x.fdiv (-g) = (-x).fdiv g := fun x g => by
      have y := Int.neg_fdiv_neg (-x) g
      rw [Int.neg_neg] at y
      exact y
    have e : low2 t b = low2 (-t) (-b) := by
      unfold low2 ratT ratB
      rw [e1, e2, fl, fl]
    rw [e]
    exact main _ _ (by omega)
/-- the value of it: a by b, told crosswise -/
theorem low2_cross {t b : Int} (hb : 0 < b) : (low2 t b).1 * b = t * (low2 t b).2 := by
  obtain ⟨h1, ⟨x, hx⟩, ⟨y, hy⟩⟩ := ratG_pos (t := t) hb
  have ex : (low2 t b).1 = x := by
    show t.fdiv (ratG t b) = x
    have := Int.mul_fdiv_cancel_left x (Int.ne_of_gt h1)
    rw [← hx] at this
    exact this
  have ey : (low2 t b).2 = y := by
    show b.fdiv (ratG t b) = y
    have := Int.mul_fdiv_cancel_left y (Int.ne_of_gt h1)
    rw [← hy] at this
    exact this
  rw [ex, ey]
  generalize ratG t b = g at hx hy
  subst hx hy
  rw [Int.mul_comm g y, Int.mul_comm g x, Int.mul_assoc x g y, Int.mul_comm g y, ← Int.mul_assoc]
theorem dvd_cop {b a d : Int} (h : b ∣ a * d) (g : Int.gcd b a = 1) : b ∣ d := by
  rw [← Int.natAbs_dvd_natAbs] at h ⊢
  rw [Int.natAbs_mul] at h
  exact Nat.Coprime.dvd_of_dvd_mul_left g h
/-- two ratios in lowest terms of one value are one -/
theorem red_eq {x y : RT} (hx : Red x) (hy : Red y) (h : x.1 * y.2 = y.1 * x.2) : x = y := by
  obtain ⟨a, b⟩ := x
  obtain ⟨c, d⟩ := y
  obtain ⟨hb, g1⟩ := hx
  obtain ⟨hd, g2⟩ := hy
  dsimp only at *
  have b_d : b ∣ d := by
    have h1 : b ∣ a * d := ⟨c, by rw [h, Int.mul_comm]⟩
    exact dvd_cop h1 (by rw [Int.gcd_comm]; exact g1)
  have d_b : d ∣ b := by
    have h1 : d ∣ c * b := ⟨a, by rw [← h, Int.mul_comm]⟩
    exact dvd_cop h1 (by rw [Int.gcd_comm]; exact g2)
  have e : b = d := Int.dvd_antisymm (Int.le_of_lt hb) (Int.le_of_lt hd) b_d d_b
  subst e
  have e2 : a = c := Int.eq_of_mul_eq_mul_right (Int.ne_of_gt hb) h
  rw [e2]
def rT (x y : RT) : RT := low2 (x.1 * y.1) (x.2 * y.2)
/-! ### drawn lives -/
def lastW (ws : List Int) : Int := ws.getLastD 0
def wholeOf (ws : List Int) (extra : Int) (step : RT) : Int := (step.2 - step.1) * (ws.sum + extra) + step.1 * lastW ws
def rowOf (ws : List Int) (extra : Int) (step : RT) : List RT := ws.map fun x => low2 ((step.2 - step.1) * x) (wholeOf ws extra step)
structure Made (ws : List Int) (extra : Int) (step : RT) : Prop where
  ne : ws ≠ []
  len : ws.length ≤ 6
  nn : ∀ x ∈ ws, 0 ≤ x ∧ x ≤ 5
  last : 0 < lastW ws
  ex : 0 ≤ extra ∧ extra ≤ 8
  st : step = (0, 1) ∨ step = (1, 2) ∨ step = (1, 3) ∨ step = (2, 3) ∨ step = (3, 4)
theorem sum_bound : ∀ {ws : List Int}, (∀ x ∈ ws, 0 ≤ x ∧ x ≤ 5) → 0 ≤ ws.sum ∧ ws.sum ≤ 5 * (ws.length : Int)
  | [], _ => ⟨by decide, by decide⟩
  | x :: r, h => by
    have h1 := h x (List.mem_cons_self ..)
    have h2 := sum_bound fun y hy => h y (List.mem_cons_of_mem _ hy)
    rw [List.sum_cons, List.length_cons]
    omega
theorem last_le_sum : ∀ {ws : List Int}, (∀ x ∈ ws, 0 ≤ x ∧ x ≤ 5) → lastW ws ≤ ws.sum
  | [], _ => by decide
  | [x], h => by
    show x ≤ _
    rw [List.sum_cons, List.sum_nil]
    omega
  | x :: y :: r, h => by
    have h1 := h x (List.mem_cons_self ..)
    have h2 := last_le_sum (ws := y :: r) fun z hz => h z (List.mem_cons_of_mem _ hz)
    have e : lastW (x :: y :: r) = lastW (y :: r) := by
      unfold lastW
      rw [List.getLastD_cons, List.getLastD_cons]
      show _ = (y :: r).getLastD 0
      rw [List.getLastD_cons]
    rw [e, List.sum_cons]
    omega
theorem Made.step_ok {ws : List Int} {extra : Int} {step : RT} (m : Made ws extra step) : 0 ≤ step.1 ∧ step.1 < step.2 ∧ step.2 ≤ 4 ∧ Red step := by
  rcases m.st with rfl | rfl | rfl | rfl | rfl <;> exact ⟨by decide, by decide, by decide, by decide, by decide⟩
theorem Made.whole {ws : List Int} {extra : Int} {step : RT} (m : Made ws extra step) : 0 < wholeOf ws extra step ∧ wholeOf ws extra step ≤ 200 := by
  have h1 := sum_bound m.nn
  have h2 := last_le_sum m.nn
  have h3 := m.last
  have h4 := m.ex
  have h5 := m.len
  unfold wholeOf
  generalize ws.sum = S at *
  generalize lastW ws = L at *
  rcases m.st with rfl | rfl | rfl | rfl | rfl <;> dsimp only <;> omega

end Fp

set_option Elab.async false
set_option linter.all false
set_option maxRecDepth 100000
set_option maxHeartbeats 4000000
set_option exponentiation.threshold 10000
namespace Fp
open PySem PySem.Spec PyProof.Rows L2
abbrev N_life : List Str := ["_law_feed_here", "_law_way", "_law_many", "_law_part", "_law_weights", "_law_top", "_law_bottom", "_law_extra", "_law_whole", "_law_k", "_law_weight"]
theorem pick4 {a b c d : V} {r : Int} (h0 : 0 ≤ r) (h1 : r < 4) : ∃ v, atI [a, b, c, d] r = some v ∧ (v = a ∨ v = b ∨ v = c ∨ v = d) := by
  rcases (by omega : r = 0 ∨ r = 1 ∨ r = 2 ∨ r = 3) with rfl | rfl | rfl | rfl
  · exact ⟨a, atI_nat (j := 0) rfl, .inl rfl⟩
  · exact ⟨b, atI_nat (j := 1) rfl, .inr (.inl rfl)⟩
  · exact ⟨c, atI_nat (j := 2) rfl, .inr (.inr (.inl rfl))⟩
  · exact ⟨d, atI_nat (j := 3) rfl, .inr (.inr (.inr rfl))⟩
theorem pick2' {a b : V} {r : Int} (h0 : 0 ≤ r) (h1 : r < 2) : ∃ v, atI [a, b] r = some v ∧ (v = a ∨ v = b) := by
  rcases (by omega : r = 0 ∨ r = 1) with rfl | rfl
  · exact ⟨a, atI_nat (j := 0) rfl, .inl rfl⟩
  · exact ⟨b, atI_nat (j := 1) rfl, .inr rfl⟩
theorem tk_lst {K : PySem.W.Frag} {H : Hp} {p : Addr} {xs ys : List V} (h : H p = some (.lst xs)) : Tk K H (upd H p (.lst ys)) := fun a zs z => by
  rcases z with (z | ⟨o, z⟩) | z
  · exact .inl (.inl (by rw [upd_ne (ne_of z h (by intro y; cases y))]; exact z))
  · exact .inl (.inr ⟨o, by rw [upd_ne (ne_of z h (by intro y; cases y))]; exact z⟩)
  · exact .inr z
theorem last_set {ws : List Int} (h : ws ≠ []) (x : Int) : lastW (ws.set (ws.length - 1) x) = x := by
  unfold lastW
  rw [List.getLastD_eq_getLast?, List.getLast?_eq_getElem?, List.length_set, List.getElem?_set_self (by
    have := List.length_pos_iff.mpr h
    omega)]
  rfl
theorem last_get {ws : List Int} (h : ws ≠ []) : ws[ws.length - 1]? = some (lastW ws) := by
  unfold lastW
  rw [List.getLastD_eq_getLast?, List.getLast?_eq_getElem?]
  have := List.length_pos_iff.mpr h
  rw [List.getElem?_eq_getElem (by omega)]
  rfl
theorem atI_lastW {ws : List Int} (h : ws ≠ []) : atI (ws.map V.int) (-1) = some (.int (lastW ws)) := by
  have e : ws.map V.int = ws.dropLast.map V.int ++ [V.int (ws.getLast h)] := by
    rw [← List.map_singleton, ← List.map_append, List.dropLast_concat_getLast]
  rw [e, atI_last]
  unfold lastW
  rw [List.getLastD_eq_getLast?, List.getLast?_eq_some_getLast h]
  rfl
section
variable {P : Program} {w : World} {K : PySem.W.Frag} {mg : Str → Option Value} {base : Heap}
def spLife (K : PySem.W.Frag) : Sp := fun vs H Q _ => ∃ (d c : Addr) (way t : Int), vs = [.ref d, .int way] ∧ Feed H d c t ∧ t ≤ 900000 ∧
  ∀ p ws extra step t' H', Keep d H H' → Feed H' d c t' → t' ≤ t + 12 → Made ws extra step → (way ≠ 2 → way ≠ 4 → extra = 0) → (way = 2 ∨ way = 4 → 0 < extra) → (way ≠ 3 → way ≠ 4 → step = (0, 1)) → LifeAt K H' p (rowOf ws extra step) step → Q (.ref p) H'
theorem draws_row {K : PySem.W.Frag} {H : Hp} {rs : List Addr} {xs : List RT} {p : Addr} {x : RT} (h : RsAt K H rs xs) (e : RAt K H p x) : RsAt K H (rs ++ [p]) (xs ++ [x]) := h.append (.cons e .nil)
theorem in_two {a b x : Int} : inV (.int x) [.int a, .int b] = (decide (x = a) || decide (x = b)) := by
  have e : ∀ y : Int, eqV (.int y) (.int x) = decide (x = y) := fun y => by
    show (y == x) = _
    rw [Bool.eq_iff_iff]
    simp
    exact ⟨fun z => z.symm, fun z => z.symm⟩
  unfold inV
  rw [List.any_cons, List.any_cons, List.any_nil, e, e, Bool.or_false]
theorem map_last {ws : List Int} (h : ws ≠ []) (x : Int) : ws.set (ws.length - 1) x ≠ [] := by
  intro z
  have := congrArg List.length z
  rw [List.length_set, List.length_nil] at this
  exact h (List.length_eq_zero_iff.mp this)
theorem ixN_last {n : Nat} (h : 0 < n) : ixN n (-1) = some (n - 1) := by
  unfold ixN
  rw [if_neg (by omega)]
  first
    | (rw [if_pos (by omega)]; congr 1; omega)
    | (simp; omega)
end

end Fp

set_option Elab.async false
set_option linter.all false
set_option maxRecDepth 100000
set_option maxHeartbeats 4000000
set_option exponentiation.threshold 10000
namespace Fp
open PySem PySem.Spec PyProof.Rows L2
theorem snoc_cases {α : Type} (xs : List α) : xs = [] ∨ ∃ ys y, xs = ys ++ [y] := by
  rcases List.eq_nil_or_concat xs with h | ⟨ys, y, h⟩
  · exact .inl h
  · exact .inr ⟨ys, y, by rw [h, List.concat_eq_append]⟩
/-! ### rows joined, cut, compared -/
theorem eqv_D2 (x y : RT) : PyData.eqv (.tuple [.int x.1, .int x.2]) (.tuple [.int y.1, .int y.2]) = decide (x = y) := by
  show ((x.1 == y.1) && ((x.2 == y.2) && true)) = _
  rw [Bool.eq_iff_iff]
  simp only [Bool.and_true, Bool.and_eq_true, beq_iff_eq, decide_eq_true_eq]
  exact ⟨fun z => Prod.ext z.1 z.2, fun z => ⟨congrArg Prod.fst z, congrArg Prod.snd z⟩⟩
section
variable {K : PySem.W.Frag} {H : Hp}
theorem RAt.dp {p : Addr} {x : RT} (h : RAt K H p x) : Dp K H (.ref p) (.tuple [.int x.1, .int x.2]) := .tup h (.cons (.int _) (.cons (.int _) .nil))
theorem ne_rat {p q : Addr} {x y : RT} {Q : VK} (h1 : RAt K H p x) (h2 : RAt K H q y) (h : Q (.bl (!decide (x = y))) H) : rNeD K (.ref p) (.ref q) H Q := by
  refine ⟨_, _, h1.dp, h2.dp, rfl, rfl, ?_⟩
  rw [eqv_D2]
  exact h
theorem eq_rat {p q : Addr} {x y : RT} {Q : VK} (h1 : RAt K H p x) (h2 : RAt K H q y) (h : Q (.bl (decide (x = y))) H) : rEqD K (.ref p) (.ref q) H Q := by
  refine ⟨_, _, h1.dp, h2.dp, rfl, rfl, ?_⟩
  rw [eqv_D2]
  exact h
theorem cat_row {p q : Addr} {xs ys : List RT} {Q : VK} (h1 : RowAt K H p xs) (h2 : RowAt K H q ys) (hl : xs.length + ys.length ≤ 1000) (h : ∀ r H', Same H H' → RowAt K H' r (xs ++ ys) → Q (.ref r) H') : rCatA K (.ref p) (.ref q) H Q := by
  obtain ⟨as, a1, a2⟩ := h1
  obtain ⟨bs, b1, b2⟩ := h2
  have la := a2.length
  have lb := b2.length
  refine ⟨p, q, _, _, rfl, rfl, a1, b1, ?_, fun z => ?_, fun _ z => ?_, fun _ _ r nr => ?_⟩
  · rw [List.length_map, List.length_map, sizeLine_eq]
    omega
  · have e : as = [] := List.map_eq_nil_iff.mp z
    subst e
    have e2 : xs = [] := List.length_eq_zero_iff.mp la.symm
    subst e2
    exact h q H (Same.refl H) ⟨bs, b1, b2⟩
  · have e : bs = [] := List.map_eq_nil_iff.mp z
    subst e
    have e2 : ys = [] := List.length_eq_zero_iff.mp lb.symm
    subst e2
    refine h p H (Same.refl H) ?_
    rw [List.append_nil]
    exact ⟨as, a1, a2⟩
  · have s := same_new (o := HO.tup (as.map V.ref ++ bs.map V.ref)) nr
    refine h r _ s ⟨as ++ bs, ?_, (a2.append b2).tk (Tk.same s)⟩
    rw [List.map_append]
    exact SqT.of upd_same
theorem row_at {p : Addr} {xs : List RT} {i : Nat} {x : RT} (h : RowAt K H p xs) (e : xs[i]? = some x) : ∃ (rs : List Addr) (r : Addr), SqT K H p (rs.map V.ref) ∧ rs.length = xs.length ∧ (rs.map V.ref)[i]? = some (.ref r) ∧ RAt K H r x := by
  obtain ⟨rs, h1, h2⟩ := h
  obtain ⟨r, e1, e2⟩ := h2.get e
  refine ⟨rs, r, h1, h2.length, ?_, e2⟩
  rw [List.getElem?_map, e1]
  rfl
/-- row[i] from the front -/
theorem ix_row {p : Addr} {xs : List RT} {i : Int} {j : Nat} {x : RT} {Q : VK} (h : RowAt K H p xs) (ei : i = (j : Int)) (e : xs[j]? = some x) (hq : ∀ r, RAt K H r x → Q (.ref r) H) : rIxT K (.ref p) (.int i) H Q := by
  obtain ⟨rs, r, h1, _, h3, h4⟩ := row_at h e
  exact ⟨p, _, i, _, rfl, rfl, h1, at_of ei h3, hq r h4⟩
/-- row[-k] from the end -/
theorem ix_back {p : Addr} {xs : List RT} {k j : Nat} {x : RT} {Q : VK} (h : RowAt K H p xs) (hk : 0 < k) (ej : j + k = xs.length) (e : xs[j]? = some x) (hq : ∀ r, RAt K H r x → Q (.ref r) H) : rIxT K (.ref p) (.int (-(k : Int))) H Q := by
  obtain ⟨rs, r, h1, h2, h3, h4⟩ := row_at h e
  refine ⟨p, _, _, _, rfl, rfl, h1, ?_, hq r h4⟩
  unfold atI
  have : ixN (rs.map V.ref).length (-(k : Int)) = some j := by
    unfold ixN
    rw [List.length_map, if_neg (by omega), if_pos (by omega)]
    congr 1
    omega
  rw [this]
  exact h3
theorem cutV_take (vs : List V) (n : Nat) : cutV vs none (some (n : Int)) = vs.take n := by
  unfold cutV
  rw [HT.sIx_none, HT.sIx_nat]
  show (vs.drop 0).take (min n vs.length - 0) = _
  rw [List.drop_zero, Nat.sub_zero]
  rcases Nat.le_total n vs.length with z | z
  · rw [Nat.min_eq_left z]
  · rw [Nat.min_eq_right z, List.take_length, List.take_of_length_le z]
/-- row[:n] -/
theorem take_row {p : Addr} {xs : List RT} {n : Nat} {Q : VK} (h : RowAt K H p xs) (hq : ∀ r H', Same H H' → RowAt K H' r (xs.take n) → Q (.ref r) H') : rSlA K (.ref p) none (some (n : Int)) H Q := by
  obtain ⟨rs, h1, h2⟩ := h
  have hl := h2.length
  refine ⟨p, _, rfl, h1, fun z => ?_, fun _ r nr => ?_⟩
  · have z2 := z.2
    rw [HT.sIx_nat, List.length_map] at z2
    refine hq p H (Same.refl H) ?_
    rw [List.take_of_length_le (by omega)]
    exact ⟨rs, h1, h2⟩
  · rw [cutV_take]
    have s := same_new (o := HO.tup ((rs.map V.ref).take n)) nr
    refine hq r _ s ⟨rs.take n, ?_, (h2.take n).tk (Tk.same s)⟩
    rw [List.map_take]
    exact SqT.of upd_same
end

end Fp

set_option Elab.async false
set_option linter.all false
set_option maxRecDepth 100000
set_option maxHeartbeats 4000000
set_option exponentiation.threshold 10000
namespace Fp
open PySem PySem.Spec PyProof.Rows L2
/-- a life as it is first drawn -/
def BaseLife (row : List RT) (step : RT) : Prop := (∃ ws extra, Made ws extra step ∧ row = rowOf ws extra step) ∨ (row = [] ∧ step = (0, 1))
/-- .. and made longer by one -/
def AnyLife (row : List RT) (step : RT) : Prop := BaseLife row step ∨
  (∃ row0 l, BaseLife row0 step ∧ row0.length ≤ 5 ∧ step ≠ (0, 1) ∧ row0[row0.length - 1]? = some l ∧ row = row0 ++ [rT l step]) ∨
  (∃ row0, BaseLife row0 (0, 1) ∧ row0.length ≤ 5 ∧ row = row0 ++ [(0, 1)] ∧ (step = (0, 1) ∨ step = (1, 3)))
theorem rowOf_len {ws : List Int} {extra : Int} {step : RT} : (rowOf ws extra step).length = ws.length := by
  unfold rowOf
  rw [List.length_map]
theorem BaseLife.len {row : List RT} {step : RT} (h : BaseLife row step) : row.length ≤ 6 := by
  rcases h with ⟨ws, extra, m, rfl⟩ | ⟨rfl, _⟩
  · rw [rowOf_len]
    exact m.len
  · decide
theorem BaseLife.ne {row : List RT} {step : RT} (h : BaseLife row step) (hs : step ≠ (0, 1)) : row ≠ [] := by
  rcases h with ⟨ws, extra, m, rfl⟩ | ⟨rfl, z⟩
  · intro z
    have := congrArg List.length z
    rw [rowOf_len, List.length_nil] at this
    exact m.ne (List.length_eq_zero_iff.mp this)
  · exact absurd z hs
/-- small ratios -/
def SmR (n : Nat) (x : RT) : Prop := Red x ∧ Sm n x.1 ∧ Sm n x.2
theorem low2_sm {t b : Int} {n : Nat} (hb : 0 < b) (h1 : Sm n t) (h2 : Sm n b) : SmR n (low2 t b) := ⟨low2_red (Int.ne_of_gt hb), ratT_sm hb h1, ratB_sm hb h2⟩
theorem SmR.mono {n m : Nat} {x : RT} (h : SmR n x) (l : n ≤ m) : SmR m x := ⟨h.1, h.2.1.mono l, h.2.2.mono l⟩
theorem rT_sm {x y : RT} {n m : Nat} (hx : SmR n x) (hy : SmR m y) : SmR (n + m) (rT x y) :=
  low2_sm (Int.mul_pos hx.1.1 hy.1.1) (hx.2.1.mul hy.2.1) (hx.2.2.mul hy.2.2)
theorem Made.sm {ws : List Int} {extra : Int} {step : RT} (m : Made ws extra step) : ∀ x ∈ rowOf ws extra step, SmR 10 x ∧ 0 ≤ x.1 := by
  intro x hx
  unfold rowOf at hx
  obtain ⟨y, hy, rfl⟩ := List.mem_map.mp hx
  obtain ⟨h1, h2⟩ := m.nn y hy
  obtain ⟨s1, s2, s3, _⟩ := m.step_ok
  obtain ⟨w0, w1⟩ := m.whole
  have hp : 0 ≤ (step.2 - step.1) * y := Int.mul_nonneg (by omega) h1
  have hq : (step.2 - step.1) * y ≤ 20 := by
    have : (step.2 - step.1) * y ≤ 4 * 5 := Int.mul_le_mul (by omega) h2 h1 (by decide)
    omega
  refine ⟨low2_sm w0 ?_ ?_, ?_⟩
  · unfold Sm
    omega
  · unfold Sm
    omega
  · obtain ⟨g1, ⟨z, hz⟩, _⟩ := ratG_pos (t := (step.2 - step.1) * y) w0
    have e : (low2 ((step.2 - step.1) * y) (wholeOf ws extra step)).1 = z := by
      show Int.fdiv _ _ = z
      have := Int.mul_fdiv_cancel_left z (Int.ne_of_gt g1)
      rw [← hz] at this
      exact this
    rw [e]
    rcases (by omega : 0 ≤ z ∨ z < 0) with q | q
    · exact q
    · have := Int.mul_neg_of_pos_of_neg g1 q
      omega
theorem BaseLife.sm {row : List RT} {step : RT} (h : BaseLife row step) : (∀ x ∈ row, SmR 10 x ∧ 0 ≤ x.1) ∧ SmR 4 step ∧ 0 ≤ step.1 ∧ step.1 < step.2 := by
  rcases h with ⟨ws, extra, m, rfl⟩ | ⟨rfl, rfl⟩
  · refine ⟨m.sm, ?_⟩
    rcases m.st with rfl | rfl | rfl | rfl | rfl <;> exact ⟨⟨⟨by decide, by decide⟩, by unfold Sm; decide, by unfold Sm; decide⟩, by decide, by decide⟩
  · exact ⟨fun x hx => by simp at hx, ⟨⟨⟨by decide, by decide⟩, by unfold Sm; decide, by unfold Sm; decide⟩, by decide, by decide⟩⟩
section
variable {P : Program} {w : World} {K : PySem.W.Frag} {mg : Str → Option Value} {base : Heap}
def spAny (K : PySem.W.Frag) : Sp := fun vs H Q _ => ∃ (d c : Addr) (t : Int), vs = [.ref d] ∧ Feed H d c t ∧ t ≤ 800000 ∧
  ∀ p row step t' H', Keep d H H' → Feed H' d c t' → t' ≤ t + 14 → AnyLife row step → LifeAt K H' p row step → Q (.ref p) H'
end

end Fp

set_option Elab.async false
set_option linter.all false
set_option maxRecDepth 100000
set_option maxHeartbeats 4000000
set_option exponentiation.threshold 10000
namespace Fp
open PySem PySem.Spec PyProof.Rows L2
/-! ### ratios by their value -/
def qv (x : RT) : Rat := (x.1 : Rat) / (x.2 : Rat)
theorem cast_ne {b : Int} (h : b ≠ 0) : (b : Rat) ≠ 0 := fun z => h (Rat.intCast_inj.mp (by simpa using z))
theorem qv_low2 {t b : Int} (hb : 0 < b) : qv (low2 t b) = (t : Rat) / (b : Rat) := by
  have e := low2_cross (t := t) hb
  have hp : (low2 t b).2 ≠ 0 := Int.ne_of_gt (low2_red (t := t) (Int.ne_of_gt hb)).1
  have h1 := cast_ne hp
  have h2 := cast_ne (Int.ne_of_gt hb)
  have e2 : ((low2 t b).1 : Rat) * (b : Rat) = (t : Rat) * ((low2 t b).2 : Rat) := by
    rw [← Rat.intCast_mul, ← Rat.intCast_mul, e]
  unfold qv
  grind
theorem qv_inj {x y : RT} (hx : Red x) (hy : Red y) (h : qv x = qv y) : x = y := by
  refine red_eq hx hy ?_
  have h1 := cast_ne (Int.ne_of_gt hx.1)
  have h2 := cast_ne (Int.ne_of_gt hy.1)
  unfold qv at h
  refine Rat.intCast_inj.mp ?_
  rw [Rat.intCast_mul, Rat.intCast_mul]
  grind
theorem qv_rT {x y : RT} (hx : Red x) (hy : Red y) : Red (rT x y) ∧ qv (rT x y) = qv x * qv y := by
  have hb := Int.mul_pos hx.1 hy.1
  refine ⟨low2_red (Int.ne_of_gt hb), ?_⟩
  unfold rT
  rw [qv_low2 hb, Rat.intCast_mul, Rat.intCast_mul]
  have h1 := cast_ne (Int.ne_of_gt hx.1)
  have h2 := cast_ne (Int.ne_of_gt hy.1)
  unfold qv
  grind
/-- a by b, whatever the terms -/
theorem qv_of {x : RT} {n D : Int} (hx : Red x) (hD : 0 < D) (h : qv x = (n : Rat) / (D : Rat)) : x = low2 n D := qv_inj hx (low2_red (Int.ne_of_gt hD)) (by rw [qv_low2 hD]; exact h)
/-- in lowest terms no part is greater than by other terms -/
theorem red_small {x : RT} {n D : Int} (hx : Red x) (hD : 0 < D) (h : qv x = (n : Rat) / (D : Rat)) : x.2 ∣ D ∧ x.1.natAbs ≤ n.natAbs := by
  have e := qv_of hx hD h
  obtain ⟨g1, g2, g3⟩ := ratG_pos (t := n) hD
  have e1 : x.1 = n.fdiv (ratG n D) := congrArg Prod.fst e
  have e2 : x.2 = D.fdiv (ratG n D) := congrArg Prod.snd e
  refine ⟨?_, ?_⟩
  · rw [e2]
    obtain ⟨y, hy⟩ := g3
    have z := Int.mul_fdiv_cancel_left y (Int.ne_of_gt g1)
    rw [← hy] at z
    rw [z]
    exact ⟨ratG n D, by rw [Int.mul_comm]; exact hy⟩
  · rw [e1]
    exact fdiv_le g1 g2
theorem dvd_small {a b : Int} {n : Nat} (h : a ∣ b) (hb : 0 < b) (s : Sm n b) : Sm n a := by
  unfold Sm at *
  exact Nat.lt_of_le_of_lt (Nat.le_of_dvd (by omega) (Int.natAbs_dvd_natAbs.mpr h)) s
/-- the value told over any number that its bottom divides -/
theorem qv_over {x : RT} {D : Int} (hx : 0 < x.2) (h : x.2 ∣ D) (hD : 0 < D) : qv x = ((x.1 * (D / x.2) : Int) : Rat) / (D : Rat) := by
  obtain ⟨y, hy⟩ := h
  have h1 := cast_ne (Int.ne_of_gt hx)
  have e : D / x.2 = y := by
    rw [hy]
    exact Int.mul_ediv_cancel_left y (Int.ne_of_gt hx)
  have h2 := cast_ne (Int.ne_of_gt hD)
  have h3 : (D : Rat) = (x.2 : Rat) * (y : Rat) := by rw [← Rat.intCast_mul, hy]
  unfold qv
  rw [e, Rat.intCast_mul]
  grind
/-- the bottoms of some, multiplied -/
def prodB (xs : List RT) : Int := (xs.map (·.2)).foldr (· * ·) 1
theorem prodB_pos : ∀ {xs : List RT}, (∀ x ∈ xs, 0 < x.2) → 0 < prodB xs
  | [], _ => by decide
  | x :: r, h => Int.mul_pos (h x (List.mem_cons_self ..)) (prodB_pos fun y hy => h y (List.mem_cons_of_mem _ hy))
theorem prodB_dvd : ∀ {xs : List RT} {x : RT}, x ∈ xs → x.2 ∣ prodB xs
  | y :: r, x, h => by
    rcases List.mem_cons.mp h with rfl | h
    · exact Int.dvd_mul_right ..
    · exact Int.dvd_trans (prodB_dvd h) (Int.dvd_mul_left ..)
theorem prodB_sm {n : Nat} : ∀ {xs : List RT}, (∀ x ∈ xs, Sm n x.2) → Sm (n * xs.length + 1) (prodB xs)
  | [], _ => by
    unfold Sm
    show 1 < 2 ^ (n * 0 + 1)
    simp
  | x :: r, h => by
    have h1 := (h x (List.mem_cons_self ..)).mul (prodB_sm fun y hy => h y (List.mem_cons_of_mem _ hy))
    refine h1.mono ?_
    rw [List.length_cons, Nat.mul_add]
    omega

end Fp

set_option Elab.async false
set_option linter.all false
set_option maxRecDepth 100000
set_option maxHeartbeats 4000000
set_option exponentiation.threshold 10000
namespace Fp
open PySem PySem.Spec PyProof.Rows L2
/-! ### rows on one bottom, added -/
abbrev s_oob : Stmt := topS 13
abbrev s_added : Stmt := topS 14
abbrev N_oob : List Str := ["told", "common", "top", "bottom"]
theorem sc_oob : FnScope N_oob ["told"] (defScope s_oob) := ⟨rfl, rfl, rfl, by decide +kernel, rfl, by decide +kernel, by decide +kernel⟩
theorem sc_added : FnScope ["told", "tops", "bottom"] ["told"] (defScope s_added) := ⟨rfl, rfl, rfl, by decide +kernel, rfl, by decide +kernel, by decide +kernel⟩
/-- a list of ratios -/
def LstAt (K : PySem.W.Frag) (H : Hp) (p : Addr) (xs : List RT) : Prop := ∃ rs : List Addr, SqL K H p (rs.map V.ref) ∧ RsAt K H rs xs
theorem LstAt.same {K : PySem.W.Frag} {H H' : Hp} {p : Addr} {xs : List RT} (h : LstAt K H p xs) (e : Same H H') : LstAt K H' p xs := by
  obtain ⟨rs, h1, h2⟩ := h
  exact ⟨rs, e.seq h1, h2.tk (Tk.same e)⟩
/-- all over one number -/
structure Over1 (n d : Nat) (D : Int) (xs : List RT) : Prop where
  pos : 0 < D
  sm : Sm d D
  ok : ∀ x ∈ xs, 0 < x.2 ∧ x.2 ∣ D ∧ Sm n x.1
  len : xs.length ≤ 1000
def topsOn (c : Int) (xs : List RT) : List Int := xs.map fun x => x.1 * (c / x.2)
theorem lcm_ok {c b D : Int} (hc : 0 < c) (hb : 0 < b) (h1 : c ∣ D) (h2 : b ∣ D) : 0 < c.fdiv (Int.gcd c b : Nat) * b ∧ c.fdiv (Int.gcd c b : Nat) * b ∣ D ∧ c ∣ c.fdiv (Int.gcd c b : Nat) * b ∧ b ∣ c.fdiv (Int.gcd c b : Nat) * b := by
  have hg : 0 < Int.gcd c b := Nat.gcd_pos_of_pos_right _ (by omega)
  obtain ⟨x, hx⟩ : ((Int.gcd c b : Nat) : Int) ∣ c := Int.gcd_dvd_left ..
  obtain ⟨y, hy⟩ : ((Int.gcd c b : Nat) : Int) ∣ b := Int.gcd_dvd_right ..
  generalize hgg : ((Int.gcd c b : Nat) : Int) = g at *
  have g0 : 0 < g := by omega
  have e : c.fdiv g = x := by
    have := Int.mul_fdiv_cancel_left x (Int.ne_of_gt g0)
    rw [← hx] at this
    exact this
  have x0 : 0 < x := by
    rcases (by omega : 0 < x ∨ x ≤ 0) with z | z
    · exact z
    · have := Int.mul_nonpos_of_nonneg_of_nonpos (Int.le_of_lt g0) z
      omega
  have cop : Int.gcd x y = 1 := by
    have z : Int.gcd c b = g.natAbs * Int.gcd x y := by
      have := Int.gcd_mul_left g x y
      rw [← hx, ← hy] at this
      exact this
    have z2 : g.natAbs = Int.gcd c b := by rw [← hgg]; exact Int.natAbs_natCast _
    rw [z2] at z
    exact (Nat.eq_of_mul_eq_mul_left hg (by rw [Nat.mul_one]; exact z)).symm
  rw [e]
  refine ⟨Int.mul_pos x0 hb, ?_, ⟨y, ?_⟩, Int.dvd_mul_left ..⟩
  · obtain ⟨u, hu⟩ := h1
    have h3 : y ∣ x * u := by
      have : g * y ∣ g * (x * u) := by
        rw [← Int.mul_assoc, ← hx, ← hu, ← hy]
        exact h2
      exact Int.dvd_of_mul_dvd_mul_left (Int.ne_of_gt g0) this
    obtain ⟨v, hv⟩ := dvd_cop h3 (by rw [Int.gcd_comm]; exact cop)
    refine ⟨v, ?_⟩
    rw [hu, hv, hx, hy]
    rw [Int.mul_assoc g x, ← Int.mul_assoc x y v, Int.mul_comm x (g * y), Int.mul_assoc g y x, Int.mul_assoc g (y * x) v, Int.mul_comm y x]
  · rw [hy, hx, Int.mul_comm g x, Int.mul_assoc]
theorem tops_sum {c : Int} (hc : 0 < c) : ∀ {xs : List RT}, (∀ x ∈ xs, 0 < x.2 ∧ x.2 ∣ c) → (((topsOn c xs).sum : Int) : Rat) / (c : Rat) = (xs.map qv).sum
  | [], _ => by
    show ((0 : Int) : Rat) / (c : Rat) = 0
    have := cast_ne (Int.ne_of_gt hc)
    grind
  | x :: r, h => by
    have h1 := h x (List.mem_cons_self ..)
    have h2 := tops_sum hc (xs := r) fun y hy => h y (List.mem_cons_of_mem _ hy)
    have e := qv_over h1.1 h1.2 hc
    show (((x.1 * (c / x.2) :: topsOn c r).sum : Int) : Rat) / (c : Rat) = (qv x :: r.map qv).sum
    rw [List.sum_cons, List.sum_cons, ← h2, e, Rat.intCast_add]
    have := cast_ne (Int.ne_of_gt hc)
    grind
theorem tops_sm {n d : Nat} {c D : Int} (hc : 0 < c) (hD : 0 < D) (hcD : c ∣ D) (sD : Sm d D) : ∀ {xs : List RT}, (∀ x ∈ xs, 0 < x.2 ∧ Sm n x.1) → (topsOn c xs).sum.natAbs ≤ xs.length * 2 ^ (n + d)
  | [], _ => by
    show (0 : Int).natAbs ≤ 0 * _
    simp
  | x :: r, h => by
    have h1 := h x (List.mem_cons_self ..)
    have h2 := tops_sm hc hD hcD sD (xs := r) fun y hy => h y (List.mem_cons_of_mem _ hy)
    have sc : Sm d c := dvd_small hcD hD sD
    have sq : Sm d (c / x.2) := by
      unfold Sm at *
      have a : (c / x.2).natAbs ≤ c.natAbs := Int.natAbs_ediv_le_natAbs ..
      omega
    have sp : Sm (n + d) (x.1 * (c / x.2)) := h1.2.mul sq
    show (x.1 * (c / x.2) :: topsOn c r).sum.natAbs ≤ (r.length + 1) * _
    rw [List.sum_cons, Nat.add_mul]
    unfold Sm at sp
    have := Int.natAbs_add_le (x.1 * (c / x.2)) (topsOn c r).sum
    omega
section
variable {P : Program} {w : World} {K : PySem.W.Frag} {mg : Str → Option Value} {base : Heap}
def spOob (K : PySem.W.Frag) : Sp := fun vs H Q _ => ∃ (p : Addr) (xs : List RT) (n d : Nat) (D : Int), vs = [.ref p] ∧ LstAt K H p xs ∧ Over1 n d D xs ∧ n ≤ 4000 ∧ d ≤ 4000 ∧
  ∀ z zl c H', Same H H' → H' z = some (.tup [.ref zl, .int c]) → H' zl = some (.lst ((topsOn c xs).map V.int)) → 0 < c → c ∣ D → (∀ x ∈ xs, x.2 ∣ c) → Q (.ref z) H'
theorem ok_oob {f fC : Addr} {fd fdC : FuncData} (F : Fun K "on_one_bottom" "on_one_bottom" s_oob f fd) (FC : Fun K "common_divisor" "common_divisor" s_cd fC fdC) (bC : Binds K fdC ["one", "other"] []) (gC : mg "common_divisor" = some (.ref fC)) (ma : mg "abs" = none) :
    FnOk P w K mg base CX0 2 f fd ["told"] (spOob K) := by
  have GC : FnOk P w K mg base CX0 1 fC fdC ["one", "other"] spCd := ok_cd FC ma
  refine F.ok sc_oob (fun vs H Q E h => ?_) (fun cdv A outer s H vs Q E hr h => ?_)
  · obtain ⟨_, _, _, _, _, rfl, _⟩ := h
    rfl
  · obtain ⟨p, xs, n, d, D, rfl, hlst, O, hn, hd, q⟩ := h
    obtain ⟨rs, r1, r2⟩ := id hlst
    have hl := r2.length
    refine ⟨_, (pss_cons (ps_set (i := 1) sc_oob.nd rfl (.inr rfl) pe_int) (pss_cons (ps_for PassesOwn.never rfl (pi_list (pv 0)) (pg_tup rfl (pgs_cons (pg_name (i := 2) sc_oob.nd rfl (.inl rfl)) (pgs_cons (pg_name (i := 3) sc_oob.nd rfl (.inl rfl)) pgs_nil)))
          (pss_one (ps_set (i := 1) sc_oob.nd rfl (.inr rfl) (pe_op op_mulA (pe_op op_fdivA (pv 1) (pe_call GC hr (by rfl) gC FC.kp bC .nil pass0 (pa_cons (pv 1) (pa_cons (pv 3) pa_nil)))) (pv 3))))) (pss_one (ps_ret (pe_tup (pa_cons (pe_lc (own := [("top", 2), ("bottom", 3)]) (g := gTup K 2 (gCons (gName 2) (gCons (gName 3) gNil))) (tt := tYes) (te := tOp (rI CMulA fun i j => .int (i * j)) (tVar 2) (tOp (rI CDivA fun i j => .int (i.fdiv j)) (tVar 1) (tVar 3))) rfl sc_oob.nd (pi_list (pv 0)) (blkOk_by (own := [("top", 2), ("bottom", 3)]) (N := N_oob) (sc := defScope s_oob) (by decide +kernel))
          (fun _ _ _ _ _ => pg_tup rfl (pgs_cons (pg_name (i := 2) sc_oob.nd rfl (.inl rfl)) (pgs_cons (pg_name (i := 3) sc_oob.nd rfl (.inl rfl)) pgs_nil))) (fun _ _ _ _ _ => pts_nil) (fun _ _ _ _ _ => pe_op op_mulA (pv 2) (pe_op op_fdivA (pv 1) (pv 3)))) (pa_cons (pv 1) pa_nil))))))), ?_⟩
    refine ⟨_, rfl, p, rfl, ⟨_, r1⟩, for_list (K := K) (a := p) (xs := rs.map V.ref) (fun i σ H1 => H1 = H ∧ ∃ (c : Int) (y2 y3 : Option V), σ = [some (.ref p), some (.int c), y2, y3] ∧ 0 < c ∧ c ∣ D ∧ ∀ x ∈ xs.take i, x.2 ∣ c) ?_ ?_ ?_ ?_⟩
    · exact ⟨rfl, 1, _, _, rfl, by decide, Int.one_dvd D, fun x hx => by simp at hx⟩
    · rintro i σ H1 _ ⟨rfl, _⟩
      exact r1
    · rintro i y σ H1 hi ⟨rfl, c, y2, y3, rfl, c0, cD, hc⟩
      have hi2 : i < xs.length := by
        have := (List.getElem?_eq_some_iff.mp hi).1
        rw [List.length_map, hl] at this
        exact this
      have hg : xs[i]? = some xs[i] := List.getElem?_eq_getElem hi2
      obtain ⟨r, er, hr2⟩ := r2.get hg
      have ey : y = .ref r := by
        rw [List.getElem?_map, er] at hi
        exact (Option.some.inj hi).symm
      subst ey
      obtain ⟨b0, bD, _⟩ := O.ok xs[i] (List.getElem_mem hi2)
      have sc : Sm d c := dvd_small cD O.pos O.sm
      have sb : Sm d xs[i].2 := dvd_small bD O.pos O.sm
      have hg0 : 0 < Int.gcd c xs[i].2 := Nat.gcd_pos_of_pos_right _ (by omega)
      have hgs : Sm d ((Int.gcd c xs[i].2 : Nat) : Int) := by
        unfold Sm at *
        rw [Int.natAbs_natCast]
        exact Nat.lt_of_le_of_lt (Nat.gcd_le_right _ (by omega)) sb
      have d0 : 0 < d := by
        rcases Nat.eq_zero_or_pos d with z | z
        · rw [z] at sc
          unfold Sm at sc
          omega
        · exact z
      have hq1 : Sm d (c.fdiv ((Int.gcd c xs[i].2 : Nat) : Int)) := Nat.lt_of_le_of_lt (fdiv_le (by omega) (Int.gcd_dvd_left ..)) sc
      obtain ⟨k0, k1, k2, k3⟩ := lcm_ok c0 b0 cD bD
      refine ⟨r, _, rfl, hr2, rfl, _, _, rfl, _, _, rfl, rfl, ?_⟩
      refine ⟨_, rfl, _, rfl, _, rfl, c, xs[i].2, rfl, ?_⟩
      refine ⟨c, _, rfl, rfl, ⟨by omega, Nat.lt_of_lt_of_le (hgs.log d0) (by omega)⟩, _, rfl, _, _, rfl, rfl, hq1.cmul sb d0 d0 (by omega), rfl, _, _, _, rfl, k0, k1, fun x hx => ?_⟩
      rw [List.take_add_one, hg] at hx
      rcases List.mem_append.mp hx with z | z
      · exact Int.dvd_trans (hc x z) k2
      · rw [List.mem_singleton.mp z]
        exact k3
    · rintro σ H1 ⟨rfl, c, y2, y3, rfl, c0, cD, hc⟩
      rw [List.length_map, hl, List.take_length] at hc
      have sc : Sm d c := dvd_small cD O.pos O.sm
      have d0 : 0 < d := by
        rcases Nat.eq_zero_or_pos d with z | z
        · rw [z] at sc
          unfold Sm at sc
          omega
        · exact z
      refine ⟨_, rfl, p, rfl, ⟨_, r1⟩, fun R nR => ?_⟩
      have e1 := same_new (o := HO.lst []) nR
      refine lc_list (K := K) (a := p) (xs := rs.map V.ref) (fun i H2 => Same H1 H2 ∧ H2 R = some (.lst ((topsOn c (xs.take i)).map V.int))) ?_ ?_ ?_ ?_
      · exact ⟨e1, upd_same⟩
      · rintro i H2 _ ⟨s2, _⟩
        exact s2.seq r1
      · rintro i y H2 hi ⟨s2, hR⟩
        have hi2 : i < xs.length := by
          have := (List.getElem?_eq_some_iff.mp hi).1
          rw [List.length_map, hl] at this
          exact this
        have hg : xs[i]? = some xs[i] := List.getElem?_eq_getElem hi2
        obtain ⟨r, er, hr2⟩ := r2.get hg
        have ey : y = .ref r := by
          rw [List.getElem?_map, er] at hi
          exact (Option.some.inj hi).symm
        subst ey
        obtain ⟨b0, bD, sn⟩ := O.ok xs[i] (List.getElem_mem hi2)
        have sb : Sm d xs[i].2 := dvd_small bD O.pos O.sm
        have hdv := hc xs[i] (List.getElem_mem hi2)
        have ef : c.fdiv xs[i].2 = c / xs[i].2 := Int.fdiv_eq_ediv_of_nonneg _ (by omega)
        have sq : Sm d (c.fdiv xs[i].2) := Nat.lt_of_le_of_lt (fdiv_le b0 hdv) sc
        refine ⟨r, _, rfl, hr2.tk (Tk.same s2), rfl, _, _, rfl, _, _, rfl, rfl, rfl, tYes_go ?_⟩
        refine iteT ?_
        refine ⟨_, rfl, _, rfl, _, rfl, c, xs[i].2, rfl, rfl, ⟨by omega, Nat.lt_of_lt_of_le (sb.log d0) (by omega)⟩, _, _, rfl, rfl, (sn.mono (show n ≤ n + 1 by omega)).cmul sq (by omega) d0 (by omega), _, hR, ?_, ?_, ?_⟩
        · rw [List.length_map]
          unfold topsOn
          rw [List.length_map, List.length_take]
          have := O.len
          exact small1000 (by omega)
        · intro b o hb
          rw [upd_ne (ne_of_none hb nR)]
          exact s2 _ _ hb
        · rw [upd_same, List.take_add_one, hg]
          unfold topsOn
          rw [List.map_append, List.map_append, ef]
          rfl
      · rintro H2 ⟨s2, hR⟩
        rw [List.length_map, hl, List.take_length] at hR
        refine ⟨_, rfl, by show 2 ≤ sizeLine; decide, fun z nz => ?_⟩
        have e2 := same_new (o := HO.tup [.ref R, .int c]) nz
        exact q z R c _ (s2.trans e2) upd_same (e2 _ _ hR) c0 cD hc
def spAdded (K : PySem.W.Frag) : Sp := fun vs H Q _ => ∃ (p : Addr) (xs : List RT) (n d : Nat) (D : Int), vs = [.ref p] ∧ LstAt K H p xs ∧ Over1 n d D xs ∧ n ≤ 4000 ∧ d ≤ 4000 ∧
  ∀ z x H', Same H H' → RAt K H' z x → Red x → qv x = (xs.map qv).sum → x.2 ∣ D → Sm (n + d + 11) x.1 → Q (.ref z) H'
theorem ok_added {f fO fR : Addr} {fd fdO fdR : FuncData} (F : Fun K "added" "added" s_added f fd) (FO : Fun K "on_one_bottom" "on_one_bottom" s_oob fO fdO) (bO : Binds K fdO ["told"] []) (gO : mg "on_one_bottom" = some (.ref fO)) (GO : FnOk P w K mg base CX0 2 fO fdO ["told"] (spOob K))
    (FR : Fun K "ratio" "ratio" s_ratio fR fdR) (bR : Binds K fdR ["top", "bottom"] []) (gR : mg "ratio" = some (.ref fR)) (GR : FnOk P w K mg base CX0 2 fR fdR ["top", "bottom"] spRat0) (ms : mg "sum" = none) : FnOk P w K mg base CX0 3 f fd ["told"] (spAdded K) := by
  refine F.ok sc_added (fun vs H Q E h => ?_) (fun cdv A outer s H vs Q E hr h => ?_)
  · obtain ⟨_, _, _, _, _, rfl, _⟩ := h
    rfl
  · obtain ⟨p, xs, n, d, D, rfl, hlst, O, hn, hd, q⟩ := h
    refine ⟨_, (pss_cons (ps_asg (pe_call GO hr (by rfl) gO FO.kp bO .nil pass0 (pa_cons (pv 0) pa_nil)) (pg_tup rfl (pgs_cons (pg_name (i := 1) sc_added.nd rfl (.inl rfl)) (pgs_cons (pg_name (i := 2) sc_added.nd rfl (.inl rfl)) pgs_nil)))) (pss_one (ps_ret (pe_call GR hr (by rfl) gR FR.kp bR .nil pass0 (pa_cons (pe_callB (cr_sum rfl) (by rfl) ms (by decide +kernel) (pa_cons (pv 1) pa_nil)) (pa_cons (pv 2) pa_nil)))))), ?_⟩
    refine ⟨_, rfl, p, xs, n, d, D, rfl, hlst, O, hn, hd, fun z zl c H1 s1 hz hzl c0 cD hc => ?_⟩
    refine ⟨z, _, rfl, SqT.of hz, rfl, _, _, rfl, _, _, rfl, rfl, ?_⟩
    have sc : Sm d c := dvd_small cD O.pos O.sm
    refine ⟨_, rfl, zl, _, rfl, SqL.of hzl, _, rfl, _, c, rfl, sc.mono (show d ≤ 8000 by omega), Int.ne_of_gt c0, fun y ny => ?_⟩
    have e := same_new (o := HO.tup [.int (ratT (topsOn c xs).sum c), .int (ratB (topsOn c xs).sum c)]) ny
    have red : Red (low2 (topsOn c xs).sum c) := low2_red (Int.ne_of_gt c0)
    have val : qv (low2 (topsOn c xs).sum c) = (((topsOn c xs).sum : Int) : Rat) / (c : Rat) := qv_low2 c0
    obtain ⟨y1, y2⟩ := red_small red c0 val
    refine q y (low2 (topsOn c xs).sum c) _ (s1.trans e) (SqT.of upd_same) red (val.trans (tops_sum c0 fun x hx => ⟨(O.ok x hx).1, hc x hx⟩)) (Int.dvd_trans y1 cD) ?_
    have t := tops_sm (n := n) c0 O.pos cD O.sm (xs := xs) fun x hx => ⟨(O.ok x hx).1, (O.ok x hx).2.2⟩
    have hlen := O.len
    unfold Sm
    have t2 : xs.length * 2 ^ (n + d) ≤ 1000 * 2 ^ (n + d) := Nat.mul_le_mul_right _ hlen
    have t3 : 2 ^ (n + d + 11) = 2048 * 2 ^ (n + d) := by rw [Nat.pow_add, Nat.mul_comm]
    have t4 : 0 < 2 ^ (n + d) := Nat.pow_pos (by decide)
    omega
end

end Fp

set_option Elab.async false
set_option linter.all false
set_option maxRecDepth 100000
set_option maxHeartbeats 4000000
set_option exponentiation.threshold 10000
namespace Fp
open PySem PySem.Spec PyProof.Rows L2
/-! ### the program's own: what lasts behind the row's end, the short life -/
abbrev s_behind : Stmt := topS 17
theorem sc_behind : FnScope ["life", "row", "step"] ["life"] (defScope s_behind) := ⟨rfl, rfl, rfl, by decide +kernel, rfl, by decide +kernel, by decide +kernel⟩
structure ConstN (K : PySem.W.Frag) (mg : Str → Option Value) (aN : Addr) : Prop where
  gN : mg "NOUGHT" = some (.ref aN)
  tN : ∀ H : Hp, RAt K H aN (0, 1)
structure Consts (K : PySem.W.Frag) (mg : Str → Option Value) (aN aO : Addr) : Prop where
  gN : mg "NOUGHT" = some (.ref aN)
  gO : mg "ONE" = some (.ref aO)
  tN : ∀ H, RAt K H aN (0, 1)
  tO : ∀ H, RAt K H aO (1, 1)
theorem Consts.n {K : PySem.W.Frag} {mg : Str → Option Value} {aN aO : Addr} (C : Consts K mg aN aO) : ConstN K mg aN := ⟨C.gN, C.tN⟩
def rM (x y : RT) : RT := low2 (x.1 * y.2 - y.1 * x.2) (x.2 * y.2)
def rO (x y : RT) : RT := low2 (x.1 * y.2) (x.2 * y.1)
/-- a step: from nought on, below one -/
def StepOk (n : Nat) (s : RT) : Prop := SmR n s ∧ 0 ≤ s.1 ∧ s.1 < s.2
theorem gap_pos {s : RT} (h : Red s) (h1 : s.1 < s.2) : 0 < (rM (1, 1) s).1 := by
  have hb : (0 : Int) < 1 * s.2 := by have := h.1; omega
  have e := low2_cross (t := 1 * s.2 - s.1 * 1) hb
  have hp := ratB_pos (t := 1 * s.2 - s.1 * 1) hb
  show 0 < (low2 (1 * s.2 - s.1 * 1) (1 * s.2)).1
  have hp2 : 0 < (low2 (1 * s.2 - s.1 * 1) (1 * s.2)).2 := hp
  generalize (low2 (1 * s.2 - s.1 * 1) (1 * s.2)).1 = x at *
  generalize (low2 (1 * s.2 - s.1 * 1) (1 * s.2)).2 = y at *
  rcases (by omega : 0 < x ∨ x ≤ 0) with z | z
  · exact z
  · have a1 : 0 < (1 * s.2 - s.1 * 1) * y := Int.mul_pos (by omega) hp2
    have a2 : x * (1 * s.2) ≤ 0 := Int.mul_nonpos_of_nonpos_of_nonneg z (Int.le_of_lt hb)
    omega
def behindR (row : List RT) (step : RT) : RT := match row.getLast? with
  | none => (0, 1)
  | some l => rO (rT l step) (rM (1, 1) step)
theorem behindR_snoc (ys : List RT) (y step : RT) : behindR (ys ++ [y]) step = rO (rT y step) (rM (1, 1) step) := by
  have e : (ys ++ [y]).getLast? = some y := by simp
  unfold behindR
  rw [e]
/-! data of a row -/
def rowD (xs : List RT) : List PyData := xs.map fun x => .tuple [.int x.1, .int x.2]
theorem RsAt.dp {K : PySem.W.Frag} {H : Hp} : ∀ {ps : List Addr} {xs : List RT}, RsAt K H ps xs → DpAll K H (ps.map V.ref) (rowD xs)
  | _, _, .nil => .nil
  | _, _, .cons h r => .cons h.dp r.dp
theorem RowAt.dp {K : PySem.W.Frag} {H : Hp} {p : Addr} {xs : List RT} (h : RowAt K H p xs) : Dp K H (.ref p) (.tuple (rowD xs)) := by
  obtain ⟨rs, h1, h2⟩ := h
  exact .tup h1 h2.dp
theorem rowD_lay : ∀ xs : List RT, PyData.canLayAll0 (rowD xs) = true
  | [] => rfl
  | x :: r => by
    show (PyData.canLay0 (.tuple [.int x.1, .int x.2]) && PyData.canLayAll0 (rowD r)) = true
    rw [rowD_lay r]
    rfl
theorem rowD_depth : ∀ xs : List RT, PyData.depthAll (rowD xs) ≤ 1
  | [] => by decide
  | x :: r => by
    show max (PyData.depth (.tuple [.int x.1, .int x.2])) (PyData.depthAll (rowD r)) ≤ 1
    have := rowD_depth r
    have e : PyData.depth (.tuple [.int x.1, .int x.2]) = 1 := rfl
    omega
theorem rowD_shaped (xs : List RT) : SeqAt.shaped (.tuple (rowD xs)) = true := by
  unfold SeqAt.shaped
  have h1 : PyData.canLay0 (.tuple (rowD xs)) = true := rowD_lay xs
  have h2 : (PyData.tuple (rowD xs)).depth ≤ 64 := by
    show PyData.depthAll (rowD xs) + 1 ≤ 64
    have := rowD_depth xs
    omega
  rw [h1, decide_eq_true h2]
  rfl
theorem rowD_nil (xs : List RT) : PyData.eqv (.tuple (rowD xs)) (.tuple []) = xs.isEmpty := by
  cases xs with
  | nil => rfl
  | cons x r => rfl
section
variable {P : Program} {w : World} {K : PySem.W.Frag} {mg : Str → Option Value} {base : Heap} {aN aO : Addr}
def spBehind (K : PySem.W.Frag) : Sp := fun vs H Q _ => ∃ (p : Addr) (row : List RT) (step : RT), vs = [.ref p] ∧ LifeAt K H p row step ∧ (∀ x ∈ row, SmR 1900 x) ∧ StepOk 300 step ∧
  ∀ z H', Same H H' → RAt K H' z (behindR row step) → Q (.ref z) H'
theorem ok_behind {f fO fT fM : Addr} {fd fdO fdT fdM : FuncData} (F : Fun K "behind_row" "behind_row" s_behind f fd) (C : Consts K mg aN aO)
    (FO : Fun K "over" "over" s_over fO fdO) (bO : Binds K fdO ["one", "other"] []) (gO : mg "over" = some (.ref fO)) (GO : FnOk P w K mg base CX0 3 fO fdO ["one", "other"] (spOver0 K))
    (FT : Fun K "times" "times" s_times fT fdT) (bT : Binds K fdT ["one", "other"] []) (gT : mg "times" = some (.ref fT)) (GT : FnOk P w K mg base CX0 3 fT fdT ["one", "other"] (spTwo K (fun a b c d => a * c)))
    (FM : Fun K "minus" "minus" s_minus fM fdM) (bM : Binds K fdM ["one", "other"] []) (gM : mg "minus" = some (.ref fM)) (GM : FnOk P w K mg base CX0 3 fM fdM ["one", "other"] (spTwo K (fun a b c d => a * d - c * b))) :
    FnOk P w K mg base CX0 4 f fd ["life"] (spBehind K) := by
  refine F.ok sc_behind (fun vs H Q E h => ?_) (fun cdv A outer s H vs Q E hr h => ?_)
  · obtain ⟨_, _, _, rfl, _⟩ := h
    rfl
  · obtain ⟨p, row, step, rfl, ⟨pr, ps, l1, l2, l3⟩, hsm, hst, q⟩ := h
    refine ⟨_, (pss_cons (ps_asg (pv 0) (pg_tup rfl (pgs_cons (pg_name (i := 1) sc_behind.nd rfl (.inl rfl)) (pgs_cons (pg_name (i := 2) sc_behind.nd rfl (.inl rfl)) pgs_nil)))) (pss_cons (ps_if (pt_cmpR (op_eqD hr.units) (pv 1) (pe_tup pa_nil) (nomark _)) (pss_one (ps_ret (pe_glob (v := .ref aN) rfl C.gN rfl))) pss_nil) (pss_one (ps_ret (pe_call GO hr (by rfl) gO FO.kp bO .nil pass0 (pa_cons (pe_call GT hr (by rfl) gT FT.kp bT .nil pass0 (pa_cons (pe_ix ix_tup (pv 1) (pe_un un_neg pe_int) (fun _ _ => rfl)) (pa_cons (pv 2) pa_nil))) (pa_cons (pe_call GM hr (by rfl) gM FM.kp bM .nil pass0 (pa_cons (pe_glob (v := .ref aO) rfl C.gO rfl) (pa_cons (pv 2) pa_nil))) pa_nil))))))), ?_⟩
    refine ⟨_, rfl, p, _, rfl, l1, rfl, _, _, rfl, _, _, rfl, rfl, ?_⟩
    refine ⟨_, rfl, by show 0 ≤ sizeLine; decide, fun a na => ?_⟩
    have e1 := same_new (o := HO.tup []) na
    refine ⟨_, _, (l2.tk (Tk.same e1)).dp, .tup (SqT.of upd_same) .nil, rowD_shaped row, rfl, _, rfl, ?_⟩
    rw [rowD_nil]
    rcases snoc_cases row with rfl | ⟨ys, y, rfl⟩
    · exact iteT (q aN _ e1 (C.tN _))
    · have ne : (ys ++ [y]).isEmpty = false := by simp
      rw [ne]
      refine iteF ?_
      obtain ⟨hs1, hs2, hs3⟩ := hst
      have hy := hsm y (by simp)
      refine ⟨_, rfl, 1, rfl, ?_⟩
      refine ix_back (k := 1) (j := ys.length) (x := y) (l2.tk (Tk.same e1)) (by decide) (by simp) (by simp) fun r hr3 => ?_
      refine ⟨_, rfl, r, ps, _, _, _, _, rfl, ⟨hr3, l3.tk (Tk.same e1), hy.2.1.mono (by decide), hy.2.2.mono (by decide), hs1.2.1.mono (by decide), hs1.2.2.mono (by decide), hy.1.1, hs1.1.1⟩, fun b nb => ?_⟩
      have e2 := same_new (o := HO.tup [.int (rT y step).1, .int (rT y step).2]) nb
      refine ⟨_, rfl, aO, ps, _, _, _, _, rfl, ⟨C.tO _, l3.tk (Tk.same (e1.trans e2)), by unfold Sm; decide, by unfold Sm; decide, hs1.2.1.mono (by decide), hs1.2.2.mono (by decide), by decide, hs1.1.1⟩, fun b2 nb2 => ?_⟩
      have e3 := same_new (o := HO.tup [.int (rM (1, 1) step).1, .int (rM (1, 1) step).2]) nb2
      have sT := rT_sm hy hs1
      have hden : (0 : Int) < 1 * step.2 := by have := hs1.1.1; omega
      have a1 : Sm 301 (1 * step.2 - step.1 * 1) := by
        rw [Int.one_mul, Int.mul_one]
        exact hs1.2.2.sub hs1.2.1
      have a2 : Sm 301 (1 * step.2) := by
        rw [Int.one_mul]
        exact hs1.2.2.mono (by decide)
      have sM : SmR 301 (rM (1, 1) step) := low2_sm hden a1 a2
      refine ⟨b, b2, _, _, _, _, rfl, ⟨SqT.of (e3 _ _ upd_same), SqT.of upd_same, sT.2.1.mono (by decide), sT.2.2.mono (by decide), sM.2.1.mono (by decide), sM.2.2.mono (by decide), sT.1.1, sM.1.1⟩, Int.ne_of_gt (Int.mul_pos sT.1.1 (gap_pos hs1.1 hs3)), fun b3 nb3 => ?_⟩
      refine q b3 _ (e1.trans (e2.trans (e3.trans (same_new nb3)))) ?_
      rw [behindR_snoc]
      exact SqT.of upd_same
end

end Fp

set_option Elab.async false
set_option linter.all false
set_option maxRecDepth 100000
set_option maxHeartbeats 4000000
set_option exponentiation.threshold 10000
namespace Fp
open PySem PySem.Spec PyProof.Rows L2
/-! ### chances, one behind the other -/

def chR (row : List RT) (step : RT) (i : Nat) : Rat := match row[i]? with
  | some x => qv x
  | none => match row.getLast? with
    | none => 0
    | some l => qv l * qv step ^ (i + 1 - row.length)
theorem chR_in {row : List RT} {step : RT} {i : Nat} {x : RT} (h : row[i]? = some x) : chR row step i = qv x := by
  unfold chR
  rw [h]
theorem chR_out {row : List RT} {step l : RT} {i : Nat} (h : row.length ≤ i) (hl : row.getLast? = some l) : chR row step i = qv l * qv step ^ (i + 1 - row.length) := by
  unfold chR
  rw [List.getElem?_eq_none h, hl]
theorem chR_nil {step : RT} {i : Nat} : chR [] step i = 0 := rfl
theorem last_is {row : List RT} (h : row ≠ []) : ∃ l, row.getLast? = some l ∧ row[row.length - 1]? = some l ∧ l ∈ row := by
  refine ⟨row.getLast h, List.getLast?_eq_some_getLast h, ?_, List.getLast_mem h⟩
  rw [List.getLast_eq_getElem]
  exact List.getElem?_eq_getElem _
theorem chR_next {row : List RT} {step : RT} {k : Nat} (h : row.length ≤ k + 1) (hne : row ≠ []) : chR row step (k + 1) = chR row step k * qv step := by
  obtain ⟨l, h1, h2, _⟩ := last_is hne
  have hp := List.length_pos_iff.mpr hne
  rw [chR_out h h1]
  rcases (by omega : row.length = k + 1 ∨ row.length ≤ k) with z | z
  · have e : row[k]? = some l := by
      rw [← h2]
      congr 1
      omega
    rw [chR_in e, show k + 1 + 1 - row.length = 0 + 1 by omega, Rat.pow_succ, Rat.pow_zero]
    grind
  · rw [chR_out z h1, show k + 1 + 1 - row.length = (k + 1 - row.length) + 1 by omega, Rat.pow_succ]
    grind
/-- the chances 1 to as many as there are -/
structure IsCh (row : List RT) (step : RT) (n most : Nat) (chs : List RT) : Prop where
  len : chs.length = most
  ok : ∀ i x, chs[i]? = some x → SmR (n + 5 * i) x ∧ qv x = chR row step i
/-- what one number stands under all of them -/
theorem ch_dvd {row : List RT} {step x : RT} {n i most : Nat} (hr : ∀ y ∈ row, SmR n y) (hs : Red step) (hx : Red x) (h : qv x = chR row step i) (hi : i < most) : x.2 ∣ prodB row * step.2 ^ most := by
  match e : row[i]? with
  | some y =>
    have hy := List.mem_of_getElem? e
    have ex : x = y := qv_inj hx (hr y hy).1 (h.trans (chR_in e))
    rw [ex]
    exact Int.dvd_trans (prodB_dvd hy) (Int.dvd_mul_right ..)
  | none =>
    have hle : row.length ≤ i := List.getElem?_eq_none_iff.mp e
    match el : row.getLast? with
    | none =>
      have er : row = [] := List.getLast?_eq_none_iff.mp el
      rw [er, chR_nil] at h
      have ex : x = (0, 1) := qv_inj hx ⟨by decide, by decide⟩ (by
        rw [h]
        unfold qv
        show (0 : Rat) = ((0 : Int) : Rat) / ((1 : Int) : Rat)
        grind)
      rw [ex]
      exact Int.one_dvd _
    | some l =>
      have hl : l ∈ row := List.mem_of_getLast? el
      have hl0 := (hr l hl).1
      rw [chR_out hle el] at h
      obtain ⟨j, ej, hj⟩ : ∃ j, i + 1 - row.length = j ∧ j ≤ most := ⟨_, rfl, by omega⟩
      rw [ej] at h
      have key : ∀ j : Nat, qv l * qv step ^ j = ((l.1 * step.1 ^ j : Int) : Rat) / ((l.2 * step.2 ^ j : Int) : Rat) := by
        intro j
        induction j with
        | zero =>
          rw [Rat.pow_zero, Int.pow_zero, Int.pow_zero, Int.mul_one, Int.mul_one]
          unfold qv
          grind
        | succ j ih =>
          have h1 := cast_ne (Int.ne_of_gt hs.1)
          have h2 := cast_ne (Int.ne_of_gt (Int.mul_pos hl0.1 (show (0 : Int) < step.2 ^ j from Int.pow_pos hs.1)))
          rw [Rat.pow_succ, ← Rat.mul_assoc, ih, Int.pow_succ, Int.pow_succ, ← Int.mul_assoc, ← Int.mul_assoc, Rat.intCast_mul (l.1 * step.1 ^ j), Rat.intCast_mul (l.2 * step.2 ^ j)]
          unfold qv
          grind
      rw [key j] at h
      obtain ⟨d1, _⟩ := red_small hx (Int.mul_pos hl0.1 (Int.pow_pos hs.1)) h
      refine Int.dvd_trans d1 ?_
      obtain ⟨u, hu⟩ := prodB_dvd hl
      refine ⟨u * step.2 ^ (most - j), ?_⟩
      rw [hu, show most = j + (most - j) by omega, Int.pow_add, Nat.add_sub_cancel_left]
      rw [Int.mul_assoc l.2 u, ← Int.mul_assoc u, Int.mul_comm u (step.2 ^ j), Int.mul_assoc (step.2 ^ j), ← Int.mul_assoc l.2]
theorem sm_pow {n : Nat} {a : Int} (h : Sm n a) (hn : 0 < n) : ∀ k : Nat, Sm (n * k + 1) (a ^ k)
  | 0 => by
    unfold Sm
    rw [Int.pow_zero]
    simp
  | k + 1 => by
    rw [Int.pow_succ]
    have := (sm_pow h hn k).mul h
    refine this.mono ?_
    rw [Nat.mul_add]
    omega
theorem over_ch {row : List RT} {step : RT} {n most : Nat} {chs : List RT} (hr : ∀ y ∈ row, SmR n y) (hs : SmR 5 step) (hl : row.length ≤ 14) (hn : n ≤ 64) (hm : most ≤ 70) (h : IsCh row step n most chs) : Over1 (n + 350) 1300 (prodB row * step.2 ^ most) chs := by
  refine ⟨Int.mul_pos (prodB_pos fun x hx => (hr x hx).1.1) (Int.pow_pos hs.1.1), ?_, fun x hx => ?_, by rw [h.len]; omega⟩
  · have h1 := prodB_sm fun x hx => (hr x hx).2.2
    have h2 := sm_pow hs.2.2 (by decide) most
    refine (h1.mul h2).mono ?_
    have : n * row.length ≤ 64 * 14 := Nat.mul_le_mul hn hl
    omega
  · obtain ⟨i, hi⟩ := List.mem_iff_getElem?.mp hx
    have hi2 := (List.getElem?_eq_some_iff.mp hi).1
    rw [h.len] at hi2
    obtain ⟨s1, s2⟩ := h.ok i x hi
    exact ⟨s1.1.1, ch_dvd hr hs.1 s1.1 s2 hi2, s1.2.1.mono (by omega)⟩
def sumCh (row : List RT) (step : RT) : Nat → Rat
  | 0 => 0
  | k + 1 => sumCh row step k + chR row step k
theorem sum_snoc (xs : List Rat) (x : Rat) : (xs ++ [x]).sum = xs.sum + x := by
  induction xs with
  | nil =>
    show x + 0 = 0 + x
    grind
  | cons y r ih =>
    show y + (r ++ [x]).sum = y + r.sum + x
    rw [ih]
    grind
theorem IsCh.sum {row : List RT} {step : RT} {n most : Nat} {chs : List RT} (h : IsCh row step n most chs) : (chs.map qv).sum = sumCh row step most := by
  have key : ∀ k, k ≤ most → ((chs.take k).map qv).sum = sumCh row step k := by
    intro k
    induction k with
    | zero =>
      intro _
      rfl
    | succ k ih =>
      intro hk
      have hk2 : k < chs.length := by rw [h.len]; omega
      have hg : chs[k]? = some chs[k] := List.getElem?_eq_getElem hk2
      rw [List.take_add_one, hg]
      show ((chs.take k ++ [chs[k]]).map qv).sum = sumCh row step k + chR row step k
      rw [List.map_append, List.map_singleton, sum_snoc, ih (by omega), (h.ok k _ hg).2]
  have := key most (Nat.le_refl _)
  rw [← h.len, List.take_length] at this
  rw [h.len] at this
  exact this
abbrev s_chto : Stmt := topS 18
theorem sc_chto : FnScope ["life", "most", "row", "step", "chances"] ["life", "most"] (defScope s_chto) := ⟨rfl, rfl, rfl, by decide +kernel, rfl, by decide +kernel, by decide +kernel⟩
/-- a life as the program is asked of it -/
structure LifeOk (n : Nat) (row : List RT) (step : RT) : Prop where
  sm : ∀ y ∈ row, SmR n y
  st : StepOk 5 step
  len : row.length ≤ 14
  n64 : n ≤ 64
  n1 : 1 ≤ n
section
variable {P : Program} {w : World} {K : PySem.W.Frag} {mg : Str → Option Value} {base : Heap} {aN aO : Addr}
def spChto (K : PySem.W.Frag) : Sp := fun vs H Q _ => ∃ (p : Addr) (row : List RT) (step : RT) (n most : Nat), vs = [.ref p, .int (most : Int)] ∧ LifeAt K H p row step ∧ LifeOk n row step ∧ most ≤ 70 ∧
  ∀ z rs chs H', Same H H' → H' z = some (.lst (rs.map V.ref)) → RsAt K H' rs chs → IsCh row step n most chs → Q (.ref z) H'
theorem ok_chto {f fT : Addr} {fd fdT : FuncData} (F : Fun K "chances_to" "chances_to" s_chto f fd) (C : ConstN K mg aN)
    (FT : Fun K "times" "times" s_times fT fdT) (bT : Binds K fdT ["one", "other"] []) (gT : mg "times" = some (.ref fT)) (GT : FnOk P w K mg base CX0 3 fT fdT ["one", "other"] (spTwo K (fun a b c d => a * c)))
    (ml : mg "len" = none) (mL : mg "list" = none) : FnOk P w K mg base CX0 4 f fd ["life", "most"] (spChto K) := by
  refine F.ok sc_chto (fun vs H Q E h => ?_) (fun cdv A outer s H vs Q E hr h => ?_)
  · obtain ⟨_, _, _, _, _, rfl, _⟩ := h
    rfl
  · obtain ⟨p, row, step, n, most, rfl, ⟨pr, ps, l1, l2, l3⟩, L, hm, q⟩ := h
    refine ⟨_, (pss_cons (ps_asg (pv 0) (pg_tup rfl (pgs_cons (pg_name (i := 2) sc_chto.nd rfl (.inl rfl)) (pgs_cons (pg_name (i := 3) sc_chto.nd rfl (.inl rfl)) pgs_nil)))) (pss_cons (ps_set (i := 4) sc_chto.nd rfl (.inl rfl) (pe_callTy call_list_of (by rfl) mL (by decide +kernel) (pa_cons (pe_slice sl_tupA (pv 2) po_none (po_some (pv 1))) pa_nil))) (pss_cons (ps_while PassesOwn.never (pt_cmpR op_lt (pe_callB call_len_seq (by rfl) ml PySem.boot_len (pa_cons (pv 4) pa_nil)) (pv 1) (nomark _))
          (pss_one (ps_expr (pe_bm PySem.F.plainAttrs_list PySem.F.slot_list_append PySem.F.type_list_append mt_append (pv 4) (pa_cons (pe_ifExp (pt_truth (pv 4) (by intro _; rfl)) (pe_call GT hr (by rfl) gT FT.kp bT .nil pass0 (pa_cons (pe_ix ix_list (pv 4) (pe_un un_neg pe_int) (fun _ _ => rfl)) (pa_cons (pv 3) pa_nil))) (pe_glob (v := .ref aN) rfl C.gN rfl)) pa_nil))))) (pss_one (ps_ret (pv 4)))))), ?_⟩
    refine ⟨_, rfl, p, _, rfl, l1, rfl, _, _, rfl, _, _, rfl, rfl, ?_⟩
    refine ⟨_, rfl, _, rfl, most, rfl, ?_⟩
    refine take_row l2 fun a H1 s1 ha => ?_
    obtain ⟨rs0, a1, a2⟩ := id ha
    refine ⟨a, _, rfl, .inr a1, fun c nc => ?_⟩
    have e1 := same_new (o := HO.lst (rs0.map V.ref)) nc
    have nc0 : H c = none := s1.free nc
    have hlen0 := a2.length
    rw [List.length_take] at hlen0
    refine ⟨fun m σ H2 => ∃ (rs : List Addr) (chs : List RT), σ = [some (.ref p), some (.int (most : Int)), some (.ref pr), some (.ref ps), some (.ref c)] ∧ Same H H2 ∧ H2 c = some (.lst (rs.map V.ref)) ∧ RsAt K H2 rs chs ∧ m + chs.length = most ∧ (row.length ≤ chs.length ∨ m = 0) ∧ (∀ i x, chs[i]? = some x → SmR (n + 5 * i) x ∧ qv x = chR row step i), ⟨most - (row.take most).length, rs0, row.take most, rfl, s1.trans e1, upd_same, a2.tk (Tk.same e1), ?_, ?_, ?_⟩, ?_⟩
    · rw [List.length_take]
      omega
    · rw [List.length_take]
      omega
    · intro i x hx
      rw [List.getElem?_take] at hx
      split at hx
      · exact ⟨(L.sm x (List.mem_of_getElem? hx)).mono (by omega), (chR_in hx).symm⟩
      · cases hx
    · rintro m σ H2 ⟨rs, chs, rfl, s2, hc, hrs, em, hlr, hok⟩
      have hl := hrs.length
      refine ⟨_, rfl, c, _, rfl, .inl (SqL.of hc), _, rfl, _, _, rfl, rfl, _, rfl, ite2 (fun c2 => ?_) (fun c2 => ?_)⟩
      · have hlt : chs.length < most := by
          have : (((rs.map V.ref).length : Nat) : Int) < (most : Int) := of_decide_eq_true c2
          rw [List.length_map] at this
          omega
        have hrl : row.length ≤ chs.length := by
          rcases hlr with z | z
          · exact z
          · omega
        refine ⟨fun σ' H' => ∃ (rs : List Addr) (chs' : List RT), σ' = [some (.ref p), some (.int (most : Int)), some (.ref pr), some (.ref ps), some (.ref c)] ∧ Same H H' ∧ H' c = some (.lst (rs.map V.ref)) ∧ RsAt K H' rs chs' ∧ chs'.length = chs.length + 1 ∧ (∀ i x, chs'[i]? = some x → SmR (n + 5 * i) x ∧ qv x = chR row step i), fun σ' H' z => ?_, ?_⟩
        · obtain ⟨rs', chs', z1, z2, z3, z4, z5, z6⟩ := z
          exact ⟨m - 1, by omega, rs', chs', z1, z2, z3, z4, by omega, .inl (by omega), z6⟩
        · have put : ∀ (r : Addr) (x : RT) (H3 : Hp), Same H2 H3 → RAt K H3 r x → SmR (n + 5 * chs.length) x → qv x = chR row step chs.length →
              ∃ (l : Addr) (xs : List V) (y : V), V.ref c = .ref l ∧ [V.ref r] = [y] ∧ H3 l = some (.lst xs) ∧ xs.length < sizeLine ∧ ∃ (rs : List Addr) (chs' : List RT), [some (V.ref p), some (.int (most : Int)), some (.ref pr), some (.ref ps), some (.ref c)] = [some (.ref p), some (.int (most : Int)), some (.ref pr), some (.ref ps), some (.ref c)] ∧ Same H (upd H3 l (.lst (xs ++ [y]))) ∧ upd H3 l (.lst (xs ++ [y])) c = some (.lst (rs.map V.ref)) ∧ RsAt K (upd H3 l (.lst (xs ++ [y]))) rs chs' ∧ chs'.length = chs.length + 1 ∧ (∀ i x, chs'[i]? = some x → SmR (n + 5 * i) x ∧ qv x = chR row step i) := by
            intro r x H3 s3 hx hsx hqx
            have hc3 := s3 _ _ hc
            refine ⟨c, _, _, rfl, rfl, hc3, ?_, rs ++ [r], chs ++ [x], rfl, ?_, ?_, ?_, by simp, ?_⟩
            · rw [List.length_map, hl]
              exact small1000 (by omega)
            · intro b o hb
              rw [upd_ne (ne_of_none hb nc0)]
              exact s3 _ _ (s2 _ _ hb)
            · rw [upd_same, List.map_append]
              rfl
            · exact ((hrs.tk (Tk.same s3)).append (.cons hx .nil)).tk (tk_lst hc3)
            · intro i y hy
              rcases (by omega : i < chs.length ∨ i = chs.length ∨ chs.length < i) with z | z | z
              · rw [List.getElem?_append_left z] at hy
                exact hok i y hy
              · subst z
                rw [List.getElem?_append_right (Nat.le_refl _), Nat.sub_self] at hy
                cases Option.some.inj hy
                exact ⟨hsx, hqx⟩
              · rw [List.getElem?_append_right (by omega), List.getElem?_eq_none (by simp; omega)] at hy
                cases hy
          refine ⟨_, rfl, .inl ⟨rfl, _, SqL.of hc⟩, ?_⟩
          refine ⟨_, rfl, _, .inl ⟨_, SqL.of hc, rfl⟩, ?_⟩
          rcases snoc_cases chs with e0 | ⟨ys, y, e0⟩
          · have er : rs = [] := by
              rw [e0] at hl
              exact List.length_eq_zero_iff.mp hl
            subst er
            have erow : row = [] := by
              rw [e0] at hrl
              exact List.length_eq_zero_iff.mp (by simpa using hrl)
            refine iteF ?_
            refine put aN (0, 1) H2 (Same.refl _) (C.tN _) (SmR.mono (n := 1) ⟨⟨by decide, by decide⟩, by unfold Sm; decide, by unfold Sm; decide⟩ (by have := L.n1; omega)) ?_
            · rw [erow, chR_nil]
              unfold qv
              show ((0 : Int) : Rat) / ((1 : Int) : Rat) = 0
              grind
          · have hne : (rs.map V.ref).isEmpty = false := by
              rw [e0] at hl
              cases rs with
              | nil => simp at hl
              | cons b t => rfl
            rw [hne]
            refine iteT ?_
            have hy : chs[ys.length]? = some y := by
              rw [e0]
              simp
            have hyl : chs.length = ys.length + 1 := by
              rw [e0]
              simp
            obtain ⟨r, er, hr2⟩ := hrs.get hy
            have eat : atI (rs.map V.ref) (-1) = some (.ref r) := by
              have e2 : ixN (rs.map V.ref).length (-1) = some ys.length := by
                unfold ixN
                rw [List.length_map, hl, hyl, if_neg (by omega), if_pos (by omega)]
                congr 1
                omega
              unfold atI
              rw [e2]
              show (rs.map V.ref)[ys.length]? = _
              rw [List.getElem?_map, er]
              rfl
            obtain ⟨sy, qy⟩ := hok _ _ hy
            refine ⟨_, rfl, 1, rfl, c, _, -1, _, rfl, rfl, SqL.of hc, eat, ?_⟩
            have hn64 := L.n64
            have hst := L.st.1
            refine ⟨_, rfl, r, ps, _, _, _, _, rfl, ⟨hr2, l3.tk (Tk.same s2), sy.2.1.mono (by omega), sy.2.2.mono (by omega), hst.2.1.mono (by decide), hst.2.2.mono (by decide), sy.1.1, hst.1.1⟩, fun b nb => ?_⟩
            have e3 := same_new (o := HO.tup [.int (rT y step).1, .int (rT y step).2]) nb
            obtain ⟨v1, v2⟩ := qv_rT sy.1 hst.1
            refine put b (rT y step) _ e3 (SqT.of upd_same) ((rT_sm sy hst).mono (by omega)) ?_
            rw [v2, qy, hyl]
            rcases Classical.em (row = []) with z | z
            · rw [z, chR_nil, chR_nil]
              grind
            · exact (chR_next (by omega) z).symm
      · have hge : m = 0 := by
          have : ¬ (((rs.map V.ref).length : Nat) : Int) < (most : Int) := fun z => c2 (decide_eq_true z)
          rw [List.length_map] at this
          omega
        exact ⟨_, rfl, q c rs chs H2 s2 hc hrs ⟨by omega, hok⟩⟩
end

end Fp

set_option Elab.async false
set_option linter.all false
set_option maxRecDepth 100000
set_option maxHeartbeats 4000000
set_option exponentiation.threshold 10000
namespace Fp
open PySem PySem.Spec PyProof.Rows L2
/-! ### a chance, lasting, the miss -/
abbrev s_chat : Stmt := topS 19
abbrev s_lasting : Stmt := topS 20
abbrev s_miss : Stmt := topS 22
theorem sc_chat : FnScope ["life", "k"] ["life", "k"] (defScope s_chat) := ⟨rfl, rfl, rfl, by decide +kernel, rfl, by decide +kernel, by decide +kernel⟩
theorem sc_lasting : FnScope ["life", "k"] ["life", "k"] (defScope s_lasting) := ⟨rfl, rfl, rfl, by decide +kernel, rfl, by decide +kernel, by decide +kernel⟩
theorem sc_miss : FnScope ["life"] ["life"] (defScope s_miss) := ⟨rfl, rfl, rfl, by decide +kernel, rfl, by decide +kernel, by decide +kernel⟩
theorem qv_rM {x y : RT} (hx : Red x) (hy : Red y) : Red (rM x y) ∧ qv (rM x y) = qv x - qv y := by
  have hb := Int.mul_pos hx.1 hy.1
  refine ⟨low2_red (Int.ne_of_gt hb), ?_⟩
  unfold rM
  rw [qv_low2 hb, Rat.intCast_sub, Rat.intCast_mul, Rat.intCast_mul, Rat.intCast_mul]
  have h1 := cast_ne (Int.ne_of_gt hx.1)
  have h2 := cast_ne (Int.ne_of_gt hy.1)
  unfold qv
  grind
theorem qv_rO {x y : RT} (hx : Red x) (hy : Red y) (h : 0 < y.1) : Red (rO x y) ∧ qv (rO x y) = qv x / qv y := by
  have hb := Int.mul_pos hx.1 h
  refine ⟨low2_red (Int.ne_of_gt hb), ?_⟩
  unfold rO
  rw [qv_low2 hb, Rat.intCast_mul, Rat.intCast_mul]
  have h1 := cast_ne (Int.ne_of_gt hx.1)
  have h2 := cast_ne (Int.ne_of_gt hy.1)
  have h3 := cast_ne (Int.ne_of_gt h)
  unfold qv
  grind
theorem qv_one : qv (1, 1) = 1 := by
  unfold qv
  show ((1 : Int) : Rat) / ((1 : Int) : Rat) = 1
  grind
theorem qv_nought : qv (0, 1) = 0 := by
  unfold qv
  show ((0 : Int) : Rat) / ((1 : Int) : Rat) = 0
  grind
theorem one_red : Red (1, 1) := ⟨by decide, by decide⟩
theorem gap_val {s : RT} (hs : Red s) (h : s.1 < s.2) : (1 : Rat) - qv s ≠ 0 := by
  obtain ⟨r, v⟩ := qv_rM one_red hs
  have hg := gap_pos hs h
  have e : qv (rM (1, 1) s) ≠ 0 := by
    have h1 := cast_ne (Int.ne_of_gt hg)
    have h2 := cast_ne (Int.ne_of_gt r.1)
    unfold qv
    grind
  rw [v, qv_one] at e
  exact e
/-- what lasts behind the row's end -/
def behQ (row : List RT) (step : RT) : Rat := match row.getLast? with
  | none => 0
  | some l => qv l * qv step / (1 - qv step)
theorem behind_val {row : List RT} {step : RT} {n : Nat} (hr : ∀ x ∈ row, SmR n x) (hs : StepOk 5 step) : SmR (n + 20) (behindR row step) ∧ qv (behindR row step) = behQ row step := by
  rcases snoc_cases row with rfl | ⟨ys, y, rfl⟩
  · exact ⟨SmR.mono (n := 1) (x := (0, 1)) ⟨⟨by decide, by decide⟩, by unfold Sm; decide, by unfold Sm; decide⟩ (by omega), qv_nought⟩
  · have hy := hr y (by simp)
    rw [behindR_snoc]
    have e : behQ (ys ++ [y]) step = qv y * qv step / (1 - qv step) := by
      have e : (ys ++ [y]).getLast? = some y := by simp
      unfold behQ
      rw [e]
    rw [e]
    obtain ⟨h1, h2, h3⟩ := hs
    obtain ⟨a1, a2⟩ := qv_rT hy.1 h1.1
    obtain ⟨b1, b2⟩ := qv_rM one_red h1.1
    have g := gap_pos h1.1 h3
    obtain ⟨c1, c2⟩ := qv_rO a1 b1 g
    refine ⟨⟨c1, ?_, ?_⟩, ?_⟩
    · have sT := rT_sm hy h1
      have hden : (0 : Int) < 1 * step.2 := by have := h1.1.1; omega
      have m1 : Sm 6 (1 * step.2 - step.1 * 1) := by
        rw [Int.one_mul, Int.mul_one]
        exact h1.2.2.sub h1.2.1
      have m2 : Sm 6 (1 * step.2) := by
        rw [Int.one_mul]
        exact h1.2.2.mono (by decide)
      have sM : SmR 6 (rM (1, 1) step) := low2_sm hden m1 m2
      exact (ratT_sm (Int.mul_pos sT.1.1 g) ((sT.2.1.mul sM.2.2).mono (show n + 5 + 6 ≤ n + 20 by omega)))
    · have sT := rT_sm hy h1
      have hden : (0 : Int) < 1 * step.2 := by have := h1.1.1; omega
      have m1 : Sm 6 (1 * step.2 - step.1 * 1) := by
        rw [Int.one_mul, Int.mul_one]
        exact h1.2.2.sub h1.2.1
      have m2 : Sm 6 (1 * step.2) := by
        rw [Int.one_mul]
        exact h1.2.2.mono (by decide)
      have sM : SmR 6 (rM (1, 1) step) := low2_sm hden m1 m2
      exact (ratB_sm (Int.mul_pos sT.1.1 g) ((sT.2.2.mul sM.2.1).mono (show n + 5 + 6 ≤ n + 20 by omega)))
    · rw [c2, a2, b2, qv_one]
section
variable {P : Program} {w : World} {K : PySem.W.Frag} {mg : Str → Option Value} {base : Heap} {aN aO : Addr}
def spChat (K : PySem.W.Frag) : Sp := fun vs H Q _ => ∃ (p : Addr) (row : List RT) (step : RT) (n k : Nat), vs = [.ref p, .int (k : Int)] ∧ LifeAt K H p row step ∧ LifeOk n row step ∧ 1 ≤ k ∧ k ≤ 70 ∧
  ∀ z x H', Same H H' → RAt K H' z x → SmR 500 x → qv x = chR row step (k - 1) → Q (.ref z) H'
theorem ok_chat {f fH : Addr} {fd fdH : FuncData} (F : Fun K "chance_at" "chance_at" s_chat f fd) (FH : Fun K "chances_to" "chances_to" s_chto fH fdH) (bH : Binds K fdH ["life", "most"] []) (gH : mg "chances_to" = some (.ref fH)) (GH : FnOk P w K mg base CX0 4 fH fdH ["life", "most"] (spChto K)) :
    FnOk P w K mg base CX0 5 f fd ["life", "k"] (spChat K) := by
  refine F.ok sc_chat (fun vs H Q E h => ?_) (fun cdv A outer s H vs Q E hr h => ?_)
  · obtain ⟨_, _, _, _, _, rfl, _⟩ := h
    rfl
  · obtain ⟨p, row, step, n, k, rfl, hlife, L, hk1, hk, q⟩ := h
    refine ⟨_, (pss_one (ps_ret (pe_ix ix_list (pe_call GH hr (by rfl) gH FH.kp bH .nil pass0 (pa_cons (pv 0) (pa_cons (pv 1) pa_nil))) (pe_op op_sub (pv 1) pe_int) (fun _ _ => rfl)))), ?_⟩
    refine ⟨_, rfl, _, rfl, p, row, step, n, k, rfl, hlife, L, hk, fun z rs chs H1 s1 hz hrs hch => ?_⟩
    have hlt : k - 1 < chs.length := by rw [hch.len]; omega
    have hg : chs[k - 1]? = some chs[k - 1] := List.getElem?_eq_getElem hlt
    obtain ⟨r, er, hr2⟩ := hrs.get hg
    obtain ⟨s2, v2⟩ := hch.ok _ _ hg
    have hg2 : (rs.map V.ref)[k - 1]? = some (.ref r) := by
      rw [List.getElem?_map, er]
      rfl
    have := L.n64
    exact ⟨_, rfl, _, 1, rfl, rfl, z, _, _, _, rfl, rfl, SqL.of hz, at_of (by omega) hg2, q r _ _ s1 hr2 (s2.mono (by omega)) v2⟩
def spLasting (K : PySem.W.Frag) : Sp := fun vs H Q _ => ∃ (p : Addr) (row : List RT) (step : RT) (n k : Nat), vs = [.ref p, .int (k : Int)] ∧ LifeAt K H p row step ∧ LifeOk n row step ∧ k ≤ 70 ∧
  ∀ z x H', Same H H' → RAt K H' z x → SmR 1800 x → qv x = 1 - sumCh row step k → Q (.ref z) H'
/-- one less a ratio -/
theorem one_less {x : RT} {n : Nat} (h : SmR n x) : SmR (n + 1) (rM (1, 1) x) ∧ qv (rM (1, 1) x) = 1 - qv x := by
  obtain ⟨b1, b2⟩ := qv_rM one_red h.1
  have hden : (0 : Int) < 1 * x.2 := by have := h.1.1; omega
  have m1 : Sm (n + 1) (1 * x.2 - x.1 * 1) := by
    rw [Int.one_mul, Int.mul_one]
    exact h.2.2.sub h.2.1
  have m2 : Sm (n + 1) (1 * x.2) := by
    rw [Int.one_mul]
    exact h.2.2.mono (by omega)
  refine ⟨low2_sm hden m1 m2, ?_⟩
  rw [b2, qv_one]
theorem ok_lasting {f fH fA fM : Addr} {fd fdH fdA fdM : FuncData} (F : Fun K "lasting" "lasting" s_lasting f fd) (C : Consts K mg aN aO)
    (FH : Fun K "chances_to" "chances_to" s_chto fH fdH) (bH : Binds K fdH ["life", "most"] []) (gH : mg "chances_to" = some (.ref fH)) (GH : FnOk P w K mg base CX0 4 fH fdH ["life", "most"] (spChto K))
    (FA : Fun K "added" "added" s_added fA fdA) (bA : Binds K fdA ["told"] []) (gA : mg "added" = some (.ref fA)) (GA : FnOk P w K mg base CX0 3 fA fdA ["told"] (spAdded K))
    (FM : Fun K "minus" "minus" s_minus fM fdM) (bM : Binds K fdM ["one", "other"] []) (gM : mg "minus" = some (.ref fM)) (GM : FnOk P w K mg base CX0 3 fM fdM ["one", "other"] (spTwo K (fun a b c d => a * d - c * b))) :
    FnOk P w K mg base CX0 5 f fd ["life", "k"] (spLasting K) := by
  refine F.ok sc_lasting (fun vs H Q E h => ?_) (fun cdv A outer s H vs Q E hr h => ?_)
  · obtain ⟨_, _, _, _, _, rfl, _⟩ := h
    rfl
  · obtain ⟨p, row, step, n, k, rfl, hlife, L, hk, q⟩ := h
    have hr3 := hr.mono (show 3 ≤ 4 by decide)
    refine ⟨_, (pss_one (ps_ret (pe_call GM hr3 (by rfl) gM FM.kp bM .nil pass0 (pa_cons (pe_glob (v := .ref aO) rfl C.gO rfl) (pa_cons (pe_call GA hr3 (by rfl) gA FA.kp bA .nil pass0 (pa_cons (pe_call GH hr (by rfl) gH FH.kp bH .nil pass0 (pa_cons (pv 0) (pa_cons (pv 1) pa_nil))) pa_nil)) pa_nil))))), ?_⟩
    refine ⟨_, rfl, _, rfl, p, row, step, n, k, rfl, hlife, L, hk, fun z rs chs H1 s1 hz hrs hch => ?_⟩
    have O := over_ch L.sm L.st.1 L.len L.n64 hk hch
    have hn := L.n64
    refine ⟨z, chs, _, _, _, rfl, ⟨rs, SqL.of hz, hrs⟩, O, by omega, by decide, fun y x H2 s2 hy rx vx dx sx => ?_⟩
    have sx2 : SmR 1730 x := ⟨rx, sx.mono (by omega), (dvd_small dx O.pos O.sm).mono (by decide)⟩
    refine ⟨aO, y, _, _, _, _, rfl, ⟨C.tO _, hy, by unfold Sm; decide, by unfold Sm; decide, sx2.2.1.mono (by decide), sx2.2.2.mono (by decide), by decide, rx.1⟩, fun b nb => ?_⟩
    have e := same_new (o := HO.tup [.int (rM (1, 1) x).1, .int (rM (1, 1) x).2]) nb
    obtain ⟨o1, o2⟩ := one_less sx2
    refine q b (rM (1, 1) x) _ (s1.trans (s2.trans e)) (SqT.of upd_same) (o1.mono (by decide)) ?_
    rw [o2, vx, hch.sum]
def rowQ (row : List RT) : Rat := (row.map qv).sum
def spMiss (K : PySem.W.Frag) : Sp := fun vs H Q _ => ∃ (p : Addr) (row : List RT) (step : RT) (n : Nat), vs = [.ref p] ∧ LifeAt K H p row step ∧ LifeOk n row step ∧
  ∀ z x H', Same H H' → RAt K H' z x → SmR 1800 x → qv x = 1 - (rowQ row + behQ row step) → Q (.ref z) H'
theorem ok_miss {f fB fA fM : Addr} {fd fdB fdA fdM : FuncData} (F : Fun K "miss" "miss" s_miss f fd) (C : Consts K mg aN aO)
    (FB : Fun K "behind_row" "behind_row" s_behind fB fdB) (bB : Binds K fdB ["life"] []) (gB : mg "behind_row" = some (.ref fB)) (GB : FnOk P w K mg base CX0 4 fB fdB ["life"] (spBehind K))
    (FA : Fun K "added" "added" s_added fA fdA) (bA : Binds K fdA ["told"] []) (gA : mg "added" = some (.ref fA)) (GA : FnOk P w K mg base CX0 3 fA fdA ["told"] (spAdded K))
    (FM : Fun K "minus" "minus" s_minus fM fdM) (bM : Binds K fdM ["one", "other"] []) (gM : mg "minus" = some (.ref fM)) (GM : FnOk P w K mg base CX0 3 fM fdM ["one", "other"] (spTwo K (fun a b c d => a * d - c * b))) :
    FnOk P w K mg base CX0 5 f fd ["life"] (spMiss K) := by
  refine F.ok sc_miss (fun vs H Q E h => ?_) (fun cdv A outer s H vs Q E hr h => ?_)
  · obtain ⟨_, _, _, _, rfl, _⟩ := h
    rfl
  · obtain ⟨p, row, step, n, rfl, hlife, L, q⟩ := h
    have hr3 := hr.mono (show 3 ≤ 4 by decide)
    obtain ⟨pr, ps, l1, l2, l3⟩ := id hlife
    obtain ⟨rs, r1, r2⟩ := id l2
    have hn := L.n64
    refine ⟨_, (pss_one (ps_ret (pe_call GM hr3 (by rfl) gM FM.kp bM .nil pass0 (pa_cons (pe_glob (v := .ref aO) rfl C.gO rfl) (pa_cons (pe_call GA hr3 (by rfl) gA FA.kp bA .nil pass0 (pa_cons (pe_lst (StX.pa_star (pe_ix ix_tup (pv 0) pe_int (fun _ _ => rfl)) (pa_cons (pe_call GB hr (by rfl) gB FB.kp bB .nil pass0 (pa_cons (pv 0) pa_nil)) pa_nil))) pa_nil)) pa_nil))))), ?_⟩
    refine ⟨_, rfl, p, _, 0, _, rfl, rfl, l1, atI_nat (j := 0) rfl, pr, _, rfl, .inl r1, ?_⟩
    refine ⟨_, rfl, p, row, step, rfl, hlife, fun x hx => (L.sm x hx).mono (by omega), ⟨L.st.1.mono (by decide), L.st.2⟩, fun b H1 s1 hb => ?_⟩
    obtain ⟨sb, vb⟩ := behind_val L.sm L.st
    have hl := r2.length
    have hlen := L.len
    refine ⟨?_, fun z nz => ?_⟩
    · rw [List.length_append, List.length_map, List.length_singleton, hl, sizeLine_eq]
      omega
    have e := same_new (o := HO.lst (rs.map V.ref ++ [V.ref b])) nz
    have sm2 : ∀ x ∈ row ++ [behindR row step], SmR (n + 20) x := fun x hx => by
      rcases List.mem_append.mp hx with y | y
      · exact (L.sm x y).mono (by omega)
      · rw [List.mem_singleton.mp y]
        exact sb
    have O : Over1 (n + 20) 1300 (prodB (row ++ [behindR row step])) (row ++ [behindR row step]) := by
      refine ⟨prodB_pos fun x hx => (sm2 x hx).1.1, ?_, fun x hx => ⟨(sm2 x hx).1.1, prodB_dvd hx, (sm2 x hx).2.1⟩, ?_⟩
      · refine (prodB_sm fun x hx => (sm2 x hx).2.2).mono ?_
        rw [List.length_append, List.length_singleton]
        have : (n + 20) * (row.length + 1) ≤ 84 * 15 := Nat.mul_le_mul (by omega) (by omega)
        omega
      · rw [List.length_append, List.length_singleton]
        omega
    refine ⟨z, row ++ [behindR row step], _, _, _, rfl, ⟨rs ++ [b], ?_, (r2.tk (Tk.same (s1.trans e))).append (.cons (hb.tk (Tk.same e)) .nil)⟩, O, by omega, by decide, fun y x H2 s2 hy rx vx dx sx => ?_⟩
    · rw [List.map_append]
      exact SqL.of upd_same
    have sx2 : SmR 1730 x := ⟨rx, sx.mono (by omega), (dvd_small dx O.pos O.sm).mono (by decide)⟩
    refine ⟨aO, y, _, _, _, _, rfl, ⟨C.tO _, hy, by unfold Sm; decide, by unfold Sm; decide, sx2.2.1.mono (by decide), sx2.2.2.mono (by decide), by decide, rx.1⟩, fun b2 nb => ?_⟩
    have e2 := same_new (o := HO.tup [.int (rM (1, 1) x).1, .int (rM (1, 1) x).2]) nb
    obtain ⟨o1, o2⟩ := one_less sx2
    refine q b2 (rM (1, 1) x) _ (s1.trans (e.trans (s2.trans e2))) (SqT.of upd_same) (o1.mono (by decide)) ?_
    rw [o2, vx, List.map_append, List.map_singleton, sum_snoc, vb]
    rfl
end

end Fp

set_option Elab.async false
set_option linter.all false
set_option maxRecDepth 100000
set_option maxHeartbeats 4000000
set_option exponentiation.threshold 10000
namespace Fp
open PySem PySem.Spec PyProof.Rows L2
/-! ### the law's own sums, chances and rests -/
theorem sum_red {xs : List RT} {n d : Nat} {D : Int} {x : RT} (O : Over1 n d D xs) (hx : Red x) (h : qv x = (xs.map qv).sum) : x.2 ∣ D ∧ Sm (n + d + 11) x.1 := by
  have val : qv x = (((topsOn D xs).sum : Int) : Rat) / (D : Rat) := h.trans (tops_sum O.pos fun y hy => ⟨(O.ok y hy).1, (O.ok y hy).2.1⟩).symm
  obtain ⟨y1, y2⟩ := red_small hx O.pos val
  refine ⟨y1, ?_⟩
  have t := tops_sm (n := n) O.pos O.pos (Int.dvd_refl D) O.sm (xs := xs) fun y hy => ⟨(O.ok y hy).1, (O.ok y hy).2.2⟩
  have hlen := O.len
  unfold Sm
  have t2 : xs.length * 2 ^ (n + d) ≤ 1000 * 2 ^ (n + d) := Nat.mul_le_mul_right _ hlen
  have t3 : 2 ^ (n + d + 11) = 2048 * 2 ^ (n + d) := by rw [Nat.pow_add, Nat.mul_comm]
  have t4 : 0 < 2 ^ (n + d) := Nat.pow_pos (by decide)
  omega
theorem Over1.take {xs : List RT} {n d : Nat} {D : Int} (O : Over1 n d D xs) (i : Nat) : Over1 n d D (xs.take i) := ⟨O.pos, O.sm, fun x hx => O.ok x (List.mem_of_mem_take hx), by rw [List.length_take]; have := O.len; omega⟩
def rP (x y : RT) : RT := low2 (x.1 * y.2 + y.1 * x.2) (x.2 * y.2)
theorem qv_rP {x y : RT} (hx : Red x) (hy : 0 < y.2) : Red (rP x y) ∧ qv (rP x y) = qv x + qv y := by
  have hb := Int.mul_pos hx.1 hy
  refine ⟨low2_red (Int.ne_of_gt hb), ?_⟩
  unfold rP
  rw [qv_low2 hb, Rat.intCast_add, Rat.intCast_mul, Rat.intCast_mul, Rat.intCast_mul]
  have h1 := cast_ne (Int.ne_of_gt hx.1)
  have h2 := cast_ne (Int.ne_of_gt hy)
  unfold qv
  grind
section
variable {P : Program} {w : World} {K : PySem.W.Frag} {mg : Str → Option Value} {base : Heap}
def spLsum (K : PySem.W.Frag) (At : PySem.W.Frag → Hp → Addr → List RT → Prop) : Sp := fun vs H Q _ => ∃ (p : Addr) (xs : List RT) (n d : Nat) (D : Int), vs = [.ref p] ∧ At K H p xs ∧ Over1 n d D xs ∧ n ≤ 3500 ∧ d ≤ 3500 ∧
  ∀ z x H', Same H H' → RAt K H' z x → Red x → qv x = (xs.map qv).sum → x.2 ∣ D → Sm (n + d + 11) x.1 → Q (.ref z) H'
def spLpower (K : PySem.W.Frag) : Sp := fun vs H Q _ => ∃ (p : Addr) (x : RT) (far : Nat), vs = [.ref p, .int (far : Int)] ∧ RAt K H p x ∧ SmR 5 x ∧ far ≤ 80 ∧
  ∀ z y H', Same H H' → RAt K H' z y → SmR (1 + 5 * far) y → qv y = qv x ^ far → Q (.ref z) H'
theorem pow_val {l step : RT} (hl : 0 < l.2) (hs : 0 < step.2) (j : Nat) : qv l * qv step ^ j = ((l.1 * step.1 ^ j : Int) : Rat) / ((l.2 * step.2 ^ j : Int) : Rat) := by
  induction j with
  | zero =>
    rw [Rat.pow_zero, Int.pow_zero, Int.pow_zero, Int.mul_one, Int.mul_one]
    unfold qv
    grind
  | succ j ih =>
    have h1 := cast_ne (Int.ne_of_gt hs)
    have h2 := cast_ne (Int.ne_of_gt (Int.mul_pos hl (show (0 : Int) < step.2 ^ j from Int.pow_pos hs)))
    rw [Rat.pow_succ, ← Rat.mul_assoc, ih, Int.pow_succ, Int.pow_succ, ← Int.mul_assoc, ← Int.mul_assoc, Rat.intCast_mul (l.1 * step.1 ^ j), Rat.intCast_mul (l.2 * step.2 ^ j)]
    unfold qv
    grind
theorem zero_pow {j : Nat} (h : 0 < j) : (0 : Rat) ^ j = 0 := by
  obtain ⟨i, rfl⟩ : ∃ i, j = i + 1 := ⟨j - 1, by omega⟩
  rw [Rat.pow_succ]
  grind
def spLchance (K : PySem.W.Frag) : Sp := fun vs H Q _ => ∃ (p : Addr) (row : List RT) (step : RT) (n k : Nat), vs = [.ref p, .int (k : Int)] ∧ LifeAt K H p row step ∧ LifeOk n row step ∧ (row = [] → step = (0, 1)) ∧ 1 ≤ k ∧ k ≤ 70 ∧
  ∀ z x H', Same H H' → RAt K H' z x → SmR 500 x → qv x = chR row step (k - 1) → Q (.ref z) H'
end
/-- all chances from a place on -/
def restR (row : List RT) (step : RT) (k : Nat) : Rat := rowQ (row.drop k) + match row.getLast? with
  | none => 0
  | some l => qv l * qv step ^ (1 + (k - row.length)) / (1 - qv step)
theorem restR_zero {row : List RT} {step : RT} : restR row step 0 = rowQ row + behQ row step := by
  unfold restR behQ
  rw [List.drop_zero]
  match row.getLast? with
  | none => rfl
  | some l =>
    show _ + qv l * qv step ^ (1 + (0 - row.length)) / (1 - qv step) = _
    rw [Nat.zero_sub, Nat.add_zero]
    have : qv step ^ 1 = qv step := by
      rw [show (1 : Nat) = 0 + 1 from rfl, Rat.pow_succ, Rat.pow_zero]
      grind
    rw [this]
theorem restR_next {row : List RT} {step : RT} (hs : (1 : Rat) - qv step ≠ 0) (k : Nat) : restR row step k = chR row step k + restR row step (k + 1) := by
  rcases Classical.em (row = []) with z | z
  · subst z
    rw [chR_nil]
    unfold restR
    show (([].drop k : List RT).map qv).sum + 0 = 0 + ((([].drop (k + 1) : List RT).map qv).sum + 0)
    rw [List.drop_nil, List.drop_nil]
    grind
  · obtain ⟨l, g1, g2, g3⟩ := last_is z
    rcases (by omega : k < row.length ∨ row.length ≤ k) with hk | hk
    · have hg : row[k]? = some row[k] := List.getElem?_eq_getElem hk
      have ed : row.drop k = row[k] :: row.drop (k + 1) := List.drop_eq_getElem_cons hk
      rw [chR_in hg]
      unfold restR
      rw [g1, ed, show k - row.length = 0 by omega, show k + 1 - row.length = 0 by omega]
      show (qv row[k] + ((row.drop (k + 1)).map qv).sum) + _ = qv row[k] + (rowQ (row.drop (k + 1)) + _)
      unfold rowQ
      grind
    · rw [chR_out hk g1]
      unfold restR
      rw [g1, List.drop_eq_nil_of_le hk, List.drop_eq_nil_of_le (by omega)]
      show rowQ [] + qv l * qv step ^ (1 + (k - row.length)) / (1 - qv step) = qv l * qv step ^ (k + 1 - row.length) + (rowQ [] + qv l * qv step ^ (1 + (k + 1 - row.length)) / (1 - qv step))
      rw [show 1 + (k - row.length) = k + 1 - row.length by omega, show 1 + (k + 1 - row.length) = (k + 1 - row.length) + 1 by omega, Rat.pow_succ]
      grind
theorem restR_sum {row : List RT} {step : RT} (hs : (1 : Rat) - qv step ≠ 0) : ∀ k : Nat, restR row step 0 = sumCh row step k + restR row step k
  | 0 => by
    show _ = 0 + _
    grind
  | k + 1 => by
    rw [restR_sum hs k, restR_next hs k]
    show _ = sumCh row step k + chR row step k + _
    grind

end Fp

set_option Elab.async false
set_option linter.all false
set_option maxRecDepth 100000
set_option maxHeartbeats 4000000
set_option exponentiation.threshold 10000
namespace Fp
open PySem PySem.Spec PyProof.Rows L2
theorem tNoPart_go {σ : L2.St} {H : Hp} {Q : Option Int → Hp → Prop} (h : Q none H) : tNoPart σ H Q := h
theorem cutV_from (vs : List V) (n : Nat) : cutV vs (some (n : Int)) none = vs.drop n := by
  unfold cutV
  rw [HT.sIx_none, HT.sIx_nat]
  rcases Nat.le_total n vs.length with z | z
  · rw [Nat.min_eq_left z]
    rw [List.take_of_length_le (by rw [List.length_drop]; exact Nat.le_refl _)]
  · rw [Nat.min_eq_right z, List.drop_eq_nil_of_le (Nat.le_refl _), List.drop_eq_nil_of_le z, List.take_nil]
/-- row[n:] -/
theorem from_row {K : PySem.W.Frag} {H : Hp} {p : Addr} {xs : List RT} {n : Nat} {Q : VK} (h : RowAt K H p xs) (hq : ∀ r H', Same H H' → RowAt K H' r (xs.drop n) → Q (.ref r) H') : rSlA K (.ref p) (some (n : Int)) none H Q := by
  obtain ⟨rs, h1, h2⟩ := h
  have hl := h2.length
  refine ⟨p, _, rfl, h1, fun z => ?_, fun _ r nr => ?_⟩
  · have z1 := z.1
    rw [HT.sIx_nat, List.length_map] at z1
    refine hq p H (Same.refl H) ?_
    rcases (by omega : n = 0 ∨ xs.length = 0) with e | e
    · rw [e, List.drop_zero]
      exact ⟨rs, h1, h2⟩
    · have e2 := List.length_eq_zero_iff.mp e
      subst e2
      rw [List.drop_nil]
      exact ⟨rs, h1, h2⟩
  · rw [cutV_from]
    have s := same_new (o := HO.tup ((rs.map V.ref).drop n)) nr
    refine hq r _ s ⟨rs.drop n, ?_, (h2.drop n).tk (Tk.same s)⟩
    rw [List.map_drop]
    exact SqT.of upd_same
theorem over_two {x y : RT} {n a b : Nat} (hx : 0 < x.2) (hy : 0 < y.2) (sx : Sm n x.1) (sy : Sm n y.1) (dx : Sm a x.2) (dy : Sm b y.2) : Over1 n (a + b) (x.2 * y.2) [x, y] := by
  refine ⟨Int.mul_pos hx hy, dx.mul dy, fun z hz => ?_, by show 2 ≤ 1000; decide⟩
  rcases List.mem_cons.mp hz with e | e
  · subst e
    exact ⟨hx, Int.dvd_mul_right .., sx⟩
  · rw [List.mem_singleton.mp e]
    exact ⟨hy, Int.dvd_mul_left .., sy⟩
theorem sum_two (x y : RT) : (([x, y] : List RT).map qv).sum = qv x + qv y := by
  show qv x + (qv y + 0) = _
  grind
section
variable {P : Program} {w : World} {K : PySem.W.Frag} {mg : Str → Option Value} {base : Heap}
def spLrest (K : PySem.W.Frag) : Sp := fun vs H Q _ => ∃ (p : Addr) (row : List RT) (step : RT) (n k : Nat), vs = [.ref p, .int (k : Int)] ∧ LifeAt K H p row step ∧ LifeOk n row step ∧ (row = [] → step = (0, 1)) ∧ k ≤ 70 ∧
  ∀ z x H', Same H H' → RAt K H' z x → Red x → qv x = restR row step k → Sm 2350 x.1 → Sm 1350 x.2 → Q (.ref z) H'
end

end Fp

set_option Elab.async false
set_option linter.all false
set_option maxRecDepth 100000
set_option maxHeartbeats 4000000
set_option exponentiation.threshold 10000
namespace Fp
open PySem PySem.Spec PyProof.Rows L2
/-! ### the one ratio in lowest terms of a value -/
def rdq (q : Rat) : RT := (q.num, (q.den : Int))
theorem rdq_red (q : Rat) : Red (rdq q) := ⟨by have := q.den_nz; show (0 : Int) < (q.den : Int); omega, by
  have := q.reduced
  show Nat.gcd q.num.natAbs ((q.den : Int)).natAbs = 1
  rw [Int.natAbs_natCast]
  exact this⟩
theorem qv_rdq (q : Rat) : qv (rdq q) = q := by
  have h := Rat.num_divInt_den q
  rw [Rat.divInt_eq_div] at h
  exact h
theorem red_rdq {x : RT} (h : Red x) : x = rdq (qv x) := qv_inj h (rdq_red _) (qv_rdq _).symm
theorem is_rdq {x : RT} {q : Rat} (h : Red x) (e : qv x = q) : x = rdq q := by
  rw [← e]
  exact red_rdq h
mutual
theorem Dp.same' {K : PySem.W.Frag} {H H' : Hp} (e : Same H H') : ∀ {v : V} {d : PyData}, Dp K H v d → Dp K H' v d
  | _, _, .non => .non
  | _, _, .bl b => .bl b
  | _, _, .int i => .int i
  | _, _, .str x => .str x
  | _, _, .lst h r => .lst (e.seq h) (DpAll.same' e r)
  | _, _, .tup h r => .tup (sqT_same e h) (DpAll.same' e r)
theorem DpAll.same' {K : PySem.W.Frag} {H H' : Hp} (e : Same H H') : ∀ {vs : List V} {ds : List PyData}, DpAll K H vs ds → DpAll K H' vs ds
  | _, _, .nil => .nil
  | _, _, .cons h r => .cons (Dp.same' e h) (DpAll.same' e r)
end

end Fp

set_option Elab.async false
set_option linter.all false
set_option maxRecDepth 100000
set_option maxHeartbeats 4000000
set_option exponentiation.threshold 10000
namespace Fp
open PySem PySem.Spec PyProof.Rows L2
/-! ### lives shown -/
theorem sh_int {i : Int} (h : Sm 1900 i) : (PyData.int i).showable = true ∧ (PyData.int i).leavesShort 2000 = true := by
  have l : i.natAbs.log2 < 1900 := h.log (by decide)
  refine ⟨?_, ?_⟩
  · simp only [PyData.showable, decide_eq_true_eq]
    omega
  · simp only [PyData.leavesShort, decide_eq_true_eq]
    have e := int_text_length_le (k := 1900) (by decide) l
    show (Str.ofString (toString i)).length ≤ 2000
    rw [PySem.ofString_length]
    omega
/-- a thing that may be shown within others -/
structure Sh (c k : Nat) (d : PyData) : Prop where
  sh : d.showable = true
  lv : d.leavesShort 2000 = true
  co : cost d ≤ c
  dp : d.depth ≤ k
theorem Sh.shows {c k : Nat} {d : PyData} (h : Sh c k d) (hc : c ≤ 16000000) (hk : k ≤ 60) : Shows d := ⟨h.sh, h.lv, Nat.le_trans h.co hc, Nat.le_trans h.dp hk⟩
structure Shs (c k : Nat) (ds : List PyData) : Prop where
  sh : PyData.showableAll ds = true
  lv : PyData.leavesShortAll 2000 ds = true
  co : costAll ds ≤ c
  dp : PyData.depthAll ds ≤ k
theorem Shs.nil {k : Nat} : Shs 0 k [] := ⟨rfl, rfl, Nat.le_refl _, Nat.zero_le _⟩
theorem Shs.cons {c1 c2 k : Nat} {d : PyData} {ds : List PyData} (h : Sh c1 k d) (hs : Shs c2 k ds) : Shs (c1 + 2 + c2) k (d :: ds) := by
  refine ⟨?_, ?_, ?_, ?_⟩
  · show (d.showable && PyData.showableAll ds) = true
    rw [h.sh, hs.sh]
    rfl
  · show (d.leavesShort 2000 && PyData.leavesShortAll 2000 ds) = true
    rw [h.lv, hs.lv]
    rfl
  · show cost d + 2 + costAll ds ≤ _
    have := h.co
    have := hs.co
    omega
  · show max d.depth (PyData.depthAll ds) ≤ k
    have := h.dp
    have := hs.dp
    omega
theorem Shs.tup {c k : Nat} {ds : List PyData} (h : Shs c k ds) : Sh (c + 3) (k + 1) (.tuple ds) := ⟨h.sh, h.lv, Nat.add_le_add_right h.co 3, Nat.add_le_add_right h.dp 1⟩
theorem Shs.lst {c k : Nat} {ds : List PyData} (h : Shs c k ds) : Sh (c + 3) (k + 1) (.list ds) := ⟨h.sh, h.lv, Nat.add_le_add_right h.co 3, Nat.add_le_add_right h.dp 1⟩
theorem Sh.int {i : Int} (h : Sm 1900 i) : Sh 2000 0 (.int i) := ⟨(sh_int h).1, (sh_int h).2, Nat.le_refl _, Nat.le_refl _⟩
theorem Sh.bool {b : Bool} : Sh 5 0 (.bool b) := ⟨rfl, rfl, Nat.le_refl _, Nat.le_refl _⟩
theorem Sh.mono {c c2 k k2 : Nat} {d : PyData} (h : Sh c k d) (h1 : c ≤ c2) (h2 : k ≤ k2) : Sh c2 k2 d := ⟨h.sh, h.lv, Nat.le_trans h.co h1, Nat.le_trans h.dp h2⟩
theorem Shs.mono {c c2 k k2 : Nat} {ds : List PyData} (h : Shs c k ds) (h1 : c ≤ c2) (h2 : k ≤ k2) : Shs c2 k2 ds := ⟨h.sh, h.lv, Nat.le_trans h.co h1, Nat.le_trans h.dp h2⟩
def ratD (x : RT) : PyData := .tuple [.int x.1, .int x.2]
theorem Sh.rat {x : RT} {n : Nat} (h : SmR n x) (hn : n ≤ 1900) : Sh 4007 1 (ratD x) := (Shs.cons (Sh.int (h.2.1.mono hn)) (Shs.cons (Sh.int (h.2.2.mono hn)) Shs.nil)).tup
theorem Shs.row {n : Nat} (hn : n ≤ 1900) : ∀ {xs : List RT}, (∀ x ∈ xs, SmR n x) → Shs (4009 * xs.length) 1 (rowD xs)
  | [], _ => Shs.nil
  | x :: r, h => by
    have h1 := Shs.cons (Sh.rat (h x (List.mem_cons_self ..)) hn) (Shs.row hn fun y hy => h y (List.mem_cons_of_mem _ hy))
    refine h1.mono ?_ (Nat.le_refl _)
    rw [List.length_cons]
    omega
def lifeD (row : List RT) (step : RT) : PyData := .tuple [.tuple (rowD row), ratD step]
theorem Sh.life {n : Nat} {row : List RT} {step : RT} (hn : n ≤ 1900) (h : ∀ x ∈ row, SmR n x) (hs : SmR n step) (hl : row.length ≤ 100) : Sh 500000 3 (lifeD row step) := by
  have h1 := (Shs.row hn h).tup
  have h2 := (Shs.cons h1 (Shs.cons ((Sh.rat hs hn).mono (Nat.le_refl _) (by decide : 1 ≤ 2)) Shs.nil)).tup
  exact h2.mono (by omega) (Nat.le_refl _)
theorem LifeAt.dp {K : PySem.W.Frag} {H : Hp} {p : Addr} {row : List RT} {step : RT} (h : LifeAt K H p row step) : Dp K H (.ref p) (lifeD row step) := by
  obtain ⟨pr, ps, h1, h2, h3⟩ := h
  exact .tup h1 (.cons h2.dp (.cons h3.dp .nil))

end Fp

set_option Elab.async false
set_option linter.all false
set_option maxRecDepth 100000
set_option maxHeartbeats 4000000
set_option exponentiation.threshold 10000
namespace Fp
open PySem PySem.Spec PyProof.Rows L2
theorem flat_rep {α : Type} (a : α) : ∀ k : Nat, (List.replicate k [a]).flatten = List.replicate k a
  | 0 => rfl
  | k + 1 => by
    rw [List.replicate_succ, List.flatten_cons, flat_rep a k]
    rfl
theorem RsAt.rep {K : PySem.W.Frag} {H : Hp} {p : Addr} {x : RT} (h : RAt K H p x) : ∀ k : Nat, RsAt K H (List.replicate k p) (List.replicate k x)
  | 0 => .nil
  | k + 1 => .cons h (RsAt.rep h k)
/-- ((0, 1),) * k -/
theorem rep_row {K : PySem.W.Frag} {H : Hp} {p a : Addr} {x : RT} {k : Nat} {Q : VK} (h : SqT K H p [.ref a]) (ha : RAt K H a x) (hk : k ≤ 1000) (q : ∀ r H', Same H H' → RowAt K H' r (List.replicate k x) → Q (.ref r) H') : rRepA K (.ref p) (.int (k : Int)) H Q := by
  refine ⟨p, k, _, rfl, rfl, h, by simp, by omega, by omega, by show 1 ≤ 1000; decide, fun z => ?_, fun _ r nr => ?_⟩
  · have e : k = 1 := by omega
    subst e
    exact q p H (Same.refl H) ⟨[a], h, .cons ha .nil⟩
  · have s := same_new (o := HO.tup (List.replicate (k : Int).toNat [V.ref a]).flatten) nr
    refine q r _ s ⟨List.replicate k a, ?_, (RsAt.rep ha k).tk (Tk.same s)⟩
    have e : (List.replicate k a).map V.ref = (List.replicate (k : Int).toNat [V.ref a]).flatten := by
      rw [flat_rep, List.map_replicate, Int.toNat_natCast]
    rw [e]
    exact SqT.of upd_same

end Fp

set_option Elab.async false
set_option linter.all false
set_option maxRecDepth 100000
set_option maxHeartbeats 4000000
set_option exponentiation.threshold 10000
namespace Fp
open PySem PySem.Spec PyProof.Rows L2
/-! ### the short life with the same chances: what both sides come to -/
def trimZ (xs : List RT) : List RT := (xs.reverse.dropWhile (fun x => decide (x = ((0 : Int), (1 : Int))))).reverse
theorem trimZ_nil : trimZ [] = [] := rfl
theorem trimZ_nought (xs : List RT) : trimZ (xs ++ [(0, 1)]) = trimZ xs := by
  unfold trimZ
  rw [List.reverse_append]
  show (List.dropWhile _ ((0, 1) :: xs.reverse)).reverse = _
  rw [List.dropWhile_cons_of_pos (by decide)]
theorem trimZ_stop (xs : List RT) {x : RT} (h : x ≠ (0, 1)) : trimZ (xs ++ [x]) = xs ++ [x] := by
  unfold trimZ
  rw [List.reverse_append]
  show (List.dropWhile _ (x :: xs.reverse)).reverse = _
  rw [List.dropWhile_cons_of_neg (by simpa using h), List.reverse_cons, List.reverse_reverse]
theorem trimZ_noughts (xs : List RT) : ∀ n, trimZ (xs ++ List.replicate n (0, 1)) = trimZ xs
  | 0 => by rw [List.replicate_zero, List.append_nil]
  | n + 1 => by rw [List.replicate_succ', ← List.append_assoc, trimZ_nought, trimZ_noughts xs n]
theorem trimZ_cases (xs : List RT) : trimZ xs = [] ∨ ∃ ys y, trimZ xs = ys ++ [y] ∧ y ≠ (0, 1) := by
  suffices h : ∀ n (xs : List RT), xs.length = n → trimZ xs = [] ∨ ∃ ys y, trimZ xs = ys ++ [y] ∧ y ≠ (0, 1) from h _ xs rfl
  intro n
  induction n with
  | zero =>
    intro xs h
    rw [List.length_eq_zero_iff.mp h]
    exact .inl rfl
  | succ n ih =>
    intro xs h
    rcases snoc_cases xs with rfl | ⟨ys, y, rfl⟩
    · cases h
    · rcases Classical.em (y = (0, 1)) with rfl | hy
      · rw [trimZ_nought]
        exact ih ys (by simpa using h)
      · rw [trimZ_stop _ hy]
        exact .inr ⟨ys, y, rfl, hy⟩
theorem trimZ_idem (xs : List RT) : trimZ (trimZ xs) = trimZ xs := by
  rcases trimZ_cases xs with h | ⟨ys, y, h, hy⟩
  · rw [h]
    rfl
  · rw [h, trimZ_stop _ hy]
def revG (step : RT) : List RT → List RT
  | a :: b :: r => if a = rT b step then revG step (b :: r) else a :: b :: r
  | l => l
def trimG (xs : List RT) (step : RT) : List RT := (revG step xs.reverse).reverse
theorem trimG_one (a step : RT) : trimG [a] step = [a] := rfl
theorem rev_two (xs : List RT) (b a : RT) : (xs ++ [b] ++ [a]).reverse = a :: b :: xs.reverse := by
  rw [List.reverse_append, List.reverse_append]
  rfl
theorem rev_one (xs : List RT) (b : RT) : (xs ++ [b]).reverse = b :: xs.reverse := by
  rw [List.reverse_append]
  rfl
theorem trimG_cut (xs : List RT) (b step : RT) : trimG (xs ++ [b] ++ [rT b step]) step = trimG (xs ++ [b]) step := by
  unfold trimG
  rw [rev_two, rev_one]
  show (if rT b step = rT b step then revG step (b :: xs.reverse) else _).reverse = _
  rw [if_pos rfl]
theorem trimG_stop (xs : List RT) {a b step : RT} (h : a ≠ rT b step) : trimG (xs ++ [b] ++ [a]) step = xs ++ [b] ++ [a] := by
  unfold trimG
  rw [rev_two]
  show (if a = rT b step then _ else a :: b :: xs.reverse).reverse = _
  rw [if_neg h, List.reverse_cons, List.reverse_cons, List.reverse_reverse]
theorem low2_nought {b : Int} (hb : 0 < b) : low2 0 b = (0, 1) :=
  red_eq (low2_red (Int.ne_of_gt hb)) ⟨by decide, by decide⟩ (by
    have := low2_cross (t := 0) hb
    rw [Int.zero_mul] at this
    have e : (low2 0 b).1 = 0 := by
      rcases Int.mul_eq_zero.mp this with z | z
      · exact z
      · omega
    rw [e]
    show (0 : Int) * 1 = 0 * _
    rw [Int.zero_mul, Int.zero_mul])
theorem low2_zero {t b : Int} (hb : 0 < b) : low2 t b = (0, 1) ↔ t = 0 := by
  refine ⟨fun h => ?_, fun h => by rw [h]; exact low2_nought hb⟩
  have := low2_cross (t := t) hb
  rw [h] at this
  dsimp only at this
  omega
theorem red_zero {x : RT} (h : Red x) : x = (0, 1) ↔ x.1 = 0 := by
  refine ⟨fun z => by rw [z], fun z => ?_⟩
  refine red_eq h ⟨by decide, by decide⟩ ?_
  rw [z]
  simp
theorem rT_zero {x y : RT} (hx : Red x) (hy : Red y) : rT x y = (0, 1) ↔ x = (0, 1) ∨ y = (0, 1) := by
  unfold rT
  rw [low2_zero (Int.mul_pos hx.1 hy.1), red_zero hx, red_zero hy, Int.mul_eq_zero]
/-- the last of a trimmed one isn't nought, and it is trimmed -/
theorem trimG_good (step : RT) : ∀ (n : Nat) (xs : List RT) (a : RT), xs.length = n → (∀ x ∈ xs ++ [a], Red x) → Red step → a ≠ (0, 1) → step ≠ (0, 1) →
    ∃ ys b, trimG (xs ++ [a]) step = ys ++ [b] ∧ b ≠ (0, 1) ∧ trimG (ys ++ [b]) step = ys ++ [b] ∧ (ys ++ [b]).length ≤ (xs ++ [a]).length ∧ ∀ x ∈ ys ++ [b], x ∈ xs ++ [a] := by
  intro n
  induction n with
  | zero =>
    intro xs a h _ _ ha _
    rw [List.length_eq_zero_iff.mp h]
    exact ⟨[], a, trimG_one a step, ha, trimG_one a step, Nat.le_refl _, fun x hx => hx⟩
  | succ n ih =>
    intro xs a h hr hs ha hz
    rcases snoc_cases xs with rfl | ⟨ys, b, rfl⟩
    · cases h
    · rcases Classical.em (a = rT b step) with rfl | hn
      · have hb : Red b := hr b (by simp)
        have hb0 : b ≠ (0, 1) := fun z => ha ((rT_zero hb hs).mpr (.inl z))
        obtain ⟨zs, c, e1, e2, e3, e4, e5⟩ := ih ys b (by simpa using h) (fun x hx => hr x (List.mem_append_left _ hx)) hs hb0 hz
        rw [trimG_cut]
        refine ⟨zs, c, e1, e2, e3, ?_, fun x hx => List.mem_append_left _ (e5 x hx)⟩
        rw [List.length_append (as := ys ++ [b])]
        omega
      · rw [trimG_stop _ hn]
        exact ⟨ys ++ [b], a, rfl, ha, trimG_stop _ hn, Nat.le_refl _, fun x hx => hx⟩
/-- the row has a last one that isn't nought, and goes on by the step -/
def GoesOn (row : List RT) (step : RT) : Prop := step ≠ (0, 1) ∧ ∃ ys y, row = ys ++ [y] ∧ y ≠ (0, 1)
open Classical in
noncomputable def shortL (row : List RT) (step : RT) : List RT × RT := if GoesOn row step then (trimG row step, step) else (trimZ row, (0, 1))
theorem shortL_go {row : List RT} {step : RT} (h : GoesOn row step) : shortL row step = (trimG row step, step) := by
  unfold shortL
  rw [if_pos h]
theorem shortL_end {row : List RT} {step : RT} (h : ¬ GoesOn row step) : shortL row step = (trimZ row, (0, 1)) := by
  unfold shortL
  rw [if_neg h]
theorem goes_snoc {ys : List RT} {y step : RT} : GoesOn (ys ++ [y]) step ↔ step ≠ (0, 1) ∧ y ≠ (0, 1) := by
  refine ⟨fun h => ?_, fun h => ⟨h.1, ys, y, rfl, h.2⟩⟩
  obtain ⟨h1, zs, z, e, hz⟩ := h
  have e2 := List.append_inj_right' e rfl
  cases e2
  exact ⟨h1, hz⟩
theorem goes_nil {step : RT} : ¬ GoesOn [] step := by
  rintro ⟨_, ys, y, e, _⟩
  have := congrArg List.length e
  simp at this
theorem shortL_idem {row : List RT} {step : RT} (hr : ∀ x ∈ row, Red x) (hs : Red step) : shortL (shortL row step).1 (shortL row step).2 = shortL row step := by
  rcases Classical.em (GoesOn row step) with h | h
  · obtain ⟨h1, ys, y, rfl, hy⟩ := id h
    obtain ⟨zs, z, e1, e2, e3, _, _⟩ := trimG_good step _ ys y rfl hr hs hy h1
    rw [shortL_go h, e1]
    dsimp only
    rw [shortL_go (goes_snoc.mpr ⟨h1, e2⟩), e3]
  · rw [shortL_end h]
    dsimp only
    rw [shortL_end (fun z => z.1 rfl), trimZ_idem]
theorem shortL_more {row : List RT} {step l : RT} (h : GoesOn (row ++ [l]) step) (hl : Red l) (hs : Red step) : GoesOn (row ++ [l] ++ [rT l step]) step ∧ shortL (row ++ [l] ++ [rT l step]) step = shortL (row ++ [l]) step := by
  obtain ⟨h1, h2⟩ := goes_snoc.mp h
  have g : GoesOn (row ++ [l] ++ [rT l step]) step := goes_snoc.mpr ⟨h1, fun z => by
    rcases (rT_zero hl hs).mp z with y | y
    · exact h2 y
    · exact h1 y⟩
  exact ⟨g, by rw [shortL_go g, shortL_go h, trimG_cut]⟩
theorem shortL_noughts {row : List RT} {step st : RT} {n : Nat} (h : ¬ GoesOn row step) (hn : n = 0 → ¬ GoesOn row st) : ¬ GoesOn (row ++ List.replicate n (0, 1)) st ∧ shortL (row ++ List.replicate n (0, 1)) st = shortL row step := by
  have g : ¬ GoesOn (row ++ List.replicate n (0, 1)) st := by
    match n, hn with
    | 0, hn =>
      rw [List.replicate_zero, List.append_nil]
      exact hn rfl
    | n + 1, _ =>
      rw [List.replicate_succ', ← List.append_assoc]
      exact fun z => (goes_snoc.mp z).2 rfl
  exact ⟨g, by rw [shortL_end g, shortL_end h, trimZ_noughts]⟩
theorem trimZ_mem : ∀ {n : Nat} {xs : List RT}, xs.length = n → ∀ x ∈ trimZ xs, x ∈ xs := by
  intro n
  induction n with
  | zero =>
    intro xs h x hx
    rw [List.length_eq_zero_iff.mp h] at hx
    simp [trimZ] at hx
  | succ n ih =>
    intro xs h x hx
    rcases snoc_cases xs with rfl | ⟨ys, y, rfl⟩
    · cases h
    · rcases Classical.em (y = (0, 1)) with rfl | hy
      · rw [trimZ_nought] at hx
        exact List.mem_append_left _ (ih (by simpa using h) x hx)
      · rw [trimZ_stop _ hy] at hx
        exact hx
theorem trimZ_len : ∀ {n : Nat} {xs : List RT}, xs.length = n → (trimZ xs).length ≤ xs.length := by
  intro n
  induction n with
  | zero =>
    intro xs h
    rw [List.length_eq_zero_iff.mp h]
    exact Nat.le_refl _
  | succ n ih =>
    intro xs h
    rcases snoc_cases xs with rfl | ⟨ys, y, rfl⟩
    · cases h
    · rcases Classical.em (y = (0, 1)) with rfl | hy
      · rw [trimZ_nought]
        have := ih (xs := ys) (by simpa using h)
        rw [List.length_append]
        omega
      · rw [trimZ_stop _ hy]
        exact Nat.le_refl _
theorem shortL_mem {row : List RT} {step : RT} (hr : ∀ x ∈ row, Red x) (hs : Red step) : (∀ x ∈ (shortL row step).1, x ∈ row) ∧ (shortL row step).1.length ≤ row.length ∧ ((shortL row step).2 = step ∨ (shortL row step).2 = (0, 1)) := by
  rcases Classical.em (GoesOn row step) with h | h
  · obtain ⟨h1, ys, y, rfl, hy⟩ := id h
    obtain ⟨zs, z, e1, e2, e3, e4, e5⟩ := trimG_good step _ ys y rfl hr hs hy h1
    rw [shortL_go h, e1]
    exact ⟨e5, e4, .inl rfl⟩
  · rw [shortL_end h]
    exact ⟨trimZ_mem rfl, trimZ_len rfl, .inr rfl⟩

end Fp

set_option Elab.async false
set_option linter.all false
set_option maxRecDepth 100000
set_option maxHeartbeats 4000000
set_option exponentiation.threshold 10000
namespace Fp
open PySem PySem.Spec PyProof.Rows L2
abbrev s_short : Stmt := topS 23
abbrev s_wn : Stmt := topS 24
theorem sc_short : FnScope ["life", "row", "step"] ["life"] (defScope s_short) := ⟨rfl, rfl, rfl, by decide +kernel, rfl, by decide +kernel, by decide +kernel⟩
theorem sc_wn : FnScope ["row", "end"] ["row"] (defScope s_wn) := ⟨rfl, rfl, rfl, by decide +kernel, rfl, by decide +kernel, by decide +kernel⟩
theorem behindR_zero {row : List RT} {step : RT} (hr : ∀ x ∈ row, Red x) (hs : Red step) (h1 : step.1 < step.2) : behindR row step = (0, 1) ↔ ¬ GoesOn row step := by
  rcases snoc_cases row with rfl | ⟨ys, y, rfl⟩
  · exact ⟨fun _ => goes_nil, fun _ => rfl⟩
  · have hy : Red y := hr y (by simp)
    rw [behindR_snoc, goes_snoc]
    unfold rO
    have hq : Red (rT y step) := low2_red (Int.ne_of_gt (Int.mul_pos hy.1 hs.1))
    rw [low2_zero (Int.mul_pos hq.1 (gap_pos hs h1)), Int.mul_eq_zero]
    have hm := (low2_red (t := 1 * step.2 - step.1 * 1) (b := 1 * step.2) (by have := hs.1; omega)).1
    have e1 : (rT y step).1 = 0 ↔ rT y step = (0, 1) := (red_zero hq).symm
    rw [e1, rT_zero hy hs]
    refine ⟨fun z => ?_, fun z => .inl ?_⟩
    · rcases z with (z | z) | z
      · exact fun g => g.2 z
      · exact fun g => g.1 z
      · have : (0 : Int) < (rM (1, 1) step).2 := hm
        omega
    · rcases Classical.em (y = (0, 1)) with a | a
      · exact .inl a
      · rcases Classical.em (step = (0, 1)) with b | b
        · exact .inr b
        · exact absurd ⟨b, a⟩ z
section
variable {P : Program} {w : World} {K : PySem.W.Frag} {mg : Str → Option Value} {base : Heap} {aN aO : Addr}
/-! ### without noughts at the end -/
def spWn (K : PySem.W.Frag) : Sp := fun vs H Q _ => ∃ (p : Addr) (row : List RT), vs = [.ref p] ∧ RowAt K H p row ∧ ∀ z H', Same H H' → LifeAt K H' z (trimZ row) (0, 1) → Q (.ref z) H'
theorem ok_wn {f : Addr} {fd : FuncData} {k : Nat} (F : Fun K "without_noughts" "without_noughts" s_wn f fd) (C : Consts K mg aN aO) (ml : mg "len" = none) : FnOk P w K mg base CX0 (k + 1) f fd ["row"] (spWn K) := by
  refine F.ok sc_wn (fun vs H Q E h => ?_) (fun cdv A outer s H vs Q E hr h => ?_)
  · obtain ⟨_, _, rfl, _⟩ := h
    rfl
  · obtain ⟨p, row, rfl, hrow, q⟩ := h
    refine ⟨_, (pss_cons (ps_set (i := 1) sc_wn.nd rfl (.inl rfl) (pe_callB call_len_seq (by rfl) ml PySem.boot_len (pa_cons (pv 0) pa_nil))) (pss_cons (ps_while PassesOwn.never (PW.pt (pw_and (pt_cmpR op_gt (pv 1) pe_int (nomark _)) (pw_and1 (pt_cmpR (op_eqD hr.units) (pe_ix ix_tup (pv 0) (pe_op op_sub (pv 1) pe_int) (fun _ _ => rfl)) (pe_glob (v := .ref aN) rfl C.gN rfl) (nomark _)))))
          (pss_one (ps_aug (i := 1) sc_wn.nd rfl (.inl rfl) pe_int ip_sub))) (pss_one (ps_ret (pe_tup (pa_cons (pe_slice sl_tupA (pv 0) po_none (po_some (pv 1))) (pa_cons (pe_glob (v := .ref aN) rfl C.gN rfl) pa_nil))))))), ?_⟩
    obtain ⟨rs, r1, r2⟩ := id hrow
    have hl := r2.length
    refine ⟨_, rfl, p, _, rfl, .inr r1, ?_⟩
    refine ⟨fun m σ H1 => H1 = H ∧ m ≤ row.length ∧ σ = [some (.ref p), some (.int (m : Int))] ∧ trimZ (row.take m) = trimZ row, ⟨row.length, rfl, Nat.le_refl _, ?_, by rw [List.take_length]⟩, ?_⟩
    · show [some (V.ref p), some (V.int (((rs.map V.ref).length : Nat) : Int))] = _
      rw [List.length_map, hl]
    · rintro m σ H1 ⟨rfl, hm, rfl, et⟩
      have done : (m = 0 ∨ ∃ x, row[m - 1]? = some x ∧ x ≠ (0, 1)) → trimZ row = row.take m := fun z => by
        rw [← et]
        rcases z with rfl | ⟨x, hx, hne⟩
        · rfl
        · have hm0 : m ≠ 0 ∨ m = 0 := by omega
          match m, hx with
          | 0, hx =>
            rfl
          | m + 1, hx =>
            rw [List.take_add_one, show row[m]? = some x from hx]
            exact trimZ_stop _ hne
      have ends : trimZ row = row.take m → tRet (tTup (tCons (tSl (rSlA K) (tVar 0) tNoPart (tPart (tVar 1))) (tCons (tC (.ref aN)) tNil))) { nx := fun _ H' => Q .non H', rt := Q } [some (.ref p), some (.int (m : Int))] H1 := fun z => by
        refine ⟨_, rfl, _, rfl, m, rfl, ?_⟩
        refine take_row hrow fun r H2 s2 hr2 => ?_
        refine ⟨by show 2 ≤ sizeLine; decide, fun y ny => ?_⟩
        have e := same_new (o := HO.tup [.ref r, .ref aN]) ny
        refine q y _ (s2.trans e) ⟨r, aN, SqT.of upd_same, ?_, C.tN _⟩
        rw [z]
        exact hr2.tk (Tk.same e)
      refine ⟨_, rfl, m, 0, rfl, rfl, _, rfl, ite2 (fun c => ?_) (fun c => ?_)⟩
      · have hm0 : 0 < m := by
          have : (0 : Int) < (m : Int) := of_decide_eq_true c
          omega
        have hg : row[m - 1]? = some row[m - 1] := List.getElem?_eq_getElem (by omega)
        refine ⟨_, rfl, _, rfl, m, 1, rfl, rfl, ?_⟩
        refine ix_row (j := m - 1) hrow (by omega) hg fun r hr2 => ?_
        refine tC_go (eq_rat hr2 (C.tN _) ?_)
        refine ⟨_, rfl, ite2 (fun c2 => ?_) (fun c2 => ?_)⟩
        · have ez : row[m - 1] = (0, 1) := of_decide_eq_true c2
          refine ⟨fun σ' H' => H' = H1 ∧ σ' = [some (.ref p), some (.int ((m - 1 : Nat) : Int))], fun σ' H' z => ?_, ?_⟩
          · obtain ⟨rfl, rfl⟩ := z
            refine ⟨m - 1, by omega, rfl, by omega, rfl, ?_⟩
            rw [← et]
            obtain ⟨k, rfl⟩ : ∃ k, m = k + 1 := ⟨m - 1, by omega⟩
            rw [List.take_add_one, show row[k]? = some (0, 1) from by rw [← ez]; exact hg]
            exact (trimZ_nought _).symm
          · refine ⟨_, rfl, m, 1, rfl, rfl, rfl, ?_⟩
            show [some (V.ref p), some (V.int ((m : Int) - 1))] = _
            rw [show (m : Int) - 1 = ((m - 1 : Nat) : Int) by omega]
        · exact ends (done (.inr ⟨_, hg, fun z => c2 (decide_eq_true z)⟩))
      · have hm0 : m = 0 := by
          have : ¬ (0 : Int) < (m : Int) := fun z => c (decide_eq_true z)
          omega
        exact iteF (ends (done (.inl hm0)))
/-! ### short -/
theorem cutV_drop (vs : List V) (h : vs ≠ []) : cutV vs none (some (-1)) = vs.take (vs.length - 1) := by
  have hp := List.length_pos_iff.mpr h
  unfold cutV
  rw [HT.sIx_none]
  have e0 : HT.sIx vs.length vs.length (some (-1)) = ((-1 : Int) + (vs.length : Int)).toNat := by
    unfold HT.sIx
    rfl
  have e : HT.sIx vs.length vs.length (some (-1)) = vs.length - 1 := by
    rw [e0]
    omega
  rw [e, Nat.sub_zero, List.drop_zero]
theorem drop_row {K : PySem.W.Frag} {H : Hp} {p : Addr} {xs : List RT} {y : RT} {Q : VK} (h : RowAt K H p (xs ++ [y])) (hq : ∀ r H', Same H H' → RowAt K H' r xs → Q (.ref r) H') : rSlA K (.ref p) none (some (-1)) H Q := by
  obtain ⟨rs, h1, h2⟩ := h
  have hl := h2.length
  rw [List.length_append, List.length_singleton] at hl
  have hne : rs.map V.ref ≠ [] := fun z => by
    have := congrArg List.length z
    rw [List.length_map, List.length_nil] at this
    omega
  refine ⟨p, _, rfl, h1, fun z => ?_, fun _ r nr => ?_⟩
  · have z2 := z.2
    have e0 : HT.sIx (rs.map V.ref).length (rs.map V.ref).length (some (-1)) = ((-1 : Int) + ((rs.map V.ref).length : Int)).toNat := by
      unfold HT.sIx
      rfl
    have e : HT.sIx (rs.map V.ref).length (rs.map V.ref).length (some (-1)) = (rs.map V.ref).length - 1 := by
      rw [e0, List.length_map]
      omega
    rw [e, List.length_map] at z2
    omega
  · rw [cutV_drop _ hne, List.length_map]
    have s := same_new (o := HO.tup ((rs.map V.ref).take (rs.length - 1))) nr
    refine hq r _ s ⟨rs.take (rs.length - 1), ?_, ?_⟩
    · rw [List.map_take]
      exact SqT.of upd_same
    · have h3 := (h2.take (rs.length - 1)).tk (Tk.same (K := K) s)
      rw [hl, Nat.add_sub_cancel, List.take_left'] at h3
      · rw [hl, Nat.add_sub_cancel]
        exact h3
      · rfl
def spShort (K : PySem.W.Frag) : Sp := fun vs H Q _ => ∃ (p : Addr) (row : List RT) (step : RT), vs = [.ref p] ∧ LifeAt K H p row step ∧ (∀ x ∈ row, SmR 1900 x) ∧ StepOk 300 step ∧
  ∀ z H', Same H H' → LifeAt K H' z (shortL row step).1 (shortL row step).2 → Q (.ref z) H'
theorem ok_short {f fB fW fT : Addr} {fd fdB fdW fdT : FuncData} (F : Fun K "short" "short" s_short f fd) (C : Consts K mg aN aO)
    (FB : Fun K "behind_row" "behind_row" s_behind fB fdB) (bB : Binds K fdB ["life"] []) (gB : mg "behind_row" = some (.ref fB)) (GB : FnOk P w K mg base CX0 4 fB fdB ["life"] (spBehind K))
    (FW : Fun K "without_noughts" "without_noughts" s_wn fW fdW) (bW : Binds K fdW ["row"] []) (gW : mg "without_noughts" = some (.ref fW)) (GW : FnOk P w K mg base CX0 1 fW fdW ["row"] (spWn K))
    (FT : Fun K "times" "times" s_times fT fdT) (bT : Binds K fdT ["one", "other"] []) (gT : mg "times" = some (.ref fT)) (GT : FnOk P w K mg base CX0 3 fT fdT ["one", "other"] (spTwo K (fun a b c d => a * c)))
    (ml : mg "len" = none) : FnOk P w K mg base CX0 5 f fd ["life"] (spShort K) := by
  refine F.ok sc_short (fun vs H Q E h => ?_) (fun cdv A outer s H vs Q E hr h => ?_)
  · obtain ⟨_, _, _, rfl, _⟩ := h
    rfl
  · obtain ⟨p, row, step, rfl, hlife, hsm, hst, q⟩ := h
    obtain ⟨pr, ps, l1, l2, l3⟩ := id hlife
    have hr1 := hr.mono (show 1 ≤ 4 by decide)
    have hr3 := hr.mono (show 3 ≤ 4 by decide)
    refine ⟨_, (pss_cons (ps_asg (pv 0) (pg_tup rfl (pgs_cons (pg_name (i := 1) sc_short.nd rfl (.inl rfl)) (pgs_cons (pg_name (i := 2) sc_short.nd rfl (.inl rfl)) pgs_nil)))) (pss_cons (ps_if (pt_cmpR (op_eqD hr.units) (pe_call GB hr (by rfl) gB FB.kp bB .nil pass0 (pa_cons (pv 0) pa_nil)) (pe_glob (v := .ref aN) rfl C.gN rfl) (nomark _)) (pss_one (ps_ret (pe_call GW hr1 (by rfl) gW FW.kp bW .nil pass0 (pa_cons (pv 1) pa_nil)))) pss_nil) (pss_cons (ps_while PassesOwn.never (PW.pt (pw_and (pt_cmpR op_gt (pe_callB call_len_seq (by rfl) ml PySem.boot_len (pa_cons (pv 1) pa_nil)) pe_int (nomark _)) (pw_and1 (pt_cmpR (op_eqD hr.units) (pe_ix ix_tup (pv 1) (pe_un un_neg pe_int) (fun _ _ => rfl))
            (pe_call GT hr3 (by rfl) gT FT.kp bT .nil pass0 (pa_cons (pe_ix ix_tup (pv 1) (pe_un un_neg pe_int) (fun _ _ => rfl)) (pa_cons (pv 2) pa_nil))) (nomark _)))))
          (pss_one (ps_set (i := 1) sc_short.nd rfl (.inl rfl) (pe_slice sl_tupA (pv 1) po_none (po_some (pe_un un_neg pe_int)))))) (pss_one (ps_ret (pe_tup (pa_cons (pv 1) (pa_cons (pv 2) pa_nil)))))))), ?_⟩
    refine ⟨_, rfl, p, _, rfl, l1, rfl, _, _, rfl, _, _, rfl, rfl, ?_⟩
    refine ⟨_, rfl, p, row, step, rfl, hlife, hsm, hst, fun b H1 s1 hb => ?_⟩
    have hred : ∀ x ∈ row, Red x := fun x hx => (hsm x hx).1
    refine tC_go (eq_rat hb (C.tN _) ?_)
    refine ⟨_, rfl, ite2 (fun c => ?_) (fun c => ?_)⟩
    · have hg : ¬ GoesOn row step := (behindR_zero hred hst.1.1 hst.2.2).mp (of_decide_eq_true c)
      refine ⟨_, rfl, pr, row, rfl, l2.tk (Tk.same s1), fun z H2 s2 hz => ?_⟩
      refine q z _ (s1.trans s2) ?_
      rw [shortL_end hg]
      exact hz
    · have hg : GoesOn row step := by
        rcases Classical.em (GoesOn row step) with z | z
        · exact z
        · exact absurd (decide_eq_true ((behindR_zero hred hst.1.1 hst.2.2).mpr z)) c
      rw [shortL_go hg] at q
      dsimp only at q
      refine ⟨fun m σ H2 => ∃ (pr : Addr) (ys : List RT) (y : RT), m = ys.length ∧ σ = [some (.ref p), some (.ref pr), some (.ref ps)] ∧ Same H H2 ∧ RowAt K H2 pr (ys ++ [y]) ∧ (∀ x ∈ ys ++ [y], SmR 1900 x) ∧ trimG (ys ++ [y]) step = trimG row step, ?_, ?_⟩
      · obtain ⟨_, ys, y, rfl, _⟩ := hg
        exact ⟨_, pr, ys, y, rfl, rfl, s1, l2.tk (Tk.same s1), hsm, rfl⟩
      · rintro m σ H2 ⟨pr, ys, y, rfl, rfl, s2, hrow, hsm2, et⟩
        have ends : ∀ H3, Same H2 H3 → trimG (ys ++ [y]) step = ys ++ [y] → tRet (tTup (tCons (tVar 1) (tCons (tVar 2) tNil))) { nx := fun _ H' => Q .non H', rt := Q } [some (.ref p), some (.ref pr), some (.ref ps)] H3 := fun H3 s3 z => by
          refine ⟨_, rfl, _, rfl, by show 2 ≤ sizeLine; decide, fun a na => ?_⟩
          have e := same_new (o := HO.tup [.ref pr, .ref ps]) na
          refine q a _ (s2.trans (s3.trans e)) ⟨pr, ps, SqT.of upd_same, ?_, l3.tk (Tk.same (s2.trans (s3.trans e)))⟩
          rw [← et, z]
          exact hrow.tk (Tk.same (s3.trans e))
        obtain ⟨rs, r1, r2⟩ := id hrow
        have hl := r2.length
        rw [List.length_append, List.length_singleton] at hl
        refine ⟨_, rfl, pr, _, rfl, .inr r1, _, 1, rfl, rfl, _, rfl, ite2 (fun c2 => ?_) (fun c2 => ?_)⟩
        · have h2 : 1 ≤ ys.length := by
            have : (1 : Int) < ((rs.map V.ref).length : Nat) := of_decide_eq_true c2
            rw [List.length_map] at this
            omega
          rcases snoc_cases ys with rfl | ⟨zs, b, rfl⟩
          · simp at h2
          · have sb := hsm2 b (by simp)
            refine ⟨_, rfl, 1, rfl, ?_⟩
            refine ix_back (k := 1) (j := (zs ++ [b]).length) (x := y) hrow (by decide) (by simp) (by simp) fun r hr4 => ?_
            refine ⟨_, rfl, 2, rfl, ?_⟩
            refine ix_back (k := 2) (j := zs.length) (x := b) hrow (by decide) (by simp) (by simp) fun r2 hr5 => ?_
            refine ⟨_, rfl, r2, ps, _, _, _, _, rfl, ⟨hr5, l3.tk (Tk.same s2), sb.2.1.mono (by decide), sb.2.2.mono (by decide), hst.1.2.1.mono (by decide), hst.1.2.2.mono (by decide), sb.1.1, hst.1.1.1⟩, fun a na => ?_⟩
            have e := same_new (o := HO.tup [.int (rT b step).1, .int (rT b step).2]) na
            refine eq_rat (y := rT b step) (hr4.tk (Tk.same e)) (SqT.of upd_same) ?_
            refine ⟨_, rfl, ite2 (fun c3 => ?_) (fun c3 => ?_)⟩
            · have ey : y = rT b step := of_decide_eq_true c3
              refine ⟨fun σ' H' => ∃ pr2 : Addr, σ' = [some (.ref p), some (.ref pr2), some (.ref ps)] ∧ Same H H' ∧ RowAt K H' pr2 (zs ++ [b]), fun σ' H' z => ?_, ?_⟩
              · obtain ⟨pr2, rfl, s4, hrow4⟩ := z
                refine ⟨zs.length, by simp, pr2, zs, b, rfl, rfl, s4, hrow4, fun x hx => hsm2 x (List.mem_append_left _ hx), ?_⟩
                rw [← et, ey, trimG_cut]
              · refine ⟨_, rfl, 1, rfl, -1, rfl, ?_⟩
                refine drop_row (hrow.tk (Tk.same e)) fun r3 H4 s4 hr6 => ?_
                exact ⟨r3, rfl, s2.trans (e.trans s4), hr6⟩
            · exact ends _ e (trimG_stop _ fun z => c3 (decide_eq_true z))
        · have h2 : ys.length = 0 := by
            have : ¬ (1 : Int) < ((rs.map V.ref).length : Nat) := fun z => c2 (decide_eq_true z)
            rw [List.length_map] at this
            omega
          rw [List.length_eq_zero_iff.mp h2]
          rw [List.length_eq_zero_iff.mp h2] at ends
          exact iteF (ends _ (Same.refl _) (trimG_one y step))
end

end Fp

set_option Elab.async false
set_option linter.all false
set_option maxRecDepth 100000
set_option maxHeartbeats 4000000
set_option exponentiation.threshold 10000
namespace Fp
open PySem PySem.Spec PyProof.Rows L2
/-! ### chances put anew: the recursion -/
def sumTo (n : Nat) (f : Nat → Rat) : Rat := ((List.range n).map f).sum
def renL (a b : Nat → Rat) : Nat → List Rat
  | 0 => []
  | n + 1 => renL a b n ++ [b n + sumTo n fun j => a j * (renL a b n)[n - 1 - j]?.getD 0]
theorem renL_len (a b : Nat → Rat) : ∀ n, (renL a b n).length = n
  | 0 => rfl
  | n + 1 => by
    show (renL a b n ++ [_]).length = _
    rw [List.length_append, renL_len a b n]
    rfl
theorem renL_at (a b : Nat → Rat) : ∀ {n j : Nat}, j < n → (renL a b n)[j]? = (renL a b (j + 1))[j]?
  | 0, j, h => absurd h (Nat.not_lt_zero _)
  | n + 1, j, h => by
    rcases (by omega : j < n ∨ j = n) with z | z
    · show (renL a b n ++ [_])[j]? = _
      rw [List.getElem?_append_left (by rw [renL_len]; exact z)]
      exact renL_at a b z
    · subst z
      rfl
/-- what is at n: the told one, and by each chance what is so much before -/
def renQ (a b : Nat → Rat) (n : Nat) : Rat := (renL a b (n + 1))[n]?.getD 0
theorem renQ_is (a b : Nat → Rat) (n : Nat) : renQ a b n = b n + sumTo n fun j => a j * renQ a b (n - 1 - j) := by
  unfold renQ
  show (renL a b n ++ [b n + sumTo n fun j => a j * (renL a b n)[n - 1 - j]?.getD 0])[n]?.getD 0 = _
  rw [List.getElem?_append_right (by rw [renL_len]; exact Nat.le_refl _), renL_len, Nat.sub_self]
  show b n + sumTo n (fun j => a j * (renL a b n)[n - 1 - j]?.getD 0) = _
  congr 1
  unfold sumTo
  congr 1
  refine List.map_congr_left fun j hj => ?_
  have := List.mem_range.mp hj
  rw [renL_at a b (show n - 1 - j < n by omega)]
def qa (xs : List RT) (j : Nat) : Rat := match xs[j]? with
  | some x => qv x
  | none => 0
theorem qa_at {xs : List RT} {j : Nat} {x : RT} (h : xs[j]? = some x) : qa xs j = qv x := by
  unfold qa
  rw [h]
def getI (xs : List Int) (j : Nat) : Int := xs[j]?.getD 0
theorem getI_at {xs : List Int} {j : Nat} (h : j < xs.length) : xs[j]? = some (getI xs j) := by
  unfold getI
  rw [List.getElem?_eq_getElem h]
  rfl
theorem CMulA.of {n m : Nat} {a b : Int} (ha : Sm n a) (hb : Sm m b) (hn : 0 < n) (hm : 0 < m) (h : n + m ≤ 1000000) : CMulA a b := by
  unfold CMulA
  have := ha.log hn
  have := hb.log hm
  omega
theorem sum_sm {e : Nat} : ∀ {xs : List Int}, (∀ x ∈ xs, Sm e x) → xs.length ≤ 32 → Sm (e + 6) xs.sum := by
  have key : ∀ {xs : List Int}, (∀ x ∈ xs, Sm e x) → xs.sum.natAbs ≤ xs.length * 2 ^ e := by
    intro xs
    induction xs with
    | nil =>
      intro _
      simp
    | cons x r ih =>
      intro h
      have h1 := h x (List.mem_cons_self ..)
      have h2 := ih fun y hy => h y (List.mem_cons_of_mem _ hy)
      rw [List.sum_cons, List.length_cons, Nat.add_mul]
      unfold Sm at h1
      have := Int.natAbs_add_le x r.sum
      omega
  intro xs h hl
  have h1 := key h
  unfold Sm
  have h2 : xs.length * 2 ^ e ≤ 32 * 2 ^ e := Nat.mul_le_mul_right _ hl
  have h3 : 2 ^ (e + 6) = 64 * 2 ^ e := by rw [Nat.pow_add, Nat.mul_comm]
  have h4 : 0 < 2 ^ e := Nat.pow_pos (by decide)
  omega
/-- the sums as the program has them -/
structure SOk (a b : Nat → Rat) (c c2 : Int) (u i : Nat) (ss : List Int) : Prop where
  len : ss.length = i
  val : ∀ j, j < i → ((getI ss j : Int) : Rat) = (c2 : Rat) * (c : Rat) ^ j * renQ a b j
  sm : ∀ j, j < i → Sm ((2 * u + 8) * (j + 1)) (getI ss j)
def partI (tp ss : List Int) (c : Int) (i j : Nat) : Int := getI tp j * c ^ j * getI ss (i - 1 - j)
theorem sumTo_cast (f : Nat → Int) (n : Nat) : ((((List.range n).map f).sum : Int) : Rat) = sumTo n fun j => ((f j : Int) : Rat) := by
  unfold sumTo
  induction n with
  | zero => rfl
  | succ n ih =>
    rw [List.range_succ, List.map_append, List.map_append, List.sum_append, Rat.intCast_add, ih]
    simp only [List.map_cons, List.map_nil]
    rw [sum_snoc]
    congr 1
    simp
theorem sumTo_mul (k : Rat) (f : Nat → Rat) (n : Nat) : k * sumTo n f = sumTo n fun j => k * f j := by
  unfold sumTo
  induction n with
  | zero =>
    show k * 0 = 0
    grind
  | succ n ih =>
    rw [List.range_succ, List.map_append, List.map_append]
    simp only [List.map_cons, List.map_nil]
    rw [sum_snoc, sum_snoc, ← ih]
    grind
theorem sumTo_congr {n : Nat} {f g : Nat → Rat} (h : ∀ j, j < n → f j = g j) : sumTo n f = sumTo n g := by
  unfold sumTo
  congr 1
  exact List.map_congr_left fun j hj => h j (List.mem_range.mp hj)
theorem cast_pow (c : Int) : ∀ j : Nat, ((c ^ j : Int) : Rat) = (c : Rat) ^ j
  | 0 => by
    rw [Int.pow_zero, Rat.pow_zero]
    rfl
  | j + 1 => by rw [Int.pow_succ, Rat.pow_succ, Rat.intCast_mul, cast_pow c j]
theorem pow_plus (c : Rat) (m : Nat) : ∀ n : Nat, c ^ (m + n) = c ^ m * c ^ n
  | 0 => by
    rw [Rat.pow_zero, Nat.add_zero]
    grind
  | n + 1 => by
    rw [← Nat.add_assoc, Rat.pow_succ, Rat.pow_succ, pow_plus c m n]
    grind
theorem SOk.step {a b : Nat → Rat} {c c2 tt : Int} {u i : Nat} {ss tp : List Int} (h : SOk a b c c2 u i ss) (hc : (c : Rat) ≠ 0) (ht : ((tt : Int) : Rat) = (c2 : Rat) * b i) (ha : ∀ j, j < i → ((getI tp j : Int) : Rat) = (c : Rat) * a j)
    (su : 0 < u) (st : Sm u tt) (sc : Sm u c) (sp : ∀ j, j < i → Sm u (getI tp j)) (hi : i ≤ 32) : SOk a b c c2 u (i + 1) (ss ++ [tt * c ^ i + ((List.range i).map (partI tp ss c i)).sum]) := by
  have old : ∀ j, j < i → ∀ x, getI (ss ++ [x]) j = getI ss j := fun j hj x => by
    unfold getI
    rw [List.getElem?_append_left (by rw [h.len]; exact hj)]
  have new : ∀ x, getI (ss ++ [x]) i = x := fun x => by
    unfold getI
    rw [List.getElem?_append_right (by rw [h.len]; exact Nat.le_refl _), h.len, Nat.sub_self]
    rfl
  refine ⟨by rw [List.length_append, h.len]; rfl, fun j hj => ?_, fun j hj => ?_⟩
  · rcases (by omega : j < i ∨ j = i) with z | z
    · rw [old j z]
      exact h.val j z
    · subst z
      rw [new, Rat.intCast_add, Rat.intCast_mul, sumTo_cast, cast_pow, ht, renQ_is a b j]
      have e : (sumTo j fun k => ((partI tp ss c j k : Int) : Rat)) = (c2 : Rat) * (c : Rat) ^ j * sumTo j fun k => a k * renQ a b (j - 1 - k) := by
        rw [sumTo_mul]
        refine sumTo_congr fun k hk => ?_
        unfold partI
        rw [Rat.intCast_mul, Rat.intCast_mul, cast_pow, ha k hk, h.val (j - 1 - k) (by omega)]
        have e2 : (c : Rat) ^ j = (c : Rat) * (c : Rat) ^ k * (c : Rat) ^ (j - 1 - k) := by
          have : j = (k + (j - 1 - k)) + 1 := by omega
          conv => lhs; rw [this]
          rw [Rat.pow_succ, pow_plus]
          grind
        rw [e2]
        grind
      rw [e]
      grind
  · rcases (by omega : j < i ∨ j = i) with z | z
    · rw [old j z]
      exact h.sm j z
    · subst z
      rw [new]
      have hU : ∀ k, k < j → Sm (u + 1 + (2 * u + 8) * j) (partI tp ss c j k) := fun k hk => by
        unfold partI
        have h1 := ((sp k hk).mul (sm_pow sc su k)).mul (h.sm (j - 1 - k) (by omega))
        refine h1.mono ?_
        have e1 : j - 1 - k + 1 = j - k := by omega
        rw [e1]
        have e2 : (2 * u + 8) * j = (2 * u + 8) * (j - k) + (2 * u + 8) * k := by rw [← Nat.mul_add]; congr 1; omega
        rw [e2]
        have e3 : u * k ≤ (2 * u + 8) * k := Nat.mul_le_mul_right _ (by omega)
        omega
      have s1 : Sm (u + 1 + (2 * u + 8) * j + 6) ((List.range j).map (partI tp ss c j)).sum := by
        refine sum_sm (fun x hx => ?_) (by rw [List.length_map, List.length_range]; exact hi)
        obtain ⟨k, hk, rfl⟩ := List.mem_map.mp hx
        exact hU k (List.mem_range.mp hk)
      have s2 : Sm (u + 1 + (2 * u + 8) * j + 6) (tt * c ^ j) := by
        refine (st.mul (sm_pow sc su j)).mono ?_
        have e3 : u * j ≤ (2 * u + 8) * j := Nat.mul_le_mul_right _ (by omega)
        omega
      have s3 := s2.add s1
      refine s3.mono ?_
      rw [Nat.mul_add]
      omega

end Fp

set_option Elab.async false
set_option linter.all false
set_option maxRecDepth 100000
set_option maxHeartbeats 4000000
set_option exponentiation.threshold 10000
namespace Fp
open PySem PySem.Spec PyProof.Rows L2
/-! ### renewed -/
abbrev s_ren : Stmt := topS 15
abbrev N_ren : List Str := ["chances", "told", "tops", "bottom", "told_tops", "told_bottom", "powers", "sums", "n", "told_top", "parts", "k", "total", "power"]
theorem sc_ren : FnScope N_ren ["chances", "told"] (defScope s_ren) := ⟨rfl, rfl, rfl, by decide +kernel, rfl, by decide +kernel, by decide +kernel⟩
def powL (c : Int) (m : Nat) : List Int := (List.range m).map fun j => c ^ j
theorem powL_len {c : Int} {m : Nat} : (powL c m).length = m := by
  unfold powL
  rw [List.length_map, List.length_range]
theorem powL_at {c : Int} {m j : Nat} (h : j < m) : (powL c m)[j]? = some (c ^ j) := by
  unfold powL
  rw [List.getElem?_map, List.getElem?_range h]
  rfl
theorem powL_succ {c : Int} {m : Nat} : powL c (m + 1) = powL c m ++ [c ^ m] := by
  unfold powL
  rw [List.range_succ, List.map_append]
  rfl
theorem tops_len {c : Int} {xs : List RT} : (topsOn c xs).length = xs.length := by
  unfold topsOn
  rw [List.length_map]
theorem tops_get {c : Int} {xs : List RT} {j : Nat} {x : RT} (h : xs[j]? = some x) : getI (topsOn c xs) j = x.1 * (c / x.2) := by
  unfold getI topsOn
  rw [List.getElem?_map, h]
  rfl
theorem tops_val {c : Int} (hc : 0 < c) {xs : List RT} {j : Nat} (hj : j < xs.length) (h : ∀ x ∈ xs, 0 < x.2 ∧ x.2 ∣ c) : ((getI (topsOn c xs) j : Int) : Rat) = (c : Rat) * qa xs j := by
  have hg : xs[j]? = some xs[j] := List.getElem?_eq_getElem hj
  obtain ⟨h1, h2⟩ := h _ (List.getElem_mem hj)
  rw [tops_get hg, qa_at hg, qv_over h1 h2 hc]
  have := cast_ne (Int.ne_of_gt hc)
  grind
theorem tops_each {n d : Nat} {c D : Int} (hD : 0 < D) (hcD : c ∣ D) (sD : Sm d D) {xs : List RT} {j : Nat} (hj : j < xs.length) (h : ∀ x ∈ xs, Sm n x.1) : Sm (n + d) (getI (topsOn c xs) j) := by
  have hg : xs[j]? = some xs[j] := List.getElem?_eq_getElem hj
  rw [tops_get hg]
  have sc : Sm d c := dvd_small hcD hD sD
  have sq : Sm d (c / xs[j].2) := by
    unfold Sm at *
    have a : (c / xs[j].2).natAbs ≤ c.natAbs := Int.natAbs_ediv_le_natAbs ..
    omega
  exact (h _ (List.getElem_mem hj)).mul sq
theorem upd_int {H : Hp} {l : Addr} {xs : List Int} {x : Int} : upd H l (.lst (xs.map V.int ++ [.int x])) l = some (.lst ((xs ++ [x]).map V.int)) := by
  rw [upd_same, List.map_append]
  rfl
section
variable {P : Program} {w : World} {K : PySem.W.Frag} {mg : Str → Option Value} {base : Heap}
def spRen (K : PySem.W.Frag) : Sp := fun vs H Q _ => ∃ (p t : Addr) (chs tld : List RT) (n1 d1 n2 d2 : Nat) (D1 D2 : Int), vs = [.ref p, .ref t] ∧ LstAt K H p chs ∧ LstAt K H t tld ∧ Over1 n1 d1 D1 chs ∧ Over1 n2 d2 D2 tld ∧ n1 ≤ 2000 ∧ d1 ≤ 300 ∧ n2 ≤ 2000 ∧ d2 ≤ 300 ∧ tld.length ≤ 22 ∧ tld.length ≤ chs.length + 1 ∧
  ∀ z rs H', Same H H' → H' z = some (.lst (rs.map V.ref)) → RsAt K H' rs ((List.range tld.length).map fun i => rdq (renQ (qa chs) (qa tld) i)) → Q (.ref z) H'
theorem ok_ren {f fO fR : Addr} {fd fdO fdR : FuncData} (F : Fun K "renewed" "renewed" s_ren f fd) (FO : Fun K "on_one_bottom" "on_one_bottom" s_oob fO fdO) (bO : Binds K fdO ["told"] []) (gO : mg "on_one_bottom" = some (.ref fO)) (GO : FnOk P w K mg base CX0 2 fO fdO ["told"] (spOob K))
    (FR : Fun K "ratio" "ratio" s_ratio fR fdR) (bR : Binds K fdR ["top", "bottom"] []) (gR : mg "ratio" = some (.ref fR)) (GR : FnOk P w K mg base CX0 2 fR fdR ["top", "bottom"] spRat0) (me : mg "enumerate" = none) (mr : mg "range" = none) (ms : mg "sum" = none) (mz : mg "zip" = none) : FnOk P w K mg base CX0 3 f fd ["chances", "told"] (spRen K) := by
  refine F.ok sc_ren (fun vs H Q E h => ?_) (fun cdv A outer s H vs Q E hr h => ?_)
  · obtain ⟨_, _, _, _, _, _, _, _, _, _, rfl, _⟩ := h
    rfl
  · obtain ⟨p, t, chs, tld, n1, d1, n2, d2, D1, D2, rfl, hp, ht, O1, O2, hn1, hd1, hn2, hd2, hl1, hl2, q⟩ := h
    refine ⟨_, (pss_cons (ps_asg (pe_call GO hr (by rfl) gO FO.kp bO .nil pass0 (pa_cons (pv 0) pa_nil)) (pg_tup rfl (pgs_cons (pg_name (i := 2) sc_ren.nd rfl (.inr rfl)) (pgs_cons (pg_name (i := 3) sc_ren.nd rfl (.inl rfl)) pgs_nil)))) (pss_cons (ps_asg (pe_call GO hr (by rfl) gO FO.kp bO .nil pass0 (pa_cons (pv 1) pa_nil)) (pg_tup rfl (pgs_cons (pg_name (i := 4) sc_ren.nd rfl (.inl rfl)) (pgs_cons (pg_name (i := 5) sc_ren.nd rfl (.inr rfl)) pgs_nil)))) (pss_cons (ps_set (i := 6) sc_ren.nd rfl (.inr rfl) (pe_lst (pa_cons pe_int pa_nil))) (pss_cons (ps_set (i := 7) sc_ren.nd rfl (.inr rfl) (pe_lst pa_nil)) (pss_mid (ps_for PassesOwn.never rfl (pi_enum (by rfl) me (pa_cons (pv 4) pa_nil)) (pg_tup rfl (pgs_cons (pg_name (i := 8) sc_ren.nd rfl (.inr rfl)) (pgs_cons (pg_name (i := 9) sc_ren.nd rfl (.inl rfl)) pgs_nil)))
          (pss_mid (ps_setLc (i := 10) (own := [("k", 11)]) (g := gName 11) (tt := tYes) (te := tOp (rI CMulA fun i j => .int (i * j)) (tOp (rI CMulA fun i j => .int (i * j)) (tOp (rIxL K) (tVar 2) (tOp (rI0 fun i j => .int (i - j)) (tVar 11) (tC (.int 1)))) (tOp (rIxL K) (tVar 6) (tOp (rI0 fun i j => .int (i - j)) (tVar 11) (tC (.int 1))))) (tOp (rIxL K) (tVar 7) (tOp (rI0 fun i j => .int (i - j)) (tVar 8) (tVar 11)))) rfl sc_ren.nd rfl rfl (sw_true rfl rfl rfl (by decide +kernel)) (pi_range2 (by rfl) mr (pa_cons pe_int (pa_cons (pe_op op_add (pv 8) pe_int) pa_nil)))
                (blkOk_by (own := [("k", 11)]) (N := N_ren) (sc := defScope s_ren) (by decide +kernel)) (fun _ _ _ _ _ => pg_name (i := 11) sc_ren.nd rfl (.inl rfl)) (fun _ _ _ _ _ => pts_nil)
                (fun _ _ _ _ _ => pe_op op_mulA (pe_op op_mulA (pe_ix ix_list (pv 2) (pe_op op_sub (pv 11) pe_int) (fun _ _ => rfl)) (pe_ix ix_list (pv 6) (pe_op op_sub (pv 11) pe_int) (fun _ _ => rfl))) (pe_ix ix_list (pv 7) (pe_op op_sub (pv 8) (pv 11)) (fun _ _ => rfl)))) (pss_cons (ps_expr (pe_bm PySem.F.plainAttrs_list PySem.F.slot_list_append PySem.F.type_list_append mt_append (pv 7) (pa_cons (pe_op op_add (pe_op op_mulA (pv 9) (pe_ix ix_list (pv 6) (pv 8) (fun _ _ => rfl))) (pe_callB (cr_sum rfl) (by rfl) ms (by decide +kernel) (pa_cons (pv 10) pa_nil))) pa_nil))) (pss_one (ps_expr (pe_bm PySem.F.plainAttrs_list PySem.F.slot_list_append PySem.F.type_list_append mt_append (pv 6) (pa_cons (pe_op op_mulA (pe_ix ix_list (pv 6) (pv 8) (fun _ _ => rfl)) (pv 3)) pa_nil))))))) (pss_one (ps_ret (pe_lc (own := [("total", 12), ("power", 13)]) (g := gTup K 2 (gCons (gName 12) (gCons (gName 13) gNil))) (tt := tYes) (te := tCall spRat0 [] E0 (tCons (tVar 12) (tCons (tOp (rI CMulA fun i j => .int (i * j)) (tVar 5) (tVar 13)) tNil))) rfl sc_ren.nd (pi_zip (by rfl) mz (pa_cons (pv 7) (pa_cons (pv 6) pa_nil))) (blkOk_by (own := [("total", 12), ("power", 13)]) (N := N_ren) (sc := defScope s_ren) (by decide +kernel))
          (fun _ _ _ _ _ => pg_tup rfl (pgs_cons (pg_name (i := 12) sc_ren.nd rfl (.inl rfl)) (pgs_cons (pg_name (i := 13) sc_ren.nd rfl (.inl rfl)) pgs_nil))) (fun _ _ _ _ _ => pts_nil) (fun _ _ _ _ _ => pe_call GR hr (by rfl) gR FR.kp bR .nil pass0 (pa_cons (pv 12) (pa_cons (pe_op op_mulA (pv 5) (pv 13)) pa_nil))))))))))), ?_⟩
    refine ⟨_, rfl, p, chs, n1, d1, D1, rfl, hp, O1, by omega, by omega, fun z1 zl c H1 s1 hz1 hzl c0 cD hc => ?_⟩
    refine ⟨z1, _, rfl, SqT.of hz1, rfl, _, _, rfl, _, _, rfl, rfl, ?_⟩
    refine ⟨_, rfl, t, tld, n2, d2, D2, rfl, ht.same s1, O2, by omega, by omega, fun z2 zt c2 H2 s2 hz2 hzt c20 c2D hc2 => ?_⟩
    refine ⟨z2, _, rfl, SqT.of hz2, rfl, _, _, rfl, _, _, rfl, rfl, ?_⟩
    have hzl2 := s2 _ _ hzl
    refine ⟨by show 1 ≤ sizeLine; decide, fun pw npw => ?_⟩
    have e3 := same_new (o := HO.lst [.int 1]) npw
    refine ⟨by show 0 ≤ sizeLine; decide, fun ls nls => ?_⟩
    have e4 := same_new (o := HO.lst []) nls
    have nls2 : H2 ls = none := e3.free nls
    have hne : ls ≠ pw := fun z => by
      rw [z, upd_same] at nls
      cases nls
    have sc1 : Sm d1 c := dvd_small cD O1.pos O1.sm
    have hcR := cast_ne (Int.ne_of_gt c0)
    have sc2 : Sm d2 c2 := dvd_small c2D O2.pos O2.sm
    have sc : Sm 2300 c := sc1.mono (by omega)
    have hok1 : ∀ x ∈ chs, 0 < x.2 ∧ x.2 ∣ c := fun x hx => ⟨(O1.ok x hx).1, hc x hx⟩
    have hok2 : ∀ x ∈ tld, 0 < x.2 ∧ x.2 ∣ c2 := fun x hx => ⟨(O2.ok x hx).1, hc2 x hx⟩
    have stp : ∀ j, j < chs.length → Sm 2300 (getI (topsOn c chs) j) := fun j hj => (tops_each O1.pos cD O1.sm hj fun x hx => (O1.ok x hx).2.2).mono (by omega)
    have stt : ∀ j, j < tld.length → Sm 2300 (getI (topsOn c2 tld) j) := fun j hj => (tops_each O2.pos c2D O2.sm hj fun x hx => (O2.ok x hx).2.2).mono (by omega)
    have spw : ∀ j, j ≤ 22 → Sm 51000 (c ^ j) := fun j hj => (sm_pow sc (by decide) j).mono (by
      have : 2300 * j ≤ 2300 * 22 := Nat.mul_le_mul_left _ hj
      omega)
    -- the loop
    refine ⟨fun σ HB => ∃ (z8 z9 z10 : Option V) (ss : List Int), σ = [some (.ref p), some (.ref t), some (.ref zl), some (.int c), some (.ref zt), some (.int c2), some (.ref pw), some (.ref ls), z8, z9, z10, none, none, none] ∧ Same H2 HB ∧ HB pw = some (.lst ((powL c (tld.length + 1)).map V.int)) ∧ HB ls = some (.lst (ss.map V.int)) ∧ SOk (qa chs) (qa tld) c c2 2300 tld.length ss, ?_, ?_⟩
    · refine ⟨_, rfl, zt, _, rfl, SqL.of ((e3.trans e4) _ _ hzt), ?_⟩
      refine for_it (walk_enum (K := K) (a := zt) (xs := (topsOn c2 tld).map V.int)) (fun i σ HB => ∃ (z8 z9 z10 : Option V) (ss : List Int), σ = [some (.ref p), some (.ref t), some (.ref zl), some (.int c), some (.ref zt), some (.int c2), some (.ref pw), some (.ref ls), z8, z9, z10, none, none, none] ∧ Same H2 HB ∧ HB pw = some (.lst ((powL c (i + 1)).map V.int)) ∧ HB ls = some (.lst (ss.map V.int)) ∧ SOk (qa chs) (qa tld) c c2 2300 i ss) ?_ ?_ ?_ ?_
      · refine ⟨none, none, none, [], rfl, e3.trans e4, ?_, upd_same, ⟨rfl, fun j hj => absurd hj (Nat.not_lt_zero _), fun j hj => absurd hj (Nat.not_lt_zero _)⟩⟩
        have e0 : powL c (0 + 1) = [1] := by
          rw [powL_succ, Int.pow_zero]
          rfl
        rw [upd_ne hne.symm, upd_same, e0]
        rfl
      · rintro i σ HB _ ⟨_, _, _, _, _, sB, _⟩
        exact SqL.of (sB _ _ hzt)
      · rintro i x σ HB HB' hi ⟨z8, z9, z10, ss, rfl, sB, hpw, hls, ok⟩ ⟨T, x1, x2, rfl, nT, rfl, ex1, ex2⟩
        dsimp only at ex1 ex2
        cases Option.some.inj ex1
        have hi2 : i < tld.length := by
          rw [List.length_map, tops_len] at hi
          exact hi
        rw [List.getElem?_map, getI_at (by rw [tops_len]; exact hi2)] at ex2
        cases Option.some.inj ex2
        have eT := same_new (o := HO.tup [.int (i : Nat), .int (getI (topsOn c2 tld) i)]) nT
        refine ⟨T, _, rfl, SqT.of upd_same, rfl, _, _, rfl, _, _, rfl, rfl, ?_⟩
        have hpw1 := eT _ _ hpw
        have hls1 := eT _ _ hls
        have sB1 := sB.trans eT
        generalize upd HB T (HO.tup [.int (i : Nat), .int (getI (topsOn c2 tld) i)]) = HC at *
        have hsl := ok.len
        -- parts
        refine ⟨fun σ HD => ∃ D : Addr, σ = [some (.ref p), some (.ref t), some (.ref zl), some (.int c), some (.ref zt), some (.int c2), some (.ref pw), some (.ref ls), some (.int (i : Nat)), some (.int (getI (topsOn c2 tld) i)), some (.ref D), none, none, none] ∧ Same HC HD ∧ HD D = some (.lst (((List.range i).map (partI (topsOn c chs) ss c i)).map V.int)), ?_, ?_⟩
        · refine ⟨_, rfl, _, 1, rfl, rfl, 1, _, rfl, ⟨by decide, by decide, by show -(2 ^ 62) ≤ ((i : Nat) : Int) + 1; omega, by show ((i : Nat) : Int) + 1 < 2 ^ 62; omega⟩, fun D nD => ?_⟩
          have eD := same_new (o := HO.lst []) nD
          have en : ((((i : Nat) : Int) + 1) - 1).toNat = i := by omega
          refine lc_range (lo := 1) (n := ((((i : Nat) : Int) + 1) - 1).toNat) (fun j HD => Same HC HD ∧ HD D = some (.lst (((List.range j).map (partI (topsOn c chs) ss c i)).map V.int))) ⟨eD, upd_same⟩ ?_ ?_
          · rintro j HD hj ⟨sD, hD⟩
            have hj2 : j < i := by omega
            have g1 : ((topsOn c chs).map V.int)[j]? = some (.int (getI (topsOn c chs) j)) := by
              rw [List.getElem?_map, getI_at (by rw [tops_len]; omega)]
              rfl
            have g2 : ((powL c (i + 1)).map V.int)[j]? = some (.int (c ^ j)) := by
              rw [List.getElem?_map, powL_at (by omega)]
              rfl
            have g3 : (ss.map V.int)[i - 1 - j]? = some (.int (getI ss (i - 1 - j))) := by
              rw [List.getElem?_map, getI_at (by rw [hsl]; omega)]
              rfl
            refine ⟨rfl, tYes_go ?_⟩
            refine iteT ?_
            refine ⟨_, rfl, _, rfl, _, 1, rfl, rfl, zl, _, _, _, rfl, rfl, SqL.of ((sB1.trans sD) _ _ hzl2), at_of (by show (1 : Int) + (j : Int) - 1 = _; omega) g1, ?_⟩
            refine ⟨_, rfl, _, rfl, _, 1, rfl, rfl, pw, _, _, _, rfl, rfl, SqL.of (sD _ _ hpw1), at_of (by show (1 : Int) + (j : Int) - 1 = _; omega) g2, ?_⟩
            refine ⟨_, _, rfl, rfl, (stp j (by omega)).cmul (spw j (by omega)) (by decide) (by decide) (by decide), ?_⟩
            refine ⟨_, rfl, _, rfl, _, rfl, _, _, rfl, rfl, ls, _, _, _, rfl, rfl, SqL.of (sD _ _ hls1), at_of (by show ((i : Nat) : Int) - ((1 : Int) + (j : Int)) = _; omega) g3, ?_⟩
            refine ⟨_, _, rfl, rfl, (((stp j (by omega)).mul (spw j (by omega))).mono (show 2300 + 51000 ≤ 60000 by decide)).cmul ((ok.sm (i - 1 - j) (by omega)).mono (show _ ≤ 110000 by
              have : (2 * 2300 + 8) * (i - 1 - j + 1) ≤ 4608 * 22 := Nat.mul_le_mul (by decide) (by omega)
              omega)) (by decide) (by decide) (by decide), ?_⟩
            refine ⟨_, hD, by rw [List.length_map, List.length_map, List.length_range]; exact small1000 (by omega), ?_, ?_⟩
            · intro b2 o hb2
              rw [upd_ne (ne_of_none hb2 nD)]
              exact sD _ _ hb2
            · rw [List.range_succ, List.map_append]
              exact upd_int
          · rintro HD ⟨sD, hD⟩
            rw [en] at hD
            exact ⟨D, rfl, sD, hD⟩
        rintro σ HD ⟨D, rfl, sD, hD⟩
        have hpw2 := sD _ _ hpw1
        have hls2 := sD _ _ hls1
        have gp : ((powL c (i + 1)).map V.int)[i]? = some (.int (c ^ i)) := by
          rw [List.getElem?_map, powL_at (by omega)]
          rfl
        refine ⟨_, rfl, .inl ⟨rfl, _, SqL.of hls2⟩, ?_⟩
        refine ⟨_, rfl, _, rfl, _, rfl, pw, _, _, _, rfl, rfl, SqL.of hpw2, at_of rfl gp, ?_⟩
        refine ⟨_, _, rfl, rfl, (stt i hi2).cmul (spw i (by omega)) (by decide) (by decide) (by decide), ?_⟩
        refine ⟨_, rfl, D, _, rfl, SqL.of hD, _, _, rfl, rfl, ?_⟩
        refine ⟨ls, _, _, rfl, rfl, hls2, by rw [List.length_map, hsl]; exact small1000 (by omega), ?_⟩
        have hpw3 : upd HD ls (.lst (ss.map V.int ++ [.int (getI (topsOn c2 tld) i * c ^ i + ((List.range i).map (partI (topsOn c chs) ss c i)).sum)])) pw = some (.lst ((powL c (i + 1)).map V.int)) := by
          rw [upd_ne hne.symm]
          exact hpw2
        refine ⟨_, rfl, .inl ⟨rfl, _, SqL.of hpw3⟩, ?_⟩
        refine ⟨_, rfl, _, rfl, pw, _, _, _, rfl, rfl, SqL.of hpw3, at_of rfl gp, _, rfl, ?_⟩
        refine ⟨_, _, rfl, rfl, (spw i (by omega)).cmul sc (by decide) (by decide) (by decide), ?_⟩
        refine ⟨pw, _, _, rfl, rfl, hpw3, by rw [List.length_map, powL_len]; exact small1000 (by omega), ?_⟩
        refine ⟨_, _, _, ss ++ [getI (topsOn c2 tld) i * c ^ i + ((List.range i).map (partI (topsOn c chs) ss c i)).sum], rfl, ?_, ?_, ?_, ?_⟩
        · intro b2 o hb2
          rw [upd_ne (ne_of_none hb2 npw), upd_ne (ne_of_none hb2 nls2)]
          exact (sB1.trans sD) _ _ hb2
        · rw [powL_succ (m := i + 1), Int.pow_succ]
          exact upd_int
        · rw [upd_ne hne]
          exact upd_int
        · exact ok.step hcR (tops_val c20 hi2 hok2) (fun j hj => tops_val c0 (by omega) hok1) (by decide) (stt i hi2) sc (fun j hj => stp j (by omega)) (by omega)
      · rintro σ HB ⟨z8, z9, z10, ss, rfl, sB, hpw, hls, ok⟩
        rw [List.length_map, tops_len] at hpw ok
        exact ⟨z8, z9, z10, ss, rfl, sB, hpw, hls, ok⟩
    rintro σ HB ⟨z8, z9, z10, ss, rfl, sB, hpw, hls, ok⟩
    -- told
    have hsl := ok.len
    refine ⟨_, rfl, _, rfl, ls, pw, _, _, rfl, SqL.of hls, SqL.of hpw, fun D nD => ?_⟩
    have eD := same_new (o := HO.lst []) nD
    refine lc_it (walk_zip (K := K) (a := ls) (b := pw) (xs := ss.map V.int) (ys := (powL c (tld.length + 1)).map V.int) (n := tld.length) (by rw [List.length_map, List.length_map, powL_len, hsl]; omega)) (fun i HC => ∃ rs : List Addr, Same HB HC ∧ HC D = some (.lst (rs.map V.ref)) ∧ RsAt K HC rs ((List.range i).map fun i => rdq (renQ (qa chs) (qa tld) i))) ⟨[], eD, upd_same, .nil⟩ ?_ ?_ ?_
    · rintro i HC _ ⟨_, sC, _⟩
      exact ⟨SqL.of (sC _ _ hls), SqL.of (sC _ _ hpw)⟩
    · rintro i x HC HC' hi ⟨rs, sC, hD, hrs⟩ ⟨T, x1, x2, rfl, nT, rfl, ex1, ex2⟩
      dsimp only at ex1 ex2
      rw [List.getElem?_map, getI_at (by rw [hsl]; exact hi)] at ex1
      cases Option.some.inj ex1
      rw [List.getElem?_map, powL_at (by omega)] at ex2
      cases Option.some.inj ex2
      have eT := same_new (o := HO.tup [.int (getI ss i), .int (c ^ i)]) nT
      refine ⟨T, _, rfl, SqT.of upd_same, rfl, _, _, rfl, _, _, rfl, rfl, rfl, tYes_go ?_⟩
      refine iteT ?_
      have hci : (0 : Int) < c ^ i := Int.pow_pos c0
      have hden : (0 : Int) < c2 * c ^ i := Int.mul_pos c20 hci
      refine ⟨_, rfl, _, rfl, _, rfl, _, _, rfl, rfl, (sc2.mono (show d2 ≤ 300 + 1 by omega)).cmul (spw i (by omega)) (by decide) (by decide) (by decide), ?_⟩
      have hb8 : (c2 * c ^ i).natAbs < 2 ^ 8000 := by
        have h1 := sc2.mul (sm_pow (sc1.mono (show d1 ≤ 300 by exact hd1)) (by decide) i)
        refine h1.mono (m := 8000) ?_
        have : 300 * i ≤ 300 * 22 := Nat.mul_le_mul_left _ (by omega)
        omega
      refine ⟨_, _, rfl, hb8, Int.ne_of_gt hden, fun z nz => ?_⟩
      have ez := same_new (o := HO.tup [.int (ratT (getI ss i) (c2 * c ^ i)), .int (ratB (getI ss i) (c2 * c ^ i))]) nz
      have ex : low2 (getI ss i) (c2 * c ^ i) = rdq (renQ (qa chs) (qa tld) i) := by
        refine is_rdq (low2_red (Int.ne_of_gt hden)) ?_
        rw [qv_low2 hden, ok.val i hi, Rat.intCast_mul, cast_pow]
        have h1 := cast_ne (Int.ne_of_gt c20)
        have h2 := cast_ne (Int.ne_of_gt hci)
        rw [cast_pow] at h2
        grind
      have hl := hrs.length
      rw [List.length_map, List.length_range] at hl
      have hD2 := (eT.trans ez) _ _ hD
      refine ⟨_, hD2, by rw [List.length_map, hl]; exact small1000 (by omega), rs ++ [z], ?_, ?_, ?_⟩
      · intro b2 o hb2
        rw [upd_ne (ne_of_none hb2 nD)]
        exact (eT.trans ez) _ _ (sC _ _ hb2)
      · rw [upd_same, List.map_append]
        rfl
      · rw [List.range_succ, List.map_append]
        refine ((hrs.tk (Tk.same (eT.trans ez))).append (.cons ?_ .nil)).tk (tk_lst hD2)
        show RAt K _ z (rdq (renQ (qa chs) (qa tld) i))
        rw [← ex]
        exact SqT.of upd_same
    · rintro HC ⟨rs, sC, hD, hrs⟩
      exact q D rs HC (s1.trans (s2.trans (sB.trans sC))) hD hrs
end

end Fp

set_option Elab.async false
set_option linter.all false
set_option maxRecDepth 100000
set_option maxHeartbeats 4000000
set_option exponentiation.threshold 10000
namespace Fp
open PySem PySem.Spec PyProof.Rows L2
/-! ### chances of drawn lives stand over a small number -/
theorem ch_dvdW {row : List RT} {step x : RT} {n i most : Nat} {W : Int} (hW : ∀ y ∈ row, y.2 ∣ W) (hr : ∀ y ∈ row, SmR n y) (hs : Red step) (hx : Red x) (h : qv x = chR row step i) (hi : i < most) : x.2 ∣ W * step.2 ^ most := by
  match e : row[i]? with
  | some y =>
    have hy := List.mem_of_getElem? e
    have ex : x = y := qv_inj hx (hr y hy).1 (h.trans (chR_in e))
    rw [ex]
    exact Int.dvd_trans (hW y hy) (Int.dvd_mul_right ..)
  | none =>
    have hle : row.length ≤ i := List.getElem?_eq_none_iff.mp e
    match el : row.getLast? with
    | none =>
      have er : row = [] := List.getLast?_eq_none_iff.mp el
      rw [er, chR_nil] at h
      have ex : x = (0, 1) := qv_inj hx ⟨by decide, by decide⟩ (by rw [h, qv_nought])
      rw [ex]
      exact Int.one_dvd _
    | some l =>
      have hl : l ∈ row := List.mem_of_getLast? el
      have hl0 := (hr l hl).1
      rw [chR_out hle el] at h
      obtain ⟨j, ej, hj⟩ : ∃ j, i + 1 - row.length = j ∧ j ≤ most := ⟨_, rfl, by omega⟩
      rw [ej] at h
      have key : ∀ j : Nat, qv l * qv step ^ j = ((l.1 * step.1 ^ j : Int) : Rat) / ((l.2 * step.2 ^ j : Int) : Rat) := by
        intro j
        induction j with
        | zero =>
          rw [Rat.pow_zero, Int.pow_zero, Int.pow_zero, Int.mul_one, Int.mul_one]
          unfold qv
          grind
        | succ j ih =>
          have h1 := cast_ne (Int.ne_of_gt hs.1)
          have h2 := cast_ne (Int.ne_of_gt (Int.mul_pos hl0.1 (show (0 : Int) < step.2 ^ j from Int.pow_pos hs.1)))
          rw [Rat.pow_succ, ← Rat.mul_assoc, ih, Int.pow_succ, Int.pow_succ, ← Int.mul_assoc, ← Int.mul_assoc, Rat.intCast_mul (l.1 * step.1 ^ j), Rat.intCast_mul (l.2 * step.2 ^ j)]
          unfold qv
          grind
      rw [key j] at h
      obtain ⟨d1, _⟩ := red_small hx (Int.mul_pos hl0.1 (Int.pow_pos hs.1)) h
      refine Int.dvd_trans d1 ?_
      obtain ⟨u, hu⟩ := hW l hl
      refine ⟨u * step.2 ^ (most - j), ?_⟩
      rw [hu, show most = j + (most - j) by omega, Int.pow_add, Nat.add_sub_cancel_left]
      rw [Int.mul_assoc l.2 u, ← Int.mul_assoc u, Int.mul_comm u (step.2 ^ j), Int.mul_assoc (step.2 ^ j), ← Int.mul_assoc l.2]
/-- one small number under a whole row -/
structure WOk (W : Int) (row : List RT) : Prop where
  pos : 0 < W
  sm : Sm 46 W
  dvd : ∀ y ∈ row, y.2 ∣ W
theorem over_chW {row : List RT} {step : RT} {n most : Nat} {chs : List RT} {W : Int} (hW : WOk W row) (hr : ∀ y ∈ row, SmR n y) (hs : SmR 5 step) (hm : most ≤ 20) (h : IsCh row step n most chs) : Over1 (n + 100) 147 (W * step.2 ^ most) chs := by
  refine ⟨Int.mul_pos hW.pos (Int.pow_pos hs.1.1), ?_, fun x hx => ?_, by rw [h.len]; omega⟩
  · exact (hW.sm.mul (sm_pow hs.2.2 (by decide) most)).mono (by omega)
  · obtain ⟨i, hi⟩ := List.mem_iff_getElem?.mp hx
    have hi2 := (List.getElem?_eq_some_iff.mp hi).1
    rw [h.len] at hi2
    obtain ⟨s1, s2⟩ := h.ok i x hi
    exact ⟨s1.1.1, ch_dvdW hW.dvd hr hs.1 s1.1 s2 hi2, s1.2.1.mono (by omega)⟩
theorem BaseLife.w {row : List RT} {step : RT} (h : BaseLife row step) : ∃ W : Int, 0 < W ∧ Sm 10 W ∧ ∀ y ∈ row, y.2 ∣ W := by
  rcases h with ⟨ws, extra, m, rfl⟩ | ⟨rfl, rfl⟩
  · obtain ⟨w0, w1⟩ := m.whole
    refine ⟨wholeOf ws extra step, w0, by unfold Sm; omega, fun y hy => ?_⟩
    unfold rowOf at hy
    obtain ⟨z, hz, rfl⟩ := List.mem_map.mp hy
    exact (red_small (low2_red (Int.ne_of_gt w0)) w0 (qv_low2 w0)).1
  · exact ⟨1, by decide, by unfold Sm; decide, fun y hy => by simp at hy⟩
theorem AnyLife.w {row : List RT} {step : RT} (h : AnyLife row step) : ∃ W : Int, WOk W row := by
  rcases h with h | ⟨row0, l, h, h5, hs, hl, rfl⟩ | ⟨row0, h, h5, rfl, hs⟩
  · obtain ⟨W, w0, w1, w2⟩ := h.w
    exact ⟨W, w0, w1.mono (by decide), w2⟩
  · obtain ⟨W, w0, w1, w2⟩ := h.w
    obtain ⟨s1, s2, s3, s4⟩ := h.sm
    refine ⟨W * step.2, Int.mul_pos w0 s2.1.1, (w1.mul s2.2.2).mono (by decide), fun y hy => ?_⟩
    rcases List.mem_append.mp hy with z | z
    · exact Int.dvd_trans (w2 y z) (Int.dvd_mul_right ..)
    · rw [List.mem_singleton.mp z]
      have hm := List.mem_of_getElem? hl
      have hp := Int.mul_pos (s1 l hm).1.1.1 s2.1.1
      have d := (red_small (x := rT l step) (low2_red (Int.ne_of_gt hp)) hp (qv_low2 hp)).1
      refine Int.dvd_trans d ?_
      obtain ⟨u, hu⟩ := w2 l hm
      exact ⟨u, by rw [hu, Int.mul_assoc, Int.mul_comm u, ← Int.mul_assoc]⟩
  · obtain ⟨W, w0, w1, w2⟩ := h.w
    refine ⟨W, w0, w1.mono (by decide), fun y hy => ?_⟩
    rcases List.mem_append.mp hy with z | z
    · exact w2 y z
    · rw [List.mem_singleton.mp z]
      exact Int.one_dvd _
theorem renQ_congr {a a' b b' : Nat → Rat} : ∀ {m n : Nat}, n ≤ m → (∀ j, j < m → a j = a' j) → (∀ j, j ≤ m → b j = b' j) → renQ a b n = renQ a' b' n := by
  intro m n
  induction n using Nat.strongRecOn with
  | ind n ih =>
    intro hn h1 h2
    rw [renQ_is, renQ_is, h2 n hn]
    congr 1
    refine sumTo_congr fun j hj => ?_
    rw [h1 j (by omega), ih (n - 1 - j) (by omega) (by omega) h1 h2]
theorem qa_ch {row : List RT} {step : RT} {n m j : Nat} {chs : List RT} (h : IsCh row step n m chs) (hj : j < m) : qa chs j = chR row step j := by
  have hj2 : j < chs.length := by rw [h.len]; exact hj
  have hg : chs[j]? = some chs[j] := List.getElem?_eq_getElem hj2
  rw [qa_at hg]
  exact (h.ok j _ hg).2

end Fp

set_option Elab.async false
set_option linter.all false
set_option maxRecDepth 100000
set_option maxHeartbeats 4000000
set_option exponentiation.threshold 10000
namespace Fp
open PySem PySem.Spec PyProof.Rows L2
/-! ### puts -/
abbrev s_puts : Stmt := topS 29
theorem sc_puts : FnScope ["life", "most"] ["life", "most"] (defScope s_puts) := ⟨rfl, rfl, rfl, by decide +kernel, rfl, by decide +kernel, by decide +kernel⟩
/-- one at the beginning, nothing told later -/
def oneAt (n : Nat) : Rat := if n = 0 then 1 else 0
def putQ (row : List RT) (step : RT) (n : Nat) : Rat := renQ (chR row step) oneAt n
theorem qa_one {m j : Nat} (h : j ≤ m) : qa ((1, 1) :: List.replicate m ((0 : Int), (1 : Int))) j = oneAt j := by
  cases j with
  | zero =>
    rw [qa_at (x := (1, 1)) rfl, qv_one]
    rfl
  | succ j =>
    rw [qa_at (x := (0, 1)) (by rw [List.getElem?_cons_succ, List.getElem?_replicate]; exact if_pos (by omega)), qv_nought]
    rfl
section
variable {P : Program} {w : World} {K : PySem.W.Frag} {mg : Str → Option Value} {base : Heap} {aN aO : Addr}
def spPuts (K : PySem.W.Frag) : Sp := fun vs H Q _ => ∃ (p : Addr) (row : List RT) (step : RT) (n most : Nat) (W : Int), vs = [.ref p, .int (most : Int)] ∧ LifeAt K H p row step ∧ LifeOk n row step ∧ WOk W row ∧ most ≤ 20 ∧
  ∀ z H', Same H H' → RowAt K H' z ((List.range (most + 1)).map fun i => rdq (putQ row step i)) → Q (.ref z) H'
theorem ok_puts {f fH fN : Addr} {fd fdH fdN : FuncData} (F : Fun K "puts" "puts" s_puts f fd) (C : Consts K mg aN aO)
    (FH : Fun K "chances_to" "chances_to" s_chto fH fdH) (bH : Binds K fdH ["life", "most"] []) (gH : mg "chances_to" = some (.ref fH)) (GH : FnOk P w K mg base CX0 4 fH fdH ["life", "most"] (spChto K))
    (FN : Fun K "renewed" "renewed" s_ren fN fdN) (bN : Binds K fdN ["chances", "told"] []) (gN : mg "renewed" = some (.ref fN)) (GN : FnOk P w K mg base CX0 3 fN fdN ["chances", "told"] (spRen K)) (mt : mg "tuple" = none) : FnOk P w K mg base CX0 5 f fd ["life", "most"] (spPuts K) := by
  refine F.ok sc_puts (fun vs H Q E h => ?_) (fun cdv A outer s H vs Q E hr h => ?_)
  · obtain ⟨_, _, _, _, _, _, rfl, _⟩ := h
    rfl
  · obtain ⟨p, row, step, n, most, W, rfl, hlife, L, hW, hm, q⟩ := h
    have hr3 := hr.mono (show 3 ≤ 4 by decide)
    refine ⟨_, (pss_one (ps_ret (pe_callTy call_tuple_of (by rfl) mt (by decide +kernel) (pa_cons (pe_call GN hr3 (by rfl) gN FN.kp bN .nil pass0 (pa_cons (pe_call GH hr (by rfl) gH FH.kp bH .nil pass0 (pa_cons (pv 0) (pa_cons (pv 1) pa_nil))) (pa_cons (pe_op op_cat (pe_lst (pa_cons (pe_glob (v := .ref aO) rfl C.gO rfl) pa_nil)) (pe_op op_rep (pe_lst (pa_cons (pe_glob (v := .ref aN) rfl C.gN rfl) pa_nil)) (pv 1))) pa_nil))) pa_nil)))), ?_⟩
    refine ⟨_, rfl, _, rfl, p, row, step, n, most, rfl, hlife, L, by omega, fun z rs chs H1 s1 hz hrs hch => ?_⟩
    refine ⟨by show 1 ≤ sizeLine; decide, fun b1 m1 => ?_⟩
    have e1 := same_new (o := HO.lst [.ref aO]) m1
    refine ⟨by show 1 ≤ sizeLine; decide, fun b2 m2 => ?_⟩
    have e2 := same_new (o := HO.lst [.ref aN]) m2
    refine ⟨_, rfl, b2, _, _, rfl, rfl, upd_same, by omega, by omega, ?_, fun b3 m3 => ?_⟩
    · rw [Int.toNat_natCast]
      show 1 * most ≤ sizeLine
      exact Nat.le_trans (show 1 * most ≤ 1000 by omega) (by decide)
    have ef : (List.replicate (most : Int).toNat [V.ref aN]).flatten = (List.replicate most aN).map V.ref := by
      rw [flat_rep, List.map_replicate, Int.toNat_natCast]
    rw [ef] at *
    have e3 := same_new (o := HO.lst ((List.replicate most aN).map V.ref)) m3
    refine ⟨b1, b3, _, _, rfl, rfl, (e2.trans e3) _ _ upd_same, upd_same, ?_, fun b4 m4 => ?_⟩
    · rw [List.length_map, List.length_replicate]
      exact Nat.le_trans (show 1 + most ≤ 1000 by omega) (by decide)
    have e4 := same_new (o := HO.lst ([.ref aO] ++ (List.replicate most aN).map V.ref)) m4
    have S4 := e1.trans (e2.trans (e3.trans e4))
    have hn := L.n64
    have O1 := over_chW hW L.sm L.st.1 hm hch
    have O2 : Over1 1 1 1 ((1, 1) :: List.replicate most ((0 : Int), (1 : Int))) := by
      refine ⟨by decide, by unfold Sm; decide, fun x hx => ?_, by rw [List.length_cons, List.length_replicate]; omega⟩
      rcases List.mem_cons.mp hx with y | y
      · rw [y]
        exact ⟨by decide, Int.dvd_refl _, by unfold Sm; decide⟩
      · rw [List.eq_of_mem_replicate y]
        exact ⟨by decide, Int.dvd_refl _, by unfold Sm; decide⟩
    have hlt : ((1, 1) :: List.replicate most ((0 : Int), (1 : Int))).length = most + 1 := by rw [List.length_cons, List.length_replicate]
    refine ⟨z, b4, chs, (1, 1) :: List.replicate most (0, 1), _, _, _, _, _, _, rfl, ⟨rs, SqL.of (S4 _ _ hz), hrs.tk (Tk.same S4)⟩, ⟨aO :: List.replicate most aN, SqL.of upd_same, .cons (C.tO _) (RsAt.rep (C.tN _) most)⟩, O1, O2, by omega, by decide, by decide, by decide, by rw [hlt]; omega, by rw [hlt, hch.len]; exact Nat.le_refl _, fun y qs H5 s5 hy hqs => ?_⟩
    refine ⟨y, _, rfl, .inl ⟨SqL.of hy, fun l nl => ?_⟩⟩
    have e6 := same_new (o := HO.tup (qs.map V.ref)) nl
    refine q l _ (s1.trans (S4.trans (s5.trans e6))) ⟨qs, SqT.of upd_same, ?_⟩
    rw [hlt] at hqs
    have ec : ((List.range (most + 1)).map fun i => rdq (renQ (qa chs) (qa ((1, 1) :: List.replicate most (0, 1))) i)) = (List.range (most + 1)).map fun i => rdq (putQ row step i) := by
      refine List.map_congr_left fun i hi => ?_
      have hi2 := List.mem_range.mp hi
      show rdq _ = rdq (renQ (chR row step) oneAt i)
      rw [renQ_congr (m := most) (show i ≤ most by omega) (fun j hj => qa_ch hch hj) (fun j hj => qa_one hj)]
    rw [ec] at hqs
    exact hqs.tk (Tk.same e6)
end

end Fp

set_option Elab.async false
set_option linter.all false
set_option maxRecDepth 100000
set_option maxHeartbeats 4000000
set_option exponentiation.threshold 10000
namespace Fp
open PySem PySem.Spec PyProof.Rows L2
/-! ### put by how many parts there are -/
def pQ (a : Nat → Rat) : Nat → Nat → Rat
  | 0, m => oneAt m
  | j + 1, m => sumTo m fun k => a k * pQ a j (m - 1 - k)
theorem sumTo_succ (n : Nat) (f : Nat → Rat) : sumTo (n + 1) f = sumTo n f + f n := by
  unfold sumTo
  rw [List.range_succ, List.map_append]
  simp only [List.map_cons, List.map_nil]
  rw [sum_snoc]
theorem sumTo_zero (f : Nat → Rat) : sumTo 0 f = 0 := rfl
theorem sumTo_head (n : Nat) (f : Nat → Rat) : sumTo (n + 1) f = f 0 + sumTo n fun j => f (j + 1) := by
  induction n with
  | zero =>
    rw [sumTo_succ, sumTo_zero, sumTo_zero]
    grind
  | succ n ih =>
    rw [sumTo_succ, ih, sumTo_succ]
    grind
theorem sumTo_add (n : Nat) (f g : Nat → Rat) : sumTo n (fun j => f j + g j) = sumTo n f + sumTo n g := by
  induction n with
  | zero =>
    rw [sumTo_zero, sumTo_zero, sumTo_zero]
    grind
  | succ n ih =>
    rw [sumTo_succ, sumTo_succ, sumTo_succ, ih]
    grind
theorem sumTo_nought (n : Nat) : sumTo n (fun _ => 0) = 0 := by
  induction n with
  | zero => rfl
  | succ n ih =>
    rw [sumTo_succ, ih]
    grind
theorem sumTo_swap (n m : Nat) (f : Nat → Nat → Rat) : sumTo n (fun j => sumTo m fun k => f j k) = sumTo m fun k => sumTo n fun j => f j k := by
  induction n with
  | zero =>
    rw [sumTo_zero]
    exact (sumTo_nought m).symm
  | succ n ih =>
    rw [sumTo_succ, ih, ← sumTo_add]
    exact sumTo_congr fun k _ => (sumTo_succ n fun j => f j k).symm
/-- all of them added: what is put -/
theorem put_parts (a : Nat → Rat) : ∀ n N : Nat, n ≤ N → sumTo (N + 1) (fun j => pQ a j n) = renQ a oneAt n := by
  intro n
  induction n using Nat.strongRecOn with
  | ind n ih =>
    intro N hN
    rw [renQ_is, sumTo_head]
    show oneAt n + sumTo N (fun j => sumTo n fun k => a k * pQ a j (n - 1 - k)) = _
    congr 1
    rw [sumTo_swap]
    refine sumTo_congr fun k hk => ?_
    rw [← sumTo_mul]
    have hN2 : N = (N - 1) + 1 := by omega
    rw [hN2, ih (n - 1 - k) (by omega) (N - 1) (by omega)]
/-- with more parts than beats there is nothing -/
theorem pQ_far (a : Nat → Rat) : ∀ {j m : Nat}, m < j → pQ a j m = 0
  | 0, m, h => absurd h (Nat.not_lt_zero _)
  | j + 1, m, h => by
    show sumTo m (fun k => a k * pQ a j (m - 1 - k)) = 0
    rw [sumTo_congr (g := fun _ => 0) fun k hk => ?_]
    · exact sumTo_nought m
    · rw [pQ_far a (show m - 1 - k < j by omega)]
      grind
theorem sumTo_le {n : Nat} {f g : Nat → Rat} (h : ∀ j, j < n → f j ≤ g j) : sumTo n f ≤ sumTo n g := by
  induction n with
  | zero => exact Rat.le_refl
  | succ n ih =>
    rw [sumTo_succ, sumTo_succ]
    have h1 := ih fun j hj => h j (by omega)
    have h2 := h n (by omega)
    grind
theorem sumTo_rev (n : Nat) (f : Nat → Rat) : sumTo n (fun k => f (n - 1 - k)) = sumTo n f := by
  induction n with
  | zero => rfl
  | succ n ih =>
    rw [sumTo_head, sumTo_succ]
    have e : (sumTo n fun j => f (n + 1 - 1 - (j + 1))) = sumTo n fun k => f (n - 1 - k) := sumTo_congr fun k hk => by
      congr 1
      omega
    rw [e, ih]
    have : n + 1 - 1 - 0 = n := by omega
    rw [this]
    grind
theorem two_sum (n : Nat) : sumTo n (fun m => (2 : Rat) ^ m) = 2 ^ n - 1 := by
  induction n with
  | zero =>
    rw [sumTo_zero, Rat.pow_zero]
    grind
  | succ n ih =>
    rw [sumTo_succ, ih, Rat.pow_succ]
    grind
/-- chances from nought to one: from nought to two powers -/
theorem pQ_bound {a : Nat → Rat} {M : Nat} (h0 : ∀ k, k < M → 0 ≤ a k) (h1 : ∀ k, k < M → a k ≤ 1) : ∀ j m, m ≤ M → 0 ≤ pQ a j m ∧ pQ a j m ≤ 2 ^ m := by
  have pp : ∀ m : Nat, (0 : Rat) < 2 ^ m := fun m => Rat.pow_pos (by decide)
  intro j
  induction j with
  | zero =>
    intro m _
    show 0 ≤ oneAt m ∧ oneAt m ≤ 2 ^ m
    unfold oneAt
    split
    · rename_i e
      subst e
      rw [Rat.pow_zero]
      exact ⟨by decide, Rat.le_refl⟩
    · exact ⟨Rat.le_refl, Rat.le_of_lt (pp m)⟩
  | succ j ih =>
    intro m hm
    show 0 ≤ sumTo m (fun k => a k * pQ a j (m - 1 - k)) ∧ sumTo m (fun k => a k * pQ a j (m - 1 - k)) ≤ 2 ^ m
    refine ⟨?_, ?_⟩
    · have := sumTo_le (n := m) (f := fun _ => 0) (g := fun k => a k * pQ a j (m - 1 - k)) fun k hk => Rat.mul_nonneg (h0 k (by omega)) (ih (m - 1 - k) (by omega)).1
      rw [sumTo_nought] at this
      exact this
    · have h2 : sumTo m (fun k => a k * pQ a j (m - 1 - k)) ≤ sumTo m fun k => (2 : Rat) ^ (m - 1 - k) := sumTo_le fun k hk => by
        obtain ⟨i1, i2⟩ := ih (m - 1 - k) (by omega)
        have h3 := Rat.mul_le_mul_of_nonneg_right (h1 k (by omega)) i1
        grind
      rw [sumTo_rev m fun k => (2 : Rat) ^ k, two_sum] at h2
      grind
theorem tri_flip (n : Nat) (f : Nat → Nat → Rat) : (sumTo n fun m => sumTo (m + 1) (f m)) = sumTo n fun j => sumTo (n - j) fun k => f (j + k) j := by
  induction n with
  | zero => rfl
  | succ n ih =>
    rw [sumTo_succ, ih, sumTo_succ (n := n) (f := fun j => sumTo (n + 1 - j) fun k => f (j + k) j)]
    have e : (sumTo n fun j => sumTo (n + 1 - j) fun k => f (j + k) j) = sumTo n fun j => (sumTo (n - j) fun k => f (j + k) j) + f n j := by
      refine sumTo_congr fun j hj => ?_
      rw [show n + 1 - j = (n - j) + 1 by omega, sumTo_succ, show j + (n - j) = n by omega]
    rw [e, sumTo_add, sumTo_succ, show n + 1 - n = 0 + 1 by omega, sumTo_succ, sumTo_zero]
    rw [Nat.add_zero]
    grind

end Fp

set_option Elab.async false
set_option linter.all false
set_option maxRecDepth 100000
set_option maxHeartbeats 4000000
set_option exponentiation.threshold 10000
namespace Fp
open PySem PySem.Spec PyProof.Rows L2
/-! ### lists of ratios told by their values; values over powers of one number -/
def mkL (n : Nat) (g : Nat → Rat) : List RT := (List.range n).map fun m => rdq (g m)
theorem mkL_len {n : Nat} {g : Nat → Rat} : (mkL n g).length = n := by
  unfold mkL
  rw [List.length_map, List.length_range]
theorem mkL_at {n m : Nat} {g : Nat → Rat} (h : m < n) : (mkL n g)[m]? = some (rdq (g m)) := by
  unfold mkL
  rw [List.getElem?_map, List.getElem?_range h]
  rfl
theorem mkL_congr {n : Nat} {g g' : Nat → Rat} (h : ∀ m, m < n → g m = g' m) : mkL n g = mkL n g' := by
  unfold mkL
  refine List.map_congr_left fun m hm => ?_
  rw [h m (List.mem_range.mp hm)]
theorem mkL_set {n i : Nat} {g : Nat → Rat} {v : Rat} : (mkL n g).set i (rdq v) = mkL n fun m => if m = i then v else g m := by
  refine List.ext_getElem (by rw [List.length_set, mkL_len, mkL_len]) fun m h1 h2 => ?_
  rw [List.getElem_set]
  have hm : m < n := by
    rw [mkL_len] at h2
    exact h2
  have e : ∀ (f : Nat → Rat) (h : m < (mkL n f).length), (mkL n f)[m] = rdq (f m) := fun f h => by
    have := mkL_at (g := f) hm
    rw [List.getElem?_eq_getElem h] at this
    exact Option.some.inj this
  rw [e (fun m => if m = i then v else g m)]
  by_cases z : i = m
  · rw [if_pos z, if_pos z.symm]
  · rw [if_neg z, if_neg fun y => z y.symm, e]
theorem RsAt.set {K : PySem.W.Frag} {H : Hp} {z : Addr} {x : RT} (hz : RAt K H z x) : ∀ {rs : List Addr} {xs : List RT} (i : Nat), RsAt K H rs xs → RsAt K H (rs.set i z) (xs.set i x)
  | _, _, _, .nil => .nil
  | _, _, 0, .cons _ r => .cons hz r
  | _, _, i + 1, .cons h r => .cons h (RsAt.set hz i r)
/-- a whole number over the e-th power of D -/
def Den (D : Int) (e : Nat) (q : Rat) : Prop := ∃ T : Int, q = (T : Rat) / ((D ^ e : Int) : Rat)
section
variable {D : Int} {e f : Nat} {p q : Rat}
theorem Den.up (hD : 0 < D) (h : Den D e q) : Den D (e + 1) q := by
  obtain ⟨T, rfl⟩ := h
  refine ⟨T * D, ?_⟩
  have h1 := cast_ne (Int.ne_of_gt hD)
  have h2 := cast_ne (Int.ne_of_gt (show (0 : Int) < D ^ e from Int.pow_pos hD))
  rw [Int.pow_succ, Rat.intCast_mul, Rat.intCast_mul]
  grind
theorem Den.mono (hD : 0 < D) (h : Den D e q) : ∀ {f : Nat}, e ≤ f → Den D f q := by
  intro f hf
  induction hf with
  | refl => exact h
  | step _ ih => exact ih.up hD
theorem Den.add (hD : 0 < D) (hp : Den D e p) (hq : Den D e q) : Den D e (p + q) := by
  obtain ⟨T, rfl⟩ := hp
  obtain ⟨S, rfl⟩ := hq
  refine ⟨T + S, ?_⟩
  have h2 := cast_ne (Int.ne_of_gt (show (0 : Int) < D ^ e from Int.pow_pos hD))
  rw [Rat.intCast_add]
  grind
theorem Den.mul (hD : 0 < D) (hp : Den D e p) (hq : Den D f q) : Den D (e + f) (p * q) := by
  obtain ⟨T, rfl⟩ := hp
  obtain ⟨S, rfl⟩ := hq
  refine ⟨T * S, ?_⟩
  have h1 := cast_ne (Int.ne_of_gt (show (0 : Int) < D ^ e from Int.pow_pos hD))
  have h2 := cast_ne (Int.ne_of_gt (show (0 : Int) < D ^ f from Int.pow_pos hD))
  rw [Int.pow_add, Rat.intCast_mul, Rat.intCast_mul]
  grind
theorem Den.zero : Den D e 0 := ⟨0, by
  show (0 : Rat) = ((0 : Int) : Rat) / _
  rw [show ((0 : Int) : Rat) = 0 from rfl]
  grind⟩
theorem Den.sum (hD : 0 < D) {n : Nat} {g : Nat → Rat} (h : ∀ j, j < n → Den D e (g j)) : Den D e (sumTo n g) := by
  induction n with
  | zero => exact Den.zero
  | succ n ih =>
    rw [sumTo_succ]
    exact (ih fun j hj => h j (by omega)).add hD (h n (by omega))
theorem Den.of {x : RT} (hD : 0 < D) (hx : 0 < x.2) (h : x.2 ∣ D) : Den D 1 (qv x) := by
  refine ⟨x.1 * (D / x.2), ?_⟩
  rw [Int.pow_succ, Int.pow_zero, Int.one_mul]
  exact qv_over hx h hD
/-- what such a value's lowest form is like -/
theorem Den.red (hD : 0 < D) (h : Den D e q) {d k : Nat} (sD : Sm d D) (hd : 0 < d) (h0 : 0 ≤ q) (h1 : q ≤ 2 ^ k) : (rdq q).2 ∣ D ^ e ∧ Sm (d * e + 1 + k + 1) (rdq q).1 ∧ Sm (d * e + 1) (rdq q).2 := by
  obtain ⟨T, hT⟩ := h
  have hP : (0 : Int) < D ^ e := Int.pow_pos hD
  have hc := cast_ne (Int.ne_of_gt hP)
  obtain ⟨r1, r2⟩ := red_small (rdq_red q) hP (by rw [qv_rdq]; exact hT)
  have sP : Sm (d * e + 1) (D ^ e) := sm_pow sD hd e
  refine ⟨r1, ?_, dvd_small r1 hP sP⟩
  have hcp : (0 : Rat) < ((D ^ e : Int) : Rat) := Rat.intCast_pos.mpr hP
  have e1 : (T : Rat) = q * ((D ^ e : Int) : Rat) := by
    rw [hT]
    grind
  have t0 : 0 ≤ T := by
    have := Rat.mul_nonneg h0 (Rat.le_of_lt hcp)
    rw [← e1] at this
    exact Rat.intCast_nonneg.mp this
  have t1 : T ≤ 2 ^ k * D ^ e := by
    have := Rat.mul_le_mul_of_nonneg_right h1 (Rat.le_of_lt hcp)
    rw [← e1] at this
    have e2 : (2 : Rat) ^ k * ((D ^ e : Int) : Rat) = ((2 ^ k * D ^ e : Int) : Rat) := by
      rw [Rat.intCast_mul, cast_pow 2 k]
      rfl
    rw [e2] at this
    exact Rat.intCast_le_intCast.mp this
  unfold Sm at *
  have t2 : T.natAbs ≤ 2 ^ k * (D ^ e).natAbs := by
    have : (2 ^ k * D ^ e : Int).natAbs = 2 ^ k * (D ^ e).natAbs := by
      rw [Int.natAbs_mul, Int.natAbs_pow]
      rfl
    omega
  have t3 : 2 ^ k * (D ^ e).natAbs ≤ 2 ^ k * 2 ^ (d * e + 1) := Nat.mul_le_mul_left _ (Nat.le_of_lt sP)
  have t4 : 2 ^ (d * e + 1 + k + 1) = 2 * (2 ^ k * 2 ^ (d * e + 1)) := by
    rw [Nat.pow_succ, Nat.pow_add, Nat.mul_comm, Nat.mul_comm (2 ^ (d * e + 1))]
  have t5 : 0 < 2 ^ k * 2 ^ (d * e + 1) := Nat.mul_pos (Nat.pow_pos (by decide)) (Nat.pow_pos (by decide))
  omega
end
/-- chances from nought to one, each over D -/
structure Ch01 (D : Int) (a : Nat → Rat) (M : Nat) : Prop where
  pos : 0 < D
  sm : Sm 110 D
  ge : ∀ k, k < M → 0 ≤ a k
  le : ∀ k, k < M → a k ≤ 1
  den : ∀ k, k < M → Den D 1 (a k)
theorem Ch01.pq {D : Int} {a : Nat → Rat} {M : Nat} (h : Ch01 D a M) : ∀ j m, m ≤ M → Den D j (pQ a j m) := by
  intro j
  induction j with
  | zero =>
    intro m _
    show Den D 0 (oneAt m)
    unfold oneAt
    split
    · exact ⟨1, by
        rw [Int.pow_zero]
        grind⟩
    · exact Den.zero
  | succ j ih =>
    intro m hm
    refine Den.sum h.pos fun k hk => ?_
    rw [Nat.add_comm]
    exact (h.den k (by omega)).mul h.pos (ih (m - 1 - k) (by omega))

end Fp

set_option Elab.async false
set_option linter.all false
set_option maxRecDepth 100000
set_option maxHeartbeats 4000000
set_option exponentiation.threshold 10000
namespace Fp
open PySem PySem.Spec PyProof.Rows L2
/-! ### the law's own: by how many parts there are -/
abbrev N_bp : List Str := ["_law_life_here", "_law_most_here", "_law_chances", "_law_found", "_law_parts", "_law_here", "_law_more", "_law_n", "_law_k"]
/-- what n parts before and one more give at m -/
def fM (a : Nat → Rat) (j m n : Nat) : Rat := pQ a j n * a (m - 1 - n)
theorem fM_sum (a : Nat → Rat) (j m : Nat) : sumTo m (fM a j m) = pQ a (j + 1) m := by
  show _ = sumTo m fun k => a k * pQ a j (m - 1 - k)
  rw [← sumTo_rev m fun k => a k * pQ a j (m - 1 - k)]
  refine sumTo_congr fun k hk => ?_
  unfold fM
  rw [show m - 1 - (m - 1 - k) = k by omega]
  grind
/-- n of them taken, and of the next one those to n + kk -/
def vM (a : Nat → Rat) (j n kk m : Nat) : Rat := sumTo (min n m) (fM a j m) + if n < m ∧ m ≤ n + kk then fM a j m n else 0
theorem vM_zero (a : Nat → Rat) (j n m : Nat) : vM a j n 0 m = sumTo (min n m) (fM a j m) := by
  unfold vM
  rw [if_neg (by omega)]
  grind
theorem vM_full (a : Nat → Rat) {j n kk m : Nat} (h : m ≤ n + kk) : vM a j n kk m = sumTo (min (n + 1) m) (fM a j m) := by
  unfold vM
  rcases (by omega : n < m ∨ m ≤ n) with z | z
  · rw [if_pos ⟨z, h⟩, Nat.min_eq_left (by omega), Nat.min_eq_left (by omega), sumTo_succ]
  · rw [if_neg (by omega), Nat.min_eq_right z, Nat.min_eq_right (by omega)]
    grind
theorem vM_step (a : Nat → Rat) {j n kk m : Nat} : vM a j n (kk + 1) m = if m = n + (kk + 1) then vM a j n kk m + fM a j m n else vM a j n kk m := by
  unfold vM
  by_cases z : m = n + (kk + 1)
  · rw [if_pos z, if_pos (by omega), if_neg (by omega)]
    grind
  · rw [if_neg z]
    congr 1
    by_cases y : n < m ∧ m ≤ n + kk
    · rw [if_pos y, if_pos (by omega)]
    · rw [if_neg y, if_neg (by omega)]
section
variable {D : Int} {a : Nat → Rat} {M j m n : Nat}
theorem Ch01.f_ok (h : Ch01 D a M) (hm : m ≤ M) (hn : n < m) : 0 ≤ fM a j m n ∧ fM a j m n ≤ 2 ^ n ∧ Den D (j + 1) (fM a j m n) := by
  obtain ⟨b1, b2⟩ := pQ_bound h.ge h.le j n (by omega)
  refine ⟨Rat.mul_nonneg b1 (h.ge _ (by omega)), ?_, (h.pq j n (by omega)).mul h.pos (h.den _ (by omega))⟩
  have := Rat.mul_le_mul_of_nonneg_left (h.le (m - 1 - n) (by omega)) b1
  unfold fM
  grind
theorem pow2_le {i k : Nat} (h : i ≤ k) : (2 : Rat) ^ i ≤ 2 ^ k := by
  have pp : ∀ m : Nat, (0 : Rat) < 2 ^ m := fun m => Rat.pow_pos (by decide)
  induction h with
  | refl => exact Rat.le_refl
  | step _ ih =>
    rename_i m _
    rw [Rat.pow_succ]
    have := pp m
    grind
theorem Ch01.s_ok (h : Ch01 D a M) (hm : m ≤ M) (hn : n ≤ m) : 0 ≤ sumTo n (fM a j m) ∧ sumTo n (fM a j m) ≤ 2 ^ m ∧ Den D (j + 1) (sumTo n (fM a j m)) := by
  refine ⟨?_, ?_, Den.sum h.pos fun k hk => (h.f_ok hm (by omega)).2.2⟩
  · have := sumTo_le (n := n) (f := fun _ => 0) (g := fM a j m) fun k hk => (h.f_ok hm (by omega)).1
    rw [sumTo_nought] at this
    exact this
  · have h1 := sumTo_le (n := n) (f := fM a j m) (g := fun k => (2 : Rat) ^ k) fun k hk => (h.f_ok hm (by omega)).2.1
    rw [two_sum] at h1
    have h2 := pow2_le hn
    grind
theorem Ch01.red (h : Ch01 D a M) {q : Rat} {e k : Nat} (hd : Den D e q) (h0 : 0 ≤ q) (h1 : q ≤ 2 ^ k) (he : e ≤ 21) (hk : k ≤ 21) : (rdq q).2 ∣ D ^ e ∧ Sm 2400 (rdq q).1 ∧ Sm 2400 (rdq q).2 := by
  obtain ⟨r1, r2, r3⟩ := hd.red h.pos h.sm (by decide) h0 h1
  have : 110 * e ≤ 110 * 21 := Nat.mul_le_mul_left _ he
  exact ⟨r1, r2.mono (by omega), r3.mono (by omega)⟩
end

end Fp

set_option Elab.async false
set_option linter.all false
set_option maxRecDepth 100000
set_option maxHeartbeats 4000000
set_option exponentiation.threshold 10000
namespace Fp
open PySem PySem.Spec PyProof.Rows L2
section
variable {P : Program} {w : World} {K : PySem.W.Frag} {mg : Str → Option Value} {base : Heap}
/-- a list of ratios that may be changed -/
def LsM (K : PySem.W.Frag) (H : Hp) (p : Addr) (xs : List RT) : Prop := ∃ rs : List Addr, H p = some (.lst (rs.map V.ref)) ∧ RsAt K H rs xs
theorem LsM.same {H H' : Hp} {p : Addr} {xs : List RT} (h : LsM K H p xs) (e : Same H H') : LsM K H' p xs := by
  obtain ⟨rs, h1, h2⟩ := h
  exact ⟨rs, e _ _ h1, h2.tk (Tk.same e)⟩
theorem LsM.at {H : Hp} {p : Addr} {n m : Nat} {g : Nat → Rat} {k : Int} {Q : VK} (h : LsM K H p (mkL n g)) (hk : k = (m : Int)) (hm : m < n) (q : ∀ r, RAt K H r (rdq (g m)) → Q (.ref r) H) : rIxL K (.ref p) (.int k) H Q := by
  obtain ⟨rs, h1, h2⟩ := h
  obtain ⟨r, e1, e2⟩ := h2.get (mkL_at hm)
  have g2 : (rs.map V.ref)[m]? = some (.ref r) := by
    rw [List.getElem?_map, e1]
    rfl
  exact ⟨p, _, _, _, rfl, rfl, SqL.of h1, at_of hk g2, q r e2⟩
theorem rdq_zero {q : Rat} : rdq q = (0, 1) ↔ q = 0 := by
  constructor
  · intro h
    have := congrArg qv h
    rw [qv_rdq, qv_nought] at this
    exact this
  · intro h
    rw [h]
    exact (is_rdq ⟨by decide, by decide⟩ qv_nought).symm
def spBp (K : PySem.W.Frag) : Sp := fun vs H Q _ => ∃ (p : Addr) (row : List RT) (step : RT) (n most : Nat) (D : Int), vs = [.ref p, .int (most : Int)] ∧ LifeAt K H p row step ∧ LifeOk n row step ∧ (row = [] → step = (0, 1)) ∧ Ch01 D (chR row step) 20 ∧ most ≤ 20 ∧
  ∀ (z : Addr) (fs : List Addr) (H' : Hp), Same H H' → H' z = some (.lst (fs.map V.ref)) → fs.length = most + 1 → (∀ j f, fs[j]? = some f → LsM K H' f (mkL (most + 1) (pQ (chR row step) j))) → Q (.ref z) H'
end

end Fp

set_option Elab.async false
set_option linter.all false
set_option maxRecDepth 100000
set_option maxHeartbeats 4000000
set_option exponentiation.threshold 10000
namespace Fp
open PySem PySem.Spec PyProof.Rows L2
theorem AnyLife.ok {row : List RT} {step : RT} (h : AnyLife row step) : LifeOk 20 row step ∧ row.length ≤ 7 ∧ (row = [] → step = (0, 1)) := by
  have nought : SmR 20 (0, 1) := ⟨⟨by decide, by decide⟩, by unfold Sm; decide, by unfold Sm; decide⟩
  rcases h with h | ⟨row0, l, h, h5, hs, hl, rfl⟩ | ⟨row0, h, h5, rfl, hs⟩
  · obtain ⟨s1, s2, s3, s4⟩ := h.sm
    have := h.len
    refine ⟨⟨fun x hx => (s1 x hx).1.mono (by decide), ⟨s2.mono (by decide), s3, s4⟩, by omega, by decide, by decide⟩, by omega, fun z => ?_⟩
    rcases Classical.em (step = (0, 1)) with y | y
    · exact y
    · exact absurd z (h.ne y)
  · obtain ⟨s1, s2, s3, s4⟩ := h.sm
    have hlen : (row0 ++ [rT l step]).length ≤ 6 := by
      rw [List.length_append, List.length_singleton]
      omega
    refine ⟨⟨fun x hx => ?_, ⟨s2.mono (by decide), s3, s4⟩, by omega, by decide, by decide⟩, by omega, fun z => ?_⟩
    · rcases List.mem_append.mp hx with z | z
      · exact (s1 x z).1.mono (by decide)
      · rw [List.mem_singleton.mp z]
        exact (rT_sm (s1 l (List.mem_of_getElem? hl)).1 s2).mono (by decide)
    · have := congrArg List.length z
      simp at this
  · obtain ⟨s1, s2, s3, s4⟩ := h.sm
    have hlen : (row0 ++ [((0 : Int), (1 : Int))]).length ≤ 6 := by
      rw [List.length_append, List.length_singleton]
      omega
    refine ⟨⟨fun x hx => ?_, ?_, by omega, by decide, by decide⟩, by omega, fun z => ?_⟩
    · rcases List.mem_append.mp hx with z | z
      · exact (s1 x z).1.mono (by decide)
      · rw [List.mem_singleton.mp z]
        exact nought
    · rcases hs with rfl | rfl
      · exact ⟨⟨⟨by decide, by decide⟩, by unfold Sm; decide, by unfold Sm; decide⟩, by decide, by decide⟩
      · exact ⟨⟨⟨by decide, by decide⟩, by unfold Sm; decide, by unfold Sm; decide⟩, by decide, by decide⟩
    · have := congrArg List.length z
      simp at this

end Fp

set_option Elab.async false
set_option linter.all false
set_option maxRecDepth 100000
set_option maxHeartbeats 4000000
set_option exponentiation.threshold 10000
namespace Fp
open PySem PySem.Spec PyProof.Rows L2
/-! ### a life cut at a beat -/
theorem ch_ex {row : List RT} {step : RT} {n : Nat} (L : LifeOk n row step) : ∀ i, ∃ x, SmR (n + 5 * i) x ∧ qv x = chR row step i := by
  intro i
  induction i with
  | zero =>
    rcases Classical.em (0 < row.length) with hi | hi
    · exact ⟨row[0], (L.sm _ (List.getElem_mem hi)).mono (by omega), (chR_in (List.getElem?_eq_getElem hi)).symm⟩
    · have er : row = [] := List.length_eq_zero_iff.mp (by omega)
      subst er
      exact ⟨(0, 1), SmR.mono (n := 1) ⟨⟨by decide, by decide⟩, by unfold Sm; decide, by unfold Sm; decide⟩ (by have := L.n1; omega), by rw [chR_nil, qv_nought]⟩
  | succ j ih =>
    rcases Classical.em (j + 1 < row.length) with hi | hi
    · exact ⟨row[j + 1], (L.sm _ (List.getElem_mem hi)).mono (by omega), (chR_in (List.getElem?_eq_getElem hi)).symm⟩
    · rcases Classical.em (row = []) with er | er
      · subst er
        exact ⟨(0, 1), SmR.mono (n := 1) ⟨⟨by decide, by decide⟩, by unfold Sm; decide, by unfold Sm; decide⟩ (by have := L.n1; omega), by rw [chR_nil, qv_nought]⟩
      · obtain ⟨x, h1, h2⟩ := ih
        refine ⟨rT x step, (rT_sm h1 L.st.1).mono (by omega), ?_⟩
        rw [(qv_rT h1.1 L.st.1.1).2, h2, chR_next (by omega) er]
def chsR (row : List RT) (step : RT) (m : Nat) : List RT := (List.range m).map fun k => rdq (chR row step k)
def cutR (row : List RT) (step : RT) (m : Nat) : List RT := chsR row step m ++ [rdq (1 - sumCh row step m)]
theorem chsR_at {row : List RT} {step : RT} {m i : Nat} {x : RT} (h : (chsR row step m)[i]? = some x) : i < m ∧ x = rdq (chR row step i) := by
  unfold chsR at h
  rw [List.getElem?_map] at h
  rcases Classical.em (i < m) with z | z
  · rw [List.getElem?_range z] at h
    exact ⟨z, (Option.some.inj h).symm⟩
  · rw [List.getElem?_eq_none (by rw [List.length_range]; omega)] at h
    cases h
theorem chsR_len {row : List RT} {step : RT} {m : Nat} : (chsR row step m).length = m := by
  unfold chsR
  rw [List.length_map, List.length_range]
theorem IsCh.is {row : List RT} {step : RT} {n m : Nat} {chs : List RT} (h : IsCh row step n m chs) : chs = chsR row step m := by
  refine List.ext_getElem (by rw [h.len, chsR_len]) fun i h1 h2 => ?_
  have e1 := h.ok i _ (List.getElem?_eq_getElem h1)
  have e2 := chsR_at (List.getElem?_eq_getElem h2)
  rw [e2.2]
  exact is_rdq e1.1.1 e1.2
theorem ch_all {row : List RT} {step : RT} {n : Nat} (L : LifeOk n row step) (m : Nat) : IsCh row step n m (chsR row step m) := by
  refine ⟨chsR_len, fun i x hx => ?_⟩
  obtain ⟨_, rfl⟩ := chsR_at hx
  obtain ⟨y, h1, h2⟩ := ch_ex L i
  rw [← is_rdq h1.1 h2]
  exact ⟨h1, h2⟩
theorem chsR_sm {row : List RT} {step : RT} {n m : Nat} (L : LifeOk n row step) (hm : m ≤ 70) : ∀ x ∈ chsR row step m, SmR 500 x := by
  intro x hx
  obtain ⟨i, hi⟩ := List.mem_iff_getElem?.mp hx
  have := (chsR_at hi).1
  have := L.n64
  exact ((ch_all L m).ok i x hi).1.mono (by omega)
theorem cut_sm {row : List RT} {step : RT} {n m : Nat} (L : LifeOk n row step) (hm : m ≤ 70) : ∀ x ∈ cutR row step m, SmR 1900 x := by
  intro x hx
  rcases List.mem_append.mp hx with z | z
  · exact (chsR_sm L hm x z).mono (by decide)
  · rw [List.mem_singleton.mp z]
    have I := ch_all L m
    have O := over_ch L.sm L.st.1 L.len L.n64 hm I
    have hs := tops_sum O.pos (xs := chsR row step m) fun y hy => ⟨(O.ok y hy).1, (O.ok y hy).2.1⟩
    have hb := tops_sm O.pos O.pos (Int.dvd_refl _) O.sm (xs := chsR row step m) fun y hy => ⟨(O.ok y hy).1, (O.ok y hy).2.2⟩
    rw [I.sum] at hs
    have hD := O.pos
    have sD := O.sm
    generalize prodB row * step.2 ^ m = D at hs hb hD sD
    generalize (topsOn D (chsR row step m)).sum = T at hs hb
    have sT : Sm 1800 T := by
      unfold Sm
      refine Nat.lt_of_le_of_lt hb ?_
      rw [chsR_len]
      have h64 := L.n64
      have e1 : m * 2 ^ (n + 350 + 1300) ≤ 70 * 2 ^ (64 + 350 + 1300) := Nat.mul_le_mul hm (Nat.pow_le_pow_right (by decide) (by omega))
      exact Nat.lt_of_le_of_lt e1 (by decide)
    have sN : Sm 1801 (D - T) := (sD.mono (show 1300 ≤ 1800 by decide)).sub sT
    have sy : SmR 1801 (low2 (D - T) D) := low2_sm hD sN (sD.mono (by decide))
    have e : low2 (D - T) D = rdq (1 - sumCh row step m) := by
      refine is_rdq sy.1 ?_
      rw [qv_low2 hD, ← hs, Rat.intCast_sub]
      have := cast_ne (Int.ne_of_gt hD)
      grind
    rw [← e]
    exact sy.mono (by decide)
/-- each one with noughts before it -/
def wideR (m : Nat) (row : List RT) : List RT := row.flatMap fun x => List.replicate m ((0 : Int), (1 : Int)) ++ [x]
theorem wide_snoc {m : Nat} {xs : List RT} {x : RT} : wideR m (xs ++ [x]) = wideR m xs ++ (List.replicate m (0, 1) ++ [x]) := by
  unfold wideR
  rw [List.flatMap_append]
  simp
theorem wide_mem {m : Nat} {row : List RT} {x : RT} (h : x ∈ wideR m row) : x = (0, 1) ∨ x ∈ row := by
  unfold wideR at h
  obtain ⟨y, h1, h2⟩ := List.mem_flatMap.mp h
  rcases List.mem_append.mp h2 with z | z
  · exact .inl (List.eq_of_mem_replicate z)
  · rw [List.mem_singleton.mp z]
    exact .inr h1
theorem wide_len {m : Nat} : ∀ {row : List RT}, (wideR m row).length = row.length * (m + 1)
  | [] => by
    show 0 = 0 * (m + 1)
    omega
  | x :: r => by
    show ((List.replicate m (0, 1) ++ [x]) ++ wideR m r).length = _
    rw [List.length_append, List.length_append, List.length_replicate, List.length_singleton, wide_len, List.length_cons, Nat.add_mul]
    omega
theorem take_snoc {α : Type} {xs : List α} {i : Nat} {x : α} (h : xs[i]? = some x) : xs.take (i + 1) = xs.take i ++ [x] := by
  rw [List.take_add_one, h]
  rfl
theorem nought_sm {n : Nat} (h : 1 ≤ n) : SmR n (0, 1) := SmR.mono (n := 1) ⟨⟨by decide, by decide⟩, by unfold Sm; decide, by unfold Sm; decide⟩ h
theorem nought_step {n : Nat} (h : 1 ≤ n) : StepOk n (0, 1) := ⟨nought_sm h, by decide, by decide⟩

end Fp

set_option Elab.async false
set_option linter.all false
set_option maxRecDepth 100000
set_option maxHeartbeats 4000000
set_option exponentiation.threshold 10000
namespace Fp
open PySem PySem.Spec PyProof.Rows L2
/-! ### chances of drawn lives are from nought to one -/
theorem div_01 {t b : Int} (h0 : 0 ≤ t) (hb : 0 < b) (h : t ≤ b) : (0 : Rat) ≤ (t : Rat) / (b : Rat) ∧ (t : Rat) / (b : Rat) ≤ 1 := by
  have hc : (0 : Rat) < (b : Rat) := Rat.intCast_pos.mpr hb
  have ht : (0 : Rat) ≤ (t : Rat) := Rat.intCast_nonneg.mpr h0
  have hl : (t : Rat) ≤ (b : Rat) := Rat.intCast_le_intCast.mpr h
  have hi : (0 : Rat) ≤ (b : Rat)⁻¹ := Rat.le_of_lt (Rat.inv_pos.mpr hc)
  rw [Rat.div_def]
  refine ⟨Rat.mul_nonneg ht hi, ?_⟩
  have := Rat.mul_le_mul_of_nonneg_right hl hi
  have e : (b : Rat) * (b : Rat)⁻¹ = 1 := Rat.mul_inv_cancel _ (Rat.ne_of_gt hc)
  rw [e] at this
  exact this
theorem mem_sum : ∀ {ws : List Int}, (∀ x ∈ ws, 0 ≤ x ∧ x ≤ 5) → ∀ y ∈ ws, y ≤ ws.sum
  | [], _, y, hy => by simp at hy
  | x :: r, h, y, hy => by
    have h1 := h x (List.mem_cons_self ..)
    have h2 := (sum_bound (ws := r) fun z hz => h z (List.mem_cons_of_mem _ hz)).1
    rw [List.sum_cons]
    rcases List.mem_cons.mp hy with z | z
    · omega
    · have := mem_sum (ws := r) (fun z hz => h z (List.mem_cons_of_mem _ hz)) y z
      omega
theorem mul_01 {p q : Rat} (hp : 0 ≤ p ∧ p ≤ 1) (hq : 0 ≤ q ∧ q ≤ 1) : 0 ≤ p * q ∧ p * q ≤ 1 := by
  refine ⟨Rat.mul_nonneg hp.1 hq.1, ?_⟩
  have := Rat.mul_le_mul_of_nonneg_right hp.2 hq.1
  have h2 := hq.2
  grind
theorem pow_01 {q : Rat} (hq : 0 ≤ q ∧ q ≤ 1) : ∀ k : Nat, 0 ≤ q ^ k ∧ q ^ k ≤ 1
  | 0 => by
    rw [Rat.pow_zero]
    exact ⟨by decide, Rat.le_refl⟩
  | k + 1 => by
    rw [Rat.pow_succ]
    exact mul_01 (pow_01 hq k) hq
theorem BaseLife.q01 {row : List RT} {step : RT} (h : BaseLife row step) : (∀ x ∈ row, 0 ≤ qv x ∧ qv x ≤ 1) ∧ 0 ≤ qv step ∧ qv step ≤ 1 := by
  have hs := h.sm
  refine ⟨fun x hx => ?_, div_01 hs.2.2.1 hs.2.1.1.1 (Int.le_of_lt hs.2.2.2)⟩
  rcases h with ⟨ws, extra, m, rfl⟩ | ⟨rfl, rfl⟩
  · obtain ⟨w0, _⟩ := m.whole
    unfold rowOf at hx
    obtain ⟨y, hy, rfl⟩ := List.mem_map.mp hx
    rw [qv_low2 w0]
    have h1 := (m.nn y hy).1
    have hd : 0 ≤ step.2 - step.1 := by
      have := hs.2.2.2
      omega
    refine div_01 (Int.mul_nonneg hd h1) w0 ?_
    have h2 := mem_sum m.nn y hy
    have h3 : (step.2 - step.1) * y ≤ (step.2 - step.1) * (ws.sum + extra) := Int.mul_le_mul_of_nonneg_left (by have := m.ex.1; omega) hd
    have h4 : 0 ≤ step.1 * lastW ws := Int.mul_nonneg hs.2.2.1 (Int.le_of_lt m.last)
    unfold wholeOf
    omega
  · simp at hx
theorem AnyLife.q01 {row : List RT} {step : RT} (h : AnyLife row step) : (∀ x ∈ row, 0 ≤ qv x ∧ qv x ≤ 1) ∧ 0 ≤ qv step ∧ qv step ≤ 1 := by
  rcases h with h | ⟨row0, l, h, h5, hs, hl, rfl⟩ | ⟨row0, h, h5, rfl, hs⟩
  · exact h.q01
  · obtain ⟨q1, q2⟩ := h.q01
    obtain ⟨s1, s2, _, _⟩ := h.sm
    refine ⟨fun x hx => ?_, q2⟩
    rcases List.mem_append.mp hx with z | z
    · exact q1 x z
    · rw [List.mem_singleton.mp z]
      have hm := List.mem_of_getElem? hl
      rw [(qv_rT (s1 l hm).1.1 s2.1).2]
      exact mul_01 (q1 l hm) q2
  · obtain ⟨q1, q2⟩ := h.q01
    refine ⟨fun x hx => ?_, ?_⟩
    · rcases List.mem_append.mp hx with z | z
      · exact q1 x z
      · rw [List.mem_singleton.mp z, qv_nought]
        exact ⟨Rat.le_refl, by decide⟩
    · rcases hs with rfl | rfl
      · exact div_01 (by decide) (by decide) (by decide)
      · exact div_01 (by decide) (by decide) (by decide)
theorem chR_01 {row : List RT} {step : RT} (h1 : ∀ x ∈ row, 0 ≤ qv x ∧ qv x ≤ 1) (h2 : 0 ≤ qv step ∧ qv step ≤ 1) (i : Nat) : 0 ≤ chR row step i ∧ chR row step i ≤ 1 := by
  match e : row[i]? with
  | some x =>
    rw [chR_in e]
    exact h1 x (List.mem_of_getElem? e)
  | none =>
    have hle : row.length ≤ i := List.getElem?_eq_none_iff.mp e
    match el : row.getLast? with
    | none =>
      rw [List.getLast?_eq_none_iff.mp el, chR_nil]
      exact ⟨Rat.le_refl, by decide⟩
    | some l =>
      rw [chR_out hle el]
      exact mul_01 (h1 l (List.mem_of_getLast? el)) (pow_01 h2 _)
theorem AnyLife.step4 {row : List RT} {step : RT} (h : AnyLife row step) : 0 < step.2 ∧ step.2 ≤ 4 := by
  have b : ∀ {row : List RT} {step : RT}, BaseLife row step → 0 < step.2 ∧ step.2 ≤ 4 := fun h => by
    rcases h with ⟨ws, extra, m, _⟩ | ⟨_, rfl⟩
    · rcases m.st with rfl | rfl | rfl | rfl | rfl <;> decide
    · decide
  rcases h with h | ⟨_, _, h, _⟩ | ⟨_, _, _, _, hs⟩
  · exact b h
  · exact b h
  · rcases hs with rfl | rfl <;> decide
theorem pow_four {x : Int} (h : 0 < x ∧ x ≤ 4) : ∀ k : Nat, 0 < x ^ k ∧ x ^ k ≤ 4 ^ k
  | 0 => by
    rw [Int.pow_zero, Int.pow_zero]
    decide
  | k + 1 => by
    obtain ⟨h1, h2⟩ := pow_four h k
    rw [Int.pow_succ, Int.pow_succ]
    exact ⟨Int.mul_pos h1 h.1, Int.mul_le_mul h2 h.2 (Int.le_of_lt h.1) (Int.le_of_lt (Int.lt_of_lt_of_le h1 h2))⟩
theorem AnyLife.ch01 {row : List RT} {step : RT} (h : AnyLife row step) : ∃ D : Int, Ch01 D (chR row step) 20 := by
  obtain ⟨W, hW⟩ := h.w
  obtain ⟨L, _, _⟩ := h.ok
  obtain ⟨q1, q2⟩ := h.q01
  have sm20 : Sm 41 (step.2 ^ 20) := by
    obtain ⟨z1, z2⟩ := pow_four h.step4 20
    have e : (4 : Int) ^ 20 = 1099511627776 := by decide
    have e2 : (2 : Nat) ^ 41 = 2199023255552 := by decide
    unfold Sm
    rw [e2]
    rw [e] at z2
    omega
  have hD : 0 < W * step.2 ^ 20 := Int.mul_pos hW.pos (Int.pow_pos L.st.1.1.1)
  refine ⟨W * step.2 ^ 20, hD, (hW.sm.mul (show Sm 41 (step.2 ^ 20) from sm20)).mono (by decide), fun k _ => (chR_01 q1 q2 k).1, fun k _ => (chR_01 q1 q2 k).2, fun k hk => ?_⟩
  obtain ⟨x, sx, vx⟩ := ch_ex L k
  rw [← vx]
  exact Den.of hD sx.1.1 (ch_dvdW hW.dvd L.sm L.st.1.1 sx.1 vx hk)

end Fp

set_option Elab.async false
set_option linter.all false
set_option maxRecDepth 100000
set_option maxHeartbeats 4000000
set_option exponentiation.threshold 10000
namespace Fp
open PySem PySem.Spec PyProof.Rows L2
/-! ### the law's own puts -/
abbrev N_lp : List Str := ["_law_life_here", "_law_most_here", "_law_some", "_law_n", "_law_here"]
def retScope (b : List Stmt) (d : Scope) : Scope := match b with
  | [_, .Return (some (.ListComp _ _ sc _)) _] => sc
  | _ => d
section
variable {P : Program} {w : World} {K : PySem.W.Frag} {mg : Str → Option Value} {base : Heap}
def spLmost : Sp := fun vs H Q _ => ∃ (d c : Addr) (t : Int), vs = [.ref d] ∧ Feed H d c t ∧ t ≤ 800000 ∧ ∀ (r : Nat) H', r ≤ 20 → Keep d H H' → Feed H' d c (t + 1 + 1) → Q (.int (r : Int)) H'
def spLputs (K : PySem.W.Frag) : Sp := fun vs H Q _ => ∃ (p : Addr) (row : List RT) (step : RT) (n most : Nat) (D : Int), vs = [.ref p, .int (most : Int)] ∧ LifeAt K H p row step ∧ LifeOk n row step ∧ (row = [] → step = (0, 1)) ∧ Ch01 D (chR row step) 20 ∧ most ≤ 20 ∧
  ∀ z H', Same H H' → LsM K H' z (mkL (most + 1) (putQ row step)) → Q (.ref z) H'
theorem mkL_succ {i : Nat} {g : Nat → Rat} : mkL (i + 1) g = mkL i g ++ [rdq (g i)] := by
  unfold mkL
  rw [List.range_succ, List.map_append]
  rfl
theorem mkL_sum {n : Nat} {g : Nat → Rat} : ((mkL n g).map qv).sum = sumTo n g := by
  induction n with
  | zero => rfl
  | succ n ih =>
    rw [mkL_succ, List.map_append, sumTo_succ, ← ih]
    simp only [List.map_cons, List.map_nil]
    rw [sum_snoc, qv_rdq]
end

end Fp

set_option Elab.async false
set_option linter.all false
set_option maxRecDepth 100000
set_option maxHeartbeats 4000000
set_option exponentiation.threshold 10000
namespace Fp
open PySem PySem.Spec PyProof.Rows L2
/-! ### what is told anew is what is told times the puts -/
theorem tri_swap (f : Nat → Nat → Rat) : ∀ n, sumTo n (fun k => sumTo (n - k) (f k)) = sumTo n fun j => sumTo (n - j) fun k => f k j := by
  have key : ∀ (g : Nat → Nat → Rat) (n : Nat), sumTo (n + 1) (fun k => sumTo (n + 1 - k) (g k)) = sumTo n (fun k => sumTo (n - k) (g k)) + sumTo (n + 1) fun k => g k (n - k) := by
    intro g n
    rw [sumTo_succ, sumTo_succ (f := fun k => g k (n - k))]
    have e1 : sumTo n (fun k => sumTo (n + 1 - k) (g k)) = sumTo n (fun k => sumTo (n - k) (g k)) + sumTo n fun k => g k (n - k) := by
      rw [← sumTo_add]
      refine sumTo_congr fun k hk => ?_
      rw [show n + 1 - k = (n - k) + 1 by omega, sumTo_succ]
    have e2 : sumTo (n + 1 - n) (g n) = g n (n - n) := by
      rw [show n + 1 - n = 0 + 1 by omega, sumTo_succ, sumTo_zero, Nat.sub_self]
      grind
    rw [e1, e2]
    grind
  intro n
  induction n with
  | zero => rfl
  | succ n ih =>
    rw [key f n, key (fun j k => f k j) n, ih]
    congr 1
    have := sumTo_rev (n + 1) fun k => f k (n - k)
    rw [← this]
    refine sumTo_congr fun k hk => ?_
    rw [show n - (n + 1 - 1 - k) = k by omega, show n + 1 - 1 - k = n - k by omega]
theorem conv (a b : Nat → Rat) : ∀ n, renQ a b n = sumTo (n + 1) fun k => b k * renQ a oneAt (n - k) := by
  intro n
  induction n using Nat.strongRecOn with
  | ind n ih =>
    have p0 : renQ a oneAt 0 = 1 := by
      rw [renQ_is, sumTo_zero]
      show (1 : Rat) + 0 = 1
      grind
    rw [renQ_is a b n, sumTo_succ, Nat.sub_self, p0]
    have e : sumTo n (fun k => b k * renQ a oneAt (n - k)) = sumTo n fun k => sumTo (n - k) fun j => a j * (b k * renQ a oneAt (n - k - 1 - j)) := by
      refine sumTo_congr fun k hk => ?_
      rw [renQ_is a oneAt (n - k)]
      have : oneAt (n - k) = 0 := if_neg (by omega)
      rw [this]
      have e2 : sumTo (n - k) (fun j => a j * (b k * renQ a oneAt (n - k - 1 - j))) = b k * sumTo (n - k) fun j => a j * renQ a oneAt (n - k - 1 - j) := by
        rw [sumTo_mul]
        refine sumTo_congr fun j _ => ?_
        grind
      rw [e2]
      grind
    rw [e, tri_swap fun k j => a j * (b k * renQ a oneAt (n - k - 1 - j))]
    have e3 : (sumTo n fun j => sumTo (n - j) fun k => a j * (b k * renQ a oneAt (n - k - 1 - j))) = sumTo n fun j => a j * renQ a b (n - 1 - j) := by
      refine sumTo_congr fun j hj => ?_
      rw [← sumTo_mul, ih (n - 1 - j) (by omega), show n - 1 - j + 1 = n - j by omega]
      congr 1
      refine sumTo_congr fun k hk => ?_
      rw [show n - 1 - j - k = n - k - 1 - j by omega]
    rw [e3]
    grind
/-- told one beat later -/
def laterF (c : Nat → Rat) : Nat → Rat
  | 0 => 0
  | k + 1 => c k
theorem conv_later (a c : Nat → Rat) (n : Nat) : renQ a (laterF c) n = sumTo n fun k => c k * renQ a oneAt (n - 1 - k) := by
  rw [conv, sumTo_head]
  have e : (sumTo n fun j => laterF c (j + 1) * renQ a oneAt (n - (j + 1))) = sumTo n fun k => c k * renQ a oneAt (n - 1 - k) := by
    refine sumTo_congr fun k hk => ?_
    rw [show n - (k + 1) = n - 1 - k by omega]
    rfl
  rw [e]
  show (0 : Rat) * _ + _ = _
  grind

end Fp

set_option Elab.async false
set_option linter.all false
set_option maxRecDepth 100000
set_option maxHeartbeats 4000000
set_option exponentiation.threshold 10000
namespace Fp
open PySem PySem.Spec PyProof.Rows L2
/-! ### how great puts are -/
/-- a whole number over P -/
def Ov (P : Int) (q : Rat) : Prop := ∃ T : Int, q = (T : Rat) / (P : Rat)
theorem Ov.red {P : Int} {q : Rat} {s k : Nat} (hP : 0 < P) (h : Ov P q) (sP : Sm s P) (h0 : 0 ≤ q) (h1 : q ≤ 2 ^ k) : (rdq q).2 ∣ P ∧ Sm (s + k + 1) (rdq q).1 ∧ Sm s (rdq q).2 := by
  obtain ⟨T, hT⟩ := h
  have hc := cast_ne (Int.ne_of_gt hP)
  obtain ⟨r1, r2⟩ := red_small (rdq_red q) hP (by rw [qv_rdq]; exact hT)
  refine ⟨r1, ?_, dvd_small r1 hP sP⟩
  have hcp : (0 : Rat) < (P : Rat) := Rat.intCast_pos.mpr hP
  have e1 : (T : Rat) = q * (P : Rat) := by
    rw [hT]
    grind
  have t0 : 0 ≤ T := by
    have := Rat.mul_nonneg h0 (Rat.le_of_lt hcp)
    rw [← e1] at this
    exact Rat.intCast_nonneg.mp this
  have t1 : T ≤ 2 ^ k * P := by
    have := Rat.mul_le_mul_of_nonneg_right h1 (Rat.le_of_lt hcp)
    rw [← e1] at this
    have e2 : (2 : Rat) ^ k * (P : Rat) = ((2 ^ k * P : Int) : Rat) := by
      rw [Rat.intCast_mul, cast_pow 2 k]
      rfl
    rw [e2] at this
    exact Rat.intCast_le_intCast.mp this
  unfold Sm at *
  have t2 : T.natAbs ≤ 2 ^ k * P.natAbs := by
    have : (2 ^ k * P : Int).natAbs = 2 ^ k * P.natAbs := by
      rw [Int.natAbs_mul, Int.natAbs_pow]
      rfl
    omega
  have t3 : 2 ^ k * P.natAbs ≤ 2 ^ k * 2 ^ s := Nat.mul_le_mul_left _ (Nat.le_of_lt sP)
  have t4 : 2 ^ (s + k + 1) = 2 * (2 ^ k * 2 ^ s) := by
    rw [Nat.pow_succ, Nat.pow_add, Nat.mul_comm, Nat.mul_comm (2 ^ s)]
  have t5 : 0 < 2 ^ k * 2 ^ s := Nat.mul_pos (Nat.pow_pos (by decide)) (Nat.pow_pos (by decide))
  omega
theorem Ov.zero {P : Int} : Ov P 0 := ⟨0, by
  show (0 : Rat) = ((0 : Int) : Rat) / _
  rw [show ((0 : Int) : Rat) = 0 from rfl]
  grind⟩
theorem Ov.add {P : Int} {p q : Rat} (hP : 0 < P) (hp : Ov P p) (hq : Ov P q) : Ov P (p + q) := by
  obtain ⟨T, rfl⟩ := hp
  obtain ⟨S, rfl⟩ := hq
  refine ⟨T + S, ?_⟩
  have h2 := cast_ne (Int.ne_of_gt hP)
  rw [Rat.intCast_add]
  grind
theorem Ov.sum {P : Int} (hP : 0 < P) {n : Nat} {g : Nat → Rat} (h : ∀ j, j < n → Ov P (g j)) : Ov P (sumTo n g) := by
  induction n with
  | zero => exact Ov.zero
  | succ n ih =>
    rw [sumTo_succ]
    exact (ih fun j hj => h j (by omega)).add hP (h n (by omega))
theorem Den.ov {D : Int} {e : Nat} {q : Rat} (h : Den D e q) : Ov (D ^ e) q := h
theorem Ov.mul {P R : Int} {p q : Rat} (hP : 0 < P) (hR : 0 < R) (hp : Ov P p) (hq : Ov R q) : Ov (P * R) (p * q) := by
  obtain ⟨T, rfl⟩ := hp
  obtain ⟨S, rfl⟩ := hq
  refine ⟨T * S, ?_⟩
  have h1 := cast_ne (Int.ne_of_gt hP)
  have h2 := cast_ne (Int.ne_of_gt hR)
  rw [Rat.intCast_mul, Rat.intCast_mul]
  grind
section
variable {D : Int} {a : Nat → Rat} {M : Nat}
/-- puts: from nought to a power of two, over a power of the one number -/
theorem Ch01.put (h : Ch01 D a M) : ∀ n, n ≤ M → 0 ≤ renQ a oneAt n ∧ renQ a oneAt n ≤ 2 ^ n ∧ Den D n (renQ a oneAt n) := by
  have pp : ∀ m : Nat, (0 : Rat) < 2 ^ m := fun m => Rat.pow_pos (by decide)
  intro n
  induction n using Nat.strongRecOn with
  | ind n ih =>
    intro hn
    cases n with
    | zero =>
      have e : renQ a oneAt 0 = 1 := by
        rw [renQ_is, sumTo_zero]
        show (1 : Rat) + 0 = 1
        grind
      rw [e, Rat.pow_zero]
      refine ⟨by decide, Rat.le_refl, 1, ?_⟩
      rw [Int.pow_zero]
      grind
    | succ n =>
      have e : renQ a oneAt (n + 1) = sumTo (n + 1) fun j => a j * renQ a oneAt (n + 1 - 1 - j) := by
        rw [renQ_is]
        show (0 : Rat) + _ = _
        grind
      rw [e]
      refine ⟨?_, ?_, Den.sum h.pos fun j hj => ?_⟩
      · have := sumTo_le (n := n + 1) (f := fun _ => 0) (g := fun j => a j * renQ a oneAt (n + 1 - 1 - j)) fun j hj => Rat.mul_nonneg (h.ge j (by omega)) (ih (n + 1 - 1 - j) (by omega) (by omega)).1
        rw [sumTo_nought] at this
        exact this
      · have h2 : sumTo (n + 1) (fun j => a j * renQ a oneAt (n + 1 - 1 - j)) ≤ sumTo (n + 1) fun j => (2 : Rat) ^ (n + 1 - 1 - j) := sumTo_le fun j hj => by
          obtain ⟨i1, i2, _⟩ := ih (n + 1 - 1 - j) (by omega) (by omega)
          have h3 := Rat.mul_le_mul_of_nonneg_right (h.le j (by omega)) i1
          grind
        rw [sumTo_rev (n + 1) fun k => (2 : Rat) ^ k, two_sum] at h2
        grind
      · have := (h.den j (by omega)).mul h.pos (ih (n + 1 - 1 - j) (by omega) (by omega)).2.2
        exact this.mono h.pos (by omega)
end
/-- behind a first: over the product, from nought to a power of two -/
theorem after_ok {D D2 : Int} {a c : Nat → Rat} (h : Ch01 D a 20) (h2 : Ch01 D2 c 20) {n : Nat} (hn : n ≤ 20) : 0 ≤ renQ a (laterF c) n ∧ renQ a (laterF c) n ≤ 2 ^ n ∧ Ov (D2 * D ^ 20) (renQ a (laterF c) n) := by
  rw [conv_later]
  have hP : (0 : Int) < D ^ 20 := Int.pow_pos h.pos
  refine ⟨?_, ?_, Ov.sum (Int.mul_pos h2.pos hP) fun j hj => ?_⟩
  · have := sumTo_le (n := n) (f := fun _ => 0) (g := fun k => c k * renQ a oneAt (n - 1 - k)) fun j hj => Rat.mul_nonneg (h2.ge j (by omega)) (h.put (n - 1 - j) (by omega)).1
    rw [sumTo_nought] at this
    exact this
  · have h3 : sumTo n (fun k => c k * renQ a oneAt (n - 1 - k)) ≤ sumTo n fun j => (2 : Rat) ^ (n - 1 - j) := sumTo_le fun j hj => by
      obtain ⟨i1, i2, _⟩ := h.put (n - 1 - j) (by omega)
      have h4 := Rat.mul_le_mul_of_nonneg_right (h2.le j (by omega)) i1
      grind
    rw [sumTo_rev n fun k => (2 : Rat) ^ k, two_sum] at h3
    grind
  · have e1 := (h2.den j (by omega)).ov
    rw [Int.pow_succ, Int.pow_zero, Int.one_mul] at e1
    exact e1.mul h2.pos hP ((h.put (n - 1 - j) (by omega)).2.2.mono h.pos (show n - 1 - j ≤ 20 by omega)).ov
theorem cutV_from1 (vs : List V) : cutV vs (some 1) none = vs.drop 1 := by
  unfold cutV
  rw [HT.sIx_none, show (1 : Int) = ((1 : Nat) : Int) from rfl, HT.sIx_nat]
  rcases (by omega : 1 ≤ vs.length ∨ vs.length = 0) with z | z
  · rw [Nat.min_eq_left z, List.take_of_length_le (by rw [List.length_drop]; exact Nat.le_refl _)]
  · rw [List.length_eq_zero_iff.mp z]
    rfl

end Fp

set_option Elab.async false
set_option linter.all false
set_option maxRecDepth 100000
set_option maxHeartbeats 4000000
set_option exponentiation.threshold 10000
namespace Fp
open PySem PySem.Spec PyProof.Rows L2
/-! ### values with their size -/
/-- a whole number over P, within the k-th power of two -/
structure Sz (P : Int) (k : Nat) (q : Rat) : Prop where
  ov : Ov P q
  lo : -((2 : Rat) ^ k) ≤ q
  hi : q ≤ (2 : Rat) ^ k
theorem two_pos (k : Nat) : (0 : Rat) < (2 : Rat) ^ k := Rat.pow_pos (by decide)
theorem Sz.pos {P : Int} {k : Nat} {q : Rat} (h : Ov P q) (h0 : 0 ≤ q) (h1 : q ≤ (2 : Rat) ^ k) : Sz P k q := ⟨h, by have := two_pos k; grind, h1⟩
theorem Sz.mono {P : Int} {k j : Nat} {q : Rat} (h : Sz P k q) (l : k ≤ j) : Sz P j q := by
  have e := pow2_le l
  have h1 := h.lo
  have h2 := h.hi
  exact ⟨h.ov, by grind, by grind⟩
theorem Sz.neg {P : Int} {k : Nat} {q : Rat} (h : Sz P k q) : Sz P k (-q) := by
  obtain ⟨⟨T, hT⟩, h1, h2⟩ := h
  refine ⟨⟨-T, ?_⟩, by grind, by grind⟩
  rw [hT, Rat.intCast_neg]
  grind
theorem Sz.add {P : Int} {k : Nat} {p q : Rat} (hP : 0 < P) (h1 : Sz P k p) (h2 : Sz P k q) : Sz P (k + 1) (p + q) := by
  have a1 := h1.lo
  have a2 := h1.hi
  have b1 := h2.lo
  have b2 := h2.hi
  refine ⟨h1.ov.add hP h2.ov, ?_, ?_⟩ <;> (rw [Rat.pow_succ]; grind)
theorem Sz.mul {P R : Int} {k j : Nat} {p q : Rat} (hP : 0 < P) (hR : 0 < R) (h1 : Sz P k p) (h2 : Sz R j q) : Sz (P * R) (k + j) (p * q) := by
  have a1 : 0 ≤ (2 : Rat) ^ k + p := by have := h1.lo; grind
  have a2 : 0 ≤ (2 : Rat) ^ k - p := by have := h1.hi; grind
  have b1 : 0 ≤ (2 : Rat) ^ j + q := by have := h2.lo; grind
  have b2 : 0 ≤ (2 : Rat) ^ j - q := by have := h2.hi; grind
  have x1 := Rat.mul_nonneg a1 b1
  have x2 := Rat.mul_nonneg a1 b2
  have x3 := Rat.mul_nonneg a2 b1
  have x4 := Rat.mul_nonneg a2 b2
  refine ⟨h1.ov.mul hP hR h2.ov, ?_, ?_⟩ <;> (rw [pow_plus]; grind)
theorem Ov.dvd {P R : Int} {q : Rat} (h : Ov P q) (hP : 0 < P) (hR : 0 < R) (d : P ∣ R) : Ov R q := by
  obtain ⟨T, rfl⟩ := h
  obtain ⟨u, rfl⟩ := d
  refine ⟨T * u, ?_⟩
  have h1 := cast_ne (Int.ne_of_gt hP)
  have h2 := cast_ne (Int.ne_of_gt hR)
  rw [Rat.intCast_mul] at h2
  rw [Rat.intCast_mul, Rat.intCast_mul]
  grind
theorem Sz.dvd {P R : Int} {k : Nat} {q : Rat} (h : Sz P k q) (hP : 0 < P) (hR : 0 < R) (d : P ∣ R) : Sz R k q := ⟨h.ov.dvd hP hR d, h.lo, h.hi⟩
theorem Sz.sum {P : Int} {k n : Nat} {g : Nat → Rat} (hP : 0 < P) (h : ∀ j, j < n → Sz P k (g j)) (hn : n ≤ 128) : Sz P (k + 7) (sumTo n g) := by
  have key : ∀ m : Nat, m ≤ n → -(((m : Int) : Rat) * (2 : Rat) ^ k) ≤ sumTo m g ∧ sumTo m g ≤ ((m : Int) : Rat) * (2 : Rat) ^ k := by
    intro m
    induction m with
    | zero =>
      intro _
      rw [sumTo_zero, show (((0 : Nat) : Int) : Rat) = 0 from rfl]
      constructor <;> grind
    | succ m ih =>
      intro hm
      obtain ⟨i1, i2⟩ := ih (by omega)
      have z := h m (by omega)
      have z1 := z.lo
      have z2 := z.hi
      rw [sumTo_succ, show ((m + 1 : Nat) : Int) = (m : Int) + 1 by omega, Rat.intCast_add]
      rw [show ((1 : Int) : Rat) = 1 from rfl]
      constructor <;> grind
  obtain ⟨k1, k2⟩ := key n (Nat.le_refl _)
  have e : ((n : Int) : Rat) * (2 : Rat) ^ k ≤ (2 : Rat) ^ (k + 7) := by
    rw [pow_plus]
    have l : ((n : Int) : Rat) ≤ ((128 : Int) : Rat) := Rat.intCast_le_intCast.mpr (by omega)
    have := Rat.mul_le_mul_of_nonneg_right l (Rat.le_of_lt (two_pos k))
    have e2 : (2 : Rat) ^ 7 = ((128 : Int) : Rat) := by decide +kernel
    rw [e2]
    grind
  exact ⟨Ov.sum hP fun j hj => (h j hj).ov, by grind, by grind⟩
theorem Sz.red {P : Int} {q : Rat} {s k : Nat} (h : Sz P k q) (hP : 0 < P) (sP : Sm s P) : (rdq q).2 ∣ P ∧ Sm (s + k + 1) (rdq q).1 ∧ Sm s (rdq q).2 := by
  obtain ⟨⟨T, hT⟩, h0, h1⟩ := h
  have hc := cast_ne (Int.ne_of_gt hP)
  obtain ⟨r1, r2⟩ := red_small (rdq_red q) hP (by rw [qv_rdq]; exact hT)
  refine ⟨r1, ?_, dvd_small r1 hP sP⟩
  have hcp : (0 : Rat) < (P : Rat) := Rat.intCast_pos.mpr hP
  have e1 : (T : Rat) = q * (P : Rat) := by
    rw [hT]
    grind
  have e2 : (2 : Rat) ^ k * (P : Rat) = ((2 ^ k * P : Int) : Rat) := by
    rw [Rat.intCast_mul, cast_pow 2 k]
    rfl
  have t1 : T ≤ 2 ^ k * P := by
    have := Rat.mul_le_mul_of_nonneg_right h1 (Rat.le_of_lt hcp)
    rw [← e1, e2] at this
    exact Rat.intCast_le_intCast.mp this
  have t0 : -(2 ^ k * P) ≤ T := by
    have := Rat.mul_le_mul_of_nonneg_right h0 (Rat.le_of_lt hcp)
    rw [← e1] at this
    refine Rat.intCast_le_intCast.mp ?_
    rw [Rat.intCast_neg, ← e2]
    grind
  unfold Sm at *
  have t2 : T.natAbs ≤ 2 ^ k * P.natAbs := by
    have : (2 ^ k * P : Int).natAbs = 2 ^ k * P.natAbs := by
      rw [Int.natAbs_mul, Int.natAbs_pow]
      rfl
    omega
  have t3 : 2 ^ k * P.natAbs ≤ 2 ^ k * 2 ^ s := Nat.mul_le_mul_left _ (Nat.le_of_lt sP)
  have t4 : 2 ^ (s + k + 1) = 2 * (2 ^ k * 2 ^ s) := by
    rw [Nat.pow_succ, Nat.pow_add, Nat.mul_comm, Nat.mul_comm (2 ^ s)]
  have t5 : 0 < 2 ^ k * 2 ^ s := Nat.mul_pos (Nat.pow_pos (by decide)) (Nat.pow_pos (by decide))
  omega
theorem Sz.smr {P : Int} {q : Rat} {s k n : Nat} (h : Sz P k q) (hP : 0 < P) (sP : Sm s P) (hn : s + k + 1 ≤ n) : SmR n (rdq q) := by
  obtain ⟨_, h2, h3⟩ := h.red hP sP
  exact ⟨rdq_red _, h2.mono hn, h3.mono (by omega)⟩
/-- a put: its size -/
theorem Ch01.putSz {D : Int} {a : Nat → Rat} {M : Nat} (h : Ch01 D a M) {n e : Nat} (hn : n ≤ M) (he : n ≤ e) : Sz (D ^ e) n (renQ a oneAt n) := by
  obtain ⟨x1, x2, x3⟩ := h.put n hn
  exact Sz.pos (x3.mono h.pos he).ov x1 x2
theorem Ch01.chSz {D : Int} {a : Nat → Rat} {M : Nat} (h : Ch01 D a M) {n : Nat} (hn : n < M) : Sz D 0 (a n) := by
  refine Sz.pos ?_ (h.ge n hn) (by rw [Rat.pow_zero]; exact h.le n hn)
  have := (h.den n hn).ov
  rw [Int.pow_succ, Int.pow_zero, Int.one_mul] at this
  exact this
/-- chances further on -/
structure ChL (D : Int) (a : Nat → Rat) (M : Nat) : Prop where
  pos : 0 < D
  sm : Sm 174 D
  ge : ∀ k, k < M → 0 ≤ a k
  le : ∀ k, k < M → a k ≤ 1
  den : ∀ k, k < M → Den D 1 (a k)
theorem ChL.chSz {D : Int} {a : Nat → Rat} {M : Nat} (h : ChL D a M) {n : Nat} (hn : n < M) : Sz D 0 (a n) := by
  refine Sz.pos ?_ (h.ge n hn) (by rw [Rat.pow_zero]; exact h.le n hn)
  have := (h.den n hn).ov
  rw [Int.pow_succ, Int.pow_zero, Int.one_mul] at this
  exact this
theorem Ch01.powSm {D : Int} {a : Nat → Rat} {M : Nat} (h : Ch01 D a M) (e : Nat) : 0 < D ^ e ∧ Sm (110 * e + 1) (D ^ e) := ⟨Int.pow_pos h.pos, sm_pow h.sm (by decide) e⟩
theorem Sz.nought {P : Int} {k : Nat} : Sz P k 0 := ⟨Ov.zero, by have := two_pos k; grind, by have := two_pos k; grind⟩
theorem Sz.one {k : Nat} {P : Int} (hP : 0 < P) : Sz P k 1 := by
  refine ⟨⟨P, ?_⟩, ?_, ?_⟩
  · have := cast_ne (Int.ne_of_gt hP)
    grind
  · have := two_pos k
    grind
  · have := pow2_le (Nat.zero_le k)
    rw [Rat.pow_zero] at this
    exact this
/-! ### lists told by value -/
theorem mem_mkL {n : Nat} {f : Nat → Rat} {x : RT} (h : x ∈ mkL n f) : ∃ j, j < n ∧ x = rdq (f j) := by
  obtain ⟨j, hj⟩ := List.mem_iff_getElem?.mp h
  have hj2 := (List.getElem?_eq_some_iff.mp hj).1
  rw [mkL_len] at hj2
  rw [mkL_at hj2] at hj
  exact ⟨j, hj2, (Option.some.inj hj).symm⟩
theorem over_mkL {P : Int} {n s k : Nat} {f : Nat → Rat} (hP : 0 < P) (sP : Sm s P) (z : ∀ j, j < n → Sz P k (f j)) (hn : n ≤ 1000) : Over1 (s + k + 1) s P (mkL n f) := by
  refine ⟨hP, sP, fun x hx => ?_, by rw [mkL_len]; exact hn⟩
  obtain ⟨j, hj, rfl⟩ := mem_mkL hx
  obtain ⟨h1, h2, h3⟩ := (z j hj).red hP sP
  exact ⟨(rdq_red _).1, h1, h2⟩
section
variable {K : PySem.W.Frag} {H : Hp} {Q : VK}
theorem tnil_go {σ : L2.St} {R : List V → Hp → Prop} (h : R [] H) : tNil σ H R := h
theorem lsum_go {p : Addr} {P : Int} {n s k : Nat} {f : Nat → Rat} (h : LsM K H p (mkL n f)) (hP : 0 < P) (sP : Sm s P) (z : ∀ j, j < n → Sz P k (f j)) (hn : n ≤ 1000) (hs : s ≤ 2500) (hk : k ≤ 900)
    (q : ∀ r H', Same H H' → RAt K H' r (rdq (sumTo n f)) → Q (.ref r) H') : spLsum K LstAt [.ref p] H Q E0 := by
  obtain ⟨rs, h1, h2⟩ := h
  refine ⟨p, _, _, _, P, rfl, ⟨rs, SqL.of h1, h2⟩, over_mkL hP sP z hn, by omega, by omega, fun y x HF sF hy rx vx _ _ => ?_⟩
  have ex : x = rdq (sumTo n f) := is_rdq rx (by rw [vx, mkL_sum])
  rw [ex] at hy
  exact q y HF sF hy
theorem lsumT_go {p : Addr} {P : Int} {n s k : Nat} {f : Nat → Rat} (h : RowAt K H p (mkL n f)) (hP : 0 < P) (sP : Sm s P) (z : ∀ j, j < n → Sz P k (f j)) (hn : n ≤ 1000) (hs : s ≤ 2500) (hk : k ≤ 900)
    (q : ∀ r H', Same H H' → RAt K H' r (rdq (sumTo n f)) → Q (.ref r) H') : spLsum K RowAt [.ref p] H Q E0 := by
  refine ⟨p, _, _, _, P, rfl, h, over_mkL hP sP z hn, by omega, by omega, fun y x HF sF hy rx vx _ _ => ?_⟩
  have ex : x = rdq (sumTo n f) := is_rdq rx (by rw [vx, mkL_sum])
  rw [ex] at hy
  exact q y HF sF hy
theorem times_go {p1 p2 : Addr} {x y : Rat} (h1 : RAt K H p1 (rdq x)) (h2 : RAt K H p2 (rdq y)) (s1 : SmR 3000 (rdq x)) (s2 : SmR 3000 (rdq y)) (q : ∀ r H', Same H H' → RAt K H' r (rdq (x * y)) → Q (.ref r) H') : spTwo K (fun a b c d => a * c) [.ref p1, .ref p2] H Q E0 := by
  refine ⟨p1, p2, _, _, _, _, rfl, ⟨h1, h2, s1.2.1, s1.2.2, s2.2.1, s2.2.2, s1.1.1, s2.1.1⟩, fun b nb => ?_⟩
  have e := same_new (o := HO.tup [.int (rT (rdq x) (rdq y)).1, .int (rT (rdq x) (rdq y)).2]) nb
  obtain ⟨y1, y2⟩ := qv_rT s1.1 s2.1
  have ep : rT (rdq x) (rdq y) = rdq (x * y) := is_rdq y1 (by rw [y2, qv_rdq, qv_rdq])
  refine q b _ e ?_
  rw [← ep]
  exact SqT.of upd_same
theorem minus_go {p1 p2 : Addr} {x y : Rat} (h1 : RAt K H p1 (rdq x)) (h2 : RAt K H p2 (rdq y)) (s1 : SmR 3000 (rdq x)) (s2 : SmR 3000 (rdq y)) (q : ∀ r H', Same H H' → RAt K H' r (rdq (x - y)) → Q (.ref r) H') : spTwo K (fun a b c d => a * d - c * b) [.ref p1, .ref p2] H Q E0 := by
  refine ⟨p1, p2, _, _, _, _, rfl, ⟨h1, h2, s1.2.1, s1.2.2, s2.2.1, s2.2.2, s1.1.1, s2.1.1⟩, fun b nb => ?_⟩
  have e := same_new (o := HO.tup [.int (rM (rdq x) (rdq y)).1, .int (rM (rdq x) (rdq y)).2]) nb
  obtain ⟨y1, y2⟩ := qv_rM s1.1 s2.1
  have ep : rM (rdq x) (rdq y) = rdq (x - y) := is_rdq y1 (by rw [y2, qv_rdq, qv_rdq])
  refine q b _ e ?_
  rw [← ep]
  exact SqT.of upd_same
/-- a tuple of a list -/
theorem RowAt.of_ls {p b : Addr} {xs : List RT} {rs : List Addr} (h1 : H p = some (.lst (rs.map V.ref))) (h2 : RsAt K H rs xs) (nb : H b = none) : RowAt K (upd H b (.tup (rs.map V.ref))) b xs := ⟨rs, SqT.of upd_same, h2.tk (Tk.same (same_new nb))⟩
/-- a wish of an object alone -/
@[reducible] def refQ (Qd : Addr → Hp → Prop) : VK := fun v H2 => match v with
  | .ref D => Qd D H2
  | _ => False
/-- a comprehension each turn of which gives a ratio told by its value -/
theorem lc_mkW {J : It} {n : Nat} {G : Hp → Prop} {Y : Nat → Hp → V → Hp → Prop} (w : Walk J n G Y) {g : TG} {te : TE} {vs : List Nat} {σ : L2.St} {H1 : Hp} (f : Nat → Rat) (hn : n ≤ 900) (hG : ∀ HE, Same H1 HE → G HE)
    (hs : ∀ (k : Nat) (x : V) (HE HE' : Hp) (R : VK), k < n → Same H1 HE → Y k HE x HE' → (∀ r HF, Same HE HF → RAt K HF r (rdq (f k)) → R (.ref r) HF) → g x (wipe σ vs) HE' fun σ2 H2 => wipe σ2 vs = wipe σ vs ∧ te σ2 H2 R)
    {Qd : Addr → Hp → Prop} (hd : ∀ D H2, Same H1 H2 → LsM K H2 D (mkL n f) → Qd D H2) : tLc (fun _ H2 R => R J H2) g tYes te vs σ H1 (refQ Qd) := by
  intro D nD
  have e1 := same_new (o := HO.lst []) nD
  refine lc_it w (fun k HE => ∃ qs : List Addr, Same H1 HE ∧ HE D = some (.lst (qs.map V.ref)) ∧ RsAt K HE qs (mkL k f)) ⟨[], e1, upd_same, .nil⟩ ?_ ?_ ?_
  · rintro i HE _ ⟨_, sE, _⟩
    exact hG HE sE
  · rintro k x HE HE' hk ⟨qs, sE, hE, hqs⟩ hY
    have hql := hqs.length
    rw [mkL_len] at hql
    refine hs k x HE HE' _ hk sE hY fun r HF sF hr => ?_
    have hE5 := sF _ _ hE
    refine ⟨_, hE5, by rw [List.length_map, hql]; exact small1000 (by omega), qs ++ [r], ?_, ?_, ?_⟩
    · intro b2 o hb2
      rw [upd_ne (ne_of_none hb2 nD)]
      exact (sE.trans sF) _ _ hb2
    · rw [upd_same, List.map_append]
      rfl
    · rw [mkL_succ]
      exact ((hqs.tk (Tk.same sF)).append (.cons hr .nil)).tk (tk_lst hE5)
  · rintro HE ⟨qs, sE, hE, hqs⟩
    exact hd D HE sE ⟨qs, hE, hqs⟩
theorem lc_mk {lo : Int} {n : Nat} {g : TG} {te : TE} {vs : List Nat} {σ : L2.St} {H1 : Hp} (f : Nat → Rat) (hn : n ≤ 900)
    (hs : ∀ (k : Nat) (HE : Hp) (R : VK), k < n → Same H1 HE → (∀ r HF, Same HE HF → RAt K HF r (rdq (f k)) → R (.ref r) HF) → g (.int (lo + k)) (wipe σ vs) HE fun σ2 H2 => wipe σ2 vs = wipe σ vs ∧ te σ2 H2 R)
    {Qd : Addr → Hp → Prop} (hd : ∀ D H2, Same H1 H2 → LsM K H2 D (mkL n f) → Qd D H2) : tLc (fun _ H2 R => R (Itr lo n) H2) g tYes te vs σ H1 (refQ Qd) := by
  refine lc_mkW walk_range f hn (fun _ _ => trivial) (fun k x HE HE' R hk sE hY q => ?_) hd
  obtain ⟨rfl, rfl⟩ := hY
  exact hs k _ R hk sE q
end

end Fp

set_option Elab.async false
set_option linter.all false
set_option maxRecDepth 100000
set_option maxHeartbeats 4000000
set_option exponentiation.threshold 10000
namespace Fp
open PySem PySem.Spec PyProof.Rows L2
/-! ### lists of ratios: parts, joined, cut -/
section
variable {K : PySem.W.Frag} {H H' : Hp}
theorem LsM.keep {d c p : Addr} {t : Int} {xs : List RT} (h : LsM K H p xs) (f : Feed H d c t) (k : Keep d H H') : LsM K H' p xs := by
  obtain ⟨rs, h1, h2⟩ := h
  exact ⟨rs, keep_at f k h1 (by intro _ z; cases z), h2.tk (Tk.keep f k)⟩
theorem LsM.ix {p : Addr} {xs : List RT} {m : Nat} {x : RT} {k : Int} {Q : VK} (h : LsM K H p xs) (hk : k = (m : Int)) (hm : xs[m]? = some x) (q : ∀ r, RAt K H r x → Q (.ref r) H) : rIxL K (.ref p) (.int k) H Q := by
  obtain ⟨rs, h1, h2⟩ := h
  obtain ⟨r, e1, e2⟩ := h2.get hm
  have g2 : (rs.map V.ref)[m]? = some (.ref r) := by
    rw [List.getElem?_map, e1]
    rfl
  exact ⟨p, _, _, _, rfl, rfl, SqL.of h1, at_of hk g2, q r e2⟩
/-- [x] * k -/
theorem rep_ls {p a : Addr} {x : RT} {k : Nat} {Q : VK} (h : H p = some (.lst [.ref a])) (ha : RAt K H a x) (hk : k ≤ 900) (q : ∀ r H', Same H H' → LsM K H' r (List.replicate k x) → Q (.ref r) H') : rRep (.ref p) (.int (k : Int)) H Q := by
  refine ⟨p, _, _, rfl, rfl, h, by omega, by omega, ?_, fun b nb => ?_⟩
  · rw [Int.toNat_natCast]
    show 1 * k ≤ sizeLine
    exact Nat.le_trans (show 1 * k ≤ 1000 by omega) (by decide)
  have ef : (List.replicate (k : Int).toNat [V.ref a]).flatten = (List.replicate k a).map V.ref := by
    rw [flat_rep, List.map_replicate, Int.toNat_natCast]
  rw [ef] at *
  have e := same_new (o := HO.lst ((List.replicate k a).map V.ref)) nb
  exact q b _ e ⟨_, upd_same, RsAt.rep (ha.tk (Tk.same e)) k⟩
theorem cat_ls {p r : Addr} {xs ys : List RT} {Q : VK} (h1 : LsM K H p xs) (h2 : LsM K H r ys) (hl : xs.length + ys.length ≤ 900) (q : ∀ b H', Same H H' → LsM K H' b (xs ++ ys) → Q (.ref b) H') : rCat (.ref p) (.ref r) H Q := by
  obtain ⟨as, a1, a2⟩ := h1
  obtain ⟨bs, b1, b2⟩ := h2
  have la := a2.length
  have lb := b2.length
  refine ⟨p, r, _, _, rfl, rfl, a1, b1, ?_, fun b nb => ?_⟩
  · rw [List.length_map, List.length_map, sizeLine_eq]
    omega
  have e := same_new (o := HO.lst (as.map V.ref ++ bs.map V.ref)) nb
  refine q b _ e ⟨as ++ bs, ?_, (a2.append b2).tk (Tk.same e)⟩
  rw [upd_same, List.map_append]
/-- xs[:n] of a list -/
theorem take_ls {p : Addr} {xs : List RT} {n : Nat} {Q : VK} (h : LsM K H p xs) (q : ∀ b H', Same H H' → LsM K H' b (xs.take n) → Q (.ref b) H') : rSlL K (.ref p) none (some (n : Int)) H Q := by
  obtain ⟨as, a1, a2⟩ := h
  refine ⟨p, _, rfl, SqL.of a1, fun b nb => ?_⟩
  rw [cutV_take]
  have e := same_new (o := HO.lst ((as.map V.ref).take n)) nb
  refine q b _ e ⟨as.take n, ?_, (a2.take n).tk (Tk.same e)⟩
  rw [upd_same, List.map_take]
/-- the same, and that it is new -/
theorem rep_ls2 {p a : Addr} {x : RT} {k : Nat} {Q : VK} (h : H p = some (.lst [.ref a])) (ha : RAt K H a x) (hk : k ≤ 900) (q : ∀ r H', Same H H' → H r = none → LsM K H' r (List.replicate k x) → Q (.ref r) H') : rRep (.ref p) (.int (k : Int)) H Q := by
  refine ⟨p, _, _, rfl, rfl, h, by omega, by omega, ?_, fun b nb => ?_⟩
  · rw [Int.toNat_natCast]
    show 1 * k ≤ sizeLine
    exact Nat.le_trans (show 1 * k ≤ 1000 by omega) (by decide)
  have ef : (List.replicate (k : Int).toNat [V.ref a]).flatten = (List.replicate k a).map V.ref := by
    rw [flat_rep, List.map_replicate, Int.toNat_natCast]
  rw [ef] at *
  have e := same_new (o := HO.lst ((List.replicate k a).map V.ref)) nb
  exact q b _ e nb ⟨_, upd_same, RsAt.rep (ha.tk (Tk.same e)) k⟩
/-- appending to a list that stands beside others -/
theorem LsM.push {p r : Addr} {xs : List RT} {x : RT} {rs : List Addr} (h1 : H p = some (.lst (rs.map V.ref))) (h2 : RsAt K H rs xs) (hr : RAt K H r x) : LsM K (upd H p (.lst (rs.map V.ref ++ [.ref r]))) p (xs ++ [x]) := by
  refine ⟨rs ++ [r], ?_, (h2.append (.cons hr .nil)).tk (tk_lst h1)⟩
  rw [upd_same, List.map_append]
  rfl
end
section
variable {K : PySem.W.Frag} {H : Hp}
theorem set_ls {p r : Addr} {xs : List RT} {x : RT} {m : Nat} {k : Int} {Q : Hp → Prop} (h : LsM K H p xs) (hr : RAt K H r x) (hk : k = (m : Int)) (hm : m < xs.length) (q : ∀ H', Tk K H H' → (∀ b, b ≠ p → H' b = H b) → LsM K H' p (xs.set m x) → Q H') : rSetL (.ref p) (.int k) (.ref r) H Q := by
  obtain ⟨rs, h1, h2⟩ := h
  have hl := h2.length
  refine ⟨p, _, _, m, rfl, rfl, h1, ?_, ?_⟩
  · subst hk
    unfold ixN
    rw [List.length_map, hl, if_pos (by omega), if_pos (by omega)]
    congr 1
  · refine q _ (tk_lst h1) (fun b hb => upd_ne hb) ⟨rs.set m r, ?_, (RsAt.set hr m h2).tk (tk_lst h1)⟩
    rw [upd_same, List.map_set]
end

end Fp

set_option Elab.async false
set_option linter.all false
set_option maxRecDepth 100000
set_option maxHeartbeats 4000000
set_option exponentiation.threshold 10000
namespace Fp
open PySem PySem.Spec PyProof.Rows L2
/-! ### lists of objects of one sort -/
def Obs {α : Type} (At : Hp → Addr → α → Prop) (H : Hp) (rs : List Addr) (ys : List α) : Prop := rs.length = ys.length ∧ ∀ (i : Nat) (r : Addr) (y : α), rs[i]? = some r → ys[i]? = some y → At H r y
/-- a sort of object that stands while tuples stand -/
def Stays {α : Type} (K : PySem.W.Frag) (At : Hp → Addr → α → Prop) : Prop := ∀ H H' r y, Tk K H H' → At H r y → At H' r y
section
variable {α : Type} {At : Hp → Addr → α → Prop} {K : PySem.W.Frag} {H H' : Hp}
theorem Obs.nil : Obs At H [] [] := ⟨rfl, fun i r y h => by simp at h⟩
theorem Obs.tk {rs : List Addr} {ys : List α} (st : Stays K At) (h : Obs At H rs ys) (e : Tk K H H') : Obs At H' rs ys := ⟨h.1, fun i r y h1 h2 => st _ _ _ _ e (h.2 i r y h1 h2)⟩
theorem Obs.append {rs qs : List Addr} {ys zs : List α} (h : Obs At H rs ys) (g : Obs At H qs zs) : Obs At H (rs ++ qs) (ys ++ zs) := by
  refine ⟨by rw [List.length_append, List.length_append, h.1, g.1], fun i r y h1 h2 => ?_⟩
  rcases Nat.lt_or_ge i rs.length with z | z
  · rw [List.getElem?_append_left z] at h1
    rw [List.getElem?_append_left (by rw [← h.1]; exact z)] at h2
    exact h.2 i r y h1 h2
  · rw [List.getElem?_append_right z] at h1
    rw [List.getElem?_append_right (by rw [← h.1]; exact z), ← h.1] at h2
    exact g.2 _ r y h1 h2
theorem Obs.one {r : Addr} {y : α} (h : At H r y) : Obs At H [r] [y] := by
  refine ⟨rfl, fun i q z h1 h2 => ?_⟩
  match i, h1, h2 with
  | 0, h1, h2 =>
    cases Option.some.inj h1
    cases Option.some.inj h2
    exact h
theorem Obs.get {rs : List Addr} {ys : List α} {i : Nat} {y : α} (h : Obs At H rs ys) (e : ys[i]? = some y) : ∃ r, rs[i]? = some r ∧ At H r y := by
  have hi := (List.getElem?_eq_some_iff.mp e).1
  rw [← h.1] at hi
  exact ⟨rs[i], List.getElem?_eq_getElem hi, h.2 i _ y (List.getElem?_eq_getElem hi) e⟩
/-- a list that may be changed, of such objects -/
def OLs (At : Hp → Addr → α → Prop) (H : Hp) (p : Addr) (ys : List α) : Prop := ∃ rs : List Addr, H p = some (.lst (rs.map V.ref)) ∧ Obs At H rs ys
theorem OLs.same {p : Addr} {ys : List α} (st : Stays K At) (h : OLs At H p ys) (e : Same H H') : OLs At H' p ys := by
  obtain ⟨rs, h1, h2⟩ := h
  exact ⟨rs, e _ _ h1, h2.tk st (Tk.same e)⟩
/-- a comprehension each turn of which gives such an object -/
theorem lc_obsW (st : Stays K At) {J : It} {n : Nat} {G : Hp → Prop} {Y : Nat → Hp → V → Hp → Prop} (w : Walk J n G Y) {g : TG} {te : TE} {vs : List Nat} {σ : L2.St} {H1 : Hp} (f : List α) (hf : f.length = n) (hn : n ≤ 900) (hG : ∀ HE, Same H1 HE → G HE)
    (hs : ∀ (k : Nat) (y : α) (x : V) (HE HE' : Hp) (R : VK), f[k]? = some y → Same H1 HE → Y k HE x HE' → (∀ r HF, Same HE HF → At HF r y → R (.ref r) HF) → g x (wipe σ vs) HE' fun σ2 H2 => wipe σ2 vs = wipe σ vs ∧ te σ2 H2 R)
    {Qd : Addr → Hp → Prop} (hd : ∀ D H2, Same H1 H2 → OLs At H2 D f → Qd D H2) : tLc (fun _ H2 R => R J H2) g tYes te vs σ H1 (refQ Qd) := by
  intro D nD
  have e1 := same_new (o := HO.lst []) nD
  refine lc_it w (fun k HE => ∃ qs : List Addr, Same H1 HE ∧ HE D = some (.lst (qs.map V.ref)) ∧ Obs At HE qs (f.take k)) ⟨[], e1, upd_same, Obs.nil⟩ ?_ ?_ ?_
  · rintro i HE _ ⟨_, sE, _⟩
    exact hG HE sE
  · rintro k x HE HE' hk ⟨qs, sE, hE, hqs⟩ hY
    have hql := hqs.1
    rw [List.length_take] at hql
    obtain ⟨y, hy⟩ : ∃ y, f[k]? = some y := ⟨f[k], List.getElem?_eq_getElem (by omega)⟩
    refine hs k y x HE HE' _ hy sE hY fun r HF sF hr => ?_
    have hE5 := sF _ _ hE
    refine ⟨_, hE5, by rw [List.length_map, hql]; exact small1000 (by omega), qs ++ [r], ?_, ?_, ?_⟩
    · intro b2 o hb2
      rw [upd_ne (ne_of_none hb2 nD)]
      exact (sE.trans sF) _ _ hb2
    · rw [upd_same, List.map_append]
      rfl
    · rw [List.take_add_one, hy]
      exact ((hqs.tk st (Tk.same sF)).append (Obs.one hr)).tk st (tk_lst hE5)
  · rintro HE ⟨qs, sE, hE, hqs⟩
    rw [List.take_of_length_le (by omega)] at hqs
    exact hd D HE sE ⟨qs, hE, hqs⟩
end
section
variable {K : PySem.W.Frag} {H : Hp} {Q : VK}
theorem cat_ints {p q : Addr} {xs ys : List Int} (a1 : SqT K H p (xs.map V.int)) (b1 : SqT K H q (ys.map V.int)) (hl : xs.length + ys.length ≤ 1000) (h : ∀ r H', Same H H' → SqT K H' r ((xs ++ ys).map V.int) → Q (.ref r) H') : rCatA K (.ref p) (.ref q) H Q := by
  refine ⟨p, q, _, _, rfl, rfl, a1, b1, ?_, fun z => ?_, fun _ z => ?_, fun _ _ r nr => ?_⟩
  · rw [List.length_map, List.length_map, sizeLine_eq]
    omega
  · have e : xs = [] := List.map_eq_nil_iff.mp z
    subst e
    exact h q H (Same.refl H) b1
  · have e : ys = [] := List.map_eq_nil_iff.mp z
    subst e
    refine h p H (Same.refl H) ?_
    rw [List.append_nil]
    exact a1
  · have s := same_new (o := HO.tup (xs.map V.int ++ ys.map V.int)) nr
    refine h r _ s ?_
    rw [List.map_append]
    exact SqT.of upd_same
end

end Fp

set_option Elab.async false
set_option linter.all false
set_option maxRecDepth 100000
set_option maxHeartbeats 4000000
set_option exponentiation.threshold 10000
namespace Fp
open PySem PySem.Spec PyProof.Rows L2
/-! ### what laws share -/
theorem mkL_rowD_sh {n : Nat} {g : Nat → Rat} (hn : n ≤ 21) (h : ∀ m, m < n → SmR 1900 (rdq (g m))) : Shows (.tuple (rowD (mkL n g))) := by
  refine (Shs.row (n := 1900) (by decide) (xs := mkL n g) fun x hx => ?_).tup.shows (by rw [mkL_len]; omega) (by decide)
  obtain ⟨j, hj⟩ := List.mem_iff_getElem?.mp hx
  have hj2 := (List.getElem?_eq_some_iff.mp hj).1
  rw [mkL_len] at hj2
  rw [mkL_at hj2] at hj
  cases Option.some.inj hj
  exact h j hj2
section
variable {P : Program} {w : World} {K : PySem.W.Frag} {mg : Str → Option Value} {base : Heap}
theorem drop1_row {H : Hp} {p : Addr} {xs : List RT} {Q : VK} (h : RowAt K H p xs) (hl : 1 ≤ xs.length) (hq : ∀ r H', Same H H' → RowAt K H' r (xs.drop 1) → Q (.ref r) H') : rSlA K (.ref p) (some 1) none H Q := by
  obtain ⟨rs, h1, h2⟩ := h
  have hl2 := h2.length
  refine ⟨p, _, rfl, h1, fun z => ?_, fun _ r nr => ?_⟩
  · have z1 := z.1
    rw [show (1 : Int) = ((1 : Nat) : Int) from rfl, HT.sIx_nat, List.length_map] at z1
    omega
  · rw [cutV_from1]
    have s := same_new (o := HO.tup ((rs.map V.ref).drop 1)) nr
    refine hq r _ s ⟨rs.drop 1, ?_, (h2.drop 1).tk (Tk.same s)⟩
    rw [List.map_drop]
    exact SqT.of upd_same
theorem noPart_go {σ : L2.St} {H : Hp} {k : Option Int → Hp → Prop} (h : k none H) : tNoPart σ H k := h
def spLaw (K : PySem.W.Frag) : Sp := fun vs H Q _ => ∃ (a : Addr) (ns : List Int), vs = [.ref a] ∧ SqL K H a (ns.map V.int) ∧ ∀ H', Q (.bl true) H'
end

end Fp

set_option Elab.async false
set_option linter.all false
set_option maxRecDepth 100000
set_option maxHeartbeats 4000000
set_option exponentiation.threshold 10000
namespace Fp
open PySem PySem.Spec PyProof.Rows L2
/-! ### renewed, by values -/
theorem IsCh.told {row : List RT} {step : RT} {n most : Nat} {chs : List RT} (h : IsCh row step n most chs) : chs = mkL most (chR row step) := by
  refine List.ext_getElem (by rw [mkL_len, h.len]) fun m h1 h2 => ?_
  have hm : m < most := by
    rw [mkL_len] at h2
    exact h2
  have e := mkL_at (g := chR row step) hm
  rw [List.getElem?_eq_getElem h2] at e
  rw [Option.some.inj e]
  obtain ⟨o1, o2⟩ := h.ok m _ (List.getElem?_eq_getElem h1)
  exact is_rdq o1.1 o2
theorem qa_mkL {n j : Nat} {g : Nat → Rat} (h : j < n) : qa (mkL n g) j = g j := by rw [qa_at (mkL_at h), qv_rdq]
theorem mkL_cons {n : Nat} {c : Nat → Rat} : mkL (n + 1) (laterF c) = (0, 1) :: mkL n c := by
  unfold mkL
  rw [List.range_succ_eq_map, List.map_cons, List.map_map]
  show rdq 0 :: _ = _
  rw [rdq_zero.mpr rfl]
  rfl
theorem mkL_drop {n : Nat} {g : Nat → Rat} : (mkL (n + 1) g).drop 1 = mkL n fun i => g (i + 1) := by
  unfold mkL
  rw [List.range_succ_eq_map, List.map_cons, List.map_map]
  rfl
section
variable {K : PySem.W.Frag} {H : Hp} {Q : VK}
theorem ren_go {p t : Addr} {m n s1 k1 s2 k2 : Nat} {A B : Nat → Rat} {P1 P2 : Int} (h1 : LsM K H p (mkL m A)) (h2 : LsM K H t (mkL n B)) (hP1 : 0 < P1) (sP1 : Sm s1 P1) (z1 : ∀ j, j < m → Sz P1 k1 (A j)) (hP2 : 0 < P2) (sP2 : Sm s2 P2) (z2 : ∀ j, j < n → Sz P2 k2 (B j))
    (hn : n ≤ 22) (hm : n ≤ m + 1) (hm2 : m ≤ 900) (hs1 : s1 ≤ 300) (hk1 : k1 ≤ 1000) (hs2 : s2 ≤ 300) (hk2 : k2 ≤ 1000) (q : ∀ z H', Same H H' → LsM K H' z (mkL n (renQ A B)) → Q (.ref z) H') : spRen K [.ref p, .ref t] H Q E0 := by
  obtain ⟨r1, a1, a2⟩ := h1
  obtain ⟨r2, b1, b2⟩ := h2
  refine ⟨p, t, _, _, _, _, _, _, _, _, rfl, ⟨r1, SqL.of a1, a2⟩, ⟨r2, SqL.of b1, b2⟩, over_mkL hP1 sP1 z1 (by omega), over_mkL hP2 sP2 z2 (by omega), by omega, hs1, by omega, hs2, by rw [mkL_len]; exact hn, by rw [mkL_len, mkL_len]; exact hm, fun z rs H' s hz hrs => ?_⟩
  refine q z H' s ⟨rs, hz, ?_⟩
  rw [mkL_len] at hrs
  have e : ((List.range n).map fun i => rdq (renQ (qa (mkL m A)) (qa (mkL n B)) i)) = mkL n (renQ A B) := by
    unfold mkL
    refine List.map_congr_left fun i hi => ?_
    have hi2 := List.mem_range.mp hi
    show rdq (renQ (qa (mkL m A)) (qa (mkL n B)) i) = rdq (renQ A B i)
    rw [renQ_congr (m := i) (Nat.le_refl _) (fun j hj => qa_mkL (g := A) (show j < m by omega)) (fun j hj => qa_mkL (g := B) (show j < n by omega))]
  rw [e] at hrs
  exact hrs
/-- xs[1:] of a list -/
theorem drop1_ls {p : Addr} {xs : List RT} (h : LsM K H p xs) (q : ∀ b H', Same H H' → LsM K H' b (xs.drop 1) → Q (.ref b) H') : rSlL K (.ref p) (some 1) none H Q := by
  obtain ⟨as, a1, a2⟩ := h
  refine ⟨p, _, rfl, SqL.of a1, fun b nb => ?_⟩
  rw [cutV_from1]
  have e := same_new (o := HO.lst ((as.map V.ref).drop 1)) nb
  refine q b _ e ⟨as.drop 1, ?_, (a2.drop 1).tk (Tk.same e)⟩
  rw [upd_same, List.map_drop]
end
/-! ### a share: from nought to one, by a small bottom -/
structure Part (b : Int) (s : Rat) : Prop where
  pos : 0 < b
  le5 : b ≤ 5
  ov : Ov b s
  ge : 0 ≤ s
  le : s ≤ 1
theorem Part.sm {b : Int} {s : Rat} (h : Part b s) : Sm 3 b := by
  have := h.pos
  have := h.le5
  unfold Sm
  omega
theorem Part.rest {b : Int} {s : Rat} (h : Part b s) : Part b (1 - s) := by
  obtain ⟨h1, h2, ⟨T, hT⟩, h4, h5⟩ := h
  refine ⟨h1, h2, ⟨b - T, ?_⟩, by grind, by grind⟩
  have := cast_ne (Int.ne_of_gt h1)
  rw [hT, Rat.intCast_sub]
  grind
theorem Part.sz {b : Int} {s : Rat} (h : Part b s) : Sz b 0 s := Sz.pos h.ov h.ge (by rw [Rat.pow_zero]; exact h.le)
theorem Part.pow {b : Int} {s : Rat} (h : Part b s) : ∀ j : Nat, Den b j (s ^ j) ∧ 0 ≤ s ^ j ∧ s ^ j ≤ 1
  | 0 => by
    rw [Rat.pow_zero]
    refine ⟨⟨1, ?_⟩, by decide, Rat.le_refl⟩
    rw [Int.pow_zero]
    grind
  | j + 1 => by
    obtain ⟨i1, i2, i3⟩ := h.pow j
    rw [Rat.pow_succ]
    have m := mul_01 ⟨i2, i3⟩ ⟨h.ge, h.le⟩
    have d : Den b 1 s := by
      obtain ⟨T, hT⟩ := h.ov
      refine ⟨T, ?_⟩
      rw [Int.pow_succ, Int.pow_zero, Int.one_mul]
      exact hT
    exact ⟨i1.mul h.pos d, m.1, m.2⟩
theorem Part.low {t b : Int} (h0 : 0 ≤ t) (h1 : t ≤ b) (hb : 0 < b) (h5 : b ≤ 5) : Part b (qv (low2 t b)) := by
  rw [qv_low2 hb]
  obtain ⟨x1, x2⟩ := div_01 h0 hb h1
  exact ⟨hb, h5, ⟨t, rfl⟩, x1, x2⟩
def thinQ (a : Nat → Rat) (s : Rat) (n : Nat) : Rat := renQ (fun j => (1 - s) * a j) (laterF fun j => s * a j) n
theorem pQ_scale (a : Nat → Rat) (c : Rat) : ∀ j m, pQ (fun i => c * a i) j m = c ^ j * pQ a j m
  | 0, m => by
    show oneAt m = c ^ 0 * oneAt m
    rw [Rat.pow_zero]
    grind
  | j + 1, m => by
    show (sumTo m fun k => c * a k * pQ (fun i => c * a i) j (m - 1 - k)) = c ^ (j + 1) * sumTo m fun k => a k * pQ a j (m - 1 - k)
    rw [sumTo_mul]
    refine sumTo_congr fun k _ => ?_
    rw [pQ_scale a c j, Rat.pow_succ]
    grind
/-- thinned: by how many parts there are, all but the last one lost -/
theorem thin_parts (a : Nat → Rat) (s : Rat) {n N : Nat} (h : n ≤ N) : thinQ a s n = sumTo N fun j => s * (1 - s) ^ j * pQ a (j + 1) n := by
  rcases Nat.eq_zero_or_pos N with z | z
  · have e : n = 0 := by omega
    subst z e
    unfold thinQ
    rw [conv_later, sumTo_zero, sumTo_zero]
  obtain ⟨M, rfl⟩ : ∃ M, N = M + 1 := ⟨N - 1, by omega⟩
  unfold thinQ
  rw [conv_later]
  have e : (sumTo n fun k => s * a k * renQ (fun j => (1 - s) * a j) oneAt (n - 1 - k)) = sumTo n fun k => sumTo (M + 1) fun j => s * a k * ((1 - s) ^ j * pQ a j (n - 1 - k)) := by
    refine sumTo_congr fun k hk => ?_
    rw [← put_parts (fun j => (1 - s) * a j) (n - 1 - k) M (by omega), sumTo_mul]
    refine sumTo_congr fun j _ => ?_
    rw [pQ_scale]
  rw [e, sumTo_swap]
  refine sumTo_congr fun j _ => ?_
  show _ = s * (1 - s) ^ j * sumTo n fun k => a k * pQ a j (n - 1 - k)
  rw [sumTo_mul]
  refine sumTo_congr fun k _ => ?_
  grind

end Fp

set_option Elab.async false
set_option linter.all false
set_option maxRecDepth 100000
set_option maxHeartbeats 4000000
set_option exponentiation.threshold 10000
namespace Fp
open PySem PySem.Spec PyProof.Rows L2
/-! ### lists of whole numbers told by a function -/
def mkI (n : Nat) (f : Nat → Int) : List Int := (List.range n).map f
theorem mkI_len {n : Nat} {f : Nat → Int} : (mkI n f).length = n := by
  unfold mkI
  rw [List.length_map, List.length_range]
theorem mkI_at {n m : Nat} {f : Nat → Int} (h : m < n) : (mkI n f)[m]? = some (f m) := by
  unfold mkI
  rw [List.getElem?_map, List.getElem?_range h]
  rfl
theorem mkI_succ {n : Nat} {f : Nat → Int} : mkI (n + 1) f = mkI n f ++ [f n] := by
  unfold mkI
  rw [List.range_succ, List.map_append]
  rfl
theorem mkI_congr {n : Nat} {f g : Nat → Int} (h : ∀ m, m < n → f m = g m) : mkI n f = mkI n g := by
  unfold mkI
  exact List.map_congr_left fun m hm => h m (List.mem_range.mp hm)
theorem mkI_sum {n : Nat} {f : Nat → Int} : (((mkI n f).sum : Int) : Rat) = sumTo n fun j => ((f j : Int) : Rat) := sumTo_cast f n
theorem mkI_take {n m : Nat} {f : Nat → Int} (h : m ≤ n) : (mkI n f).take m = mkI m f := by
  unfold mkI
  rw [← List.map_take, List.take_range, Nat.min_eq_left h]
theorem is_mkI {xs : List Int} : xs = mkI xs.length (getI xs) := by
  refine List.ext_getElem (by rw [mkI_len]) fun m h1 h2 => ?_
  have e := mkI_at (f := getI xs) h1
  rw [List.getElem?_eq_getElem h2] at e
  rw [Option.some.inj e]
  unfold getI
  rw [List.getElem?_eq_getElem h1]
  rfl
theorem mkI_sm {e n : Nat} {f : Nat → Int} (h : ∀ j, j < n → Sm e (f j)) (hn : n ≤ 32) : Sm (e + 6) (mkI n f).sum := by
  refine sum_sm (fun x hx => ?_) (by rw [mkI_len]; exact hn)
  obtain ⟨j, hj, rfl⟩ := List.mem_map.mp hx
  exact h j (List.mem_range.mp hj)
theorem mkI_rep {n : Nat} {c : Int} : mkI n (fun _ => c) = List.replicate n c := by
  unfold mkI
  rw [List.map_const', List.length_range]
section
variable {K : PySem.W.Frag} {H : Hp} {Q : VK}
def IntL (H : Hp) (p : Addr) (n : Nat) (f : Nat → Int) : Prop := H p = some (.lst ((mkI n f).map V.int))
theorem ixI_go {p : Addr} {n m : Nat} {f : Nat → Int} {k : Int} (h : IntL H p n f) (hk : k = (m : Int)) (hm : m < n) (q : Q (.int (f m)) H) : rIxL K (.ref p) (.int k) H Q :=
  ⟨p, _, _, _, rfl, rfl, SqL.of h, at_of hk (by rw [List.getElem?_map, mkI_at hm]; rfl), q⟩
theorem sumI_go {p : Addr} {n : Nat} {f : Nat → Int} (h : IntL H p n f) (q : Q (.int (mkI n f).sum) H) : rSum K [.ref p] H Q := ⟨p, _, rfl, SqL.of h, q⟩
theorem takeI_go {p : Addr} {n m : Nat} {f : Nat → Int} (h : IntL H p n f) (hm : m ≤ n) (q : ∀ b H', Same H H' → IntL H' b m f → Q (.ref b) H') : rSlL K (.ref p) none (some (m : Int)) H Q := by
  refine ⟨p, _, rfl, SqL.of h, fun b nb => ?_⟩
  rw [cutV_take, ← List.map_take, mkI_take hm]
  exact q b _ (same_new nb) upd_same
theorem lc_intW {J : It} {n : Nat} {G : Hp → Prop} {Y : Nat → Hp → V → Hp → Prop} (w : Walk J n G Y) {g : TG} {te : TE} {vs : List Nat} {σ : L2.St} {H1 : Hp} (f : Nat → Int) (hn : n ≤ 900) (hG : ∀ HE, Same H1 HE → G HE)
    (hs : ∀ (k : Nat) (x : V) (HE HE' : Hp) (R : VK), k < n → Same H1 HE → Y k HE x HE' → (∀ HF, Same HE HF → R (.int (f k)) HF) → g x (wipe σ vs) HE' fun σ2 H2 => wipe σ2 vs = wipe σ vs ∧ te σ2 H2 R)
    {Qd : Addr → Hp → Prop} (hd : ∀ D H2, Same H1 H2 → IntL H2 D n f → Qd D H2) : tLc (fun _ H2 R => R J H2) g tYes te vs σ H1 (refQ Qd) := by
  intro D nD
  have e1 := same_new (o := HO.lst []) nD
  refine lc_it w (fun k HE => Same H1 HE ∧ HE D = some (.lst ((mkI k f).map V.int))) ⟨e1, upd_same⟩ ?_ ?_ ?_
  · rintro i HE _ ⟨sE, _⟩
    exact hG HE sE
  · rintro k x HE HE' hk ⟨sE, hE⟩ hY
    refine hs k x HE HE' _ hk sE hY fun HF sF => ?_
    have hE5 := sF _ _ hE
    refine ⟨_, hE5, by rw [List.length_map, mkI_len]; exact small1000 (by omega), ?_, ?_⟩
    · intro b2 o hb2
      rw [upd_ne (ne_of_none hb2 nD)]
      exact (sE.trans sF) _ _ hb2
    · rw [upd_same, mkI_succ, List.map_append]
      rfl
  · rintro HE ⟨sE, hE⟩
    exact hd D HE sE hE
theorem lc_int {lo : Int} {n : Nat} {g : TG} {te : TE} {vs : List Nat} {σ : L2.St} {H1 : Hp} (f : Nat → Int) (hn : n ≤ 900)
    (hs : ∀ (k : Nat) (HE : Hp) (R : VK), k < n → Same H1 HE → (∀ HF, Same HE HF → R (.int (f k)) HF) → g (.int (lo + k)) (wipe σ vs) HE fun σ2 H2 => wipe σ2 vs = wipe σ vs ∧ te σ2 H2 R)
    {Qd : Addr → Hp → Prop} (hd : ∀ D H2, Same H1 H2 → IntL H2 D n f → Qd D H2) : tLc (fun _ H2 R => R (Itr lo n) H2) g tYes te vs σ H1 (refQ Qd) := by
  refine lc_intW walk_range f hn (fun _ _ => trivial) (fun k x HE HE' R hk sE hY q => ?_) hd
  obtain ⟨rfl, rfl⟩ := hY
  exact hs k _ R hk sE q
/-- on one bottom, by values -/
theorem oob_go {p : Addr} {m s k : Nat} {A : Nat → Rat} {P : Int} (h : LsM K H p (mkL m A)) (hP : 0 < P) (sP : Sm s P) (z : ∀ j, j < m → Sz P k (A j)) (hm : m ≤ 900) (hs : s ≤ 2500) (hk : k ≤ 900)
    (q : ∀ z zl c T H', Same H H' → H' z = some (.tup [.ref zl, .int c]) → IntL H' zl m T → 0 < c → c ∣ P → Sm s c → (∀ j, j < m → ((T j : Int) : Rat) = (c : Rat) * A j) → (∀ j, j < m → Sm (2 * s + k + 1) (T j)) → Q (.ref z) H') : spOob K [.ref p] H Q E0 := by
  obtain ⟨rs, h1, h2⟩ := h
  have O := over_mkL hP sP z (show m ≤ 1000 by omega)
  refine ⟨p, _, _, _, _, rfl, ⟨rs, SqL.of h1, h2⟩, O, by omega, by omega, fun z1 zl c H' s1 hz hzl c0 cD hc => ?_⟩
  have hl : (mkL m A).length = m := mkL_len
  refine q z1 zl c (getI (topsOn c (mkL m A))) H' s1 hz ?_ c0 cD (dvd_small cD hP sP) (fun j hj => ?_) (fun j hj => ?_)
  · have e := is_mkI (xs := topsOn c (mkL m A))
    rw [tops_len, hl] at e
    unfold IntL
    rw [← e]
    exact hzl
  · rw [tops_val c0 (by rw [hl]; exact hj) fun x hx => ⟨(O.ok x hx).1, hc x hx⟩, qa_mkL hj]
  · have := tops_each (n := s + k + 1) O.pos cD O.sm (xs := mkL m A) (j := j) (by rw [hl]; exact hj) fun x hx => (O.ok x hx).2.2
    exact this.mono (by omega)
/-- a ratio of two whole numbers, by its value -/
theorem rat_go {t b : Int} {v : Rat} (hb : 0 < b) (s8 : b.natAbs < 2 ^ 8000) (e : ((t : Int) : Rat) = v * (b : Rat)) (q : ∀ r H', Same H H' → RAt K H' r (rdq v) → Q (.ref r) H') : spRat0 [.int t, .int b] H Q E0 := by
  refine ⟨t, b, rfl, s8, Int.ne_of_gt hb, fun p np => ?_⟩
  have hc := cast_ne (Int.ne_of_gt hb)
  have ex : low2 t b = rdq v := by
    refine is_rdq (low2_red (Int.ne_of_gt hb)) ?_
    rw [qv_low2 hb, e]
    grind
  refine q p _ (same_new np) ?_
  rw [← ex]
  exact SqT.of upd_same
end

end Fp

set_option Elab.async false
set_option linter.all false
set_option maxRecDepth 100000
set_option maxHeartbeats 4000000
set_option exponentiation.threshold 10000
namespace Fp
open PySem PySem.Spec PyProof.Rows L2
/-! ### counts -/
def countQ (a : Nat → Rat) (beat j : Nat) : Rat := sumTo (beat + 1) fun n => pQ a j n * (1 - sumTo (beat - n) a)
section
variable {P : Program} {w : World} {K : PySem.W.Frag} {mg : Str → Option Value} {base : Heap}
def spCounts (K : PySem.W.Frag) : Sp := fun vs H Q _ => ∃ (p : Addr) (row : List RT) (step : RT) (n beat : Nat) (D : Int), vs = [.ref p, .int (beat : Int)] ∧ LifeAt K H p row step ∧ LifeOk n row step ∧ Ch01 D (chR row step) 20 ∧ beat ≤ 20 ∧
  ∀ z H', Same H H' → RowAt K H' z (mkL (beat + 1) (countQ (chR row step) beat)) → Q (.ref z) H'
end

end Fp

set_option Elab.async false
set_option linter.all false
set_option maxRecDepth 100000
set_option maxHeartbeats 4000000
set_option exponentiation.threshold 10000
namespace Fp
open PySem PySem.Spec PyProof.Rows L2
/-! ### all chances together -/
structure Tot (row : List RT) (step : RT) (N E : Int) : Prop where
  nn : 0 ≤ N
  ee : 0 ≤ E
  pos : 0 < N + E
  le : N + E ≤ 255
  val : rowQ row + behQ row step = (N : Rat) / ((N + E : Int) : Rat)
theorem behQ_snoc (ys : List RT) (y step : RT) : behQ (ys ++ [y]) step = qv y * qv step / (1 - qv step) := by
  unfold behQ
  rw [List.getLast?_append]
  rfl
theorem rowQ_snoc (ys : List RT) (y : RT) : rowQ (ys ++ [y]) = rowQ ys + qv y := by
  unfold rowQ
  rw [List.map_append]
  exact sum_snoc _ _
theorem rowOf_sum {D k : Int} (hD : 0 < D) : ∀ ws : List Int, ((ws.map fun x => low2 (k * x) D).map qv).sum = ((k * ws.sum : Int) : Rat) / (D : Rat)
  | [] => by
    show (0 : Rat) = ((k * 0 : Int) : Rat) / _
    rw [Int.mul_zero]
    have := cast_ne (Int.ne_of_gt hD)
    show (0 : Rat) = 0 / _
    grind
  | x :: r => by
    have ih := rowOf_sum hD (k := k) r
    show qv (low2 (k * x) D) + ((r.map fun x => low2 (k * x) D).map qv).sum = _
    rw [ih, qv_low2 hD, List.sum_cons, Int.mul_add, Rat.intCast_add]
    have := cast_ne (Int.ne_of_gt hD)
    grind
theorem BaseLife.tot {row : List RT} {step : RT} (h : BaseLife row step) : ∃ N E, Tot row step N E := by
  rcases h with ⟨ws, extra, m, rfl⟩ | ⟨rfl, rfl⟩
  · obtain ⟨w0, w1⟩ := m.whole
    obtain ⟨s0, s1, s2, s3⟩ := m.step_ok
    have hS := sum_bound m.nn
    have hL := m.last
    have hE := m.ex
    refine ⟨(step.2 - step.1) * ws.sum + step.1 * lastW ws, (step.2 - step.1) * extra, ?_⟩
    have e : (step.2 - step.1) * ws.sum + step.1 * lastW ws + (step.2 - step.1) * extra = wholeOf ws extra step := by
      unfold wholeOf
      rw [Int.mul_add]
      omega
    refine ⟨Int.add_nonneg (Int.mul_nonneg (by omega) hS.1) (Int.mul_nonneg s0 (Int.le_of_lt hL)), Int.mul_nonneg (by omega) hE.1, by rw [e]; exact w0, by rw [e]; omega, ?_⟩
    rw [e]
    rcases snoc_cases ws with z | ⟨ys, y, z⟩
    · exact absurd z m.ne
    · have ey : lastW ws = y := by
        rw [z]
        unfold lastW
        simp
      have hr : rowQ (rowOf ws extra step) = (((step.2 - step.1) * ws.sum : Int) : Rat) / (wholeOf ws extra step : Rat) := rowOf_sum w0 ws
      have hb : behQ (rowOf ws extra step) step = ((step.1 * lastW ws : Int) : Rat) / (wholeOf ws extra step : Rat) := by
        have er : rowOf ws extra step = (ys.map fun x => low2 ((step.2 - step.1) * x) (wholeOf ws extra step)) ++ [low2 ((step.2 - step.1) * y) (wholeOf ws extra step)] := by
          show ws.map _ = _
          conv => lhs; rw [z]
          rw [List.map_append]
          rw [← z]
          rfl
        rw [er, behQ_snoc, qv_low2 w0, ey]
        have h1 := cast_ne (Int.ne_of_gt w0)
        have h2 := gap_val s3 s1
        have h3 := cast_ne (Int.ne_of_gt s3.1)
        rw [Rat.intCast_mul, Rat.intCast_mul, Rat.intCast_sub]
        unfold qv at *
        have h4 : (step.2 : Rat) - (step.1 : Rat) ≠ 0 := by
          intro z4
          apply h2
          grind
        grind
      rw [hr, hb, Rat.intCast_add]
      have h1 := cast_ne (Int.ne_of_gt w0)
      grind
  · refine ⟨0, 1, by decide, by decide, by decide, by decide, ?_⟩
    show (0 : Rat) + 0 = ((0 : Int) : Rat) / _
    show (0 : Rat) + 0 = 0 / _
    grind
theorem AnyLife.tot {row : List RT} {step : RT} (h : AnyLife row step) : ∃ N E, Tot row step N E := by
  have st := h.ok.1.st
  rcases h with h | ⟨row0, l, h, h5, hs, hl, rfl⟩ | ⟨row0, h, h5, rfl, hs⟩
  · exact h.tot
  · obtain ⟨N, E, t⟩ := h.tot
    obtain ⟨s1, s2, _, _⟩ := h.sm
    refine ⟨N, E, t.nn, t.ee, t.pos, t.le, ?_⟩
    rw [← t.val, rowQ_snoc, behQ_snoc, (qv_rT (s1 l (List.mem_of_getElem? hl)).1.1 s2.1).2]
    rcases snoc_cases row0 with z | ⟨ys, y, z⟩
    · rw [z] at hl
      simp at hl
    · have ey : l = y := by
        rw [z] at hl
        simpa using hl.symm
      rw [z, behQ_snoc, ← ey]
      have := gap_val st.1.1 st.2.2
      grind
  · obtain ⟨N, E, t⟩ := h.tot
    refine ⟨N, E, t.nn, t.ee, t.pos, t.le, ?_⟩
    rw [← t.val, rowQ_snoc, behQ_snoc, qv_nought]
    have hb : behQ row0 (0, 1) = 0 := by
      unfold behQ
      split
      · rfl
      · rw [qv_nought]
        grind
    rw [hb]
    grind

end Fp

set_option Elab.async false
set_option linter.all false
set_option maxRecDepth 100000
set_option maxHeartbeats 4000000
set_option exponentiation.threshold 10000
namespace Fp
open PySem PySem.Spec PyProof.Rows L2
/-! ### added: told as a tuple -/
section
variable {P : Program} {w : World} {K : PySem.W.Frag} {mg : Str → Option Value} {base : Heap}
def spOobT (K : PySem.W.Frag) : Sp := fun vs H Q _ => ∃ (p : Addr) (xs : List RT) (n d : Nat) (D : Int), vs = [.ref p] ∧ RowAt K H p xs ∧ Over1 n d D xs ∧ n ≤ 4000 ∧ d ≤ 4000 ∧
  ∀ z zl c H', Same H H' → H' z = some (.tup [.ref zl, .int c]) → H' zl = some (.lst ((topsOn c xs).map V.int)) → 0 < c → c ∣ D → (∀ x ∈ xs, x.2 ∣ c) → Q (.ref z) H'
theorem ok_oobT {f fC : Addr} {fd fdC : FuncData} (F : Fun K "on_one_bottom" "on_one_bottom" s_oob f fd) (FC : Fun K "common_divisor" "common_divisor" s_cd fC fdC) (bC : Binds K fdC ["one", "other"] []) (gC : mg "common_divisor" = some (.ref fC)) (ma : mg "abs" = none) :
    FnOk P w K mg base CX0 2 f fd ["told"] (spOobT K) := by
  have GC : FnOk P w K mg base CX0 1 fC fdC ["one", "other"] spCd := ok_cd FC ma
  refine F.ok sc_oob (fun vs H Q E h => ?_) (fun cdv A outer s H vs Q E hr h => ?_)
  · obtain ⟨_, _, _, _, _, rfl, _⟩ := h
    rfl
  · obtain ⟨p, xs, n, d, D, rfl, hlst, O, hn, hd, q⟩ := h
    obtain ⟨rs, r1, r2⟩ := id hlst
    have hl := r2.length
    refine ⟨_, (pss_cons (ps_set (i := 1) sc_oob.nd rfl (.inr rfl) pe_int) (pss_cons (ps_for PassesOwn.never rfl (pi_tup (pv 0)) (pg_tup rfl (pgs_cons (pg_name (i := 2) sc_oob.nd rfl (.inl rfl)) (pgs_cons (pg_name (i := 3) sc_oob.nd rfl (.inl rfl)) pgs_nil)))
          (pss_one (ps_set (i := 1) sc_oob.nd rfl (.inr rfl) (pe_op op_mulA (pe_op op_fdivA (pv 1) (pe_call GC hr (by rfl) gC FC.kp bC .nil pass0 (pa_cons (pv 1) (pa_cons (pv 3) pa_nil)))) (pv 3))))) (pss_one (ps_ret (pe_tup (pa_cons (pe_lc (own := [("top", 2), ("bottom", 3)]) (g := gTup K 2 (gCons (gName 2) (gCons (gName 3) gNil))) (tt := tYes) (te := tOp (rI CMulA fun i j => .int (i * j)) (tVar 2) (tOp (rI CDivA fun i j => .int (i.fdiv j)) (tVar 1) (tVar 3))) rfl sc_oob.nd (pi_tup (pv 0)) (blkOk_by (own := [("top", 2), ("bottom", 3)]) (N := N_oob) (sc := defScope s_oob) (by decide +kernel))
          (fun _ _ _ _ _ => pg_tup rfl (pgs_cons (pg_name (i := 2) sc_oob.nd rfl (.inl rfl)) (pgs_cons (pg_name (i := 3) sc_oob.nd rfl (.inl rfl)) pgs_nil))) (fun _ _ _ _ _ => pts_nil) (fun _ _ _ _ _ => pe_op op_mulA (pv 2) (pe_op op_fdivA (pv 1) (pv 3)))) (pa_cons (pv 1) pa_nil))))))), ?_⟩
    refine ⟨_, rfl, p, rfl, ⟨_, r1⟩, for_tup (K := K) (a := p) (xs := rs.map V.ref) (fun i σ H1 => H1 = H ∧ ∃ (c : Int) (y2 y3 : Option V), σ = [some (.ref p), some (.int c), y2, y3] ∧ 0 < c ∧ c ∣ D ∧ ∀ x ∈ xs.take i, x.2 ∣ c) ?_ ?_ ?_ ?_⟩
    · exact ⟨rfl, 1, _, _, rfl, by decide, Int.one_dvd D, fun x hx => by simp at hx⟩
    · rintro i σ H1 _ ⟨rfl, _⟩
      exact r1
    · rintro i y σ H1 hi ⟨rfl, c, y2, y3, rfl, c0, cD, hc⟩
      have hi2 : i < xs.length := by
        have := (List.getElem?_eq_some_iff.mp hi).1
        rw [List.length_map, hl] at this
        exact this
      have hg : xs[i]? = some xs[i] := List.getElem?_eq_getElem hi2
      obtain ⟨r, er, hr2⟩ := r2.get hg
      have ey : y = .ref r := by
        rw [List.getElem?_map, er] at hi
        exact (Option.some.inj hi).symm
      subst ey
      obtain ⟨b0, bD, _⟩ := O.ok xs[i] (List.getElem_mem hi2)
      have sc : Sm d c := dvd_small cD O.pos O.sm
      have sb : Sm d xs[i].2 := dvd_small bD O.pos O.sm
      have hg0 : 0 < Int.gcd c xs[i].2 := Nat.gcd_pos_of_pos_right _ (by omega)
      have hgs : Sm d ((Int.gcd c xs[i].2 : Nat) : Int) := by
        unfold Sm at *
        rw [Int.natAbs_natCast]
        exact Nat.lt_of_le_of_lt (Nat.gcd_le_right _ (by omega)) sb
      have d0 : 0 < d := by
        rcases Nat.eq_zero_or_pos d with z | z
        · rw [z] at sc
          unfold Sm at sc
          omega
        · exact z
      have hq1 : Sm d (c.fdiv ((Int.gcd c xs[i].2 : Nat) : Int)) := Nat.lt_of_le_of_lt (fdiv_le (by omega) (Int.gcd_dvd_left ..)) sc
      obtain ⟨k0, k1, k2, k3⟩ := lcm_ok c0 b0 cD bD
      refine ⟨r, _, rfl, hr2, rfl, _, _, rfl, _, _, rfl, rfl, ?_⟩
      refine ⟨_, rfl, _, rfl, _, rfl, c, xs[i].2, rfl, ?_⟩
      refine ⟨c, _, rfl, rfl, ⟨by omega, Nat.lt_of_lt_of_le (hgs.log d0) (by omega)⟩, _, rfl, _, _, rfl, rfl, hq1.cmul sb d0 d0 (by omega), rfl, _, _, _, rfl, k0, k1, fun x hx => ?_⟩
      rw [List.take_add_one, hg] at hx
      rcases List.mem_append.mp hx with z | z
      · exact Int.dvd_trans (hc x z) k2
      · rw [List.mem_singleton.mp z]
        exact k3
    · rintro σ H1 ⟨rfl, c, y2, y3, rfl, c0, cD, hc⟩
      rw [List.length_map, hl, List.take_length] at hc
      have sc : Sm d c := dvd_small cD O.pos O.sm
      have d0 : 0 < d := by
        rcases Nat.eq_zero_or_pos d with z | z
        · rw [z] at sc
          unfold Sm at sc
          omega
        · exact z
      refine ⟨_, rfl, p, rfl, ⟨_, r1⟩, fun R nR => ?_⟩
      have e1 := same_new (o := HO.lst []) nR
      refine lc_tup (K := K) (a := p) (xs := rs.map V.ref) (fun i H2 => Same H1 H2 ∧ H2 R = some (.lst ((topsOn c (xs.take i)).map V.int))) ?_ ?_ ?_ ?_
      · exact ⟨e1, upd_same⟩
      · rintro i H2 _ ⟨s2, _⟩
        exact sqT_same s2 r1
      · rintro i y H2 hi ⟨s2, hR⟩
        have hi2 : i < xs.length := by
          have := (List.getElem?_eq_some_iff.mp hi).1
          rw [List.length_map, hl] at this
          exact this
        have hg : xs[i]? = some xs[i] := List.getElem?_eq_getElem hi2
        obtain ⟨r, er, hr2⟩ := r2.get hg
        have ey : y = .ref r := by
          rw [List.getElem?_map, er] at hi
          exact (Option.some.inj hi).symm
        subst ey
        obtain ⟨b0, bD, sn⟩ := O.ok xs[i] (List.getElem_mem hi2)
        have sb : Sm d xs[i].2 := dvd_small bD O.pos O.sm
        have hdv := hc xs[i] (List.getElem_mem hi2)
        have ef : c.fdiv xs[i].2 = c / xs[i].2 := Int.fdiv_eq_ediv_of_nonneg _ (by omega)
        have sq : Sm d (c.fdiv xs[i].2) := Nat.lt_of_le_of_lt (fdiv_le b0 hdv) sc
        refine ⟨r, _, rfl, hr2.tk (Tk.same s2), rfl, _, _, rfl, _, _, rfl, rfl, rfl, tYes_go ?_⟩
        refine iteT ?_
        refine ⟨_, rfl, _, rfl, _, rfl, c, xs[i].2, rfl, rfl, ⟨by omega, Nat.lt_of_lt_of_le (sb.log d0) (by omega)⟩, _, _, rfl, rfl, (sn.mono (show n ≤ n + 1 by omega)).cmul sq (by omega) d0 (by omega), _, hR, ?_, ?_, ?_⟩
        · rw [List.length_map]
          unfold topsOn
          rw [List.length_map, List.length_take]
          have := O.len
          exact small1000 (by omega)
        · intro b o hb
          rw [upd_ne (ne_of_none hb nR)]
          exact s2 _ _ hb
        · rw [upd_same, List.take_add_one, hg]
          unfold topsOn
          rw [List.map_append, List.map_append, ef]
          rfl
      · rintro H2 ⟨s2, hR⟩
        rw [List.length_map, hl, List.take_length] at hR
        refine ⟨_, rfl, by show 2 ≤ sizeLine; decide, fun z nz => ?_⟩
        have e2 := same_new (o := HO.tup [.ref R, .int c]) nz
        exact q z R c _ (s2.trans e2) upd_same (e2 _ _ hR) c0 cD hc
def spAddedT (K : PySem.W.Frag) : Sp := fun vs H Q _ => ∃ (p : Addr) (xs : List RT) (n d : Nat) (D : Int), vs = [.ref p] ∧ RowAt K H p xs ∧ Over1 n d D xs ∧ n ≤ 4000 ∧ d ≤ 4000 ∧
  ∀ z x H', Same H H' → RAt K H' z x → Red x → qv x = (xs.map qv).sum → x.2 ∣ D → Sm (n + d + 11) x.1 → Q (.ref z) H'
theorem ok_addedT {f fO fR : Addr} {fd fdO fdR : FuncData} (F : Fun K "added" "added" s_added f fd) (FO : Fun K "on_one_bottom" "on_one_bottom" s_oob fO fdO) (bO : Binds K fdO ["told"] []) (gO : mg "on_one_bottom" = some (.ref fO)) (GO : FnOk P w K mg base CX0 2 fO fdO ["told"] (spOobT K))
    (FR : Fun K "ratio" "ratio" s_ratio fR fdR) (bR : Binds K fdR ["top", "bottom"] []) (gR : mg "ratio" = some (.ref fR)) (GR : FnOk P w K mg base CX0 2 fR fdR ["top", "bottom"] spRat0) (ms : mg "sum" = none) : FnOk P w K mg base CX0 3 f fd ["told"] (spAddedT K) := by
  refine F.ok sc_added (fun vs H Q E h => ?_) (fun cdv A outer s H vs Q E hr h => ?_)
  · obtain ⟨_, _, _, _, _, rfl, _⟩ := h
    rfl
  · obtain ⟨p, xs, n, d, D, rfl, hlst, O, hn, hd, q⟩ := h
    refine ⟨_, (pss_cons (ps_asg (pe_call GO hr (by rfl) gO FO.kp bO .nil pass0 (pa_cons (pv 0) pa_nil)) (pg_tup rfl (pgs_cons (pg_name (i := 1) sc_added.nd rfl (.inl rfl)) (pgs_cons (pg_name (i := 2) sc_added.nd rfl (.inl rfl)) pgs_nil)))) (pss_one (ps_ret (pe_call GR hr (by rfl) gR FR.kp bR .nil pass0 (pa_cons (pe_callB (cr_sum rfl) (by rfl) ms (by decide +kernel) (pa_cons (pv 1) pa_nil)) (pa_cons (pv 2) pa_nil)))))), ?_⟩
    refine ⟨_, rfl, p, xs, n, d, D, rfl, hlst, O, hn, hd, fun z zl c H1 s1 hz hzl c0 cD hc => ?_⟩
    refine ⟨z, _, rfl, SqT.of hz, rfl, _, _, rfl, _, _, rfl, rfl, ?_⟩
    have sc : Sm d c := dvd_small cD O.pos O.sm
    refine ⟨_, rfl, zl, _, rfl, SqL.of hzl, _, rfl, _, c, rfl, sc.mono (show d ≤ 8000 by omega), Int.ne_of_gt c0, fun y ny => ?_⟩
    have e := same_new (o := HO.tup [.int (ratT (topsOn c xs).sum c), .int (ratB (topsOn c xs).sum c)]) ny
    have red : Red (low2 (topsOn c xs).sum c) := low2_red (Int.ne_of_gt c0)
    have val : qv (low2 (topsOn c xs).sum c) = (((topsOn c xs).sum : Int) : Rat) / (c : Rat) := qv_low2 c0
    obtain ⟨y1, y2⟩ := red_small red c0 val
    refine q y (low2 (topsOn c xs).sum c) _ (s1.trans e) (SqT.of upd_same) red (val.trans (tops_sum c0 fun x hx => ⟨(O.ok x hx).1, hc x hx⟩)) (Int.dvd_trans y1 cD) ?_
    have t := tops_sm (n := n) c0 O.pos cD O.sm (xs := xs) fun x hx => ⟨(O.ok x hx).1, (O.ok x hx).2.2⟩
    have hlen := O.len
    unfold Sm
    have t2 : xs.length * 2 ^ (n + d) ≤ 1000 * 2 ^ (n + d) := Nat.mul_le_mul_right _ hlen
    have t3 : 2 ^ (n + d + 11) = 2048 * 2 ^ (n + d) := by rw [Nat.pow_add, Nat.mul_comm]
    have t4 : 0 < 2 ^ (n + d) := Nat.pow_pos (by decide)
    omega
theorem addT_go {H : Hp} {Q : VK} {p : Addr} {P : Int} {n s k : Nat} {f : Nat → Rat} (h : RowAt K H p (mkL n f)) (hP : 0 < P) (sP : Sm s P) (z : ∀ j, j < n → Sz P k (f j)) (hn : n ≤ 1000) (hs : s ≤ 2500) (hk : k ≤ 900)
    (q : ∀ r H', Same H H' → RAt K H' r (rdq (sumTo n f)) → Q (.ref r) H') : spAddedT K [.ref p] H Q E0 := by
  refine ⟨p, _, _, _, P, rfl, h, over_mkL hP sP z hn, by omega, by omega, fun y x HF sF hy rx vx _ _ => ?_⟩
  have ex : x = rdq (sumTo n f) := is_rdq rx (by rw [vx, mkL_sum])
  rw [ex] at hy
  exact q y HF sF hy
end

end Fp

set_option Elab.async false
set_option linter.all false
set_option maxRecDepth 100000
set_option maxHeartbeats 4000000
set_option exponentiation.threshold 10000
namespace Fp
open PySem PySem.Spec PyProof.Rows L2
/-! ### many, in all -/
abbrev s_mb : Stmt := topS 38
abbrev N_mb : List Str := ["life", "beat"]
theorem sc_mb : FnScope N_mb ["life", "beat"] (defScope s_mb) := ⟨rfl, rfl, rfl, by decide +kernel, rfl, by decide +kernel, by decide +kernel⟩
section
variable {P : Program} {w : World} {K : PySem.W.Frag} {mg : Str → Option Value} {base : Heap} {aN aO : Addr}
def spMb (K : PySem.W.Frag) : Sp := fun vs H Q _ => ∃ (p : Addr) (row : List RT) (step : RT) (n beat : Nat) (W D : Int), vs = [.ref p, .int (beat : Int)] ∧ LifeAt K H p row step ∧ LifeOk n row step ∧ WOk W row ∧ Ch01 D (chR row step) 20 ∧ beat ≤ 20 ∧
  ∀ z H', Same H H' → RAt K H' z (rdq (sumTo beat fun i => putQ row step (i + 1))) → Q (.ref z) H'
theorem ok_mb {f fAD fPU : Addr} {fd fdAD fdPU : FuncData} (F : Fun K "many_by" "many_by" s_mb f fd)
    (FAD : Fun K "added" "added" s_added fAD fdAD) (bAD : Binds K fdAD ["told"] []) (gAD : mg "added" = some (.ref fAD)) (GAT : FnOk P w K mg base CX0 3 fAD fdAD ["told"] (spAddedT K))
    (FPU : Fun K "puts" "puts" s_puts fPU fdPU) (bPU : Binds K fdPU ["life", "most"] []) (gPU : mg "puts" = some (.ref fPU)) (GPU : FnOk P w K mg base CX0 5 fPU fdPU ["life", "most"] (spPuts K))
    : FnOk P w K mg base CX0 6 f fd ["life", "beat"] (spMb K) := by
  refine F.ok sc_mb (fun vs H Q E h => ?_) (fun cdv A outer s H vs Q E hr h => ?_)
  · obtain ⟨_, _, _, _, _, _, _, rfl, _⟩ := h
    rfl
  · obtain ⟨p, row, step, n, beat, W, D, rfl, hlife, L, hW, C1, hb, q⟩ := h
    refine ⟨_, (pss_one (ps_ret (pe_call GAT (hr.mono (by decide)) (by rfl) gAD FAD.kp bAD .nil pass0 (pa_cons (pe_slice sl_tupA (pe_call GPU hr (by rfl) gPU FPU.kp bPU .nil pass0 (pa_cons (pv 0) (pa_cons (pv 1) pa_nil))) (po_some pe_int) po_none) pa_nil)))), ?_⟩
    refine ⟨_, rfl, _, rfl, p, row, step, n, beat, W, rfl, hlife, L, hW, hb, fun z H1 s1 hz => ?_⟩
    refine ⟨1, rfl, ?_⟩
    refine noPart_go ?_
    refine drop1_row (K := K) hz (by rw [List.length_map, List.length_range]; omega) fun z2 H2 s2 hz2 => ?_
    rw [show ((List.range (beat + 1)).map fun i => rdq (putQ row step i)) = mkL (beat + 1) (putQ row step) from rfl, mkL_drop] at hz2
    refine tnil_go ?_
    exact addT_go (K := K) (k := 20) hz2 (C1.powSm 20).1 (C1.powSm 20).2 (fun j hj => (C1.putSz (e := 20) (show j + 1 ≤ 20 by omega) (by omega)).mono (by omega)) (by omega) (by decide) (by decide) fun r H3 s3 hr => q r H3 (s1.trans (s2.trans s3)) hr
/-- none of a full one, else all by what lacks -/
def AD (K : PySem.W.Frag) (H : Hp) (v : V) (t : Rat) : Prop := (t = 1 ∧ v = .non) ∨ (t ≠ 1 ∧ ∃ z, v = .ref z ∧ RAt K H z (rdq (t / (1 - t))))
theorem AD.tk {H H' : Hp} {v : V} {t : Rat} (h : AD K H v t) (e : Tk K H H') : AD K H' v t := by
  rcases h with h | ⟨h1, z, h2, h3⟩
  · exact .inl h
  · exact .inr ⟨h1, z, h2, h3.tk e⟩
def adD (t : Rat) : PyData := if t = 1 then .none else ratD (rdq (t / (1 - t)))
theorem AD.dp {H : Hp} {v : V} {t : Rat} (h : AD K H v t) : Dp K H v (adD t) ∧ (v = .non ∨ (∃ i, v = .int i) ∨ ∃ a, v = .ref a) := by
  unfold adD
  rcases h with ⟨h1, rfl⟩ | ⟨h1, z, rfl, h3⟩
  · rw [if_pos h1]
    exact ⟨.non, .inl rfl⟩
  · rw [if_neg h1]
    exact ⟨h3.dp, .inr (.inr ⟨z, rfl⟩)⟩
theorem Tot.facts {row : List RT} {step : RT} {N E : Int} (h : Tot row step N E) : Sz (N + E) 0 (rowQ row + behQ row step) ∧ Sm 8 (N + E) ∧ 0 ≤ rowQ row + behQ row step ∧ rowQ row + behQ row step ≤ 1 ∧ Sz (N + E) 0 (1 - (rowQ row + behQ row step)) ∧
    (rowQ row + behQ row step ≠ 1 → 0 < E ∧ (rowQ row + behQ row step) / (1 - (rowQ row + behQ row step)) = (N : Rat) / (E : Rat)) := by
  have hn := h.nn
  have he := h.ee
  have hp := h.pos
  have hl := h.le
  have v := h.val
  generalize rowQ row + behQ row step = t at *
  obtain ⟨d1, d2⟩ := div_01 hn hp (show N ≤ N + E by omega)
  rw [← v] at d1 d2
  have hc := cast_ne (Int.ne_of_gt hp)
  have o : Ov (N + E) t := ⟨N, v⟩
  have o2 : Ov (N + E) (1 - t) := by
    refine ⟨E, ?_⟩
    rw [v]
    rw [Rat.intCast_add] at hc ⊢
    grind
  refine ⟨Sz.pos o d1 (by rw [Rat.pow_zero]; exact d2), by unfold Sm; omega, d1, d2, Sz.pos o2 (by grind) (by rw [Rat.pow_zero]; grind), fun ht => ?_⟩
  have e0 : 0 < E := by
    rcases (by omega : 0 < E ∨ E = 0) with z | z
    · exact z
    · refine absurd ?_ ht
      rw [z, Int.add_zero] at v hc
      rw [v]
      grind
  refine ⟨e0, ?_⟩
  have he2 := cast_ne (Int.ne_of_gt e0)
  rw [v]
  rw [Rat.intCast_add] at hc ⊢
  grind
theorem sh_none : Shows .none := ⟨rfl, rfl, by decide, by decide⟩
theorem Tot.sh {row : List RT} {step : RT} {N E : Int} (h : Tot row step N E) : Shows (adD (rowQ row + behQ row step)) := by
  obtain ⟨_, _, _, _, _, h6⟩ := h.facts
  unfold adD
  split
  · exact sh_none
  · rename_i z
    obtain ⟨e0, e1⟩ := h6 z
    have hn := h.nn
    have hl := h.le
    rw [e1]
    have sz : Sz E 8 ((N : Rat) / (E : Rat)) := by
      have hc : (0 : Rat) < (E : Rat) := Rat.intCast_pos.mpr e0
      have hi : (0 : Rat) ≤ (E : Rat)⁻¹ := Rat.le_of_lt (Rat.inv_pos.mpr hc)
      refine Sz.pos ⟨N, rfl⟩ (by rw [Rat.div_def]; exact Rat.mul_nonneg (Rat.intCast_nonneg.mpr hn) hi) ?_
      have u : (N : Rat) ≤ ((256 * E : Int) : Rat) := Rat.intCast_le_intCast.mpr (by omega)
      have u2 := Rat.mul_le_mul_of_nonneg_right u hi
      have e : (E : Rat) * (E : Rat)⁻¹ = 1 := Rat.mul_inv_cancel _ (Rat.ne_of_gt hc)
      rw [Rat.div_def, show (2 : Rat) ^ 8 = ((256 : Int) : Rat) by decide +kernel]
      rw [Rat.intCast_mul] at u2
      grind
    exact (Sh.rat (sz.smr (s := 8) (n := 1900) e0 (by unfold Sm; omega) (by decide)) (by decide)).shows (by decide) (by decide)
def spIa (K : PySem.W.Frag) : Sp := fun vs H Q _ => ∃ (p : Addr) (row : List RT) (step : RT) (n : Nat) (N E : Int), vs = [.ref p] ∧ LifeAt K H p row step ∧ LifeOk n row step ∧ Tot row step N E ∧
  ∀ v H', Same H H' → AD K H' v (rowQ row + behQ row step) → Q v H'
end

end Fp

set_option Elab.async false
set_option linter.all false
set_option maxRecDepth 100000
set_option maxHeartbeats 4000000
set_option exponentiation.threshold 10000
namespace Fp
open PySem PySem.Spec PyProof.Rows L2
/-! ### means: what they are, and their size -/
/-- one number under a row -/
structure WO (W : Int) (row : List RT) : Prop where
  pos : 0 < W
  sm : Sm 46 W
  dvd : ∀ y ∈ row, y.2 ∣ W
structure ML (row : List RT) (step : RT) (W : Int) : Prop where
  ok : LifeOk 60 row step
  len : row.length ≤ 13
  nil : row = [] → step = (0, 1)
  w : WO W row
  q01 : ∀ x ∈ row, 0 ≤ qv x ∧ qv x ≤ 1
  s4 : step.2 ≤ 9
def stQ (step : RT) : Rat := qv step
def firstQ (row : List RT) (step : RT) : Rat := behQ row step / (1 - qv step)
def secondQ (row : List RT) (step : RT) : Rat := firstQ row step * (1 + qv step) / (1 - qv step)
theorem Sz.frac {t b : Int} {k : Nat} (h0 : 0 ≤ t) (hb : 0 < b) (ht : t ≤ 2 ^ k * b) : Sz b k ((t : Rat) / (b : Rat)) := by
  have hc : (0 : Rat) < (b : Rat) := Rat.intCast_pos.mpr hb
  have hi : (0 : Rat) ≤ (b : Rat)⁻¹ := Rat.le_of_lt (Rat.inv_pos.mpr hc)
  have e : (b : Rat) * (b : Rat)⁻¹ = 1 := Rat.mul_inv_cancel _ (Rat.ne_of_gt hc)
  refine Sz.pos ⟨t, rfl⟩ (by rw [Rat.div_def]; exact Rat.mul_nonneg (Rat.intCast_nonneg.mpr h0) hi) ?_
  have u : (t : Rat) ≤ ((2 ^ k * b : Int) : Rat) := Rat.intCast_le_intCast.mpr ht
  have u2 := Rat.mul_le_mul_of_nonneg_right u hi
  rw [Rat.intCast_mul, cast_pow] at u2
  rw [Rat.div_def]
  have e2 : (((2 : Int) : Rat)) ^ k = (2 : Rat) ^ k := rfl
  rw [e2, Rat.mul_assoc, e, Rat.mul_one] at u2
  exact u2
section
variable {row : List RT} {step : RT} {W : Int}
/-- the number under all -/
def mP (W : Int) (step : RT) : Int := W * (step.2 - step.1) * (step.2 - step.1) * (step.2 - step.1)
theorem ML.gap (h : ML row step W) : 0 < step.2 - step.1 ∧ step.2 - step.1 ≤ 9 ∧ 0 ≤ step.1 ∧ 0 < step.2 := by
  have h1 := h.ok.st
  have h2 := h.s4
  have h3 := h1.2.2
  have h4 := h1.2.1
  omega
theorem ML.P (h : ML row step W) : 0 < mP W step ∧ Sm 58 (mP W step) := by
  obtain ⟨g1, g2, _, _⟩ := h.gap
  have sg : Sm 4 (step.2 - step.1) := by unfold Sm; omega
  exact ⟨Int.mul_pos (Int.mul_pos (Int.mul_pos h.w.pos g1) g1) g1, ((h.w.sm.mul sg).mul sg).mul sg⟩
theorem ML.rowz (h : ML row step W) {x : RT} (hx : x ∈ row) : Sz W 0 (qv x) := by
  obtain ⟨a, b⟩ := h.q01 x hx
  exact Sz.pos ⟨_, qv_over (h.ok.sm x hx).1.1 (h.w.dvd x hx) h.w.pos⟩ a (by rw [Rat.pow_zero]; exact b)
theorem ML.gapQ (h : ML row step W) : (1 : Rat) - qv step = (((step.2 - step.1 : Int)) : Rat) / (step.2 : Rat) ∧ (1 : Rat) - qv step ≠ 0 := by
  obtain ⟨g1, _, _, g4⟩ := h.gap
  have h3 := cast_ne (Int.ne_of_gt g4)
  refine ⟨?_, gap_val h.ok.st.1.1 h.ok.st.2.2⟩
  unfold qv
  rw [Rat.intCast_sub]
  grind
theorem ML.beh (h : ML row step W) : Sz (W * (step.2 - step.1)) 3 (behQ row step) := by
  obtain ⟨g1, g2, g3, g4⟩ := h.gap
  have hWd := Int.mul_pos h.w.pos g1
  rcases snoc_cases row with z | ⟨ys, y, z⟩
  · rw [z]
    show Sz _ _ 0
    exact Sz.nought
  · have hy : y ∈ row := by rw [z]; simp
    have e : behQ row step = qv y * ((step.1 : Rat) / ((step.2 - step.1 : Int) : Rat)) := by
      rw [z, behQ_snoc, h.gapQ.1]
      have h1 := cast_ne (Int.ne_of_gt g1)
      have h2 := cast_ne (Int.ne_of_gt g4)
      unfold qv
      grind
    rw [e]
    exact (h.rowz hy).mul h.w.pos g1 (Sz.frac (k := 3) g3 g1 (by have := h.ok.st.2.2; have := h.s4; omega))
theorem ML.first (h : ML row step W) : Sz (W * (step.2 - step.1) * (step.2 - step.1)) 7 (firstQ row step) := by
  obtain ⟨g1, g2, g3, g4⟩ := h.gap
  have e : firstQ row step = behQ row step * ((step.2 : Rat) / ((step.2 - step.1 : Int) : Rat)) := by
    unfold firstQ
    rw [h.gapQ.1]
    have h1 := cast_ne (Int.ne_of_gt g1)
    have h2 := cast_ne (Int.ne_of_gt g4)
    grind
  rw [e]
  exact h.beh.mul (Int.mul_pos h.w.pos g1) g1 (Sz.frac (k := 4) (Int.le_of_lt g4) g1 (by have := h.s4; omega))
theorem ML.second (h : ML row step W) : Sz (mP W step) 12 (secondQ row step) := by
  obtain ⟨g1, g2, g3, g4⟩ := h.gap
  have e : secondQ row step = firstQ row step * (((step.2 + step.1 : Int) : Rat) / ((step.2 - step.1 : Int) : Rat)) := by
    unfold secondQ
    rw [h.gapQ.1]
    have h1 := cast_ne (Int.ne_of_gt g1)
    have h2 := cast_ne (Int.ne_of_gt g4)
    rw [Rat.intCast_add]
    unfold qv
    grind
  rw [e]
  exact h.first.mul (Int.mul_pos (Int.mul_pos h.w.pos g1) g1) g1 (Sz.frac (k := 5) (by omega) g1 (by have := h.s4; have := h.ok.st.2.2; omega))
theorem ML.up1 (h : ML row step W) {k : Nat} {q : Rat} (z : Sz W k q) : Sz (mP W step) k q := by
  obtain ⟨g1, _, _, _⟩ := h.gap
  exact z.dvd h.w.pos h.P.1 (by unfold mP; exact ⟨(step.2 - step.1) * (step.2 - step.1) * (step.2 - step.1), by rw [Int.mul_assoc, Int.mul_assoc, Int.mul_assoc]⟩)
theorem ML.up2 (h : ML row step W) {k : Nat} {q : Rat} (z : Sz (W * (step.2 - step.1)) k q) : Sz (mP W step) k q := by
  obtain ⟨g1, _, _, _⟩ := h.gap
  exact z.dvd (Int.mul_pos h.w.pos g1) h.P.1 (by unfold mP; exact ⟨(step.2 - step.1) * (step.2 - step.1), by rw [Int.mul_assoc]⟩)
theorem ML.up3 (h : ML row step W) {k : Nat} {q : Rat} (z : Sz (W * (step.2 - step.1) * (step.2 - step.1)) k q) : Sz (mP W step) k q := by
  obtain ⟨g1, _, _, _⟩ := h.gap
  exact z.dvd (Int.mul_pos (Int.mul_pos h.w.pos g1) g1) h.P.1 (by unfold mP; exact ⟨step.2 - step.1, rfl⟩)
theorem Sz.nat {P : Int} {k j : Nat} {q : Rat} {n : Nat} (z : Sz P k q) (hP : 0 < P) (hn : n ≤ 2 ^ j) : Sz P (k + j) (((n : Int) : Rat) * q) := by
  have a : Sz 1 j ((n : Int) : Rat) := by
    have := Sz.frac (t := (n : Int)) (b := 1) (k := j) (by omega) (by decide) (by
      have e : ((2 ^ j : Nat) : Int) = (2 : Int) ^ j := by rw [Int.natCast_pow]; rfl
      rw [Int.mul_one, ← e]
      omega)
    rw [show ((n : Int) : Rat) / (((1 : Int)) : Rat) = ((n : Int) : Rat) by show _ / (1 : Rat) = _; grind] at this
    exact this
  have := z.mul hP (by decide : (0 : Int) < 1) a
  rw [Int.mul_one] at this
  rw [show ((n : Int) : Rat) * q = q * ((n : Int) : Rat) by grind]
  exact this
end
/-- the mean, the square's -/
def meanQ (row : List RT) (step : RT) : Rat := (sumTo row.length fun k => (((k + 1 : Nat) : Int) : Rat) * chR row step k) + ((row.length : Int) : Rat) * behQ row step + firstQ row step
def msqQ (row : List RT) (step : RT) : Rat := (sumTo row.length fun k => ((((k + 1) * (k + 1) : Nat) : Int) : Rat) * chR row step k) + (((row.length * row.length : Nat) : Int) : Rat) * behQ row step + (((2 * row.length : Nat) : Int) : Rat) * firstQ row step + secondQ row step
/-- none where not full -/
def MV (K : PySem.W.Frag) (H : Hp) (v : V) (t q : Rat) : Prop := (t ≠ 1 ∧ v = .non) ∨ (t = 1 ∧ ∃ z, v = .ref z ∧ RAt K H z (rdq q))
def mvD (t q : Rat) : PyData := if t = 1 then ratD (rdq q) else .none
section
variable {K : PySem.W.Frag} {H H' : Hp} {v : V} {t q : Rat}
theorem MV.tk (h : MV K H v t q) (e : Tk K H H') : MV K H' v t q := by
  rcases h with h | ⟨h1, z, h2, h3⟩
  · exact .inl h
  · exact .inr ⟨h1, z, h2, h3.tk e⟩
theorem MV.dp (h : MV K H v t q) : Dp K H v (mvD t q) := by
  unfold mvD
  rcases h with ⟨h1, rfl⟩ | ⟨h1, z, rfl, h3⟩
  · rw [if_neg h1]
    exact .non
  · rw [if_pos h1]
    exact h3.dp
theorem over_go {p1 p2 : Addr} {x y : Rat} {Q : VK} (h1 : RAt K H p1 (rdq x)) (h2 : RAt K H p2 (rdq y)) (s1 : SmR 3000 (rdq x)) (s2 : SmR 3000 (rdq y)) (hy : 0 < y) (q : ∀ r H', Same H H' → RAt K H' r (rdq (x / y)) → Q (.ref r) H') : spOver0 K [.ref p1, .ref p2] H Q E0 := by
  have hpos : 0 < (rdq y).1 := by
    have h3 := (rdq_red y).1
    have hc : (0 : Rat) < ((rdq y).2 : Rat) := Rat.intCast_pos.mpr h3
    have e := qv_rdq y
    refine Rat.intCast_pos.mp ?_
    have h4 : ((rdq y).1 : Rat) = y * ((rdq y).2 : Rat) := by
      have hne := Rat.ne_of_gt hc
      unfold qv at e
      grind
    rw [h4]
    exact Rat.mul_pos hy hc
  refine ⟨p1, p2, _, _, _, _, rfl, ⟨h1, h2, s1.2.1, s1.2.2, s2.2.1, s2.2.2, s1.1.1, s2.1.1⟩, Int.ne_of_gt (Int.mul_pos s1.1.1 hpos), fun b nb => ?_⟩
  obtain ⟨y1, y2⟩ := qv_rO s1.1 s2.1 hpos
  have e9 := same_new (o := HO.tup [.int (rO (rdq x) (rdq y)).1, .int (rO (rdq x) (rdq y)).2]) nb
  have ep : rO (rdq x) (rdq y) = rdq (x / y) := is_rdq y1 (by rw [y2, qv_rdq, qv_rdq])
  refine q b _ e9 ?_
  rw [← ep]
  exact SqT.of upd_same
theorem plus_go {p1 p2 : Addr} {x y : Rat} {Q : VK} (h1 : RAt K H p1 (rdq x)) (h2 : RAt K H p2 (rdq y)) (s1 : SmR 3000 (rdq x)) (s2 : SmR 3000 (rdq y)) (q : ∀ r H', Same H H' → RAt K H' r (rdq (x + y)) → Q (.ref r) H') : spTwo K (fun a b c d => a * d + c * b) [.ref p1, .ref p2] H Q E0 := by
  refine ⟨p1, p2, _, _, _, _, rfl, ⟨h1, h2, s1.2.1, s1.2.2, s2.2.1, s2.2.2, s1.1.1, s2.1.1⟩, fun b nb => ?_⟩
  have e := same_new (o := HO.tup [.int (rP (rdq x) (rdq y)).1, .int (rP (rdq x) (rdq y)).2]) nb
  obtain ⟨y1, y2⟩ := qv_rP s1.1 s2.1.1
  have ep : rP (rdq x) (rdq y) = rdq (x + y) := is_rdq y1 (by rw [y2, qv_rdq, qv_rdq])
  refine q b _ e ?_
  rw [← ep]
  exact SqT.of upd_same
/-- a whole number as a ratio -/
theorem int_rat {p : Addr} {n : Nat} (h : SqT K H p [.int (n : Int), .int 1]) : RAt K H p (rdq ((n : Int) : Rat)) := by
  have e : ((n : Int), (1 : Int)) = rdq ((n : Int) : Rat) := by
    refine is_rdq ⟨by show (0 : Int) < 1; decide, by show Int.gcd (n : Int) 1 = 1; simp⟩ ?_
    unfold qv
    show ((n : Int) : Rat) / ((1 : Int) : Rat) = _
    show ((n : Int) : Rat) / (1 : Rat) = _
    grind
  rw [← e]
  exact h
theorem int_smr {n : Nat} (h : n < 1000) : SmR 3000 (rdq ((n : Int) : Rat)) := by
  have e : ((n : Int), (1 : Int)) = rdq ((n : Int) : Rat) := by
    refine is_rdq ⟨by show (0 : Int) < 1; decide, by show Int.gcd (n : Int) 1 = 1; simp⟩ ?_
    unfold qv
    show ((n : Int) : Rat) / (1 : Rat) = _
    grind
  rw [← e]
  refine SmR.mono (n := 10) ⟨⟨by show (0 : Int) < 1; decide, by show Int.gcd (n : Int) 1 = 1; simp⟩, ?_, by unfold Sm; show (1 : Nat) < 2 ^ 10; decide⟩ (by decide)
  unfold Sm
  show (n : Int).natAbs < 2 ^ 10
  omega
end

end Fp

set_option Elab.async false
set_option linter.all false
set_option maxRecDepth 100000
set_option maxHeartbeats 4000000
set_option exponentiation.threshold 10000
namespace Fp
open PySem PySem.Spec PyProof.Rows L2
/-! ### moments, means, the square's, the round -/
theorem over_ls {P : Int} {s k : Nat} {xs : List RT} (hP : 0 < P) (sP : Sm s P) (h : ∀ x ∈ xs, ∃ q, x = rdq q ∧ Sz P k q) (hl : xs.length ≤ 1000) : Over1 (s + k + 1) s P xs := by
  refine ⟨hP, sP, fun x hx => ?_, hl⟩
  obtain ⟨q, rfl, z⟩ := h x hx
  obtain ⟨h1, h2, h3⟩ := z.red hP sP
  exact ⟨(rdq_red _).1, h1, h2⟩
theorem sum_app_rat (xs ys : List Rat) : (xs ++ ys).sum = xs.sum + ys.sum := by
  induction xs with
  | nil =>
    show ys.sum = 0 + ys.sum
    grind
  | cons x r ih =>
    show x + (r ++ ys).sum = (x + r.sum) + ys.sum
    rw [ih]
    grind
theorem red_at {K : PySem.W.Frag} {H : Hp} {p : Addr} {x : RT} (h : RAt K H p x) (r : Red x) : RAt K H p (rdq (qv x)) := by
  rw [← red_rdq r]
  exact h
abbrev s_mom : Stmt := topS 27
abbrev N_mom : List Str := ["life", "step", "gap", "zeroth", "first", "second"]
theorem sc_mom : FnScope N_mom ["life"] (defScope s_mom) := ⟨rfl, rfl, rfl, by decide +kernel, rfl, by decide +kernel, by decide +kernel⟩
abbrev s_mean : Stmt := topS 26
abbrev N_mean : List Str := ["life", "row", "told", "zeroth", "first", "k", "chance"]
theorem sc_mean : FnScope N_mean ["life"] (defScope s_mean) := ⟨rfl, rfl, rfl, by decide +kernel, rfl, by decide +kernel, by decide +kernel⟩
section
variable {P : Program} {w : World} {K : PySem.W.Frag} {mg : Str → Option Value} {base : Heap} {aN aO : Addr}
def spMom (K : PySem.W.Frag) : Sp := fun vs H Q _ => ∃ (p : Addr) (row : List RT) (step : RT) (W : Int), vs = [.ref p] ∧ LifeAt K H p row step ∧ ML row step W ∧
  ∀ z a b c H', Same H H' → SqT K H' z [.ref a, .ref b, .ref c] → RAt K H' a (rdq (behQ row step)) → RAt K H' b (rdq (firstQ row step)) → RAt K H' c (rdq (secondQ row step)) → Q (.ref z) H'
theorem ok_mom {f fM fBR fO fT fPL : Addr} {fd fdM fdBR fdO fdT fdPL : FuncData} (F : Fun K "moments_behind" "moments_behind" s_mom f fd) (C : Consts K mg aN aO)
    (FM : Fun K "minus" "minus" s_minus fM fdM) (bM : Binds K fdM ["one", "other"] []) (gM : mg "minus" = some (.ref fM)) (GM : FnOk P w K mg base CX0 3 fM fdM ["one", "other"] (spTwo K (fun a b c d => a * d - c * b)))
    (FBR : Fun K "behind_row" "behind_row" s_behind fBR fdBR) (bBR : Binds K fdBR ["life"] []) (gBR : mg "behind_row" = some (.ref fBR)) (GBR : FnOk P w K mg base CX0 4 fBR fdBR ["life"] (spBehind K))
    (FO : Fun K "over" "over" s_over fO fdO) (bO : Binds K fdO ["one", "other"] []) (gO : mg "over" = some (.ref fO)) (GO : FnOk P w K mg base CX0 3 fO fdO ["one", "other"] (spOver0 K))
    (FT : Fun K "times" "times" s_times fT fdT) (bT : Binds K fdT ["one", "other"] []) (gT : mg "times" = some (.ref fT)) (GT : FnOk P w K mg base CX0 3 fT fdT ["one", "other"] (spTwo K (fun a b c d => a * c)))
    (FPL : Fun K "plus" "plus" s_plus fPL fdPL) (bPL : Binds K fdPL ["one", "other"] []) (gPL : mg "plus" = some (.ref fPL)) (GPL : FnOk P w K mg base CX0 3 fPL fdPL ["one", "other"] (spTwo K (fun a b c d => a * d + c * b)))
    : FnOk P w K mg base CX0 5 f fd ["life"] (spMom K) := by
  refine F.ok sc_mom (fun vs H Q E h => ?_) (fun cdv A outer s H vs Q E hr h => ?_)
  · obtain ⟨_, _, _, _, rfl, _⟩ := h
    rfl
  · obtain ⟨p, row, step, W, rfl, hl, M, q⟩ := h
    refine ⟨_, (pss_cons (ps_set (i := 1) sc_mom.nd rfl (.inl rfl) (pe_ix ix_tup (pv 0) pe_int (fun _ _ => rfl)))
      (pss_cons (ps_set (i := 2) sc_mom.nd rfl (.inl rfl) (pe_call GM (hr.mono (by decide)) (by rfl) gM FM.kp bM .nil pass0 (pa_cons (pe_glob (v := .ref aO) rfl C.gO rfl) (pa_cons (pv 1) pa_nil))))
      (pss_cons (ps_set (i := 3) sc_mom.nd rfl (.inl rfl) (pe_call GBR hr (by rfl) gBR FBR.kp bBR .nil pass0 (pa_cons (pv 0) pa_nil)))
      (pss_cons (ps_set (i := 4) sc_mom.nd rfl (.inl rfl) (pe_call GO (hr.mono (by decide)) (by rfl) gO FO.kp bO .nil pass0 (pa_cons (pv 3) (pa_cons (pv 2) pa_nil))))
      (pss_cons (ps_set (i := 5) sc_mom.nd rfl (.inl rfl) (pe_call GO (hr.mono (by decide)) (by rfl) gO FO.kp bO .nil pass0 (pa_cons (pe_call GT (hr.mono (by decide)) (by rfl) gT FT.kp bT .nil pass0 (pa_cons (pv 4) (pa_cons (pe_call GPL (hr.mono (by decide)) (by rfl) gPL FPL.kp bPL .nil pass0 (pa_cons (pe_glob (v := .ref aO) rfl C.gO rfl) (pa_cons (pv 1) pa_nil))) pa_nil))) (pa_cons (pv 2) pa_nil))))
      (pss_one (ps_ret (pe_tup (pa_cons (pv 3) (pa_cons (pv 4) (pa_cons (pv 5) pa_nil))))))))))), ?_⟩
    obtain ⟨pr, ps, l1, l2, l3⟩ := id hl
    have one : rdq 1 = (1, 1) := (is_rdq one_red qv_one).symm
    have sm1 : SmR 3000 (rdq 1) := by
      rw [one]
      exact ⟨one_red, by unfold Sm; decide, by unfold Sm; decide⟩
    have st := M.ok.st
    have smS : SmR 3000 (rdq (qv step)) := by
      rw [← red_rdq st.1.1]
      exact st.1.mono (by decide)
    obtain ⟨g1, g2, g3, g4⟩ := M.gap
    obtain ⟨gq, g0⟩ := M.gapQ
    have gpos : 0 < 1 - qv step := by
      rw [gq, Rat.div_def]
      exact Rat.mul_pos (Rat.intCast_pos.mpr g1) (Rat.inv_pos.mpr (Rat.intCast_pos.mpr g4))
    have szG : Sz step.2 0 (1 - qv step) := by
      rw [gq]
      exact Sz.frac (by omega) g4 (by rw [Int.pow_zero, Int.one_mul]; omega)
    have smG : SmR 3000 (rdq (1 - qv step)) := szG.smr (s := 4) g4 (by unfold Sm; have := M.s4; omega) (by decide)
    obtain ⟨bv1, bv2⟩ := behind_val M.ok.sm st
    have P0 := M.P
    have smB : SmR 3000 (rdq (behQ row step)) := (M.up2 M.beh).smr P0.1 P0.2 (by decide)
    have smF : SmR 3000 (rdq (firstQ row step)) := (M.up3 M.first).smr P0.1 P0.2 (by decide)
    have sz1 : Sz step.2 1 (1 + qv step) := by
      have e : 1 + qv step = (((step.2 + step.1 : Int)) : Rat) / (step.2 : Rat) := by
        have h3 := cast_ne (Int.ne_of_gt g4)
        unfold qv
        rw [Rat.intCast_add]
        grind
      rw [e]
      exact Sz.frac (by omega) g4 (by have := st.2.2; omega)
    have smP : SmR 3000 (rdq (1 + qv step)) := sz1.smr (s := 4) g4 (by unfold Sm; have := M.s4; omega) (by decide)
    refine ⟨_, rfl, p, _, _, _, rfl, rfl, l1, rfl, ?_⟩
    refine ⟨_, rfl, ?_⟩
    refine tnil_go ?_
    refine minus_go (x := 1) (y := qv step) (by rw [one]; exact C.tO _) (red_at l3 st.1.1) sm1 smS fun ga H1 s1 hga => ?_
    refine ⟨_, rfl, p, row, step, rfl, hl.tk (Tk.same s1), fun x hx => (M.ok.sm x hx).mono (by decide), ⟨st.1.mono (by decide), st.2.1, st.2.2⟩, fun ze H2 s2 hze => ?_⟩
    rw [is_rdq bv1.1 bv2] at hze
    refine ⟨_, rfl, _, rfl, ?_⟩
    refine tnil_go ?_
    refine over_go (x := behQ row step) (y := 1 - qv step) hze (hga.tk (Tk.same s2)) smB smG gpos fun fi H3 s3 hfi => ?_
    have hfi' : RAt K H3 fi (rdq (firstQ row step)) := hfi
    refine ⟨_, rfl, _, rfl, ?_⟩
    refine tnil_go ?_
    refine plus_go (x := 1) (y := qv step) (by rw [one]; exact C.tO _) (red_at (l3.tk (Tk.same (s1.trans (s2.trans s3)))) st.1.1) sm1 smS fun pl H4 s4 hpl => ?_
    refine tnil_go ?_
    refine times_go (hfi'.tk (Tk.same s4)) hpl smF smP fun ti H5 s5 hti => ?_
    refine ⟨_, rfl, ?_⟩
    refine tnil_go ?_
    have szT : Sz (mP W step * step.2) 8 (firstQ row step * (1 + qv step)) := (M.up3 M.first).mul P0.1 g4 sz1
    have smT : SmR 3000 (rdq (firstQ row step * (1 + qv step))) := szT.smr (s := 62) (Int.mul_pos P0.1 g4) (P0.2.mul (show Sm 4 step.2 by unfold Sm; have := M.s4; omega)) (by decide)
    refine over_go (x := firstQ row step * (1 + qv step)) (y := 1 - qv step) hti (hga.tk (Tk.same (s2.trans (s3.trans (s4.trans s5))))) smT smG gpos fun se H6 s6 hse => ?_
    refine ⟨_, rfl, _, rfl, _, rfl, by show 3 ≤ sizeLine; decide, fun z nz => ?_⟩
    have e7 := same_new (o := HO.tup [.ref ze, .ref fi, .ref se]) nz
    exact q z ze fi se _ (s1.trans (s2.trans (s3.trans (s4.trans (s5.trans (s6.trans e7)))))) (SqT.of upd_same) (hze.tk (Tk.same (s3.trans (s4.trans (s5.trans (s6.trans e7)))))) (hfi'.tk (Tk.same (s4.trans (s5.trans (s6.trans e7))))) (hse.tk (Tk.same e7))
def spMean (K : PySem.W.Frag) : Sp := fun vs H Q _ => ∃ (p : Addr) (row : List RT) (step : RT) (W : Int), vs = [.ref p] ∧ LifeAt K H p row step ∧ ML row step W ∧
  ∀ v H', Same H H' → MV K H' v (rowQ row + behQ row step) (meanQ row step) → Q v H'
def spMsq (K : PySem.W.Frag) : Sp := fun vs H Q _ => ∃ (p : Addr) (row : List RT) (step : RT) (W : Int), vs = [.ref p] ∧ LifeAt K H p row step ∧ ML row step W ∧
  ∀ v H', Same H H' → MV K H' v (rowQ row + behQ row step) (msqQ row step) → Q v H'
/-- the items of a row, by values -/
theorem row_item {H HE : Hp} {pr : Addr} {row : List RT} {step : RT} {W : Int} (M : ML row step W) {rs : List Addr} (r2 : RsAt K H rs row) (sE : Same H HE) {i : Nat} {x : V} (hi : i < row.length) (e : (rs.map V.ref)[i]? = some x) : ∃ r, x = .ref r ∧ RAt K HE r (rdq (chR row step i)) ∧ SmR 3000 (rdq (chR row step i)) ∧ Sz W 0 (chR row step i) := by
  have hg : row[i]? = some row[i] := List.getElem?_eq_getElem hi
  obtain ⟨r, e1, e2⟩ := r2.get hg
  rw [List.getElem?_map, e1] at e
  have hm := List.getElem_mem hi
  rw [chR_in hg]
  refine ⟨r, (Option.some.inj e).symm, red_at (e2.tk (Tk.same sE)) (M.ok.sm _ hm).1, ?_, M.rowz hm⟩
  rw [← red_rdq (M.ok.sm _ hm).1]
  exact (M.ok.sm _ hm).mono (by decide)
theorem ok_mean {f fMI fT fMO fAD : Addr} {fd fdMI fdT fdMO fdAD : FuncData} (F : Fun K "mean" "mean" s_mean f fd) (C : Consts K mg aN aO)
    (FMI : Fun K "miss" "miss" s_miss fMI fdMI) (bMI : Binds K fdMI ["life"] []) (gMI : mg "miss" = some (.ref fMI)) (GMI : FnOk P w K mg base CX0 5 fMI fdMI ["life"] (spMiss K))
    (FT : Fun K "times" "times" s_times fT fdT) (bT : Binds K fdT ["one", "other"] []) (gT : mg "times" = some (.ref fT)) (GT : FnOk P w K mg base CX0 3 fT fdT ["one", "other"] (spTwo K (fun a b c d => a * c)))
    (FMO : Fun K "moments_behind" "moments_behind" s_mom fMO fdMO) (bMO : Binds K fdMO ["life"] []) (gMO : mg "moments_behind" = some (.ref fMO)) (GMO : FnOk P w K mg base CX0 5 fMO fdMO ["life"] (spMom K))
    (FAD : Fun K "added" "added" s_added fAD fdAD) (bAD : Binds K fdAD ["told"] []) (gAD : mg "added" = some (.ref fAD)) (GAD : FnOk P w K mg base CX0 3 fAD fdAD ["told"] (spAdded K))
    (n_enumerate : mg "enumerate" = none) (n_len : mg "len" = none) : FnOk P w K mg base CX0 6 f fd ["life"] (spMean K) := by
  refine F.ok sc_mean (fun vs H Q E h => ?_) (fun cdv A outer s H vs Q E hr h => ?_)
  · obtain ⟨_, _, _, _, rfl, _⟩ := h
    rfl
  · obtain ⟨p, row, step, W, rfl, hl, M, q⟩ := h
    refine ⟨_, (pss_cons (ps_if (pt_cmpR (op_neD hr.units) (pe_call GMI hr (by rfl) gMI FMI.kp bMI .nil pass0 (pa_cons (pv 0) pa_nil)) (pe_glob (v := .ref aN) rfl C.gN rfl) (nomark _)) (pss_one (ps_ret pe_non)) pss_nil)
      (pss_cons (ps_set (i := 1) sc_mean.nd rfl (.inl rfl) (pe_ix ix_tup (pv 0) pe_int (fun _ _ => rfl)))
      (pss_cons (ps_setLc (i := 2) (own := [("k", 5), ("chance", 6)]) (g := (gTup K 2 (gCons (gName 5) (gCons (gName 6) gNil)))) (tt := tYes) (te := (tCall (spTwo K (fun a b c d => a * c)) [] E0 (tCons (tTup (tCons (tVar 5) (tCons (tC (.int 1)) tNil))) (tCons (tVar 6) tNil)))) rfl sc_mean.nd rfl rfl (sw_true rfl rfl rfl (by decide +kernel)) (pi_qT (by decide) (by decide) (by rfl) n_enumerate (pa_cons (pv 1) pa_nil)) (blkOk_by (own := [("k", 5), ("chance", 6)]) (N := N_mean) (sc := (defScope s_mean)) (by decide +kernel)) (fun _ _ _ _ _ => (pg_tup rfl (pgs_cons (pg_name (i := 5) sc_mean.nd rfl (.inl rfl)) (pgs_cons (pg_name (i := 6) sc_mean.nd rfl (.inl rfl)) pgs_nil)))) (fun _ _ _ _ _ => pts_nil) (fun _ _ _ _ _ => (pe_call GT (hr.mono (by decide)) (by rfl) gT FT.kp bT .nil pass0 (pa_cons (pe_tup (pa_cons (pv 5) (pa_cons pe_int pa_nil))) (pa_cons (pv 6) pa_nil)))))
      (pss_cons (ps_asg (pe_slice sl_tupA (pe_call GMO hr (by rfl) gMO FMO.kp bMO .nil pass0 (pa_cons (pv 0) pa_nil)) po_none (po_some pe_int)) (pg_tup rfl (pgs_cons (pg_name (i := 3) sc_mean.nd rfl (.inl rfl)) (pgs_cons (pg_name (i := 4) sc_mean.nd rfl (.inl rfl)) pgs_nil))))
      (pss_one (ps_ret (pe_call GAD (hr.mono (by decide)) (by rfl) gAD FAD.kp bAD .nil pass0 (pa_cons (pe_lst (StX.pa_star (pv 2) (pa_cons (pe_call GT (hr.mono (by decide)) (by rfl) gT FT.kp bT .nil pass0 (pa_cons (pe_tup (pa_cons (pe_callB call_len_seq (by rfl) n_len PySem.boot_len (pa_cons (pv 1) pa_nil)) (pa_cons pe_int pa_nil))) (pa_cons (pv 3) pa_nil))) (pa_cons (pv 4) pa_nil)))) pa_nil)))))))), ?_⟩
    obtain ⟨pr, ps, l1, l2, l3⟩ := id hl
    obtain ⟨rs, r1, r2⟩ := id l2
    have hrl := r2.length
    have hlen := M.len
    have P0 := M.P
    refine ⟨_, rfl, p, row, step, _, rfl, hl, M.ok, fun z x H1 s1 hz sx vx => ?_⟩
    refine tC_go ?_
    refine ne_rat (y := (0, 1)) hz (C.tN _) ?_
    refine ⟨_, rfl, ite2 (fun c1 => ?_) (fun c1 => ?_)⟩
    · refine q .non H1 s1 (.inl ⟨fun e => ?_, rfl⟩)
      rw [e, show (1 : Rat) - 1 = 0 by decide +kernel] at vx
      rw [is_rdq sx.1 vx, rdq_zero.mpr rfl] at c1
      simp at c1
    have t1 : rowQ row + behQ row step = 1 := by
      rcases Classical.em (x = (0, 1)) with y | y
      · rw [y, qv_nought] at vx
        grind
      · exact absurd (show (!decide (x = (0, 1))) = true by simp [y]) c1
    refine ⟨_, rfl, p, _, _, _, rfl, rfl, sqT_same s1 l1, rfl, ?_⟩
    refine ⟨_, rfl, pr, _, rfl, sqT_same s1 r1, ?_⟩
    refine lc_mkW (K := K) (walk_q (Sq := fun H xs => SqT K H pr xs) (k := 1) (xs := rs.map V.ref)) (fun k => (((k + 1 : Nat) : Int) : Rat) * chR row step k) (by rw [List.length_map, hrl]; omega) (fun HE sE => sqT_same (s1.trans sE) r1) (fun i v HE HE' R hi sE hY qr => ?_) (fun to H2 s2 hto => ?_)
    · obtain ⟨T, x1, x2, rfl, nT, rfl, ex1, ex2⟩ := hY
      rw [List.length_map, hrl] at hi
      dsimp only at ex1 ex2
      cases Option.some.inj ex1
      obtain ⟨r, rfl, hr2, sm2, sz2⟩ := row_item (step := step) (pr := pr) M r2 (s1.trans sE) hi ex2
      have gT := same_new (o := HO.tup [.int (1 + ((i : Nat) : Int)), .ref r]) nT
      refine ⟨T, _, rfl, SqT.of upd_same, rfl, _, _, rfl, _, _, rfl, rfl, rfl, ?_⟩
      refine ⟨_, rfl, by show 2 ≤ sizeLine; decide, fun b nb => ?_⟩
      have g2 := same_new (o := HO.tup [.int (1 + ((i : Nat) : Int)), .int 1]) nb
      refine ⟨_, rfl, ?_⟩
      refine tnil_go ?_
      refine times_go (x := (((i + 1 : Nat) : Int) : Rat)) (int_rat ?_) (hr2.tk (Tk.same (gT.trans g2))) (int_smr (by omega)) sm2 fun r3 HF sF hr3 => qr r3 HF (gT.trans (g2.trans sF)) hr3
      rw [show ((i + 1 : Nat) : Int) = 1 + ((i : Nat) : Int) by omega]
      exact SqT.of upd_same
    rw [List.length_map, hrl] at hto
    refine ⟨_, rfl, p, row, step, W, rfl, hl.tk (Tk.same (s1.trans s2)), M, fun z3 a b c H3 s3 hz3 ha hb hc => ?_⟩
    refine noPart_go ?_
    refine ⟨2, rfl, z3, _, rfl, hz3, fun zz => ?_, fun _ z4 n4 => ?_⟩
    · have z2 := zz.2
      rw [show (2 : Int) = ((2 : Nat) : Int) from rfl, HT.sIx_nat] at z2
      exact absurd z2 (by show ¬ min 2 3 = 3; decide)
    rw [show (2 : Int) = ((2 : Nat) : Int) from rfl, cutV_take] at *
    have e4 := same_new (o := HO.tup ([V.ref a, V.ref b, V.ref c].take 2)) n4
    refine ⟨z4, _, rfl, SqT.of upd_same, rfl, _, _, rfl, _, _, rfl, rfl, ?_⟩
    obtain ⟨ts, ht1, ht2⟩ := hto
    have htl := ht2.length
    rw [mkL_len] at htl
    have S4 := s3.trans e4
    refine ⟨_, rfl, to, _, rfl, .inr (SqL.of (S4 _ _ ht1)), ?_⟩
    refine ⟨_, rfl, pr, _, rfl, .inr (sqT_same (s1.trans (s2.trans S4)) r1), ?_⟩
    refine ⟨by show 2 ≤ sizeLine; decide, fun b5 n5 => ?_⟩
    have el : (((rs.map V.ref).length : Nat) : Int) = (row.length : Int) := by rw [List.length_map, hrl]
    have e5 := same_new (o := HO.tup [.int ((rs.map V.ref).length : Nat), .int 1]) n5
    have szB := M.up2 M.beh
    have szF := M.up3 M.first
    refine ⟨_, rfl, ?_⟩
    refine tnil_go ?_
    refine times_go (x := ((row.length : Int) : Rat)) (y := behQ row step) (int_rat ?_) (ha.tk (Tk.same (e4.trans e5))) (int_smr (by omega)) (szB.smr P0.1 P0.2 (by decide)) fun r6 H6 s6 hr6 => ?_
    · rw [← el]
      exact SqT.of upd_same
    refine ⟨_, rfl, ?_, fun ls nls => ?_⟩
    · rw [List.length_append, List.length_map, htl]
      exact Nat.le_trans (show row.length + 2 ≤ 1000 by omega) (by decide)
    have e7 := same_new (o := HO.lst (ts.map V.ref ++ [.ref r6, .ref b])) nls
    have S7 := e5.trans (s6.trans e7)
    refine tnil_go ?_
    have hP := M.P.1
    refine ⟨ls, mkL row.length (fun k => (((k + 1 : Nat) : Int) : Rat) * chR row step k) ++ [rdq (((row.length : Int) : Rat) * behQ row step), rdq (firstQ row step)], 58 + 8 + 1, 58, mP W step, rfl, ⟨ts ++ [r6, b], SqL.of ?_, (ht2.tk (Tk.same (S4.trans S7))).append (.cons (hr6.tk (Tk.same e7)) (.cons (hb.tk (Tk.same (e4.trans S7))) .nil))⟩, over_ls hP P0.2 (fun y hy => ?_) (by rw [List.length_append, mkL_len]; show row.length + 2 ≤ 1000; omega), by decide, by decide, fun y x2 H8 s8 hy rx vx2 _ _ => ?_⟩
    · rw [upd_same, List.map_append]
      rfl
    · rcases List.mem_append.mp hy with u | u
      · obtain ⟨j, hj, rfl⟩ := mem_mkL u
        refine ⟨_, rfl, ?_⟩
        have hg : row[j]? = some row[j] := List.getElem?_eq_getElem hj
        rw [chR_in hg]
        exact ((M.up1 (M.rowz (List.getElem_mem hj))).nat (j := 4) hP (by omega)).mono (by decide)
      · rcases List.mem_cons.mp u with u | u
        · rw [u]
          exact ⟨_, rfl, (szB.nat (j := 4) hP (by omega)).mono (by decide)⟩
        · rw [List.mem_singleton.mp u]
          exact ⟨_, rfl, szF.mono (by decide)⟩
    have ex : x2 = rdq (meanQ row step) := by
      refine is_rdq rx ?_
      rw [vx2, List.map_append, sum_app_rat, mkL_sum]
      show _ + (qv (rdq _) + (qv (rdq _) + 0)) = _
      rw [qv_rdq, qv_rdq]
      unfold meanQ
      grind
    rw [ex] at hy
    exact q (.ref y) H8 (s1.trans (s2.trans (S4.trans (S7.trans s8)))) (.inr ⟨t1, y, rfl, hy⟩)
/-- the greatest that divides all -/
def gR (a : Nat → Rat) : Nat → Nat
  | 0 => 0
  | i + 1 => if a i = 0 then gR a i else Nat.gcd (gR a i) (i + 1)
def roundN (row : List RT) (step : RT) : Nat := if behQ row step = 0 then gR (chR row step) row.length else Nat.gcd (gR (chR row step) row.length) (row.length + 1)
def spRound (K : PySem.W.Frag) : Sp := fun vs H Q _ => ∃ (p : Addr) (row : List RT) (step : RT) (W : Int), vs = [.ref p] ∧ LifeAt K H p row step ∧ ML row step W ∧ ∀ H', Same H H' → Q (.int ((roundN row step : Nat) : Int)) H'
end

end Fp

set_option Elab.async false
set_option linter.all false
set_option maxRecDepth 100000
set_option maxHeartbeats 4000000
set_option exponentiation.threshold 10000
namespace Fp
open PySem PySem.Spec PyProof.Rows L2
/-! ### the law's own means -/
theorem abel1 (a : Nat → Rat) (n : Nat) : (sumTo n fun k => (((k + 1 : Nat) : Int) : Rat) * a k) + (sumTo n fun k => sumTo k a) = ((n : Int) : Rat) * sumTo n a := by
  induction n with
  | zero =>
    show (0 : Rat) + 0 = 0 * 0
    grind
  | succ n ih =>
    rw [sumTo_succ, sumTo_succ (n := n) (f := fun k => sumTo k a), sumTo_succ (n := n) (f := a)]
    rw [show (((n + 1 : Nat) : Int)) = (n : Int) + 1 by omega, Rat.intCast_add]
    show _ + ((n : Int) + (1 : Rat)) * a n + _ = ((n : Int) + (1 : Rat)) * _
    grind
theorem abel2 (a : Nat → Rat) (n : Nat) : (sumTo n fun k => ((((k + 1) * (k + 1) : Nat) : Int) : Rat) * a k) + (sumTo n fun k => (((2 * k + 1 : Nat) : Int) : Rat) * sumTo k a) = (((n * n : Nat) : Int) : Rat) * sumTo n a := by
  induction n with
  | zero =>
    show (0 : Rat) + 0 = 0 * 0
    grind
  | succ n ih =>
    rw [sumTo_succ, sumTo_succ (n := n) (f := fun k => (((2 * k + 1 : Nat) : Int) : Rat) * sumTo k a), sumTo_succ (n := n) (f := a)]
    have e1 : ((((n + 1) * (n + 1) : Nat) : Int) : Rat) = (((n * n : Nat) : Int) : Rat) + (((2 * n + 1 : Nat) : Int) : Rat) := by
      rw [← Rat.intCast_add]
      congr 1
      have : (n + 1) * (n + 1) = n * n + (2 * n + 1) := by
        rw [Nat.add_mul, Nat.mul_add]
        omega
      omega
    rw [e1]
    grind
theorem ones (n : Nat) : (sumTo n fun _ => (1 : Rat)) = ((n : Int) : Rat) := by
  induction n with
  | zero => rfl
  | succ n ih =>
    rw [sumTo_succ, ih, show (((n + 1 : Nat) : Int)) = (n : Int) + 1 by omega, Rat.intCast_add]
    rfl
theorem odds (n : Nat) : (sumTo n fun k => (((2 * k + 1 : Nat) : Int) : Rat)) = (((n * n : Nat) : Int) : Rat) := by
  induction n with
  | zero => rfl
  | succ n ih =>
    rw [sumTo_succ, ih, ← Rat.intCast_add]
    congr 1
    have : (n + 1) * (n + 1) = n * n + (2 * n + 1) := by
      rw [Nat.add_mul, Nat.mul_add]
      omega
    omega
theorem rowQ_to (row : List RT) (step : RT) : ∀ k, k ≤ row.length → rowQ (row.take k) = sumTo k (chR row step)
  | 0, _ => rfl
  | k + 1, h => by
    have hg : row[k]? = some row[k] := List.getElem?_eq_getElem (by omega)
    rw [List.take_add_one, hg, sumTo_succ, chR_in hg, ← rowQ_to row step k (by omega)]
    exact rowQ_snoc _ _
theorem restR_le {row : List RT} {step : RT} {k : Nat} (h : k ≤ row.length) : restR row step k = (rowQ row + behQ row step) - sumTo k (chR row step) := by
  rw [← rowQ_to row step k h]
  have e : rowQ row = rowQ (row.take k) + rowQ (row.drop k) := by
    unfold rowQ
    conv => lhs; rw [← List.take_append_drop k row]
    rw [List.map_append, sum_app_rat]
  have e2 : restR row step k = rowQ (row.drop k) + behQ row step := by
    unfold restR behQ
    congr 1
    generalize row.getLast? = o
    cases o with
    | none => rfl
    | some l =>
      show qv l * qv step ^ (1 + (k - row.length)) / (1 - qv step) = _
      rw [show 1 + (k - row.length) = 0 + 1 by omega, Rat.pow_succ, Rat.pow_zero]
      grind
  rw [e2, e]
  grind
section
variable {P : Program} {w : World} {K : PySem.W.Frag} {mg : Str → Option Value} {base : Heap}
theorem lsum_ls {H : Hp} {Q : VK} {p : Addr} {xs : List RT} {P : Int} {s k : Nat} (h : LsM K H p xs) (hP : 0 < P) (sP : Sm s P) (z : ∀ x ∈ xs, ∃ q, x = rdq q ∧ Sz P k q) (hl : xs.length ≤ 900) (hs : s ≤ 2500) (hk : k ≤ 900)
    (q : ∀ r H', Same H H' → RAt K H' r (rdq (xs.map qv).sum) → Q (.ref r) H') : spLsum K LstAt [.ref p] H Q E0 := by
  obtain ⟨rs, h1, h2⟩ := h
  refine ⟨p, _, _, _, P, rfl, ⟨rs, SqL.of h1, h2⟩, over_ls hP sP z (by omega), by omega, by omega, fun y x HF sF hy rx vx _ _ => ?_⟩
  rw [is_rdq rx vx] at hy
  exact q y HF sF hy
theorem low_go {H : Hp} {Q : VK} {t b : Int} {v : Rat} (hb : 0 < b) (s8 : Sm 8000 b) (e : ((t : Int) : Rat) = v * (b : Rat)) (q : ∀ r H', Same H H' → RAt K H' r (rdq v) → Q (.ref r) H') : spLow [.int t, .int b] H Q E0 := by
  refine ⟨t, b, rfl, hb, s8, fun p np => ?_⟩
  have hc := cast_ne (Int.ne_of_gt hb)
  have ex : low2 t b = rdq v := by
    refine is_rdq (low2_red (Int.ne_of_gt hb)) ?_
    rw [qv_low2 hb, e]
    grind
  refine q p _ (same_new np) ?_
  rw [← ex]
  exact SqT.of upd_same
def spLmeans (K : PySem.W.Frag) : Sp := fun vs H Q _ => ∃ (p : Addr) (row : List RT) (step : RT) (W : Int), vs = [.ref p] ∧ LifeAt K H p row step ∧ ML row step W ∧
  ∀ z m s H', Same H H' → SqT K H' z [m, s] → MV K H' m (rowQ row + behQ row step) (meanQ row step) → MV K H' s (rowQ row + behQ row step) (msqQ row step) → Q (.ref z) H'
end

end Fp

set_option Elab.async false
set_option linter.all false
set_option maxRecDepth 100000
set_option maxHeartbeats 4000000
set_option exponentiation.threshold 10000
namespace Fp
open PySem PySem.Spec PyProof.Rows L2
/-! ### what stands at a beat: sums -/
theorem sumTo_spl (a b : Nat) (f : Nat → Rat) : sumTo (a + b) f = sumTo a f + sumTo b fun j => f (a + j) := by
  induction b with
  | zero =>
    rw [Nat.add_zero, sumTo_zero]
    grind
  | succ b ih =>
    rw [← Nat.add_assoc, sumTo_succ, sumTo_succ, ih]
    grind
def leftQ (a : Nat → Rat) (beat j : Nat) : Rat := sumTo (beat + 1) fun i => renQ a oneAt (beat - i) * a (i + j)
def sinceQ (a : Nat → Rat) (beat j : Nat) : Rat := sumTo (beat + 1 - (beat - j)) fun i => renQ a oneAt (beat - j + i)
def strQ (a : Nat → Rat) (beat j : Nat) : Rat := a j * sinceQ a beat j
def putSum (a : Nat → Rat) (beat : Nat) : Rat := sumTo (beat + 1) fun i => renQ a oneAt i
theorem put0 (a : Nat → Rat) : renQ a oneAt 0 = 1 := by
  rw [renQ_is, sumTo_zero]
  show (1 : Rat) + 0 = 1
  grind
theorem putS (a : Nat → Rat) (n : Nat) : renQ a oneAt (n + 1) = sumTo (n + 1) fun i => a i * renQ a oneAt (n - i) := by
  rw [renQ_is]
  show (0 : Rat) + sumTo (n + 1) (fun i => a i * renQ a oneAt (n - i)) = _
  grind
theorem putSum_many (a : Nat → Rat) (beat : Nat) : putSum a beat = 1 + sumTo beat fun i => renQ a oneAt (i + 1) := by
  unfold putSum
  rw [sumTo_head, put0]
/-- whatever stands: all ages together are one -/
theorem stands_one (a : Nat → Rat) : ∀ n, (sumTo (n + 1) fun i => renQ a oneAt (n - i) * (1 - sumTo i a)) = 1
  | 0 => by
    rw [sumTo_succ, sumTo_zero]
    show (0 : Rat) + renQ a oneAt 0 * (1 - sumTo 0 a) = 1
    rw [put0, sumTo_zero]
    grind
  | n + 1 => by
    have ih := stands_one a n
    have e : (sumTo (n + 1) fun j => renQ a oneAt (n + 1 - (j + 1)) * (1 - sumTo (j + 1) a)) = (sumTo (n + 1) fun i => renQ a oneAt (n - i) * (1 - sumTo i a)) + (-1) * sumTo (n + 1) fun i => a i * renQ a oneAt (n - i) := by
      rw [sumTo_mul, ← sumTo_add]
      refine sumTo_congr fun i hi => ?_
      rw [sumTo_succ, show n + 1 - (i + 1) = n - i by omega]
      grind
    rw [sumTo_head, e, ih, ← putS, Nat.sub_zero, sumTo_zero]
    grind
theorem nat1 (j : Nat) : (((j + 1 : Nat) : Int) : Rat) = ((j : Int) : Rat) + 1 := by
  rw [show ((j + 1 : Nat) : Int) = (j : Int) + 1 by omega, Rat.intCast_add]
  rfl
def tailQ (a : Nat → Rat) (L i : Nat) : Rat := sumTo L fun j => (((j + 1 : Nat) : Int) : Rat) * a (i + j)
theorem shift1 (g : Nat → Rat) : ∀ L, (sumTo L fun j => (((j + 1 : Nat) : Int) : Rat) * g j) = (sumTo L fun j => (((j + 1 : Nat) : Int) : Rat) * g (j + 1)) + sumTo L g - ((L : Int) : Rat) * g L
  | 0 => by
    rw [sumTo_zero, sumTo_zero, sumTo_zero]
    show (0 : Rat) = 0 + 0 - 0 * _
    grind
  | L + 1 => by
    have ih := shift1 g L
    rw [sumTo_succ, sumTo_succ, sumTo_succ, nat1]
    grind
theorem tail_step (a : Nat → Rat) (L : Nat) (h0 : ∀ k, L ≤ k → a k = 0) (h1 : sumTo L a = 1) (i : Nat) : tailQ a L i = tailQ a L (i + 1) + (1 - sumTo i a) := by
  have e := shift1 (fun j => a (i + j)) L
  have e2 : sumTo (i + L) a = 1 := by
    rw [Nat.add_comm, sumTo_spl, h1, sumTo_congr (g := fun _ => 0) fun j _ => h0 _ (by omega), sumTo_nought]
    grind
  rw [sumTo_spl] at e2
  unfold tailQ
  rw [e, h0 (i + L) (by omega)]
  have e3 : (sumTo L fun j => (((j + 1 : Nat) : Int) : Rat) * a (i + (j + 1))) = sumTo L fun j => (((j + 1 : Nat) : Int) : Rat) * a (i + 1 + j) := sumTo_congr fun j _ => by rw [show i + (j + 1) = i + 1 + j by omega]
  rw [e3]
  grind
theorem left_tail (a : Nat → Rat) (L n : Nat) : (sumTo L fun j => (((j + 1 : Nat) : Int) : Rat) * leftQ a n j) = sumTo (n + 1) fun i => renQ a oneAt (n - i) * tailQ a L i := by
  have e : (sumTo L fun j => (((j + 1 : Nat) : Int) : Rat) * leftQ a n j) = sumTo L fun j => sumTo (n + 1) fun i => renQ a oneAt (n - i) * ((((j + 1 : Nat) : Int) : Rat) * a (i + j)) := by
    refine sumTo_congr fun j _ => ?_
    unfold leftQ
    rw [sumTo_mul]
    exact sumTo_congr fun i _ => by grind
  rw [e, sumTo_swap]
  refine sumTo_congr fun i _ => ?_
  unfold tailQ
  rw [sumTo_mul]
/-- what is left, in the mean: all stretches put, less the beats -/
theorem wald (a : Nat → Rat) (L : Nat) (h0 : ∀ k, L ≤ k → a k = 0) (h1 : sumTo L a = 1) : ∀ n, (sumTo L fun j => (((j + 1 : Nat) : Int) : Rat) * leftQ a n j) = tailQ a L 0 * putSum a n - ((n : Int) : Rat)
  | 0 => by
    rw [left_tail, sumTo_succ, sumTo_zero]
    unfold putSum
    rw [sumTo_succ, sumTo_zero]
    show (0 : Rat) + renQ a oneAt 0 * tailQ a L 0 = tailQ a L 0 * (0 + renQ a oneAt 0) - 0
    grind
  | n + 1 => by
    have ih := wald a L h0 h1 n
    rw [left_tail] at ih
    rw [left_tail, sumTo_head]
    have e : (sumTo (n + 1) fun j => renQ a oneAt (n + 1 - (j + 1)) * tailQ a L (j + 1)) = (sumTo (n + 1) fun i => renQ a oneAt (n - i) * tailQ a L i) + (-1) * sumTo (n + 1) fun i => renQ a oneAt (n - i) * (1 - sumTo i a) := by
      rw [sumTo_mul, ← sumTo_add]
      refine sumTo_congr fun i _ => ?_
      rw [show n + 1 - (i + 1) = n - i by omega, tail_step a L h0 h1 i]
      grind
    rw [e, ih, stands_one, Nat.sub_zero]
    have e2 : putSum a (n + 1) = putSum a n + renQ a oneAt (n + 1) := by
      unfold putSum
      rw [sumTo_succ]
    rw [e2, nat1]
    grind
theorem chR_far0 {row : List RT} {i : Nat} (h : row.length ≤ i) : chR row (0, 1) i = 0 := by
  rcases Classical.em (row = []) with z | z
  · rw [z, chR_nil]
  · obtain ⟨l, h1, _, _⟩ := last_is z
    rw [chR_out h h1, qv_nought, show i + 1 - row.length = (i - row.length) + 1 by omega, Rat.pow_succ]
    grind
/-! ### sizes -/
theorem Sz.whole {P : Int} {q : Rat} {s k : Nat} (h : Sz P k q) (hP : 0 < P) (sP : Sm s P) : ∃ T : Int, (T : Rat) = q * (P : Rat) ∧ Sm (s + k + 1) T := by
  obtain ⟨⟨T, hT⟩, h0, h1⟩ := h
  have hc := cast_ne (Int.ne_of_gt hP)
  have hcp : (0 : Rat) < (P : Rat) := Rat.intCast_pos.mpr hP
  have e1 : (T : Rat) = q * (P : Rat) := by
    rw [hT]
    grind
  refine ⟨T, e1, ?_⟩
  have e2 : (2 : Rat) ^ k * (P : Rat) = ((2 ^ k * P : Int) : Rat) := by
    rw [Rat.intCast_mul, cast_pow 2 k]
    rfl
  have t1 : T ≤ 2 ^ k * P := by
    have := Rat.mul_le_mul_of_nonneg_right h1 (Rat.le_of_lt hcp)
    rw [← e1, e2] at this
    exact Rat.intCast_le_intCast.mp this
  have t0 : -(2 ^ k * P) ≤ T := by
    have := Rat.mul_le_mul_of_nonneg_right h0 (Rat.le_of_lt hcp)
    rw [← e1] at this
    refine Rat.intCast_le_intCast.mp ?_
    rw [Rat.intCast_neg, ← e2]
    grind
  unfold Sm at *
  have t2 : T.natAbs ≤ 2 ^ k * P.natAbs := by
    have : (2 ^ k * P : Int).natAbs = 2 ^ k * P.natAbs := by
      rw [Int.natAbs_mul, Int.natAbs_pow]
      rfl
    omega
  have t3 : 2 ^ k * P.natAbs ≤ 2 ^ k * 2 ^ s := Nat.mul_le_mul_left _ (Nat.le_of_lt sP)
  have t4 : 2 ^ (s + k + 1) = 2 * (2 ^ k * 2 ^ s) := by
    rw [Nat.pow_succ, Nat.pow_add, Nat.mul_comm, Nat.mul_comm (2 ^ s)]
  have t5 : 0 < 2 ^ k * 2 ^ s := Nat.mul_pos (Nat.pow_pos (by decide)) (Nat.pow_pos (by decide))
  omega
theorem Sz.inv {P : Int} {q : Rat} {s k : Nat} (h : Sz P k q) (hP : 0 < P) (sP : Sm s P) (h1 : 1 ≤ q) : ∃ N : Int, 0 < N ∧ Sm (s + k + 1) N ∧ Sz N 0 (1 / q) := by
  obtain ⟨T, e, sT⟩ := h.whole hP sP
  have hcp : (0 : Rat) < (P : Rat) := Rat.intCast_pos.mpr hP
  have hq : (0 : Rat) < q := by grind
  have hT : (0 : Rat) < (T : Rat) := by
    rw [e]
    exact Rat.mul_pos hq hcp
  have hi : (0 : Rat) < q⁻¹ := Rat.inv_pos.mpr hq
  have ei : q * q⁻¹ = 1 := Rat.mul_inv_cancel _ (Rat.ne_of_gt hq)
  have l1 : q⁻¹ ≤ 1 := by
    have := Rat.mul_le_mul_of_nonneg_right h1 (Rat.le_of_lt hi)
    grind
  refine ⟨T, Rat.intCast_pos.mp hT, sT, Sz.pos ⟨P, ?_⟩ ?_ ?_⟩
  · have h2 := Rat.ne_of_gt hT
    have h3 := Rat.ne_of_gt hq
    have h4 := Rat.ne_of_gt hcp
    rw [e] at h2 ⊢
    grind
  · rw [Rat.div_def]
    grind
  · rw [Rat.pow_zero, Rat.div_def]
    grind
theorem Sz.int {n k : Nat} (h : n ≤ 2 ^ k) {P : Int} (hP : 0 < P) : Sz P k ((n : Int) : Rat) := by
  have := (Sz.one (k := 0) hP).nat (j := k) hP h
  rw [Rat.mul_one, Nat.zero_add] at this
  exact this
section
variable {row : List RT} {step : RT} {W : Int}
theorem rowQ_all (row : List RT) (step : RT) : rowQ row = sumTo row.length (chR row step) := by
  rw [← rowQ_to row step _ (Nat.le_refl _), List.take_length]
theorem ML.row_ge (M : ML row step W) {k : Nat} (hk : k < row.length) : 0 ≤ chR row step k := by
  rw [chR_in (List.getElem?_eq_getElem hk)]
  exact (M.q01 _ (List.getElem_mem hk)).1
theorem ML.qstep (M : ML row step W) : 0 ≤ qv step ∧ 0 < 1 - qv step := by
  obtain ⟨g1, g2, g3, g4⟩ := M.gap
  obtain ⟨gq, _⟩ := M.gapQ
  refine ⟨?_, ?_⟩
  · unfold qv
    rw [Rat.div_def]
    exact Rat.mul_nonneg (Rat.intCast_nonneg.mpr g3) (Rat.le_of_lt (Rat.inv_pos.mpr (Rat.intCast_pos.mpr g4)))
  · rw [gq, Rat.div_def]
    exact Rat.mul_pos (Rat.intCast_pos.mpr g1) (Rat.inv_pos.mpr (Rat.intCast_pos.mpr g4))
theorem ML.beh_ge (M : ML row step W) : 0 ≤ behQ row step := by
  obtain ⟨s0, s1⟩ := M.qstep
  rcases snoc_cases row with z | ⟨ys, y, z⟩
  · rw [z]
    exact Rat.le_refl
  · have hy : y ∈ row := by rw [z]; simp
    rw [z, behQ_snoc, Rat.div_def]
    exact Rat.mul_nonneg (Rat.mul_nonneg (M.q01 y hy).1 s0) (Rat.le_of_lt (Rat.inv_pos.mpr s1))
theorem ML.mean_ge (M : ML row step W) (t : rowQ row + behQ row step = 1) : 1 ≤ meanQ row step := by
  obtain ⟨s0, s1⟩ := M.qstep
  have b0 := M.beh_ge
  rw [rowQ_all row step] at t
  have h1 : sumTo row.length (chR row step) ≤ sumTo row.length fun k => (((k + 1 : Nat) : Int) : Rat) * chR row step k := by
    refine sumTo_le fun k hk => ?_
    have a0 := M.row_ge hk
    have n0 : (0 : Rat) ≤ ((k : Int) : Rat) := Rat.intCast_nonneg.mpr (by omega)
    have := Rat.mul_nonneg n0 a0
    rw [nat1]
    grind
  have f0 : 0 ≤ firstQ row step := by
    unfold firstQ
    rw [Rat.div_def]
    exact Rat.mul_nonneg b0 (Rat.le_of_lt (Rat.inv_pos.mpr s1))
  have f1 : behQ row step ≤ firstQ row step := by
    have e : behQ row step = firstQ row step * (1 - qv step) := by
      unfold firstQ
      have := Rat.ne_of_gt s1
      grind
    have := Rat.mul_nonneg f0 s0
    grind
  have h2 : 0 ≤ ((row.length : Int) : Rat) * behQ row step := Rat.mul_nonneg (Rat.intCast_nonneg.mpr (by omega)) b0
  unfold meanQ
  grind
theorem ML.meanSz (M : ML row step W) : Sz (mP W step) 13 (meanQ row step) := by
  have hP := M.P.1
  have h13 := M.len
  have z1 : Sz (mP W step) 11 (sumTo row.length fun k => (((k + 1 : Nat) : Int) : Rat) * chR row step k) := by
    refine Sz.sum (k := 4) hP (fun j hj => ?_) (by omega)
    rw [chR_in (List.getElem?_eq_getElem hj)]
    exact (M.up1 (M.rowz (List.getElem_mem hj))).nat (j := 4) hP (by omega)
  have z2 : Sz (mP W step) 11 (((row.length : Int) : Rat) * behQ row step) := ((M.up2 M.beh).nat (j := 4) hP (by omega)).mono (by decide)
  exact (z1.add hP z2).add hP ((M.up3 M.first).mono (by decide))
/-- of a row alone: the mean -/
theorem mean_row (row : List RT) : meanQ row (0, 1) = tailQ (chR row (0, 1)) row.length 0 := by
  have hb : behQ row (0, 1) = 0 := by
    unfold behQ
    split
    · rfl
    · rw [qv_nought]
      grind
  unfold meanQ firstQ tailQ
  rw [hb, qv_nought]
  have e : (sumTo row.length fun j => (((j + 1 : Nat) : Int) : Rat) * chR row (0, 1) (0 + j)) = sumTo row.length fun j => (((j + 1 : Nat) : Int) : Rat) * chR row (0, 1) j := sumTo_congr fun j _ => by rw [Nat.zero_add]
  rw [e]
  grind
end
/-- the share -/
def shareQ (row : List RT) (step : RT) : Rat := if rowQ row + behQ row step = 1 then 1 / meanQ row step else 0
def everQ (row : List RT) (step : RT) (k : Nat) : Rat := (((k + 1 : Nat) : Int) : Rat) * (chR row step k * shareQ row step)
theorem ML.shareSz {row : List RT} {step : RT} {W : Int} (M : ML row step W) : ∃ N : Int, 0 < N ∧ Sm 72 N ∧ Sz N 0 (shareQ row step) := by
  unfold shareQ
  split
  · rename_i t
    exact M.meanSz.inv M.P.1 M.P.2 (M.mean_ge t)
  · exact ⟨1, by decide, by unfold Sm; decide, Sz.nought⟩

end Fp

set_option Elab.async false
set_option linter.all false
set_option maxRecDepth 100000
set_option maxHeartbeats 4000000
set_option exponentiation.threshold 10000
namespace Fp
open PySem PySem.Spec PyProof.Rows L2
/-! ### lefts, stretches, the mean of what is left, the share -/
theorem cutV_fromN (vs : List V) (n : Nat) : cutV vs (some (n : Int)) none = vs.drop n := by
  unfold cutV
  rw [HT.sIx_nat]
  show (vs.drop (min n vs.length)).take (vs.length - min n vs.length) = _
  rcases (by omega : n ≤ vs.length ∨ vs.length < n) with z | z
  · rw [Nat.min_eq_left z, List.take_of_length_le (by rw [List.length_drop]; exact Nat.le_refl _)]
  · rw [Nat.min_eq_right (by omega), Nat.sub_self, List.take_zero, List.drop_eq_nil_of_le (by omega)]
theorem mkI_dropn {n m : Nat} {f : Nat → Int} (h : m ≤ n) : (mkI n f).drop m = mkI (n - m) fun i => f (m + i) := by
  refine List.ext_getElem (by rw [List.length_drop, mkI_len, mkI_len]) fun i h1 h2 => ?_
  rw [mkI_len] at h2
  have e1 := mkI_at (f := f) (show m + i < n by omega)
  have e2 := mkI_at (f := fun i => f (m + i)) h2
  rw [List.getElem_drop]
  rw [List.getElem?_eq_getElem (by rw [mkI_len]; omega)] at e1
  rw [List.getElem?_eq_getElem (by rw [mkI_len]; exact h2)] at e2
  rw [Option.some.inj e1, Option.some.inj e2]
theorem mkL_dropn {n m : Nat} {g : Nat → Rat} (h : m ≤ n) : (mkL n g).drop m = mkL (n - m) fun i => g (m + i) := by
  refine List.ext_getElem (by rw [List.length_drop, mkL_len, mkL_len]) fun i h1 h2 => ?_
  rw [mkL_len] at h2
  have e1 := mkL_at (g := g) (show m + i < n by omega)
  have e2 := mkL_at (g := fun i => g (m + i)) h2
  rw [List.getElem_drop]
  rw [List.getElem?_eq_getElem (by rw [mkL_len]; omega)] at e1
  rw [List.getElem?_eq_getElem (by rw [mkL_len]; exact h2)] at e2
  rw [Option.some.inj e1, Option.some.inj e2]
section
variable {K : PySem.W.Frag} {H : Hp} {Q : VK}
theorem dropI_go {p : Addr} {n m : Nat} {f : Nat → Int} (h : IntL H p n f) (hm : m ≤ n) (q : ∀ b H', Same H H' → IntL H' b (n - m) (fun i => f (m + i)) → Q (.ref b) H') : rSlL K (.ref p) (some (m : Int)) none H Q := by
  refine ⟨p, _, rfl, SqL.of h, fun b nb => ?_⟩
  rw [cutV_fromN, ← List.map_drop, mkI_dropn hm]
  exact q b _ (same_new nb) upd_same
theorem drop_rowm {p : Addr} {xs : List RT} {m : Nat} (h : RowAt K H p xs) (hq : ∀ r H', Same H H' → RowAt K H' r (xs.drop m) → Q (.ref r) H') : rSlA K (.ref p) (some (m : Int)) none H Q := by
  obtain ⟨rs, h1, h2⟩ := h
  have hl2 := h2.length
  refine ⟨p, _, rfl, h1, fun z => ?_, fun _ r nr => ?_⟩
  · have z1 := z.1
    rw [HT.sIx_nat, List.length_map] at z1
    have e : xs.drop m = xs := by
      rcases (by omega : m = 0 ∨ xs.length = 0) with y | y
      · rw [y, List.drop_zero]
      · rw [List.length_eq_zero_iff.mp y, List.drop_nil]
    refine hq p H (Same.refl _) ?_
    rw [e]
    exact ⟨rs, h1, h2⟩
  · rw [cutV_fromN]
    have s := same_new (o := HO.tup ((rs.map V.ref).drop m)) nr
    refine hq r _ s ⟨rs.drop m, ?_, (h2.drop m).tk (Tk.same s)⟩
    rw [List.map_drop]
    exact SqT.of upd_same
theorem oobT_go {p : Addr} {m s k : Nat} {A : Nat → Rat} {P : Int} (h : RowAt K H p (mkL m A)) (hP : 0 < P) (sP : Sm s P) (z : ∀ j, j < m → Sz P k (A j)) (hm : m ≤ 900) (hs : s ≤ 2500) (hk : k ≤ 900)
    (q : ∀ z zl c T H', Same H H' → H' z = some (.tup [.ref zl, .int c]) → IntL H' zl m T → 0 < c → c ∣ P → Sm s c → (∀ j, j < m → ((T j : Int) : Rat) = (c : Rat) * A j) → (∀ j, j < m → Sm (2 * s + k + 1) (T j)) → Q (.ref z) H') : spOobT K [.ref p] H Q E0 := by
  have O := over_mkL hP sP z (show m ≤ 1000 by omega)
  refine ⟨p, _, _, _, _, rfl, h, O, by omega, by omega, fun z1 zl c H' s1 hz hzl c0 cD hc => ?_⟩
  have hl : (mkL m A).length = m := mkL_len
  refine q z1 zl c (getI (topsOn c (mkL m A))) H' s1 hz ?_ c0 cD (dvd_small cD hP sP) (fun j hj => ?_) (fun j hj => ?_)
  · have e := is_mkI (xs := topsOn c (mkL m A))
    rw [tops_len, hl] at e
    unfold IntL
    rw [← e]
    exact hzl
  · rw [tops_val c0 (by rw [hl]; exact hj) fun x hx => ⟨(O.ok x hx).1, hc x hx⟩, qa_mkL hj]
  · have := tops_each (n := s + k + 1) O.pos cD O.sm (xs := mkL m A) (j := j) (by rw [hl]; exact hj) fun x hx => (O.ok x hx).2.2
    exact this.mono (by omega)
end
abbrev s_lefts : Stmt := topS 32
abbrev N_lefts : List Str := ["life", "beat", "most", "tops", "bottom", "chance_tops", "chance_bottom", "told", "left", "parts", "age"]
theorem sc_lefts : FnScope N_lefts ["life", "beat", "most"] (defScope s_lefts) := ⟨rfl, rfl, rfl, by decide +kernel, rfl, by decide +kernel, by decide +kernel⟩
abbrev s_stretches : Stmt := topS 33
abbrev N_stretches : List Str := ["life", "beat", "most", "tops", "bottom", "told", "k", "chance", "since"]
theorem sc_stretches : FnScope N_stretches ["life", "beat", "most"] (defScope s_stretches) := ⟨rfl, rfl, rfl, by decide +kernel, rfl, by decide +kernel, by decide +kernel⟩
abbrev s_ml : Stmt := topS 36
abbrev N_ml : List Str := ["life", "beat", "stretch"]
theorem sc_ml : FnScope N_ml ["life", "beat"] (defScope s_ml) := ⟨rfl, rfl, rfl, by decide +kernel, rfl, by decide +kernel, by decide +kernel⟩
abbrev s_share : Stmt := topS 40
abbrev N_share : List Str := ["life", "stretch"]
theorem sc_share : FnScope N_share ["life"] (defScope s_share) := ⟨rfl, rfl, rfl, by decide +kernel, rfl, by decide +kernel, by decide +kernel⟩
section
variable {P : Program} {w : World} {K : PySem.W.Frag} {mg : Str → Option Value} {base : Heap} {aN aO : Addr}
def spLefts (K : PySem.W.Frag) : Sp := fun vs H Q _ => ∃ (p : Addr) (row : List RT) (step : RT) (n beat most : Nat) (W D D2 : Int), vs = [.ref p, .int (beat : Int), .int (most : Int)] ∧ LifeAt K H p row step ∧ LifeOk n row step ∧ WOk W row ∧ Ch01 D (chR row step) 20 ∧ ChL D2 (chR row step) (beat + most) ∧ beat ≤ 20 ∧ most ≤ 20 ∧
  ∀ z H', Same H H' → RowAt K H' z (mkL most (leftQ (chR row step) beat)) → Q (.ref z) H'
theorem ok_lefts {f fOB fPU fCT fR : Addr} {fd fdOB fdPU fdCT fdR : FuncData} (F : Fun K "lefts" "lefts" s_lefts f fd)
    (FOB : Fun K "on_one_bottom" "on_one_bottom" s_oob fOB fdOB) (bOB : Binds K fdOB ["told"] []) (gOB : mg "on_one_bottom" = some (.ref fOB)) (GOT : FnOk P w K mg base CX0 2 fOB fdOB ["told"] (spOobT K)) (GOB : FnOk P w K mg base CX0 2 fOB fdOB ["told"] (spOob K))
    (FPU : Fun K "puts" "puts" s_puts fPU fdPU) (bPU : Binds K fdPU ["life", "most"] []) (gPU : mg "puts" = some (.ref fPU)) (GPU : FnOk P w K mg base CX0 5 fPU fdPU ["life", "most"] (spPuts K))
    (FCT : Fun K "chances_to" "chances_to" s_chto fCT fdCT) (bCT : Binds K fdCT ["life", "most"] []) (gCT : mg "chances_to" = some (.ref fCT)) (GCT : FnOk P w K mg base CX0 4 fCT fdCT ["life", "most"] (spChto K))
    (FR : Fun K "ratio" "ratio" s_ratio fR fdR) (bR : Binds K fdR ["top", "bottom"] []) (gR : mg "ratio" = some (.ref fR)) (GR : FnOk P w K mg base CX0 2 fR fdR ["top", "bottom"] spRat0)
    (n_range : mg "range" = none) (n_sum : mg "sum" = none) (n_tuple : mg "tuple" = none) : FnOk P w K mg base CX0 6 f fd ["life", "beat", "most"] (spLefts K) := by
  refine F.ok sc_lefts (fun vs H Q E h => ?_) (fun cdv A outer s H vs Q E hr h => ?_)
  · obtain ⟨_, _, _, _, _, _, _, _, _, rfl, _⟩ := h
    rfl
  · obtain ⟨p, row, step, n, beat, most, W, D, D2, rfl, hlife, L, hW, C1, CL, hb, hm, q⟩ := h
    refine ⟨_, (pss_cons (ps_asg (pe_call GOT (hr.mono (by decide)) (by rfl) gOB FOB.kp bOB .nil pass0 (pa_cons (pe_call GPU hr (by rfl) gPU FPU.kp bPU .nil pass0 (pa_cons (pv 0) (pa_cons (pv 1) pa_nil))) pa_nil)) (pg_tup rfl (pgs_cons (pg_name (i := 3) sc_lefts.nd rfl (.inr rfl)) (pgs_cons (pg_name (i := 4) sc_lefts.nd rfl (.inl rfl)) pgs_nil))))
      (pss_cons (ps_asg (pe_call GOB (hr.mono (by decide)) (by rfl) gOB FOB.kp bOB .nil pass0 (pa_cons (pe_call GCT (hr.mono (by decide)) (by rfl) gCT FCT.kp bCT .nil pass0 (pa_cons (pv 0) (pa_cons (pe_op op_add (pv 1) (pv 2)) pa_nil))) pa_nil)) (pg_tup rfl (pgs_cons (pg_name (i := 5) sc_lefts.nd rfl (.inr rfl)) (pgs_cons (pg_name (i := 6) sc_lefts.nd rfl (.inl rfl)) pgs_nil))))
      (pss_cons (ps_set (i := 7) sc_lefts.nd rfl (.inl rfl) (pe_lst pa_nil))
      (pss_cons (ps_for PassesOwn.never rfl (pi_range2 (by rfl) n_range (pa_cons pe_int (pa_cons (pe_op op_add (pv 2) pe_int) pa_nil))) (pg_name (i := 8) sc_lefts.nd rfl (.inr rfl)) (pss_cons (ps_setLc (i := 9) (own := [("age", 10)]) (g := (gName 10)) (tt := tYes) (te := (tOp (rI CMulA fun i j => .int (i * j)) (tOp (rIxL K) (tVar 3) (tOp (rI0 fun i j => .int (i - j)) (tVar 1) (tVar 10))) (tOp (rIxL K) (tVar 5) (tOp (rI0 fun i j => .int (i - j)) (tOp (rI0 fun i j => .int (i + j)) (tVar 10) (tVar 8)) (tC (.int 1)))))) rfl sc_lefts.nd rfl rfl (sw_true rfl rfl rfl (by decide +kernel)) (pi_range1 (by rfl) n_range (pa_cons (pe_op op_add (pv 1) pe_int) pa_nil)) (blkOk_by (own := [("age", 10)]) (N := N_lefts) (sc := (defScope s_lefts)) (by decide +kernel)) (fun _ _ _ _ _ => (pg_name (i := 10) sc_lefts.nd rfl (.inl rfl))) (fun _ _ _ _ _ => pts_nil) (fun _ _ _ _ _ => (pe_op op_mulA (pe_ix ix_list (pv 3) (pe_op op_sub (pv 1) (pv 10)) (fun _ _ => rfl)) (pe_ix ix_list (pv 5) (pe_op op_sub (pe_op op_add (pv 10) (pv 8)) pe_int) (fun _ _ => rfl)))))
      (pss_one (ps_expr (pe_bm PySem.F.plainAttrs_list PySem.F.slot_list_append PySem.F.type_list_append mt_append (pv 7) (pa_cons (pe_call GR (hr.mono (by decide)) (by rfl) gR FR.kp bR .nil pass0 (pa_cons (pe_callB (cr_sum rfl) (by rfl) n_sum (by decide +kernel) (pa_cons (pv 9) pa_nil)) (pa_cons (pe_op op_mulA (pv 4) (pv 6)) pa_nil))) pa_nil))))))
      (pss_one (ps_ret (pe_callTy call_tuple_of (by rfl) n_tuple (by decide +kernel) (pa_cons (pv 7) pa_nil)))))))), ?_⟩
    refine ⟨_, rfl, _, rfl, p, row, step, n, beat, W, rfl, hlife, L, hW, hb, fun zp H1 s1 hzp => ?_⟩
    have hzp' : RowAt K H1 zp (mkL (beat + 1) (renQ (chR row step) oneAt)) := hzp
    clear hzp
    refine tnil_go ?_
    refine oobT_go (K := K) (s := 110 * 20 + 1) (k := 20) hzp' (C1.powSm 20).1 (C1.powSm 20).2 (fun j hj => (C1.putSz (e := 20) (by omega) (by omega)).mono (by omega)) (by omega) (by decide) (by decide) fun z1 zt c T H2 s2 hz1 hzt c0 cD sc tv ts => ?_
    refine ⟨z1, _, rfl, SqT.of hz1, rfl, _, _, rfl, _, _, rfl, rfl, ?_⟩
    refine ⟨_, rfl, _, rfl, _, rfl, _, _, rfl, rfl, ?_⟩
    refine tnil_go ?_
    refine ⟨p, row, step, n, beat + most, ?_, hlife.tk (Tk.same (s1.trans s2)), L, by omega, fun ch rs chs H3 s3 hch hrs his => ?_⟩
    · show [V.ref p, V.int ((beat : Int) + (most : Int))] = [V.ref p, V.int ((beat + most : Nat) : Int)]
      rw [show ((beat + most : Nat) : Int) = (beat : Int) + (most : Int) by omega]
    rw [his.told] at hrs
    generalize ea : chR row step = a at *
    refine tnil_go ?_
    refine oob_go (K := K) (k := 0) ⟨rs, hch, hrs⟩ CL.pos CL.sm (fun j hj => CL.chSz (by omega)) (by omega) (by decide) (by decide) fun z2 zu c2 U H4 s4 hz2 hzu d0 dD sd uv us => ?_
    refine ⟨z2, _, rfl, SqT.of hz2, rfl, _, _, rfl, _, _, rfl, rfl, ?_⟩
    refine ⟨by show 0 ≤ sizeLine; decide, fun tl ntl => ?_⟩
    have e5 := same_new (o := HO.lst []) ntl
    have em : ((most : Int) + 1 - 1).toNat = most := by omega
    have eb : ((beat : Int) + 1).toNat = beat + 1 := by omega
    have hzt4 := (s3.trans s4) _ _ hzt
    refine ⟨_, rfl, _, 1, rfl, rfl, 1, _, rfl, ⟨by decide, by decide, by show -(2 ^ 62) ≤ (most : Int) + 1; omega, by show (most : Int) + 1 < 2 ^ 62; omega⟩, ?_⟩
    refine for_range (lo := 1) (n := ((most : Int) + 1 - 1).toNat) (fun j σ HB => ∃ z8 z9 : Option V, σ = [some (.ref p), some (.int (beat : Int)), some (.int (most : Int)), some (.ref zt), some (.int c), some (.ref zu), some (.int c2), some (.ref tl), z8, z9, none] ∧ Same H4 HB ∧ LsM K HB tl (mkL j (leftQ a beat))) ⟨none, none, rfl, e5, [], upd_same, .nil⟩ ?_ ?_
    · rintro j σ HB hj ⟨z8, z9, rfl, sB, htl⟩
      rw [em] at hj
      obtain ⟨ts', ht1, ht2⟩ := id htl
      refine ⟨_, rfl, _, 1, rfl, rfl, _, rfl, by show -(2 ^ 62) ≤ (beat : Int) + 1; omega, by show (beat : Int) + 1 < 2 ^ 62; omega, ?_⟩
      refine lc_int (n := ((beat : Int) + 1).toNat) (fun i => T (beat - i) * U (i + j)) (by omega) (fun i HE R hi sE qr => ?_) (fun pl H5 s5 hpl => ?_)
      · rw [eb] at hi
        refine ⟨rfl, _, rfl, _, rfl, _, rfl, _, _, rfl, rfl, ?_⟩
        refine ixI_go (K := K) ((sB.trans sE) _ _ hzt4) (m := beat - i) (show (beat : Int) - ((0 : Int) + (i : Int)) = _ by omega) (by omega) ?_
        refine ⟨_, rfl, _, rfl, _, rfl, _, _, rfl, rfl, _, _, rfl, rfl, ?_⟩
        refine ixI_go (K := K) ((sB.trans sE) _ _ hzu) (m := i + j) (show (0 : Int) + (i : Int) + ((1 : Int) + (j : Int)) - 1 = _ by omega) (by omega) ?_
        refine ⟨_, _, rfl, rfl, (ts (beat - i) (by omega)).cmul (us (i + j) (by omega)) (by decide) (by decide) (by decide), ?_⟩
        exact qr _ (Same.refl _)
      rw [eb] at hpl
      have ht5 := s5 _ _ ht1
      refine ⟨_, rfl, .inl ⟨rfl, _, SqL.of ht5⟩, ?_⟩
      refine ⟨_, rfl, ?_⟩
      refine tnil_go ?_
      refine sumI_go (K := K) hpl ?_
      refine ⟨_, rfl, _, rfl, _, _, rfl, rfl, sc.cmul sd (by decide) (by decide) (by decide), ?_⟩
      refine tnil_go ?_
      have ev : (((mkI (beat + 1) fun i => T (beat - i) * U (i + j)).sum : Int) : Rat) = leftQ a beat j * ((c * c2 : Int) : Rat) := by
        rw [mkI_sum, Rat.intCast_mul]
        have e6 : (sumTo (beat + 1) fun i => ((T (beat - i) * U (i + j) : Int) : Rat)) = ((c : Rat) * (c2 : Rat)) * leftQ a beat j := by
          unfold leftQ
          rw [sumTo_mul]
          refine sumTo_congr fun i hi => ?_
          rw [Rat.intCast_mul, tv (beat - i) (by omega), uv (i + j) (by omega)]
          grind
        rw [e6]
        grind
      refine rat_go (K := K) (Int.mul_pos c0 d0) ((sc.mul sd).mono (m := 8000) (by decide)) ev fun r H6 s6 hr => ?_
      have ht6 := s6 _ _ ht5
      have hl2 := ht2.length
      rw [mkL_len] at hl2
      refine ⟨tl, _, _, rfl, rfl, ht6, by rw [List.length_map, hl2]; exact small1000 (by omega), ?_⟩
      refine ⟨_, _, rfl, ?_, ?_⟩
      · intro b2 o hb2
        rw [upd_ne (ne_of_none hb2 ntl)]
        exact (sB.trans (s5.trans s6)) _ _ hb2
      · rw [mkL_succ]
        exact LsM.push ht6 (ht2.tk (Tk.same (s5.trans s6))) hr
    · rintro σ HB ⟨z8, z9, rfl, sB, htl⟩
      rw [em] at htl
      obtain ⟨us', hu1, hu2⟩ := htl
      refine ⟨_, rfl, tl, _, rfl, .inl ⟨SqL.of hu1, fun l nl => ?_⟩⟩
      have e9 := same_new (o := HO.tup (us'.map V.ref)) nl
      exact q l _ (s1.trans (s2.trans (s3.trans (s4.trans (sB.trans e9))))) (RowAt.of_ls hu1 hu2 nl)
def spStr (K : PySem.W.Frag) : Sp := fun vs H Q _ => ∃ (p : Addr) (row : List RT) (step : RT) (n beat most : Nat) (W D : Int), vs = [.ref p, .int (beat : Int), .int (most : Int)] ∧ LifeAt K H p row step ∧ LifeOk n row step ∧ WOk W row ∧ Ch01 D (chR row step) 20 ∧ beat ≤ 20 ∧ most ≤ 20 ∧
  ∀ z H', Same H H' → RowAt K H' z (mkL most (strQ (chR row step) beat)) → Q (.ref z) H'
theorem ok_stretches {f fOB fPU fCT fT fR : Addr} {fd fdOB fdPU fdCT fdT fdR : FuncData} (F : Fun K "stretches" "stretches" s_stretches f fd)
    (FOB : Fun K "on_one_bottom" "on_one_bottom" s_oob fOB fdOB) (bOB : Binds K fdOB ["told"] []) (gOB : mg "on_one_bottom" = some (.ref fOB)) (GOT : FnOk P w K mg base CX0 2 fOB fdOB ["told"] (spOobT K))
    (FPU : Fun K "puts" "puts" s_puts fPU fdPU) (bPU : Binds K fdPU ["life", "most"] []) (gPU : mg "puts" = some (.ref fPU)) (GPU : FnOk P w K mg base CX0 5 fPU fdPU ["life", "most"] (spPuts K))
    (FCT : Fun K "chances_to" "chances_to" s_chto fCT fdCT) (bCT : Binds K fdCT ["life", "most"] []) (gCT : mg "chances_to" = some (.ref fCT)) (GCT : FnOk P w K mg base CX0 4 fCT fdCT ["life", "most"] (spChto K))
    (FT : Fun K "times" "times" s_times fT fdT) (bT : Binds K fdT ["one", "other"] []) (gT : mg "times" = some (.ref fT)) (GT : FnOk P w K mg base CX0 3 fT fdT ["one", "other"] (spTwo K (fun a b c d => a * c)))
    (FR : Fun K "ratio" "ratio" s_ratio fR fdR) (bR : Binds K fdR ["top", "bottom"] []) (gR : mg "ratio" = some (.ref fR)) (GR : FnOk P w K mg base CX0 2 fR fdR ["top", "bottom"] spRat0)
    (n_enumerate : mg "enumerate" = none) (n_max : mg "max" = none) (n_sum : mg "sum" = none) (n_tuple : mg "tuple" = none) : FnOk P w K mg base CX0 6 f fd ["life", "beat", "most"] (spStr K) := by
  refine F.ok sc_stretches (fun vs H Q E h => ?_) (fun cdv A outer s H vs Q E hr h => ?_)
  · obtain ⟨_, _, _, _, _, _, _, _, rfl, _⟩ := h
    rfl
  · obtain ⟨p, row, step, n, beat, most, W, D, rfl, hlife, L, hW, C1, hb, hm, q⟩ := h
    refine ⟨_, (pss_cons (ps_asg (pe_call GOT (hr.mono (by decide)) (by rfl) gOB FOB.kp bOB .nil pass0 (pa_cons (pe_call GPU hr (by rfl) gPU FPU.kp bPU .nil pass0 (pa_cons (pv 0) (pa_cons (pv 1) pa_nil))) pa_nil)) (pg_tup rfl (pgs_cons (pg_name (i := 3) sc_stretches.nd rfl (.inl rfl)) (pgs_cons (pg_name (i := 4) sc_stretches.nd rfl (.inl rfl)) pgs_nil))))
      (pss_cons (ps_set (i := 5) sc_stretches.nd rfl (.inl rfl) (pe_lst pa_nil))
      (pss_cons (ps_for PassesOwn.never rfl (pi_qL (by decide) (by decide) (by rfl) n_enumerate (pa_cons (pe_call GCT (hr.mono (by decide)) (by rfl) gCT FCT.kp bCT .nil pass0 (pa_cons (pv 0) (pa_cons (pv 2) pa_nil))) pa_nil)) (pg_tup rfl (pgs_cons (pg_name (i := 6) sc_stretches.nd rfl (.inl rfl)) (pgs_cons (pg_name (i := 7) sc_stretches.nd rfl (.inl rfl)) pgs_nil))) (pss_cons (ps_set (i := 8) sc_stretches.nd rfl (.inl rfl) (pe_callB (call_max2 rfl) (by rfl) n_max (by decide +kernel) (pa_cons pe_int (pa_cons (pe_op op_add (pe_op op_sub (pv 1) (pv 6)) pe_int) pa_nil))))
      (pss_one (ps_expr (pe_bm PySem.F.plainAttrs_list PySem.F.slot_list_append PySem.F.type_list_append mt_append (pv 5) (pa_cons (pe_call GT (hr.mono (by decide)) (by rfl) gT FT.kp bT .nil pass0 (pa_cons (pv 7) (pa_cons (pe_call GR (hr.mono (by decide)) (by rfl) gR FR.kp bR .nil pass0 (pa_cons (pe_callB (cr_sum rfl) (by rfl) n_sum (by decide +kernel) (pa_cons (pe_slice sl_list (pv 3) (po_some (pv 8)) po_none) pa_nil)) (pa_cons (pv 4) pa_nil))) pa_nil))) pa_nil))))))
      (pss_one (ps_ret (pe_callTy call_tuple_of (by rfl) n_tuple (by decide +kernel) (pa_cons (pv 5) pa_nil))))))), ?_⟩
    refine ⟨_, rfl, _, rfl, p, row, step, n, beat, W, rfl, hlife, L, hW, hb, fun zp H1 s1 hzp => ?_⟩
    have hzp' : RowAt K H1 zp (mkL (beat + 1) (renQ (chR row step) oneAt)) := hzp
    clear hzp
    refine tnil_go ?_
    refine oobT_go (K := K) (s := 110 * 20 + 1) (k := 20) hzp' (C1.powSm 20).1 (C1.powSm 20).2 (fun j hj => (C1.putSz (e := 20) (by omega) (by omega)).mono (by omega)) (by omega) (by decide) (by decide) fun z1 zt c T H2 s2 hz1 hzt c0 cD sc tv ts => ?_
    refine ⟨z1, _, rfl, SqT.of hz1, rfl, _, _, rfl, _, _, rfl, rfl, ?_⟩
    refine ⟨by show 0 ≤ sizeLine; decide, fun tl ntl => ?_⟩
    have e5 := same_new (o := HO.lst []) ntl
    refine ⟨_, rfl, _, rfl, p, row, step, n, most, rfl, hlife.tk (Tk.same (s1.trans (s2.trans e5))), L, by omega, fun ch rs chs H3 s3 hch hrs his => ?_⟩
    rw [his.told] at hrs
    generalize ea : chR row step = a at *
    have hrl := hrs.length
    rw [mkL_len] at hrl
    refine tnil_go ?_
    refine ⟨ch, _, rfl, SqL.of hch, ?_⟩
    refine for_it (walk_q (Sq := fun H xs => SqL K H ch xs) (k := 1) (xs := rs.map V.ref)) (fun j σ HB => ∃ z6 z7 z8 : Option V, σ = [some (.ref p), some (.int (beat : Int)), some (.int (most : Int)), some (.ref zt), some (.int c), some (.ref tl), z6, z7, z8] ∧ Same H2 HB ∧ HB ch = some (.lst (rs.map V.ref)) ∧ RsAt K HB rs (mkL most a) ∧ LsM K HB tl (mkL j (strQ a beat))) ⟨none, none, none, rfl, e5.trans s3, hch, hrs, [], s3 _ _ upd_same, .nil⟩ (fun i σ HB _ z => ?_) ?_ ?_
    · obtain ⟨_, _, _, _, _, hc, _⟩ := z
      exact SqL.of hc
    · rintro j v σ HB HB' hj ⟨z6, z7, z8, rfl, sB, hcB, hrB, htl⟩ ⟨T1, x1, x2, rfl, nT, rfl, ex1, ex2⟩
      rw [List.length_map, hrl] at hj
      dsimp only at ex1 ex2
      cases Option.some.inj ex1
      obtain ⟨r, er, hr2⟩ := hrB.get (mkL_at (g := a) hj)
      have ey : x2 = .ref r := by
        rw [List.getElem?_map, er] at ex2
        exact (Option.some.inj ex2).symm
      subst ey
      have nch : ch ≠ tl := fun z => by
        have h0 := s3 _ _ (upd_same (H := H2) (a := tl) (o := HO.lst []))
        rw [← z, hch] at h0
        have h1 := congrArg (fun o => match o with | some (HO.lst xs) => xs.length | _ => 0) h0
        dsimp only at h1
        rw [List.length_map, hrl] at h1
        simp at h1
        omega
      have gT := same_new (o := HO.tup [.int (1 + ((j : Nat) : Int)), .ref r]) nT
      refine ⟨T1, _, rfl, SqT.of upd_same, rfl, _, _, rfl, _, _, rfl, rfl, ?_⟩
      obtain ⟨ts', ht1, ht2⟩ := id htl
      have ht3 := gT _ _ ht1
      refine ⟨_, rfl, _, rfl, _, _, rfl, rfl, _, 1, rfl, rfl, 0, _, rfl, ?_⟩
      have esi : (if (beat : Int) - (1 + ((j : Nat) : Int)) + 1 > 0 then (beat : Int) - (1 + ((j : Nat) : Int)) + 1 else 0) = ((beat - j : Nat) : Int) := by
        split <;> omega
      rw [esi]
      refine ⟨_, rfl, .inl ⟨rfl, _, SqL.of ht3⟩, ?_⟩
      refine ⟨_, rfl, _, rfl, _, rfl, _, rfl, ?_⟩
      refine noPart_go ?_
      refine dropI_go (K := K) (m := beat - j) ((sB.trans gT) _ _ hzt) (by omega) fun sl H5 s5 hsl => ?_
      refine tnil_go ?_
      refine sumI_go (K := K) hsl ?_
      refine ⟨_, rfl, ?_⟩
      refine tnil_go ?_
      have ev : (((mkI (beat + 1 - (beat - j)) fun i => T (beat - j + i)).sum : Int) : Rat) = sinceQ a beat j * (c : Rat) := by
        rw [mkI_sum]
        unfold sinceQ
        rw [sumTo_congr (g := fun i => (c : Rat) * renQ a oneAt (beat - j + i)) fun i hi => tv _ (by omega), ← sumTo_mul]
        grind
      refine rat_go (K := K) c0 (sc.mono (m := 8000) (by decide)) ev fun r6 H6 s6 hr6 => ?_
      refine tnil_go ?_
      have szS : Sz (D ^ 20) 27 (sinceQ a beat j) := Sz.sum (k := 20) (C1.powSm 20).1 (fun i hi => (C1.putSz (e := 20) (show beat - j + i ≤ 20 by omega) (by omega)).mono (by omega)) (by omega)
      refine times_go (hr2.tk (Tk.same (gT.trans (s5.trans s6)))) hr6 ((C1.chSz (show j < 20 by omega)).smr C1.pos C1.sm (by decide)) (szS.smr (C1.powSm 20).1 (C1.powSm 20).2 (by decide)) fun r7 H7 s7 hr7 => ?_
      have S7 := gT.trans (s5.trans (s6.trans s7))
      have ht7 := S7 _ _ ht1
      have hl2 := ht2.length
      rw [mkL_len] at hl2
      refine ⟨tl, _, _, rfl, rfl, ht7, by rw [List.length_map, hl2]; exact small1000 (by omega), ?_⟩
      refine ⟨_, _, _, rfl, ?_, ?_, ?_, ?_⟩
      · intro b2 o hb2
        rw [upd_ne (ne_of_none hb2 ntl)]
        exact (sB.trans S7) _ _ hb2
      · rw [upd_ne nch]
        exact S7 _ _ hcB
      · exact (hrB.tk (Tk.same S7)).tk (tk_lst ht7)
      · rw [mkL_succ]
        exact LsM.push ht7 (ht2.tk (Tk.same S7)) hr7
    · rintro σ HB ⟨z6, z7, z8, rfl, sB, hcB, hrB, htl⟩
      rw [List.length_map, hrl] at htl
      obtain ⟨us', hu1, hu2⟩ := htl
      refine ⟨_, rfl, tl, _, rfl, .inl ⟨SqL.of hu1, fun l nl => ?_⟩⟩
      have e9 := same_new (o := HO.tup (us'.map V.ref)) nl
      exact q l _ (s1.trans (s2.trans (sB.trans e9))) (RowAt.of_ls hu1 hu2 nl)
def spMl (K : PySem.W.Frag) : Sp := fun vs H Q _ => ∃ (p : Addr) (row : List RT) (step : RT) (beat : Nat) (W W2 D : Int), vs = [.ref p, .int (beat : Int)] ∧ LifeAt K H p row step ∧ ML row step W ∧ WOk W2 row ∧ Ch01 D (chR row step) 20 ∧ beat ≤ 20 ∧
  ∀ v H', Same H H' → MV K H' v (rowQ row + behQ row step) (meanQ row step * putSum (chR row step) beat - ((beat : Int) : Rat)) → Q v H'
theorem ok_ml {f fME fM fT fAD fPU : Addr} {fd fdME fdM fdT fdAD fdPU : FuncData} (F : Fun K "mean_left" "mean_left" s_ml f fd)
    (FME : Fun K "mean" "mean" s_mean fME fdME) (bME : Binds K fdME ["life"] []) (gME : mg "mean" = some (.ref fME)) (GME : FnOk P w K mg base CX0 6 fME fdME ["life"] (spMean K))
    (FM : Fun K "minus" "minus" s_minus fM fdM) (bM : Binds K fdM ["one", "other"] []) (gM : mg "minus" = some (.ref fM)) (GM : FnOk P w K mg base CX0 3 fM fdM ["one", "other"] (spTwo K (fun a b c d => a * d - c * b)))
    (FT : Fun K "times" "times" s_times fT fdT) (bT : Binds K fdT ["one", "other"] []) (gT : mg "times" = some (.ref fT)) (GT : FnOk P w K mg base CX0 3 fT fdT ["one", "other"] (spTwo K (fun a b c d => a * c)))
    (FAD : Fun K "added" "added" s_added fAD fdAD) (bAD : Binds K fdAD ["told"] []) (gAD : mg "added" = some (.ref fAD)) (GAT : FnOk P w K mg base CX0 3 fAD fdAD ["told"] (spAddedT K))
    (FPU : Fun K "puts" "puts" s_puts fPU fdPU) (bPU : Binds K fdPU ["life", "most"] []) (gPU : mg "puts" = some (.ref fPU)) (GPU : FnOk P w K mg base CX0 5 fPU fdPU ["life", "most"] (spPuts K))
    : FnOk P w K mg base CX0 7 f fd ["life", "beat"] (spMl K) := by
  refine F.ok sc_ml (fun vs H Q E h => ?_) (fun cdv A outer s H vs Q E hr h => ?_)
  · obtain ⟨_, _, _, _, _, _, _, rfl, _⟩ := h
    rfl
  · obtain ⟨p, row, step, beat, W, W2, D, rfl, hlife, M, hW, C1, hb, q⟩ := h
    refine ⟨_, (pss_cons (ps_set (i := 2) sc_ml.nd rfl (.inl rfl) (pe_call GME hr (by rfl) gME FME.kp bME .nil pass0 (pa_cons (pv 0) pa_nil)))
      (pss_cons (ps_if (pt_cmpR op_isN (pv 2) pe_non (nomark _)) (pss_one (ps_ret pe_non)) pss_nil)
      (pss_one (ps_ret (pe_call GM (hr.mono (by decide)) (by rfl) gM FM.kp bM .nil pass0 (pa_cons (pe_call GT (hr.mono (by decide)) (by rfl) gT FT.kp bT .nil pass0 (pa_cons (pv 2) (pa_cons (pe_call GAT (hr.mono (by decide)) (by rfl) gAD FAD.kp bAD .nil pass0 (pa_cons (pe_call GPU (hr.mono (by decide)) (by rfl) gPU FPU.kp bPU .nil pass0 (pa_cons (pv 0) (pa_cons (pv 1) pa_nil))) pa_nil)) pa_nil))) (pa_cons (pe_tup (pa_cons (pv 1) (pa_cons pe_int pa_nil))) pa_nil))))))), ?_⟩
    refine ⟨_, rfl, p, row, step, W, rfl, hlife, M, fun v H1 s1 hv => ?_⟩
    rcases hv with ⟨ht, rfl⟩ | ⟨ht, z, rfl, hz⟩
    · exact ⟨_, rfl, rfl, _, rfl, iteT (q .non H1 s1 (.inl ⟨ht, rfl⟩))⟩
    refine ⟨_, rfl, rfl, _, rfl, ite2 (fun c1 => nomatch of_decide_eq_true c1) (fun _ => ?_)⟩
    refine ⟨_, rfl, _, rfl, _, rfl, p, row, step, _, beat, W2, rfl, hlife.tk (Tk.same s1), M.ok, hW, hb, fun zp H2 s2 hzp => ?_⟩
    have hzp' : RowAt K H2 zp (mkL (beat + 1) (renQ (chR row step) oneAt)) := hzp
    clear hzp
    refine tnil_go ?_
    have szp : ∀ j, j < beat + 1 → Sz (D ^ 20) 20 (renQ (chR row step) oneAt j) := fun j hj => (C1.putSz (e := 20) (show j ≤ 20 by omega) (by omega)).mono (by omega)
    refine addT_go (K := K) (s := 110 * 20 + 1) (k := 20) hzp' (C1.powSm 20).1 (C1.powSm 20).2 szp (by omega) (by decide) (by decide) fun ad H3 s3 had => ?_
    refine tnil_go ?_
    have szA : Sz (D ^ 20) 27 (putSum (chR row step) beat) := Sz.sum (k := 20) (C1.powSm 20).1 szp (by omega)
    have P0 := M.P
    have szM := M.meanSz
    have szT : Sz (mP W step * D ^ 20) 40 (meanQ row step * putSum (chR row step) beat) := szM.mul P0.1 (C1.powSm 20).1 szA
    refine times_go (y := putSum (chR row step) beat) (hz.tk (Tk.same (s2.trans s3))) had (szM.smr P0.1 P0.2 (by decide)) (szA.smr (C1.powSm 20).1 (C1.powSm 20).2 (by decide)) fun ti H4 s4 hti => ?_
    refine ⟨_, rfl, by show 2 ≤ sizeLine; decide, fun b nb => ?_⟩
    have e5 := same_new (o := HO.tup [.int (beat : Int), .int 1]) nb
    refine tnil_go ?_
    exact minus_go (y := ((beat : Int) : Rat)) (hti.tk (Tk.same e5)) (int_rat (SqT.of upd_same)) (szT.smr (s := 2259) (Int.mul_pos P0.1 (C1.powSm 20).1) (P0.2.mul (C1.powSm 20).2) (by decide)) (int_smr (by omega)) fun r H6 s6 hr => q (.ref r) H6 (s1.trans (s2.trans (s3.trans (s4.trans (e5.trans s6))))) (.inr ⟨ht, r, rfl, hr⟩)
def spShare (K : PySem.W.Frag) : Sp := fun vs H Q _ => ∃ (p : Addr) (row : List RT) (step : RT) (W : Int), vs = [.ref p] ∧ LifeAt K H p row step ∧ ML row step W ∧
  ∀ z H', Same H H' → RAt K H' z (rdq (shareQ row step)) → Q (.ref z) H'
theorem ok_share {f fME fO : Addr} {fd fdME fdO : FuncData} (F : Fun K "share" "share" s_share f fd) (C : Consts K mg aN aO)
    (FME : Fun K "mean" "mean" s_mean fME fdME) (bME : Binds K fdME ["life"] []) (gME : mg "mean" = some (.ref fME)) (GME : FnOk P w K mg base CX0 6 fME fdME ["life"] (spMean K))
    (FO : Fun K "over" "over" s_over fO fdO) (bO : Binds K fdO ["one", "other"] []) (gO : mg "over" = some (.ref fO)) (GO : FnOk P w K mg base CX0 3 fO fdO ["one", "other"] (spOver0 K))
    : FnOk P w K mg base CX0 7 f fd ["life"] (spShare K) := by
  refine F.ok sc_share (fun vs H Q E h => ?_) (fun cdv A outer s H vs Q E hr h => ?_)
  · obtain ⟨_, _, _, _, rfl, _⟩ := h
    rfl
  · obtain ⟨p, row, step, W, rfl, hlife, M, q⟩ := h
    refine ⟨_, (pss_cons (ps_set (i := 1) sc_share.nd rfl (.inl rfl) (pe_call GME hr (by rfl) gME FME.kp bME .nil pass0 (pa_cons (pv 0) pa_nil)))
      (pss_cons (ps_if (pt_cmpR op_isN (pv 1) pe_non (nomark _)) (pss_one (ps_ret (pe_glob (v := .ref aN) rfl C.gN rfl))) pss_nil)
      (pss_one (ps_ret (pe_call GO (hr.mono (by decide)) (by rfl) gO FO.kp bO .nil pass0 (pa_cons (pe_glob (v := .ref aO) rfl C.gO rfl) (pa_cons (pv 1) pa_nil))))))), ?_⟩
    refine ⟨_, rfl, p, row, step, W, rfl, hlife, M, fun v H1 s1 hv => ?_⟩
    rcases hv with ⟨ht, rfl⟩ | ⟨ht, z, rfl, hz⟩
    · refine ⟨_, rfl, rfl, _, rfl, iteT ?_⟩
      refine q aN H1 s1 ?_
      unfold shareQ
      rw [if_neg ht, rdq_zero.mpr rfl]
      exact C.tN _
    refine ⟨_, rfl, rfl, _, rfl, ite2 (fun c1 => nomatch of_decide_eq_true c1) (fun _ => ?_)⟩
    have one : rdq 1 = (1, 1) := (is_rdq one_red qv_one).symm
    have sm1 : SmR 3000 (rdq 1) := by
      rw [one]
      exact ⟨one_red, by unfold Sm; decide, by unfold Sm; decide⟩
    have m1 := M.mean_ge ht
    refine ⟨_, rfl, ?_⟩
    refine tnil_go ?_
    refine over_go (x := 1) (y := meanQ row step) (by rw [one]; exact C.tO _) hz sm1 (M.meanSz.smr M.P.1 M.P.2 (by decide)) (by grind) fun r H2 s2 hr => q r H2 (s1.trans s2) ?_
    unfold shareQ
    rw [if_pos ht]
    exact hr
def spEs (K : PySem.W.Frag) : Sp := fun vs H Q _ => ∃ (p : Addr) (row : List RT) (step : RT) (most : Nat) (W D : Int), vs = [.ref p, .int (most : Int)] ∧ LifeAt K H p row step ∧ ML row step W ∧ Ch01 D (chR row step) 20 ∧ most ≤ 20 ∧
  ∀ z H', Same H H' → RowAt K H' z (mkL most (everQ row step)) → Q (.ref z) H'
end

end Fp

set_option Elab.async false
set_option linter.all false
set_option maxRecDepth 100000
set_option maxHeartbeats 4000000
set_option exponentiation.threshold 10000
namespace Fp
open PySem PySem.Spec PyProof.Rows L2
/-! ### xs[::-1] of a tuple -/
theorem rev_adj (n : Nat) : Builtin.Slice.sliceAdjust none none (-1) (n : Int) = ((n : Int) - 1, -1) := rfl
theorem rev_places (n : Nat) : Builtin.Slice.slicePlaces ((n : Int) - 1) (-1) (-1) = n := by
  unfold Builtin.Slice.slicePlaces
  rw [if_neg (by decide)]
  split
  · rw [show -(-1 : Int) = 1 by decide, Int.ediv_one]
    omega
  · show (0 : Int).toNat = n
    omega
theorem fm_congr {f g : Nat → Option Value} : ∀ {l : List Nat}, (∀ m ∈ l, f m = g m) → l.filterMap f = l.filterMap g
  | [], _ => rfl
  | m :: r, h => by
    rw [List.filterMap_cons, List.filterMap_cons, h m (List.mem_cons_self ..), fm_congr fun x hx => h x (List.mem_cons_of_mem _ hx)]
theorem rev_pick (xs : List Value) : ((List.range xs.length).filterMap fun (m : Nat) => xs.toArray[((xs.length : Int) - 1 + (m : Int) * (-1)).toNat]?) = xs.reverse := by
  have e : ((List.range xs.length).filterMap fun (m : Nat) => xs.toArray[((xs.length : Int) - 1 + (m : Int) * (-1)).toNat]?) = (List.range xs.length).filterMap fun m => xs.reverse[m]? := by
    refine fm_congr fun m hm => ?_
    have h := List.mem_range.mp hm
    rw [List.getElem?_toArray, List.getElem?_reverse h]
    congr 1
    omega
  rw [e]
  have key : ∀ ys : List Value, ((List.range ys.length).filterMap fun m => ys[m]?) = ys := by
    intro ys
    induction ys with
    | nil => rfl
    | cons y r ih =>
      rw [List.length_cons, List.range_succ_eq_map, List.filterMap_cons, List.filterMap_map]
      show y :: _ = _
      congr 1
  have k2 := key xs.reverse
  rw [List.length_reverse] at k2
  exact k2
section
variable {prog : Program} {w : World} {A : Around} {E : Value → Shared → Prop} {s : Shared}
theorem rev_applied {sl : Addr} {v3 : Value} {n : Nat} {Q : Int × Int × Nat → Shared → Prop} (is : s.heap.IsSliceOf sl .none .none v3) (p3 : IsPart v3 (some (-1)))
    (h : Q ((n : Int) - 1, -1, n) s) : wpAny (model prog w) A (Builtin.Slice.sliceApplied (.ref sl) (pure (n : Int))) Q E s := by
  obtain ⟨ob, ho, hcl, hdt⟩ := id is
  unfold Builtin.Slice.sliceApplied Builtin.Slice.sliceFields
  refine wpAny_bind (wpAny_bind (wpAny_field ho hdt (x := .none) rfl (wpAny_bind (wpAny_field ho hdt (x := .none) rfl (wpAny_bind (wpAny_field ho hdt (x := v3) rfl (wpAny_pure ?_)))))))
  refine wpAny_bind (HT.slicePart_ p3 ?_)
  show wpAny _ _ (if ((-1 : Int) == 0) = true then _ else _) _ _ s
  rw [if_neg (by decide)]
  refine wpAny_bind (HT.slicePart_ .none (wpAny_bind (HT.slicePart_ .none (wpAny_bind (wpAny_pure ?_)))))
  show wpAny _ _ (match Builtin.Slice.sliceAdjust none none (-1) (n : Int) with | (lo, hi) => pure (lo, (-1 : Int), Builtin.Slice.slicePlaces lo hi (-1))) _ _ s
  rw [rev_adj n]
  show wpAny _ _ (pure ((n : Int) - 1, (-1 : Int), Builtin.Slice.slicePlaces ((n : Int) - 1) (-1) (-1))) _ _ s
  rw [rev_places]
  exact wpAny_pure h
theorem rev_get {t sl : Addr} {xs : List Value} {v3 : Value} {Q : Value → Shared → Prop} (ht : IsTup s.heap t xs.toArray) (is : s.heap.IsSliceOf sl .none .none v3) (p3 : IsPart v3 (some (-1)))
    (h : Q (.ref s.heap.objs.size) { s with heap := s.heap.push { cls := .type "tuple", data := .seq xs.reverse.toArray } }) (hz : xs.length ≤ sizeLine) : wpAny (model prog w) A (getItem (.ref t) (.ref sl)) Q E s := by
  have fits : sizeOk (.seq xs.reverse.toArray) := by
    show xs.reverse.toArray.size ≤ sizeLine
    rw [List.size_toArray, List.length_reverse]
    exact hz
  obtain ⟨ob, ho, hcl, hdt⟩ := id is
  have tS : s.TypeIs (.ref sl) "slice" := ⟨ob, ho, hcl⟩
  unfold getItem
  try with_reducible refine wpAny_holding ?_
  first | refine wpAny_bind (wpAny_pure ?_) | skip
  refine wpAny_bind (wpAny_sequenceKey ht.typeIs (by decide) ?_)
  refine wpAny_bind (wpAny_callSpecial?_slot (name := Str.ofString "__getitem__") ht.typeIs PyProof.Rows.slot_tuple_getitem (wpAny_call_entry PyProof.Rows.slot_tuple_getitem ht.typeIs entry_tuple_getitem ?_ (args_tuple_getitem _ _)))
  show wpAny _ _ (Builtin.Tuple.tupleItemsOf (.ref t) >>= _) _ _ s
  refine wpAny_bind (PyProof.Rows.tupleItemsOf_ ht (wpAny_bind (wpAny_typeOf tS ?_)))
  rw [if_pos (by decide)]
  refine wpAny_bind (rev_applied (n := xs.toArray.size) is p3 ?_)
  have no : ¬ ((((xs.toArray.size : Int) - 1 == 0) && ((-1 : Int) == 1) && (xs.toArray.size == xs.toArray.size)) = true) := by
    intro q
    rw [Bool.and_eq_true, Bool.and_eq_true] at q
    exact absurd q.1.2 (by decide)
  show wpAny _ _ (if (((xs.toArray.size : Int) - 1 == 0) && ((-1 : Int) == 1) && (xs.toArray.size == xs.toArray.size)) = true then _ else _) _ _ s
  rw [if_neg no]
  have ep : ((List.range xs.toArray.size).filterMap fun (m : Nat) => xs.toArray[((xs.toArray.size : Int) - 1 + (m : Int) * (-1)).toNat]?).toArray = xs.reverse.toArray := by
    rw [List.size_toArray, rev_pick]
  rw [ep]
  first
    | exact wpAny_bind (m := Builtin.Tuple.tupleExact _) (wpAny_newObj_type (wpAny_pure ⟨_, rfl, wpAny_pure h⟩) fits)
    | exact wpAny_bind (m := Builtin.Tuple.tupleExact _) (wpAny_newObj_type (wpAny_bind (wpAny_pure (wpAny_pure ⟨_, rfl, wpAny_pure h⟩))) fits)
    | exact wpAny_bind (wpAny_bind (m := Builtin.Tuple.tupleExact _) (wpAny_newObj_type (wpAny_pure (wpAny_pure ⟨_, rfl, wpAny_pure h⟩)) fits))
    | exact wpAny_bind (wpAny_bind (m := Builtin.Tuple.tupleExact _) (wpAny_newObj_type (wpAny_pure ⟨_, rfl, wpAny_pure h⟩) fits))
end
def tRevT (K : PySem.W.Frag) (te : TE) : TE := fun σ H Q => te σ H fun x H1 => ∃ a xs, x = .ref a ∧ SqT K H1 a xs ∧ ∀ p, H1 p = none → Q (.ref p) (upd H1 p (.tup xs.reverse))
theorem pe_revT {X : Cx} {e : Expr} {te : TE} {k : Nat} {p1 p2 p3 pos : Pos} (he : PE X e te) : PE X (.Subscript e (.Slice none none (some (.UnaryOp .USub (.Constant (.int 1) k p1) p2)) p3) pos) (tRevT X.K te) := by
  refine ⟨fun pn s sl H Q I h => Subscript_ (thn (he.run pn s sl H _ I h) fun v s1 z1 => ?_)⟩
  obtain ⟨x, H1, I1, r1, a, xs, rfl, hx, q⟩ := z1
  cases r1
  have pm : PO X (some (.UnaryOp .USub (.Constant (.int 1) k p1) p2)) (tPart (tUn (rU fun i => .int (-i)) (tC (.int 1)))) := po_some (pe_un un_neg pe_int)
  refine wpAny_Slice (thn (po_none.run pn s1 sl H1 (fun o H2 => o = none ∧ H2 = H1) I1 ⟨rfl, rfl⟩) fun vl s2 z2 => ?_)
  obtain ⟨l, H2, I2, pl, rfl, rfl⟩ := z2
  refine thn (po_none.run pn s2 sl H2 (fun o H3 => o = none ∧ H3 = H2) I2 ⟨rfl, rfl⟩) fun vu s3 z3 => ?_
  obtain ⟨u, H3, I3, pu, rfl, rfl⟩ := z3
  refine thn (pm.run pn s3 sl H3 (fun o H4 => o = some (-1) ∧ H4 = H3) I3 ⟨1, rfl, -1, rfl, rfl, rfl⟩) fun vs s4 z4 => ?_
  obtain ⟨o, H4, I4, ps, rfl, rfl⟩ := z4
  have I5 : Inv X pn sl H4 { s4 with heap := s4.heap.push { cls := .type "slice", data := .fields #[vl, vu, vs] } } := I4.kept (t' := s4.toks) fun b ob y => Heap.get?_push_of_some _ y
  obtain ⟨its, r, ht, hz⟩ := I5.tuple hx
  have hlen := r.length
  cases pl
  cases pu
  show wpAny (model X.prog X.w) X.A (subscriptTail e (.Slice none none (some (.UnaryOp .USub (.Constant (.int 1) k p1) p2)) p3) (.ref a) (.ref s4.heap.objs.size)) (EP X pn sl Q) X.xe { s4 with heap := s4.heap.push { cls := .type "slice", data := .fields #[.none, .none, vs] } }
  refine tail_any (ops := [.ref a, .ref s4.heap.objs.size]) ht.typeIs (PyProof.Rows.slot_tuple_getitem.lookup) ?_ (by with_unfolding_all rfl)
  refine rev_get (xs := its) ht (Heap.IsSliceOf.new _ .none .none vs) ps ?_ (by omega)
  refine ⟨.ref _, _, I5.laid (t' := s4.toks) (o := .tup xs.reverse) (fun b ob y => Heap.get?_push_of_some _ y) (Nat.le_refl _) ?_, rfl, q _ (I5.hok.fresh (Nat.le_refl _))⟩
  exact ⟨by rw [List.length_reverse]; exact hz, _, r.reverse, IsTup.new _ _⟩

end Fp

set_option Elab.async false
set_option linter.all false
set_option maxRecDepth 100000
set_option maxHeartbeats 4000000
set_option exponentiation.threshold 10000
namespace Fp
open PySem PySem.Spec PyProof.Rows L2
/-! ### zip(xs, ys) of a tuple and a list -/
def Itw (K : PySem.W.Frag) (a b : Addr) : It :=
  ⟨fun i H => ∃ (xs ys : List V) (x y : V), SqT K H a xs ∧ SqL K H b ys ∧ xs[i]? = some x ∧ ys[i]? = some y,
    fun i H v H2 => ∃ T x y, v = .ref T ∧ H T = none ∧ H2 = upd H T (.tup [x, y]) ∧ (∀ xs, SqT K H a xs → xs[i]? = some x) ∧ ∀ ys, SqL K H b ys → ys[i]? = some y,
    fun i H => ∃ xs ys : List V, SqT K H a xs ∧ SqL K H b ys ∧ i ≤ xs.length ∧ i ≤ ys.length ∧ (i = xs.length ∨ i = ys.length)⟩
theorem walk_w {K : PySem.W.Frag} {a b : Addr} {xs ys : List V} {n : Nat} (hn : n = min xs.length ys.length) : Walk (Itw K a b) n (fun H => SqT K H a xs ∧ SqL K H b ys) (YPair (fun i => xs[i]?) (fun i => ys[i]?)) := by
  subst hn
  refine ⟨fun i _ hi q => ⟨xs, ys, xs[i], ys[i], q.1, q.2, List.getElem?_eq_getElem (by omega), List.getElem?_eq_getElem (by omega)⟩, fun _ q => ⟨xs, ys, q.1, q.2, by omega, by omega, by omega⟩, fun i H v H2 _ q y => ?_⟩
  obtain ⟨T, x, y2, y1, y3, y4, y5, y6⟩ := y
  exact ⟨T, x, y2, y1, y3, y4, y5 xs q.1, y6 ys q.2⟩
theorem turn_w {P : Program} {w : World} {K : PySem.W.Frag} {elts : List Expr} {kk : Nat} {tpos : Pos} {a b z TI TO i1 i2 : Addr} (S : ZipSep2 z TI TO i1 i2 [i1, a] [i2, b]) (na : a ≠ i1) (nb : b ≠ i2) :
    Turn P w K (.Tuple elts kk tpos) (Itw K a b) [z, TI, TO, i1, i2] z (fun i h => IsZip h z TI TO .none ∧ IsTupOf2 h TI (.ref i1) (.ref i2) ∧ (∃ x y, IsTupOf2 h TO x y) ∧ h.IsTupleIter i1 a i ∧ h.IsListIter i2 b i) where
  mem := by simp
  obj := fun i h st c hc => by
    obtain ⟨zz, zI, ⟨x, y, zO⟩, ⟨o1, e1, _, d1⟩, ⟨o2, e2, _, d2⟩⟩ := st
    rcases (show c = z ∨ c = TI ∨ c = TO ∨ c = i1 ∨ c = i2 by simpa using hc) with q | q | q | q | q
    · rw [q]
      exact ⟨_, zz, fun v q => nomatch q⟩
    · rw [q]
      exact ⟨_, zI, fun v q => nomatch q⟩
    · rw [q]
      exact ⟨_, zO, fun v q => nomatch q⟩
    · rw [q]
      exact ⟨o1, e1, fun v q => by rw [d1] at q; cases q⟩
    · rw [q]
      exact ⟨o2, e2, fun v q => by rw [d2] at q; cases q⟩
  keep := fun i h h2 st kp => by
    obtain ⟨zz, zI, ⟨x, y, zO⟩, j1, j2⟩ := st
    exact ⟨kp z (by simp) _ zz, kp TI (by simp) _ zI, ⟨x, y, kp TO (by simp) _ zO⟩, j1.at fun o q => kp i1 (by simp) o q, j2.at fun o q => kp i2 (by simp) o q⟩
  item := by
    intro Y yP yw yK yc i pn s sl H F I hf st hg
    subst yP yw yK
    obtain ⟨zz, zI, ⟨x0, y0, zO⟩, j1, j2⟩ := st
    obtain ⟨xs, ys, x, y, sx, sy, ex, ey⟩ := hg
    obtain ⟨us, rv, po, _⟩ := I.tuple sx
    obtain ⟨ws, rw', pw, _⟩ := I.list sy
    obtain ⟨u, eu, ru⟩ := rv.get ex
    obtain ⟨u2, eu2, ru2⟩ := rw'.get ey
    have oa : s.heap.IsTuple a us.toArray := po
    have ob : s.heap.IsList b ws.toArray := pw.isList
    have hh : Y.A.in1.handled = none := I.ok.hd yc
    have lz : z < s.heap.objs.size := Heap.lt_size zz
    have l1 : i < us.toArray.size := by
      have := (List.getElem?_eq_some_iff.mp eu).1
      simpa using this
    have l2 : i < ws.toArray.size := by
      have := (List.getElem?_eq_some_iff.mp eu2).1
      simpa using this
    refine wpAny_pyNext_zipD2_item S (Draws.tuple (A := Y.A.in1) hh i1 a na us.toArray) (Draws.list (A := Y.A.in1) hh i2 b nb ws.toArray) zz zI zO ⟨j1, oa⟩ ⟨j2, ob⟩ l1 l2 fun v1 v2 h2 tk q1 q2 zz2 zO2 st1 st2 oT _ kp => ?_
    have e1 : v1 = u := by
      have : us[i]? = some v1 := by simpa using q1
      rw [eu] at this
      exact Option.some.inj this.symm
    have e2 : v2 = u2 := by
      have : ws[i]? = some v2 := by simpa using q2
      rw [eu2] at this
      exact Option.some.inj this.symm
    subst e1 e2
    refine ⟨_, rfl, wpAny_letOwnedTupleGo_zip (s := { s with heap := h2, toks := tk }) zz2 fun h3 zz3 sb => ?_⟩
    have oT3 := (sb.2 _ (Nat.ne_of_gt lz)).trans oT
    have new : ObjOk Y.prog Y.w (upd H s.heap.objs.size (.tup [x, y])) h3 s.heap.objs.size (.tup [x, y]) :=
      ⟨by show 2 ≤ sizeLine; decide, [v1, v2], .cons ru (.cons ru2 .nil), ⟨_, oT3, rfl, _, rfl⟩⟩
    have I3 : Inv Y pn sl (upd H s.heap.objs.size (.tup [x, y])) { s with heap := h3, toks := tk } := by
      refine I.turnedNew (ch := [z, TI, TO, i1, i2]) (fun c o hb q => ?_) hf (Nat.le_refl _) new
      exact (sb.2 c fun y => hb (by simp [y])).trans (kp c o (fun y => hb (by simp [y])) (fun y => hb (by simp [y])) (fun y => hb (by simp [y])) (fun y => hb (by simp [y])) q)
    refine ⟨.ref s.heap.objs.size, _, I3, rfl, ⟨_, x, y, rfl, I.hok.fresh (Nat.le_refl _), rfl, fun l hl => by rw [I.tuple_inj hl sx]; exact ex, fun l hl => by rw [I.list_inj hl sy]; exact ey⟩, ⟨zz3, ?_, ⟨v1, v2, ?_⟩, ?_, ?_⟩, fun c hc => ?_⟩
    · exact (sb.2 _ S.TIz).trans (kp _ _ S.TIz S.TITO S.TIi1 S.TIi2 zI)
    · exact (sb.2 _ S.TOz).trans zO2
    · exact st1.1.at fun o q => (sb.2 _ S.zi1.symm).trans q
    · exact st2.1.at fun o q => (sb.2 _ S.zi2.symm).trans q
    · have lc : c < s.heap.objs.size := by
        rcases (show c = z ∨ c = TI ∨ c = TO ∨ c = i1 ∨ c = i2 by simpa using hc) with q | q | q | q | q
        · rw [q]
          exact lz
        · rw [q]
          exact Heap.lt_size zI
        · rw [q]
          exact Heap.lt_size zO
        · rw [q]
          obtain ⟨_, y1, _⟩ := j1
          exact Heap.lt_size y1
        · rw [q]
          obtain ⟨_, y1, _⟩ := j2
          exact Heap.lt_size y1
      rw [upd_ne (Nat.ne_of_lt lc)]
      exact (hf c hc).1
  done := by
    intro Y yP yw yK yc i pn s sl H F I hf st hg
    subst yP yw yK
    obtain ⟨zz, zI, ⟨x0, y0, zO⟩, j1, j2⟩ := st
    obtain ⟨xs, ys, sx, sy, hx, hy, he⟩ := hg
    obtain ⟨us, rv, po, _⟩ := I.tuple sx
    obtain ⟨ws, rw', pw, _⟩ := I.list sy
    have l1 := rv.length
    have l2 := rw'.length
    have hh : Y.A.in1.handled = none := I.ok.hd yc
    refine wpAny_pyNext_zipD2_end S (Draws.tuple (A := Y.A.in1) hh i1 a na us.toArray) (Draws.list (A := Y.A.in1) hh i2 b nb ws.toArray) zz zI zO ⟨j1, po⟩ ⟨j2, pw.isList⟩ (by rw [List.size_toArray]; omega) (by rw [List.size_toArray]; omega) (by rw [List.size_toArray, List.size_toArray]; omega) fun h2 tk kp => ⟨rfl, I.turnedL (ch := [z, TI, TO, i1, i2]) (fun c o hb q => ?_) hf⟩
    exact kp c o (fun y => hb (by simp [y])) (fun y => hb (by simp [y])) (fun y => hb (by simp [y])) (fun y => hb (by simp [y])) q
  self := fun A2 i s Q F st h => wpAny_pyIter_zip st.1 h
theorem sep5 {n a b : Nat} (la : a < n) (lb : b < n) : ZipSep2 (n + 4) (n + 2) (n + 3) n (n + 1) [n, a] [n + 1, b] := by
  have no : ∀ {x y z : Nat}, x ≠ y → x ≠ z → x ∉ [y, z] := fun h1 h2 h => by
    rcases List.mem_cons.mp h with q | q
    · exact h1 q
    · exact h2 (List.mem_singleton.mp q)
  have e1 : ∀ {x y : Nat}, x < y → x ≠ y := fun h => Nat.ne_of_lt h
  have e2 : ∀ {x y : Nat}, y < x → x ≠ y := fun h => Nat.ne_of_gt h
  exact ⟨e1 (by omega), e1 (by omega), e1 (by omega), e2 (by omega), List.mem_cons_self .., no (e2 (by omega)) (e2 (by omega)), no (e2 (by omega)) (e2 (by omega)), e2 (by omega), List.mem_cons_self .., no (e2 (by omega)) (e2 (by omega)), no (e2 (by omega)) (e2 (by omega)), no (e1 (by omega)) (e2 (by omega)), no (e2 (by omega)) (e2 (by omega))⟩
def iZipW (K : PySem.W.Frag) (ta : TA) : TI := fun σ H R => ta σ H fun vs H1 => ∃ a b xs ys, vs = [.ref a, .ref b] ∧ SqT K H1 a xs ∧ SqL K H1 b ys ∧ R (Itw K a b) H1
theorem pi_zipW {X : Cx} {e e2 : Expr} {ta : TA} {p pos tpos : Pos} {elts : List Expr} {kk : Nat} (hg : Gl X "zip") (hm : X.mg "zip" = none) (ha : PA X [e, e2] ta)
    (hs : starEach [e, e2] X.env = (false, eval e X.env) :: starEach [e2] X.env := by rfl) (hpl : (backTo pos (starEach [e2] X.env)).any (·.1) = false := by rfl) :
    PI X (.Tuple elts kk tpos) (.Call (.Name "zip" p) [e, e2] [] pos) (iZipW X.K ta) := by
  refine ⟨fun pn s sl H R I h => Call_ (ld_blt I hg hm PyProof.Rows.boot_zip (PyProof.Rows.callWith_type1 (thn (ha.run pos pn s sl H _ I h) fun us s1 z1 => ?_) hs hpl))⟩
  obtain ⟨vs, H1, I1, r1, a, b, xs, ys, rfl, sx, sy, q⟩ := z1
  cases r1 with
  | cons ra rn =>
    cases rn with
    | cons rb rn =>
      cases rn
      cases ra
      cases rb
      obtain ⟨us, rv, po, _⟩ := I1.tuple sx
      obtain ⟨ws, rw', pw, _⟩ := I1.list sy
      have oa : s1.heap.IsTuple a us.toArray := po
      obtain ⟨o1, q1, _⟩ := id oa
      have la : a < s1.heap.objs.size := Heap.lt_size q1
      have lb : b < s1.heap.objs.size := pw.lt
      refine zip_begins2 (begins_tuple a us.toArray) (begins_list b ws.toArray) oa pw.isList fun h2 zz zI zO g1 g2 _ kp => wpAny_pyIter_zip zz ?_
      have I2 : Inv X pn sl H1 { s1 with heap := h2 } := I1.kept (t' := s1.toks) kp
      have S : ZipSep2 (s1.heap.objs.size + 4) (s1.heap.objs.size + 2) (s1.heap.objs.size + 3) s1.heap.objs.size (s1.heap.objs.size + 1) [s1.heap.objs.size, a] [s1.heap.objs.size + 1, b] := sep5 la lb
      refine ⟨s1.heap.objs.size + 4, [s1.heap.objs.size + 4, s1.heap.objs.size + 2, s1.heap.objs.size + 3, s1.heap.objs.size, s1.heap.objs.size + 1], _, _, H1, rfl, I2, turn_w S (Nat.ne_of_lt la) (Nat.ne_of_lt (Nat.lt_succ_of_lt lb)), ⟨zz, zI, ⟨_, _, zO⟩, ⟨_, g1, rfl, rfl⟩, ⟨_, g2, rfl, rfl⟩⟩, fun c hc => ?_, q⟩
      have hl : s1.heap.objs.size ≤ c := by
        rcases (show c = s1.heap.objs.size + 4 ∨ c = s1.heap.objs.size + 2 ∨ c = s1.heap.objs.size + 3 ∨ c = s1.heap.objs.size ∨ c = s1.heap.objs.size + 1 by simpa using hc) with y | y | y | y | y <;> (rw [y]; omega)
      exact I1.fpOk hl (I1.hok.fresh hl)

end Fp

set_option Elab.async false
set_option linter.all false
set_option maxRecDepth 100000
set_option maxHeartbeats 4000000
set_option exponentiation.threshold 10000
namespace Fp
open PySem PySem.Spec PyProof.Rows L2
/-! ### lastings, ages, what stays, an age and what is left -/
def lastQ (a : Nat → Rat) (k : Nat) : Rat := 1 - sumTo k a
def agesQ (a : Nat → Rat) (beat i : Nat) : Rat := renQ a oneAt (beat - i) * lastQ a i
def aalQ (a : Nat → Rat) (beat age left : Nat) : Rat := if age ≤ beat then renQ a oneAt (beat - age) * a (age + left - 1) else 0
theorem Ch01.lastSz {D : Int} {a : Nat → Rat} {M : Nat} (h : Ch01 D a M) {k : Nat} (hk : k ≤ M) (h9 : k ≤ 128) : Sz D 8 (lastQ a k) := by
  unfold lastQ
  rw [show 1 - sumTo k a = 1 + -sumTo k a by grind]
  exact (Sz.one h.pos).add h.pos ((Sz.sum (k := 0) h.pos (fun j hj => h.chSz (by omega)) h9).neg)
abbrev s_ls : Stmt := topS 21
abbrev N_ls : List Str := ["life", "most", "tops", "bottom", "left", "told", "top"]
theorem sc_ls : FnScope N_ls ["life", "most"] (defScope s_ls) := ⟨rfl, rfl, rfl, by decide +kernel, rfl, by decide +kernel, by decide +kernel⟩
abbrev s_ages : Stmt := topS 31
abbrev N_ages : List Str := ["life", "beat", "backwards", "put", "last"]
theorem sc_ages : FnScope N_ages ["life", "beat"] (defScope s_ages) := ⟨rfl, rfl, rfl, by decide +kernel, rfl, by decide +kernel, by decide +kernel⟩
abbrev s_stays : Stmt := topS 34
abbrev N_stays : List Str := ["life", "beat"]
theorem sc_stays : FnScope N_stays ["life", "beat"] (defScope s_stays) := ⟨rfl, rfl, rfl, by decide +kernel, rfl, by decide +kernel, by decide +kernel⟩
abbrev s_aal : Stmt := topS 35
abbrev N_aal : List Str := ["life", "beat", "age", "left", "put"]
theorem sc_aal : FnScope N_aal ["life", "beat", "age", "left"] (defScope s_aal) := ⟨rfl, rfl, rfl, by decide +kernel, rfl, by decide +kernel, by decide +kernel⟩
section
variable {P : Program} {w : World} {K : PySem.W.Frag} {mg : Str → Option Value} {base : Heap} {aN aO : Addr}
theorem RowAt.ix {H : Hp} {Q : VK} {p : Addr} {xs : List RT} {m : Nat} {x : RT} {k : Int} (h : RowAt K H p xs) (hk : k = (m : Int)) (hm : xs[m]? = some x) (q : ∀ r, RAt K H r x → Q (.ref r) H) : rIxT K (.ref p) (.int k) H Q := by
  obtain ⟨rs, h1, h2⟩ := h
  obtain ⟨r, e1, e2⟩ := h2.get hm
  have g2 : (rs.map V.ref)[m]? = some (.ref r) := by
    rw [List.getElem?_map, e1]
    rfl
  exact ⟨p, _, _, _, rfl, rfl, h1, at_of hk g2, q r e2⟩
def spLst (K : PySem.W.Frag) : Sp := fun vs H Q _ => ∃ (p : Addr) (row : List RT) (step : RT) (n most : Nat) (D : Int), vs = [.ref p, .int (most : Int)] ∧ LifeAt K H p row step ∧ LifeOk n row step ∧ Ch01 D (chR row step) 20 ∧ most ≤ 20 ∧
  ∀ z H', Same H H' → LsM K H' z (mkL (most + 1) (lastQ (chR row step))) → Q (.ref z) H'
theorem ok_ls {f fOB fCT fR : Addr} {fd fdOB fdCT fdR : FuncData} (F : Fun K "lastings_to" "lastings_to" s_ls f fd) (C : Consts K mg aN aO)
    (FOB : Fun K "on_one_bottom" "on_one_bottom" s_oob fOB fdOB) (bOB : Binds K fdOB ["told"] []) (gOB : mg "on_one_bottom" = some (.ref fOB)) (GOB : FnOk P w K mg base CX0 2 fOB fdOB ["told"] (spOob K))
    (FCT : Fun K "chances_to" "chances_to" s_chto fCT fdCT) (bCT : Binds K fdCT ["life", "most"] []) (gCT : mg "chances_to" = some (.ref fCT)) (GCT : FnOk P w K mg base CX0 4 fCT fdCT ["life", "most"] (spChto K))
    (FR : Fun K "ratio" "ratio" s_ratio fR fdR) (bR : Binds K fdR ["top", "bottom"] []) (gR : mg "ratio" = some (.ref fR)) (GR : FnOk P w K mg base CX0 2 fR fdR ["top", "bottom"] spRat0)
    : FnOk P w K mg base CX0 5 f fd ["life", "most"] (spLst K) := by
  refine F.ok sc_ls (fun vs H Q E h => ?_) (fun cdv A outer s H vs Q E hr h => ?_)
  · obtain ⟨_, _, _, _, _, _, rfl, _⟩ := h
    rfl
  · obtain ⟨p, row, step, n, most, D, rfl, hlife, L, C1, hm, q⟩ := h
    refine ⟨_, (pss_cons (ps_asg (pe_call GOB (hr.mono (by decide)) (by rfl) gOB FOB.kp bOB .nil pass0 (pa_cons (pe_call GCT hr (by rfl) gCT FCT.kp bCT .nil pass0 (pa_cons (pv 0) (pa_cons (pv 1) pa_nil))) pa_nil)) (pg_tup rfl (pgs_cons (pg_name (i := 2) sc_ls.nd rfl (.inl rfl)) (pgs_cons (pg_name (i := 3) sc_ls.nd rfl (.inl rfl)) pgs_nil))))
      (pss_cons (ps_set (i := 4) sc_ls.nd rfl (.inl rfl) (pv 3))
      (pss_cons (ps_set (i := 5) sc_ls.nd rfl (.inl rfl) (pe_lst (pa_cons (pe_glob (v := .ref aO) rfl C.gO rfl) pa_nil)))
      (pss_cons (ps_for PassesOwn.never rfl (pi_list (pv 2)) (pg_name (i := 6) sc_ls.nd rfl (.inl rfl)) (pss_cons (ps_aug (i := 4) sc_ls.nd rfl (.inl rfl) (pv 6) ip_sub)
      (pss_one (ps_expr (pe_bm PySem.F.plainAttrs_list PySem.F.slot_list_append PySem.F.type_list_append mt_append (pv 5) (pa_cons (pe_call GR (hr.mono (by decide)) (by rfl) gR FR.kp bR .nil pass0 (pa_cons (pv 4) (pa_cons (pv 3) pa_nil))) pa_nil))))))
      (pss_one (ps_ret (pv 5))))))), ?_⟩
    refine ⟨_, rfl, _, rfl, p, row, step, n, most, rfl, hlife, L, by omega, fun ch rs chs H1 s1 hch hrs his => ?_⟩
    rw [his.told] at hrs
    generalize ea : chR row step = a at *
    refine tnil_go ?_
    refine oob_go (K := K) (k := 0) ⟨rs, hch, hrs⟩ C1.pos C1.sm (fun j hj => C1.chSz (by omega)) (by omega) (by decide) (by decide) fun z2 zu c U H2 s2 hz2 hzu c0 cD sc uv us => ?_
    refine ⟨z2, _, rfl, SqT.of hz2, rfl, _, _, rfl, _, _, rfl, rfl, ?_⟩
    refine ⟨_, rfl, ?_⟩
    refine ⟨by show 1 ≤ sizeLine; decide, fun tl ntl => ?_⟩
    have e3 := same_new (o := HO.lst [.ref aO]) ntl
    have one : rdq 1 = (1, 1) := (is_rdq one_red qv_one).symm
    have htl0 : LsM K (upd H2 tl (HO.lst [.ref aO])) tl (mkL (0 + 1) (lastQ a)) := by
      refine ⟨[aO], upd_same, ?_⟩
      have e : mkL (0 + 1) (lastQ a) = [(1, 1)] := by
        show [rdq (1 - sumTo 0 a)] = _
        rw [sumTo_zero, show (1 : Rat) - 0 = 1 by decide +kernel, one]
      rw [e]
      exact .cons (C.tO _) .nil
    refine ⟨_, rfl, zu, rfl, ⟨_, SqL.of (e3 _ _ hzu)⟩, ?_⟩
    refine for_list (K := K) (a := zu) (xs := (mkI most U).map V.int) (fun i σ HB => ∃ z6 : Option V, σ = [some (.ref p), some (.int (most : Int)), some (.ref zu), some (.int c), some (.int (c - (mkI i U).sum)), some (.ref tl), z6] ∧ Same H2 HB ∧ LsM K HB tl (mkL (i + 1) (lastQ a))) ?_ ?_ ?_ ?_
    · refine ⟨none, ?_, e3, htl0⟩
      rw [show c - (mkI 0 U).sum = c by show c - 0 = c; omega]
      rfl
    · rintro i σ HB _ ⟨z6, _, sB, _⟩
      exact SqL.of (sB _ _ hzu)
    · rintro i y σ HB hy ⟨z6, rfl, sB, htl⟩
      have hi : i < most := by
        have := (List.getElem?_eq_some_iff.mp hy).1
        rw [List.length_map, mkI_len] at this
        exact this
      rw [List.getElem?_map, mkI_at hi] at hy
      cases Option.some.inj hy
      obtain ⟨ts', ht1, ht2⟩ := id htl
      refine ⟨_, rfl, _, rfl, _, _, rfl, rfl, ?_⟩
      refine ⟨_, rfl, .inl ⟨rfl, _, SqL.of ht1⟩, ?_⟩
      refine ⟨_, rfl, _, rfl, ?_⟩
      refine tnil_go ?_
      have es : c - (mkI i U).sum - U i = c - (mkI (i + 1) U).sum := by
        rw [mkI_succ, List.sum_append, List.sum_singleton]
        omega
      have ev : ((c - (mkI i U).sum - U i : Int) : Rat) = lastQ a (i + 1) * (c : Rat) := by
        rw [es, Rat.intCast_sub, mkI_sum, sumTo_congr (g := fun j => (c : Rat) * a j) fun j hj => uv j (by omega), ← sumTo_mul]
        unfold lastQ
        grind
      refine rat_go (K := K) c0 (sc.mono (m := 8000) (by decide)) ev fun r H6 s6 hr => ?_
      have ht6 := s6 _ _ ht1
      have hl2 := ht2.length
      rw [mkL_len] at hl2
      refine ⟨tl, _, _, rfl, rfl, ht6, by rw [List.length_map, hl2]; exact small1000 (by omega), ?_⟩
      refine ⟨some (.int (U i)), by rw [← es]; rfl, ?_, ?_⟩
      · intro b2 o hb2
        rw [upd_ne (ne_of_none hb2 ntl)]
        exact (sB.trans s6) _ _ hb2
      · rw [mkL_succ]
        exact LsM.push ht6 (ht2.tk (Tk.same s6)) hr
    · rintro σ HB ⟨z6, rfl, sB, htl⟩
      rw [List.length_map, mkI_len] at htl
      exact ⟨_, rfl, q tl HB (s1.trans (s2.trans sB)) htl⟩
def spAges (K : PySem.W.Frag) : Sp := fun vs H Q _ => ∃ (p : Addr) (row : List RT) (step : RT) (n beat : Nat) (W D : Int), vs = [.ref p, .int (beat : Int)] ∧ LifeAt K H p row step ∧ LifeOk n row step ∧ WOk W row ∧ Ch01 D (chR row step) 20 ∧ beat ≤ 20 ∧
  ∀ z H', Same H H' → RowAt K H' z (mkL (beat + 1) (agesQ (chR row step) beat)) → Q (.ref z) H'
theorem ok_ages {f fPU fLS fT : Addr} {fd fdPU fdLS fdT : FuncData} (F : Fun K "ages" "ages" s_ages f fd)
    (FPU : Fun K "puts" "puts" s_puts fPU fdPU) (bPU : Binds K fdPU ["life", "most"] []) (gPU : mg "puts" = some (.ref fPU)) (GPU : FnOk P w K mg base CX0 5 fPU fdPU ["life", "most"] (spPuts K))
    (FLS : Fun K "lastings_to" "lastings_to" s_ls fLS fdLS) (bLS : Binds K fdLS ["life", "most"] []) (gLS : mg "lastings_to" = some (.ref fLS)) (GLS : FnOk P w K mg base CX0 5 fLS fdLS ["life", "most"] (spLst K))
    (FT : Fun K "times" "times" s_times fT fdT) (bT : Binds K fdT ["one", "other"] []) (gT : mg "times" = some (.ref fT)) (GT : FnOk P w K mg base CX0 3 fT fdT ["one", "other"] (spTwo K (fun a b c d => a * c)))
    (n_tuple : mg "tuple" = none) (n_zip : mg "zip" = none) : FnOk P w K mg base CX0 6 f fd ["life", "beat"] (spAges K) := by
  refine F.ok sc_ages (fun vs H Q E h => ?_) (fun cdv A outer s H vs Q E hr h => ?_)
  · obtain ⟨_, _, _, _, _, _, _, rfl, _⟩ := h
    rfl
  · obtain ⟨p, row, step, n, beat, W, D, rfl, hlife, L, hW, C1, hb, q⟩ := h
    refine ⟨_, (pss_cons (ps_set (i := 2) sc_ages.nd rfl (.inl rfl) (pe_revT (pe_call GPU hr (by rfl) gPU FPU.kp bPU .nil pass0 (pa_cons (pv 0) (pa_cons (pv 1) pa_nil)))))
      (pss_one (ps_ret (pe_callTy call_tuple_of (by rfl) n_tuple (by decide +kernel) (pa_cons (pe_lc (own := [("put", 3), ("last", 4)]) (g := (gTup K 2 (gCons (gName 3) (gCons (gName 4) gNil)))) (tt := tYes) (te := (tCall (spTwo K (fun a b c d => a * c)) [] E0 (tCons (tVar 3) (tCons (tVar 4) tNil)))) rfl sc_ages.nd (pi_zipW (by rfl) n_zip (pa_cons (pv 2) (pa_cons (pe_call GLS hr (by rfl) gLS FLS.kp bLS .nil pass0 (pa_cons (pv 0) (pa_cons (pv 1) pa_nil))) pa_nil))) (blkOk_by (own := [("put", 3), ("last", 4)]) (N := N_ages) (sc := (defScope s_ages)) (by decide +kernel)) (fun _ _ _ _ _ => (pg_tup rfl (pgs_cons (pg_name (i := 3) sc_ages.nd rfl (.inl rfl)) (pgs_cons (pg_name (i := 4) sc_ages.nd rfl (.inl rfl)) pgs_nil)))) (fun _ _ _ _ _ => pts_nil) (fun _ _ _ _ _ => (pe_call GT (hr.mono (by decide)) (by rfl) gT FT.kp bT .nil pass0 (pa_cons (pv 3) (pa_cons (pv 4) pa_nil))))) pa_nil))))), ?_⟩
    refine ⟨_, rfl, _, rfl, p, row, step, n, beat, W, rfl, hlife, L, hW, hb, fun zp H1 s1 hzp => ?_⟩
    have hzp' : RowAt K H1 zp (mkL (beat + 1) (renQ (chR row step) oneAt)) := hzp
    clear hzp
    obtain ⟨ps, r1, r2⟩ := hzp'
    have hpl := r2.length
    rw [mkL_len] at hpl
    refine ⟨zp, _, rfl, r1, fun bk nbk => ?_⟩
    have e2 := same_new (o := HO.tup ((ps.map V.ref).reverse)) nbk
    refine ⟨_, rfl, _, rfl, _, rfl, p, row, step, n, beat, D, rfl, hlife.tk (Tk.same (s1.trans e2)), L, C1, hb, fun ls H3 s3 hls => ?_⟩
    obtain ⟨qs, l1, l2⟩ := hls
    have hql := l2.length
    rw [mkL_len] at hql
    refine tnil_go ?_
    refine ⟨bk, ls, _, _, rfl, SqT.of (s3 _ _ upd_same), SqL.of l1, ?_⟩
    generalize ea : chR row step = a at *
    refine lc_mkW (K := K) (walk_w (K := K) (a := bk) (b := ls) (xs := (ps.map V.ref).reverse) (ys := qs.map V.ref) (n := beat + 1) (by rw [List.length_reverse, List.length_map, List.length_map, hpl, hql, Nat.min_self])) (agesQ a beat) (by omega) (fun HE sE => ⟨SqT.of (sE _ _ (s3 _ _ upd_same)), SqL.of (sE _ _ l1)⟩) (fun i v HE HE' R hi sE hY qr => ?_) (fun to H4 s4 hto => ?_)
    · obtain ⟨T, x1, x2, rfl, nT, rfl, ex1, ex2⟩ := hY
      dsimp only at ex1 ex2
      obtain ⟨r, er, hr2⟩ := r2.get (mkL_at (g := renQ a oneAt) (show beat - i < beat + 1 by omega))
      obtain ⟨r', er', hr2'⟩ := l2.get (mkL_at (g := lastQ a) hi)
      have ey : x1 = .ref r := by
        rw [List.getElem?_reverse (by rw [List.length_map, hpl]; exact hi), List.length_map, hpl, List.getElem?_map, show beat + 1 - 1 - i = beat - i by omega, er] at ex1
        exact (Option.some.inj ex1).symm
      have ey2 : x2 = .ref r' := by
        rw [List.getElem?_map, er'] at ex2
        exact (Option.some.inj ex2).symm
      subst ey ey2
      have gT := same_new (o := HO.tup [.ref r, .ref r']) nT
      refine ⟨T, _, rfl, SqT.of upd_same, rfl, _, _, rfl, _, _, rfl, rfl, rfl, ?_⟩
      refine ⟨_, rfl, _, rfl, ?_⟩
      refine tnil_go ?_
      refine times_go (hr2.tk (Tk.same (e2.trans (s3.trans (sE.trans gT))))) (hr2'.tk (Tk.same (sE.trans gT))) ((C1.putSz (e := 20) (show beat - i ≤ 20 by omega) (by omega)).smr (C1.powSm 20).1 (C1.powSm 20).2 (by omega)) ((C1.lastSz (show i ≤ 20 by omega) (by omega)).smr C1.pos C1.sm (by decide)) fun r4 HG sG hr4 => qr r4 HG (gT.trans sG) hr4
    obtain ⟨us', hu1, hu2⟩ := hto
    refine tnil_go ?_
    refine ⟨to, _, rfl, .inl ⟨SqL.of hu1, fun l nl => ?_⟩⟩
    have e9 := same_new (o := HO.tup (us'.map V.ref)) nl
    exact q l _ (s1.trans (e2.trans (s3.trans (s4.trans e9)))) (RowAt.of_ls hu1 hu2 nl)
def spStays (K : PySem.W.Frag) : Sp := fun vs H Q _ => ∃ (p : Addr) (row : List RT) (step : RT) (n beat : Nat) (W D : Int), vs = [.ref p, .int (beat : Int)] ∧ LifeAt K H p row step ∧ LifeOk n row step ∧ WOk W row ∧ Ch01 D (chR row step) 20 ∧ beat ≤ 20 ∧
  ∀ z H', Same H H' → RAt K H' z (rdq ((1 - (rowQ row + behQ row step)) * putSum (chR row step) beat)) → Q (.ref z) H'
theorem ok_stays {f fT fMI fAD fPU : Addr} {fd fdT fdMI fdAD fdPU : FuncData} (F : Fun K "stays" "stays" s_stays f fd)
    (FT : Fun K "times" "times" s_times fT fdT) (bT : Binds K fdT ["one", "other"] []) (gT : mg "times" = some (.ref fT)) (GT : FnOk P w K mg base CX0 3 fT fdT ["one", "other"] (spTwo K (fun a b c d => a * c)))
    (FMI : Fun K "miss" "miss" s_miss fMI fdMI) (bMI : Binds K fdMI ["life"] []) (gMI : mg "miss" = some (.ref fMI)) (GMI : FnOk P w K mg base CX0 5 fMI fdMI ["life"] (spMiss K))
    (FAD : Fun K "added" "added" s_added fAD fdAD) (bAD : Binds K fdAD ["told"] []) (gAD : mg "added" = some (.ref fAD)) (GAT : FnOk P w K mg base CX0 3 fAD fdAD ["told"] (spAddedT K))
    (FPU : Fun K "puts" "puts" s_puts fPU fdPU) (bPU : Binds K fdPU ["life", "most"] []) (gPU : mg "puts" = some (.ref fPU)) (GPU : FnOk P w K mg base CX0 5 fPU fdPU ["life", "most"] (spPuts K))
    : FnOk P w K mg base CX0 6 f fd ["life", "beat"] (spStays K) := by
  refine F.ok sc_stays (fun vs H Q E h => ?_) (fun cdv A outer s H vs Q E hr h => ?_)
  · obtain ⟨_, _, _, _, _, _, _, rfl, _⟩ := h
    rfl
  · obtain ⟨p, row, step, n, beat, W, D, rfl, hlife, L, hW, C1, hb, q⟩ := h
    refine ⟨_, (pss_one (ps_ret (pe_call GT (hr.mono (by decide)) (by rfl) gT FT.kp bT .nil pass0 (pa_cons (pe_call GMI hr (by rfl) gMI FMI.kp bMI .nil pass0 (pa_cons (pv 0) pa_nil)) (pa_cons (pe_call GAT (hr.mono (by decide)) (by rfl) gAD FAD.kp bAD .nil pass0 (pa_cons (pe_call GPU hr (by rfl) gPU FPU.kp bPU .nil pass0 (pa_cons (pv 0) (pa_cons (pv 1) pa_nil))) pa_nil)) pa_nil))))), ?_⟩
    refine ⟨_, rfl, p, row, step, n, rfl, hlife, L, fun mi x H1 s1 hmi sx vx => ?_⟩
    rw [is_rdq sx.1 vx] at hmi sx
    refine ⟨_, rfl, _, rfl, p, row, step, n, beat, W, rfl, hlife.tk (Tk.same s1), L, hW, hb, fun zp H2 s2 hzp => ?_⟩
    have hzp' : RowAt K H2 zp (mkL (beat + 1) (renQ (chR row step) oneAt)) := hzp
    clear hzp
    refine tnil_go ?_
    have szp : ∀ j, j < beat + 1 → Sz (D ^ 20) 20 (renQ (chR row step) oneAt j) := fun j hj => (C1.putSz (e := 20) (show j ≤ 20 by omega) (by omega)).mono (by omega)
    refine addT_go (K := K) (s := 110 * 20 + 1) (k := 20) hzp' (C1.powSm 20).1 (C1.powSm 20).2 szp (by omega) (by decide) (by decide) fun ad H3 s3 had => ?_
    refine tnil_go ?_
    have szA : Sz (D ^ 20) 27 (putSum (chR row step) beat) := Sz.sum (k := 20) (C1.powSm 20).1 szp (by omega)
    exact times_go (y := putSum (chR row step) beat) (hmi.tk (Tk.same (s2.trans s3))) had (sx.mono (by decide)) (szA.smr (C1.powSm 20).1 (C1.powSm 20).2 (by decide)) fun r H4 s4 hr => q r H4 (s1.trans (s2.trans (s3.trans s4))) hr
def spAal (K : PySem.W.Frag) : Sp := fun vs H Q _ => ∃ (p : Addr) (row : List RT) (step : RT) (n beat age left : Nat) (W D : Int), vs = [.ref p, .int (beat : Int), .int (age : Int), .int (left : Int)] ∧ LifeAt K H p row step ∧ LifeOk n row step ∧ WOk W row ∧ Ch01 D (chR row step) 20 ∧ beat ≤ 20 ∧ 1 ≤ left ∧ age + left ≤ 70 ∧
  ∀ z H', Same H H' → RAt K H' z (rdq (aalQ (chR row step) beat age left)) → Q (.ref z) H'
theorem ok_aal {f fPU fT fCA : Addr} {fd fdPU fdT fdCA : FuncData} (F : Fun K "age_and_left" "age_and_left" s_aal f fd) (C : Consts K mg aN aO)
    (FPU : Fun K "puts" "puts" s_puts fPU fdPU) (bPU : Binds K fdPU ["life", "most"] []) (gPU : mg "puts" = some (.ref fPU)) (GPU : FnOk P w K mg base CX0 5 fPU fdPU ["life", "most"] (spPuts K))
    (FT : Fun K "times" "times" s_times fT fdT) (bT : Binds K fdT ["one", "other"] []) (gT : mg "times" = some (.ref fT)) (GT : FnOk P w K mg base CX0 3 fT fdT ["one", "other"] (spTwo K (fun a b c d => a * c)))
    (FCA : Fun K "chance_at" "chance_at" s_chat fCA fdCA) (bCA : Binds K fdCA ["life", "k"] []) (gCA : mg "chance_at" = some (.ref fCA)) (GCA : FnOk P w K mg base CX0 5 fCA fdCA ["life", "k"] (spChat K))
    : FnOk P w K mg base CX0 6 f fd ["life", "beat", "age", "left"] (spAal K) := by
  refine F.ok sc_aal (fun vs H Q E h => ?_) (fun cdv A outer s H vs Q E hr h => ?_)
  · obtain ⟨_, _, _, _, _, _, _, _, _, rfl, _⟩ := h
    rfl
  · obtain ⟨p, row, step, n, beat, age, left, W, D, rfl, hlife, L, hW, C1, hb, hl1, hl2, q⟩ := h
    refine ⟨_, (pss_cons (ps_if (pt_cmpR op_gt (pv 2) (pv 1) (nomark _)) (pss_one (ps_ret (pe_glob (v := .ref aN) rfl C.gN rfl))) pss_nil)
      (pss_cons (ps_set (i := 4) sc_aal.nd rfl (.inl rfl) (pe_ix ix_tup (pe_call GPU hr (by rfl) gPU FPU.kp bPU .nil pass0 (pa_cons (pv 0) (pa_cons (pe_op op_sub (pv 1) (pv 2)) pa_nil))) (pe_op op_sub (pv 1) (pv 2)) (fun _ _ => rfl)))
      (pss_one (ps_ret (pe_call GT (hr.mono (by decide)) (by rfl) gT FT.kp bT .nil pass0 (pa_cons (pv 4) (pa_cons (pe_call GCA hr (by rfl) gCA FCA.kp bCA .nil pass0 (pa_cons (pv 0) (pa_cons (pe_op op_add (pv 2) (pv 3)) pa_nil))) pa_nil))))))), ?_⟩
    refine ⟨_, rfl, _, rfl, _, _, rfl, rfl, _, rfl, ite2 (fun c1 => ?_) (fun c1 => ?_)⟩
    · have h1 : ¬ age ≤ beat := by
        have := of_decide_eq_true c1
        omega
      refine q aN H (Same.refl _) ?_
      unfold aalQ
      rw [if_neg h1, rdq_zero.mpr rfl]
      exact C.tN _
    · have h1 : age ≤ beat := by
        rcases (by omega : age ≤ beat ∨ beat < age) with z | z
        · exact z
        · exact absurd (decide_eq_true (show (beat : Int) < (age : Int) by omega)) c1
      refine ⟨_, rfl, _, rfl, _, rfl, _, _, rfl, rfl, ?_⟩
      refine tnil_go ?_
      refine ⟨p, row, step, n, beat - age, W, ?_, hlife, L, hW, by omega, fun zp H2 s2 hzp => ?_⟩
      · show [V.ref p, V.int ((beat : Int) - (age : Int))] = [V.ref p, V.int ((beat - age : Nat) : Int)]
        rw [show ((beat - age : Nat) : Int) = (beat : Int) - (age : Int) by omega]
      have hzp' : RowAt K H2 zp (mkL (beat - age + 1) (renQ (chR row step) oneAt)) := hzp
      clear hzp
      refine ⟨_, rfl, _, rfl, _, _, rfl, rfl, ?_⟩
      refine RowAt.ix (K := K) (m := beat - age) hzp' (by omega) (mkL_at (Nat.lt_succ_self _)) fun pu hpu => ?_
      refine ⟨_, rfl, _, rfl, _, rfl, _, rfl, _, _, rfl, rfl, ?_⟩
      refine tnil_go ?_
      refine ⟨p, row, step, n, age + left, ?_, hlife.tk (Tk.same s2), L, by omega, by omega, fun ch x H3 s3 hch sx vx => ?_⟩
      · show [V.ref p, V.int ((age : Int) + (left : Int))] = [V.ref p, V.int ((age + left : Nat) : Int)]
        rw [show ((age + left : Nat) : Int) = (age : Int) + (left : Int) by omega]
      rw [is_rdq sx.1 vx] at hch sx
      refine tnil_go ?_
      refine times_go (hpu.tk (Tk.same s3)) hch ((C1.putSz (e := 20) (show beat - age ≤ 20 by omega) (by omega)).smr (C1.powSm 20).1 (C1.powSm 20).2 (by omega)) (sx.mono (by decide)) fun r H4 s4 hr => q r H4 (s2.trans (s3.trans s4)) ?_
      unfold aalQ
      rw [if_pos h1]
      exact hr
end

end Fp

set_option Elab.async false
set_option linter.all false
set_option maxRecDepth 100000
set_option maxHeartbeats 4000000
set_option exponentiation.threshold 10000
namespace Fp
open PySem PySem.Spec PyProof.Rows L2
/-! ### weights as the law draws them -/
theorem sum_set1 : ∀ {ws : List Int} {i : Nat} {x : Int}, ws[i]? = some x → ∀ y : Int, (ws.take i ++ [y] ++ ws.drop (i + 1)).sum = ws.sum + (y - x)
  | [], _, _, h, _ => by simp at h
  | z :: r, 0, x, h, y => by
    cases Option.some.inj h
    show (y :: r).sum = (z :: r).sum + (y - z)
    rw [List.sum_cons, List.sum_cons]
    omega
  | z :: r, i + 1, x, h, y => by
    have ih := sum_set1 (ws := r) (i := i) (x := x) h y
    show (z :: (r.take i ++ [y] ++ r.drop (i + 1))).sum = (z :: r).sum + (y - x)
    rw [List.sum_cons, List.sum_cons, ih]
    omega
theorem sum_wide {b : Int} : ∀ {us : List Int}, (∀ x ∈ us, 0 ≤ x ∧ x ≤ b) → 0 ≤ us.sum ∧ us.sum ≤ b * (us.length : Int)
  | [], _ => ⟨by decide, by simp⟩
  | x :: r, h => by
    obtain ⟨i1, i2⟩ := sum_wide fun y hy => h y (List.mem_cons_of_mem _ hy)
    have hx := h x (List.mem_cons_self ..)
    rw [List.sum_cons, List.length_cons]
    refine ⟨by omega, ?_⟩
    have e : b * ((r.length + 1 : Nat) : Int) = b * (r.length : Int) + b := by
      rw [show ((r.length + 1 : Nat) : Int) = (r.length : Int) + 1 by omega, Int.mul_add, Int.mul_one]
    omega
abbrev s_dw : Stmt := topS 48
abbrev N_dw : List Str := ["_law_feed_here", "_law_gap", "_law_wide", "_law_long", "_law_found", "_law_last", "_law_k"]
theorem sc_dw : FnScope N_dw ["_law_feed_here", "_law_gap", "_law_wide"] (defScope s_dw) := ⟨rfl, rfl, rfl, by decide +kernel, rfl, by decide +kernel, by decide +kernel⟩
section
variable {P : Program} {w : World} {K : PySem.W.Frag} {mg : Str → Option Value} {base : Heap} {aN aO : Addr}
def spDw (K : PySem.W.Frag) : Sp := fun vs H Q _ => ∃ (d c : Addr) (gap wide t : Int), vs = [.ref d, .int gap, .int wide] ∧ Feed H d c t ∧ t ≤ 800000 ∧ 1 ≤ gap ∧ gap ≤ 3 ∧ 2 ≤ wide ∧ wide ≤ 16 ∧
  ∀ p ws t' H', Keep d H H' → H p = none → Feed H' d c t' → t' ≤ t + 7 → H' p = some (.lst (ws.map V.int)) → ws ≠ [] → ws.length ≤ 6 → (∀ x ∈ ws, 0 ≤ x) → 0 < ws.sum → ws.sum ≤ 6 * (wide - 1) + 1 → Q (.ref p) H'
theorem ok_dw {f fD : Addr} {fd fdD : FuncData} (F : Fun K "_law_drawn_weights" "_law_drawn_weights" s_dw f fd)
    (FD : Fun K "_law_draw" "_law_draw" s_draw fD fdD) (bD : Binds K fdD ["_law_feed_here", "_law_many"] []) (gD : mg "_law_draw" = some (.ref fD)) (GD : FnOk P w K mg base CX0 1 fD fdD ["_law_feed_here", "_law_many"] spDraw)
    (n_int : mg "int" = none) (n_max : mg "max" = none) (n_range : mg "range" = none) : FnOk P w K mg base CX0 2 f fd ["_law_feed_here", "_law_gap", "_law_wide"] (spDw K) := by
  refine F.ok sc_dw (fun vs H Q E h => ?_) (fun cdv A outer s H vs Q E hr h => ?_)
  · obtain ⟨_, _, _, _, _, rfl, _⟩ := h
    rfl
  · obtain ⟨d, c, gap, wide, t, rfl, f0, ht, g1, g3, w2, w16, q⟩ := h
    refine ⟨_, (pss_cons (ps_set (i := 3) sc_dw.nd rfl (.inl rfl) (pe_callB (call_max2 rfl) (by rfl) n_max (by decide +kernel) (pa_cons (pv 1) (pa_cons (pe_op op_add pe_int (pe_call GD hr (by rfl) gD FD.kp bD .nil pass0 (pa_cons (pv 0) (pa_cons pe_int pa_nil)))) pa_nil))))
      (pss_cons (ps_setLc (i := 4) (own := [("_law_k", 6)]) (g := (gName 6)) (tt := tYes) (te := (tOp (rI CMulA fun i j => .int (i * j)) (tCall spDraw [] E0 (tCons (tVar 0) (tCons (tVar 2) tNil))) (tCB (fun xs H Q => (∃ i, xs = [.int i] ∧ Q (.int i) H) ∨ ∃ k, xs = [.bl k] ∧ Q (.int (if k then 1 else 0)) H) (tCons (tOp rEq (tOp (rI (fun _ j => 0 < j) fun i j => .int (i % j)) (tVar 6) (tVar 1)) (tC (.int 0))) tNil)))) rfl sc_dw.nd rfl rfl (sw_true rfl rfl rfl (by decide +kernel)) (pi_range2 (by rfl) n_range (pa_cons pe_int (pa_cons (pe_op op_add (pv 3) pe_int) pa_nil))) (blkOk_by (own := [("_law_k", 6)]) (N := N_dw) (sc := (defScope s_dw)) (by decide +kernel)) (fun _ _ _ _ _ => (pg_name (i := 6) sc_dw.nd rfl (.inl rfl))) (fun _ _ _ _ _ => pts_nil) (fun _ _ _ _ _ => (pe_op op_mulA (pe_call GD hr (by rfl) gD FD.kp bD .nil pass0 (pa_cons (pv 0) (pa_cons (pv 2) pa_nil))) (pe_callTy call_int1 (by rfl) n_int (by decide +kernel) (pa_cons (pe_cmpR op_eq (pe_op op_mod (pv 6) (pv 1)) pe_int (nomark _)) pa_nil)))))
      (pss_cons (ps_set (i := 5) sc_dw.nd rfl (.inl rfl) (pe_op op_sub (pe_op op_mulA (pe_op op_fdivA (pv 3) (pv 1)) (pv 1)) pe_int))
      (pss_one (ps_ret (pe_op op_cat (pe_op op_cat (pe_slice sl_list (pv 4) po_none (po_some (pv 5))) (pe_lst (pa_cons (pe_op op_add (pe_ix ix_list (pv 4) (pv 5) (fun _ _ => rfl)) pe_int) pa_nil))) (pe_slice sl_list (pv 4) (po_some (pe_op op_add (pv 5) pe_int)) po_none))))))), ?_⟩
    refine ⟨_, rfl, _, rfl, d, c, 6, t, rfl, f0, by omega, by decide, by decide, fun r1 H1 r10 r11 k1 f1 => ?_⟩
    refine ⟨1, r1, rfl, rfl, ?_⟩
    refine tnil_go ?_
    refine ⟨_, _, rfl, ?_⟩
    obtain ⟨n, en, hn1, hn6, hng⟩ : ∃ n : Nat, (if 1 + r1 > gap then 1 + r1 else gap) = (n : Int) ∧ 1 ≤ n ∧ n ≤ 6 ∧ gap ≤ (n : Int) := by
      refine ⟨(if 1 + r1 > gap then 1 + r1 else gap).toNat, ?_, ?_, ?_, ?_⟩ <;> split <;> omega
    rw [en]
    refine ⟨_, rfl, _, 1, rfl, rfl, 1, _, rfl, ⟨by decide, by decide, by show -(2 ^ 62) ≤ (n : Int) + 1; omega, by show (n : Int) + 1 < 2 ^ 62; omega⟩, fun W nW => ?_⟩
    have en2 : ((n : Int) + 1 - 1).toNat = n := by omega
    have nWc := f1.nc nW
    have nWd := f1.nd nW
    refine lc_range (lo := 1) (n := ((n : Int) + 1 - 1).toNat) (fun i H5 => ∃ (ws : List Int) (t5 : Int), Keep d H1 H5 ∧ Feed H5 d c t5 ∧ t5 = t + 1 + (i : Int) ∧ H5 W = some (.lst (ws.map V.int)) ∧ ws.length = i ∧ ∀ x ∈ ws, 0 ≤ x ∧ x ≤ wide - 1) ?_ ?_ ?_
    · exact ⟨[], t + 1, Keep.refl.wr nW, f1.wr nWd nWc, by omega, upd_same, rfl, fun x hx => by simp at hx⟩
    · rintro i H5 hi ⟨ws, t5, K5, f5, et, hW, hl, hx⟩
      refine ⟨rfl, tYes_go ?_⟩
      refine iteT ?_
      refine ⟨_, rfl, _, rfl, d, c, wide, t5, rfl, f5, by omega, by omega, by omega, fun r H6 h0 h1 k6 f6 => ?_⟩
      refine ⟨_, rfl, _, rfl, _, _, rfl, rfl, by omega, rfl, ?_⟩
      refine tnil_go ?_
      obtain ⟨x, ex, hx0, hx6⟩ : ∃ x : Int, r * (if decide (V.int ((1 + (i : Int)) % gap) = V.int 0) = true then 1 else 0) = x ∧ 0 ≤ x ∧ x ≤ wide - 1 := by
        split
        · exact ⟨_, rfl, by omega, by omega⟩
        · exact ⟨_, rfl, by omega, by omega⟩
      refine .inr ⟨_, rfl, _, _, rfl, rfl, (show Sm 8 r by unfold Sm; omega).cmul (m := 8) (by split <;> (unfold Sm; decide)) (by decide) (by decide) (by decide), ?_⟩
      have hW7 := keep_at f5 k6 hW (fun _ z => nomatch z)
      refine ⟨ws.map V.int, hW7, by rw [List.length_map, hl]; exact small1000 (by omega), ?_⟩
      refine ⟨ws ++ [x], t5 + 1, (K5.trans k6).wr nW, f6.wr nWd nWc, by omega, ?_, by simp [hl], fun y hy => ?_⟩
      · rw [upd_same, List.map_append, ← ex]
        rfl
      · rcases List.mem_append.mp hy with z | z
        · exact hx y z
        · have := List.mem_singleton.mp z
          omega
    rintro H5 ⟨ws, t5, K5, f5, et, hW, hl, hx⟩
    rw [en2] at hl et
    obtain ⟨u1, u2⟩ := sum_wide hx
    have nWH : H W = none := k1.none f1 nW
    obtain ⟨m, em, hm⟩ : ∃ m : Nat, (n : Int).fdiv gap * gap - 1 = (m : Int) ∧ m < n := by
      rw [Int.fdiv_eq_ediv_of_nonneg _ (by omega)]
      rcases (by omega : gap = 1 ∨ gap = 2 ∨ gap = 3) with rfl | rfl | rfl
      · exact ⟨n - 1, by omega, by omega⟩
      · exact ⟨((n : Int) / 2 * 2 - 1).toNat, by omega, by omega⟩
      · exact ⟨((n : Int) / 3 * 3 - 1).toNat, by omega, by omega⟩
    refine ⟨_, rfl, _, rfl, _, _, rfl, rfl, ⟨by omega, Nat.lt_of_le_of_lt (Nat.le_trans (Nat.log2_le_self _) (show gap.natAbs ≤ 3 by omega)) (by decide)⟩, ?_⟩
    have hfd : 0 ≤ (n : Int).fdiv gap ∧ (n : Int).fdiv gap ≤ 6 := by
      rw [Int.fdiv_eq_ediv_of_nonneg _ (by omega)]
      rcases (by omega : gap = 1 ∨ gap = 2 ∨ gap = 3) with rfl | rfl | rfl <;> omega
    refine ⟨_, rfl, _, _, rfl, rfl, (show Sm 8 _ by unfold Sm; omega).cmul (m := 8) (by unfold Sm; omega) (by decide) (by decide) (by decide), _, 1, rfl, rfl, ?_⟩
    show gName 5 (V.int ((n : Int).fdiv gap * gap - 1)) _ H5 _
    rw [em]
    have hml : m < ws.length := by omega
    have hgm := getI_at hml
    refine ⟨_, rfl, ?_⟩
    refine noPart_go ?_
    refine ⟨_, rfl, _, rfl, W, _, rfl, SqL.of hW, fun b2 m2 => ?_⟩
    rw [cutV_take] at *
    have g2 := same_new (o := HO.lst ((ws.map V.int).take m)) m2
    refine ⟨_, rfl, _, rfl, W, _, _, _, rfl, rfl, SqL.of (g2 _ _ hW), at_of (j := m) rfl (by rw [List.getElem?_map, hgm]; rfl), _, 1, rfl, rfl, by show 1 ≤ sizeLine; decide, fun b3 m3 => ?_⟩
    have g3 := same_new (o := HO.lst [.int (getI ws m + 1)]) m3
    refine ⟨b2, b3, _, _, rfl, rfl, g3 _ _ upd_same, upd_same, by rw [List.length_take, List.length_map]; exact Nat.le_trans (show min m ws.length + 1 ≤ 1000 by omega) (by decide), fun b4 m4 => ?_⟩
    have g4 := same_new (o := HO.lst ((ws.map V.int).take m ++ [.int (getI ws m + 1)])) m4
    have S4 := g2.trans (g3.trans g4)
    refine ⟨_, rfl, _, rfl, _, 1, rfl, rfl, _, rfl, ?_⟩
    refine noPart_go ?_
    refine ⟨W, _, rfl, SqL.of (S4 _ _ hW), fun b5 m5 => ?_⟩
    have ecut : cutV (ws.map V.int) (some ((m : Int) + 1)) none = (ws.map V.int).drop (m + 1) := by
      rw [show (m : Int) + 1 = ((m + 1 : Nat) : Int) by omega, cutV_fromN]
    rw [ecut] at *
    have g5 := same_new (o := HO.lst ((ws.map V.int).drop (m + 1))) m5
    refine ⟨b4, b5, _, _, rfl, rfl, g5 _ _ upd_same, upd_same, by rw [List.length_append, List.length_take, List.length_map, List.length_drop, List.length_map]; exact Nat.le_trans (show min m ws.length + 1 + (ws.length - (m + 1)) ≤ 1000 by omega) (by decide), fun b6 m6 => ?_⟩
    have g6 := same_new (o := HO.lst ((ws.map V.int).take m ++ [.int (getI ws m + 1)] ++ (ws.map V.int).drop (m + 1))) m6
    have S6 := S4.trans (g5.trans g6)
    have esum := sum_set1 hgm (getI ws m + 1)
    refine q b6 (ws.take m ++ [getI ws m + 1] ++ ws.drop (m + 1)) t5 _ (k1.trans (K5.trans (Keep.of_same S6))) ?_ (f5.same S6) (by omega) ?_ (fun z => by simp at z) ?_ (fun x hx2 => ?_) ?_ ?_
    · exact k1.none f1 (K5.none f5 (S4.free (g5.free m6)))
    · rw [upd_same, List.map_append, List.map_append, List.map_take, List.map_drop]
      rfl
    · rw [List.length_append, List.length_append, List.length_take, List.length_drop]
      show min m ws.length + 1 + (ws.length - (m + 1)) ≤ 6
      omega
    · rcases List.mem_append.mp hx2 with u | u
      · rcases List.mem_append.mp u with v | v
        · exact (hx x (List.mem_of_mem_take v)).1
        · have := (hx _ (List.mem_of_getElem? hgm)).1
          have := List.mem_singleton.mp v
          omega
      · exact (hx x (List.mem_of_mem_drop u)).1
    · rw [esum]
      omega
    · rw [esum]
      have : (wide - 1) * (ws.length : Int) ≤ (wide - 1) * 6 := Int.mul_le_mul_of_nonneg_left (by omega) (by omega)
      omega
end

end Fp

set_option Elab.async false
set_option linter.all false
set_option maxRecDepth 100000
set_option maxHeartbeats 4000000
set_option exponentiation.threshold 10000
namespace Fp
open PySem PySem.Spec PyProof.Rows L2
/-! ### chances of a row alone -/
theorem ch01_row {row : List RT} {W : Int} (hW : WOk W row) (L : LifeOk 20 row (0, 1)) (q1 : ∀ x ∈ row, 0 ≤ qv x ∧ qv x ≤ 1) (M : Nat) : Ch01 W (chR row (0, 1)) M := by
  have q2 : (0 : Rat) ≤ qv (0, 1) ∧ qv (0, 1) ≤ 1 := by
    rw [qv_nought]
    exact ⟨Rat.le_refl, by decide⟩
  refine ⟨hW.pos, hW.sm.mono (by decide), fun k _ => (chR_01 q1 q2 k).1, fun k _ => (chR_01 q1 q2 k).2, fun k hk => ?_⟩
  rcases (by omega : k < row.length ∨ row.length ≤ k) with z | z
  · have hg : row[k]? = some row[k] := List.getElem?_eq_getElem z
    rw [chR_in hg]
    have hm := List.getElem_mem z
    exact Den.of hW.pos (L.sm _ hm).1.1 (hW.dvd _ hm)
  · rw [chR_far0 z]
    exact ⟨0, by
      show (0 : Rat) = 0 / _
      rw [Rat.div_def]
      grind⟩

end Fp

set_option Elab.async false
set_option linter.all false
set_option maxRecDepth 100000
set_option maxHeartbeats 4000000
set_option exponentiation.threshold 10000
namespace Fp
open PySem PySem.Spec PyProof.Rows L2
/-! ### lives as the law draws them -/
structure DL (full bounded : Int) (B : Int) (row : List RT) (step : RT) : Prop where
  len : row.length ≤ 6
  st : 0 ≤ step.1 ∧ step.1 < step.2 ∧ step.2 ≤ 9 ∧ Red step
  w : ∃ W : Int, 0 < W ∧ W ≤ B ∧ ∀ y ∈ row, y.2 ∣ W
  red : ∀ y ∈ row, Red y
  q : ∀ x ∈ row, 0 ≤ qv x ∧ qv x ≤ 1
  tot : rowQ row + behQ row step ≤ 1
  full : full ≠ 0 → rowQ row + behQ row step = 1 ∧ row ≠ []
  bd : bounded ≠ 0 → step = (0, 1)
  nil : row = [] → step = (0, 1)
  w9 : bounded ≠ 0 → ∃ W : Int, 0 < W ∧ W ≤ 99 ∧ ∀ y ∈ row, y.2 ∣ W
theorem DL.mono {fu bo B C : Int} {row : List RT} {step : RT} (h : DL fu bo B row step) (l : B ≤ C) : DL fu bo C row step := by
  obtain ⟨W, w1, w2, w3⟩ := h.w
  exact ⟨h.len, h.st, ⟨W, w1, by omega, w3⟩, h.red, h.q, h.tot, h.full, h.bd, h.nil, h.w9⟩
theorem rowQ_app (xs ys : List RT) : rowQ (xs ++ ys) = rowQ xs + rowQ ys := by
  unfold rowQ
  rw [List.map_append, List.sum_append]
theorem rowQ_noughts (n : Nat) : rowQ (List.replicate n (0, 1)) = 0 := by
  induction n with
  | zero => rfl
  | succ n ih =>
    rw [List.replicate_succ]
    show qv (0, 1) + rowQ (List.replicate n (0, 1)) = 0
    rw [ih, qv_nought]
    grind
theorem nought_red : Red ((0 : Int), (1 : Int)) := ⟨by decide, by decide⟩
theorem beh_none (row : List RT) : behQ row (0, 1) = 0 := by
  unfold behQ
  split
  · rfl
  · rw [qv_nought]
    grind
/-- noughts behind a row that ends -/
theorem DL.noughts {fu bo B : Int} {row : List RT} (h : DL fu bo B row (0, 1)) {n : Nat} (hn : row.length + n ≤ 6) (hr : row ≠ []) : DL fu bo B (row ++ List.replicate n (0, 1)) (0, 1) := by
  obtain ⟨W, w1, w2, w3⟩ := h.w
  have e : rowQ (row ++ List.replicate n (0, 1)) = rowQ row := by
    rw [rowQ_app, rowQ_noughts]
    grind
  have hm : ∀ y ∈ row ++ List.replicate n ((0 : Int), (1 : Int)), y ∈ row ∨ y = (0, 1) := fun y hy => by
    rcases List.mem_append.mp hy with z | z
    · exact .inl z
    · exact .inr (List.eq_of_mem_replicate z)
  refine ⟨by rw [List.length_append, List.length_replicate]; exact hn, h.st, ⟨W, w1, w2, fun y hy => ?_⟩, fun y hy => ?_, fun y hy => ?_, ?_, fun z => ?_, h.bd, fun _ => rfl, fun z => ?_⟩
  · rcases hm y hy with z | rfl
    · exact w3 y z
    · exact Int.one_dvd _
  · rcases hm y hy with z | rfl
    · exact h.red y z
    · exact nought_red
  · rcases hm y hy with z | rfl
    · exact h.q y z
    · rw [qv_nought]
      exact ⟨by decide +kernel, by decide +kernel⟩
  · have := h.tot
    rw [beh_none] at this ⊢
    rw [e]
    exact this
  · obtain ⟨z1, z2⟩ := h.full z
    rw [beh_none] at z1 ⊢
    rw [e]
    exact ⟨z1, fun u => hr (List.append_eq_nil_iff.mp u).1⟩
  · obtain ⟨U, u1, u2, u3⟩ := h.w9 z
    refine ⟨U, u1, u2, fun y hy => ?_⟩
    rcases hm y hy with z | rfl
    · exact u3 y z
    · exact Int.one_dvd _
/-- a nought and a step behind a row that ends -/
theorem DL.nought_step {fu B : Int} {row : List RT} {b : Int} (h : DL fu 0 B row (0, 1)) (hn : row.length < 6) (hr : row ≠ []) (b2 : 2 ≤ b) (b9 : b ≤ 9) : DL fu 0 B (row ++ [(0, 1)]) (1, b) := by
  have x := h.noughts (n := 1) (by omega) hr
  rw [show List.replicate 1 ((0 : Int), (1 : Int)) = [(0, 1)] from rfl] at x
  have e : behQ (row ++ [(0, 1)]) (1, b) = behQ (row ++ [(0, 1)]) (0, 1) := by
    rw [behQ_snoc, behQ_snoc, qv_nought]
    grind
  refine ⟨x.len, ⟨by show (0 : Int) ≤ 1; decide, by show (1 : Int) < b; omega, b9, ⟨by show (0 : Int) < b; omega, by show Int.gcd 1 b = 1; exact Int.one_gcd⟩⟩, x.w, x.red, x.q, by rw [e]; exact x.tot, fun z => by rw [e]; exact x.full z, fun z => absurd rfl z, fun z => by simp at z, fun z => absurd rfl z⟩
/-- one chance more by the step -/
theorem DL.longer {fu bo : Int} {ys : List RT} {y step : RT} (h : DL fu bo 99 (ys ++ [y]) step) (hn : (ys ++ [y]).length < 6) : DL fu bo 900 (ys ++ [y] ++ [low2 (y.1 * step.1) (y.2 * step.2)]) step := by
  obtain ⟨W, w1, w2, w3⟩ := h.w
  obtain ⟨s0, s1, s9, sr⟩ := h.st
  have hym : y ∈ ys ++ [y] := List.mem_append_right _ (List.mem_singleton.mpr rfl)
  have yr := h.red y hym
  have hb : 0 < y.2 * step.2 := Int.mul_pos yr.1 sr.1
  have ev : qv (low2 (y.1 * step.1) (y.2 * step.2)) = qv y * qv step := by
    rw [qv_low2 hb]
    unfold qv
    rw [Rat.intCast_mul, Rat.intCast_mul]
    have h1 := cast_ne (Int.ne_of_gt yr.1)
    have h2 := cast_ne (Int.ne_of_gt sr.1)
    grind
  obtain ⟨q0, q1⟩ := h.q y hym
  have hs0 : 0 ≤ qv step := by
    unfold qv
    rw [Rat.div_def]
    exact Rat.mul_nonneg (Rat.intCast_nonneg.mpr s0) (Rat.le_of_lt (Rat.inv_pos.mpr (Rat.intCast_pos.mpr sr.1)))
  have hs1 : qv step < 1 := by
    have h2 := cast_ne (Int.ne_of_gt sr.1)
    have h3 : (0 : Rat) < (step.2 : Rat) := Rat.intCast_pos.mpr sr.1
    have e : 1 - qv step = ((step.2 - step.1 : Int) : Rat) * ((step.2 : Rat))⁻¹ := by
      unfold qv
      rw [Rat.intCast_sub]
      grind
    have := Rat.mul_pos (Rat.intCast_pos.mpr (show 0 < step.2 - step.1 by omega)) (Rat.inv_pos.mpr h3)
    grind
  have qs0 := Rat.mul_nonneg q0 hs0
  have qs1 : qv y * qv step ≤ 1 := by
    have := Rat.mul_nonneg q0 (show 0 ≤ 1 - qv step by grind)
    grind
  have et : rowQ (ys ++ [y] ++ [low2 (y.1 * step.1) (y.2 * step.2)]) + behQ (ys ++ [y] ++ [low2 (y.1 * step.1) (y.2 * step.2)]) step = rowQ (ys ++ [y]) + behQ (ys ++ [y]) step := by
    rw [rowQ_snoc, behQ_snoc, behQ_snoc, ev]
    have : 1 - qv step ≠ 0 := by grind
    grind
  have hm : ∀ z ∈ ys ++ [y] ++ [low2 (y.1 * step.1) (y.2 * step.2)], z ∈ ys ++ [y] ∨ z = low2 (y.1 * step.1) (y.2 * step.2) := fun z hz => by
    rcases List.mem_append.mp hz with u | u
    · exact .inl u
    · exact .inr (List.mem_singleton.mp u)
  refine ⟨by rw [List.length_append]; show _ + 1 ≤ 6; omega, h.st, ⟨W * step.2, Int.mul_pos w1 sr.1, ?_, fun z hz => ?_⟩, fun z hz => ?_, fun z hz => ?_, by rw [et]; exact h.tot, fun z => ⟨by rw [et]; exact (h.full z).1, fun u => by simp at u⟩, h.bd, fun u => by simp at u, fun z => ?_⟩
  · have h1 : W * step.2 ≤ 99 * step.2 := Int.mul_le_mul_of_nonneg_right w2 (by omega)
    omega
  · rcases hm z hz with u | rfl
    · exact Int.dvd_trans (w3 z u) (Int.dvd_mul_right ..)
    · obtain ⟨u1, hu⟩ := w3 y hym
      have : (low2 (y.1 * step.1) (y.2 * step.2)).2 ∣ y.2 * step.2 := (red_small (low2_red (Int.ne_of_gt hb)) hb (qv_low2 hb)).1
      refine Int.dvd_trans this ⟨u1, ?_⟩
      rw [hu, Int.mul_assoc, Int.mul_assoc, Int.mul_comm u1]
  · rcases hm z hz with u | rfl
    · exact h.red z u
    · exact low2_red (Int.ne_of_gt hb)
  · rcases hm z hz with u | rfl
    · exact h.q z u
    · rw [ev]
      exact ⟨qs0, qs1⟩
  · obtain ⟨U, u1, u2, u3⟩ := h.w9 z
    have hs := h.bd z
    refine ⟨U, u1, u2, fun y' hy => ?_⟩
    rcases hm y' hy with u | rfl
    · exact u3 y' u
    · have : (low2 (y.1 * step.1) (y.2 * step.2)).2 ∣ y.2 * step.2 := (red_small (low2_red (Int.ne_of_gt hb)) hb (qv_low2 hb)).1
      rw [hs, Int.mul_one] at this
      rw [hs, Int.mul_one]
      exact Int.dvd_trans this (u3 y hym)
/-- by weights -/
theorem rowQ_mkL (n : Nat) (f : Nat → Rat) : rowQ (mkL n f) = sumTo n f := by
  unfold rowQ
  exact mkL_sum
theorem sum_getI (ws : List Int) : (sumTo ws.length fun i => ((getI ws i : Int) : Rat)) = ((ws.sum : Int) : Rat) := by
  have key : ∀ k, k ≤ ws.length → (sumTo k fun i => ((getI ws i : Int) : Rat)) = (((ws.take k).sum : Int) : Rat) := by
    intro k
    induction k with
    | zero => intro _; rfl
    | succ k ih =>
      intro hk
      rw [sumTo_succ, ih (by omega), List.take_add_one, getI_at (by omega), List.sum_append]
      show _ = (((ws.take k).sum + [getI ws k].sum : Int) : Rat)
      rw [List.sum_cons, List.sum_nil, Int.add_zero, Rat.intCast_add]
  rw [key _ (Nat.le_refl _), List.take_length]
theorem DL.of {fu bo : Int} {ws : List Int} {T tail : Int} {step : RT} (hne : ws ≠ []) (hl : ws.length ≤ 6) (hw : ∀ x ∈ ws, 0 ≤ x) (h0 : 0 < T) (h9 : T ≤ 99) (ht : ws.sum + tail ≤ T) (hf : fu ≠ 0 → ws.sum + tail = T) (ht0 : 0 ≤ tail)
    (st : 0 ≤ step.1 ∧ step.1 < step.2 ∧ step.2 ≤ 9 ∧ Red step) (hb : bo ≠ 0 → step = (0, 1)) (hst : (step = (0, 1) ∧ tail = 0) ∨ lastW ws * step.1 = (step.2 - step.1) * tail) :
    DL fu bo 99 (mkL ws.length fun i => ((getI ws i : Int) : Rat) / (T : Rat)) step := by
  have hT := cast_ne (Int.ne_of_gt h0)
  have hTp : (0 : Rat) < (T : Rat) := Rat.intCast_pos.mpr h0
  have ge : ∀ i, i < ws.length → 0 ≤ getI ws i ∧ getI ws i ≤ ws.sum := fun i hi => by
    have hm := getI_at hi
    refine ⟨hw _ (List.mem_of_getElem? hm), ?_⟩
    have := sum_set1 hm 0
    have nn : ∀ us : List Int, (∀ x ∈ us, 0 ≤ x) → 0 ≤ us.sum := fun us => by
      induction us with
      | nil => intro _; decide
      | cons x r ih =>
        intro h
        have h1 := h x (List.mem_cons_self ..)
        have h2 := ih fun y hy => h y (List.mem_cons_of_mem _ hy)
        rw [List.sum_cons]
        omega
    have h3 := nn (ws.take i ++ [0] ++ ws.drop (i + 1)) fun x hx => by
      rcases List.mem_append.mp hx with u | u
      · rcases List.mem_append.mp u with v | v
        · exact hw x (List.mem_of_mem_take v)
        · rw [List.mem_singleton.mp v]
          decide
      · exact hw x (List.mem_of_mem_drop u)
    omega
  have key : ∀ x ∈ mkL ws.length (fun i => ((getI ws i : Int) : Rat) / (T : Rat)), ∃ i, i < ws.length ∧ x = low2 (getI ws i) T := fun x hx => by
    obtain ⟨j, hj, rfl⟩ := mem_mkL hx
    exact ⟨j, hj, (is_rdq (low2_red (Int.ne_of_gt h0)) (qv_low2 h0)).symm⟩
  have etot : rowQ (mkL ws.length fun i => ((getI ws i : Int) : Rat) / (T : Rat)) = ((ws.sum : Int) : Rat) / (T : Rat) := by
    rw [rowQ_mkL, ← sum_getI, Rat.div_def, show ∀ a b : Rat, a * b = b * a by intro a b; grind, sumTo_mul]
    exact sumTo_congr fun i _ => by rw [Rat.div_def]; grind
  have ebeh : behQ (mkL ws.length fun i => ((getI ws i : Int) : Rat) / (T : Rat)) step = ((tail : Int) : Rat) / (T : Rat) := by
    rcases hst with ⟨rfl, rfl⟩ | z
    · rw [beh_none]
      show (0 : Rat) = ((0 : Int) : Rat) / _
      rw [show ((0 : Int) : Rat) = 0 from rfl]
      grind
    · obtain ⟨n, hn⟩ : ∃ n, ws.length = n + 1 := ⟨ws.length - 1, by have := List.length_pos_iff.mpr hne; omega⟩
      rw [hn, mkL_succ, behQ_snoc, qv_rdq]
      have e1 : getI ws n = lastW ws := by
        have h1 := last_get hne
        have h2 := getI_at (xs := ws) (j := n) (by omega)
        rw [show ws.length - 1 = n by omega, h2] at h1
        exact Option.some.inj h1
      rw [e1]
      have h2 := cast_ne (Int.ne_of_gt st.2.2.2.1)
      have h3 : ((step.2 - step.1 : Int) : Rat) ≠ 0 := cast_ne (by omega)
      have e3 : ((lastW ws : Int) : Rat) * ((step.1 : Int) : Rat) = ((step.2 - step.1 : Int) : Rat) * ((tail : Int) : Rat) := by
        rw [← Rat.intCast_mul, ← Rat.intCast_mul, z]
      have e4 : (1 : Rat) - qv step = ((step.2 - step.1 : Int) : Rat) / ((step.2 : Int) : Rat) := by
        unfold qv
        rw [Rat.intCast_sub]
        grind
      rw [e4]
      unfold qv
      grind
  have le1 : ((ws.sum : Int) : Rat) / (T : Rat) + ((tail : Int) : Rat) / (T : Rat) = ((ws.sum + tail : Int) : Rat) / (T : Rat) := by
    rw [Rat.intCast_add]
    grind
  refine ⟨by rw [mkL_len]; exact hl, st, ⟨T, h0, h9, fun y hy => ?_⟩, fun y hy => ?_, fun y hy => ?_, ?_, fun z => ⟨?_, fun u => ?_⟩, hb, fun u => ?_, fun _ => ⟨T, h0, h9, fun y hy => ?_⟩⟩
  · obtain ⟨i, _, rfl⟩ := key y hy
    exact (red_small (low2_red (Int.ne_of_gt h0)) h0 (qv_low2 h0)).1
  · obtain ⟨i, _, rfl⟩ := key y hy
    exact low2_red (Int.ne_of_gt h0)
  · obtain ⟨i, hi, rfl⟩ := key y hy
    rw [qv_low2 h0]
    exact div_01 (ge i hi).1 h0 (by have := (ge i hi).2; omega)
  · rw [etot, ebeh, le1]
    have : ((ws.sum + tail : Int) : Rat) ≤ (T : Rat) := Rat.intCast_le_intCast.mpr ht
    have h1 := Rat.mul_le_mul_of_nonneg_right this (Rat.le_of_lt (Rat.inv_pos.mpr hTp))
    rw [Rat.mul_inv_cancel _ hT, ← Rat.div_def] at h1
    exact h1
  · rw [etot, ebeh, le1, hf z, Rat.div_def, Rat.mul_inv_cancel _ hT]
  · have := congrArg List.length u
    rw [mkL_len] at this
    exact hne (List.length_eq_zero_iff.mp this)
  · have := congrArg List.length u
    rw [mkL_len] at this
    exact absurd (List.length_eq_zero_iff.mp this) hne
  · obtain ⟨i, _, rfl⟩ := key y hy
    exact (red_small (low2_red (Int.ne_of_gt h0)) h0 (qv_low2 h0)).1
theorem sum_setL : ∀ {ws : List Int} {i : Nat} {x : Int}, ws[i]? = some x → ∀ y : Int, (ws.set i y).sum = ws.sum + (y - x)
  | [], _, _, h, _ => by simp at h
  | z :: r, 0, x, h, y => by
    cases Option.some.inj h
    show (y :: r).sum = (z :: r).sum + (y - z)
    rw [List.sum_cons, List.sum_cons]
    omega
  | z :: r, i + 1, x, h, y => by
    have ih := sum_setL (ws := r) (i := i) (x := x) h y
    show (z :: (r.set i y)).sum = (z :: r).sum + (y - x)
    rw [List.sum_cons, List.sum_cons, ih]
    omega
theorem step_low {t b : Int} (h1 : 1 ≤ t) (h2 : t < b) (h9 : b ≤ 9) : 0 < (low2 t b).1 ∧ (low2 t b).1 < (low2 t b).2 ∧ (low2 t b).2 ≤ 9 ∧ Red (low2 t b) := by
  have hb : 0 < b := by omega
  have hr := low2_red (t := t) (Int.ne_of_gt hb)
  have hc := low2_cross (t := t) hb
  have hd := (red_small hr hb (qv_low2 hb)).1
  have hle := Int.le_of_dvd hb hd
  have h0 := hr.1
  refine ⟨?_, ?_, by omega, hr⟩
  · have : 0 < t * (low2 t b).2 := Int.mul_pos (by omega) h0
    rw [← hc] at this
    rcases Int.lt_trichotomy (low2 t b).1 0 with z | z | z
    · have := Int.mul_neg_of_neg_of_pos z hb
      omega
    · rw [z, Int.zero_mul] at this
      omega
    · exact z
  · refine Int.lt_of_mul_lt_mul_right (a := b) ?_ (by omega)
    rw [hc, Int.mul_comm (low2 t b).2]
    exact Int.mul_lt_mul_of_pos_right h2 h0
theorem pick8 {r : Int} (h0 : 0 ≤ r) (h1 : r < 8) : ∃ n : Int, atI [V.int 1, V.int 1, V.int 1, V.int 1, V.int 1, V.int 2, V.int 2, V.int 3] r = some (.int n) ∧ 1 ≤ n ∧ n ≤ 3 := by
  rcases (by omega : r = 0 ∨ r = 1 ∨ r = 2 ∨ r = 3 ∨ r = 4 ∨ r = 5 ∨ r = 6 ∨ r = 7) with rfl | rfl | rfl | rfl | rfl | rfl | rfl | rfl
  · exact ⟨1, atI_nat (j := 0) rfl, by decide, by decide⟩
  · exact ⟨1, atI_nat (j := 1) rfl, by decide, by decide⟩
  · exact ⟨1, atI_nat (j := 2) rfl, by decide, by decide⟩
  · exact ⟨1, atI_nat (j := 3) rfl, by decide, by decide⟩
  · exact ⟨1, atI_nat (j := 4) rfl, by decide, by decide⟩
  · exact ⟨2, atI_nat (j := 5) rfl, by decide, by decide⟩
  · exact ⟨2, atI_nat (j := 6) rfl, by decide, by decide⟩
  · exact ⟨3, atI_nat (j := 7) rfl, by decide, by decide⟩
theorem pickW {r : Int} (h0 : 0 ≤ r) (h1 : r < 4) : ∃ n : Int, atI [V.int 2, V.int 3, V.int 9, V.int 16] r = some (.int n) ∧ 2 ≤ n ∧ n ≤ 16 := by
  rcases (by omega : r = 0 ∨ r = 1 ∨ r = 2 ∨ r = 3) with rfl | rfl | rfl | rfl
  · exact ⟨2, atI_nat (j := 0) rfl, by decide, by decide⟩
  · exact ⟨3, atI_nat (j := 1) rfl, by decide, by decide⟩
  · exact ⟨9, atI_nat (j := 2) rfl, by decide, by decide⟩
  · exact ⟨16, atI_nat (j := 3) rfl, by decide, by decide⟩
theorem pickM {r T : Int} (h0 : 0 ≤ r) (h1 : r < 4) (hT : T ≤ 91) : ∃ n : Int, atI [V.int 0, V.int 1, V.int 7, V.int (99 - T)] r = some (.int n) ∧ 0 ≤ n ∧ T + n ≤ 99 := by
  rcases (by omega : r = 0 ∨ r = 1 ∨ r = 2 ∨ r = 3) with rfl | rfl | rfl | rfl
  · exact ⟨0, atI_nat (j := 0) rfl, by decide, by omega⟩
  · exact ⟨1, atI_nat (j := 1) rfl, by decide, by omega⟩
  · exact ⟨7, atI_nat (j := 2) rfl, by decide, by omega⟩
  · exact ⟨99 - T, atI_nat (j := 3) rfl, by omega, by omega⟩
theorem if_share6 {c : Bool} {tA tB : TE} {σ : L2.St} {H : Hp} {Qc : VK} (R : V → Hp → Prop) (hA : c = true → ∀ Q' : VK, (∀ v H', R v H' → Q' v H') → tA σ H Q') (hB : c ≠ true → ∀ Q' : VK, (∀ v H', R v H' → Q' v H') → tB σ H Q') (h : ∀ v H', R v H' → Qc v H') : if c = true then tA σ H Qc else tB σ H Qc := by
  split
  · rename_i z
    exact hA z Qc h
  · rename_i z
    exact hB z Qc h
theorem row_last {K : PySem.W.Frag} {H : Hp} {rs : List Addr} {ys : List RT} {y : RT} (h : RsAt K H rs (ys ++ [y])) : ∃ p, atI (rs.map V.ref) (-1) = some (.ref p) ∧ RAt K H p y := by
  have hl := h.length
  rw [List.length_append, List.length_singleton] at hl
  obtain ⟨p', e, hp⟩ := h.get (i := ys.length) (x := y) (by rw [List.getElem?_append_right (Nat.le_refl _), Nat.sub_self]; rfl)
  rcases snoc_cases rs with z | ⟨qs, p, z⟩
  · rw [z] at hl
    simp at hl
  · rw [z] at hl e
    rw [List.length_append, List.length_singleton] at hl
    have e2 : ys.length = qs.length := by omega
    rw [e2, List.getElem?_append_right (Nat.le_refl _), Nat.sub_self] at e
    cases Option.some.inj e
    refine ⟨p', ?_, hp⟩
    rw [z, List.map_append]
    exact atI_last ..
theorem red_01 {y : RT} (r : Red y) (q : 0 ≤ qv y ∧ qv y ≤ 1) : 0 ≤ y.1 ∧ y.1 ≤ y.2 := by
  have h2 : (0 : Rat) < (y.2 : Rat) := Rat.intCast_pos.mpr r.1
  have e : (y.1 : Rat) = qv y * (y.2 : Rat) := by
    unfold qv
    have := Rat.ne_of_gt h2
    grind
  refine ⟨?_, ?_⟩
  · have := Rat.mul_nonneg q.1 (Rat.le_of_lt h2)
    rw [← e] at this
    exact Rat.intCast_nonneg.mp this
  · have := Rat.mul_le_mul_of_nonneg_right q.2 (Rat.le_of_lt h2)
    rw [← e, Rat.one_mul] at this
    exact Rat.intCast_le_intCast.mp this

end Fp

set_option Elab.async false
set_option linter.all false
set_option maxRecDepth 100000
set_option maxHeartbeats 4000000
set_option exponentiation.threshold 10000
namespace Fp
open PySem PySem.Spec PyProof.Rows L2
abbrev s_dl : Stmt := topS 49
abbrev N_dl : List Str := ["_law_feed_here", "_law_full", "_law_bounded", "_law_end", "_law_gap", "_law_wide", "_law_goes_on", "_law_weights", "_law_step", "_law_tail", "_law_bottom", "_law_many", "_law_total", "_law_row", "_law_weight"]
theorem sc_dl : FnScope N_dl ["_law_feed_here", "_law_full", "_law_bounded"] (defScope s_dl) := ⟨rfl, rfl, rfl, by decide +kernel, rfl, by decide +kernel, by decide +kernel⟩
section
variable {P : Program} {w : World} {K : PySem.W.Frag} {mg : Str → Option Value} {base : Heap} {aN aO : Addr}
def spDl (K : PySem.W.Frag) : Sp := fun vs H Q _ => ∃ (d c : Addr) (fu bo t : Int), vs = [.ref d, .int fu, .int bo] ∧ Feed H d c t ∧ t ≤ 700000 ∧
  ∀ p row step t' H', Keep d H H' → Feed H' d c t' → t' ≤ t + 30 → DL fu bo 900 row step → LifeAt K H' p row step → Q (.ref p) H'
theorem ok_dl {f fD fDW fL : Addr} {fd fdD fdDW fdL : FuncData} (F : Fun K "_law_drawn_life" "_law_drawn_life" s_dl f fd)
    (FD : Fun K "_law_draw" "_law_draw" s_draw fD fdD) (bD : Binds K fdD ["_law_feed_here", "_law_many"] []) (gD : mg "_law_draw" = some (.ref fD)) (GD : FnOk P w K mg base CX0 1 fD fdD ["_law_feed_here", "_law_many"] spDraw)
    (FDW : Fun K "_law_drawn_weights" "_law_drawn_weights" s_dw fDW fdDW) (bDW : Binds K fdDW ["_law_feed_here", "_law_gap", "_law_wide"] []) (gDW : mg "_law_drawn_weights" = some (.ref fDW)) (GDW : FnOk P w K mg base CX0 2 fDW fdDW ["_law_feed_here", "_law_gap", "_law_wide"] (spDw K))
    (FL : Fun K "_law_low" "_law_low" s_low2 fL fdL) (bL : Binds K fdL ["_law_top", "_law_bottom"] []) (gL : mg "_law_low" = some (.ref fL)) (GL : FnOk P w K mg base CX0 2 fL fdL ["_law_top", "_law_bottom"] spLow)
    (n_len : mg "len" = none) (n_min : mg "min" = none) (n_sum : mg "sum" = none) (n_tuple : mg "tuple" = none) : FnOk P w K mg base CX0 3 f fd ["_law_feed_here", "_law_full", "_law_bounded"] (spDl K) := by
  refine F.ok sc_dl (fun vs H Q E h => ?_) (fun cdv A outer s H vs Q E hr h => ?_)
  · obtain ⟨_, _, _, _, _, rfl, _⟩ := h
    rfl
  · obtain ⟨d, c, fu, bo, t, rfl, f0, ht, q⟩ := h
    refine ⟨_, (pss_cons (ps_par (i := 3) (j := 4) rfl sc_dl.nd rfl rfl (by decide) rfl rfl (pa_cons (pe_call GD (hr.mono (by decide)) (by rfl) gD FD.kp bD .nil pass0 (pa_cons (pv 0) (pa_cons pe_int pa_nil))) (pa_cons (pe_ix ix_list (pe_lst (pa_cons pe_int (pa_cons pe_int (pa_cons pe_int (pa_cons pe_int (pa_cons pe_int (pa_cons pe_int (pa_cons pe_int (pa_cons pe_int pa_nil))))))))) (pe_call GD (hr.mono (by decide)) (by rfl) gD FD.kp bD .nil pass0 (pa_cons (pv 0) (pa_cons pe_int pa_nil))) (fun _ _ => rfl)) pa_nil)) (by rfl))
      (pss_cons (ps_set (i := 5) sc_dl.nd rfl (.inl rfl) (pe_ix ix_list (pe_lst (pa_cons pe_int (pa_cons pe_int (pa_cons pe_int (pa_cons pe_int pa_nil))))) (pe_call GD (hr.mono (by decide)) (by rfl) gD FD.kp bD .nil pass0 (pa_cons (pv 0) (pa_cons pe_int pa_nil))) (fun _ _ => rfl)))
      (pss_mid (ps_set (i := 6) sc_dl.nd rfl (.inl rfl) (pe_and (pe_cmpR op_eq (pv 2) pe_int (nomark _)) (pe_one (pe_cmpR op_lt (pv 3) pe_int (nomark _)))))
      (pss_cons (ps_set (i := 7) sc_dl.nd rfl (.inl rfl) (pe_call GDW hr (by rfl) gDW FDW.kp bDW .nil pass0 (pa_cons (pv 0) (pa_cons (pv 4) (pa_cons (pe_ifExp (pt_truth (pv 6) (by intro _; rfl)) (pe_callB (call_min2 rfl) (by rfl) n_min (by decide +kernel) (pa_cons (pv 5) (pa_cons pe_int pa_nil))) (pv 5)) pa_nil)))))
      (pss_cons (ps_asg (pe_tup (pa_cons (pe_tup (pa_cons pe_int (pa_cons pe_int pa_nil))) (pa_cons pe_int pa_nil))) (pg_tup rfl (pgs_cons (pg_name (i := 8) sc_dl.nd rfl (.inl rfl)) (pgs_cons (pg_name (i := 9) sc_dl.nd rfl (.inl rfl)) pgs_nil))))
      (pss_mid (ps_if (pt_truth (pv 6) (by intro _; rfl)) (pss_cons (ps_par (i := 10) (j := 11) rfl sc_dl.nd rfl rfl (by decide) rfl rfl (pa_cons (pe_op op_add pe_int (pe_call GD (hr.mono (by decide)) (by rfl) gD FD.kp bD .nil pass0 (pa_cons (pv 0) (pa_cons pe_int pa_nil)))) (pa_cons (pe_op op_add pe_int (pe_call GD (hr.mono (by decide)) (by rfl) gD FD.kp bD .nil pass0 (pa_cons (pv 0) (pa_cons pe_int pa_nil)))) pa_nil)) (by rfl))
      (pss_cons (ps_set (i := 8) sc_dl.nd rfl (.inl rfl) (pe_call GL hr (by rfl) gL FL.kp bL .nil pass0 (pa_cons (pe_op op_add pe_int (pe_call GD (hr.mono (by decide)) (by rfl) gD FD.kp bD .nil pass0 (pa_cons (pv 0) (pa_cons (pe_op op_sub (pv 10) pe_int) pa_nil)))) (pa_cons (pv 10) pa_nil))))
      (pss_cons (ps_asg (pe_op op_mulA (pe_op op_sub (pe_ix ix_tup (pv 8) pe_int (fun _ _ => rfl)) (pe_ix ix_tup (pv 8) pe_int (fun _ _ => rfl))) (pv 11)) (pg_sub (pv 7) (pe_un un_neg pe_int) set_list))
      (pss_one (ps_set (i := 9) sc_dl.nd rfl (.inl rfl) (pe_op op_mulA (pe_ix ix_tup (pv 8) pe_int (fun _ _ => rfl)) (pv 11))))))) pss_nil)
      (pss_cons (ps_set (i := 12) sc_dl.nd rfl (.inr rfl) (pe_op op_add (pe_callB (cr_sum rfl) (by rfl) n_sum (by decide +kernel) (pa_cons (pv 7) pa_nil)) (pv 9)))
      (pss_mid (ps_if (pt_cmpR op_eq (pv 1) pe_int (nomark _)) (pss_one (ps_set (i := 12) sc_dl.nd rfl (.inr rfl) (pe_op op_add (pv 12) (pe_ix ix_list (pe_lst (pa_cons pe_int (pa_cons pe_int (pa_cons pe_int (pa_cons (pe_op op_sub pe_int (pv 12)) pa_nil))))) (pe_call GD (hr.mono (by decide)) (by rfl) gD FD.kp bD .nil pass0 (pa_cons (pv 0) (pa_cons pe_int pa_nil))) (fun _ _ => rfl))))) pss_nil)
      (pss_cons (ps_set (i := 13) sc_dl.nd rfl (.inl rfl) (pe_callTy call_tuple_of (by rfl) n_tuple (by decide +kernel) (pa_cons (pe_lc (own := [("_law_weight", 14)]) (g := (gName 14)) (tt := tYes) (te := (tCall spLow [] E0 (tCons (tVar 14) (tCons (tVar 12) tNil)))) rfl sc_dl.nd (pi_list (pv 7)) (blkOk_by (own := [("_law_weight", 14)]) (N := N_dl) (sc := (defScope s_dl)) (by decide +kernel)) (fun _ _ _ _ _ => (pg_name (i := 14) sc_dl.nd rfl (.inl rfl))) (fun _ _ _ _ _ => pts_nil) (fun _ _ _ _ _ => (pe_call GL hr (by rfl) gL FL.kp bL .nil pass0 (pa_cons (pv 14) (pa_cons (pv 12) pa_nil))))) pa_nil)))
      (pss_mid (ps_if (PW.pt (pw_and (pt_cmpR op_eq (pv 3) pe_int (nomark _)) (pw_and (pt_truth (pv 6) (by intro _; rfl)) (pw_and (pt_cmpR op_lt (pe_callB call_len_seq (by rfl) n_len PySem.boot_len (pa_cons (pv 13) pa_nil)) pe_int (nomark _)) (pw_and1 (pt_cmpR op_lt (pe_op op_mulA (pe_ix ix_tup (pe_ix ix_tup (pv 13) (pe_un un_neg pe_int) (fun _ _ => rfl)) pe_int (fun _ _ => rfl)) (pe_ix ix_tup (pv 8) pe_int (fun _ _ => rfl))) pe_int (nomark _))))))) (pss_one (ps_set (i := 13) sc_dl.nd rfl (.inl rfl) (pe_op op_catA (pv 13) (pe_tup (pa_cons (pe_call GL hr (by rfl) gL FL.kp bL .nil pass0 (pa_cons (pe_op op_mulA (pe_ix ix_tup (pe_ix ix_tup (pv 13) (pe_un un_neg pe_int) (fun _ _ => rfl)) pe_int (fun _ _ => rfl)) (pe_ix ix_tup (pv 8) pe_int (fun _ _ => rfl))) (pa_cons (pe_op op_mulA (pe_ix ix_tup (pe_ix ix_tup (pv 13) (pe_un un_neg pe_int) (fun _ _ => rfl)) pe_int (fun _ _ => rfl)) (pe_ix ix_tup (pv 8) pe_int (fun _ _ => rfl))) pa_nil))) pa_nil))))) pss_nil)
      (pss_mid (ps_if (PW.pt (pw_and (pt_cmpR op_eq (pv 3) pe_int (nomark _)) (pw_and1 (pt_cmpR op_lt (pe_callB call_len_seq (by rfl) n_len PySem.boot_len (pa_cons (pv 13) pa_nil)) pe_int (nomark _))))) (pss_one (ps_set (i := 13) sc_dl.nd rfl (.inl rfl) (pe_op op_catA (pv 13) (pe_op op_repA (pe_tup (pa_cons (pe_tup (pa_cons pe_int (pa_cons pe_int pa_nil))) pa_nil)) (pe_op op_add pe_int (pe_call GD (hr.mono (by decide)) (by rfl) gD FD.kp bD .nil pass0 (pa_cons (pv 0) (pa_cons (pe_op op_sub pe_int (pe_callB call_len_seq (by rfl) n_len PySem.boot_len (pa_cons (pv 13) pa_nil))) pa_nil)))))))) pss_nil)
      (pss_mid (ps_if (PW.pt (pw_and (pt_cmpR op_eq (pv 3) pe_int (nomark _)) (pw_and (pt_cmpR op_eq (pv 2) pe_int (nomark _)) (pw_and1 (pt_cmpR op_lt (pe_callB call_len_seq (by rfl) n_len PySem.boot_len (pa_cons (pv 13) pa_nil)) pe_int (nomark _)))))) (pss_one (ps_par (i := 13) (j := 8) rfl sc_dl.nd rfl rfl (by decide) rfl rfl (pa_cons (pe_op op_catA (pv 13) (pe_tup (pa_cons (pe_tup (pa_cons pe_int (pa_cons pe_int pa_nil))) pa_nil))) (pa_cons (pe_tup (pa_cons pe_int (pa_cons (pe_op op_add pe_int (pe_call GD (hr.mono (by decide)) (by rfl) gD FD.kp bD .nil pass0 (pa_cons (pv 0) (pa_cons pe_int pa_nil)))) pa_nil))) pa_nil)) (by rfl))) pss_nil)
      (pss_cons (ps_if (PW.pt (pw_and (pt_cmpR op_eq (pv 3) pe_int (nomark _)) (pw_and (pt_cmpR op_eq (pv 1) pe_int (nomark _)) (pw_and1 (pt_cmpR op_eq (pe_call GD (hr.mono (by decide)) (by rfl) gD FD.kp bD .nil pass0 (pa_cons (pv 0) (pa_cons pe_int pa_nil))) pe_int (nomark _)))))) (pss_one (ps_ret (pe_tup (pa_cons (pe_tup pa_nil) (pa_cons (pe_tup (pa_cons pe_int (pa_cons pe_int pa_nil))) pa_nil))))) pss_nil)
      (pss_one (ps_ret (pe_tup (pa_cons (pv 13) (pa_cons (pv 8) pa_nil)))))))))))))))))), ?_⟩
    refine ⟨_, rfl, d, c, 8, t, rfl, f0, by omega, by decide, by decide, fun r1 H1 r10 r11 k1 f1 => ?_⟩
    refine ⟨by show 8 ≤ sizeLine; decide, fun l1 n1 => ?_⟩
    have e1 := same_new (o := HO.lst [V.int 1, V.int 1, V.int 1, V.int 1, V.int 1, V.int 2, V.int 2, V.int 3]) n1
    refine ⟨_, rfl, d, c, 8, t + 1, rfl, f1.same e1, by omega, by decide, by decide, fun r2 H2 r20 r21 k2 f2 => ?_⟩
    obtain ⟨gap, eg, hg1, hg3⟩ := pick8 r20 r21
    refine ⟨l1, _, _, _, rfl, rfl, SqL.of (keep_at (f1.same e1) k2 upd_same (fun _ z => nomatch z)), eg, ?_⟩
    refine ⟨_, _, rfl, ?_⟩
    refine ⟨by show 4 ≤ sizeLine; decide, fun l2 n2 => ?_⟩
    have e2 := same_new (o := HO.lst [V.int 2, V.int 3, V.int 9, V.int 16]) n2
    refine ⟨_, rfl, d, c, 4, t + 1 + 1, rfl, f2.same e2, by omega, by decide, by decide, fun r3 H3 r30 r31 k3 f3 => ?_⟩
    obtain ⟨wd, ew, hw2, hw16⟩ := pickW r30 r31
    refine ⟨l2, _, _, _, rfl, rfl, SqL.of (keep_at (f2.same e2) k3 upd_same (fun _ z => nomatch z)), ew, ?_⟩
    have K3 : Keep d H H3 := k1.trans ((keep_new n1 k2).trans (keep_new n2 k3))
    refine ⟨fun σ HM => ∃ go : Bool, σ = [some (.ref d), some (.int fu), some (.int bo), some (.int r1), some (.int gap), some (.int wd), some (.bl go), none, none, none, none, none, none, none, none] ∧ HM = H3 ∧ (go = true → bo = 0 ∧ r1 < 3), ?_, ?_⟩
    · refine ⟨_, rfl, rfl, _, rfl, ite2 (fun c1 => ?_) (fun c1 => ?_)⟩
      · refine ⟨_, rfl, _, _, rfl, rfl, ?_⟩
        refine ⟨_, rfl, rfl, fun z => ⟨V.int.inj (of_decide_eq_true c1), of_decide_eq_true z⟩⟩
      · exact ⟨false, rfl, rfl, fun z => absurd z (by decide)⟩
    rintro σ HM ⟨go, rfl, rfl, hgo⟩
    refine ⟨_, rfl, _, rfl, ?_⟩
    refine ⟨_, rfl, go, rfl, ?_⟩
    refine if_share6 (fun v HD => ∃ w' : Int, v = .int w' ∧ 2 ≤ w' ∧ w' ≤ 16 ∧ (go = true → w' ≤ 9) ∧ HD = HM) (fun c5 Q' hQ => ?_) (fun c5 Q' hQ => ⟨_, rfl, hQ _ _ ⟨wd, rfl, hw2, hw16, fun z => absurd z c5, rfl⟩⟩) ?_
    · refine ⟨_, rfl, _, _, rfl, hQ _ _ ⟨_, rfl, ?_, ?_, fun _ => ?_, rfl⟩⟩ <;> split <;> omega
    rintro v HD ⟨w', rfl, hw'2, hw'16, hw'9, rfl⟩
    refine tnil_go ?_
    refine ⟨d, c, gap, w', t + 1 + 1 + 1, rfl, f3, by omega, hg1, hg3, hw'2, hw'16, fun W ws t4 H4 k4 nW f4 ht4 hW hne hwl hw0 hws hwm => ?_⟩
    have nWH : H W = none := K3.none f3 nW
    have K4 := K3.trans k4
    refine ⟨by show 2 ≤ sizeLine; decide, fun s0 ns0 => ?_⟩
    have e5 := same_new (o := HO.tup [V.int 0, V.int 1]) ns0
    refine ⟨by show 2 ≤ sizeLine; decide, fun p0 np0 => ?_⟩
    have e6 := same_new (o := HO.tup [V.ref s0, V.int 0]) np0
    have E6 := e5.trans e6
    refine ⟨p0, _, rfl, SqT.of upd_same, rfl, _, _, rfl, _, _, rfl, rfl, ?_⟩
    have K6 := K4.trans (Keep.of_same E6)
    have f6 := f4.same E6
    have hW6 := E6 _ _ hW
    have hs6 : RAt K (upd (upd H4 s0 (HO.tup [V.int 0, V.int 1])) p0 (HO.tup [V.ref s0, V.int 0])) s0 (0, 1) := SqT.of (e6 _ _ upd_same)
    generalize upd (upd H4 s0 (HO.tup [V.int 0, V.int 1])) p0 (HO.tup [V.ref s0, V.int 0]) = H6 at *
    refine ⟨fun σ HM => ∃ (st : Addr) (us : List Int) (tail t' : Int) (step : RT) (z10 z11 : Option V), σ = [some (.ref d), some (.int fu), some (.int bo), some (.int r1), some (.int gap), some (.int wd), some (.bl go), some (.ref W), some (.ref st), some (.int tail), z10, z11, none, none, none] ∧ Keep d H HM ∧ Feed HM d c t' ∧ t' ≤ t + 15 ∧ HM W = some (.lst (us.map V.int)) ∧ RAt K HM st step ∧ us ≠ [] ∧ us.length ≤ 6 ∧ (∀ x ∈ us, 0 ≤ x) ∧ 0 < us.sum + tail ∧ us.sum + tail ≤ 91 ∧ 0 ≤ tail ∧ (0 ≤ step.1 ∧ step.1 < step.2 ∧ step.2 ≤ 9 ∧ Red step) ∧ (go = false → step = (0, 1)) ∧ ((step = (0, 1) ∧ tail = 0) ∨ lastW us * step.1 = (step.2 - step.1) * tail), ?_, ?_⟩
    · refine ⟨_, rfl, go, rfl, ite2 (fun cg => ?_) (fun cg => ?_)⟩
      · have hw9 := hw'9 cg
        refine ⟨_, rfl, d, c, 8, t4, rfl, f6, by omega, by decide, by decide, fun r5 H7 r50 r51 k7 f7 => ?_⟩
        refine ⟨2, r5, rfl, rfl, ?_⟩
        refine ⟨_, rfl, d, c, 2, t4 + 1, rfl, f7, by omega, by decide, by decide, fun r6 H8 r60 r61 k8 f8 => ?_⟩
        refine ⟨1, r6, rfl, rfl, ?_⟩
        refine ⟨_, _, rfl, ?_⟩
        refine ⟨_, rfl, _, rfl, _, 1, rfl, rfl, ?_⟩
        refine tnil_go ?_
        refine ⟨d, c, 2 + r5 - 1, t4 + 1 + 1, rfl, f8, by omega, by omega, by omega, fun r7 H9 r70 r71 k9 f9 => ?_⟩
        refine ⟨1, r7, rfl, rfl, ?_⟩
        refine ⟨_, rfl, ?_⟩
        refine tnil_go ?_
        refine ⟨1 + r7, 2 + r5, rfl, by omega, Sm.mono (n := 8) (by unfold Sm; omega) (by decide), fun s9 ns9 => ?_⟩
        have e9 := same_new (o := HO.tup [.int (ratT (1 + r7) (2 + r5)), .int (ratB (1 + r7) (2 + r5))]) ns9
        obtain ⟨a1, a2, a3, a4⟩ := step_low (t := 1 + r7) (b := 2 + r5) (by omega) (by omega) (by omega)
        obtain ⟨step, est⟩ : ∃ step : RT, step = low2 (1 + r7) (2 + r5) := ⟨_, rfl⟩
        have est1 : ratT (1 + r7) (2 + r5) = step.1 := by rw [est]; rfl
        have est2 : ratB (1 + r7) (2 + r5) = step.2 := by rw [est]; rfl
        rw [← est] at a1 a2 a3 a4
        rw [est1, est2] at e9 ⊢
        have hst9 : RAt K (upd H9 s9 (HO.tup [.int step.1, .int step.2])) s9 step := SqT.of upd_same
        have hW9 : upd H9 s9 (HO.tup [.int step.1, .int step.2]) W = some (.lst (ws.map V.int)) := e9 _ _ (keep_at f8 k9 (keep_at f7 k8 (keep_at f6 k7 hW6 (fun _ z => nomatch z)) (fun _ z => nomatch z)) (fun _ z => nomatch z))
        have K9 : Keep d H (upd H9 s9 (HO.tup [.int step.1, .int step.2])) := K6.trans (k7.trans (k8.trans (k9.trans (Keep.of_same e9))))
        have f9' := f9.same e9
        have hWd := f9'.ne hW9 (fun _ z => nomatch z)
        have hWc : W ≠ c := by
          have := f3.nc nW
          exact this
        generalize upd H9 s9 (HO.tup [.int step.1, .int step.2]) = H10 at *
        have smd : Sm 8 (step.2 - step.1) := by unfold Sm; omega
        have smm : Sm 8 (1 + r6) := by unfold Sm; omega
        have sm1 : Sm 8 step.1 := by unfold Sm; omega
        refine ⟨_, rfl, s9, _, 1, _, rfl, rfl, hst9, atI_nat (j := 1) rfl, _, rfl, s9, _, 0, _, rfl, rfl, hst9, atI_nat (j := 0) rfl, step.2, step.1, rfl, rfl, _, rfl, _, _, rfl, rfl, smd.cmul smm (by decide) (by decide) (by decide), ?_⟩
        have hlp := List.length_pos_iff.mpr hne
        refine ⟨_, rfl, 1, rfl, W, _, _, ws.length - 1, rfl, rfl, hW9, by rw [List.length_map]; exact ixN_last hlp, ?_⟩
        have tkW : Tk K H10 (upd H10 W (.lst ((ws.map V.int).set (ws.length - 1) (.int ((step.2 - step.1) * (1 + r6)))))) := tk_lst hW9
        have hst11 := hst9.tk tkW
        refine ⟨_, rfl, s9, _, 0, _, rfl, rfl, hst11, atI_nat (j := 0) rfl, _, rfl, step.1, _, rfl, rfl, sm1.cmul smm (by decide) (by decide) (by decide), ?_⟩
        have hl := last_get hne
        have hsum := sum_setL hl ((step.2 - step.1) * (1 + r6))
        have hlast0 : 0 ≤ lastW ws := hw0 _ (List.mem_of_getElem? hl)
        have hx2 : 0 < (step.2 - step.1) * (1 + r6) ∧ (step.2 - step.1) * (1 + r6) + step.1 * (1 + r6) ≤ 18 ∧ 0 ≤ step.1 * (1 + r6) := by
          rcases (by omega : r6 = 0 ∨ r6 = 1) with rfl | rfl <;> refine ⟨?_, ?_, ?_⟩ <;> omega
        have hlle : lastW ws ≤ ws.sum := by
          have nn : ∀ us : List Int, (∀ x ∈ us, 0 ≤ x) → 0 ≤ us.sum := fun us => by
            induction us with
            | nil => intro _; decide
            | cons x r ih =>
              intro h
              have h1 := h x (List.mem_cons_self ..)
              have h2 := ih fun y hy => h y (List.mem_cons_of_mem _ hy)
              rw [List.sum_cons]
              omega
          have h1 := sum_setL hl 0
          have h2 := nn (ws.set (ws.length - 1) 0) fun x hx => by
            rcases List.mem_or_eq_of_mem_set hx with u | u
            · exact hw0 x u
            · omega
          omega
        refine ⟨s9, ws.set (ws.length - 1) ((step.2 - step.1) * (1 + r6)), step.1 * (1 + r6), t4 + 1 + 1 + 1, step, _, _, rfl, K9.wr nWH, f9'.wr hWd hWc, by omega, ?_, hst11, ?_, by rw [List.length_set]; exact hwl, fun x hx => ?_, ?_, ?_, hx2.2.2, ⟨by omega, a2, a3, a4⟩, fun z => ?_, .inr ?_⟩
        · rw [upd_same, List.map_set]
        · exact map_last hne _
        · rcases List.mem_or_eq_of_mem_set hx with u | u
          · exact hw0 x u
          · omega
        · rw [hsum]
          omega
        · rw [hsum]
          omega
        · rw [z] at cg
          cases cg
        · rw [last_set hne, Int.mul_assoc, Int.mul_comm (1 + r6)]
      · have hgf : go = false := by simpa using cg
        exact ⟨s0, ws, 0, t4, (0, 1), none, none, rfl, K6, f6, by omega, hW6, hs6, hne, hwl, hw0, by omega, by omega, by decide, ⟨by decide, by decide, by decide, nought_red⟩, fun _ => rfl, .inl ⟨rfl, rfl⟩⟩
    clear K6 f6 hW6 hs6 hws hwm hw0 hwl hne hW
    rintro σ HM ⟨st, us, tail, t5, step, z10, z11, rfl, kM, fM, ht5, hWM, hst, hne, hul, hu0, hT0, hT91, htl, hstep, hgst, hlst⟩
    refine ⟨_, rfl, W, _, rfl, SqL.of hWM, ?_⟩
    refine ⟨_, rfl, _, _, rfl, rfl, ?_⟩
    refine ⟨fun σ HN => ∃ (T t' : Int), σ = [some (.ref d), some (.int fu), some (.int bo), some (.int r1), some (.int gap), some (.int wd), some (.bl go), some (.ref W), some (.ref st), some (.int tail), z10, z11, some (.int T), none, none] ∧ Keep d H HN ∧ Feed HN d c t' ∧ t' ≤ t + 16 ∧ HN W = some (.lst (us.map V.int)) ∧ RAt K HN st step ∧ 0 < T ∧ T ≤ 99 ∧ us.sum + tail ≤ T ∧ (fu ≠ 0 → us.sum + tail = T), ?_, ?_⟩
    · refine ⟨_, rfl, rfl, _, rfl, ite2 (fun cf => ?_) (fun cf => ?_)⟩
      · refine ⟨_, rfl, ?_⟩
        refine ⟨_, rfl, 99, _, rfl, rfl, by show 4 ≤ sizeLine; decide, fun l3 n3 => ?_⟩
        have e7 := same_new (o := HO.lst [V.int 0, V.int 1, V.int 7, V.int (99 - (us.sum + tail))]) n3
        refine ⟨_, rfl, d, c, 4, t5, rfl, fM.same e7, by omega, by decide, by decide, fun r8 H8 r80 r81 k8 f8 => ?_⟩
        obtain ⟨ex, eex, hex0, hex9⟩ := pickM r80 r81 hT91
        refine ⟨l3, _, _, _, rfl, rfl, SqL.of (keep_at (fM.same e7) k8 upd_same (fun _ z => nomatch z)), eex, _, _, rfl, rfl, ?_⟩
        have hf0 : fu = 0 := V.int.inj (of_decide_eq_true cf)
        exact ⟨_, t5 + 1, rfl, kM.trans (keep_new n3 k8), f8, by omega, keep_at (fM.same e7) k8 (e7 _ _ hWM) (fun _ z => nomatch z), hst.tk ((Tk.same e7).trans (Tk.keep (fM.same e7) k8)), by omega, hex9, by omega, fun z => absurd hf0 z⟩
      · exact ⟨_, t5, rfl, kM, fM, by omega, hWM, hst, hT0, by omega, Int.le_refl _, fun _ => rfl⟩
    clear kM fM ht5 hWM hst
    rintro σ HN ⟨T, t6, rfl, kN, fN, ht6, hWN, hst, hTp, hT99, hle, hfull⟩
    refine ⟨_, rfl, W, rfl, ⟨_, SqL.of hWN⟩, ?_⟩
    have hcn := cast_ne (Int.ne_of_gt hTp)
    refine lc_mkW (K := K) (walk_list (K := K) (a := W) (xs := us.map V.int)) (fun i => ((getI us i : Int) : Rat) / (T : Rat)) (by rw [List.length_map]; omega) (fun HE sE => SqL.of (sE _ _ hWN)) (fun i v HE HE' R hi sE hY qr => ?_) (fun l8 H8 s8 hl8 => ?_)
    · obtain ⟨rfl, hv⟩ := hY
      rw [List.length_map] at hi
      rw [List.getElem?_map, getI_at hi] at hv
      cases Option.some.inj hv
      refine ⟨rfl, _, rfl, _, rfl, ?_⟩
      refine tnil_go ?_
      exact low_go (K := K) hTp (Sm.mono (n := 8) (by unfold Sm; omega) (by decide)) (by grind) qr
    rw [List.length_map] at hl8
    obtain ⟨as, p1, p2⟩ := hl8
    refine tnil_go ?_
    refine ⟨l8, _, rfl, .inl ⟨SqL.of p1, fun rw0 nrw0 => ?_⟩⟩
    have e9 := same_new (o := HO.tup (as.map V.ref)) nrw0
    have hrow := RowAt.of_ls p1 p2 nrw0
    have D0 : DL fu bo 99 (mkL us.length fun i => ((getI us i : Int) : Rat) / (T : Rat)) step := DL.of hne hul hu0 hTp hT99 hle hfull htl hstep (fun z => hgst (by
      match go, hgo with
      | true, h => exact absurd (h rfl).1 z
      | false, _ => rfl)) hlst
    have hrne : (mkL us.length fun i => ((getI us i : Int) : Rat) / (T : Rat)) ≠ [] := fun z => by
      have := congrArg List.length z
      rw [mkL_len] at this
      exact hne (List.length_eq_zero_iff.mp this)
    have S9 := s8.trans e9
    have K9 := kN.trans (Keep.of_same S9)
    have f9 := fN.same S9
    have hst9 := hst.tk (Tk.same S9)
    have h3st : 3 ≤ r1 → step = (0, 1) := fun z => hgst (by
      match go, hgo with
      | true, h => exact absurd (h rfl).2 (by omega)
      | false, _ => rfl)
    generalize (mkL us.length fun i => ((getI us i : Int) : Rat) / (T : Rat)) = row at *
    generalize upd H8 rw0 (HO.tup (as.map V.ref)) = H9 at *
    refine ⟨fun σ HQ => ∃ (rw1 : Addr) (row1 : List RT), σ = [some (.ref d), some (.int fu), some (.int bo), some (.int r1), some (.int gap), some (.int wd), some (.bl go), some (.ref W), some (.ref st), some (.int tail), z10, z11, some (.int T), some (.ref rw1), none] ∧ Same H9 HQ ∧ RowAt K HQ rw1 row1 ∧ DL fu bo 900 row1 step ∧ row1 ≠ [], ?_, ?_⟩
    · have keep3 : ∃ (rw1 : Addr) (row1 : List RT), [some (V.ref d), some (.int fu), some (.int bo), some (.int r1), some (.int gap), some (.int wd), some (.bl go), some (.ref W), some (.ref st), some (.int tail), z10, z11, some (.int T), some (.ref rw0), none] = [some (.ref d), some (.int fu), some (.int bo), some (.int r1), some (.int gap), some (.int wd), some (.bl go), some (.ref W), some (.ref st), some (.int tail), z10, z11, some (.int T), some (.ref rw1), none] ∧ Same H9 H9 ∧ RowAt K H9 rw1 row1 ∧ DL fu bo 900 row1 step ∧ row1 ≠ [] := ⟨rw0, row, rfl, Same.refl _, hrow, D0.mono (by decide), hrne⟩
      refine ⟨_, rfl, rfl, _, rfl, ite2 (fun c1 => ?_) (fun c1 => iteF keep3)⟩
      refine ⟨_, rfl, go, rfl, ite2 (fun c2 => ?_) (fun c2 => iteF keep3)⟩
      obtain ⟨rs, hr1, hr2⟩ := id hrow
      have hrl := hr2.length
      refine ⟨_, rfl, rw0, _, rfl, .inr hr1, _, _, rfl, rfl, _, rfl, ite2 (fun c3 => ?_) (fun c3 => iteF keep3)⟩
      have hl6 : row.length < 6 := by
        have z : (((rs.map V.ref).length : Nat) : Int) < 6 := of_decide_eq_true c3
        rw [List.length_map, hrl] at z
        omega
      obtain ⟨ys, y, rfl⟩ := (snoc_cases row).resolve_left hrne
      obtain ⟨ry, ery, hry⟩ := row_last hr2
      have hym : y ∈ ys ++ [y] := List.mem_append_right _ (List.mem_singleton.mpr rfl)
      obtain ⟨W0, w1, w2, w3⟩ := D0.w
      have yr := D0.red y hym
      have hy99 : y.2 ≤ 99 := by
        have := Int.le_of_dvd w1 (w3 y hym)
        omega
      have hy1 : 0 ≤ y.1 ∧ y.1 ≤ y.2 := red_01 yr (D0.q y hym)
      have smy2 : Sm 8 y.2 := by unfold Sm; have := yr.1; omega
      have smy1 : Sm 8 y.1 := by unfold Sm; have := yr.1; omega
      have sms2 : Sm 8 step.2 := by unfold Sm; omega
      have sms1 : Sm 8 step.1 := by unfold Sm; omega
      refine ⟨_, rfl, 1, rfl, rw0, _, _, _, rfl, rfl, hr1, ery, ry, _, 1, _, rfl, rfl, hry, atI_nat (j := 1) rfl, _, rfl, st, _, 1, _, rfl, rfl, hst9, atI_nat (j := 1) rfl, _, _, rfl, rfl, smy2.cmul sms2 (by decide) (by decide) (by decide), _, _, rfl, rfl, _, rfl, ite2 (fun c4 => ?_) (fun c4 => keep3)⟩
      refine ⟨_, rfl, ?_⟩
      refine ⟨_, rfl, 1, rfl, rw0, _, _, _, rfl, rfl, hr1, ery, ry, _, 0, _, rfl, rfl, hry, atI_nat (j := 0) rfl, _, rfl, st, _, 0, _, rfl, rfl, hst9, atI_nat (j := 0) rfl, _, _, rfl, rfl, smy1.cmul sms1 (by decide) (by decide) (by decide), ?_⟩
      refine ⟨_, rfl, 1, rfl, rw0, _, _, _, rfl, rfl, hr1, ery, ry, _, 1, _, rfl, rfl, hry, atI_nat (j := 1) rfl, _, rfl, st, _, 1, _, rfl, rfl, hst9, atI_nat (j := 1) rfl, _, _, rfl, rfl, smy2.cmul sms2 (by decide) (by decide) (by decide), ?_⟩
      refine tnil_go ?_
      refine ⟨y.1 * step.1, y.2 * step.2, rfl, Int.mul_pos yr.1 hstep.2.2.2.1, (smy2.mul sms2).mono (by decide), fun pl npl => ?_⟩
      have e10 := same_new (o := HO.tup [.int (ratT (y.1 * step.1) (y.2 * step.2)), .int (ratB (y.1 * step.1) (y.2 * step.2))]) npl
      refine tnil_go ?_
      refine ⟨by show 1 ≤ sizeLine; decide, fun tp ntp => ?_⟩
      have e11 := same_new (o := HO.tup [V.ref pl]) ntp
      have S11 := e10.trans e11
      refine cat_row (hrow.tk (Tk.same S11)) (ys := [low2 (y.1 * step.1) (y.2 * step.2)]) ⟨[pl], SqT.of upd_same, .cons (SqT.of (e11 _ _ upd_same)) .nil⟩ (by show _ + 1 ≤ 1000; omega) fun z H12 s12 hz => ?_
      exact ⟨z, _, rfl, S11.trans s12, hz, D0.longer hl6, fun u => by simp at u⟩
    clear hrow D0 hrne
    rintro σ HQ ⟨rw1, row1, rfl, sQ, hrow1, D1, hrne1⟩
    have KQ := K9.trans (Keep.of_same sQ)
    have fQ' := f9.same sQ
    have hstQ := hst9.tk (Tk.same sQ)
    clear K9 f9 hst9 sQ
    refine ⟨fun σ HR => ∃ (rw2 : Addr) (row2 : List RT) (t' : Int), σ = [some (.ref d), some (.int fu), some (.int bo), some (.int r1), some (.int gap), some (.int wd), some (.bl go), some (.ref W), some (.ref st), some (.int tail), z10, z11, some (.int T), some (.ref rw2), none] ∧ Keep d H HR ∧ Feed HR d c t' ∧ t' ≤ t + 17 ∧ RowAt K HR rw2 row2 ∧ RAt K HR st step ∧ DL fu bo 900 row2 step ∧ row2 ≠ [], ?_, ?_⟩
    · obtain ⟨rs, hr1, hr2⟩ := id hrow1
      have hrl := hr2.length
      refine ⟨_, rfl, rfl, _, rfl, ite2 (fun c1 => ?_) (fun c1 => iteF ⟨rw1, row1, t6, rfl, KQ, fQ', by omega, hrow1, hstQ, D1, hrne1⟩)⟩
      refine ⟨_, rfl, rw1, _, rfl, .inr hr1, _, _, rfl, rfl, _, rfl, ite2 (fun c3 => ?_) (fun c3 => ⟨rw1, row1, t6, rfl, KQ, fQ', by omega, hrow1, hstQ, D1, hrne1⟩)⟩
      have hl6 : row1.length < 6 := by
        have z : (((rs.map V.ref).length : Nat) : Int) < 6 := of_decide_eq_true c3
        rw [List.length_map, hrl] at z
        omega
      have hr3 : r1 = 3 := V.int.inj (of_decide_eq_true c1)
      have est : step = (0, 1) := h3st (by omega)
      refine ⟨_, rfl, ?_⟩
      refine ⟨by show 2 ≤ sizeLine; decide, fun z1 nz1 => ?_⟩
      have e10 := same_new (o := HO.tup [V.int 0, V.int 1]) nz1
      refine ⟨by show 1 ≤ sizeLine; decide, fun z2 nz2 => ?_⟩
      have e11 := same_new (o := HO.tup [V.ref z1]) nz2
      have S11 := e10.trans e11
      refine ⟨_, rfl, _, rfl, rw1, _, rfl, .inr (sqT_same S11 hr1), 6, _, rfl, rfl, ?_⟩
      rw [List.length_map, hrl]
      refine tnil_go ?_
      refine ⟨d, c, 6 - (row1.length : Int), t6, rfl, fQ'.same S11, by omega, by omega, by omega, fun r9 H12 r90 r91 k12 f12 => ?_⟩
      refine ⟨1, r9, rfl, rfl, ?_⟩
      obtain ⟨n, hn⟩ : ∃ n : Nat, 1 + r9 = (n : Int) := ⟨(1 + r9).toNat, by omega⟩
      have tk12 : Tk K HQ H12 := (Tk.same S11).trans (Tk.keep (fQ'.same S11) k12)
      have tk2 : Tk K (upd (upd HQ z1 (HO.tup [V.int 0, V.int 1])) z2 (HO.tup [V.ref z1])) H12 := Tk.keep (fQ'.same S11) k12
      show rRepA K (.ref z2) (.int (1 + r9)) H12 _
      rw [hn]
      refine rep_row (x := (0, 1)) (tk2 _ _ (SqT.of upd_same)) (tk2 _ _ (SqT.of (e11 _ _ upd_same))) (by omega) fun c3 H13 s13 h3 => ?_
      refine cat_row ((hrow1.tk tk12).tk (Tk.same s13)) h3 (by rw [List.length_replicate]; omega) fun c4 H14 s14 h4 => ?_
      have S14 := s13.trans s14
      refine ⟨c4, _, t6 + 1, rfl, KQ.trans ((Keep.of_same S11).trans (k12.trans (Keep.of_same S14))), f12.same S14, by omega, h4, hstQ.tk (tk12.trans (Tk.same S14)), ?_, fun u => hrne1 (List.append_eq_nil_iff.mp u).1⟩
      rw [est] at D1 ⊢
      exact D1.noughts (by omega) hrne1
    clear hrow1 D1 hrne1 KQ fQ' hstQ
    rintro σ HR ⟨rw2, row2, t7, rfl, KR, fR, ht7, hrow2, hstR, D2, hrne2⟩
    refine ⟨fun σ HS => ∃ (rw3 st3 : Addr) (row3 : List RT) (step3 : RT) (t' : Int), σ = [some (.ref d), some (.int fu), some (.int bo), some (.int r1), some (.int gap), some (.int wd), some (.bl go), some (.ref W), some (.ref st3), some (.int tail), z10, z11, some (.int T), some (.ref rw3), none] ∧ Keep d H HS ∧ Feed HS d c t' ∧ t' ≤ t + 18 ∧ RowAt K HS rw3 row3 ∧ RAt K HS st3 step3 ∧ DL fu bo 900 row3 step3, ?_, ?_⟩
    · obtain ⟨rs, hr1, hr2⟩ := id hrow2
      have hrl := hr2.length
      have keep5 : ∃ (rw3 st3 : Addr) (row3 : List RT) (step3 : RT) (t' : Int), [some (V.ref d), some (.int fu), some (.int bo), some (.int r1), some (.int gap), some (.int wd), some (.bl go), some (.ref W), some (.ref st), some (.int tail), z10, z11, some (.int T), some (.ref rw2), none] = [some (.ref d), some (.int fu), some (.int bo), some (.int r1), some (.int gap), some (.int wd), some (.bl go), some (.ref W), some (.ref st3), some (.int tail), z10, z11, some (.int T), some (.ref rw3), none] ∧ Keep d H HR ∧ Feed HR d c t' ∧ t' ≤ t + 18 ∧ RowAt K HR rw3 row3 ∧ RAt K HR st3 step3 ∧ DL fu bo 900 row3 step3 := ⟨rw2, st, row2, step, t7, rfl, KR, fR, by omega, hrow2, hstR, D2⟩
      refine ⟨_, rfl, rfl, _, rfl, ite2 (fun c1 => ?_) (fun c1 => iteF keep5)⟩
      refine ⟨_, rfl, rfl, _, rfl, ite2 (fun c2 => ?_) (fun c2 => iteF keep5)⟩
      refine ⟨_, rfl, rw2, _, rfl, .inr hr1, _, _, rfl, rfl, _, rfl, ite2 (fun c3 => ?_) (fun c3 => keep5)⟩
      have hl6 : row2.length < 6 := by
        have z : (((rs.map V.ref).length : Nat) : Int) < 6 := of_decide_eq_true c3
        rw [List.length_map, hrl] at z
        omega
      have hr4 : r1 = 4 := V.int.inj (of_decide_eq_true c1)
      have hb0 : bo = 0 := V.int.inj (of_decide_eq_true c2)
      have est : step = (0, 1) := h3st (by omega)
      refine ⟨_, rfl, ?_⟩
      refine ⟨by show 2 ≤ sizeLine; decide, fun z1 nz1 => ?_⟩
      have e10 := same_new (o := HO.tup [V.int 0, V.int 1]) nz1
      refine ⟨by show 1 ≤ sizeLine; decide, fun z2 nz2 => ?_⟩
      have e11 := same_new (o := HO.tup [V.ref z1]) nz2
      have S11 := e10.trans e11
      refine cat_row (hrow2.tk (Tk.same S11)) (ys := [(0, 1)]) ⟨[z1], SqT.of upd_same, .cons (SqT.of (e11 _ _ upd_same)) .nil⟩ (by show _ + 1 ≤ 1000; omega) fun c4 H12 s12 h4 => ?_
      have S12 := S11.trans s12
      refine ⟨_, rfl, d, c, 8, t7, rfl, fR.same S12, by omega, by decide, by decide, fun r9 H13 r90 r91 k13 f13 => ?_⟩
      refine ⟨2, r9, rfl, rfl, ?_⟩
      refine tnil_go ?_
      refine ⟨by show 2 ≤ sizeLine; decide, fun z3 nz3 => ?_⟩
      have e14 := same_new (o := HO.tup [V.int 1, V.int (2 + r9)]) nz3
      refine tnil_go ?_
      refine ⟨_, _, rfl, c4, z3, _, (1, 2 + r9), t7 + 1, rfl, KR.trans ((Keep.of_same S12).trans (k13.trans (Keep.of_same e14))), f13.same e14, by omega, h4.tk ((Tk.keep (fR.same S12) k13).trans (Tk.same e14)), SqT.of upd_same, ?_⟩
      rw [est] at D2
      rw [hb0] at D2 ⊢
      exact D2.nought_step hl6 hrne2 (by omega) (by omega)
    clear hrow2 D2 hrne2 KR fR hstR
    rintro σ HS ⟨rw3, st3, row3, step3, t8, rfl, KS, fS, ht8, hrow3, hst3, D3⟩
    have fin : ∀ HT t9, Keep d H HT → Feed HT d c t9 → t9 ≤ t + 19 → Tk K HS HT → tRet (tTup (tCons (tVar 13) (tCons (tVar 8) tNil))) { nx := fun _ H' => Q V.non H', rt := Q } [some (V.ref d), some (V.int fu), some (V.int bo), some (V.int r1), some (V.int gap), some (V.int wd), some (V.bl go), some (V.ref W), some (V.ref st3), some (V.int tail), z10, z11, some (V.int T), some (V.ref rw3), none] HT := fun HT t9 kT fT ht9 tkT => by
      refine ⟨_, rfl, _, rfl, by show 2 ≤ sizeLine; decide, fun z nz => ?_⟩
      have e10 := same_new (o := HO.tup [V.ref rw3, V.ref st3]) nz
      exact q z row3 step3 t9 _ (kT.trans (Keep.of_same e10)) (fT.same e10) (by omega) D3 ⟨rw3, st3, SqT.of upd_same, hrow3.tk (tkT.trans (Tk.same e10)), hst3.tk (tkT.trans (Tk.same e10))⟩
    refine ⟨_, rfl, rfl, _, rfl, ite2 (fun c1 => ?_) (fun c1 => iteF (fin HS t8 KS fS (by omega) Tk.refl))⟩
    refine ⟨_, rfl, rfl, _, rfl, ite2 (fun c2 => ?_) (fun c2 => iteF (fin HS t8 KS fS (by omega) Tk.refl))⟩
    refine ⟨_, rfl, d, c, 2, t8, rfl, fS, by omega, by decide, by decide, fun r9 HT r90 r91 k9 f9 => ?_⟩
    refine ⟨rfl, _, rfl, ite2 (fun c3 => ?_) (fun c3 => fin HT (t8 + 1) (KS.trans k9) f9 (by omega) (Tk.keep fS k9))⟩
    have hf0 : fu = 0 := V.int.inj (of_decide_eq_true c2)
    refine ⟨by show 0 ≤ sizeLine; decide, fun z1 nz1 => ?_⟩
    have e10 := same_new (o := HO.tup []) nz1
    refine ⟨by show 2 ≤ sizeLine; decide, fun z2 nz2 => ?_⟩
    have e11 := same_new (o := HO.tup [V.int 0, V.int 1]) nz2
    refine ⟨by show 2 ≤ sizeLine; decide, fun z3 nz3 => ?_⟩
    have e12 := same_new (o := HO.tup [V.ref z1, V.ref z2]) nz3
    have S12 := e10.trans (e11.trans e12)
    refine q z3 [] (0, 1) (t8 + 1) _ (KS.trans (k9.trans (Keep.of_same S12))) (f9.same S12) (by omega) ?_ ⟨z1, z2, SqT.of upd_same, ⟨[], SqT.of ((e11.trans e12) _ _ upd_same), .nil⟩, SqT.of (e12 _ _ upd_same)⟩
    refine ⟨Nat.zero_le _, ⟨by decide, by decide, by decide, nought_red⟩, ⟨1, by decide, by decide, fun y hy => by simp at hy⟩, fun y hy => by simp at hy, fun y hy => by simp at hy, ?_, fun z => absurd hf0 z, fun _ => rfl, fun _ => rfl, fun _ => ⟨1, by decide, by decide, fun y hy => by simp at hy⟩⟩
    show (0 : Rat) + 0 ≤ 1
    decide +kernel
end

end Fp

set_option Elab.async false
set_option linter.all false
set_option maxRecDepth 100000
set_option maxHeartbeats 4000000
set_option exponentiation.threshold 10000
namespace Fp
open PySem PySem.Spec PyProof.Rows L2
/-! ### enumerate(xs) of a tuple -/
theorem enum1_meets {y : Value} {ob : Obj} {Hh : Heap → Prop} (B : Begins y ob Hh) :
    Meets (Builtin.«enumerate.__new__» ⟨[.type "enumerate", y], []⟩) (fun _ R0 st => Hh st.heap ∧
      R0 (.ok (.ret (.ref (st.heap.push ob).objs.size))) { st with heap := (st.heap.push ob).push { cls := .type "enumerate", data := .fields #[.none, .bool false, .ref st.heap.objs.size, rawInt 0, .none, .none] } }) :=
  .of_wp fun pr wo Ar Rr st hst => by
    obtain ⟨hh, gg, dd, kk, oo⟩ := st
    obtain ⟨b1, b2⟩ := hst
    have subE := sub_enumerate
    have goes : ∀ {A2 : Around} {E2 : Value → Shared → Prop} {Q2 : Value → Shared → Prop}, Q2 (.ref hh.objs.size) ⟨hh.push ob, gg, dd, kk, oo⟩ → wpAny (model pr wo) A2 (pyIter y) Q2 E2 ⟨hh, gg, dd, kk, oo⟩ :=
      fun q2 => B.iter pr wo _ _ ⟨hh, gg, dd, kk, oo⟩ _ b1 q2
    wp_walk using goes
    refine wpAny_stack_any fun sk => wpAny_pure ?_
    split
    · rename_i cc _ _ _ _ _
      cases (cc == Value.type "enumerate")
      · wp_walk using goes
        exact ⟨_, rfl, b2⟩
      · wp_walk using goes
        exact ⟨_, rfl, b2⟩
    · wp_walk using goes
      exact ⟨_, rfl, b2⟩
theorem enum1_begins {prog : Program} {w : World} {A : Around} {F0 : Value → Shared → Prop} {st : Shared} {y : Value} {ob : Obj} {Hh : Heap → Prop} {Q0 : Value → Shared → Prop} (B : Begins y ob Hh) (b1 : Hh st.heap)
    (go : ∀ h2, IsEnum h2 (st.heap.objs.size + 1) st.heap.objs.size 0 .none → h2.get? st.heap.objs.size = some ob → (∀ b o, st.heap.get? b = some o → h2.get? b = some o) → Q0 (.ref (st.heap.objs.size + 1)) { st with heap := h2 }) :
    wpAny (model prog w) A (call (.type "enumerate") [y]) Q0 F0 st := by
  refine callType_new F.called_enumerate (by decide) (F.typeCall_enumerate_1 _) (F.newCall_enumerate_1 _) (fun z => F.args_object_init_2 z _) F.entry_enumerate_new (enum1_meets B) ⟨b1, ?_⟩
  have sz : (st.heap.push ob).objs.size = st.heap.objs.size + 1 := Heap.size_push ..
  show _ ∧ _
  rw [sz]
  have is : IsEnum ((st.heap.push ob).push { cls := .type "enumerate", data := .fields #[.none, .bool false, .ref st.heap.objs.size, rawInt 0, .none, .none] }) (st.heap.objs.size + 1) st.heap.objs.size 0 .none := by
    have z := Heap.get?_push_size (st.heap.push ob) (o := { cls := .type "enumerate", data := .fields #[.none, .bool false, .ref st.heap.objs.size, rawInt 0, .none, .none] }) rfl
    rw [sz] at z
    exact z
  exact ⟨⟨_, is, rfl⟩, go _ is (Heap.get?_push_of_some _ (Heap.get?_push_size _ B.free)) fun b o x => Heap.get?_push_of_some _ (Heap.get?_push_of_some _ x)⟩
theorem pi_eT {X : Cx} {e : Expr} {ta : TA} {p pos tpos : Pos} {elts : List Expr} {kk : Nat} (hg : Gl X "enumerate") (hm : X.mg "enumerate" = none) (ha : PA X [e] ta) (hs : starEach [e] X.env = [(false, eval e X.env)] := by rfl) :
    PI X (.Tuple elts kk tpos) (.Call (.Name "enumerate" p) [e] [] pos) (iQT X.K 0 ta) := by
  refine ⟨fun pn s sl H R I h => Call_ (ld_blt I hg hm boot_enumerate (PyProof.Rows.callWith_type1 (thn (ha.run pos pn s sl H _ I h) fun us s2 z2 => ?_) hs rfl))⟩
  obtain ⟨vs, H2, I2, r1, a, xs, rfl, sq, q⟩ := z2
  cases r1 with
  | cons ra rn =>
    cases rn
    cases ra
    obtain ⟨us, rv, po, _⟩ := I2.tuple sq
    have oa : s2.heap.IsTuple a us.toArray := po
    refine enum1_begins (begins_tuple a us.toArray) oa fun h2 ee oi kp2 => wpAny_pyIter_enum ee ?_
    have I3 : Inv X pn sl H2 { s2 with heap := h2 } := I2.kept (t' := s2.toks) kp2
    refine ⟨s2.heap.objs.size + 1, [s2.heap.objs.size + 1, s2.heap.objs.size], _, _, H2, rfl, I3, turn_qT 0 a (s2.heap.objs.size + 1) s2.heap.objs.size, ⟨⟨.none, ?_⟩, ⟨_, oi, rfl, rfl⟩, Nat.succ_ne_self _⟩, fun b hb => ?_, q⟩
    · rw [show (0 : Int) + ((0 : Nat) : Int) = 0 by omega]
      exact ee
    · have lb : s2.heap.objs.size ≤ b := by
        rcases (show b = s2.heap.objs.size + 1 ∨ b = s2.heap.objs.size by simpa using hb) with z | z
        · rw [z]
          exact Nat.le_add_right _ _
        · rw [z]
          exact Nat.le_refl _
      exact I2.fpOk lb (I2.hok.fresh lb)

end Fp

set_option Elab.async false
set_option linter.all false
set_option maxRecDepth 100000
set_option maxHeartbeats 4000000
set_option exponentiation.threshold 10000
namespace Fp
open PySem PySem.Spec PyProof.Rows L2
/-! ### the law's own round -/
section
variable {K : PySem.W.Frag}
theorem lc_filtW {J : It} {n : Nat} {G : Hp → Prop} {Y : Nat → Hp → V → Hp → Prop} (w : Walk J n G Y) {g : TG} {tt : TT} {te : TE} {vs : List Nat} {σ : L2.St} {H1 : Hp} (f : Nat → Int) (b : Nat → Bool) (hn : n ≤ 900) (hG : ∀ HE, Same H1 HE → G HE)
    (hs : ∀ (k : Nat) (x : V) (HE HE' : Hp) (R : VK) (N : Hp → Prop), k < n → Same H1 HE → Y k HE x HE' → (b k = true → ∀ HF, Same HE HF → R (.int (f k)) HF) → (b k = false → ∀ HF, Same HE HF → N HF) → g x (wipe σ vs) HE' fun σ2 H2 => wipe σ2 vs = wipe σ vs ∧ tt σ2 H2 fun bb H3 => if bb = true then te σ2 H3 R else N H3)
    {Qd : Addr → Hp → Prop} (hd : ∀ D H2, Same H1 H2 → H2 D = some (.lst ((((List.range n).filter b).map f).map V.int)) → Qd D H2) : tLc (fun _ H2 R => R J H2) g tt te vs σ H1 (refQ Qd) := by
  intro D nD
  have e1 := same_new (o := HO.lst []) nD
  refine lc_it w (fun k HE => Same H1 HE ∧ HE D = some (.lst ((((List.range k).filter b).map f).map V.int))) ⟨e1, upd_same⟩ ?_ ?_ ?_
  · rintro i HE _ ⟨sE, _⟩
    exact hG HE sE
  · rintro k x HE HE' hk ⟨sE, hE⟩ hY
    have hfl : ((List.range k).filter b).length ≤ k := by
      have := List.length_filter_le b (List.range k)
      rw [List.length_range] at this
      exact this
    refine hs k x HE HE' _ _ hk sE hY (fun hb HF sF => ?_) (fun hb HF sF => ?_)
    · have hE5 := sF _ _ hE
      refine ⟨_, hE5, by rw [List.length_map, List.length_map]; exact small1000 (by omega), ?_, ?_⟩
      · intro b2 o hb2
        rw [upd_ne (ne_of_none hb2 nD)]
        exact (sE.trans sF) _ _ hb2
      · rw [upd_same, List.range_succ, List.filter_append, List.map_append, List.map_append]
        simp [hb]
    · refine ⟨sE.trans sF, ?_⟩
      rw [List.range_succ, List.filter_append]
      simp only [List.filter_cons, hb, List.filter_nil]
      rw [show ((List.range k).filter b ++ if false = true then [k] else []) = (List.range k).filter b by simp]
      exact sF _ _ hE
  · rintro HE ⟨sE, hE⟩
    exact hd D HE sE hE
end
theorem gR_dvd (a : Nat → Rat) : ∀ n i, i < n → a i ≠ 0 → gR a n ∣ i + 1
  | 0, i, h, _ => absurd h (Nat.not_lt_zero _)
  | n + 1, i, h, hz => by
    show (if a n = 0 then gR a n else Nat.gcd (gR a n) (n + 1)) ∣ i + 1
    rcases (by omega : i < n ∨ i = n) with z | z
    · have ih := gR_dvd a n i z hz
      split
      · exact ih
      · exact Nat.dvd_trans (Nat.gcd_dvd_left _ _) ih
    · subst z
      rw [if_neg hz]
      exact Nat.gcd_dvd_right _ _
theorem gR_great (a : Nat → Rat) (d : Nat) : ∀ n, (∀ i, i < n → a i ≠ 0 → d ∣ i + 1) → d ∣ gR a n
  | 0, _ => ⟨0, rfl⟩
  | n + 1, h => by
    show d ∣ (if a n = 0 then gR a n else Nat.gcd (gR a n) (n + 1))
    have ih := gR_great a d n fun i hi => h i (by omega)
    split
    · exact ih
    · rename_i z
      exact Nat.dvd_gcd ih (h n (Nat.lt_succ_self n) z)
theorem beh_zero {row : List RT} {step : RT} {W : Int} (M : ML row step W) : (behQ row step = 0 → ∀ i, row.length ≤ i → chR row step i = 0) ∧ (behQ row step ≠ 0 → row ≠ [] ∧ chR row step (row.length - 1) ≠ 0 ∧ chR row step row.length ≠ 0) := by
  rcases snoc_cases row with z | ⟨ys, y, z⟩
  · subst z
    exact ⟨fun _ i _ => chR_nil, fun h => absurd rfl h⟩
  · have hb : behQ row step = qv y * qv step / (1 - qv step) := by rw [z, behQ_snoc]
    have hl : row.getLast? = some y := by rw [z]; simp
    have hne : row ≠ [] := by rw [z]; simp
    have g0 := M.gapQ.2
    refine ⟨fun h i hi => ?_, fun h => ⟨hne, ?_, ?_⟩⟩
    · rw [chR_out hi hl]
      rw [hb] at h
      have h2 : qv y * qv step = 0 := by grind
      obtain ⟨j, hj⟩ : ∃ j, i + 1 - row.length = j + 1 := ⟨i - row.length, by omega⟩
      rw [hj, Rat.pow_succ]
      have : qv y * (qv step ^ j * qv step) = (qv y * qv step) * qv step ^ j := by grind
      rw [this, h2]
      grind
    · have hp := List.length_pos_iff.mpr hne
      have hg : row[row.length - 1]? = some y := by
        rw [z]
        simp
      rw [chR_in hg]
      intro e
      rw [hb, e] at h
      exact h (by grind)
    · rw [chR_out (Nat.le_refl _) hl, show row.length + 1 - row.length = 0 + 1 by omega, Rat.pow_succ, Rat.pow_zero]
      intro e
      apply h
      rw [hb]
      have : qv y * qv step = 0 := by grind
      rw [this]
      grind
/-- what the round is -/
theorem round_is {row : List RT} {step : RT} {W : Int} (M : ML row step W) : (∀ i, i < 19 → chR row step i ≠ 0 → roundN row step ∣ i + 1) ∧ ∀ d, (∀ i, i < 19 → chR row step i ≠ 0 → d ∣ i + 1) → d ∣ roundN row step := by
  obtain ⟨b1, b2⟩ := beh_zero M
  have hl := M.len
  unfold roundN
  by_cases hb : behQ row step = 0
  · rw [if_pos hb]
    refine ⟨fun i hi hz => ?_, fun d h => gR_great _ d _ fun i hi => h i (by omega)⟩
    rcases (by omega : i < row.length ∨ row.length ≤ i) with z | z
    · exact gR_dvd _ _ i z hz
    · exact absurd (b1 hb i z) hz
  · rw [if_neg hb]
    obtain ⟨c1, c2, c3⟩ := b2 hb
    have hp := List.length_pos_iff.mpr c1
    refine ⟨fun i hi hz => ?_, fun d h => Nat.dvd_gcd (gR_great _ d _ fun i hi => h i (by omega)) (h row.length (by omega) c3)⟩
    have d1 : Nat.gcd (gR (chR row step) row.length) (row.length + 1) ∣ row.length := by
      have := gR_dvd (chR row step) row.length (row.length - 1) (by omega) c2
      rw [show row.length - 1 + 1 = row.length by omega] at this
      exact Nat.dvd_trans (Nat.gcd_dvd_left _ _) this
    have d2 : Nat.gcd (gR (chR row step) row.length) (row.length + 1) ∣ row.length + 1 := Nat.gcd_dvd_right _ _
    have d3 : Nat.gcd (gR (chR row step) row.length) (row.length + 1) ∣ 1 := (Nat.dvd_add_iff_right d1).mpr d2
    exact Nat.dvd_trans d3 (Nat.one_dvd _)
section
variable {P : Program} {w : World} {K : PySem.W.Frag} {mg : Str → Option Value} {base : Heap}
def spLround (K : PySem.W.Frag) : Sp := fun vs H Q _ => ∃ (p : Addr) (row : List RT) (step : RT) (W : Int), vs = [.ref p] ∧ LifeAt K H p row step ∧ ML row step W ∧ ∀ H', Same H H' → Q (.int ((roundN row step : Nat) : Int)) H'
end

end Fp

set_option Elab.async false
set_option linter.all false
set_option maxRecDepth 100000
set_option maxHeartbeats 4000000
set_option exponentiation.threshold 10000
namespace Fp
open PySem PySem.Spec PyProof.Rows L2
/-! ### rows multiplied -/
def cv (f g : Nat → Rat) (n : Nat) : Rat := sumTo (n + 1) fun k => f k * g (n - k)
theorem cv_later (a g : Nat → Rat) (n : Nat) : cv (laterF a) g n = sumTo n fun j => a j * g (n - 1 - j) := by
  unfold cv
  rw [sumTo_head]
  have e : (sumTo n fun j => laterF a (j + 1) * g (n - (j + 1))) = sumTo n fun j => a j * g (n - 1 - j) := sumTo_congr fun j _ => by
    rw [show n - (j + 1) = n - 1 - j by omega]
    rfl
  rw [e]
  show (0 : Rat) * _ + _ = _
  grind
theorem ren_cv (a b : Nat → Rat) (n : Nat) : renQ a b n = b n + cv (laterF a) (renQ a b) n := by rw [cv_later, ← renQ_is]
theorem cv_swap (f g h : Nat → Rat) (n : Nat) : cv f (cv g h) n = cv g (cv f h) n := by
  unfold cv
  have e : ∀ f g : Nat → Rat, (sumTo (n + 1) fun k => f k * sumTo (n - k + 1) fun j => g j * h (n - k - j)) = sumTo (n + 1) fun k => sumTo (n + 1 - k) fun j => f k * g j * h (n - k - j) := fun f g => sumTo_congr fun k hk => by
    rw [sumTo_mul, show n - k + 1 = n + 1 - k by omega]
    exact sumTo_congr fun j _ => by grind
  rw [e f g, e g f, tri_swap fun k j => f k * g j * h (n - k - j)]
  refine sumTo_congr fun j _ => sumTo_congr fun k _ => ?_
  rw [show n - k - j = n - j - k by omega]
  grind
theorem cv_add (f g h : Nat → Rat) (n : Nat) : cv f (fun m => g m + h m) n = cv f g n + cv f h n := by
  unfold cv
  rw [← sumTo_add]
  exact sumTo_congr fun k _ => by grind
theorem cv_addL (f g h : Nat → Rat) (n : Nat) : cv (fun m => g m + h m) f n = cv g f n + cv h f n := by
  unfold cv
  rw [← sumTo_add]
  exact sumTo_congr fun k _ => by grind
theorem cv_mul (c : Rat) (f g : Nat → Rat) (n : Nat) : cv f (fun m => c * g m) n = c * cv f g n := by
  unfold cv
  rw [sumTo_mul]
  exact sumTo_congr fun k _ => by grind
theorem cv_mulL (c : Rat) (f g : Nat → Rat) (n : Nat) : cv (fun m => c * f m) g n = c * cv f g n := by
  unfold cv
  rw [sumTo_mul]
  exact sumTo_congr fun k _ => by grind
theorem cv_one (f : Nat → Rat) (n : Nat) : cv f oneAt n = f n := by
  unfold cv
  rw [sumTo_succ, Nat.sub_self]
  have e : (sumTo n fun k => f k * oneAt (n - k)) = sumTo n fun _ => 0 := sumTo_congr fun k hk => by
    rw [show oneAt (n - k) = 0 from if_neg (by omega)]
    grind
  rw [e, sumTo_nought, show oneAt 0 = 1 from rfl]
  grind
theorem cv_congr {f f' g g' : Nat → Rat} (n : Nat) (h1 : ∀ k, k ≤ n → f k = f' k) (h2 : ∀ k, k ≤ n → g k = g' k) : cv f g n = cv f' g' n := by
  unfold cv
  exact sumTo_congr fun k hk => by rw [h1 k (by omega), h2 (n - k) (by omega)]
theorem cv_comm1 (f g : Nat → Rat) (n : Nat) : cv f g n = cv g f n := by
  have e1 : cv f g n = cv f (cv g oneAt) n := cv_congr n (fun _ _ => rfl) fun k _ => (cv_one g k).symm
  have e2 : cv g f n = cv g (cv f oneAt) n := cv_congr n (fun _ _ => rfl) fun k _ => (cv_one f k).symm
  rw [e1, e2, cv_swap]
/-- what keeps to the recursion is what is told anew -/
theorem ren_uniq {a b r : Nat → Rat} (h : ∀ n, r n = b n + sumTo n fun j => a j * r (n - 1 - j)) : ∀ n, renQ a b n = r n := by
  intro n
  induction n using Nat.strongRecOn with
  | ind n ih =>
    rw [renQ_is, h n]
    congr 1
    exact sumTo_congr fun j hj => by rw [ih (n - 1 - j) (by omega)]

end Fp

set_option Elab.async false
set_option linter.all false
set_option maxRecDepth 100000
set_option maxHeartbeats 4000000
set_option exponentiation.threshold 10000
namespace Fp
open PySem PySem.Spec PyProof.Rows L2
theorem trimZ_get : ∀ {n : Nat} {xs : List RT}, xs.length = n → ∀ i : Nat, ((trimZ xs)[i]?).getD (0, 1) = (xs[i]?).getD (0, 1) := by
  intro n
  induction n with
  | zero =>
    intro xs h i
    rw [List.length_eq_zero_iff.mp h]
    rfl
  | succ n ih =>
    intro xs h i
    have hne : xs ≠ [] := fun z => by rw [z] at h; cases h
    have e := List.dropLast_concat_getLast hne
    generalize xs.dropLast = ys at e
    generalize xs.getLast hne = y at e
    subst e
    rw [List.length_append] at h
    have hy : ys.length = n := by
      have : [y].length = 1 := rfl
      omega
    by_cases z : y = (0, 1)
    · rw [z, trimZ_nought, ih hy i]
      rcases (by omega : i < ys.length ∨ i = ys.length ∨ ys.length < i) with q | q | q
      · rw [List.getElem?_append_left q]
      · rw [q, List.getElem?_append_right (Nat.le_refl _), Nat.sub_self, List.getElem?_eq_none (Nat.le_refl _)]
        rfl
      · rw [List.getElem?_eq_none (by omega), List.getElem?_eq_none (by rw [List.length_append]; show ys.length + 1 ≤ i; omega)]
    · rw [trimZ_stop _ z]
theorem chR_get (row : List RT) (i : Nat) : chR row (0, 1) i = qv ((row[i]?).getD (0, 1)) := by
  rcases (by omega : i < row.length ∨ row.length ≤ i) with z | z
  · rw [List.getElem?_eq_getElem z, chR_in (List.getElem?_eq_getElem z)]
    rfl
  · rw [List.getElem?_eq_none z, chR_far0 z]
    exact qv_nought.symm
/-! ### chances of the short life, of the cut and of the folded one -/
theorem chR_trimZ (row : List RT) (i : Nat) : chR (trimZ row) (0, 1) i = chR row (0, 1) i := by rw [chR_get, trimZ_get rfl, ← chR_get]
theorem ch_end {row : List RT} {step : RT} (h : ¬ GoesOn row step) (i : Nat) : chR row step i = chR row (0, 1) i := by
  rcases snoc_cases row with rfl | ⟨ys, y, rfl⟩
  · rfl
  · by_cases hi : i < (ys ++ [y]).length
    · rw [chR_in (List.getElem?_eq_getElem hi), chR_in (List.getElem?_eq_getElem hi)]
    · have hl : (ys ++ [y]).getLast? = some y := by rw [List.getLast?_append]; rfl
      rw [chR_out (by omega) hl, chR_out (by omega) hl]
      by_cases z : y = (0, 1)
      · rw [z, qv_nought]
        grind
      · have : step = (0, 1) := Classical.byContradiction fun u => h ⟨u, ys, y, rfl, z⟩
        rw [this]
theorem ch_more (ys : List RT) {b step : RT} (hb : Red b) (hs : Red step) (i : Nat) : chR (ys ++ [b] ++ [rT b step]) step i = chR (ys ++ [b]) step i := by
  have hl1 : (ys ++ [b]).length = ys.length + 1 := by rw [List.length_append]; rfl
  have hl2 : (ys ++ [b] ++ [rT b step]).length = ys.length + 2 := by rw [List.length_append, hl1]; rfl
  have g1 : (ys ++ [b]).getLast? = some b := by rw [List.getLast?_append]; rfl
  have g2 : (ys ++ [b] ++ [rT b step]).getLast? = some (rT b step) := by rw [List.getLast?_append]; rfl
  rcases (by omega : i < ys.length + 1 ∨ i = ys.length + 1 ∨ ys.length + 2 ≤ i) with z | z | z
  · have e : (ys ++ [b] ++ [rT b step])[i]? = (ys ++ [b])[i]? := List.getElem?_append_left (by omega)
    rw [chR_in (List.getElem?_eq_getElem (show i < (ys ++ [b]).length by omega)), chR_in (e.trans (List.getElem?_eq_getElem (show i < (ys ++ [b]).length by omega)))]
  · have e : (ys ++ [b] ++ [rT b step])[i]? = some (rT b step) := by
      rw [List.getElem?_append_right (by omega), hl1, z, Nat.sub_self]
      rfl
    rw [chR_in e, chR_out (by omega) g1, (qv_rT hb hs).2, hl1, z, show ys.length + 1 + 1 - (ys.length + 1) = 0 + 1 by omega, Rat.pow_succ, Rat.pow_zero]
    grind
  · rw [chR_out (by omega) g2, chR_out (by omega) g1, (qv_rT hb hs).2, hl1, hl2, show i + 1 - (ys.length + 1) = (i + 1 - (ys.length + 2)) + 1 by omega, Rat.pow_succ]
    grind
theorem ch_trimG {step : RT} (hs : Red step) : ∀ (n : Nat) (row : List RT), row.length = n → (∀ x ∈ row, Red x) → ∀ i, chR (trimG row step) step i = chR row step i := by
  intro n
  induction n with
  | zero =>
    intro row h _ i
    rw [List.length_eq_zero_iff.mp h]
    rfl
  | succ n ih =>
    intro row h hr i
    rcases snoc_cases row with rfl | ⟨xs, a, rfl⟩
    · cases h
    rcases snoc_cases xs with rfl | ⟨ys, b, rfl⟩
    · rfl
    · by_cases z : a = rT b step
      · subst z
        rw [trimG_cut, ih (ys ++ [b]) (by simpa using h) (fun x hx => hr x (List.mem_append_left _ hx)), ch_more ys (hr b (by simp)) hs]
      · rw [trimG_stop _ z]
theorem ch_short {row : List RT} {step : RT} (hr : ∀ x ∈ row, Red x) (hs : Red step) (i : Nat) : chR (shortL row step).1 (shortL row step).2 i = chR row step i := by
  rcases Classical.em (GoesOn row step) with h | h
  · rw [shortL_go h]
    exact ch_trimG hs _ row rfl hr i
  · rw [shortL_end h, ch_end h]
    exact chR_trimZ row i
/-- so much later -/
def shiftF (m : Nat) (a : Nat → Rat) (i : Nat) : Rat := if i < m then 0 else a (i - m)
theorem ch_shift (m : Nat) (row : List RT) (step : RT) (i : Nat) : chR (List.replicate m ((0 : Int), (1 : Int)) ++ row) step i = shiftF m (chR row step) i := by
  have hl : (List.replicate m ((0 : Int), (1 : Int)) ++ row).length = m + row.length := by rw [List.length_append, List.length_replicate]
  unfold shiftF
  by_cases z : i < m
  · rw [if_pos z, chR_in (x := (0, 1)) (by rw [List.getElem?_append_left (by rw [List.length_replicate]; exact z), List.getElem?_replicate, if_pos z]), qv_nought]
  rw [if_neg z]
  by_cases y : i < m + row.length
  · have e : (List.replicate m ((0 : Int), (1 : Int)) ++ row)[i]? = row[i - m]? := by rw [List.getElem?_append_right (by rw [List.length_replicate]; omega), List.length_replicate]
    rw [chR_in (e.trans (List.getElem?_eq_getElem (show i - m < row.length by omega))), chR_in (List.getElem?_eq_getElem (show i - m < row.length by omega))]
  · rcases snoc_cases row with rfl | ⟨ys, b, rfl⟩
    · rw [List.append_nil, chR_nil]
      have : ¬ i < m := z
      cases m with
      | zero => rfl
      | succ m =>
        have g : (List.replicate (m + 1) ((0 : Int), (1 : Int))).getLast? = some (0, 1) := by
          rw [List.replicate_succ', List.getLast?_append]
          rfl
        rw [chR_out (by rw [List.length_replicate]; omega) g, qv_nought]
        grind
    · have g1 : (ys ++ [b]).getLast? = some b := by rw [List.getLast?_append]; rfl
      have g2 : (List.replicate m ((0 : Int), (1 : Int)) ++ (ys ++ [b])).getLast? = some b := by rw [← List.append_assoc, List.getLast?_append]; rfl
      rw [chR_out (by omega) g2, chR_out (by omega) g1, hl, show i - m + 1 - (ys ++ [b]).length = i + 1 - (m + (ys ++ [b]).length) by omega]

end Fp

set_option Elab.async false
set_option linter.all false
set_option maxRecDepth 100000
set_option maxHeartbeats 4000000
set_option exponentiation.threshold 10000
namespace Fp
open PySem PySem.Spec PyProof.Rows L2
/-! ### evenly first: what is put then -/
theorem cv_ones (f : Nat → Rat) (n : Nat) : cv f (fun _ => 1) n = sumTo (n + 1) f := by
  unfold cv
  exact sumTo_congr fun k _ => by grind
theorem last_cv (a : Nat → Rat) (n : Nat) : cv (laterF a) (fun _ => 1) n = sumTo n a := by
  rw [cv_later]
  exact sumTo_congr fun k _ => by grind
/-- how old and how many were put: all together one -/
theorem last_put (a : Nat → Rat) (n : Nat) : cv (fun k => 1 - sumTo k a) (renQ a oneAt) n = 1 := by
  generalize ep : renQ a oneAt = p
  have hp : ∀ n, p n = oneAt n + cv (laterF a) p n := fun n => by
    rw [← ep]
    exact ren_cv a oneAt n
  have u1 : cv (fun _ => 1) p n = 1 + cv (laterF a) (cv (fun _ => 1) p) n := by
    have e : cv (fun _ => 1) p n = cv (fun _ => 1) (fun m => oneAt m + cv (laterF a) p m) n := cv_congr n (fun _ _ => rfl) fun k _ => hp k
    rw [e, cv_add, cv_one, cv_swap]
  have u2 : cv (fun k => 1 - sumTo k a) p n = cv (fun _ => 1) p n - cv (laterF a) (cv (fun _ => 1) p) n := by
    have e : cv (fun k => 1 - sumTo k a) p n = cv (fun k => 1 + (-1) * cv (laterF a) (fun _ => 1) k) p n := cv_congr n (fun k _ => by rw [last_cv]; grind) fun _ _ => rfl
    have e3 : cv (cv (laterF a) fun _ => 1) p n = cv (laterF a) (cv (fun _ => 1) p) n := by
      rw [cv_comm1 (cv (laterF a) fun _ => 1) p, cv_swap]
      exact cv_congr n (fun _ _ => rfl) fun k _ => cv_comm1 p _ k
    rw [e, cv_addL (h := fun k => (-1) * cv (laterF a) (fun _ => 1) k), cv_mulL, e3]
    grind
  rw [u2, u1]
  grind
theorem even_put (a : Nat → Rat) (s : Rat) (n : Nat) : renQ a (laterF fun k => s * (1 - sumTo k a)) n = if n = 0 then 0 else s := by
  rw [conv_later]
  cases n with
  | zero => rfl
  | succ n =>
    have e : (sumTo (n + 1) fun k => s * (1 - sumTo k a) * renQ a oneAt (n + 1 - 1 - k)) = s * cv (fun k => 1 - sumTo k a) (renQ a oneAt) n := by
      unfold cv
      rw [sumTo_mul]
      exact sumTo_congr fun k _ => by
        rw [show n + 1 - 1 - k = n - k by omega]
        grind
    rw [e, last_put, if_neg (by omega)]
    grind
/-- behind the row of a full life lasting falls by the step -/
theorem last_falls (ys : List RT) (y step : RT) (h1 : qv step ≠ 1) (full : sumTo ys.length (chR (ys ++ [y]) step) + qv y / (1 - qv step) = 1) (j : Nat) : 1 - sumTo (ys.length + j) (chR (ys ++ [y]) step) = qv y * qv step ^ j / (1 - qv step) := by
  have g : (ys ++ [y]).getLast? = some y := by rw [List.getLast?_append]; rfl
  have hl : (ys ++ [y]).length = ys.length + 1 := by rw [List.length_append]; rfl
  induction j with
  | zero =>
    rw [Nat.add_zero, Rat.pow_zero]
    grind
  | succ j ih =>
    have e : chR (ys ++ [y]) step (ys.length + j) = qv y * qv step ^ j := by
      cases j with
      | zero =>
        rw [chR_in (x := y) (by rw [List.getElem?_append_right (by omega)]; simp), Rat.pow_zero]
        grind
      | succ j => rw [chR_out (by omega) g, hl, show ys.length + (j + 1) + 1 - (ys.length + 1) = j + 1 by omega]
    rw [← Nat.add_assoc, sumTo_succ, e, Rat.pow_succ]
    have h2 : (1 : Rat) - qv step ≠ 0 := fun z => h1 (by grind)
    have : 1 - (sumTo (ys.length + j) (chR (ys ++ [y]) step) + qv y * qv step ^ j) = qv y * qv step ^ j / (1 - qv step) - qv y * qv step ^ j := by grind
    rw [this]
    grind

end Fp

set_option Elab.async false
set_option linter.all false
set_option maxRecDepth 100000
set_option maxHeartbeats 4000000
set_option exponentiation.threshold 10000
namespace Fp
open PySem PySem.Spec PyProof.Rows L2
/-! ### sums in blocks -/
theorem sumTo_more {f : Nat → Rat} {n m : Nat} (h : ∀ k, n ≤ k → f k = 0) (hm : n ≤ m) : sumTo m f = sumTo n f := by
  obtain ⟨d, rfl⟩ : ∃ d, m = n + d := ⟨m - n, by omega⟩
  induction d with
  | zero => rfl
  | succ d ih =>
    rw [← Nat.add_assoc, sumTo_succ, ih (by omega), h (n + d) (by omega)]
    grind
theorem sumTo_two (a b : Nat) (f : Nat → Rat) : sumTo (a + b) f = sumTo a f + sumTo b fun j => f (a + j) := by
  induction b with
  | zero =>
    rw [Nat.add_zero, sumTo_zero]
    grind
  | succ b ih =>
    rw [← Nat.add_assoc, sumTo_succ, sumTo_succ, ih]
    grind
theorem blocks (r : Nat) (f : Nat → Rat) : ∀ n, sumTo (r * n) f = sumTo n fun m => sumTo r fun i => f (r * m + i)
  | 0 => rfl
  | n + 1 => by rw [Nat.mul_succ, sumTo_two, sumTo_succ, blocks r f n]
theorem one_of (r j : Nat) (hj : j < r) (v : Rat) : (sumTo r fun i => if i = j then v else 0) = v := by
  have key : ∀ n, (sumTo n fun i => if i = j then v else 0) = if j < n then v else 0 := by
    intro n
    induction n with
    | zero => rfl
    | succ n ih =>
      rw [sumTo_succ, ih]
      by_cases z : j < n
      · rw [if_pos z, if_neg (by omega), if_pos (by omega)]
        grind
      · rw [if_neg z]
        by_cases y : n = j
        · rw [if_pos y, if_pos (by omega)]
          grind
        · rw [if_neg y, if_neg (by omega)]
          grind
  rw [key, if_pos hj]
/-- nought but where r divides -/
def By (r : Nat) (a : Nat → Rat) : Prop := ∀ i, ¬ r ∣ i + 1 → a i = 0
def lessF (r : Nat) (a : Nat → Rat) (m : Nat) : Rat := a (r * m + (r - 1))
theorem by_at {r : Nat} (hr : 0 < r) {a : Nat → Rat} (h : By r a) {m i : Nat} (hi : i < r) : a (r * m + i) = if i = r - 1 then lessF r a m else 0 := by
  by_cases z : i = r - 1
  · rw [if_pos z, z]
    rfl
  · rw [if_neg z]
    refine h _ fun ⟨d, hd⟩ => ?_
    have e : (r * m + (i + 1)) % r = i + 1 := by rw [Nat.mul_add_mod, Nat.mod_eq_of_lt (by omega)]
    rw [show r * m + (i + 1) = r * d by omega, Nat.mul_mod_right] at e
    omega
/-- a sum over all is one over those -/
theorem by_sum {r : Nat} (hr : 0 < r) {a : Nat → Rat} (h : By r a) (g : Nat → Rat) (n : Nat) : (sumTo (r * n) fun k => g k * a k) = sumTo n fun m => g (r * m + (r - 1)) * lessF r a m := by
  rw [blocks]
  refine sumTo_congr fun m _ => ?_
  rw [← one_of r (r - 1) (by omega) (g (r * m + (r - 1)) * lessF r a m)]
  refine sumTo_congr fun i hi => ?_
  rw [by_at hr h hi]
  by_cases z : i = r - 1
  · rw [if_pos z, if_pos z, z]
  · rw [if_neg z, if_neg z]
    grind
theorem by_put {r : Nat} (hr : 0 < r) {a : Nat → Rat} (h : By r a) (n : Nat) : renQ a oneAt n = if n % r = 0 then renQ (lessF r a) oneAt (n / r) else 0 := by
  refine ren_uniq (r := fun n => if n % r = 0 then renQ (lessF r a) oneAt (n / r) else 0) (fun n => ?_) n
  show (if n % r = 0 then renQ (lessF r a) oneAt (n / r) else 0) = oneAt n + sumTo n fun j => a j * (if (n - 1 - j) % r = 0 then renQ (lessF r a) oneAt ((n - 1 - j) / r) else 0)
  by_cases z : n % r = 0
  · obtain ⟨m, rfl⟩ : ∃ m, n = r * m := ⟨n / r, by have := Nat.div_add_mod n r; omega⟩
    have hd : r * m / r = m := Nat.mul_div_cancel_left m hr
    have e0 : oneAt (r * m) = oneAt m := by
      unfold oneAt
      by_cases y : m = 0
      · rw [if_pos (by rw [y]; exact Nat.mul_zero r), if_pos y]
      · rw [if_neg (Nat.mul_ne_zero (by omega) y), if_neg y]
    rw [if_pos z, hd, renQ_is, e0]
    congr 1
    have e1 : (sumTo (r * m) fun j => a j * (if (r * m - 1 - j) % r = 0 then renQ (lessF r a) oneAt ((r * m - 1 - j) / r) else 0)) = sumTo (r * m) fun j => (if (r * m - 1 - j) % r = 0 then renQ (lessF r a) oneAt ((r * m - 1 - j) / r) else 0) * a j := sumTo_congr fun j _ => by grind
    rw [e1, by_sum hr h]
    refine sumTo_congr fun i hi => ?_
    have e2 : r * m - 1 - (r * i + (r - 1)) = r * (m - 1 - i) := by
      obtain ⟨d, rfl⟩ : ∃ d, m = i + 1 + d := ⟨m - (i + 1), by omega⟩
      have : r * (i + 1 + d) = r * i + r + r * d := by rw [Nat.mul_add, Nat.mul_add, Nat.mul_one]
      rw [this, show i + 1 + d - 1 - i = d by omega]
      omega
    rw [e2, Nat.mul_mod_right, if_pos rfl, Nat.mul_div_cancel_left _ hr]
    grind
  · have e0 : oneAt n = 0 := if_neg fun y => z (by rw [y]; exact Nat.zero_mod r)
    rw [if_neg z, e0]
    have e : (sumTo n fun j => a j * (if (n - 1 - j) % r = 0 then renQ (lessF r a) oneAt ((n - 1 - j) / r) else 0)) = sumTo n fun _ => 0 := sumTo_congr fun j hj => by
      by_cases y : r ∣ j + 1
      · have h1 : ¬ (n - 1 - j) % r = 0 := fun u => z (by
          obtain ⟨d, hd⟩ := y
          obtain ⟨e, he⟩ := Nat.dvd_of_mod_eq_zero u
          rw [show n = r * (d + e) by rw [Nat.mul_add]; omega]
          exact Nat.mul_mod_right ..)
        rw [if_neg h1]
        grind
      · rw [h j y]
        grind
    rw [e, sumTo_nought]
    grind
/-- lasting goes down at those alone -/
theorem by_last {r : Nat} (hr : 0 < r) {a : Nat → Rat} (h : By r a) (m : Nat) : ∀ {i : Nat}, i < r → sumTo (r * m + i) a = sumTo (r * m) a
  | 0, _ => rfl
  | i + 1, hi => by
    rw [← Nat.add_assoc, sumTo_succ, by_last hr h m (show i < r by omega), by_at hr h (show i < r by omega), if_neg (by omega)]
    grind
/-- all lastings together -/
theorem sum_lastB (a : Nat → Rat) : ∀ n, (sumTo n fun k => 1 - sumTo k a) = (sumTo n fun k => (((k + 1 : Nat) : Int) : Rat) * a k) + ((n : Int) : Rat) * (1 - sumTo n a)
  | 0 => by
    rw [sumTo_zero, sumTo_zero]
    show (0 : Rat) = 0 + ((0 : Int) : Rat) * _
    rw [show ((0 : Int) : Rat) = 0 from rfl]
    grind
  | n + 1 => by
    rw [sumTo_succ, sumTo_succ, sum_lastB a n, sumTo_succ, show ((n + 1 : Nat) : Int) = (n : Int) + 1 by omega, Rat.intCast_add, show ((1 : Int) : Rat) = 1 from rfl]
    grind
/-- of one rest: as much as of any other -/
theorem rest_sum {r : Nat} (hr : 0 < r) {a : Nat → Rat} (h : By r a) {len : Nat} (hf : ∀ k, len ≤ k → 1 - sumTo k a = 0) (hl : len ≤ 12) {j : Nat} (hj : j < r) : ((r : Int) : Rat) * (sumTo 12 fun g => if g % r = j then 1 - sumTo g a else 0) = sumTo len fun k => 1 - sumTo k a := by
  have e1 : (sumTo 12 fun g => if g % r = j then 1 - sumTo g a else 0) = sumTo (r * 12) fun g => if g % r = j then 1 - sumTo g a else 0 := by
    refine (sumTo_more (fun k hk => ?_) (show 12 ≤ r * 12 from Nat.le_mul_of_pos_left 12 hr)).symm
    split
    · exact hf k (by omega)
    · rfl
  have e2 : (sumTo (r * 12) fun g => if g % r = j then 1 - sumTo g a else 0) = sumTo 12 fun m => 1 - sumTo (r * m) a := by
    rw [blocks]
    refine sumTo_congr fun m _ => ?_
    rw [← one_of r j hj (1 - sumTo (r * m) a)]
    refine sumTo_congr fun i hi => ?_
    rw [Nat.mul_add_mod, Nat.mod_eq_of_lt hi, by_last hr h m hi]
  have e3 : (sumTo len fun k => 1 - sumTo k a) = sumTo (r * 12) fun k => 1 - sumTo k a := (sumTo_more hf (Nat.le_trans hl (Nat.le_mul_of_pos_left 12 hr))).symm
  have e4 : (sumTo (r * 12) fun k => 1 - sumTo k a) = sumTo 12 fun m => ((r : Int) : Rat) * (1 - sumTo (r * m) a) := by
    rw [blocks]
    refine sumTo_congr fun m _ => ?_
    have : ∀ n, n ≤ r → (sumTo n fun i => 1 - sumTo (r * m + i) a) = ((n : Int) : Rat) * (1 - sumTo (r * m) a) := by
      intro n
      induction n with
      | zero =>
        intro _
        rw [sumTo_zero, show (((0 : Nat) : Int) : Rat) = 0 from rfl]
        grind
      | succ n ih =>
        intro hn
        rw [sumTo_succ, ih (by omega), by_last hr h m (show n < r by omega), show ((n + 1 : Nat) : Int) = (n : Int) + 1 by omega, Rat.intCast_add, show ((1 : Int) : Rat) = 1 from rfl]
        grind
    exact this r (Nat.le_refl _)
  rw [e1, e2, e3, e4, sumTo_mul]

end Fp

set_option Elab.async false
set_option linter.all false
set_option maxRecDepth 100000
set_option maxHeartbeats 4000000
set_option exponentiation.threshold 10000
namespace Fp
open PySem PySem.Spec PyProof.Rows L2
/-! ### for ever -/
abbrev s_ea : Stmt := topS 41
abbrev N_ea : List Str := ["life", "most", "weight", "last"]
theorem sc_ea : FnScope N_ea ["life", "most"] (defScope s_ea) := ⟨rfl, rfl, rfl, by decide +kernel, rfl, by decide +kernel, by decide +kernel⟩
abbrev s_ef : Stmt := topS 42
abbrev N_ef : List Str := ["life", "row", "step"]
theorem sc_ef : FnScope N_ef ["life"] (defScope s_ef) := ⟨rfl, rfl, rfl, by decide +kernel, rfl, by decide +kernel, by decide +kernel⟩
def eaQ (row : List RT) (step : RT) (k : Nat) : Rat := lastQ (chR row step) k * shareQ row step
section
variable {P : Program} {w : World} {K : PySem.W.Frag} {mg : Str → Option Value} {base : Heap} {aN aO : Addr}
def spAfterE (K : PySem.W.Frag) : Sp := fun vs H Q _ => ∃ (p f : Addr) (row frow : List RT) (step fst : RT) (n n2 most : Nat) (D P2 : Int), vs = [.ref f, .ref p, .int (most : Int)] ∧ LifeAt K H p row step ∧ LifeOk n row step ∧ Ch01 D (chR row step) 20 ∧ LifeAt K H f frow fst ∧ LifeOk n2 frow fst ∧ (0 < P2 ∧ Sm 200 P2 ∧ ∀ i, i < 20 → Sz P2 10 (chR frow fst i)) ∧ most ≤ 20 ∧
  ∀ z H', Same H H' → RowAt K H' z (mkL (most + 1) (renQ (chR row step) (laterF (chR frow fst)))) → Q (.ref z) H'
def spRs (K : PySem.W.Frag) : Sp := fun vs H Q _ => ∃ (p : Addr) (row : List RT) (step : RT) (W : Int), vs = [.ref p] ∧ LifeAt K H p row step ∧ ML row step W ∧ roundN row step < 1000 ∧
  ∀ z H', Same H H' → RAt K H' z (rdq ((((roundN row step : Nat) : Int) : Rat) * shareQ row step)) → Q (.ref z) H'
def spEp (K : PySem.W.Frag) : Sp := fun vs H Q _ => ∃ (p : Addr) (row : List RT) (step : RT) (W : Int) (rest : Nat), vs = [.ref p, .int (rest : Int)] ∧ LifeAt K H p row step ∧ ML row step W ∧ roundN row step < 1000 ∧
  ∀ z H', Same H H' → RAt K H' z (rdq (if rest = 0 then (((roundN row step : Nat) : Int) : Rat) * shareQ row step else 0)) → Q (.ref z) H'
def spEa (K : PySem.W.Frag) : Sp := fun vs H Q _ => ∃ (p : Addr) (row : List RT) (step : RT) (most : Nat) (W D : Int), vs = [.ref p, .int (most : Int)] ∧ LifeAt K H p row step ∧ ML row step W ∧ Ch01 D (chR row step) 20 ∧ 1 ≤ most ∧ most ≤ 20 ∧
  ∀ z H', Same H H' → RowAt K H' z (mkL most (eaQ row step)) → Q (.ref z) H'
theorem ok_ea {f fSH fLS fT : Addr} {fd fdSH fdLS fdT : FuncData} (F : Fun K "ever_ages" "ever_ages" s_ea f fd)
    (FSH : Fun K "share" "share" s_share fSH fdSH) (bSH : Binds K fdSH ["life"] []) (gSH : mg "share" = some (.ref fSH)) (GSH : FnOk P w K mg base CX0 7 fSH fdSH ["life"] (spShare K))
    (FLS : Fun K "lastings_to" "lastings_to" s_ls fLS fdLS) (bLS : Binds K fdLS ["life", "most"] []) (gLS : mg "lastings_to" = some (.ref fLS)) (GLS : FnOk P w K mg base CX0 5 fLS fdLS ["life", "most"] (spLst K))
    (FT : Fun K "times" "times" s_times fT fdT) (bT : Binds K fdT ["one", "other"] []) (gT : mg "times" = some (.ref fT)) (GT : FnOk P w K mg base CX0 3 fT fdT ["one", "other"] (spTwo K (fun a b c d => a * c)))
    (n_tuple : mg "tuple" = none) : FnOk P w K mg base CX0 8 f fd ["life", "most"] (spEa K) := by
  refine F.ok sc_ea (fun vs H Q E h => ?_) (fun cdv A outer s H vs Q E hr h => ?_)
  · obtain ⟨_, _, _, _, _, _, rfl, _⟩ := h
    rfl
  · obtain ⟨p, row, step, most, W, D, rfl, hlife, M, C1, h1, hm, q⟩ := h
    refine ⟨_, (pss_cons (ps_set (i := 2) sc_ea.nd rfl (.inr rfl) (pe_call GSH hr (by rfl) gSH FSH.kp bSH .nil pass0 (pa_cons (pv 0) pa_nil)))
      (pss_one (ps_ret (pe_callTy call_tuple_of (by rfl) n_tuple (by decide +kernel) (pa_cons (pe_lc (own := [("last", 3)]) (g := (gName 3)) (tt := tYes) (te := (tCall (spTwo K (fun a b c d => a * c)) [] E0 (tCons (tVar 3) (tCons (tVar 2) tNil)))) rfl sc_ea.nd (pi_list (pe_call GLS (hr.mono (by decide)) (by rfl) gLS FLS.kp bLS .nil pass0 (pa_cons (pv 0) (pa_cons (pe_op op_sub (pv 1) pe_int) pa_nil)))) (blkOk_by (own := [("last", 3)]) (N := N_ea) (sc := (defScope s_ea)) (by decide +kernel)) (fun _ _ _ _ _ => (pg_name (i := 3) sc_ea.nd rfl (.inl rfl))) (fun _ _ _ _ _ => pts_nil) (fun _ _ _ _ _ => (pe_call GT (hr.mono (by decide)) (by rfl) gT FT.kp bT .nil pass0 (pa_cons (pv 3) (pa_cons (pv 2) pa_nil))))) pa_nil))))), ?_⟩
    obtain ⟨N, hN, sN, szN⟩ := M.shareSz
    refine ⟨_, rfl, p, row, step, W, rfl, hlife, M, fun sh H1 s1 hsh => ?_⟩
    refine ⟨_, rfl, _, rfl, _, 1, rfl, rfl, p, row, step, _, most - 1, D, (by show [V.ref p, V.int ((most : Int) - 1)] = _; rw [show (most : Int) - 1 = ((most - 1 : Nat) : Int) by omega]), hlife.tk (Tk.same s1), M.ok, C1, by omega, fun ls H2 s2 hls => ?_⟩
    rw [show most - 1 + 1 = most by omega] at hls
    obtain ⟨rs, hl1, hl2⟩ := id hls
    have hrl := hl2.length
    rw [mkL_len] at hrl
    refine ⟨ls, rfl, ⟨_, SqL.of hl1⟩, ?_⟩
    refine lc_mkW (K := K) (walk_list (K := K) (a := ls) (xs := rs.map V.ref)) (eaQ row step) (by rw [List.length_map, hrl]; omega) (fun HE sE => SqL.of (sE _ _ hl1)) (fun i v HE HE' R hi sE hY qr => ?_) (fun l3 H3 s3 hl3 => ?_)
    · obtain ⟨rfl, hv⟩ := hY
      rw [List.length_map, hrl] at hi
      obtain ⟨r, e3, hr⟩ := hl2.get (mkL_at hi)
      rw [List.getElem?_map, e3] at hv
      cases Option.some.inj hv
      refine ⟨rfl, _, rfl, _, rfl, ?_⟩
      refine tnil_go ?_
      exact times_go (hr.tk (Tk.same sE)) (hsh.tk (Tk.same (s2.trans sE))) ((C1.lastSz (show i ≤ 20 by omega) (by omega)).smr C1.pos C1.sm (by decide)) (szN.smr hN sN (by decide)) qr
    rw [List.length_map, hrl] at hl3
    obtain ⟨us, hu1, hu2⟩ := hl3
    refine tnil_go ?_
    refine ⟨l3, _, rfl, .inl ⟨SqL.of hu1, fun t nt => ?_⟩⟩
    have e6 := same_new (o := HO.tup (us.map V.ref)) nt
    exact q t _ (s1.trans (s2.trans (s3.trans e6))) (RowAt.of_ls hu1 hu2 nt)
def spEb (K : PySem.W.Frag) : Sp := fun vs H Q _ => ∃ (p : Addr) (row : List RT) (step : RT) (rest most : Nat) (W D : Int), vs = [.ref p, .int (rest : Int), .int (most : Int)] ∧ LifeAt K H p row step ∧ ML row step W ∧ Ch01 D (chR row step) 20 ∧ 1 ≤ most ∧ most ≤ 20 ∧ 0 < roundN row step ∧ roundN row step < 1000 ∧
  ∀ z H', Same H H' → RowAt K H' z (mkL most fun k => if k % roundN row step = rest then lastQ (chR row step) k * ((((roundN row step : Nat) : Int) : Rat) * shareQ row step) else 0) → Q (.ref z) H'
def spEf (K : PySem.W.Frag) : Sp := fun vs H Q _ => ∃ (p : Addr) (row : List RT) (step : RT) (W D : Int), vs = [.ref p] ∧ LifeAt K H p row step ∧ ML row step W ∧ Ch01 D (chR row step) 20 ∧ row ≠ [] ∧
  ∀ z H', Same H H' → LifeAt K H' z (shortL (mkL row.length (eaQ row step)) step).1 (shortL (mkL row.length (eaQ row step)) step).2 → Q (.ref z) H'
theorem ok_ef {f fSHO fEA : Addr} {fd fdSHO fdEA : FuncData} (F : Fun K "even_first" "even_first" s_ef f fd)
    (FSHO : Fun K "short" "short" s_short fSHO fdSHO) (bSHO : Binds K fdSHO ["life"] []) (gSHO : mg "short" = some (.ref fSHO)) (GSHO : FnOk P w K mg base CX0 5 fSHO fdSHO ["life"] (spShort K))
    (FEA : Fun K "ever_ages" "ever_ages" s_ea fEA fdEA) (bEA : Binds K fdEA ["life", "most"] []) (gEA : mg "ever_ages" = some (.ref fEA)) (GEA : FnOk P w K mg base CX0 8 fEA fdEA ["life", "most"] (spEa K))
    (n_len : mg "len" = none) : FnOk P w K mg base CX0 9 f fd ["life"] (spEf K) := by
  refine F.ok sc_ef (fun vs H Q E h => ?_) (fun cdv A outer s H vs Q E hr h => ?_)
  · obtain ⟨_, _, _, _, _, rfl, _⟩ := h
    rfl
  · obtain ⟨p, row, step, W, D, rfl, hlife, M, C1, hne, q⟩ := h
    refine ⟨_, (pss_cons (ps_asg (pv 0) (pg_tup rfl (pgs_cons (pg_name (i := 1) sc_ef.nd rfl (.inl rfl)) (pgs_cons (pg_name (i := 2) sc_ef.nd rfl (.inl rfl)) pgs_nil))))
      (pss_one (ps_ret (pe_call GSHO (hr.mono (by decide)) (by rfl) gSHO FSHO.kp bSHO .nil pass0 (pa_cons (pe_tup (pa_cons (pe_call GEA hr (by rfl) gEA FEA.kp bEA .nil pass0 (pa_cons (pv 0) (pa_cons (pe_callB call_len_seq (by rfl) n_len PySem.boot_len (pa_cons (pv 1) pa_nil)) pa_nil))) (pa_cons (pv 2) pa_nil))) pa_nil))))), ?_⟩
    obtain ⟨pr, ps, l1, l2, l3⟩ := id hlife
    obtain ⟨rs, r1, r2⟩ := id l2
    have hrl := r2.length
    have hlen := M.ok.len
    have hpos : 0 < row.length := List.length_pos_iff.mpr hne
    obtain ⟨N, hN, sN, szN⟩ := M.shareSz
    refine ⟨_, rfl, p, _, rfl, l1, rfl, _, _, rfl, _, _, rfl, rfl, ?_⟩
    refine ⟨_, rfl, _, rfl, pr, _, rfl, .inr r1, ?_⟩
    refine ⟨p, row, step, row.length, W, D, (by show [V.ref p, V.int (((rs.map V.ref).length : Nat) : Int)] = _; rw [List.length_map, hrl]), hlife, M, C1, hpos, by omega, fun ea H1 s1 hea => ?_⟩
    refine ⟨_, rfl, by show 2 ≤ sizeLine; decide, fun l nl => ?_⟩
    have e2 := same_new (o := HO.tup [.ref ea, .ref ps]) nl
    refine tnil_go ?_
    refine ⟨l, _, step, rfl, ⟨ea, ps, SqT.of upd_same, hea.tk (Tk.same e2), l3.tk (Tk.same (s1.trans e2))⟩, fun x hx => ?_, ⟨M.ok.st.1.mono (by decide), M.ok.st.2⟩, fun z H2 s2 hz => q z H2 (s1.trans (e2.trans s2)) hz⟩
    obtain ⟨j, hj, rfl⟩ := mem_mkL hx
    exact ((C1.lastSz (show j ≤ 20 by omega) (by omega)).mul C1.pos hN szN).smr (Int.mul_pos C1.pos hN) (C1.sm.mul sN) (by decide)
end

end Fp

set_option Elab.async false
set_option linter.all false
set_option maxRecDepth 100000
set_option maxHeartbeats 4000000
set_option exponentiation.threshold 10000
namespace Fp
open PySem PySem.Spec PyProof.Rows L2
/-! ### full lives: evenly first, by rounds -/
structure F91 (row : List RT) (step : RT) : Prop where
  len : row.length ≤ 12
  ne : row ≠ []
  w : ∃ W, WOk W row
  ml : ∃ W, ML row step W
  ch : ∃ D, Ch01 D (chR row step) 20
  full : rowQ row + behQ row step = 1
theorem F91.ok {row : List RT} {step : RT} (h : F91 row step) : LifeOk 60 row step := let ⟨_, M⟩ := h.ml; M.ok
/-- the last one, and what lasts -/
theorem F91.last {row : List RT} {step : RT} (h : F91 row step) : ∃ ys y, row = ys ++ [y] ∧ (1 : Rat) - qv step ≠ 0 ∧ (∀ j, 1 - sumTo (ys.length + j) (chR row step) = qv y * qv step ^ j / (1 - qv step)) ∧ behQ row step = qv y * qv step / (1 - qv step) := by
  obtain ⟨W, M⟩ := h.ml
  have g := M.gapQ.2
  rcases snoc_cases row with z | ⟨ys, y, z⟩
  · exact absurd z h.ne
  · have hf := h.full
    subst z
    have hl : (ys ++ [y]).length = ys.length + 1 := by rw [List.length_append]; rfl
    have e1 : rowQ (ys ++ [y]) = sumTo ys.length (chR (ys ++ [y]) step) + qv y := by
      rw [rowQ_all _ step, hl, sumTo_succ, chR_in (x := y) (by rw [List.getElem?_append_right (Nat.le_refl _), Nat.sub_self]; rfl)]
    rw [e1, behQ_snoc] at hf
    refine ⟨ys, y, rfl, g, last_falls ys y step (fun u => g (by rw [u]; grind)) ?_, behQ_snoc ..⟩
    rw [← hf]
    grind
theorem sumTo_up {a : Nat → Rat} (h : ∀ k, 0 ≤ a k) {n m : Nat} (hm : n ≤ m) : sumTo n a ≤ sumTo m a := by
  obtain ⟨d, rfl⟩ : ∃ d, m = n + d := ⟨m - n, by omega⟩
  induction d with
  | zero => exact Rat.le_refl
  | succ d ih =>
    rw [← Nat.add_assoc, sumTo_succ]
    have := ih (by omega)
    have := h (n + d)
    grind
theorem F91.q {row : List RT} {step : RT} (h : F91 row step) : (∀ k, 0 ≤ chR row step k) ∧ 0 ≤ qv step ∧ qv step < 1 := by
  obtain ⟨W, M⟩ := h.ml
  obtain ⟨s0, s1⟩ := M.qstep
  exact ⟨fun k => (chR_01 M.q01 ⟨s0, by grind⟩ k).1, s0, by grind⟩
theorem F91.last01 {row : List RT} {step : RT} (h : F91 row step) (k : Nat) (hk : k ≤ row.length) : 0 ≤ lastQ (chR row step) k ∧ lastQ (chR row step) k ≤ 1 := by
  obtain ⟨ys, y, e, g, hl, hb⟩ := h.last
  obtain ⟨q0, s0, s1⟩ := h.q
  have hlen : row.length = ys.length + 1 := by rw [e, List.length_append]; rfl
  unfold lastQ
  have h1 := sumTo_up q0 (Nat.zero_le k)
  rw [sumTo_zero] at h1
  have h2 := sumTo_up q0 (show k ≤ ys.length + 1 by omega)
  have h3 := hl 1
  have y0 : 0 ≤ qv y := by
    have := q0 ys.length
    rw [chR_in (x := y) (by rw [e, List.getElem?_append_right (Nat.le_refl _), Nat.sub_self]; rfl)] at this
    exact this
  have h4 : 0 ≤ qv y * qv step ^ 1 / (1 - qv step) := by
    rw [Rat.pow_succ, Rat.pow_zero, Rat.one_mul]
    have p0 := Rat.mul_nonneg y0 s0
    have d0 : 0 < 1 - qv step := by grind
    refine Classical.byContradiction fun z => ?_
    have z2 : 0 < -(qv y * qv step / (1 - qv step)) := by grind
    have p1 := Rat.mul_pos z2 d0
    have e9 : -(qv y * qv step / (1 - qv step)) * (1 - qv step) = -(qv y * qv step) := by grind
    rw [e9] at p1
    grind
  constructor <;> grind
/-- the chances of the even first -/
theorem F91.even {row : List RT} {step : RT} (h : F91 row step) (k : Nat) : chR (mkL row.length (eaQ row step)) step k = eaQ row step k := by
  obtain ⟨ys, y, e, g, hl, hb⟩ := h.last
  have hlen : row.length = ys.length + 1 := by rw [e, List.length_append]; rfl
  rcases (by omega : k < row.length ∨ row.length ≤ k) with z | z
  · rw [chR_in (mkL_at z), qv_rdq]
  · have g2 : (mkL row.length (eaQ row step)).getLast? = some (rdq (eaQ row step ys.length)) := by
      rw [hlen, mkL_succ, List.getLast?_append]
      rfl
    rw [chR_out (by rw [mkL_len]; exact z) g2, mkL_len, qv_rdq]
    unfold eaQ lastQ
    have h1 := hl 0
    have h2 := hl (k - ys.length)
    rw [Nat.add_zero, Rat.pow_zero] at h1
    rw [show ys.length + (k - ys.length) = k by omega] at h2
    rw [h1, h2, show k + 1 - row.length = k - ys.length by omega]
    grind
theorem F91.share {row : List RT} {step : RT} (h : F91 row step) : shareQ row step = 1 / meanQ row step ∧ meanQ row step ≠ 0 := by
  obtain ⟨W, M⟩ := h.ml
  have m1 := M.mean_ge h.full
  unfold shareQ
  rw [if_pos h.full]
  refine ⟨rfl, fun z => ?_⟩
  rw [z] at m1
  exact absurd m1 (by decide)
theorem F91.even_tot {row : List RT} {step : RT} (h : F91 row step) : rowQ (mkL row.length (eaQ row step)) + behQ (mkL row.length (eaQ row step)) step = 1 := by
  obtain ⟨ys, y, e, g, hl, hb⟩ := h.last
  obtain ⟨sh, m0⟩ := h.share
  have hlen : row.length = ys.length + 1 := by rw [e, List.length_append]; rfl
  have e1 : rowQ (mkL row.length (eaQ row step)) = shareQ row step * sumTo row.length fun k => 1 - sumTo k (chR row step) := by
    unfold rowQ
    rw [mkL_sum, sumTo_mul]
    refine sumTo_congr fun k _ => ?_
    unfold eaQ lastQ
    grind
  have e2 : behQ (mkL row.length (eaQ row step)) step = shareQ row step * firstQ row step := by
    rw [hlen, mkL_succ, behQ_snoc, qv_rdq]
    unfold eaQ lastQ firstQ
    rw [hb]
    have h1 := hl 0
    rw [Nat.add_zero, Rat.pow_zero] at h1
    rw [h1]
    grind
  have e3 : 1 - sumTo row.length (chR row step) = behQ row step := by
    have := h.full
    rw [rowQ_all row step] at this
    grind
  rw [e1, e2, sum_lastB, e3]
  unfold meanQ at sh m0
  rw [sh]
  generalize (sumTo row.length fun k => (((k + 1 : Nat) : Int) : Rat) * chR row step k) = A at *
  generalize ((row.length : Int) : Rat) * behQ row step = B at *
  generalize firstQ row step = C at *
  grind
/-- a short life has as much in all -/
theorem trimG_tot {step : RT} (hs : Red step) (h1 : (1 : Rat) - qv step ≠ 0) : ∀ (n : Nat) (row : List RT), row.length = n → (∀ x ∈ row, Red x) → rowQ (trimG row step) + behQ (trimG row step) step = rowQ row + behQ row step := by
  intro n
  induction n with
  | zero =>
    intro row h _
    rw [List.length_eq_zero_iff.mp h]
    rfl
  | succ n ih =>
    intro row h hr
    rcases snoc_cases row with rfl | ⟨xs, a, rfl⟩
    · cases h
    rcases snoc_cases xs with rfl | ⟨ys, b, rfl⟩
    · rfl
    · by_cases z : a = rT b step
      · subst z
        rw [trimG_cut, ih (ys ++ [b]) (by simpa using h) (fun x hx => hr x (List.mem_append_left _ hx)), behQ_snoc, behQ_snoc, rowQ_snoc (ys ++ [b]), (qv_rT (hr b (by simp)) hs).2]
        grind
      · rw [trimG_stop _ z]
theorem trimZ_rowQ : ∀ (n : Nat) (row : List RT), row.length = n → rowQ (trimZ row) = rowQ row := by
  intro n
  induction n with
  | zero =>
    intro row h
    rw [List.length_eq_zero_iff.mp h]
    rfl
  | succ n ih =>
    intro row h
    rcases snoc_cases row with rfl | ⟨xs, a, rfl⟩
    · cases h
    by_cases z : a = (0, 1)
    · rw [z, trimZ_nought, ih xs (by simpa using h), rowQ_snoc, qv_nought]
      grind
    · rw [trimZ_stop _ z]
theorem behQ_none (row : List RT) : behQ row (0, 1) = 0 := by
  unfold behQ
  split
  · rfl
  · rw [qv_nought]
    grind
theorem beh_end {row : List RT} {step : RT} (h : ¬ GoesOn row step) : behQ row step = 0 := by
  rcases snoc_cases row with rfl | ⟨ys, y, rfl⟩
  · rfl
  · rw [behQ_snoc]
    by_cases z : y = (0, 1)
    · rw [z, qv_nought]
      grind
    · have : step = (0, 1) := Classical.byContradiction fun u => h ⟨u, ys, y, rfl, z⟩
      rw [this, qv_nought]
      grind
theorem short_tot {row : List RT} {step : RT} (hr : ∀ x ∈ row, Red x) (hs : Red step) (h1 : (1 : Rat) - qv step ≠ 0) : rowQ (shortL row step).1 + behQ (shortL row step).1 (shortL row step).2 = rowQ row + behQ row step := by
  rcases Classical.em (GoesOn row step) with h | h
  · rw [shortL_go h]
    exact trimG_tot hs h1 _ row rfl hr
  · rw [shortL_end h, beh_end h]
    show rowQ (trimZ row) + behQ (trimZ row) (0, 1) = _
    rw [behQ_none, trimZ_rowQ _ row rfl]
theorem short_nil {row : List RT} {step : RT} (hr : ∀ x ∈ row, Red x) (hs : Red step) (h : (shortL row step).1 = []) : (shortL row step).2 = (0, 1) := by
  rcases Classical.em (GoesOn row step) with g | g
  · rw [shortL_go g] at h ⊢
    obtain ⟨h1, ys, y, rfl, hy⟩ := id g
    obtain ⟨zs, z, e1, _⟩ := trimG_good step _ ys y rfl hr hs hy h1
    rw [e1] at h
    simp at h
  · rw [shortL_end g]
/-! ### by rounds -/
theorem F91.none_beh {row : List RT} {step : RT} (h : F91 row step) (hb : behQ row step = 0) : (∀ k, row.length ≤ k → chR row step k = 0) ∧ chR row step = chR row (0, 1) := by
  obtain ⟨ys, y, e, g, hl, hbe⟩ := h.last
  obtain ⟨W, M⟩ := h.ml
  have hlen : row.length = ys.length + 1 := by rw [e, List.length_append]; rfl
  rw [hb] at hbe
  have hz : qv y * qv step = 0 := by grind
  have hn : ¬ GoesOn row step := fun ⟨h1, zs, z, e2, h2⟩ => by
    have e3 : ys ++ [y] = zs ++ [z] := by rw [← e, e2]
    have e4 := List.append_inj_right' e3 rfl
    cases e4
    have ry : Red y := (M.ok.sm y (by rw [e]; simp)).1
    rcases Rat.mul_eq_zero.mp hz with u | u
    · exact h2 (by rw [is_rdq ry u, rdq_zero.mpr rfl])
    · exact h1 (by rw [is_rdq M.ok.st.1.1 u, rdq_zero.mpr rfl])
  have ee : chR row step = chR row (0, 1) := funext fun k => ch_end hn k
  exact ⟨fun k hk => by rw [ee, chR_far0 hk], ee⟩
theorem F91.some_ch {row : List RT} {step : RT} (h : F91 row step) : ∃ i, i < row.length ∧ chR row step i ≠ 0 := by
  refine Classical.byContradiction fun hn => ?_
  have hz : ∀ i, i < row.length → chR row step i = 0 := fun i hi => Classical.byContradiction fun u => hn ⟨i, hi, u⟩
  have hf := h.full
  obtain ⟨ys, y, e, g, hl, hbe⟩ := h.last
  have hlen : row.length = ys.length + 1 := by rw [e, List.length_append]; rfl
  have hy : qv y = 0 := by
    have := hz ys.length (by omega)
    rw [chR_in (x := y) (by rw [e, List.getElem?_append_right (Nat.le_refl _), Nat.sub_self]; rfl)] at this
    exact this
  rw [rowQ_all row step, sumTo_congr (g := fun _ => 0) hz, sumTo_nought, hbe, hy] at hf
  grind
theorem F91.round {row : List RT} {step : RT} (h : F91 row step) : 0 < roundN row step ∧ roundN row step ≤ 12 ∧ By (roundN row step) (chR row step) ∧ (roundN row step ≠ 1 → behQ row step = 0) := by
  obtain ⟨W, M⟩ := h.ml
  obtain ⟨r1, r2⟩ := round_is M
  obtain ⟨i, hi, hc⟩ := h.some_ch
  have hlen := h.len
  have d1 := r1 i (by omega) hc
  have hpos : 0 < roundN row step := Nat.pos_of_dvd_of_pos d1 (by omega)
  have hle : roundN row step ≤ i + 1 := Nat.le_of_dvd (by omega) d1
  have key : roundN row step ≠ 1 → behQ row step = 0 := fun h1 => by
    refine Classical.byContradiction fun hb => h1 ?_
    obtain ⟨ys, y, e, g, hl, hbe⟩ := h.last
    have hl2 : row.length = ys.length + 1 := by rw [e, List.length_append]; rfl
    have hyn : qv y * qv step ≠ 0 := fun z => hb (by rw [hbe, z]; grind)
    have c1 : chR row step ys.length = qv y := chR_in (by rw [e, List.getElem?_append_right (Nat.le_refl _), Nat.sub_self]; rfl)
    have c2 : chR row step (ys.length + 1) = qv y * qv step := by
      rw [chR_next (by omega) h.ne, c1]
    have d2 := r1 ys.length (by omega) (by rw [c1]; exact fun z => hyn (by rw [z]; grind))
    have d3 := r1 (ys.length + 1) (by omega) (by rw [c2]; exact hyn)
    have := (Nat.dvd_add_right d2).mp d3
    exact Nat.dvd_one.mp this
  refine ⟨hpos, by omega, fun j hj => ?_, key⟩
  refine Classical.byContradiction fun hne => ?_
  by_cases h1 : roundN row step = 1
  · exact hj (by rw [h1]; exact Nat.one_dvd _)
  · have := (h.none_beh (key h1)).1
    rcases (by omega : j < 19 ∨ row.length ≤ j) with z | z
    · exact hj (r1 j z hne)
    · exact hne (this j z)
/-- those at each round alone -/
def byrL (r : Nat) (row : List RT) : List RT := ((List.range row.length).filter fun k => decide ((k + 1) % r = 0)).map fun k => (row[k]?).getD (0, 1)
theorem filt_range {r : Nat} (hr : 0 < r) : ∀ n, ((List.range n).filter fun k => decide ((k + 1) % r = 0)) = (List.range (n / r)).map fun m => r * m + (r - 1)
  | 0 => by
    rw [Nat.zero_div]
    rfl
  | n + 1 => by
    rw [List.range_succ, List.filter_append, filt_range hr n]
    have dm := Nat.div_add_mod n r
    have hm := Nat.mod_lt n hr
    by_cases z : (n + 1) % r = 0
    · have h1 : n % r = r - 1 := by
        have e : (n + 1) % r = (n % r + 1) % r := (Nat.mod_add_mod n r 1).symm
        rw [z] at e
        rcases (by omega : n % r + 1 < r ∨ n % r + 1 = r) with u | u
        · rw [Nat.mod_eq_of_lt u] at e
          omega
        · omega
      have h2 : (n + 1) / r = n / r + 1 := by
        rw [show n + 1 = r * (n / r + 1) by rw [Nat.mul_add, Nat.mul_one]; omega, Nat.mul_div_cancel_left _ hr]
      rw [h2, List.range_succ, List.map_append]
      congr 1
      show List.filter _ [n] = [r * (n / r) + (r - 1)]
      rw [List.filter_cons_of_pos (by rw [decide_eq_true z]), List.filter_nil, show r * (n / r) + (r - 1) = n by omega]
    · have h2 : (n + 1) / r = n / r := by
        have h3 : n % r + 1 < r := by
          refine Classical.byContradiction fun u => z ?_
          rw [show n + 1 = r * (n / r + 1) by rw [Nat.mul_add, Nat.mul_one]; omega]
          exact Nat.mul_mod_right ..
        rw [show n + 1 = (n % r + 1) + r * (n / r) by omega, Nat.add_mul_div_left _ _ hr, Nat.div_eq_of_lt h3, Nat.zero_add]
      rw [h2]
      have : List.filter (fun k => decide ((k + 1) % r = 0)) [n] = [] := by
        rw [List.filter_cons_of_neg (by rw [decide_eq_false z]; decide), List.filter_nil]
      rw [this, List.append_nil]
theorem byr_is {r : Nat} (hr : 0 < r) (row : List RT) : byrL r row = (List.range (row.length / r)).map fun m => (row[r * m + (r - 1)]?).getD (0, 1) := by
  unfold byrL
  rw [filt_range hr, List.map_map]
  rfl
theorem byr_mem {r : Nat} {row : List RT} {x : RT} (h : x ∈ byrL r row) : x ∈ row := by
  obtain ⟨k, hk, rfl⟩ := List.mem_map.mp h
  have := List.mem_range.mp (List.mem_filter.mp hk).1
  rw [List.getElem?_eq_getElem this]
  exact List.getElem_mem this
theorem byr_ch {r : Nat} (hr : 0 < r) (row : List RT) (m : Nat) : chR (byrL r row) (0, 1) m = lessF r (chR row (0, 1)) m := by
  unfold lessF
  rw [chR_get, chR_get, byr_is hr]
  rcases (by omega : m < row.length / r ∨ row.length / r ≤ m) with z | z
  · rw [List.getElem?_map, List.getElem?_range z]
    rfl
  · rw [List.getElem?_eq_none (by rw [List.length_map, List.length_range]; exact z), List.getElem?_eq_none ?_]
    have h1 : row.length < r * (row.length / r + 1) := by
      rw [Nat.mul_add, Nat.mul_one]
      have := Nat.div_add_mod row.length r
      have := Nat.mod_lt row.length hr
      omega
    have h2 : r * (row.length / r + 1) ≤ r * (m + 1) := Nat.mul_le_mul_left r (by omega)
    have h3 : r * (m + 1) = r * m + r := Nat.mul_succ r m
    omega
structure Less (row : List RT) (step : RT) : Prop where
  f : F91 (byrL (roundN row step) row) (0, 1)
  ch : chR (byrL (roundN row step) row) (0, 1) = lessF (roundN row step) (chR row step)
  sh : shareQ (byrL (roundN row step) row) (0, 1) = (((roundN row step : Nat) : Int) : Rat) * shareQ row step
  rd : roundN (byrL (roundN row step) row) (0, 1) = 1

end Fp

set_option Elab.async false
set_option linter.all false
set_option maxRecDepth 100000
set_option maxHeartbeats 4000000
set_option exponentiation.threshold 10000
namespace Fp
open PySem PySem.Spec PyProof.Rows L2
/-! ### lives of the law on what stands together -/
structure S32 (row : List RT) (step : RT) (W D D2 : Int) : Prop where
  ok : LifeOk 60 row step
  wok : WOk W row
  ml : ML row step W
  ch : Ch01 D (chR row step) 20
  chl : ChL D2 (chR row step) 40
theorem pow_nine {s : Int} (h : 0 < s ∧ s ≤ 9) : ∀ k : Nat, 0 < s ^ k ∧ s ^ k ≤ 9 ^ k
  | 0 => by
    rw [Int.pow_zero, Int.pow_zero]
    decide
  | k + 1 => by
    obtain ⟨h1, h2⟩ := pow_nine h k
    rw [Int.pow_succ, Int.pow_succ]
    exact ⟨Int.mul_pos h1 h.1, Int.mul_le_mul h2 h.2 (Int.le_of_lt h.1) (Int.le_of_lt (Int.lt_of_lt_of_le h1 h2))⟩
theorem sm9_20 {s : Int} (h : 0 < s ∧ s ≤ 9) : Sm 64 (s ^ 20) := by
  obtain ⟨z1, z2⟩ := pow_nine h 20
  have e : (9 : Int) ^ 20 = 12157665459056928801 := by decide
  have e2 : (2 : Nat) ^ 64 = 18446744073709551616 := by decide
  unfold Sm
  rw [e2]
  rw [e] at z2
  omega
theorem sm9_40 {s : Int} (h : 0 < s ∧ s ≤ 9) : Sm 128 (s ^ 40) := by
  have := (sm9_20 h).mul (sm9_20 h)
  rw [← Int.pow_add] at this
  exact this
theorem s32_of {row : List RT} {step : RT} {W : Int} (w1 : 0 < W) (sW : Sm 46 W) (w3 : ∀ y ∈ row, y.2 ∣ W) (hs : ∀ y ∈ row, SmR 60 y) (hq : ∀ y ∈ row, 0 ≤ qv y ∧ qv y ≤ 1) (st : 0 ≤ step.1 ∧ step.1 < step.2 ∧ step.2 ≤ 9 ∧ Red step) (len : row.length ≤ 12) (nil : row = [] → step = (0, 1)) : ∃ D D2 : Int, S32 row step W D D2 := by
  obtain ⟨s0, s1, s9, sr⟩ := st
  have ss1 : Sm 5 step.1 := by unfold Sm; omega
  have ss2 : Sm 5 step.2 := by unfold Sm; omega
  have L : LifeOk 60 row step := ⟨hs, ⟨⟨sr, ss1, ss2⟩, s0, s1⟩, by omega, by decide, by decide⟩
  have WK : WOk W row := ⟨w1, sW, w3⟩
  have q2 : 0 ≤ qv step ∧ qv step ≤ 1 := by
    unfold qv
    exact div_01 s0 sr.1 (Int.le_of_lt s1)
  have den : ∀ M k, k < M → Den (W * step.2 ^ M) 1 (chR row step k) := fun M k hk => by
    obtain ⟨x, sx, vx⟩ := ch_ex L k
    rw [← vx]
    exact Den.of (Int.mul_pos w1 (Int.pow_pos sr.1)) sx.1.1 (ch_dvdW w3 L.sm sr sx.1 vx hk)
  exact ⟨_, _, ⟨L, WK, ⟨L, by omega, nil, ⟨w1, sW, w3⟩, hq, s9⟩,
    ⟨Int.mul_pos w1 (Int.pow_pos sr.1), sW.mul (sm9_20 ⟨sr.1, s9⟩), fun k _ => (chR_01 hq q2 k).1, fun k _ => (chR_01 hq q2 k).2, den 20⟩, ⟨Int.mul_pos w1 (Int.pow_pos sr.1), sW.mul (sm9_40 ⟨sr.1, s9⟩), fun k _ => (chR_01 hq q2 k).1, fun k _ => (chR_01 hq q2 k).2, den 40⟩⟩⟩
theorem DL.smr {fu bo : Int} {row : List RT} {step : RT} (h : DL fu bo 900 row step) : ∀ y ∈ row, SmR 10 y := fun y hy => by
  obtain ⟨W, w1, w2, w3⟩ := h.w
  have r := h.red y hy
  have q := red_01 r (h.q y hy)
  have l := Int.le_of_dvd w1 (w3 y hy)
  have := r.1
  exact ⟨r, by unfold Sm; omega, by unfold Sm; omega⟩
theorem DL.s32 {fu bo : Int} {row : List RT} {step : RT} (h : DL fu bo 900 row step) : ∃ W D D2 : Int, Sm 10 W ∧ S32 row step W D D2 := by
  obtain ⟨W, w1, w2, w3⟩ := h.w
  have sW : Sm 10 W := by unfold Sm; omega
  obtain ⟨D, D2, S⟩ := s32_of w1 (sW.mono (by decide)) w3 (fun y hy => (h.smr y hy).mono (by decide)) h.q h.st (by have := h.len; omega) h.nil
  exact ⟨W, D, D2, sW, S⟩
/-- what is evenly first of a full one -/
theorem DL.e32 {fu bo : Int} {row : List RT} {step : RT} (h : DL fu bo 900 row step) (hf : fu ≠ 0) : ∃ W D D2 : Int, S32 (shortL (mkL row.length (eaQ row step)) step).1 (shortL (mkL row.length (eaQ row step)) step).2 W D D2 := by
  obtain ⟨W, D, D2, sW, S⟩ := h.s32
  obtain ⟨f1, f2⟩ := h.full hf
  have M := S.ml
  have hlen : row.length ≤ 12 := by have := h.len; omega
  have F : F91 row step := ⟨hlen, f2, ⟨W, S.wok⟩, ⟨W, M⟩, ⟨D, S.ch⟩, f1⟩
  obtain ⟨g1, g9, _, _⟩ := M.gap
  have sg : Sm 4 (step.2 - step.1) := by unfold Sm; omega
  have sP : Sm 22 (mP W step) := ((sW.mul sg).mul sg).mul sg
  have eS : shareQ row step = 1 / meanQ row step := F.share.1
  obtain ⟨N, hN, sN, szN⟩ := M.meanSz.inv M.P.1 sP (M.mean_ge f1)
  rw [← eS] at szN
  have hW := S.wok
  have m1 := M.mean_ge f1
  have s01 : 0 ≤ shareQ row step ∧ shareQ row step ≤ 1 := by
    rw [eS]
    have hp : 0 < meanQ row step := by grind
    have e9 : (1 / meanQ row step) * meanQ row step = 1 := by
      have := Rat.ne_of_gt hp
      grind
    have hi : (0 : Rat) ≤ 1 / meanQ row step := by
      rw [Rat.div_def, Rat.one_mul]
      exact Rat.le_of_lt (Rat.inv_pos.mpr hp)
    refine ⟨hi, ?_⟩
    have := Rat.mul_le_mul_of_nonneg_left m1 hi
    grind
  have ha : ∀ j, j < row.length → Sz W 0 (chR row step j) := fun j hj => by
    have hg : row[j]? = some (row[j]'hj) := List.getElem?_eq_getElem hj
    have hm := List.getElem_mem hj
    rw [chR_in hg]
    exact Sz.pos ⟨_, qv_over (M.ok.sm _ hm).1.1 (hW.dvd _ hm) hW.pos⟩ (M.q01 _ hm).1 (by rw [Rat.pow_zero]; exact (M.q01 _ hm).2)
  have he : ∀ k, k ≤ row.length → Sz (W * N) 0 (eaQ row step k) ∧ 0 ≤ eaQ row step k ∧ eaQ row step k ≤ 1 := fun k hk => by
    obtain ⟨x0, x1⟩ := F.last01 k hk
    have h7 := Sz.sum hW.pos (fun j hj => ha j (by omega)) (show k ≤ 128 by omega)
    have h8 := Sz.add hW.pos (Sz.one (k := 7) hW.pos) h7.neg
    have hl : Sz W 0 (lastQ (chR row step) k) := by
      refine Sz.pos ?_ x0 (by rw [Rat.pow_zero]; exact x1)
      unfold lastQ
      rw [show (1 : Rat) - sumTo k (chR row step) = 1 + -sumTo k (chR row step) by grind]
      exact h8.ov
    refine ⟨hl.mul hW.pos hN szN, Rat.mul_nonneg x0 s01.1, ?_⟩
    have := Rat.mul_le_mul_of_nonneg_right x1 s01.1
    show lastQ (chR row step) k * shareQ row step ≤ 1
    grind
  have hWN := Int.mul_pos hW.pos hN
  have sWN : Sm 46 (W * N) := (sW.mul sN).mono (by decide)
  have rs : Red step := M.ok.st.1.1
  have hsm : ∀ x ∈ mkL row.length (eaQ row step), SmR 60 x := fun x hx => by
    obtain ⟨j, hj, rfl⟩ := mem_mkL hx
    exact (he j (by omega)).1.smr hWN sWN (by decide)
  have hr : ∀ x ∈ mkL row.length (eaQ row step), Red x := fun x hx => (hsm x hx).1
  obtain ⟨n1, n2, n3⟩ := shortL_mem hr rs
  rw [mkL_len] at n2
  have hx : ∀ y ∈ (shortL (mkL row.length (eaQ row step)) step).1, ∃ j, j < row.length ∧ y = rdq (eaQ row step j) := fun y hy => by
    obtain ⟨j, hj, rfl⟩ := mem_mkL (n1 y hy)
    exact ⟨j, hj, rfl⟩
  have hnil : (shortL (mkL row.length (eaQ row step)) step).1 = [] → (shortL (mkL row.length (eaQ row step)) step).2 = (0, 1) := fun u => by
    rcases n3 with z | z
    · rcases Classical.em (GoesOn (mkL row.length (eaQ row step)) step) with g | g
      · obtain ⟨h1, ys, y, ey, hy⟩ := id g
        obtain ⟨zs, z', e1, _⟩ := trimG_good step _ ys y rfl (by rw [← ey]; exact hr) rs hy h1
        rw [shortL_go g, ey, e1] at u
        simp at u
      · rw [shortL_end g]
    · exact z
  obtain ⟨E, E2, S2⟩ := s32_of (row := (shortL (mkL row.length (eaQ row step)) step).1) (step := (shortL (mkL row.length (eaQ row step)) step).2) hWN sWN (fun y hy => by
    obtain ⟨j, hj, rfl⟩ := hx y hy
    obtain ⟨T, hT⟩ := (he j (by omega)).1.ov
    exact (red_small (rdq_red _) hWN ((qv_rdq _).trans hT)).1) (fun y hy => hsm y (n1 y hy)) (fun y hy => by
    obtain ⟨j, hj, rfl⟩ := hx y hy
    rw [qv_rdq]
    exact (he j (by omega)).2) (by
    rcases n3 with z | z <;> rw [z]
    · exact h.st
    · exact ⟨by decide, by decide, by decide, nought_red⟩) (by omega) hnil
  exact ⟨_, E, E2, S2⟩

end Fp

set_option Elab.async false
set_option linter.all false
set_option maxRecDepth 100000
set_option maxHeartbeats 4000000
set_option exponentiation.threshold 10000
namespace Fp
open PySem PySem.Spec PyProof.Rows L2
/-! ### the law's own sums -/
abbrev s_lad : Stmt := topS 50
abbrev N_lad : List Str := ["_law_some", "_law_found", "_law_one"]
theorem sc_lad : FnScope N_lad ["_law_some"] (defScope s_lad) := ⟨rfl, rfl, rfl, by decide +kernel, rfl, by decide +kernel, by decide +kernel⟩
section
variable {P : Program} {w : World} {K : PySem.W.Frag} {mg : Str → Option Value} {base : Heap} {aN aO : Addr}
theorem part_sm {m i s k : Nat} {f : Nat → Rat} {D : Int} (hD : 0 < D) (sD : Sm s D) (z : ∀ j, j < m → Sz D k (f j)) (hi : i ≤ m) (hm : m ≤ 128) (hs : s + k + 8 ≤ 3000) : SmR 3000 (rdq (sumTo i f)) :=
  (Sz.sum hD (fun j hj => z j (by omega)) (show i ≤ 128 by omega)).smr hD sD (by omega)
def spLad (K : PySem.W.Frag) : Sp := fun vs H Q _ => ∃ (p : Addr) (m s k : Nat) (f : Nat → Rat) (D : Int), vs = [.ref p] ∧ LsM K H p (mkL m f) ∧ 0 < D ∧ Sm s D ∧ (∀ j, j < m → Sz D k (f j)) ∧ m ≤ 128 ∧ s + k + 8 ≤ 3000 ∧
  ∀ z H', Same H H' → RAt K H' z (rdq (sumTo m f)) → Q (.ref z) H'
theorem ok_lad {f fPL : Addr} {fd fdPL : FuncData} (F : Fun K "_law_added" "_law_added" s_lad f fd)
    (FPL : Fun K "plus" "plus" s_plus fPL fdPL) (bPL : Binds K fdPL ["one", "other"] []) (gPL : mg "plus" = some (.ref fPL)) (GPL : FnOk P w K mg base CX0 3 fPL fdPL ["one", "other"] (spTwo K (fun a b c d => a * d + c * b)))
    : FnOk P w K mg base CX0 4 f fd ["_law_some"] (spLad K) := by
  refine F.ok sc_lad (fun vs H Q E h => ?_) (fun cdv A outer s H vs Q E hr h => ?_)
  · obtain ⟨_, _, _, _, _, _, rfl, _⟩ := h
    rfl
  · obtain ⟨p, m, s, k, f, D, rfl, hp, hD, sD, zf, hm, hs, q⟩ := h
    refine ⟨_, (pss_cons (ps_set (i := 1) sc_lad.nd rfl (.inl rfl) (pe_tup (pa_cons pe_int (pa_cons pe_int pa_nil))))
      (pss_cons (ps_for PassesOwn.never rfl (pi_list (pv 0)) (pg_name (i := 2) sc_lad.nd rfl (.inl rfl)) (pss_one (ps_set (i := 1) sc_lad.nd rfl (.inl rfl) (pe_call GPL hr (by rfl) gPL FPL.kp bPL .nil pass0 (pa_cons (pv 1) (pa_cons (pv 2) pa_nil))))))
      (pss_one (ps_ret (pv 1))))), ?_⟩
    obtain ⟨rs, r1, r2⟩ := id hp
    have hrl := r2.length
    rw [mkL_len] at hrl
    refine ⟨by show 2 ≤ sizeLine; decide, fun t nt => ?_⟩
    have e1 := same_new (o := HO.tup [.int 0, .int 1]) nt
    refine ⟨_, rfl, p, rfl, ⟨_, SqL.of (e1 _ _ r1)⟩, ?_⟩
    refine for_list (K := K) (a := p) (xs := rs.map V.ref) (fun j σ HB => ∃ (z2 : Option V) (pf : Addr), σ = [some (.ref p), some (.ref pf), z2] ∧ Same H HB ∧ RAt K HB pf (rdq (sumTo j f))) ⟨_, t, rfl, e1, ?_⟩ ?_ ?_ ?_
    · rw [sumTo_zero, rdq_zero.mpr rfl]
      exact SqT.of upd_same
    · rintro j σ HB _ ⟨_, _, _, sB, _⟩
      exact SqL.of (sB _ _ r1)
    · rintro j v σ HB hv ⟨z2, pf, rfl, sB, hpf⟩
      have hj : j < m := by
        have := (List.getElem?_eq_some_iff.mp hv).1
        rw [List.length_map, hrl] at this
        exact this
      obtain ⟨r, g1, g2⟩ := r2.get (mkL_at hj)
      rw [List.getElem?_map, g1] at hv
      cases Option.some.inj hv
      refine ⟨_, rfl, _, rfl, ?_⟩
      refine tnil_go ?_
      refine plus_go hpf (g2.tk (Tk.same sB)) (part_sm hD sD zf (by omega) hm hs) ((zf j hj).smr hD sD (by omega)) fun z HC sC hz => ?_
      exact ⟨_, z, rfl, sB.trans sC, by rw [sumTo_succ]; exact hz⟩
    · rintro σ HB ⟨z2, pf, rfl, sB, hpf⟩
      rw [List.length_map, hrl] at hpf
      exact ⟨_, rfl, q pf HB sB hpf⟩
def spLadT (K : PySem.W.Frag) : Sp := fun vs H Q _ => ∃ (p : Addr) (m s k : Nat) (f : Nat → Rat) (D : Int), vs = [.ref p] ∧ RowAt K H p (mkL m f) ∧ 0 < D ∧ Sm s D ∧ (∀ j, j < m → Sz D k (f j)) ∧ m ≤ 128 ∧ s + k + 8 ≤ 3000 ∧
  ∀ z H', Same H H' → RAt K H' z (rdq (sumTo m f)) → Q (.ref z) H'
theorem ok_ladLADT {f fPL : Addr} {fd fdPL : FuncData} (F : Fun K "_law_added" "_law_added" s_lad f fd)
    (FPL : Fun K "plus" "plus" s_plus fPL fdPL) (bPL : Binds K fdPL ["one", "other"] []) (gPL : mg "plus" = some (.ref fPL)) (GPL : FnOk P w K mg base CX0 3 fPL fdPL ["one", "other"] (spTwo K (fun a b c d => a * d + c * b)))
    : FnOk P w K mg base CX0 4 f fd ["_law_some"] (spLadT K) := by
  refine F.ok sc_lad (fun vs H Q E h => ?_) (fun cdv A outer s H vs Q E hr h => ?_)
  · obtain ⟨_, _, _, _, _, _, rfl, _⟩ := h
    rfl
  · obtain ⟨p, m, s, k, f, D, rfl, hp, hD, sD, zf, hm, hs, q⟩ := h
    refine ⟨_, (pss_cons (ps_set (i := 1) sc_lad.nd rfl (.inl rfl) (pe_tup (pa_cons pe_int (pa_cons pe_int pa_nil))))
      (pss_cons (ps_for PassesOwn.never rfl (pi_tup (pv 0)) (pg_name (i := 2) sc_lad.nd rfl (.inl rfl)) (pss_one (ps_set (i := 1) sc_lad.nd rfl (.inl rfl) (pe_call GPL hr (by rfl) gPL FPL.kp bPL .nil pass0 (pa_cons (pv 1) (pa_cons (pv 2) pa_nil))))))
      (pss_one (ps_ret (pv 1))))), ?_⟩
    obtain ⟨rs, r1, r2⟩ := id hp
    have hrl := r2.length
    rw [mkL_len] at hrl
    refine ⟨by show 2 ≤ sizeLine; decide, fun t nt => ?_⟩
    have e1 := same_new (o := HO.tup [.int 0, .int 1]) nt
    refine ⟨_, rfl, p, rfl, ⟨_, sqT_same e1 r1⟩, ?_⟩
    refine for_tup (K := K) (a := p) (xs := rs.map V.ref) (fun j σ HB => ∃ (z2 : Option V) (pf : Addr), σ = [some (.ref p), some (.ref pf), z2] ∧ Same H HB ∧ RAt K HB pf (rdq (sumTo j f))) ⟨_, t, rfl, e1, ?_⟩ ?_ ?_ ?_
    · rw [sumTo_zero, rdq_zero.mpr rfl]
      exact SqT.of upd_same
    · rintro j σ HB _ ⟨_, _, _, sB, _⟩
      exact sqT_same sB r1
    · rintro j v σ HB hv ⟨z2, pf, rfl, sB, hpf⟩
      have hj : j < m := by
        have := (List.getElem?_eq_some_iff.mp hv).1
        rw [List.length_map, hrl] at this
        exact this
      obtain ⟨r, g1, g2⟩ := r2.get (mkL_at hj)
      rw [List.getElem?_map, g1] at hv
      cases Option.some.inj hv
      refine ⟨_, rfl, _, rfl, ?_⟩
      refine tnil_go ?_
      refine plus_go hpf (g2.tk (Tk.same sB)) (part_sm hD sD zf (by omega) hm hs) ((zf j hj).smr hD sD (by omega)) fun z HC sC hz => ?_
      exact ⟨_, z, rfl, sB.trans sC, by rw [sumTo_succ]; exact hz⟩
    · rintro σ HB ⟨z2, pf, rfl, sB, hpf⟩
      rw [List.length_map, hrl] at hpf
      exact ⟨_, rfl, q pf HB sB hpf⟩
end

end Fp

set_option Elab.async false
set_option linter.all false
set_option maxRecDepth 100000
set_option maxHeartbeats 4000000
set_option exponentiation.threshold 10000
namespace Fp
open PySem PySem.Spec PyProof.Rows L2
/-! ### the law: rows hang together -/
theorem sumCh_to (row : List RT) (step : RT) : ∀ m, sumCh row step m = sumTo m (chR row step)
  | 0 => by
    rw [sumTo_zero]
    rfl
  | m + 1 => by
    rw [sumTo_succ, ← sumCh_to row step m]
    rfl
theorem eqv_rowT (xs : List RT) : PyData.eqv (.tuple (rowD xs)) (.tuple (rowD xs)) = true := SeqAt.eqv_refl _ (rowD_lay xs)
theorem neT_go {K : PySem.W.Frag} {H : Hp} {p r : Addr} {xs : List RT} {Q : VK} (h1 : RowAt K H p xs) (h2 : RowAt K H r xs) (h : Q (.bl false) H) : rNeD K (.ref p) (.ref r) H Q := by
  refine ⟨_, _, h1.dp, h2.dp, rowD_shaped xs, rowD_shaped xs, ?_⟩
  rw [eqv_rowT]
  exact h
theorem neR_go {K : PySem.W.Frag} {H : Hp} {p q : Addr} {x : RT} {Q : VK} (h1 : RAt K H p x) (h2 : RAt K H q x) (h : Q (.bl false) H) : rNeD K (.ref p) (.ref q) H Q := by
  refine ne_rat h1 h2 ?_
  rw [decide_eq_true rfl]
  exact h
theorem eqR_go {K : PySem.W.Frag} {H : Hp} {p q : Addr} {x : RT} {Q : VK} (h1 : RAt K H p x) (h2 : RAt K H q x) (h : Q (.bl true) H) : rEqD K (.ref p) (.ref q) H Q := by
  refine eq_rat h1 h2 ?_
  rw [decide_eq_true rfl]
  exact h
theorem ChL.lastSz {D : Int} {a : Nat → Rat} {M : Nat} (h : ChL D a M) {k : Nat} (hk : k ≤ M) (h9 : k ≤ 128) : Sz D 8 (lastQ a k) := by
  have h7 := Sz.sum h.pos (fun j hj => h.chSz (n := j) (by omega)) h9
  unfold lastQ
  rw [show (1 : Rat) - sumTo k a = 1 + -sumTo k a by grind]
  exact Sz.add h.pos (Sz.one (k := 7) h.pos) h7.neg
theorem one_rdq : rdq 1 = (1, 1) := (is_rdq one_red qv_one).symm
def moreQ (a : Nat → Rat) (beat most i : Nat) : Rat := renQ a oneAt (beat - i) * lastQ a (i + most)
theorem ages_one (a : Nat → Rat) (beat : Nat) : sumTo (beat + 1) (agesQ a beat) = 1 := stands_one a beat
theorem all_one (a : Nat → Rat) (beat most : Nat) : sumTo most (leftQ a beat) + sumTo (beat + 1) (moreQ a beat most) = 1 := by
  have e : sumTo most (leftQ a beat) = sumTo (beat + 1) fun i => renQ a oneAt (beat - i) * sumTo most fun j => a (i + j) := by
    unfold leftQ
    rw [sumTo_swap most (beat + 1) fun j i => renQ a oneAt (beat - i) * a (i + j)]
    exact sumTo_congr fun i _ => (sumTo_mul ..).symm
  rw [e, ← sumTo_add, ← ages_one a beat]
  refine sumTo_congr fun i _ => ?_
  unfold moreQ agesQ lastQ
  rw [sumTo_spl]
  grind
theorem first_left (a : Nat → Rat) (beat : Nat) : leftQ a beat 0 = renQ a oneAt (beat + 1) := by
  rw [renQ_is]
  have h0 : oneAt (beat + 1) = 0 := if_neg (by omega)
  rw [h0]
  unfold leftQ
  have e : (sumTo (beat + 1) fun i => renQ a oneAt (beat - i) * a (i + 0)) = sumTo (beat + 1) fun j => a j * renQ a oneAt (beat + 1 - 1 - j) := sumTo_congr fun i _ => by
    rw [Nat.add_zero, Nat.add_sub_cancel]
    grind
  rw [e]
  grind
def catQ (m : Nat) (f h : Nat → Rat) (k : Nat) : Rat := if k < m then f k else h (k - m)
theorem mkL_cat (m n : Nat) (f h : Nat → Rat) : mkL m f ++ mkL n h = mkL (m + n) (catQ m f h) := by
  refine List.ext_getElem? fun i => ?_
  unfold catQ
  rcases (by omega : i < m ∨ (m ≤ i ∧ i < m + n) ∨ m + n ≤ i) with z | ⟨z1, z2⟩ | z
  · rw [List.getElem?_append_left (by rw [mkL_len]; exact z), mkL_at z, mkL_at (by omega), if_pos z]
  · rw [List.getElem?_append_right (by rw [mkL_len]; exact z1), mkL_len, mkL_at (by omega), mkL_at z2, if_neg (by omega)]
  · rw [List.getElem?_eq_none (by rw [List.length_append, mkL_len, mkL_len]; exact z), List.getElem?_eq_none (by rw [mkL_len]; exact z)]
theorem sum_cat (m n : Nat) (f h : Nat → Rat) : sumTo (m + n) (catQ m f h) = sumTo m f + sumTo n h := by
  have e1 : sumTo m (catQ m f h) = sumTo m f := sumTo_congr fun i hi => if_pos hi
  have e2 : (sumTo n fun j => catQ m f h (m + j)) = sumTo n h := sumTo_congr fun i _ => by
    unfold catQ
    rw [if_neg (by omega), Nat.add_sub_cancel_left]
  rw [sumTo_spl, e1, e2]
theorem ChL.mono {D : Int} {a : Nat → Rat} {M M2 : Nat} (h : ChL D a M) (hm : M2 ≤ M) : ChL D a M2 := ⟨h.pos, h.sm, fun k hk => h.ge k (by omega), fun k hk => h.le k (by omega), fun k hk => h.den k (by omega)⟩
theorem RowAt.at {K : PySem.W.Frag} {H : Hp} {p : Addr} {n k : Nat} {f : Nat → Rat} {i : Int} {Q : VK} (h : RowAt K H p (mkL n f)) (hi : i = (k : Int)) (hk : k < n) (q : ∀ r, RAt K H r (rdq (f k)) → Q (.ref r) H) : rIxT K (.ref p) (.int i) H Q := by
  obtain ⟨rs, r1, r2⟩ := h
  obtain ⟨r, g1, g2⟩ := r2.get (mkL_at hk)
  exact ⟨p, _, i, .ref r, rfl, rfl, r1, at_of hi (by rw [List.getElem?_map, g1]; rfl), q r g2⟩
theorem RowAt.back {K : PySem.W.Frag} {H : Hp} {p : Addr} {n : Nat} {f : Nat → Rat} {Q : VK} (h : RowAt K H p (mkL (n + 1) f)) (q : ∀ r, RAt K H r (rdq (f n)) → Q (.ref r) H) : rIxT K (.ref p) (.int (-1)) H Q := by
  obtain ⟨rs, r1, r2⟩ := h
  have hl := r2.length
  rw [mkL_len] at hl
  obtain ⟨r, g1, g2⟩ := r2.get (mkL_at (show n < n + 1 by omega))
  refine ⟨p, _, -1, .ref r, rfl, rfl, r1, ?_, q r g2⟩
  unfold atI
  have : ixN (rs.map V.ref).length (-1) = some n := by
    unfold ixN
    rw [List.length_map, if_neg (by omega), if_pos (by omega)]
    congr 1
    omega
  rw [this]
  show (rs.map V.ref)[n]? = _
  rw [List.getElem?_map, g1]
  rfl
abbrev s_ror : Stmt := topS 51
abbrev N_ror : List Str := ["_law_life", "_law_beat", "_law_most", "_law_row", "_law_rests", "_law_olds", "_law_more", "_law_age"]
theorem sc_ror : FnScope N_ror ["_law_life", "_law_beat", "_law_most"] (defScope s_ror) := ⟨rfl, rfl, rfl, by decide +kernel, rfl, by decide +kernel, by decide +kernel⟩
section
variable {P : Program} {w : World} {K : PySem.W.Frag} {mg : Str → Option Value} {base : Heap} {aN aO : Addr}
def spRor (K : PySem.W.Frag) : Sp := fun vs H Q _ => ∃ (p : Addr) (row : List RT) (step : RT) (W D D2 : Int) (beat most : Nat), vs = [.ref p, .int (beat : Int), .int (most : Int)] ∧ LifeAt K H p row step ∧ S32 row step W D D2 ∧ beat ≤ 20 ∧ 1 ≤ most ∧ most ≤ 20 ∧ ∀ H', Same H H' → Q (.bl true) H'
theorem ok_ror {f fPU fLE fT fLA fAG fLAD : Addr} {fd fdPU fdLE fdT fdLA fdAG fdLAD : FuncData} (F : Fun K "_law_rows_right" "_law_rows_right" s_ror f fd)
    (FPU : Fun K "puts" "puts" s_puts fPU fdPU) (bPU : Binds K fdPU ["life", "most"] []) (gPU : mg "puts" = some (.ref fPU)) (GPU : FnOk P w K mg base CX0 5 fPU fdPU ["life", "most"] (spPuts K))
    (FLE : Fun K "lefts" "lefts" s_lefts fLE fdLE) (bLE : Binds K fdLE ["life", "beat", "most"] []) (gLE : mg "lefts" = some (.ref fLE)) (GLE : FnOk P w K mg base CX0 6 fLE fdLE ["life", "beat", "most"] (spLefts K))
    (FT : Fun K "times" "times" s_times fT fdT) (bT : Binds K fdT ["one", "other"] []) (gT : mg "times" = some (.ref fT)) (GT : FnOk P w K mg base CX0 3 fT fdT ["one", "other"] (spTwo K (fun a b c d => a * c)))
    (FLA : Fun K "lasting" "lasting" s_lasting fLA fdLA) (bLA : Binds K fdLA ["life", "k"] []) (gLA : mg "lasting" = some (.ref fLA)) (GLA : FnOk P w K mg base CX0 5 fLA fdLA ["life", "k"] (spLasting K))
    (FAG : Fun K "ages" "ages" s_ages fAG fdAG) (bAG : Binds K fdAG ["life", "beat"] []) (gAG : mg "ages" = some (.ref fAG)) (GAG : FnOk P w K mg base CX0 6 fAG fdAG ["life", "beat"] (spAges K))
    (FLAD : Fun K "_law_added" "_law_added" s_lad fLAD fdLAD) (bLAD : Binds K fdLAD ["_law_some"] []) (gLAD : mg "_law_added" = some (.ref fLAD)) (GLADT : FnOk P w K mg base CX0 4 fLAD fdLAD ["_law_some"] (spLadT K)) (GLAD : FnOk P w K mg base CX0 4 fLAD fdLAD ["_law_some"] (spLad K))
    (n_list : mg "list" = none) (n_range : mg "range" = none) (n_tuple : mg "tuple" = none) : FnOk P w K mg base CX0 8 f fd ["_law_life", "_law_beat", "_law_most"] (spRor K) := by
  refine F.ok sc_ror (fun vs H Q E h => ?_) (fun cdv A outer s H vs Q E hr h => ?_)
  · obtain ⟨_, _, _, _, _, _, _, _, rfl, _⟩ := h
    rfl
  · obtain ⟨p, row, step, W, D, D2, beat, most, rfl, hl, S, hb, hm1, hm, q⟩ := h
    refine ⟨_, (pss_cons (ps_asg (pe_tup (pa_cons (pe_call GPU (hr.mono (by decide)) (by rfl) gPU FPU.kp bPU .nil pass0 (pa_cons (pv 0) (pa_cons (pv 1) pa_nil))) (pa_cons (pe_call GLE (hr.mono (by decide)) (by rfl) gLE FLE.kp bLE .nil pass0 (pa_cons (pv 0) (pa_cons (pv 1) (pa_cons (pv 2) pa_nil)))) pa_nil))) (pg_tup rfl (pgs_cons (pg_name (i := 3) sc_ror.nd rfl (.inr rfl)) (pgs_cons (pg_name (i := 4) sc_ror.nd rfl (.inl rfl)) pgs_nil))))
      (pss_cons (ps_set (i := 5) sc_ror.nd rfl (.inl rfl) (pe_callTy call_tuple_of (by rfl) n_tuple (by decide +kernel) (pa_cons (pe_lc (own := [("_law_age", 7)]) (g := (gName 7)) (tt := tYes) (te := (tCall (spTwo K (fun a b c d => a * c)) [] E0 (tCons (tOp (rIxT K) (tVar 3) (tOp (rI0 fun i j => .int (i - j)) (tVar 1) (tVar 7))) (tCons (tCall (spLasting K) [] E0 (tCons (tVar 0) (tCons (tVar 7) tNil))) tNil)))) rfl sc_ror.nd (pi_range1 (by rfl) n_range (pa_cons (pe_op op_add (pv 1) pe_int) pa_nil)) (blkOk_by (own := [("_law_age", 7)]) (N := N_ror) (sc := (defScope s_ror)) (by decide +kernel)) (fun _ _ _ _ _ => (pg_name (i := 7) sc_ror.nd rfl (.inl rfl))) (fun _ _ _ _ _ => pts_nil) (fun _ _ _ _ _ => (pe_call GT (hr.mono (by decide)) (by rfl) gT FT.kp bT .nil pass0 (pa_cons (pe_ix ix_tup (pv 3) (pe_op op_sub (pv 1) (pv 7)) (fun _ _ => rfl)) (pa_cons (pe_call GLA (hr.mono (by decide)) (by rfl) gLA FLA.kp bLA .nil pass0 (pa_cons (pv 0) (pa_cons (pv 7) pa_nil))) pa_nil))))) pa_nil)))
      (pss_cons (ps_if (PW.pt (pw_or (pt_cmpR (op_neD hr.units) (pe_call GAG (hr.mono (by decide)) (by rfl) gAG FAG.kp bAG .nil pass0 (pa_cons (pv 0) (pa_cons (pv 1) pa_nil))) (pv 5) (nomark _)) (pw_or1 (pt_cmpR (op_neD hr.units) (pe_call GLADT (hr.mono (by decide)) (by rfl) gLAD FLAD.kp bLAD .nil pass0 (pa_cons (pv 5) pa_nil)) (pe_tup (pa_cons pe_int (pa_cons pe_int pa_nil))) (nomark _))))) (pss_one (ps_ret pe_bl)) pss_nil)
      (pss_cons (ps_setLc (i := 6) (own := [("_law_age", 7)]) (g := (gName 7)) (tt := tYes) (te := (tCall (spTwo K (fun a b c d => a * c)) [] E0 (tCons (tOp (rIxT K) (tVar 3) (tOp (rI0 fun i j => .int (i - j)) (tVar 1) (tVar 7))) (tCons (tCall (spLasting K) [] E0 (tCons (tVar 0) (tCons (tOp (rI0 fun i j => .int (i + j)) (tVar 7) (tVar 2)) tNil))) tNil)))) rfl sc_ror.nd rfl rfl (sw_true rfl rfl rfl (by decide +kernel)) (pi_range1 (by rfl) n_range (pa_cons (pe_op op_add (pv 1) pe_int) pa_nil)) (blkOk_by (own := [("_law_age", 7)]) (N := N_ror) (sc := (defScope s_ror)) (by decide +kernel)) (fun _ _ _ _ _ => (pg_name (i := 7) sc_ror.nd rfl (.inl rfl))) (fun _ _ _ _ _ => pts_nil) (fun _ _ _ _ _ => (pe_call GT (hr.mono (by decide)) (by rfl) gT FT.kp bT .nil pass0 (pa_cons (pe_ix ix_tup (pv 3) (pe_op op_sub (pv 1) (pv 7)) (fun _ _ => rfl)) (pa_cons (pe_call GLA (hr.mono (by decide)) (by rfl) gLA FLA.kp bLA .nil pass0 (pa_cons (pv 0) (pa_cons (pe_op op_add (pv 7) (pv 2)) pa_nil))) pa_nil)))))
      (pss_cons (ps_if (pt_cmpR (op_neD hr.units) (pe_call GLAD (hr.mono (by decide)) (by rfl) gLAD FLAD.kp bLAD .nil pass0 (pa_cons (pe_op op_cat (pe_callTy call_list_of (by rfl) n_list (by decide +kernel) (pa_cons (pv 4) pa_nil)) (pv 6)) pa_nil)) (pe_tup (pa_cons pe_int (pa_cons pe_int pa_nil))) (nomark _)) (pss_one (ps_ret pe_bl)) pss_nil)
      (pss_one (ps_ret (pe_or (pe_cmpR op_eq (pv 1) pe_int (nomark _)) (pe_one (pe_cmpR (op_eqD hr.units) (pe_ix ix_tup (pv 4) pe_int (fun _ _ => rfl)) (pe_ix ix_tup (pe_call GPU (hr.mono (by decide)) (by rfl) gPU FPU.kp bPU .nil pass0 (pa_cons (pv 0) (pa_cons (pe_op op_add (pv 1) pe_int) pa_nil))) (pe_un un_neg pe_int) (fun _ _ => rfl)) (nomark _))))))))))), ?_⟩
    have C1 := S.ch
    have CL := S.chl
    have PW := C1.powSm 20
    have szp : ∀ j, j ≤ 20 → Sz (D ^ 20) 20 (renQ (chR row step) oneAt j) := fun j hj => (C1.putSz (e := 20) hj hj).mono hj
    have P1 := Int.mul_pos PW.1 C1.pos
    have P2 := Int.mul_pos PW.1 CL.pos
    have sP1 : Sm 2311 (D ^ 20 * D) := PW.2.mul C1.sm
    have sP2 : Sm 2375 (D ^ 20 * D2) := PW.2.mul CL.sm
    have szA : ∀ j, j < beat + 1 → Sz (D ^ 20 * D) 28 (agesQ (chR row step) beat j) := fun j hj => (szp (beat - j) (by omega)).mul PW.1 C1.pos (C1.lastSz (show j ≤ 20 by omega) (by omega))
    have szM : ∀ j, j < beat + 1 → Sz (D ^ 20 * D2) 28 (moreQ (chR row step) beat most j) := fun j hj => (szp (beat - j) (by omega)).mul PW.1 CL.pos (CL.lastSz (show j + most ≤ 40 by omega) (by omega))
    have szL : ∀ j, j < most → Sz (D ^ 20 * D2) 28 (leftQ (chR row step) beat j) := fun j hj => (Sz.sum (k := 20) (n := beat + 1) P2 (fun i hi => (szp (beat - i) (by omega)).mul PW.1 CL.pos (CL.chSz (show i + j < 40 by omega))) (by omega)).mono (by decide)
    refine ⟨_, rfl, _, rfl, p, row, step, 60, beat, W, rfl, hl, S.ok, S.wok, hb, fun zr H1 s1 hzr => ?_⟩
    have hzr : RowAt K H1 zr (mkL (beat + 1) (renQ (chR row step) oneAt)) := hzr
    refine ⟨_, rfl, _, rfl, _, rfl, p, row, step, 60, beat, most, W, D, D2, rfl, hl.tk (Tk.same s1), S.ok, S.wok, C1, CL.mono (by omega), hb, hm, fun zL H2 s2 hzL => ?_⟩
    refine tnil_go ?_
    refine ⟨by show 2 ≤ sizeLine; decide, fun t nt => ?_⟩
    have e3 := same_new (o := HO.tup [.ref zr, .ref zL]) nt
    refine ⟨t, _, rfl, SqT.of upd_same, rfl, _, _, rfl, _, _, rfl, rfl, ?_⟩
    have hzL3 := hzL.tk (K := K) (Tk.same e3)
    have hzr3 := hzr.tk (K := K) (Tk.same (s2.trans e3))
    have S3 := s1.trans (s2.trans e3)
    generalize upd H2 t (HO.tup [.ref zr, .ref zL]) = H3 at *
    have hl3 := hl.tk (K := K) (Tk.same S3)
    have en1 : ((beat : Int) + 1).toNat = beat + 1 := by omega
    -- olds
    refine ⟨_, rfl, _, 1, rfl, rfl, _, rfl, by show -(2 ^ 62) ≤ (beat : Int) + 1; omega, by show (beat : Int) + 1 < 2 ^ 62; omega, ?_⟩
    refine lc_mk (K := K) (lo := 0) (n := ((beat : Int) + 1).toNat) (agesQ (chR row step) beat) (by omega) (fun k HE R hk sE qr => ?_) (fun zo0 H4 s4 hzo0 => ?_)
    · have hk2 : k < beat + 1 := by omega
      refine ⟨rfl, _, rfl, _, rfl, _, rfl, _, _, rfl, rfl, ?_⟩
      refine RowAt.at (k := beat - k) (hzr3.tk (Tk.same sE)) (by omega) (by omega) fun r hr => ?_
      refine ⟨_, rfl, _, rfl, p, row, step, 60, k, (by show [V.ref p, V.int (0 + (k : Int))] = _; rw [Int.zero_add]), hl3.tk (Tk.same sE), S.ok, by omega, fun z x HF sF hz sx vx => ?_⟩
      rw [is_rdq sx.1 (vx.trans (by rw [sumCh_to]; try rfl))] at hz
      refine tnil_go ?_
      exact times_go (x := renQ (chR row step) oneAt (beat - k)) (y := lastQ (chR row step) k) (hr.tk (Tk.same sF)) hz ((szp (beat - k) (by omega)).smr PW.1 PW.2 (by decide)) ((C1.lastSz (show k ≤ 20 by omega) (by omega)).smr C1.pos C1.sm (by decide)) fun z9 H9 s9 hz9 => qr z9 H9 (sF.trans s9) hz9
    rw [en1] at hzo0
    obtain ⟨os, o1, o2⟩ := hzo0
    refine tnil_go ?_
    refine ⟨zo0, _, rfl, .inl ⟨SqL.of o1, fun zo nzo => ?_⟩⟩
    have e5 := same_new (o := HO.tup (os.map V.ref)) nzo
    have hzo := RowAt.of_ls o1 o2 nzo
    have S5 := s4.trans e5
    generalize upd H4 zo (HO.tup (os.map V.ref)) = H5 at *
    -- ages
    refine ⟨_, rfl, _, rfl, p, row, step, 60, beat, W, D, rfl, hl3.tk (Tk.same S5), S.ok, S.wok, C1, hb, fun za H6 s6 hza => ?_⟩
    refine ⟨_, rfl, ?_⟩
    refine neT_go hza (hzo.tk (Tk.same s6)) ?_
    refine ⟨_, rfl, ?_⟩
    refine iteF ?_
    refine ⟨_, rfl, zo, beat + 1, 2311, 28, agesQ (chR row step) beat, D ^ 20 * D, rfl, hzo.tk (Tk.same s6), P1, sP1, szA, by omega, by decide, fun zs H7 s7 hzs => ?_⟩
    rw [ages_one] at hzs
    refine ⟨by show 2 ≤ sizeLine; decide, fun t1 n1 => ?_⟩
    have e8 := same_new (o := HO.tup [.int 1, .int 1]) n1
    rw [one_rdq] at hzs
    refine neR_go (x := (1, 1)) (hzs.tk (Tk.same e8)) (SqT.of upd_same) ?_
    refine ⟨_, rfl, iteF ?_⟩
    have S8 := S5.trans (s6.trans (s7.trans e8))
    generalize upd H7 t1 (HO.tup [.int 1, .int 1]) = H8 at *
    have hl8 := hl3.tk (K := K) (Tk.same S8)
    have hzr8 := hzr3.tk (K := K) (Tk.same S8)
    have hzL8 := hzL3.tk (K := K) (Tk.same S8)
    -- more
    refine ⟨_, rfl, _, 1, rfl, rfl, _, rfl, by show -(2 ^ 62) ≤ (beat : Int) + 1; omega, by show (beat : Int) + 1 < 2 ^ 62; omega, ?_⟩
    refine lc_mk (K := K) (lo := 0) (n := ((beat : Int) + 1).toNat) (moreQ (chR row step) beat most) (by omega) (fun k HE R hk sE qr => ?_) (fun zm H9 s9 hzm => ?_)
    · have hk2 : k < beat + 1 := by omega
      refine ⟨rfl, _, rfl, _, rfl, _, rfl, _, _, rfl, rfl, ?_⟩
      refine RowAt.at (k := beat - k) (hzr8.tk (Tk.same sE)) (by omega) (by omega) fun r hr => ?_
      refine ⟨_, rfl, _, rfl, _, rfl, _, _, rfl, rfl, p, row, step, 60, k + most, (by show [V.ref p, V.int (0 + (k : Int) + (most : Int))] = _; rw [show (0 : Int) + (k : Int) + (most : Int) = ((k + most : Nat) : Int) by omega]), hl8.tk (Tk.same sE), S.ok, by omega, fun z x HF sF hz sx vx => ?_⟩
      rw [is_rdq sx.1 (vx.trans (by rw [sumCh_to]; try rfl))] at hz
      refine tnil_go ?_
      exact times_go (x := renQ (chR row step) oneAt (beat - k)) (y := lastQ (chR row step) (k + most)) (hr.tk (Tk.same sF)) hz ((szp (beat - k) (by omega)).smr PW.1 PW.2 (by decide)) ((CL.lastSz (show k + most ≤ 40 by omega) (by omega)).smr CL.pos CL.sm (by decide)) fun z9 H9 s9 hz9 => qr z9 H9 (sF.trans s9) hz9
    rw [en1] at hzm
    have hzm : LsM K H9 zm (mkL (beat + 1) (moreQ (chR row step) beat most)) := hzm
    obtain ⟨ls, l1, l2⟩ := id hzL8
    refine ⟨_, rfl, zL, _, rfl, .inr (sqT_same s9 l1), fun l nl => ?_⟩
    have e10 := same_new (o := HO.lst (ls.map V.ref)) nl
    have hll : LsM K (upd H9 l (HO.lst (ls.map V.ref))) l (mkL most (leftQ (chR row step) beat)) := ⟨ls, upd_same, l2.tk (Tk.same (s9.trans e10))⟩
    refine ⟨_, rfl, ?_⟩
    refine cat_ls hll (hzm.same e10) (by rw [mkL_len, mkL_len]; omega) fun lb H11 s11 hlb => ?_
    rw [mkL_cat] at hlb
    refine tnil_go ?_
    refine ⟨lb, most + (beat + 1), 2375, 28, catQ most (leftQ (chR row step) beat) (moreQ (chR row step) beat most), D ^ 20 * D2, rfl, hlb, P2, sP2, fun j hj => ?_, by omega, by decide, fun zt H12 s12 hzt => ?_⟩
    · unfold catQ
      split
      · exact szL j (by omega)
      · exact szM (j - most) (by omega)
    rw [sum_cat, all_one, one_rdq] at hzt
    refine ⟨by show 2 ≤ sizeLine; decide, fun t2 n2 => ?_⟩
    have e13 := same_new (o := HO.tup [.int 1, .int 1]) n2
    refine neR_go (x := (1, 1)) (hzt.tk (Tk.same e13)) (SqT.of upd_same) ?_
    refine ⟨_, rfl, iteF ?_⟩
    have S13 := S8.trans (s9.trans (e10.trans (s11.trans (s12.trans e13))))
    generalize upd H12 t2 (HO.tup [.int 1, .int 1]) = H13 at *
    have SE := S3.trans S13
    have hlE := hl3.tk (K := K) (Tk.same S13)
    have hzLE := hzL3.tk (K := K) (Tk.same S13)
    refine ⟨_, rfl, rfl, ?_⟩
    by_cases hb20 : beat = 20
    · refine ⟨true, ?_, ?_⟩
      · rw [decide_eq_true (show V.int (beat : Int) = V.int 20 by rw [hb20]; rfl)]
      · refine iteT ?_
        exact q _ SE
    · refine ⟨false, ?_, ?_⟩
      · rw [decide_eq_false (show ¬ V.int (beat : Int) = V.int 20 from fun u => hb20 (by have := V.int.inj u; omega))]
      refine iteF ?_
      refine ⟨_, rfl, ?_⟩
      refine tC_go ?_
      refine RowAt.at (i := 0) (k := 0) hzLE rfl (by omega) fun r0 h0 => ?_
      refine ⟨_, rfl, _, rfl, _, 1, rfl, rfl, p, row, step, 60, beat + 1, W, (by show [V.ref p, V.int ((beat : Int) + 1)] = _; rw [show (beat : Int) + 1 = ((beat + 1 : Nat) : Int) by omega]), hlE, S.ok, S.wok, by omega, fun zq HF sF hzq => ?_⟩
      have hzq : RowAt K HF zq (mkL (beat + 1 + 1) (renQ (chR row step) oneAt)) := hzq
      refine ⟨1, rfl, ?_⟩
      refine RowAt.back hzq fun r9 h9 => ?_
      rw [first_left] at h0
      exact eqR_go (h0.tk (Tk.same sF)) h9 (q _ (SE.trans sF))
end

end Fp

set_option Elab.async false
set_option linter.all false
set_option maxRecDepth 100000
set_option maxHeartbeats 4000000
set_option exponentiation.threshold 10000
namespace Fp
open PySem PySem.Spec PyProof.Rows L2
/-! ### the law: pairs hang together -/
theorem sIx_neg {n d k : Nat} (hk : 0 < k) : HT.sIx n d (some (-(k : Int))) = n - k := by
  unfold HT.sIx
  show (if -(k : Int) < 0 then (-(k : Int) + (n : Int)).toNat else _) = _
  rw [if_pos (by omega)]
  omega
/-- row[-k:] -/
theorem tail_row {K : PySem.W.Frag} {H : Hp} {p : Addr} {xs : List RT} {k : Nat} {Q : VK} (hk : 0 < k) (h : RowAt K H p xs) (hq : ∀ r H', Same H H' → RowAt K H' r (xs.drop (xs.length - k)) → Q (.ref r) H') : rSlA K (.ref p) (some (-(k : Int))) none H Q := by
  obtain ⟨rs, h1, h2⟩ := h
  have hl := h2.length
  refine ⟨p, _, rfl, h1, fun z => ?_, fun _ r nr => ?_⟩
  · have z1 := z.1
    rw [sIx_neg hk, List.length_map, hl] at z1
    refine hq p H (Same.refl H) ?_
    rw [z1, List.drop_zero]
    exact ⟨rs, h1, h2⟩
  · have ec : cutV (rs.map V.ref) (some (-(k : Int))) none = (rs.map V.ref).drop (xs.length - k) := by
      unfold cutV
      rw [HT.sIx_none, sIx_neg hk, List.length_map, hl]
      exact List.take_of_length_le (by rw [List.length_drop, List.length_map, hl]; omega)
    rw [ec]
    have s := same_new (o := HO.tup ((rs.map V.ref).drop (xs.length - k))) nr
    refine hq r _ s ⟨rs.drop (xs.length - k), ?_, (h2.drop _).tk (Tk.same s)⟩
    rw [List.map_drop]
    exact SqT.of upd_same
theorem mkL_dropN (n d : Nat) (f : Nat → Rat) : (mkL n f).drop d = mkL (n - d) fun i => f (d + i) := by
  refine List.ext_getElem? fun i => ?_
  rw [List.getElem?_drop]
  rcases (by omega : d + i < n ∨ n ≤ d + i) with z | z
  · rw [mkL_at z, mkL_at (by omega)]
  · rw [List.getElem?_eq_none (by rw [mkL_len]; exact z), List.getElem?_eq_none (by rw [mkL_len]; omega)]
theorem pairs_left (a : Nat → Rat) (beat left : Nat) (h : 1 ≤ left) : (sumTo (beat + 1) fun age => aalQ a beat age left) = leftQ a beat (left - 1) := by
  unfold leftQ aalQ
  refine sumTo_congr fun i hi => ?_
  rw [if_pos (by omega), show i + left - 1 = i + (left - 1) by omega]
theorem since_tail (a : Nat → Rat) (beat long : Nat) (h : 1 ≤ long) : (sumTo (beat + 1 - (beat + 1 - long)) fun i => renQ a oneAt (beat + 1 - long + i)) = sinceQ a beat (long - 1) := by
  unfold sinceQ
  rw [show beat - (long - 1) = beat + 1 - long by omega]
theorem pairs_long (a : Nat → Rat) (beat long c : Nat) (h : 1 ≤ long) (hc : c = min long (beat + 1)) : (sumTo c fun age => aalQ a beat age (long - age)) = strQ a beat (long - 1) := by
  unfold strQ
  rw [← since_tail a beat long h, sumTo_mul, show beat + 1 - (beat + 1 - long) = c by omega, ← sumTo_rev]
  refine sumTo_congr fun i hi => ?_
  unfold aalQ
  rw [if_pos (by omega), show c - 1 - i + (long - (c - 1 - i)) - 1 = long - 1 by omega, show beat - (c - 1 - i) = beat + 1 - long + i by omega]
  grind
abbrev s_par : Stmt := topS 52
abbrev N_par : List Str := ["_law_life", "_law_beat", "_law_left", "_law_long", "_law_some", "_law_found", "_law_age"]
theorem sc_par : FnScope N_par ["_law_life", "_law_beat", "_law_left", "_law_long"] (defScope s_par) := ⟨rfl, rfl, rfl, by decide +kernel, rfl, by decide +kernel, by decide +kernel⟩
section
variable {P : Program} {w : World} {K : PySem.W.Frag} {mg : Str → Option Value} {base : Heap} {aN aO : Addr}
def spPar (K : PySem.W.Frag) : Sp := fun vs H Q _ => ∃ (p : Addr) (row : List RT) (step : RT) (W D D2 : Int) (beat left long : Nat), vs = [.ref p, .int (beat : Int), .int (left : Int), .int (long : Int)] ∧ LifeAt K H p row step ∧ S32 row step W D D2 ∧ beat ≤ 20 ∧ 1 ≤ left ∧ left ≤ 20 ∧ 1 ≤ long ∧ long ≤ 20 ∧ ∀ H', Same H H' → Q (.bl true) H'
theorem ok_par {f fAF fLAD fLE fSR fT fCA fPU : Addr} {fd fdAF fdLAD fdLE fdSR fdT fdCA fdPU : FuncData} (F : Fun K "_law_pairs_right" "_law_pairs_right" s_par f fd)
    (FAF : Fun K "age_and_left" "age_and_left" s_aal fAF fdAF) (bAF : Binds K fdAF ["life", "beat", "age", "left"] []) (gAF : mg "age_and_left" = some (.ref fAF)) (GAF : FnOk P w K mg base CX0 6 fAF fdAF ["life", "beat", "age", "left"] (spAal K))
    (FLAD : Fun K "_law_added" "_law_added" s_lad fLAD fdLAD) (bLAD : Binds K fdLAD ["_law_some"] []) (gLAD : mg "_law_added" = some (.ref fLAD)) (GLAD : FnOk P w K mg base CX0 4 fLAD fdLAD ["_law_some"] (spLad K)) (GLADT : FnOk P w K mg base CX0 4 fLAD fdLAD ["_law_some"] (spLadT K))
    (FLE : Fun K "lefts" "lefts" s_lefts fLE fdLE) (bLE : Binds K fdLE ["life", "beat", "most"] []) (gLE : mg "lefts" = some (.ref fLE)) (GLE : FnOk P w K mg base CX0 6 fLE fdLE ["life", "beat", "most"] (spLefts K))
    (FSR : Fun K "stretches" "stretches" s_stretches fSR fdSR) (bSR : Binds K fdSR ["life", "beat", "most"] []) (gSR : mg "stretches" = some (.ref fSR)) (GSR : FnOk P w K mg base CX0 6 fSR fdSR ["life", "beat", "most"] (spStr K))
    (FT : Fun K "times" "times" s_times fT fdT) (bT : Binds K fdT ["one", "other"] []) (gT : mg "times" = some (.ref fT)) (GT : FnOk P w K mg base CX0 3 fT fdT ["one", "other"] (spTwo K (fun a b c d => a * c)))
    (FCA : Fun K "chance_at" "chance_at" s_chat fCA fdCA) (bCA : Binds K fdCA ["life", "k"] []) (gCA : mg "chance_at" = some (.ref fCA)) (GCA : FnOk P w K mg base CX0 5 fCA fdCA ["life", "k"] (spChat K))
    (FPU : Fun K "puts" "puts" s_puts fPU fdPU) (bPU : Binds K fdPU ["life", "most"] []) (gPU : mg "puts" = some (.ref fPU)) (GPU : FnOk P w K mg base CX0 5 fPU fdPU ["life", "most"] (spPuts K))
    (n_min : mg "min" = none) (n_range : mg "range" = none) : FnOk P w K mg base CX0 8 f fd ["_law_life", "_law_beat", "_law_left", "_law_long"] (spPar K) := by
  refine F.ok sc_par (fun vs H Q E h => ?_) (fun cdv A outer s H vs Q E hr h => ?_)
  · obtain ⟨_, _, _, _, _, _, _, _, _, rfl, _⟩ := h
    rfl
  · obtain ⟨p, row, step, W, D, D2, beat, left, long, rfl, hl, S, hb, hl1, hl2, hg1, hg2, q⟩ := h
    refine ⟨_, (pss_cons (ps_setLc (i := 4) (own := [("_law_age", 6)]) (g := (gName 6)) (tt := tYes) (te := (tCall (spAal K) [] E0 (tCons (tVar 0) (tCons (tVar 1) (tCons (tVar 6) (tCons (tVar 2) tNil)))))) rfl sc_par.nd rfl rfl (sw_true rfl rfl rfl (by decide +kernel)) (pi_range1 (by rfl) n_range (pa_cons (pe_op op_add (pv 1) pe_int) pa_nil)) (blkOk_by (own := [("_law_age", 6)]) (N := N_par) (sc := (defScope s_par)) (by decide +kernel)) (fun _ _ _ _ _ => (pg_name (i := 6) sc_par.nd rfl (.inl rfl))) (fun _ _ _ _ _ => pts_nil) (fun _ _ _ _ _ => (pe_call GAF (hr.mono (by decide)) (by rfl) gAF FAF.kp bAF .nil pass0 (pa_cons (pv 0) (pa_cons (pv 1) (pa_cons (pv 6) (pa_cons (pv 2) pa_nil)))))))
      (pss_cons (ps_if (pt_cmpR (op_neD hr.units) (pe_call GLAD (hr.mono (by decide)) (by rfl) gLAD FLAD.kp bLAD .nil pass0 (pa_cons (pv 4) pa_nil)) (pe_ix ix_tup (pe_call GLE (hr.mono (by decide)) (by rfl) gLE FLE.kp bLE .nil pass0 (pa_cons (pv 0) (pa_cons (pv 1) (pa_cons (pv 2) pa_nil)))) (pe_un un_neg pe_int) (fun _ _ => rfl)) (nomark _)) (pss_one (ps_ret pe_bl)) pss_nil)
      (pss_cons (ps_set (i := 5) sc_par.nd rfl (.inl rfl) (pe_ix ix_tup (pe_call GSR (hr.mono (by decide)) (by rfl) gSR FSR.kp bSR .nil pass0 (pa_cons (pv 0) (pa_cons (pv 1) (pa_cons (pv 3) pa_nil)))) (pe_un un_neg pe_int) (fun _ _ => rfl)))
      (pss_cons (ps_setLc (i := 4) (own := [("_law_age", 6)]) (g := (gName 6)) (tt := tYes) (te := (tCall (spAal K) [] E0 (tCons (tVar 0) (tCons (tVar 1) (tCons (tVar 6) (tCons (tOp (rI0 fun i j => .int (i - j)) (tVar 3) (tVar 6)) tNil)))))) rfl sc_par.nd rfl rfl (sw_true rfl rfl rfl (by decide +kernel)) (pi_range1 (by rfl) n_range (pa_cons (pe_callB (call_min2 rfl) (by rfl) n_min (by decide +kernel) (pa_cons (pv 3) (pa_cons (pe_op op_add (pv 1) pe_int) pa_nil))) pa_nil)) (blkOk_by (own := [("_law_age", 6)]) (N := N_par) (sc := (defScope s_par)) (by decide +kernel)) (fun _ _ _ _ _ => (pg_name (i := 6) sc_par.nd rfl (.inl rfl))) (fun _ _ _ _ _ => pts_nil) (fun _ _ _ _ _ => (pe_call GAF (hr.mono (by decide)) (by rfl) gAF FAF.kp bAF .nil pass0 (pa_cons (pv 0) (pa_cons (pv 1) (pa_cons (pv 6) (pa_cons (pe_op op_sub (pv 3) (pv 6)) pa_nil)))))))
      (pss_one (ps_ret (pe_chain (op_eqD hr.units) (op_eqD hr.units) (pe_call GLAD (hr.mono (by decide)) (by rfl) gLAD FLAD.kp bLAD .nil pass0 (pa_cons (pv 4) pa_nil)) (pv 5) (pe_call GT (hr.mono (by decide)) (by rfl) gT FT.kp bT .nil pass0 (pa_cons (pe_call GCA (hr.mono (by decide)) (by rfl) gCA FCA.kp bCA .nil pass0 (pa_cons (pv 0) (pa_cons (pv 3) pa_nil))) (pa_cons (pe_call GLADT (hr.mono (by decide)) (by rfl) gLAD FLAD.kp bLAD .nil pass0 (pa_cons (pe_slice sl_tupA (pe_call GPU (hr.mono (by decide)) (by rfl) gPU FPU.kp bPU .nil pass0 (pa_cons (pv 0) (pa_cons (pv 1) pa_nil))) (po_some (pe_un un_neg (pv 3))) po_none) pa_nil)) pa_nil)))))))))), ?_⟩
    have C1 := S.ch
    have CL := S.chl
    have PW := C1.powSm 20
    have szp : ∀ j, j ≤ 20 → Sz (D ^ 20) 20 (renQ (chR row step) oneAt j) := fun j hj => (C1.putSz (e := 20) hj hj).mono hj
    have P2 := Int.mul_pos PW.1 CL.pos
    have sP2 : Sm 2375 (D ^ 20 * D2) := PW.2.mul CL.sm
    have szF : ∀ age lf, age + lf ≤ 40 → 1 ≤ lf → Sz (D ^ 20 * D2) 20 (aalQ (chR row step) beat age lf) := fun age lf h1 h2 => by
      unfold aalQ
      split
      · exact (szp (beat - age) (by omega)).mul PW.1 CL.pos (CL.chSz (show age + lf - 1 < 40 by omega))
      · exact Sz.nought
    have en1 : ((beat : Int) + 1).toNat = beat + 1 := by omega
    -- pairs by their left
    refine ⟨_, rfl, _, 1, rfl, rfl, _, rfl, by show -(2 ^ 62) ≤ (beat : Int) + 1; omega, by show (beat : Int) + 1 < 2 ^ 62; omega, ?_⟩
    refine lc_mk (K := K) (lo := 0) (n := ((beat : Int) + 1).toNat) (fun age => aalQ (chR row step) beat age left) (by omega) (fun k HE R hk sE qr => ?_) (fun zs H1 s1 hzs => ?_)
    · refine ⟨rfl, _, rfl, _, rfl, _, rfl, _, rfl, p, row, step, 60, beat, k, left, W, D, (by show [V.ref p, V.int (beat : Int), V.int (0 + (k : Int)), V.int (left : Int)] = _; rw [Int.zero_add]), hl.tk (Tk.same sE), S.ok, S.wok, C1, hb, hl1, by omega, fun z H s hz => qr z H s hz⟩
    rw [en1] at hzs
    have hzs : LsM K H1 zs (mkL (beat + 1) fun age => aalQ (chR row step) beat age left) := hzs
    refine ⟨_, rfl, zs, beat + 1, 2375, 20, _, D ^ 20 * D2, rfl, hzs, P2, sP2, fun j hj => szF j left (by omega) hl1, by omega, by decide, fun z2 H2 s2 hz2 => ?_⟩
    rw [pairs_left _ _ _ hl1] at hz2
    have S2 := s1.trans s2
    refine ⟨_, rfl, _, rfl, _, rfl, p, row, step, 60, beat, left, W, D, D2, rfl, hl.tk (Tk.same S2), S.ok, S.wok, C1, CL.mono (by omega), hb, by omega, fun z3 H3 s3 hz3 => ?_⟩
    refine ⟨1, rfl, ?_⟩
    refine RowAt.back (n := left - 1) (f := leftQ (chR row step) beat) (by rw [show left - 1 + 1 = left by omega]; exact hz3) fun r3 hr3 => ?_
    refine neR_go (hz2.tk (Tk.same s3)) hr3 ?_
    refine ⟨_, rfl, iteF ?_⟩
    have S3 := S2.trans s3
    -- a stretch
    refine ⟨_, rfl, _, rfl, _, rfl, p, row, step, 60, beat, long, W, D, rfl, hl.tk (Tk.same S3), S.ok, S.wok, C1, hb, hg2, fun z4 H4 s4 hz4 => ?_⟩
    refine ⟨1, rfl, ?_⟩
    refine RowAt.back (n := long - 1) (f := strQ (chR row step) beat) (by rw [show long - 1 + 1 = long by omega]; exact hz4) fun rf hrf => ?_
    have S4 := S3.trans s4
    -- its pairs
    obtain ⟨c, hc⟩ : ∃ c : Nat, c = min long (beat + 1) := ⟨_, rfl⟩
    have ec : (if (beat : Int) + 1 < (long : Int) then (beat : Int) + 1 else (long : Int)) = (c : Int) := by split <;> omega
    refine ⟨_, rfl, _, rfl, _, 1, rfl, rfl, _, _, rfl, ?_⟩
    refine tnil_go ?_
    refine ⟨_, rfl, by rw [ec]; omega, by rw [ec]; omega, ?_⟩
    have en2 : (if (beat : Int) + 1 < (long : Int) then (beat : Int) + 1 else (long : Int)).toNat = c := by rw [ec]; exact Int.toNat_natCast c
    refine lc_mk (K := K) (lo := 0) (n := (if (beat : Int) + 1 < (long : Int) then (beat : Int) + 1 else (long : Int)).toNat) (fun age => aalQ (chR row step) beat age (long - age)) (by omega) (fun k HE R hk sE qr => ?_) (fun z5 H5 s5 hz5 => ?_)
    · have hk2 : k < c := by omega
      refine ⟨rfl, _, rfl, _, rfl, _, rfl, _, rfl, _, rfl, _, _, rfl, rfl, p, row, step, 60, beat, k, long - k, W, D, (by show [V.ref p, V.int (beat : Int), V.int (0 + (k : Int)), V.int ((long : Int) - (0 + (k : Int)))] = _; rw [Int.zero_add, show (long : Int) - (k : Int) = ((long - k : Nat) : Int) by omega]), hl.tk (Tk.same (S4.trans sE)), S.ok, S.wok, C1, hb, by omega, by omega, fun z H s hz => qr z H s hz⟩
    rw [en2] at hz5
    have hz5 : LsM K H5 z5 (mkL c fun age => aalQ (chR row step) beat age (long - age)) := hz5
    -- all alike
    refine ⟨_, rfl, z5, c, 2375, 20, _, D ^ 20 * D2, rfl, hz5, P2, sP2, fun j hj => szF j (long - j) (by omega) (by omega), by omega, by decide, fun z6 H6 s6 hz6 => ?_⟩
    rw [pairs_long _ _ _ _ hg1 hc] at hz6
    refine ⟨_, rfl, ?_⟩
    refine eqR_go hz6 (hrf.tk (Tk.same (s5.trans s6))) ?_
    refine ⟨_, rfl, iteT ?_⟩
    have S6 := S4.trans (s5.trans s6)
    refine ⟨_, rfl, _, rfl, p, row, step, 60, long, rfl, hl.tk (Tk.same S6), S.ok, hg1, by omega, fun z7 x7 H7 s7 hz7 sx vx => ?_⟩
    rw [is_rdq sx.1 vx] at hz7
    refine ⟨_, rfl, _, rfl, p, row, step, 60, beat, W, rfl, hl.tk (Tk.same (S6.trans s7)), S.ok, S.wok, hb, fun z8 H8 s8 hz8 => ?_⟩
    have hz8 : RowAt K H8 z8 (mkL (beat + 1) (renQ (chR row step) oneAt)) := hz8
    refine ⟨_, rfl, _, rfl, _, rfl, ?_⟩
    refine tNoPart_go ?_
    refine tail_row (k := long) (by omega) hz8 fun z9 H9 s9 hz9 => ?_
    rw [mkL_len, mkL_dropN] at hz9
    refine tnil_go ?_
    refine ⟨z9, _, 2201, 20, _, D ^ 20, rfl, hz9, PW.1, PW.2, fun j hj => szp _ (by omega), by omega, by decide, fun z10 H10 s10 hz10 => ?_⟩
    rw [since_tail _ _ _ hg1] at hz10
    refine tnil_go ?_
    have szS : Sz (D ^ 20) 27 (sinceQ (chR row step) beat (long - 1)) := by
      rw [← since_tail _ _ _ hg1]
      exact Sz.sum (k := 20) PW.1 (fun j hj => szp _ (by omega)) (by omega)
    refine times_go (x := chR row step (long - 1)) (hz7.tk (Tk.same (s8.trans (s9.trans s10)))) hz10 ((C1.chSz (show long - 1 < 20 by omega)).smr C1.pos C1.sm (by decide)) (szS.smr PW.1 PW.2 (by decide)) fun zt H11 s11 hzt => ?_
    have S11 := S6.trans (s7.trans (s8.trans (s9.trans (s10.trans s11))))
    exact eqR_go (hrf.tk (Tk.same (s5.trans (s6.trans (s7.trans (s8.trans (s9.trans (s10.trans s11)))))))) hzt (q _ S11)
end

end Fp

set_option Elab.async false
set_option linter.all false
set_option maxRecDepth 100000
set_option maxHeartbeats 4000000
set_option exponentiation.threshold 10000
namespace Fp
open PySem PySem.Spec PyProof.Rows L2
/-! ### the law: what stands hangs together -/
section
variable {row : List RT} {step : RT} {W : Int}
theorem ML.missSz (M : ML row step W) : Sz (W * (step.2 - step.1)) 9 (1 - (rowQ row + behQ row step)) := by
  obtain ⟨g1, _, _, _⟩ := M.gap
  have hP := Int.mul_pos M.w.pos g1
  have h13 := M.len
  have z1 : Sz (W * (step.2 - step.1)) 7 (rowQ row) := by
    rw [rowQ_all row step]
    refine Sz.sum (k := 0) hP (fun j hj => ?_) (by omega)
    rw [chR_in (List.getElem?_eq_getElem hj)]
    exact (M.rowz (List.getElem_mem hj)).dvd M.w.pos hP (Int.dvd_mul_right ..)
  have z2 := z1.add hP (M.beh.mono (by decide))
  have e : 1 - (rowQ row + behQ row step) = 1 + -(rowQ row + behQ row step) := by grind
  rw [e]
  exact (Sz.one hP).add hP z2.neg
end
theorem pick2 {r : Int} (h0 : 0 ≤ r) (h1 : r < 13) (b : Bool) : ∃ m : Nat, atI [V.int r, V.int 20] (if b = true then 1 else 0) = some (.int (m : Int)) ∧ m ≤ 20 := by
  cases b
  · exact ⟨r.toNat, by rw [show ((r.toNat : Nat) : Int) = r by omega]; exact atI_nat (j := 0) rfl, by omega⟩
  · exact ⟨20, atI_nat (j := 1) rfl, by decide⟩
abbrev s_law : Stmt := topS 53
abbrev N_law : List Str := ["_law_script", "_law_feed_here", "_law_way", "_law_left", "_law_long", "_law_beat", "_law_most", "_law_life", "_law_puts_here", "_law_later_on", "_law_middle"]
theorem sc_law : FnScope N_law ["_law_script"] (defScope s_law) := ⟨rfl, rfl, rfl, by decide +kernel, rfl, by decide +kernel, by decide +kernel⟩
section
variable {P : Program} {w : World} {K : PySem.W.Frag} {mg : Str → Option Value} {base : Heap}
theorem ok_law {f fE fD fDL fEF fROR fPAR fPL fMB fSY fT fMI fMLF fME : Addr} {fd fdE fdD fdDL fdEF fdROR fdPAR fdPL fdMB fdSY fdT fdMI fdMLF fdME : FuncData} (F : Fun K "law" "law" s_law f fd)
    (FE : Fun K "_law_feed" "_law_feed" s_feed fE fdE) (bE : Binds K fdE ["_law_script"] []) (gE : mg "_law_feed" = some (.ref fE)) (GE : FnOk P w K mg base CX0 1 fE fdE ["_law_script"] (spFeed K))
    (FD : Fun K "_law_draw" "_law_draw" s_draw fD fdD) (bD : Binds K fdD ["_law_feed_here", "_law_many"] []) (gD : mg "_law_draw" = some (.ref fD)) (GD : FnOk P w K mg base CX0 1 fD fdD ["_law_feed_here", "_law_many"] spDraw)
    (FDL : Fun K "_law_drawn_life" "_law_drawn_life" s_dl fDL fdDL) (bDL : Binds K fdDL ["_law_feed_here", "_law_full", "_law_bounded"] []) (gDL : mg "_law_drawn_life" = some (.ref fDL)) (GDL : FnOk P w K mg base CX0 3 fDL fdDL ["_law_feed_here", "_law_full", "_law_bounded"] (spDl K))
    (FEF : Fun K "even_first" "even_first" s_ef fEF fdEF) (bEF : Binds K fdEF ["life"] []) (gEF : mg "even_first" = some (.ref fEF)) (GEF : FnOk P w K mg base CX0 9 fEF fdEF ["life"] (spEf K))
    (FROR : Fun K "_law_rows_right" "_law_rows_right" s_ror fROR fdROR) (bROR : Binds K fdROR ["_law_life", "_law_beat", "_law_most"] []) (gROR : mg "_law_rows_right" = some (.ref fROR)) (GROR : FnOk P w K mg base CX0 8 fROR fdROR ["_law_life", "_law_beat", "_law_most"] (spRor K))
    (FPAR : Fun K "_law_pairs_right" "_law_pairs_right" s_par fPAR fdPAR) (bPAR : Binds K fdPAR ["_law_life", "_law_beat", "_law_left", "_law_long"] []) (gPAR : mg "_law_pairs_right" = some (.ref fPAR)) (GPAR : FnOk P w K mg base CX0 8 fPAR fdPAR ["_law_life", "_law_beat", "_law_left", "_law_long"] (spPar K))
    (FPL : Fun K "plus" "plus" s_plus fPL fdPL) (bPL : Binds K fdPL ["one", "other"] []) (gPL : mg "plus" = some (.ref fPL)) (GPL : FnOk P w K mg base CX0 3 fPL fdPL ["one", "other"] (spTwo K (fun a b c d => a * d + c * b)))
    (FMB : Fun K "many_by" "many_by" s_mb fMB fdMB) (bMB : Binds K fdMB ["life", "beat"] []) (gMB : mg "many_by" = some (.ref fMB)) (GMB : FnOk P w K mg base CX0 6 fMB fdMB ["life", "beat"] (spMb K))
    (FSY : Fun K "stays" "stays" s_stays fSY fdSY) (bSY : Binds K fdSY ["life", "beat"] []) (gSY : mg "stays" = some (.ref fSY)) (GSY : FnOk P w K mg base CX0 6 fSY fdSY ["life", "beat"] (spStays K))
    (FT : Fun K "times" "times" s_times fT fdT) (bT : Binds K fdT ["one", "other"] []) (gT : mg "times" = some (.ref fT)) (GT : FnOk P w K mg base CX0 3 fT fdT ["one", "other"] (spTwo K (fun a b c d => a * c)))
    (FMI : Fun K "miss" "miss" s_miss fMI fdMI) (bMI : Binds K fdMI ["life"] []) (gMI : mg "miss" = some (.ref fMI)) (GMI : FnOk P w K mg base CX0 5 fMI fdMI ["life"] (spMiss K))
    (FMLF : Fun K "mean_left" "mean_left" s_ml fMLF fdMLF) (bMLF : Binds K fdMLF ["life", "beat"] []) (gMLF : mg "mean_left" = some (.ref fMLF)) (GMLF : FnOk P w K mg base CX0 7 fMLF fdMLF ["life", "beat"] (spMl K))
    (FME : Fun K "mean" "mean" s_mean fME fdME) (bME : Binds K fdME ["life"] []) (gME : mg "mean" = some (.ref fME)) (GME : FnOk P w K mg base CX0 6 fME fdME ["life"] (spMean K))
    (n_int : mg "int" = none) : FnG P w K mg base CX0 10 f fd ["_law_script"] (spLaw K) := by
  refine okG F sc_law (fun vs H Q E h => ?_) (fun cdv A outer s H vs Q E hq hr h => ?_)
  · obtain ⟨_, _, rfl, _⟩ := h
    rfl
  · obtain ⟨a0, ns, rfl, hS, q⟩ := h
    refine ⟨_, (pss_cons (ps_set (i := 1) sc_law.nd rfl (.inl rfl) (pe_call GE (hr.mono (by decide)) (by rfl) gE FE.kp bE .nil pass0 (pa_cons (pv 0) pa_nil)))
      (pss_cons (ps_par3 (i := 2) (j := 3) (l := 4) rfl sc_law.nd rfl rfl rfl (by decide) (by decide) (by decide) rfl rfl rfl (pa_cons (pe_call GD (hr.mono (by decide)) (by rfl) gD FD.kp bD .nil pass0 (pa_cons (pv 1) (pa_cons pe_int pa_nil))) (pa_cons (pe_op op_add pe_int (pe_call GD (hr.mono (by decide)) (by rfl) gD FD.kp bD .nil pass0 (pa_cons (pv 1) (pa_cons pe_int pa_nil)))) (pa_cons (pe_op op_add pe_int (pe_call GD (hr.mono (by decide)) (by rfl) gD FD.kp bD .nil pass0 (pa_cons (pv 1) (pa_cons pe_int pa_nil)))) pa_nil))) (by rfl))
      (pss_cons (ps_par (i := 5) (j := 6) rfl sc_law.nd rfl rfl (by decide) rfl rfl (pa_cons (pe_ix ix_list (pe_lst (pa_cons (pe_call GD (hr.mono (by decide)) (by rfl) gD FD.kp bD .nil pass0 (pa_cons (pv 1) (pa_cons pe_int pa_nil))) (pa_cons pe_int pa_nil))) (pe_callTy call_int1 (by rfl) n_int (by decide +kernel) (pa_cons (pe_cmpR op_eq (pe_call GD (hr.mono (by decide)) (by rfl) gD FD.kp bD .nil pass0 (pa_cons (pv 1) (pa_cons pe_int pa_nil))) pe_int (nomark _)) pa_nil)) (fun _ _ => rfl)) (pa_cons (pe_op op_add pe_int (pe_call GD (hr.mono (by decide)) (by rfl) gD FD.kp bD .nil pass0 (pa_cons (pv 1) (pa_cons pe_int pa_nil)))) pa_nil)) (by rfl))
      (pss_cons (ps_set (i := 7) sc_law.nd rfl (.inl rfl) (pe_call GDL (hr.mono (by decide)) (by rfl) gDL FDL.kp bDL .nil pass0 (pa_cons (pv 1) (pa_cons (pe_op op_mod (pv 2) pe_int) (pa_cons (pe_op op_fdivA (pv 2) pe_int) pa_nil)))))
      (pss_mid (ps_if (PW.pt (pw_and (pt_cmpR op_eq (pe_op op_mod (pv 2) pe_int) pe_int (nomark _)) (pw_and1 (pt_cmpR op_eq (pe_op op_mod (pv 6) pe_int) pe_int (nomark _))))) (pss_one (ps_set (i := 7) sc_law.nd rfl (.inl rfl) (pe_call GEF hr (by rfl) gEF FEF.kp bEF .nil pass0 (pa_cons (pv 7) pa_nil)))) pss_nil)
      (pss_cons (ps_if (PW.pt (pw_or (pt_not (pt_val (pe_call GROR (hr.mono (by decide)) (by rfl) gROR FROR.kp bROR .nil pass0 (pa_cons (pv 7) (pa_cons (pv 5) (pa_cons (pv 6) pa_nil)))))) (pw_or1 (pt_not (pt_val (pe_call GPAR (hr.mono (by decide)) (by rfl) gPAR FPAR.kp bPAR .nil pass0 (pa_cons (pv 7) (pa_cons (pv 5) (pa_cons (pv 3) (pa_cons (pv 4) pa_nil)))))))))) (pss_one (ps_ret pe_bl)) pss_nil)
      (pss_cons (ps_set (i := 8) sc_law.nd rfl (.inl rfl) (pe_call GPL (hr.mono (by decide)) (by rfl) gPL FPL.kp bPL .nil pass0 (pa_cons (pe_tup (pa_cons pe_int (pa_cons pe_int pa_nil))) (pa_cons (pe_call GMB (hr.mono (by decide)) (by rfl) gMB FMB.kp bMB .nil pass0 (pa_cons (pv 7) (pa_cons (pv 5) pa_nil))) pa_nil))))
      (pss_cons (ps_if (pt_cmpR (op_neD hr.units) (pe_call GSY (hr.mono (by decide)) (by rfl) gSY FSY.kp bSY .nil pass0 (pa_cons (pv 7) (pa_cons (pv 5) pa_nil))) (pe_call GT (hr.mono (by decide)) (by rfl) gT FT.kp bT .nil pass0 (pa_cons (pe_call GMI (hr.mono (by decide)) (by rfl) gMI FMI.kp bMI .nil pass0 (pa_cons (pv 7) pa_nil)) (pa_cons (pv 8) pa_nil))) (nomark _)) (pss_one (ps_ret pe_bl)) pss_nil)
      (pss_cons (ps_par (i := 9) (j := 10) rfl sc_law.nd rfl rfl (by decide) rfl rfl (pa_cons (pe_call GMLF (hr.mono (by decide)) (by rfl) gMLF FMLF.kp bMLF .nil pass0 (pa_cons (pv 7) (pa_cons (pv 5) pa_nil))) (pa_cons (pe_call GME (hr.mono (by decide)) (by rfl) gME FME.kp bME .nil pass0 (pa_cons (pv 7) pa_nil)) pa_nil)) (by rfl))
      (pss_cons (ps_if (PW.pt (pw_or (pt_cmpR op_isN (pv 10) pe_non (nomark _)) (pw_or1 (pt_cmpR op_isN (pv 9) pe_non (nomark _))))) (pss_one (ps_ret (pe_and (pe_cmpR op_isN (pv 10) pe_non (nomark _)) (pe_one (pe_cmpR op_isN (pv 9) pe_non (nomark _)))))) pss_nil)
      (pss_one (ps_ret (pe_cmpR (op_eqD hr.units) (pe_call GPL (hr.mono (by decide)) (by rfl) gPL FPL.kp bPL .nil pass0 (pa_cons (pe_tup (pa_cons (pv 5) (pa_cons pe_int pa_nil))) (pa_cons (pv 9) pa_nil))) (pe_call GT (hr.mono (by decide)) (by rfl) gT FT.kp bT .nil pass0 (pa_cons (pv 10) (pa_cons (pv 8) pa_nil))) (nomark _)))))))))))))), ?_⟩
    refine ⟨_, rfl, a0, ns, rfl, hS, fun d c H1 s1 f1 => ?_⟩
    refine ⟨_, rfl, d, c, 4, 0, rfl, f1, by decide, by decide, by decide, fun r1 H2 r10 r11 k2 f2 => ?_⟩
    refine ⟨_, rfl, d, c, 20, 0 + 1, rfl, f2, by decide, by decide, by decide, fun r2 H3 r20 r21 k3 f3 => ?_⟩
    refine ⟨1, r2, rfl, rfl, ?_⟩
    refine ⟨_, rfl, d, c, 20, 0 + 1 + 1, rfl, f3, by decide, by decide, by decide, fun r3 H4 r30 r31 k4 f4 => ?_⟩
    refine ⟨1, r3, rfl, rfl, ?_⟩
    refine tnil_go ?_
    refine ⟨_, _, _, rfl, ?_⟩
    obtain ⟨left, hleft⟩ : ∃ left : Nat, 1 + r2 = (left : Int) := ⟨(1 + r2).toNat, by omega⟩
    obtain ⟨long, hlong⟩ : ∃ long : Nat, 1 + r3 = (long : Int) := ⟨(1 + r3).toNat, by omega⟩
    refine ⟨_, rfl, d, c, 13, 0 + 1 + 1 + 1, rfl, f4, by decide, by decide, by decide, fun r4 H5 r40 r41 k5 f5 => ?_⟩
    refine ⟨by show 2 ≤ sizeLine; decide, fun l1 n1 => ?_⟩
    have e6 := same_new (o := HO.lst [V.int r4, V.int 20]) n1
    refine ⟨_, rfl, d, c, 8, 0 + 1 + 1 + 1 + 1, rfl, f5.same e6, by decide, by decide, by decide, fun r5 H6 r50 r51 k6 f6 => ?_⟩
    refine ⟨rfl, .inr ⟨_, rfl, ?_⟩⟩
    obtain ⟨beat, hbe, hb⟩ := pick2 r40 r41 (decide (V.int r5 = V.int 0))
    refine ⟨l1, _, _, _, rfl, rfl, SqL.of (keep_at (f5.same e6) k6 upd_same (fun _ z => nomatch z)), hbe, ?_⟩
    refine ⟨_, rfl, d, c, 20, 0 + 1 + 1 + 1 + 1 + 1, rfl, f6, by decide, by decide, by decide, fun r6 H7 r60 r61 k7 f7 => ?_⟩
    refine ⟨1, r6, rfl, rfl, ?_⟩
    refine tnil_go ?_
    refine ⟨_, _, rfl, ?_⟩
    obtain ⟨most, hmost⟩ : ∃ most : Nat, 1 + r6 = (most : Int) := ⟨(1 + r6).toNat, by omega⟩
    refine ⟨_, rfl, _, rfl, _, 2, rfl, rfl, by show (0 : Int) < 2; decide, ?_⟩
    refine ⟨_, rfl, _, 2, rfl, rfl, ⟨by decide, by decide⟩, ?_⟩
    refine tnil_go ?_
    refine ⟨d, c, r1 % 2, r1.fdiv 2, 0 + 1 + 1 + 1 + 1 + 1 + 1, rfl, f7, by omega, fun zl row step t8 H8 k8 f8 ht8 D8 hl8 => ?_⟩
    refine ⟨fun σ HM => ∃ (zl2 : Addr) (row2 : List RT) (step2 : RT) (W D D2 : Int), σ = [some (.ref a0), some (.ref d), some (.int r1), some (.int (1 + r2)), some (.int (1 + r3)), some (.int (beat : Int)), some (.int (1 + r6)), some (.ref zl2), none, none, none] ∧ LifeAt K HM zl2 row2 step2 ∧ S32 row2 step2 W D D2, ?_, ?_⟩
    · obtain ⟨W, DD, D2, sW, S⟩ := D8.s32
      have keep : ∃ (zl2 : Addr) (row2 : List RT) (step2 : RT) (W D D2 : Int), [some (V.ref a0), some (V.ref d), some (V.int r1), some (V.int (1 + r2)), some (V.int (1 + r3)), some (V.int (beat : Int)), some (V.int (1 + r6)), some (V.ref zl), none, none, none] = [some (.ref a0), some (.ref d), some (.int r1), some (.int (1 + r2)), some (.int (1 + r3)), some (.int (beat : Int)), some (.int (1 + r6)), some (.ref zl2), none, none, none] ∧ LifeAt K H8 zl2 row2 step2 ∧ S32 row2 step2 W D D2 := ⟨zl, row, step, W, DD, D2, rfl, hl8, S⟩
      refine ⟨_, rfl, _, 2, rfl, rfl, by show (0 : Int) < 2; decide, rfl, _, rfl, ite2 (fun c1 => ?_) (fun c1 => iteF keep)⟩
      refine ⟨_, rfl, _, 3, rfl, rfl, by show (0 : Int) < 3; decide, rfl, _, rfl, ite2 (fun c2 => ?_) (fun c2 => keep)⟩
      have hf : r1 % 2 ≠ 0 := by
        have : r1 % 2 = 1 := V.int.inj (of_decide_eq_true c1)
        omega
      obtain ⟨W2, E1, E2, S2⟩ := D8.e32 hf
      refine ⟨_, rfl, zl, row, step, W, DD, rfl, hl8, S.ml, S.ch, (D8.full hf).2, fun z HM sM hz => ?_⟩
      exact ⟨z, _, _, W2, E1, E2, rfl, hz, S2⟩
    rintro σ HM ⟨zl2, row2, step2, W, DD, D2, rfl, hl2, S⟩
    clear D8 hl8
    refine ⟨_, rfl, _, rfl, _, rfl, zl2, row2, step2, W, DD, D2, beat, most, (by show [V.ref zl2, V.int (beat : Int), V.int (1 + r6)] = _; rw [hmost]), hl2, S, hb, by omega, by omega, fun HN sN => ?_⟩
    refine ⟨_, rfl, iteF ?_⟩
    refine ⟨_, rfl, _, rfl, _, rfl, _, rfl, zl2, row2, step2, W, DD, D2, beat, left, long, (by show [V.ref zl2, V.int (beat : Int), V.int (1 + r2), V.int (1 + r3)] = _; rw [hleft, hlong]), hl2.tk (Tk.same sN), S, hb, by omega, by omega, by omega, by omega, fun HX sO => ?_⟩
    refine ⟨_, rfl, iteF ?_⟩
    have hlO := hl2.tk (K := K) (Tk.same (sN.trans sO))
    have C1 := S.ch
    have PW := C1.powSm 20
    have M := S.ml
    have szp : ∀ j, j ≤ 20 → Sz (DD ^ 20) 20 (renQ (chR row2 step2) oneAt j) := fun j hj => (C1.putSz (e := 20) hj hj).mono hj
    have szA : Sz (DD ^ 20) 27 (putSum (chR row2 step2) beat) := Sz.sum (k := 20) PW.1 (fun j hj => szp j (by omega)) (by omega)
    have szB : Sz (DD ^ 20) 27 (sumTo beat fun i => renQ (chR row2 step2) oneAt (i + 1)) := Sz.sum (k := 20) PW.1 (fun j hj => szp (j + 1) (by omega)) (by omega)
    have smA : SmR 3000 (rdq (putSum (chR row2 step2) beat)) := szA.smr PW.1 PW.2 (by decide)
    have vA : (1 : Rat) + (sumTo beat fun i => renQ (chR row2 step2) oneAt (i + 1)) = putSum (chR row2 step2) beat := by
      unfold putSum
      rw [sumTo_head, put0]
    have sm1 : SmR 3000 (rdq 1) := by
      rw [one_rdq]
      exact ⟨one_red, by unfold Sm; decide, by unfold Sm; decide⟩
    -- all puts
    refine ⟨by show 2 ≤ sizeLine; decide, fun t1 n1 => ?_⟩
    have g1 := same_new (o := HO.tup [.int 1, .int 1]) n1
    refine ⟨_, rfl, _, rfl, zl2, row2, step2, 60, beat, W, DD, rfl, hlO.tk (Tk.same g1), S.ok, S.wok, C1, hb, fun zm HP sP hzm => ?_⟩
    refine tnil_go ?_
    refine plus_go (x := 1) (y := sumTo beat fun i => renQ (chR row2 step2) oneAt (i + 1)) (by rw [one_rdq]; exact SqT.of (sP _ _ upd_same)) hzm sm1 (szB.smr PW.1 PW.2 (by decide)) fun zh HQ sQ hzh => ?_
    rw [vA] at hzh
    have hlQ := hlO.tk (K := K) (Tk.same (g1.trans (sP.trans sQ)))
    -- what stays
    refine ⟨_, rfl, _, rfl, zl2, row2, step2, 60, beat, W, DD, rfl, hlQ, S.ok, S.wok, C1, hb, fun zs HR sR hzs => ?_⟩
    refine ⟨_, rfl, zl2, row2, step2, 60, rfl, hlQ.tk (Tk.same sR), S.ok, fun zi xi HT sT hzi sxi vxi => ?_⟩
    rw [is_rdq sxi.1 vxi] at hzi
    refine ⟨_, rfl, ?_⟩
    refine tnil_go ?_
    obtain ⟨gp, _, _, _⟩ := M.gap
    have sg : Sm 4 (step2.2 - step2.1) := by
      have := M.gap
      unfold Sm
      omega
    refine times_go (hzi) (hzh.tk (Tk.same (sR.trans sT))) (M.missSz.smr (Int.mul_pos M.w.pos gp) (M.w.sm.mul sg) (by decide)) smA fun zt HU sU hzt => ?_
    refine neR_go (hzs.tk (Tk.same (sT.trans sU))) hzt ?_
    refine ⟨_, rfl, iteF ?_⟩
    have SU := sR.trans (sT.trans sU)
    have hlU := hlQ.tk (K := K) (Tk.same SU)
    -- means
    refine ⟨_, rfl, _, rfl, zl2, row2, step2, beat, W, W, DD, rfl, hlU, M, S.wok, C1, hb, fun v1 HV sV hv1 => ?_⟩
    refine ⟨_, rfl, zl2, row2, step2, W, rfl, hlU.tk (Tk.same sV), M, fun v2 HW sW hv2 => ?_⟩
    refine tnil_go ?_
    refine ⟨_, _, rfl, ?_⟩
    rcases hv2 with ⟨h2, rfl⟩ | ⟨h2, z2, rfl, hz2⟩
    · rcases hv1 with ⟨h1, rfl⟩ | ⟨h1, z1, rfl, hz1⟩
      · refine ⟨_, rfl, rfl, _, rfl, iteT ?_⟩
        refine ⟨_, rfl, rfl, true, rfl, iteT ?_⟩
        exact ⟨_, rfl, rfl, q HW⟩
      · exact absurd h1 h2
    · rcases hv1 with ⟨h1, rfl⟩ | ⟨h1, z1, rfl, hz1⟩
      · exact absurd h2 h1
      · refine ⟨_, rfl, rfl, _, rfl, ite2 (fun c1 => nomatch of_decide_eq_true c1) (fun _ => ?_)⟩
        refine ⟨_, rfl, rfl, _, rfl, ite2 (fun c1 => nomatch of_decide_eq_true c1) (fun _ => ?_)⟩
        have szMe := M.meanSz
        have szT : Sz (mP W step2 * DD ^ 20) 40 (meanQ row2 step2 * putSum (chR row2 step2) beat) := szMe.mul M.P.1 PW.1 szA
        have PT := Int.mul_pos M.P.1 PW.1
        have sT : Sm 2259 (mP W step2 * DD ^ 20) := M.P.2.mul PW.2
        have szD : Sz (mP W step2 * DD ^ 20) 41 (meanQ row2 step2 * putSum (chR row2 step2) beat - ((beat : Int) : Rat)) := by
          have z1 := szT.add PT ((Sz.int (n := beat) (k := 40) (by omega) PT).neg)
          rw [show meanQ row2 step2 * putSum (chR row2 step2) beat + -((beat : Int) : Rat) = meanQ row2 step2 * putSum (chR row2 step2) beat - ((beat : Int) : Rat) by grind] at z1
          exact z1
        refine ⟨_, rfl, by show 2 ≤ sizeLine; decide, fun t5 n5 => ?_⟩
        have g5 := same_new (o := HO.tup [.int (beat : Int), .int 1]) n5
        refine ⟨_, rfl, ?_⟩
        refine tnil_go ?_
        refine plus_go (x := ((beat : Int) : Rat)) (int_rat (SqT.of upd_same)) (hz1.tk (Tk.same (sW.trans g5))) (int_smr (by omega)) (szD.smr PT sT (by decide)) fun z6 HY sY hz6 => ?_
        refine ⟨_, rfl, _, rfl, ?_⟩
        refine tnil_go ?_
        have gS := g5.trans sY
        refine times_go (hz2.tk (Tk.same gS)) (hzh.tk (Tk.same (SU.trans (sV.trans (sW.trans gS))))) (szMe.smr M.P.1 M.P.2 (by decide)) smA fun z7 HZ sZ hz7 => ?_
        rw [show ((beat : Int) : Rat) + (meanQ row2 step2 * putSum (chR row2 step2) beat - ((beat : Int) : Rat)) = meanQ row2 step2 * putSum (chR row2 step2) beat by grind] at hz6
        exact eqR_go (hz6.tk (Tk.same sZ)) hz7 (q HZ)
end

end Fp

set_option Elab.async false
set_option linter.all false
set_option maxRecDepth 100000
set_option maxHeartbeats 4000000
set_option exponentiation.threshold 10000
namespace Fp
open PySem PySem.Spec PyProof.Rows L2
theorem all_mk {l : PySem.W.OpenLaw} {w : World} {K : PySem.W.Frag} {h : Heap} {mg : Str → Option Value} {fa fC fR fPL fM fT fO fOB fAD fRN fBR fCT fCA fLA fLS fMI fSHO fWN fME fMO fPU fAG fLE fSR fSY fAF fMLF fMB fSH fEA fEF fE fD fCM fL fDW fDL fLAD fROR fPAR fZ a_NOUGHT a_ONE : Addr} (X : K.In h) (G : h.Ns mainGlobals mg) (hfa : mg "law" = some (.ref fa))
    {odC anC : Option Addr} {slC : Array (Option Value)} {ocC kVC dcC pmC cdC ctC : Value}
    {odR anR : Option Addr} {slR : Array (Option Value)} {ocR kVR dcR pmR cdR ctR : Value}
    {odPL anPL : Option Addr} {slPL : Array (Option Value)} {ocPL kVPL dcPL pmPL cdPL ctPL : Value}
    {odM anM : Option Addr} {slM : Array (Option Value)} {ocM kVM dcM pmM cdM ctM : Value}
    {odT anT : Option Addr} {slT : Array (Option Value)} {ocT kVT dcT pmT cdT ctT : Value}
    {odO anO : Option Addr} {slO : Array (Option Value)} {ocO kVO dcO pmO cdO ctO : Value}
    {odOB anOB : Option Addr} {slOB : Array (Option Value)} {ocOB kVOB dcOB pmOB cdOB ctOB : Value}
    {odAD anAD : Option Addr} {slAD : Array (Option Value)} {ocAD kVAD dcAD pmAD cdAD ctAD : Value}
    {odRN anRN : Option Addr} {slRN : Array (Option Value)} {ocRN kVRN dcRN pmRN cdRN ctRN : Value}
    {odBR anBR : Option Addr} {slBR : Array (Option Value)} {ocBR kVBR dcBR pmBR cdBR ctBR : Value}
    {odCT anCT : Option Addr} {slCT : Array (Option Value)} {ocCT kVCT dcCT pmCT cdCT ctCT : Value}
    {odCA anCA : Option Addr} {slCA : Array (Option Value)} {ocCA kVCA dcCA pmCA cdCA ctCA : Value}
    {odLA anLA : Option Addr} {slLA : Array (Option Value)} {ocLA kVLA dcLA pmLA cdLA ctLA : Value}
    {odLS anLS : Option Addr} {slLS : Array (Option Value)} {ocLS kVLS dcLS pmLS cdLS ctLS : Value}
    {odMI anMI : Option Addr} {slMI : Array (Option Value)} {ocMI kVMI dcMI pmMI cdMI ctMI : Value}
    {odSHO anSHO : Option Addr} {slSHO : Array (Option Value)} {ocSHO kVSHO dcSHO pmSHO cdSHO ctSHO : Value}
    {odWN anWN : Option Addr} {slWN : Array (Option Value)} {ocWN kVWN dcWN pmWN cdWN ctWN : Value}
    {odME anME : Option Addr} {slME : Array (Option Value)} {ocME kVME dcME pmME cdME ctME : Value}
    {odMO anMO : Option Addr} {slMO : Array (Option Value)} {ocMO kVMO dcMO pmMO cdMO ctMO : Value}
    {odPU anPU : Option Addr} {slPU : Array (Option Value)} {ocPU kVPU dcPU pmPU cdPU ctPU : Value}
    {odAG anAG : Option Addr} {slAG : Array (Option Value)} {ocAG kVAG dcAG pmAG cdAG ctAG : Value}
    {odLE anLE : Option Addr} {slLE : Array (Option Value)} {ocLE kVLE dcLE pmLE cdLE ctLE : Value}
    {odSR anSR : Option Addr} {slSR : Array (Option Value)} {ocSR kVSR dcSR pmSR cdSR ctSR : Value}
    {odSY anSY : Option Addr} {slSY : Array (Option Value)} {ocSY kVSY dcSY pmSY cdSY ctSY : Value}
    {odAF anAF : Option Addr} {slAF : Array (Option Value)} {ocAF kVAF dcAF pmAF cdAF ctAF : Value}
    {odMLF anMLF : Option Addr} {slMLF : Array (Option Value)} {ocMLF kVMLF dcMLF pmMLF cdMLF ctMLF : Value}
    {odMB anMB : Option Addr} {slMB : Array (Option Value)} {ocMB kVMB dcMB pmMB cdMB ctMB : Value}
    {odSH anSH : Option Addr} {slSH : Array (Option Value)} {ocSH kVSH dcSH pmSH cdSH ctSH : Value}
    {odEA anEA : Option Addr} {slEA : Array (Option Value)} {ocEA kVEA dcEA pmEA cdEA ctEA : Value}
    {odEF anEF : Option Addr} {slEF : Array (Option Value)} {ocEF kVEF dcEF pmEF cdEF ctEF : Value}
    {odE anE : Option Addr} {slE : Array (Option Value)} {ocE kVE dcE pmE cdE ctE : Value}
    {odD anD : Option Addr} {slD : Array (Option Value)} {ocD kVD dcD pmD cdD ctD : Value}
    {odCM anCM : Option Addr} {slCM : Array (Option Value)} {ocCM kVCM dcCM pmCM cdCM ctCM : Value}
    {odL anL : Option Addr} {slL : Array (Option Value)} {ocL kVL dcL pmL cdL ctL : Value}
    {odDW anDW : Option Addr} {slDW : Array (Option Value)} {ocDW kVDW dcDW pmDW cdDW ctDW : Value}
    {odDL anDL : Option Addr} {slDL : Array (Option Value)} {ocDL kVDL dcDL pmDL cdDL ctDL : Value}
    {odLAD anLAD : Option Addr} {slLAD : Array (Option Value)} {ocLAD kVLAD dcLAD pmLAD cdLAD ctLAD : Value}
    {odROR anROR : Option Addr} {slROR : Array (Option Value)} {ocROR kVROR dcROR pmROR cdROR ctROR : Value}
    {odPAR anPAR : Option Addr} {slPAR : Array (Option Value)} {ocPAR kVPAR dcPAR pmPAR cdPAR ctPAR : Value}
    {odZ anZ : Option Addr} {slZ : Array (Option Value)} {ocZ kVZ dcZ pmZ cdZ ctZ : Value}
    {od_NOUGHT : Option Addr} {n_NOUGHTx : Nat} {sl_NOUGHT : Array (Option Value)} {t0_NOUGHT t1_NOUGHT : Tok}
    {od_ONE : Option Addr} {n_ONEx : Nat} {sl_ONE : Array (Option Value)} {t0_ONE t1_ONE : Tok}
    (aC : PySem.W.nsIn K mainGlobals "common_divisor" = some (some (.ref fC))) (lC : K.lookup fC = some ⟨ocC, odC, .func (PySem.W.fnOf "common_divisor" "common_divisor" (defArgs s_cd) (defBody s_cd) (defScope s_cd) .none kVC dcC pmC anC cdC ctC), slC⟩) (cC : PySem.W.codeIn K cdC "common_divisor" = true) (kC : PySem.W.keepIn K (.ref fC) = true)
    (aR : PySem.W.nsIn K mainGlobals "ratio" = some (some (.ref fR))) (lR : K.lookup fR = some ⟨ocR, odR, .func (PySem.W.fnOf "ratio" "ratio" (defArgs s_ratio) (defBody s_ratio) (defScope s_ratio) .none kVR dcR pmR anR cdR ctR), slR⟩) (cR : PySem.W.codeIn K cdR "ratio" = true) (kR : PySem.W.keepIn K (.ref fR) = true)
    (aPL : PySem.W.nsIn K mainGlobals "plus" = some (some (.ref fPL))) (lPL : K.lookup fPL = some ⟨ocPL, odPL, .func (PySem.W.fnOf "plus" "plus" (defArgs s_plus) (defBody s_plus) (defScope s_plus) .none kVPL dcPL pmPL anPL cdPL ctPL), slPL⟩) (cPL : PySem.W.codeIn K cdPL "plus" = true) (kPL : PySem.W.keepIn K (.ref fPL) = true)
    (aM : PySem.W.nsIn K mainGlobals "minus" = some (some (.ref fM))) (lM : K.lookup fM = some ⟨ocM, odM, .func (PySem.W.fnOf "minus" "minus" (defArgs s_minus) (defBody s_minus) (defScope s_minus) .none kVM dcM pmM anM cdM ctM), slM⟩) (cM : PySem.W.codeIn K cdM "minus" = true) (kM : PySem.W.keepIn K (.ref fM) = true)
    (aT : PySem.W.nsIn K mainGlobals "times" = some (some (.ref fT))) (lT : K.lookup fT = some ⟨ocT, odT, .func (PySem.W.fnOf "times" "times" (defArgs s_times) (defBody s_times) (defScope s_times) .none kVT dcT pmT anT cdT ctT), slT⟩) (cT : PySem.W.codeIn K cdT "times" = true) (kT : PySem.W.keepIn K (.ref fT) = true)
    (aO : PySem.W.nsIn K mainGlobals "over" = some (some (.ref fO))) (lO : K.lookup fO = some ⟨ocO, odO, .func (PySem.W.fnOf "over" "over" (defArgs s_over) (defBody s_over) (defScope s_over) .none kVO dcO pmO anO cdO ctO), slO⟩) (cO : PySem.W.codeIn K cdO "over" = true) (kO : PySem.W.keepIn K (.ref fO) = true)
    (aOB : PySem.W.nsIn K mainGlobals "on_one_bottom" = some (some (.ref fOB))) (lOB : K.lookup fOB = some ⟨ocOB, odOB, .func (PySem.W.fnOf "on_one_bottom" "on_one_bottom" (defArgs s_oob) (defBody s_oob) (defScope s_oob) .none kVOB dcOB pmOB anOB cdOB ctOB), slOB⟩) (cOB : PySem.W.codeIn K cdOB "on_one_bottom" = true) (kOB : PySem.W.keepIn K (.ref fOB) = true)
    (aAD : PySem.W.nsIn K mainGlobals "added" = some (some (.ref fAD))) (lAD : K.lookup fAD = some ⟨ocAD, odAD, .func (PySem.W.fnOf "added" "added" (defArgs s_added) (defBody s_added) (defScope s_added) .none kVAD dcAD pmAD anAD cdAD ctAD), slAD⟩) (cAD : PySem.W.codeIn K cdAD "added" = true) (kAD : PySem.W.keepIn K (.ref fAD) = true)
    (aRN : PySem.W.nsIn K mainGlobals "renewed" = some (some (.ref fRN))) (lRN : K.lookup fRN = some ⟨ocRN, odRN, .func (PySem.W.fnOf "renewed" "renewed" (defArgs s_ren) (defBody s_ren) (defScope s_ren) .none kVRN dcRN pmRN anRN cdRN ctRN), slRN⟩) (cRN : PySem.W.codeIn K cdRN "renewed" = true) (kRN : PySem.W.keepIn K (.ref fRN) = true)
    (aBR : PySem.W.nsIn K mainGlobals "behind_row" = some (some (.ref fBR))) (lBR : K.lookup fBR = some ⟨ocBR, odBR, .func (PySem.W.fnOf "behind_row" "behind_row" (defArgs s_behind) (defBody s_behind) (defScope s_behind) .none kVBR dcBR pmBR anBR cdBR ctBR), slBR⟩) (cBR : PySem.W.codeIn K cdBR "behind_row" = true) (kBR : PySem.W.keepIn K (.ref fBR) = true)
    (aCT : PySem.W.nsIn K mainGlobals "chances_to" = some (some (.ref fCT))) (lCT : K.lookup fCT = some ⟨ocCT, odCT, .func (PySem.W.fnOf "chances_to" "chances_to" (defArgs s_chto) (defBody s_chto) (defScope s_chto) .none kVCT dcCT pmCT anCT cdCT ctCT), slCT⟩) (cCT : PySem.W.codeIn K cdCT "chances_to" = true) (kCT : PySem.W.keepIn K (.ref fCT) = true)
    (aCA : PySem.W.nsIn K mainGlobals "chance_at" = some (some (.ref fCA))) (lCA : K.lookup fCA = some ⟨ocCA, odCA, .func (PySem.W.fnOf "chance_at" "chance_at" (defArgs s_chat) (defBody s_chat) (defScope s_chat) .none kVCA dcCA pmCA anCA cdCA ctCA), slCA⟩) (cCA : PySem.W.codeIn K cdCA "chance_at" = true) (kCA : PySem.W.keepIn K (.ref fCA) = true)
    (aLA : PySem.W.nsIn K mainGlobals "lasting" = some (some (.ref fLA))) (lLA : K.lookup fLA = some ⟨ocLA, odLA, .func (PySem.W.fnOf "lasting" "lasting" (defArgs s_lasting) (defBody s_lasting) (defScope s_lasting) .none kVLA dcLA pmLA anLA cdLA ctLA), slLA⟩) (cLA : PySem.W.codeIn K cdLA "lasting" = true) (kLA : PySem.W.keepIn K (.ref fLA) = true)
    (aLS : PySem.W.nsIn K mainGlobals "lastings_to" = some (some (.ref fLS))) (lLS : K.lookup fLS = some ⟨ocLS, odLS, .func (PySem.W.fnOf "lastings_to" "lastings_to" (defArgs s_ls) (defBody s_ls) (defScope s_ls) .none kVLS dcLS pmLS anLS cdLS ctLS), slLS⟩) (cLS : PySem.W.codeIn K cdLS "lastings_to" = true) (kLS : PySem.W.keepIn K (.ref fLS) = true)
    (aMI : PySem.W.nsIn K mainGlobals "miss" = some (some (.ref fMI))) (lMI : K.lookup fMI = some ⟨ocMI, odMI, .func (PySem.W.fnOf "miss" "miss" (defArgs s_miss) (defBody s_miss) (defScope s_miss) .none kVMI dcMI pmMI anMI cdMI ctMI), slMI⟩) (cMI : PySem.W.codeIn K cdMI "miss" = true) (kMI : PySem.W.keepIn K (.ref fMI) = true)
    (aSHO : PySem.W.nsIn K mainGlobals "short" = some (some (.ref fSHO))) (lSHO : K.lookup fSHO = some ⟨ocSHO, odSHO, .func (PySem.W.fnOf "short" "short" (defArgs s_short) (defBody s_short) (defScope s_short) .none kVSHO dcSHO pmSHO anSHO cdSHO ctSHO), slSHO⟩) (cSHO : PySem.W.codeIn K cdSHO "short" = true) (kSHO : PySem.W.keepIn K (.ref fSHO) = true)
    (aWN : PySem.W.nsIn K mainGlobals "without_noughts" = some (some (.ref fWN))) (lWN : K.lookup fWN = some ⟨ocWN, odWN, .func (PySem.W.fnOf "without_noughts" "without_noughts" (defArgs s_wn) (defBody s_wn) (defScope s_wn) .none kVWN dcWN pmWN anWN cdWN ctWN), slWN⟩) (cWN : PySem.W.codeIn K cdWN "without_noughts" = true) (kWN : PySem.W.keepIn K (.ref fWN) = true)
    (aME : PySem.W.nsIn K mainGlobals "mean" = some (some (.ref fME))) (lME : K.lookup fME = some ⟨ocME, odME, .func (PySem.W.fnOf "mean" "mean" (defArgs s_mean) (defBody s_mean) (defScope s_mean) .none kVME dcME pmME anME cdME ctME), slME⟩) (cME : PySem.W.codeIn K cdME "mean" = true) (kME : PySem.W.keepIn K (.ref fME) = true)
    (aMO : PySem.W.nsIn K mainGlobals "moments_behind" = some (some (.ref fMO))) (lMO : K.lookup fMO = some ⟨ocMO, odMO, .func (PySem.W.fnOf "moments_behind" "moments_behind" (defArgs s_mom) (defBody s_mom) (defScope s_mom) .none kVMO dcMO pmMO anMO cdMO ctMO), slMO⟩) (cMO : PySem.W.codeIn K cdMO "moments_behind" = true) (kMO : PySem.W.keepIn K (.ref fMO) = true)
    (aPU : PySem.W.nsIn K mainGlobals "puts" = some (some (.ref fPU))) (lPU : K.lookup fPU = some ⟨ocPU, odPU, .func (PySem.W.fnOf "puts" "puts" (defArgs s_puts) (defBody s_puts) (defScope s_puts) .none kVPU dcPU pmPU anPU cdPU ctPU), slPU⟩) (cPU : PySem.W.codeIn K cdPU "puts" = true) (kPU : PySem.W.keepIn K (.ref fPU) = true)
    (aAG : PySem.W.nsIn K mainGlobals "ages" = some (some (.ref fAG))) (lAG : K.lookup fAG = some ⟨ocAG, odAG, .func (PySem.W.fnOf "ages" "ages" (defArgs s_ages) (defBody s_ages) (defScope s_ages) .none kVAG dcAG pmAG anAG cdAG ctAG), slAG⟩) (cAG : PySem.W.codeIn K cdAG "ages" = true) (kAG : PySem.W.keepIn K (.ref fAG) = true)
    (aLE : PySem.W.nsIn K mainGlobals "lefts" = some (some (.ref fLE))) (lLE : K.lookup fLE = some ⟨ocLE, odLE, .func (PySem.W.fnOf "lefts" "lefts" (defArgs s_lefts) (defBody s_lefts) (defScope s_lefts) .none kVLE dcLE pmLE anLE cdLE ctLE), slLE⟩) (cLE : PySem.W.codeIn K cdLE "lefts" = true) (kLE : PySem.W.keepIn K (.ref fLE) = true)
    (aSR : PySem.W.nsIn K mainGlobals "stretches" = some (some (.ref fSR))) (lSR : K.lookup fSR = some ⟨ocSR, odSR, .func (PySem.W.fnOf "stretches" "stretches" (defArgs s_stretches) (defBody s_stretches) (defScope s_stretches) .none kVSR dcSR pmSR anSR cdSR ctSR), slSR⟩) (cSR : PySem.W.codeIn K cdSR "stretches" = true) (kSR : PySem.W.keepIn K (.ref fSR) = true)
    (aSY : PySem.W.nsIn K mainGlobals "stays" = some (some (.ref fSY))) (lSY : K.lookup fSY = some ⟨ocSY, odSY, .func (PySem.W.fnOf "stays" "stays" (defArgs s_stays) (defBody s_stays) (defScope s_stays) .none kVSY dcSY pmSY anSY cdSY ctSY), slSY⟩) (cSY : PySem.W.codeIn K cdSY "stays" = true) (kSY : PySem.W.keepIn K (.ref fSY) = true)
    (aAF : PySem.W.nsIn K mainGlobals "age_and_left" = some (some (.ref fAF))) (lAF : K.lookup fAF = some ⟨ocAF, odAF, .func (PySem.W.fnOf "age_and_left" "age_and_left" (defArgs s_aal) (defBody s_aal) (defScope s_aal) .none kVAF dcAF pmAF anAF cdAF ctAF), slAF⟩) (cAF : PySem.W.codeIn K cdAF "age_and_left" = true) (kAF : PySem.W.keepIn K (.ref fAF) = true)
    (aMLF : PySem.W.nsIn K mainGlobals "mean_left" = some (some (.ref fMLF))) (lMLF : K.lookup fMLF = some ⟨ocMLF, odMLF, .func (PySem.W.fnOf "mean_left" "mean_left" (defArgs s_ml) (defBody s_ml) (defScope s_ml) .none kVMLF dcMLF pmMLF anMLF cdMLF ctMLF), slMLF⟩) (cMLF : PySem.W.codeIn K cdMLF "mean_left" = true) (kMLF : PySem.W.keepIn K (.ref fMLF) = true)
    (aMB : PySem.W.nsIn K mainGlobals "many_by" = some (some (.ref fMB))) (lMB : K.lookup fMB = some ⟨ocMB, odMB, .func (PySem.W.fnOf "many_by" "many_by" (defArgs s_mb) (defBody s_mb) (defScope s_mb) .none kVMB dcMB pmMB anMB cdMB ctMB), slMB⟩) (cMB : PySem.W.codeIn K cdMB "many_by" = true) (kMB : PySem.W.keepIn K (.ref fMB) = true)
    (aSH : PySem.W.nsIn K mainGlobals "share" = some (some (.ref fSH))) (lSH : K.lookup fSH = some ⟨ocSH, odSH, .func (PySem.W.fnOf "share" "share" (defArgs s_share) (defBody s_share) (defScope s_share) .none kVSH dcSH pmSH anSH cdSH ctSH), slSH⟩) (cSH : PySem.W.codeIn K cdSH "share" = true) (kSH : PySem.W.keepIn K (.ref fSH) = true)
    (aEA : PySem.W.nsIn K mainGlobals "ever_ages" = some (some (.ref fEA))) (lEA : K.lookup fEA = some ⟨ocEA, odEA, .func (PySem.W.fnOf "ever_ages" "ever_ages" (defArgs s_ea) (defBody s_ea) (defScope s_ea) .none kVEA dcEA pmEA anEA cdEA ctEA), slEA⟩) (cEA : PySem.W.codeIn K cdEA "ever_ages" = true) (kEA : PySem.W.keepIn K (.ref fEA) = true)
    (aEF : PySem.W.nsIn K mainGlobals "even_first" = some (some (.ref fEF))) (lEF : K.lookup fEF = some ⟨ocEF, odEF, .func (PySem.W.fnOf "even_first" "even_first" (defArgs s_ef) (defBody s_ef) (defScope s_ef) .none kVEF dcEF pmEF anEF cdEF ctEF), slEF⟩) (cEF : PySem.W.codeIn K cdEF "even_first" = true) (kEF : PySem.W.keepIn K (.ref fEF) = true)
    (aE : PySem.W.nsIn K mainGlobals "_law_feed" = some (some (.ref fE))) (lE : K.lookup fE = some ⟨ocE, odE, .func (PySem.W.fnOf "_law_feed" "_law_feed" (defArgs s_feed) (defBody s_feed) (defScope s_feed) .none kVE dcE pmE anE cdE ctE), slE⟩) (cE : PySem.W.codeIn K cdE "_law_feed" = true) (kE : PySem.W.keepIn K (.ref fE) = true)
    (aD : PySem.W.nsIn K mainGlobals "_law_draw" = some (some (.ref fD))) (lD : K.lookup fD = some ⟨ocD, odD, .func (PySem.W.fnOf "_law_draw" "_law_draw" (defArgs s_draw) (defBody s_draw) (defScope s_draw) .none kVD dcD pmD anD cdD ctD), slD⟩) (cD : PySem.W.codeIn K cdD "_law_draw" = true) (kD : PySem.W.keepIn K (.ref fD) = true)
    (aCM : PySem.W.nsIn K mainGlobals "_law_common" = some (some (.ref fCM))) (lCM : K.lookup fCM = some ⟨ocCM, odCM, .func (PySem.W.fnOf "_law_common" "_law_common" (defArgs s_lcommon) (defBody s_lcommon) (defScope s_lcommon) .none kVCM dcCM pmCM anCM cdCM ctCM), slCM⟩) (cCM : PySem.W.codeIn K cdCM "_law_common" = true) (kCM : PySem.W.keepIn K (.ref fCM) = true)
    (aL : PySem.W.nsIn K mainGlobals "_law_low" = some (some (.ref fL))) (lL : K.lookup fL = some ⟨ocL, odL, .func (PySem.W.fnOf "_law_low" "_law_low" (defArgs s_low2) (defBody s_low2) (defScope s_low2) .none kVL dcL pmL anL cdL ctL), slL⟩) (cL : PySem.W.codeIn K cdL "_law_low" = true) (kL : PySem.W.keepIn K (.ref fL) = true)
    (aDW : PySem.W.nsIn K mainGlobals "_law_drawn_weights" = some (some (.ref fDW))) (lDW : K.lookup fDW = some ⟨ocDW, odDW, .func (PySem.W.fnOf "_law_drawn_weights" "_law_drawn_weights" (defArgs s_dw) (defBody s_dw) (defScope s_dw) .none kVDW dcDW pmDW anDW cdDW ctDW), slDW⟩) (cDW : PySem.W.codeIn K cdDW "_law_drawn_weights" = true) (kDW : PySem.W.keepIn K (.ref fDW) = true)
    (aDL : PySem.W.nsIn K mainGlobals "_law_drawn_life" = some (some (.ref fDL))) (lDL : K.lookup fDL = some ⟨ocDL, odDL, .func (PySem.W.fnOf "_law_drawn_life" "_law_drawn_life" (defArgs s_dl) (defBody s_dl) (defScope s_dl) .none kVDL dcDL pmDL anDL cdDL ctDL), slDL⟩) (cDL : PySem.W.codeIn K cdDL "_law_drawn_life" = true) (kDL : PySem.W.keepIn K (.ref fDL) = true)
    (aLAD : PySem.W.nsIn K mainGlobals "_law_added" = some (some (.ref fLAD))) (lLAD : K.lookup fLAD = some ⟨ocLAD, odLAD, .func (PySem.W.fnOf "_law_added" "_law_added" (defArgs s_lad) (defBody s_lad) (defScope s_lad) .none kVLAD dcLAD pmLAD anLAD cdLAD ctLAD), slLAD⟩) (cLAD : PySem.W.codeIn K cdLAD "_law_added" = true) (kLAD : PySem.W.keepIn K (.ref fLAD) = true)
    (aROR : PySem.W.nsIn K mainGlobals "_law_rows_right" = some (some (.ref fROR))) (lROR : K.lookup fROR = some ⟨ocROR, odROR, .func (PySem.W.fnOf "_law_rows_right" "_law_rows_right" (defArgs s_ror) (defBody s_ror) (defScope s_ror) .none kVROR dcROR pmROR anROR cdROR ctROR), slROR⟩) (cROR : PySem.W.codeIn K cdROR "_law_rows_right" = true) (kROR : PySem.W.keepIn K (.ref fROR) = true)
    (aPAR : PySem.W.nsIn K mainGlobals "_law_pairs_right" = some (some (.ref fPAR))) (lPAR : K.lookup fPAR = some ⟨ocPAR, odPAR, .func (PySem.W.fnOf "_law_pairs_right" "_law_pairs_right" (defArgs s_par) (defBody s_par) (defScope s_par) .none kVPAR dcPAR pmPAR anPAR cdPAR ctPAR), slPAR⟩) (cPAR : PySem.W.codeIn K cdPAR "_law_pairs_right" = true) (kPAR : PySem.W.keepIn K (.ref fPAR) = true)
    (aZ : PySem.W.nsIn K mainGlobals "law" = some (some (.ref fZ))) (lZ : K.lookup fZ = some ⟨ocZ, odZ, .func (PySem.W.fnOf "law" "law" (defArgs s_law) (defBody s_law) (defScope s_law) .none kVZ dcZ pmZ anZ cdZ ctZ), slZ⟩) (cZ : PySem.W.codeIn K cdZ "law" = true) (kZ : PySem.W.keepIn K (.ref fZ) = true)
    (g_NOUGHT : PySem.W.nsIn K mainGlobals "NOUGHT" = some (some (.ref a_NOUGHT))) (l_NOUGHT : K.lookup a_NOUGHT = some ⟨.type "tuple", od_NOUGHT, .seq #[.int 0 t0_NOUGHT, .int 1 t1_NOUGHT] n_NOUGHTx, sl_NOUGHT⟩)
    (g_ONE : PySem.W.nsIn K mainGlobals "ONE" = some (some (.ref a_ONE))) (l_ONE : K.lookup a_ONE = some ⟨.type "tuple", od_ONE, .seq #[.int 1 t0_ONE, .int 1 t1_ONE] n_ONEx, sl_ONE⟩)
    (z_abs : PySem.W.nsIn K mainGlobals "abs" = some none)
    (z_enumerate : PySem.W.nsIn K mainGlobals "enumerate" = some none)
    (z_int : PySem.W.nsIn K mainGlobals "int" = some none)
    (z_len : PySem.W.nsIn K mainGlobals "len" = some none)
    (z_list : PySem.W.nsIn K mainGlobals "list" = some none)
    (z_max : PySem.W.nsIn K mainGlobals "max" = some none)
    (z_min : PySem.W.nsIn K mainGlobals "min" = some none)
    (z_range : PySem.W.nsIn K mainGlobals "range" = some none)
    (z_sum : PySem.W.nsIn K mainGlobals "sum" = some none)
    (z_tuple : PySem.W.nsIn K mainGlobals "tuple" = some none)
    (z_zip : PySem.W.nsIn K mainGlobals "zip" = some none)
    : ∃ fd : FuncData, (∀ (s : Shared) (v : Value), BindsTo s fd ⟨[v], []⟩ [("_law_script", v)]) ∧ ∀ base : Heap, K.In base → base.Ns mainGlobals mg → FnG l.prog w K mg base CX0 10 fa fd ["_law_script"] (spLaw K) := by
  have e := hfa.symm.trans (PySem.W.mg_of X G aZ)
  cases e
  have FC := fun_mk (st := s_cd) lC cC kC
  have bC := FC.binds (ps := ["one", "other"]) fun _ _ _ _ _ _ us hl => match us, hl with | [_, _], _ => rfl
  have gC := PySem.W.mg_of X G aC
  have FR := fun_mk (st := s_ratio) lR cR kR
  have bR := FR.binds (ps := ["top", "bottom"]) fun _ _ _ _ _ _ us hl => match us, hl with | [_, _], _ => rfl
  have gR := PySem.W.mg_of X G aR
  have FPL := fun_mk (st := s_plus) lPL cPL kPL
  have bPL := FPL.binds (ps := ["one", "other"]) fun _ _ _ _ _ _ us hl => match us, hl with | [_, _], _ => rfl
  have gPL := PySem.W.mg_of X G aPL
  have FM := fun_mk (st := s_minus) lM cM kM
  have bM := FM.binds (ps := ["one", "other"]) fun _ _ _ _ _ _ us hl => match us, hl with | [_, _], _ => rfl
  have gM := PySem.W.mg_of X G aM
  have FT := fun_mk (st := s_times) lT cT kT
  have bT := FT.binds (ps := ["one", "other"]) fun _ _ _ _ _ _ us hl => match us, hl with | [_, _], _ => rfl
  have gT := PySem.W.mg_of X G aT
  have FO := fun_mk (st := s_over) lO cO kO
  have bO := FO.binds (ps := ["one", "other"]) fun _ _ _ _ _ _ us hl => match us, hl with | [_, _], _ => rfl
  have gO := PySem.W.mg_of X G aO
  have FOB := fun_mk (st := s_oob) lOB cOB kOB
  have bOB := FOB.binds (ps := ["told"]) fun _ _ _ _ _ _ us hl => match us, hl with | [_], _ => rfl
  have gOB := PySem.W.mg_of X G aOB
  have FAD := fun_mk (st := s_added) lAD cAD kAD
  have bAD := FAD.binds (ps := ["told"]) fun _ _ _ _ _ _ us hl => match us, hl with | [_], _ => rfl
  have gAD := PySem.W.mg_of X G aAD
  have FRN := fun_mk (st := s_ren) lRN cRN kRN
  have bRN := FRN.binds (ps := ["chances", "told"]) fun _ _ _ _ _ _ us hl => match us, hl with | [_, _], _ => rfl
  have gRN := PySem.W.mg_of X G aRN
  have FBR := fun_mk (st := s_behind) lBR cBR kBR
  have bBR := FBR.binds (ps := ["life"]) fun _ _ _ _ _ _ us hl => match us, hl with | [_], _ => rfl
  have gBR := PySem.W.mg_of X G aBR
  have FCT := fun_mk (st := s_chto) lCT cCT kCT
  have bCT := FCT.binds (ps := ["life", "most"]) fun _ _ _ _ _ _ us hl => match us, hl with | [_, _], _ => rfl
  have gCT := PySem.W.mg_of X G aCT
  have FCA := fun_mk (st := s_chat) lCA cCA kCA
  have bCA := FCA.binds (ps := ["life", "k"]) fun _ _ _ _ _ _ us hl => match us, hl with | [_, _], _ => rfl
  have gCA := PySem.W.mg_of X G aCA
  have FLA := fun_mk (st := s_lasting) lLA cLA kLA
  have bLA := FLA.binds (ps := ["life", "k"]) fun _ _ _ _ _ _ us hl => match us, hl with | [_, _], _ => rfl
  have gLA := PySem.W.mg_of X G aLA
  have FLS := fun_mk (st := s_ls) lLS cLS kLS
  have bLS := FLS.binds (ps := ["life", "most"]) fun _ _ _ _ _ _ us hl => match us, hl with | [_, _], _ => rfl
  have gLS := PySem.W.mg_of X G aLS
  have FMI := fun_mk (st := s_miss) lMI cMI kMI
  have bMI := FMI.binds (ps := ["life"]) fun _ _ _ _ _ _ us hl => match us, hl with | [_], _ => rfl
  have gMI := PySem.W.mg_of X G aMI
  have FSHO := fun_mk (st := s_short) lSHO cSHO kSHO
  have bSHO := FSHO.binds (ps := ["life"]) fun _ _ _ _ _ _ us hl => match us, hl with | [_], _ => rfl
  have gSHO := PySem.W.mg_of X G aSHO
  have FWN := fun_mk (st := s_wn) lWN cWN kWN
  have bWN := FWN.binds (ps := ["row"]) fun _ _ _ _ _ _ us hl => match us, hl with | [_], _ => rfl
  have gWN := PySem.W.mg_of X G aWN
  have FME := fun_mk (st := s_mean) lME cME kME
  have bME := FME.binds (ps := ["life"]) fun _ _ _ _ _ _ us hl => match us, hl with | [_], _ => rfl
  have gME := PySem.W.mg_of X G aME
  have FMO := fun_mk (st := s_mom) lMO cMO kMO
  have bMO := FMO.binds (ps := ["life"]) fun _ _ _ _ _ _ us hl => match us, hl with | [_], _ => rfl
  have gMO := PySem.W.mg_of X G aMO
  have FPU := fun_mk (st := s_puts) lPU cPU kPU
  have bPU := FPU.binds (ps := ["life", "most"]) fun _ _ _ _ _ _ us hl => match us, hl with | [_, _], _ => rfl
  have gPU := PySem.W.mg_of X G aPU
  have FAG := fun_mk (st := s_ages) lAG cAG kAG
  have bAG := FAG.binds (ps := ["life", "beat"]) fun _ _ _ _ _ _ us hl => match us, hl with | [_, _], _ => rfl
  have gAG := PySem.W.mg_of X G aAG
  have FLE := fun_mk (st := s_lefts) lLE cLE kLE
  have bLE := FLE.binds (ps := ["life", "beat", "most"]) fun _ _ _ _ _ _ us hl => match us, hl with | [_, _, _], _ => rfl
  have gLE := PySem.W.mg_of X G aLE
  have FSR := fun_mk (st := s_stretches) lSR cSR kSR
  have bSR := FSR.binds (ps := ["life", "beat", "most"]) fun _ _ _ _ _ _ us hl => match us, hl with | [_, _, _], _ => rfl
  have gSR := PySem.W.mg_of X G aSR
  have FSY := fun_mk (st := s_stays) lSY cSY kSY
  have bSY := FSY.binds (ps := ["life", "beat"]) fun _ _ _ _ _ _ us hl => match us, hl with | [_, _], _ => rfl
  have gSY := PySem.W.mg_of X G aSY
  have FAF := fun_mk (st := s_aal) lAF cAF kAF
  have bAF := FAF.binds (ps := ["life", "beat", "age", "left"]) fun _ _ _ _ _ _ us hl => match us, hl with | [_, _, _, _], _ => rfl
  have gAF := PySem.W.mg_of X G aAF
  have FMLF := fun_mk (st := s_ml) lMLF cMLF kMLF
  have bMLF := FMLF.binds (ps := ["life", "beat"]) fun _ _ _ _ _ _ us hl => match us, hl with | [_, _], _ => rfl
  have gMLF := PySem.W.mg_of X G aMLF
  have FMB := fun_mk (st := s_mb) lMB cMB kMB
  have bMB := FMB.binds (ps := ["life", "beat"]) fun _ _ _ _ _ _ us hl => match us, hl with | [_, _], _ => rfl
  have gMB := PySem.W.mg_of X G aMB
  have FSH := fun_mk (st := s_share) lSH cSH kSH
  have bSH := FSH.binds (ps := ["life"]) fun _ _ _ _ _ _ us hl => match us, hl with | [_], _ => rfl
  have gSH := PySem.W.mg_of X G aSH
  have FEA := fun_mk (st := s_ea) lEA cEA kEA
  have bEA := FEA.binds (ps := ["life", "most"]) fun _ _ _ _ _ _ us hl => match us, hl with | [_, _], _ => rfl
  have gEA := PySem.W.mg_of X G aEA
  have FEF := fun_mk (st := s_ef) lEF cEF kEF
  have bEF := FEF.binds (ps := ["life"]) fun _ _ _ _ _ _ us hl => match us, hl with | [_], _ => rfl
  have gEF := PySem.W.mg_of X G aEF
  have FE := fun_mk (st := s_feed) lE cE kE
  have bE := FE.binds (ps := ["_law_script"]) fun _ _ _ _ _ _ us hl => match us, hl with | [_], _ => rfl
  have gE := PySem.W.mg_of X G aE
  have FD := fun_mk (st := s_draw) lD cD kD
  have bD := FD.binds (ps := ["_law_feed_here", "_law_many"]) fun _ _ _ _ _ _ us hl => match us, hl with | [_, _], _ => rfl
  have gD := PySem.W.mg_of X G aD
  have FCM := fun_mk (st := s_lcommon) lCM cCM kCM
  have bCM := FCM.binds (ps := ["_law_one", "_law_other"]) fun _ _ _ _ _ _ us hl => match us, hl with | [_, _], _ => rfl
  have gCM := PySem.W.mg_of X G aCM
  have FL := fun_mk (st := s_low2) lL cL kL
  have bL := FL.binds (ps := ["_law_top", "_law_bottom"]) fun _ _ _ _ _ _ us hl => match us, hl with | [_, _], _ => rfl
  have gL := PySem.W.mg_of X G aL
  have FDW := fun_mk (st := s_dw) lDW cDW kDW
  have bDW := FDW.binds (ps := ["_law_feed_here", "_law_gap", "_law_wide"]) fun _ _ _ _ _ _ us hl => match us, hl with | [_, _, _], _ => rfl
  have gDW := PySem.W.mg_of X G aDW
  have FDL := fun_mk (st := s_dl) lDL cDL kDL
  have bDL := FDL.binds (ps := ["_law_feed_here", "_law_full", "_law_bounded"]) fun _ _ _ _ _ _ us hl => match us, hl with | [_, _, _], _ => rfl
  have gDL := PySem.W.mg_of X G aDL
  have FLAD := fun_mk (st := s_lad) lLAD cLAD kLAD
  have bLAD := FLAD.binds (ps := ["_law_some"]) fun _ _ _ _ _ _ us hl => match us, hl with | [_], _ => rfl
  have gLAD := PySem.W.mg_of X G aLAD
  have FROR := fun_mk (st := s_ror) lROR cROR kROR
  have bROR := FROR.binds (ps := ["_law_life", "_law_beat", "_law_most"]) fun _ _ _ _ _ _ us hl => match us, hl with | [_, _, _], _ => rfl
  have gROR := PySem.W.mg_of X G aROR
  have FPAR := fun_mk (st := s_par) lPAR cPAR kPAR
  have bPAR := FPAR.binds (ps := ["_law_life", "_law_beat", "_law_left", "_law_long"]) fun _ _ _ _ _ _ us hl => match us, hl with | [_, _, _, _], _ => rfl
  have gPAR := PySem.W.mg_of X G aPAR
  have FZ := fun_mk (st := s_law) lZ cZ kZ
  have bZ := FZ.binds (ps := ["_law_script"]) fun _ _ _ _ _ _ us hl => match us, hl with | [_], _ => rfl
  have gZ := PySem.W.mg_of X G aZ
  have n_abs := PySem.W.mg_none_of X G z_abs
  have n_enumerate := PySem.W.mg_none_of X G z_enumerate
  have n_int := PySem.W.mg_none_of X G z_int
  have n_len := PySem.W.mg_none_of X G z_len
  have n_list := PySem.W.mg_none_of X G z_list
  have n_max := PySem.W.mg_none_of X G z_max
  have n_min := PySem.W.mg_none_of X G z_min
  have n_range := PySem.W.mg_none_of X G z_range
  have n_sum := PySem.W.mg_none_of X G z_sum
  have n_tuple := PySem.W.mg_none_of X G z_tuple
  have n_zip := PySem.W.mg_none_of X G z_zip
  have m_NOUGHT := PySem.W.mg_of X G g_NOUGHT
  have r_NOUGHT : ∀ H, RAt K H a_NOUGHT (0, 1) := fun H => .inr ⟨_, _, _, l_NOUGHT, rfl, rfl, by show 2 ≤ sizeLine; decide, .cons ⟨_, rfl⟩ (.cons ⟨_, rfl⟩ .nil)⟩
  have m_ONE := PySem.W.mg_of X G g_ONE
  have r_ONE : ∀ H, RAt K H a_ONE (1, 1) := fun H => .inr ⟨_, _, _, l_ONE, rfl, rfl, by show 2 ≤ sizeLine; decide, .cons ⟨_, rfl⟩ (.cons ⟨_, rfl⟩ .nil)⟩
  refine ⟨PySem.W.fnOf "law" "law" (defArgs s_law) (defBody s_law) (defScope s_law) .none kVZ dcZ pmZ anZ cdZ ctZ, fun s v => .of_eq rfl, fun base _ _ => ?_⟩
  have C : Consts K mg a_NOUGHT a_ONE := ⟨m_NOUGHT, m_ONE, r_NOUGHT, r_ONE⟩
  have GWN : FnOk l.prog w K mg base CX0 1 fWN _ ["row"] (spWn K) := ok_wn FWN C n_len
  have GE : FnOk l.prog w K mg base CX0 1 fE _ ["_law_script"] (spFeed K) := ok_feed FE n_list
  have GD : FnOk l.prog w K mg base CX0 1 fD _ ["_law_feed_here", "_law_many"] spDraw := ok_draw FD n_len
  have GCM := ok_lcommon (P := l.prog) (w := w) (mg := mg) (base := base) FCM
  have GR := ok_ratio (P := l.prog) (w := w) (base := base) FR FC bC gC n_abs
  have GOB := ok_oob (P := l.prog) (w := w) (base := base) FOB FC bC gC n_abs
  have GOT := ok_oobT (P := l.prog) (w := w) (base := base) FOB FC bC gC n_abs
  have GL := ok_low2 FL FCM bCM gCM GCM n_abs
  have GDW := ok_dw FDW FD bD gD GD n_int n_max n_range
  have GPL := ok_plus FPL FR bR gR GR
  have GM := ok_minus FM FR bR gR GR
  have GT := ok_times FT FR bR gR GR
  have GO := ok_over FO FR bR gR GR
  have GAD := ok_added FAD FOB bOB gOB GOB FR bR gR GR n_sum
  have GAT := ok_addedT FAD FOB bOB gOB GOT FR bR gR GR n_sum
  have GRN := ok_ren FRN FOB bOB gOB GOB FR bR gR GR n_enumerate n_range n_sum n_zip
  have GDL := ok_dl FDL FD bD gD GD FDW bDW gDW GDW FL bL gL GL n_len n_min n_sum n_tuple
  have GBR := ok_behind FBR C FO bO gO GO FT bT gT GT FM bM gM GM
  have GCT := ok_chto FCT C.n FT bT gT GT n_len n_list
  have GLAD := ok_lad FLAD FPL bPL gPL GPL
  have GLADT := ok_ladLADT FLAD FPL bPL gPL GPL
  have GCA := ok_chat FCA FCT bCT gCT GCT
  have GLA := ok_lasting FLA C FCT bCT gCT GCT FAD bAD gAD GAD FM bM gM GM
  have GLS := ok_ls FLS C FOB bOB gOB GOB FCT bCT gCT GCT FR bR gR GR
  have GMI := ok_miss FMI C FBR bBR gBR GBR FAD bAD gAD GAD FM bM gM GM
  have GSHO := ok_short FSHO C FBR bBR gBR GBR FWN bWN gWN GWN FT bT gT GT n_len
  have GMO := ok_mom FMO C FM bM gM GM FBR bBR gBR GBR FO bO gO GO FT bT gT GT FPL bPL gPL GPL
  have GPU := ok_puts FPU C FCT bCT gCT GCT FRN bRN gRN GRN n_tuple
  have GME := ok_mean FME C FMI bMI gMI GMI FT bT gT GT FMO bMO gMO GMO FAD bAD gAD GAD n_enumerate n_len
  have GAG := ok_ages FAG FPU bPU gPU GPU FLS bLS gLS GLS FT bT gT GT n_tuple n_zip
  have GLE := ok_lefts FLE FOB bOB gOB GOT GOB FPU bPU gPU GPU FCT bCT gCT GCT FR bR gR GR n_range n_sum n_tuple
  have GSR := ok_stretches FSR FOB bOB gOB GOT FPU bPU gPU GPU FCT bCT gCT GCT FT bT gT GT FR bR gR GR n_enumerate n_max n_sum n_tuple
  have GSY := ok_stays FSY FT bT gT GT FMI bMI gMI GMI FAD bAD gAD GAT FPU bPU gPU GPU
  have GAF := ok_aal FAF C FPU bPU gPU GPU FT bT gT GT FCA bCA gCA GCA
  have GMB := ok_mb FMB FAD bAD gAD GAT FPU bPU gPU GPU
  have GMLF := ok_ml FMLF FME bME gME GME FM bM gM GM FT bT gT GT FAD bAD gAD GAT FPU bPU gPU GPU
  have GSH := ok_share FSH C FME bME gME GME FO bO gO GO
  have GEA := ok_ea FEA FSH bSH gSH GSH FLS bLS gLS GLS FT bT gT GT n_tuple
  have GROR := ok_ror FROR FPU bPU gPU GPU FLE bLE gLE GLE FT bT gT GT FLA bLA gLA GLA FAG bAG gAG GAG FLAD bLAD gLAD GLADT GLAD n_list n_range n_tuple
  have GPAR := ok_par FPAR FAF bAF gAF GAF FLAD bLAD gLAD GLAD GLADT FLE bLE gLE GLE FSR bSR gSR GSR FT bT gT GT FCA bCA gCA GCA FPU bPU gPU GPU n_min n_range
  have GEF := ok_ef FEF FSHO bSHO gSHO GSHO FEA bEA gEA GEA n_len
  exact ok_law FZ FE bE gE GE FD bD gD GD FDL bDL gDL GDL FEF bEF gEF GEF FROR bROR gROR GROR FPAR bPAR gPAR GPAR FPL bPL gPL GPL FMB bMB gMB GMB FSY bSY gSY GSY FT bT gT GT FMI bMI gMI GMI FMLF bMLF gMLF GMLF FME bME gME GME n_int
end Fp
open PySem PySem.W PyProof.Rows
set_option maxHeartbeats 0 in
theorem PySem.Challenge.cw_freshparts_k32_whole_what_stands_hangs_t_holds : PySem.Challenge.rw_freshparts_k32_whole_what_stands_hangs_t.Holds := by
  w_on; o_law; k_head; (case hw => w_witness2)
  k_fill
  refine Fp.walkG (l := PySem.Challenge.rw_freshparts_k32_whole_what_stands_hangs_t) (n := 63) (lv := 10) (x := "_law_script") (sp := fun w => Fp.spLaw _) rfl (by decide) rfl ⟨rfl, by decide, by decide⟩ (fun w h Y => PySem.W.kIn_of Y) ?F (fun _ _ a ns hl _ hS => ⟨a, ns, rfl, hS, fun _ => rfl⟩)
  case F =>
    intro w mg fa h KX G hmg
    refine' Fp.all_mk KX G hmg ?aC ?lC ?cC ?kC ?aR ?lR ?cR ?kR ?aPL ?lPL ?cPL ?kPL ?aM ?lM ?cM ?kM ?aT ?lT ?cT ?kT ?aO ?lO ?cO ?kO ?aOB ?lOB ?cOB ?kOB ?aAD ?lAD ?cAD ?kAD ?aRN ?lRN ?cRN ?kRN ?aBR ?lBR ?cBR ?kBR ?aCT ?lCT ?cCT ?kCT ?aCA ?lCA ?cCA ?kCA ?aLA ?lLA ?cLA ?kLA ?aLS ?lLS ?cLS ?kLS ?aMI ?lMI ?cMI ?kMI ?aSHO ?lSHO ?cSHO ?kSHO ?aWN ?lWN ?cWN ?kWN ?aME ?lME ?cME ?kME ?aMO ?lMO ?cMO ?kMO ?aPU ?lPU ?cPU ?kPU ?aAG ?lAG ?cAG ?kAG ?aLE ?lLE ?cLE ?kLE ?aSR ?lSR ?cSR ?kSR ?aSY ?lSY ?cSY ?kSY ?aAF ?lAF ?cAF ?kAF ?aMLF ?lMLF ?cMLF ?kMLF ?aMB ?lMB ?cMB ?kMB ?aSH ?lSH ?cSH ?kSH ?aEA ?lEA ?cEA ?kEA ?aEF ?lEF ?cEF ?kEF ?aE ?lE ?cE ?kE ?aD ?lD ?cD ?kD ?aCM ?lCM ?cCM ?kCM ?aL ?lL ?cL ?kL ?aDW ?lDW ?cDW ?kDW ?aDL ?lDL ?cDL ?kDL ?aLAD ?lLAD ?cLAD ?kLAD ?aROR ?lROR ?cROR ?kROR ?aPAR ?lPAR ?cPAR ?kPAR ?aZ ?lZ ?cZ ?kZ ?g_NOUGHT ?l_NOUGHT ?g_ONE ?l_ONE ?z_abs ?z_enumerate ?z_int ?z_len ?z_list ?z_max ?z_min ?z_range ?z_sum ?z_tuple ?z_zip
    (case aC => first | k_is | rfl); (case lC => first | k_is | rfl); (case cC => first | k_is | rfl); (case kC => first | k_is | rfl); (case aR => first | k_is | rfl); (case lR => first | k_is | rfl)
    (case cR => first | k_is | rfl); (case kR => first | k_is | rfl); (case aPL => first | k_is | rfl); (case lPL => first | k_is | rfl); (case cPL => first | k_is | rfl); (case kPL => first | k_is | rfl)
    (case aM => first | k_is | rfl); (case lM => first | k_is | rfl); (case cM => first | k_is | rfl); (case kM => first | k_is | rfl); (case aT => first | k_is | rfl); (case lT => first | k_is | rfl)
    (case cT => first | k_is | rfl); (case kT => first | k_is | rfl); (case aO => first | k_is | rfl); (case lO => first | k_is | rfl); (case cO => first | k_is | rfl); (case kO => first | k_is | rfl)
    (case aOB => first | k_is | rfl); (case lOB => first | k_is | rfl); (case cOB => first | k_is | rfl); (case kOB => first | k_is | rfl); (case aAD => first | k_is | rfl); (case lAD => first | k_is | rfl)
    (case cAD => first | k_is | rfl); (case kAD => first | k_is | rfl); (case aRN => first | k_is | rfl); (case lRN => first | k_is | rfl); (case cRN => first | k_is | rfl); (case kRN => first | k_is | rfl)
    (case aBR => first | k_is | rfl); (case lBR => first | k_is | rfl); (case cBR => first | k_is | rfl); (case kBR => first | k_is | rfl); (case aCT => first | k_is | rfl); (case lCT => first | k_is | rfl)
    (case cCT => first | k_is | rfl); (case kCT => first | k_is | rfl); (case aCA => first | k_is | rfl); (case lCA => first | k_is | rfl); (case cCA => first | k_is | rfl); (case kCA => first | k_is | rfl)
    (case aLA => first | k_is | rfl); (case lLA => first | k_is | rfl); (case cLA => first | k_is | rfl); (case kLA => first | k_is | rfl); (case aLS => first | k_is | rfl); (case lLS => first | k_is | rfl)
    (case cLS => first | k_is | rfl); (case kLS => first | k_is | rfl); (case aMI => first | k_is | rfl); (case lMI => first | k_is | rfl); (case cMI => first | k_is | rfl); (case kMI => first | k_is | rfl)
    (case aSHO => first | k_is | rfl); (case lSHO => first | k_is | rfl); (case cSHO => first | k_is | rfl); (case kSHO => first | k_is | rfl); (case aWN => first | k_is | rfl); (case lWN => first | k_is | rfl)
    (case cWN => first | k_is | rfl); (case kWN => first | k_is | rfl); (case aME => first | k_is | rfl); (case lME => first | k_is | rfl); (case cME => first | k_is | rfl); (case kME => first | k_is | rfl)
    (case aMO => first | k_is | rfl); (case lMO => first | k_is | rfl); (case cMO => first | k_is | rfl); (case kMO => first | k_is | rfl); (case aPU => first | k_is | rfl); (case lPU => first | k_is | rfl)
    (case cPU => first | k_is | rfl); (case kPU => first | k_is | rfl); (case aAG => first | k_is | rfl); (case lAG => first | k_is | rfl); (case cAG => first | k_is | rfl); (case kAG => first | k_is | rfl)
    (case aLE => first | k_is | rfl); (case lLE => first | k_is | rfl); (case cLE => first | k_is | rfl); (case kLE => first | k_is | rfl); (case aSR => first | k_is | rfl); (case lSR => first | k_is | rfl)
    (case cSR => first | k_is | rfl); (case kSR => first | k_is | rfl); (case aSY => first | k_is | rfl); (case lSY => first | k_is | rfl); (case cSY => first | k_is | rfl); (case kSY => first | k_is | rfl)
    (case aAF => first | k_is | rfl); (case lAF => first | k_is | rfl); (case cAF => first | k_is | rfl); (case kAF => first | k_is | rfl); (case aMLF => first | k_is | rfl); (case lMLF => first | k_is | rfl)
    (case cMLF => first | k_is | rfl); (case kMLF => first | k_is | rfl); (case aMB => first | k_is | rfl); (case lMB => first | k_is | rfl); (case cMB => first | k_is | rfl); (case kMB => first | k_is | rfl)
    (case aSH => first | k_is | rfl); (case lSH => first | k_is | rfl); (case cSH => first | k_is | rfl); (case kSH => first | k_is | rfl); (case aEA => first | k_is | rfl); (case lEA => first | k_is | rfl)
    (case cEA => first | k_is | rfl); (case kEA => first | k_is | rfl); (case aEF => first | k_is | rfl); (case lEF => first | k_is | rfl); (case cEF => first | k_is | rfl); (case kEF => first | k_is | rfl)
    (case aE => first | k_is | rfl); (case lE => first | k_is | rfl); (case cE => first | k_is | rfl); (case kE => first | k_is | rfl); (case aD => first | k_is | rfl); (case lD => first | k_is | rfl)
    (case cD => first | k_is | rfl); (case kD => first | k_is | rfl); (case aCM => first | k_is | rfl); (case lCM => first | k_is | rfl); (case cCM => first | k_is | rfl); (case kCM => first | k_is | rfl)
    (case aL => first | k_is | rfl); (case lL => first | k_is | rfl); (case cL => first | k_is | rfl); (case kL => first | k_is | rfl); (case aDW => first | k_is | rfl); (case lDW => first | k_is | rfl)
    (case cDW => first | k_is | rfl); (case kDW => first | k_is | rfl); (case aDL => first | k_is | rfl); (case lDL => first | k_is | rfl); (case cDL => first | k_is | rfl); (case kDL => first | k_is | rfl)
    (case aLAD => first | k_is | rfl); (case lLAD => first | k_is | rfl); (case cLAD => first | k_is | rfl); (case kLAD => first | k_is | rfl); (case aROR => first | k_is | rfl); (case lROR => first | k_is | rfl)
    (case cROR => first | k_is | rfl); (case kROR => first | k_is | rfl); (case aPAR => first | k_is | rfl); (case lPAR => first | k_is | rfl); (case cPAR => first | k_is | rfl); (case kPAR => first | k_is | rfl)
    (case aZ => first | k_is | rfl); (case lZ => first | k_is | rfl); (case cZ => first | k_is | rfl); (case kZ => first | k_is | rfl); (case g_NOUGHT => first | k_is | rfl); (case l_NOUGHT => first | k_is | rfl)
    (case g_ONE => first | k_is | rfl); (case l_ONE => first | k_is | rfl); (case z_abs => first | k_is | rfl); (case z_enumerate => first | k_is | rfl); (case z_int => first | k_is | rfl); (case z_len => first | k_is | rfl)
    (case z_list => first | k_is | rfl); (case z_max => first | k_is | rfl); (case z_min => first | k_is | rfl); (case z_range => first | k_is | rfl); (case z_sum => first | k_is | rfl); (case z_tuple => first | k_is | rfl)
    (case z_zip => first | k_is | rfl)
