import PyProof.Rows.All
import Wide.All
import OpenK.AllK
import Wide.FinOn
import PyProof.EqAt
import PyProof.EqKinds
import PyProof.TupleCall
import HandS.ForMost
import HandS.ForExc
import HandS.HotCalls
import HandS.ExcIs
import HandS.IsInst
import HandS.NoneIn
import HandS.Defaults
import HandS.CallSlots
import HandS.AnyAll
import HandS.EndTab
import HandS.EndOwn
import HandS.Comp
import HandS.SetBool
import HandS.SetKeys
import HandS.Strs
import HandS.Deep
import HandS.SetFor
import KE.DataFind
import PyProof.GenCompD
import HandS.Codes
import HandS.Text
import HandS.List
import HandS.More
import HandS.SortInts
import HandS.ListItems
import HandS.Walk
import PySem.Challenge.RW_timestretch_k10_watches_kept
set_option Elab.async false
set_option linter.all false
set_option maxRecDepth 100000
set_option maxHeartbeats 4000000
section
/-! A caught error handed to a def: the def's promise speaks of the error's own class. -/
namespace Ts
open PySem PySem.Spec PyProof.Rows L2
abbrev St := L2.St

/-- a promise about a caught error: its place, its class -/
abbrev SpE := Addr → Value → Sp

/-- the def at f, called within an except suite that holds the error -/
structure FnE (P : Program) (w : World) (K : PySem.W.Frag) (mg : Str → Option Value) (base : Heap) (k : Nat)
    (f : Addr) (fd : FuncData) (ps : List Str) (sp : SpE) : Prop where
  len : ∀ a c vs H Q E, sp a c vs H Q E → vs.length = ps.length
  run : ∀ (A : Around) (outer : List Env) (s : Shared) (H : Hp) (args : Args) (us : List Value) (vs : List V) (Q : VK) (E : XK)
    (p : Addr × Obj) (c : Value),
    L2H.RoomH k A → L2H.PinOk outer H s p → Zc c none p.2 → (∃ v, p.2.data = .fields v) →
    Env0 P w K mg base A outer s H → BindsTo s fd args (ps.zip us) → Vals vs us → sp p.1 c vs H Q E →
    codeAny (model P w) A (.call (.ref f) args) (CR CX0 outer P w H s Q E) s

theorem fnE_of {P : Program} {w : World} {K : PySem.W.Frag} {mg : Str → Option Value} {base : Heap} {k : Nat}
    {x qual : Str} {st : Stmt} {f : Addr} {fd : FuncData} {N ps : List Str} {sp : SpE}
    (F : Fun K x qual st f fd) (S : FnScope N ps (defScope st))
    (len : ∀ a c vs H Q E, sp a c vs H Q E → vs.length = ps.length)
    (body : ∀ (cdv : Value) (A : Around) (outer : List Env) (s : Shared) (H : Hp) (vs : List V) (Q : VK) (E : XK)
      (p : Addr × Obj) (c : Value), Zc c none p.2 → (∃ v, p.2.data = .fields v) →
      L2H.RoomH k (A.deeper (envOfC qual (defScope st) s.heap.objs.size f cdv)) → sp p.1 c vs H Q E →
      ∃ t, PSs (L2H.cxH CX0 P w K mg base N qual (defScope st) f cdv A outer s H E p) (defBody st) t ∧
        t { nx := fun _ H' => Q .non H', rt := Q } (start N vs) H) :
    FnE P w K mg base (k + 1) f fd ps sp := by
  obtain ⟨oc, od, kV, doc, pm, an, cdv, ct, osl, hfd, lk, hcd⟩ := F.ex
  subst hfd
  constructor
  · exact len
  intro A outer s H args us vs Q E p c hr hpin hz hf e0 hb r hsp
  have hl := len _ _ _ _ _ _ hsp
  have old : ∀ b o, base.get? b = some o → s.heap.get? b = some o := fun b o e => (e0.bs b o e).1
  have lim := e0.mod.nolimit.keeps old
  have kinds : ∀ y ∈ ps.zip us, (defScope st).names.lookup y.1 = some .local ∨
      ((defScope st).names.lookup y.1 = some .cell ∧
        ((cellsFrom (s.heap.objs.size + 1) (defScope st).names []).lookup y.1).isSome = true) := by
    rintro ⟨n, v⟩ hy
    cases S.par n (List.of_mem_zip hy).1 with
    | inl q => exact .inl q
    | inr q => exact .inr ⟨q, PySem.W.cellsFrom_some _ _ _ (.inl q)⟩
  refine codeAny_call_function hr.depth ((e0.mod.kin.keeps old) _ _ lk) rfl S.co S.gen rfl
    (PySem.W.codeRec_of (e0.mod.kin.keeps old) hcd) (hb _ _ _ _ ?_)
  refine wpAny_newFunctionEnv_cells S.kind kinds ?_
  intro env he s1 x1
  subst he
  refine ⟨lim.keeps x1.toInCall.keep, codeAny_func ?_⟩
  obtain ⟨t, ht, hq⟩ := body cdv A outer s H vs Q E p c hz hf (hr.deeper _) hsp
  have I := L2H.inv_startH (CX := CX0) (E := E) S hpin e0 hl r x1
  have goal := ht.run [] s1 (start N vs) H _ I hq
  refine wpAny_mono goal ?_ (fun _ _ z => z)
  intro fl s' hs
  have fin : ∀ {σ' : St} {H' : Hp} {v : V} {u : Value},
      Inv (L2H.cxH CX0 P w K mg base N qual (defScope st) f cdv A outer s H E p) [] σ' H' s' → RelV v u → Q v H' →
      CE outer P w H s Q u s' :=
    fun {_ H' v _} J rv q => ⟨v, H', J.os, J.bare, J.base, J.hok, rv, q⟩
  cases fl with
  | ret u => exact match hs with | ⟨_, _, _, J, rv, q⟩ => fin J rv q
  | next => exact match hs with | ⟨_, _, J, q⟩ => fin (v := V.non) (u := Value.none) J rfl q
  | brk => exact match hs with | ⟨_, _, _, q⟩ => q.elim
  | cont => exact match hs with | ⟨_, _, _, q⟩ => q.elim

/-- g(e, ..) in a suite that holds the error p -/
def tCallE (sp : SpE) (a : Addr) (c : Value) (d : Option Addr) (t : TA) : TE := fun σ H Q => t σ H fun vs H1 => d = none ∧ sp a c vs H1 Q E0
theorem pe_callE {X : Cx} {k : Nat} {f : Addr} {fd : FuncData} {ps : List Str} {sp : SpE} {x : Str} {q pos : Pos} {e : Expr} {es : List Expr} {t : TA} {p : Addr × Obj} {c : Value} {d : Option Addr}
    (F : FnE X.prog X.w X.K X.mg X.base k f fd ps sp) (hr : L2H.RoomH k X.A) (hp : p ∈ X.pn) (hz : Zc c d p.2) (hf : ∃ v, p.2.data = .fields v)
    (hm : X.mg x = some (.ref f)) (hk : PySem.W.keepIn X.K (.ref f) = true) (hb : Binds X.K fd ps [])
    (ha : PA X (e :: es) t) (hg : Gl X x := by rfl) (hdb : (x == ("__debug__" : Str)) = false := by decide)
    (he : starEach (e :: es) X.env = (false, eval e X.env) :: starEach es X.env := by rfl) (hpl : (backTo pos (starEach es X.env)).any (·.1) = false := by rfl) :
    PE X (.Call (.Name x q) (e :: es) [] pos) (tCallE sp p.1 c d t) := by
  constructor
  intro pins s σ H Q I h
  refine wpAny_Call_Name_kw (ld_glob I hg hm ?_ hdb)
  refine PySem.W.callWith_K (h₀ := X.base) I.ok.mod.kin hk (thn (ha.run pos pins s σ H _ I h) ?_) he hpl
  rintro us s1 ⟨vs, H1, I1, r, hd, w1⟩
  subst hd
  refine ⟨I1.kIn, ?_⟩
  have n1 : us.length = ps.length := by rw [← r.length]; exact F.len _ _ _ _ _ _ w1
  have b := hb s1 us I1.kIn (by rw [List.append_nil]; exact n1)
  rw [List.append_nil] at b
  have P1 := I1.pin p (List.mem_append_left _ hp)
  have ns : p.1 ∉ frs X.stack := fun hm => by
    cases List.mem_cons.mp (I1.stkSub p.1 hm) with
    | inl z => exact P1.2.2.1 z
    | inr z => exact P1.2.2.2.1 z
  refine wpAny_call (codeAny_mono (F.run X.A X.stack s1 H1 ⟨us, []⟩ us vs Q E0 p c hr ⟨P1.1, P1.2.1, ns, P1.2.2.2.2⟩ hz hf I1.env0 b r w1) ?_)
  intro r' s' hq
  cases r' with
  | error e => exact hq.elim
  | ok fl => cases fl with
    | ret u => exact I1.after hq
    | next => exact hq.elim
    | brk => exact hq.elim
    | cont => exact hq.elim

theorem rm_suite {j k : Nat} {A : Around} {v : Option Value} (hr : Room k A) (h : j ≤ k) : L2H.RoomH j (A.mark v) := L2H.RoomH.mono (k := k) ⟨hr.dp, hr.un⟩ h
/-- isinstance(e, c), e the error that X holds -/
theorem call_isP {X : Cx} {D : Addr} {p : Addr × Obj} (C : ExcC X.K D) (hp : p ∈ X.pn) (hz : Zc (.ref D) none p.2) (hf : ∃ v, p.2.data = .fields v) :
    CallR X (.builtin "isinstance") (rIsE X.K D p.1) := by
  rintro pins s σ H xs us Q I r ⟨c, cv, b, rfl, hcv, e, q⟩
  obtain ⟨a, oe⟩ := p
  match r with
  | .cons rx (.cons rt .nil) =>
    cases rx
    have ec := hcv _ rt
    subst ec
    have hget := (I.pin (a, oe) (List.mem_append_left _ hp)).1
    have J : PySem.W.InstAt s.heap a oe D none := by
      obtain ⟨v, hv⟩ := hf
      obtain ⟨h1, h2⟩ := hz
      obtain ⟨oc, od, oda, osl⟩ := oe
      dsimp only at hv h1 h2
      subst hv h1 h2
      exact ⟨hget, rfl, rfl, trivial⟩
    refine PySem.W.kia_one (PySem.W.handS_kitx_exc C.hg C.hk C.hs C.hd C.ha C.hn C.ht C.hm) I.kIn J e (fun z => nomatch z) ?_
    intro tk
    exact ⟨.bl b, H, I.kept (t' := tk) fun _ _ z => z, rfl, q⟩

/-- xs.count(y), flat items -/
def rCount (K : PySem.W.Frag) : V → List V → Hp → VK → Prop := fun x xs H Q => ∃ (a : Addr) (ys : List V) (y : V), x = .ref a ∧ xs = [y] ∧ SqL K H a ys ∧ flatV y = true ∧ ys.all flatV = true ∧ Q (.int ((ys.countP fun z => eqV z y : Nat) : Int)) H
theorem count_eqU {x : V} : ∀ {xs : List V} {us : List Value}, Vals xs us → xs.all flatV = true → us.countP (eqU x) = xs.countP fun y => eqV y x
  | _, _, .nil, _ => rfl
  | y :: xs, u :: us, .cons r t, f => by
    rw [List.all_cons, Bool.and_eq_true] at f
    rw [List.countP_cons, List.countP_cons, eqU_of r f.1, count_eqU t f.2]
theorem mt_count {X : Cx} : MtR X "list.count" (rCount X.K) := by
  rintro pins s σ H x xs v us Q I rx rxs ⟨a, ys, y, rfl, rfl, hs, fy, fys, q⟩
  cases rx
  match rxs with
  | .cons (b := uy) ry .nil =>
    obtain ⟨its, rv, ⟨⟨cls, dd, data, sl⟩, n, ho, hc, hdn, hd⟩, hlen⟩ := I.list hs
    simp only at hc hd
    subst hc hd
    refine call_meets PySem.F.slot_list_count ⟨_, ho, rfl⟩ PySem.F.entry_list_count (PySem.F.args_list_count_2 _ _) (SeqAt.list_countAt a its.toArray n dd sl uy (eqU y)) ⟨ho, ?_, ?_⟩
    · exact fun u hu => mem_eqAt ry fy rv fys u (by simpa using hu)
    · refine ⟨.int ((ys.countP fun z => eqV z y : Nat) : Int), H, I.tok _, ⟨s.toks, ?_⟩, q⟩
      rw [← count_eqU rv fys]
end Ts
end
section
namespace Ts
open PySem PySem.Spec PyProof.Rows L2

theorem pe_imp {X : Cx} {e : Expr} {t t' : TE} (h : PE X e t) (q : ∀ σ H Q, t' σ H Q → t σ H Q) : PE X e t' :=
  ⟨fun pins s σ H Q I w => h.run pins s σ H Q I (q σ H Q w)⟩
theorem opr_imp {X : Cx} {f : Value → Value → Sem Value} {r r' : R2} (h : OpR X f r) (q : ∀ x y H Q, r' x y H Q → r x y H Q) : OpR X f r' :=
  fun pins s σ H x y v u Q I rx ry w => h pins s σ H x y v u Q I rx ry (q x y H Q w)
theorem ixr_imp {X : Cx} {r r' : R2} (h : IxR X r) (q : ∀ x y H Q, r' x y H Q → r x y H Q) : IxR X r' :=
  fun value slice pins s σ H x y v u Q I rx ry w => h value slice pins s σ H x y v u Q I rx ry (q x y H Q w)

/-- an operation by a written number -/
def rByC (c : Int) (g : Int → V) : R2 := fun x y H Q => ∃ i, x = .int i ∧ y = .int c ∧ Q (g i) H
section
variable {X : Cx} {c : Int}
theorem op_modc (hc : (0 : Int) < c) : OpR X (binaryOp .Mod) (rByC c fun i => .int (i % c)) :=
  opr_imp op_mod fun _ _ _ _ h => match h with | ⟨i, e1, e2, q⟩ => ⟨i, c, e1, e2, hc, q⟩
theorem op_divc (hc : (0 : Int) < c) (h2 : c < 1073741824) : OpR X (binaryOp .FloorDiv) (rByC c fun i => .int (i / c)) :=
  opr_imp op_fdiv fun _ _ _ _ h => match h with | ⟨i, e1, e2, q⟩ => ⟨i, c, e1, e2, ⟨hc, h2⟩, q⟩
theorem op_mulc (hc : -(2 ^ 64) < c ∧ c < 2 ^ 64) : OpR X (binaryOp .Mult) (rByC c fun i => .int (i * c)) :=
  opr_imp op_mul fun _ _ _ _ h => match h with | ⟨i, e1, e2, q⟩ => ⟨i, c, e1, e2, Or.inr hc, q⟩
end
/-- c * e with a written number c -/
def rOfC (c : Int) (g : Int → V) : R2 := fun x y H Q => ∃ i, x = .int c ∧ y = .int i ∧ Q (g i) H
theorem op_cmul {X : Cx} {c : Int} (hc : -(2 ^ 64) < c ∧ c < 2 ^ 64) : OpR X (binaryOp .Mult) (rOfC c fun i => .int (c * i)) :=
  opr_imp op_mul fun _ _ _ _ h => match h with | ⟨i, e1, e2, q⟩ => ⟨c, i, e1, e2, Or.inl hc, q⟩
theorem pe_negc {X : Cx} {c : Int} {k : Nat} {p pos : Pos} : PE X (.UnaryOp .USub (.Constant (.int c) k p) pos) (tC (.int (-c))) :=
  pe_imp (pe_un un_neg pe_int) fun _ _ _ h => ⟨c, rfl, h⟩
theorem pe_powc {X : Cx} {n m : Int} {k k' : Nat} {p p' pos : Pos} (h0 : 0 ≤ m ∧ m ≤ 1000000 ∧ n.natAbs < 2 ^ 64) : PE X (.BinOp (.Constant (.int n) k p) .Pow (.Constant (.int m) k' p') pos) (tC (.int (n ^ m.toNat))) :=
  pe_imp (pe_op op_pow pe_int pe_int) fun _ _ _ h => ⟨n, m, rfl, rfl, h0, h⟩
theorem pe_pow12 {X : Cx} {k k' : Nat} {p p' pos : Pos} : PE X (.BinOp (.Constant (.int 10) k p) .Pow (.Constant (.int 12) k' p') pos) (tC (.int 1000000000000)) := pe_powc (by decide)
theorem pe_pow24 {X : Cx} {k k' : Nat} {p p' pos : Pos} : PE X (.BinOp (.Constant (.int 10) k p) .Pow (.Constant (.int 24) k' p') pos) (tC (.int 1000000000000000000000000)) := pe_powc (by decide)
theorem pe_pow40 {X : Cx} {k k' : Nat} {p p' pos : Pos} : PE X (.BinOp (.Constant (.int 10) k p) .Pow (.Constant (.int 40) k' p') pos) (tC (.int 10000000000000000000000000000000000000000)) := pe_powc (by decide)

theorem pe_gint {X : Cx} {x : Str} {c : Int} {t : Tok} {pos : Pos} (hm : X.mg x = some (.int c t)) (hg : Gl X x := by rfl) (hd : (x == ("__debug__" : Str)) = false := by decide) : PE X (.Name x pos) (tC (.int c)) := pe_glob hg hm ⟨_, rfl⟩ hd
theorem pe_gref {X : Cx} {x : Str} {C : Addr} {pos : Pos} (hm : X.mg x = some (.ref C)) (hg : Gl X x := by rfl) (hd : (x == ("__debug__" : Str)) = false := by decide) : PE X (.Name x pos) (tC (.ref C)) := pe_glob hg hm rfl hd
theorem pe_bty {X : Cx} {x : Str} {n : String} {pos : Pos} (hm : X.mg x = none) (hv : bootBuiltins x = some (.type n)) (hg : Gl X x := by rfl) (hn : x ≠ "__name__" := by decide) (hd : (x == ("__debug__" : Str)) = false := by decide) : PE X (.Name x pos) (tC (.ty n)) := pe_bltn hg hm hv rfl hn hd
/-! ### rules whose reading names K itself (under a binder X's own K is no answer) -/
section
variable {X : Cx} (K : PySem.W.Frag)
theorem ixL (h : X.K = K := by rfl) : IxR X (rIxL K) := h ▸ ix_list
theorem ixT (h : X.K = K := by rfl) : IxR X (rIxT K) := h ▸ ix_tup
theorem slL (h : X.K = K := by rfl) : SlR X (rSlL K) := h ▸ sl_list
theorem slT (h : X.K = K := by rfl) : SlR X (rSlT K) := h ▸ sl_tup
def rLenQ (K : PySem.W.Frag) : List V → Hp → VK → Prop := fun xs H Q => ∃ p ys, xs = [.ref p] ∧ (SqL K H p ys ∨ SqT K H p ys) ∧ Q (.int ys.length) H
theorem lenK (h : X.K = K := by rfl) : CallR X (.builtin "len") (rLenQ K) := h ▸ call_len_seq
def rListQ (K : PySem.W.Frag) : List V → Hp → VK → Prop := fun xs H Q => ∃ p ys, xs = [.ref p] ∧ (SqL K H p ys ∨ SqT K H p ys) ∧ ∀ l, H l = none → Q (.ref l) (upd H l (.lst ys))
theorem listK (h : X.K = K := by rfl) : CallR X (.type "list") (rListQ K) := h ▸ call_list_of
theorem isiK (h : X.K = K := by rfl) : CallR X (.builtin "isinstance") (rIsi K) := h ▸ call_isi
theorem eqDK (hu : X.A.units + 64 < cLine) (h : X.K = K := by rfl) : OpR X (compareOp .Eq) (rEqD K) := h ▸ op_eqD hu
theorem neDK (hu : X.A.units + 64 < cLine) (h : X.K = K := by rfl) : OpR X (compareOp .NotEq) (rNeD K) := h ▸ op_neD hu
theorem inK (h : X.K = K := by rfl) : OpR X (compareOp .In) (rIn K false) := h ▸ op_in_seq
theorem niK (h : X.K = K := by rfl) : OpR X (compareOp .NotIn) (rIn K true) := h ▸ op_notIn_seq
theorem piL {tg l : Expr} {tl : TE} (hl : PE X l tl) (h : X.K = K := by rfl) : PI X tg l (iList K tl) := h ▸ pi_list hl
theorem piT {tg l : Expr} {tl : TE} (hl : PE X l tl) (h : X.K = K := by rfl) : PI X tg l (iTup K tl) := h ▸ pi_tup hl
theorem sortK (h : X.K = K := by rfl) : CallR X (.builtin "sorted") (rSorted K) := h ▸ cr_sorted
theorem maxK (hc : X.calm = true) (h : X.K = K := by rfl) : CallR X (.builtin "max") (rMax K) := h ▸ cr_max hc
theorem minK (hc : X.calm = true) (h : X.K = K := by rfl) : CallR X (.builtin "min") (rMin K) := h ▸ cr_min hc
end
/-! ### an item of a list -/
/-- an item at a place that lies in the list -/
theorem at_in {xs : List V} {i : Int} (h0 : 0 ≤ i) (h1 : i < xs.length) : ∃ v, v ∈ xs ∧ xs[i.toNat]? = some v ∧ atI xs i = some v := by
  have hn : i.toNat < xs.length := by omega
  refine ⟨xs[i.toNat], List.getElem_mem hn, List.getElem?_eq_getElem hn, ?_⟩
  exact at_of (j := i.toNat) (by omega) (List.getElem?_eq_getElem hn)
/-- xs[i], i in bounds: any of them -/
theorem ix_any {K : PySem.W.Frag} {H : Hp} {p : Addr} {xs : List V} {i : Int} {Q : VK} (P : V → Prop) (h : SqL K H p xs) (h0 : 0 ≤ i) (h1 : i < xs.length) (hp : ∀ v ∈ xs, P v) (q : ∀ v, P v → Q v H) : rIxL K (.ref p) (.int i) H Q := by
  obtain ⟨v, hm, _, ha⟩ := at_in h0 h1
  exact ⟨p, xs, i, v, rfl, rfl, h, ha, q v (hp v hm)⟩
/-- the same of numbers -/
theorem ix_int {K : PySem.W.Frag} {H : Hp} {p : Addr} {xs : List V} {i : Int} {Q : VK} (P : Int → Prop) (h : SqL K H p xs) (h0 : 0 ≤ i) (h1 : i < xs.length) (hp : ∀ v ∈ xs, ∃ j, v = .int j ∧ P j) (q : ∀ j, P j → Q (.int j) H) : rIxL K (.ref p) (.int i) H Q :=
  ix_any (fun v => ∃ j, v = .int j ∧ P j) h h0 h1 hp fun _ ⟨j, e, pj⟩ => e ▸ q j pj
theorem all1 {P : V → Prop} {a : V} (ha : P a) : ∀ v ∈ [a], P v := fun v hv => by
  rw [List.mem_singleton] at hv
  exact hv ▸ ha
theorem allc {P : V → Prop} {a : V} {l : List V} (ha : P a) (hl : ∀ v ∈ l, P v) : ∀ v ∈ a :: l, P v := fun v hv => by
  rcases List.mem_cons.mp hv with e | e
  · exact e ▸ ha
  · exact hl v e
theorem SqL.here {K : PySem.W.Frag} {H : Hp} {p : Addr} {xs : List V} : SqL K (upd H p (.lst xs)) p xs := SqL.of upd_same
theorem same_new {H : Hp} {p : Addr} {o : HO} (h : H p = none) : Same H (upd H p o) := fun b u e => by rw [upd_ne (ne_of_none e h)]; exact e
theorem Same.seqT {K : PySem.W.Frag} {H H' : Hp} {a : Addr} {xs : List V} (e : Same H H') (h : SqT K H a xs) : SqT K H' a xs := by
  rcases h with (h | ⟨o, h⟩) | h
  · exact .inl (.inl (e _ _ h))
  · exact .inl (.inr ⟨o, e _ _ h⟩)
  · exact .inr h

/-! ### a def of the text by its name -/
structure Dfn (K : PySem.W.Frag) (mg : Str → Option Value) (x : Str) (st : Stmt) (ps : List Str) (f : Addr) (fd : FuncData) : Prop where
  F : Fun K x x st f fd
  g : mg x = some (.ref f)
  b : Binds K fd ps []
section
variable {X : Cx} {k : Nat} {f : Addr} {fd : FuncData} {ps : List Str} {sp : Sp} {st : Stmt} {x : Str} {p pos : Pos} {e : Expr} {es : List Expr} {t : TA}
/-- a call that raises nothing -/
theorem pe_cl (G : FnOk X.prog X.w X.K X.mg X.base CX0 k f fd ps sp) (D : Dfn X.K X.mg x st ps f fd) (hr : Room k X.A) (ha : PA X (e :: es) t) (hg : Gl X x := by rfl) (hdb : (x == ("__debug__" : Str)) = false := by decide)
    (he : starEach (e :: es) X.env = (false, eval e X.env) :: starEach es X.env := by rfl) (hpl : (backTo pos (starEach es X.env)).any (·.1) = false := by rfl) : PE X (.Call (.Name x p) (e :: es) [] pos) (tCall sp [] E0 t) :=
  pe_call G hr hg D.g D.F.kp D.b .nil pass0 ha hdb he hpl
/-- a call of a def that may raise, in a def that may raise: the error goes on -/
theorem pe_clX {E : XK} (G : FnOk X.prog X.w X.K X.mg X.base (L2.CX X.prog X.w) k f fd ps sp) (D : Dfn X.K X.mg x st ps f fd) (hr : Room k X.A) (tk : Takes X (fun cls d _ H => E cls d H)) (ha : PA X (e :: es) t) (hg : Gl X x := by rfl) (hdb : (x == ("__debug__" : Str)) = false := by decide)
    (he : starEach (e :: es) X.env = (false, eval e X.env) :: starEach es X.env := by rfl) (hpl : (backTo pos (starEach es X.env)).any (·.1) = false := by rfl) : PE X (.Call (.Name x p) (e :: es) [] pos) (tCall sp [] E t) :=
  pe_call G hr hg D.g D.F.kp D.b .nil (passes_call tk fun _ _ _ _ h => h) ha hdb he hpl
/-- a call of a def that may raise, where it does not -/
theorem pe_cl0 (G : FnOk X.prog X.w X.K X.mg X.base (L2.CX X.prog X.w) k f fd ps sp) (D : Dfn X.K X.mg x st ps f fd) (hr : Room k X.A) (ha : PA X (e :: es) t) (hg : Gl X x := by rfl) (hdb : (x == ("__debug__" : Str)) = false := by decide)
    (he : starEach (e :: es) X.env = (false, eval e X.env) :: starEach es X.env := by rfl) (hpl : (backTo pos (starEach es X.env)).any (·.1) = false := by rfl) : PE X (.Call (.Name x p) (e :: es) [] pos) (tCall sp [] E0 t) :=
  pe_call G hr hg D.g D.F.kp D.b .nil passL ha hdb he hpl
/-- a call of a def that may raise, in a try's body -/
theorem pe_clT {W : WX} (G : FnOk X.prog X.w X.K X.mg X.base (L2.CX X.prog X.w) k f fd ps sp) (D : Dfn X.K X.mg x st ps f fd) (hr : Room k X.A) (tk : Takes X W) (ha : PA X (e :: es) t) (hg : Gl X x := by rfl) (hdb : (x == ("__debug__" : Str)) = false := by decide)
    (he : starEach (e :: es) X.env = (false, eval e X.env) :: starEach es X.env := by rfl) (hpl : (backTo pos (starEach es X.env)).any (·.1) = false := by rfl) : PE X (.Call (.Name x p) (e :: es) [] pos) (tCallS sp (WE W) t) :=
  pe_callS G hr hg D.g D.F.kp D.b (fun σ => passAt tk σ) ha hdb he hpl
end
/-! ### an error class of the program -/
structure Err (K : PySem.W.Frag) (mg : Str → Option Value) (x : Str) (C : Addr) : Prop where
  g : mg x = some (.ref C)
  x : PySem.W.excIn K C [.type "ValueError", .type "Exception", .type "BaseException", .type "object"] "ValueError.__new__" = true
  k : PySem.W.keepIn K (.ref C) = true
  s : PySem.W.subIn K (.ref C) (.type "BaseException") = some true
  t : PySem.W.typeIn K (.ref C) = some (.type "type")
theorem ps_rs {X : Cx} {W : WX} {x m : Str} {C : Addr} {j : Nat} {p p2 pos pos2 : Pos} (hc : X.calm = true) (tk : Takes X W) (T : Err X.K X.mg x C) (hg : Gl X x := by rfl) (hdb : (x == ("__debug__" : Str)) = false := by decide) :
    PS X (.Raise (some (.Call (.Name x p) [.Constant (.str m) j p2] [] pos)) none pos2) (fun _ σ H => W (.ref C) none σ H) :=
  ps_raise hc tk (pmk_own PySem.F.excBase_ValueError T.x T.g T.k (raises_own T.s T.t) hg hdb)
theorem gen_new {H H3 : Hp} {p : Addr} {o : HO} (h : upd H p o = H3) (np : H p = none) : Same H H3 ∧ H3 p = some o := by
  subst h
  exact ⟨same_new np, upd_same⟩
theorem perm2 {ns : List Int} {x y : Int} (h : ns.Perm [x, y]) (s : ns.Pairwise (· ≤ ·)) : ∃ a b, ns = [a, b] ∧ a ≤ b ∧ ((a = x ∧ b = y) ∨ (a = y ∧ b = x)) := by
  have hl : ns.length = 2 := h.length_eq
  match ns, hl with
  | [a, b], _ =>
    refine ⟨a, b, rfl, (List.pairwise_cons.mp s).1 b List.mem_cons_self, ?_⟩
    have ha : a = x ∨ a = y := by
      have z := h.mem_iff.mp (List.mem_cons_self (a := a) (l := [b]))
      simpa using z
    rcases ha with rfl | rfl
    · have z := (List.perm_cons a).mp h
      exact Or.inl ⟨rfl, by simpa using z⟩
    · have z : [a, b].Perm [a, x] := h.trans (List.Perm.swap a x [])
      have z2 := (List.perm_cons a).mp z
      exact Or.inr ⟨rfl, by simpa using z2⟩
/-- sorted of a list of two numbers -/
theorem sorted2 {K : PySem.W.Frag} {H : Hp} {p : Addr} {x y : Int} {Q : VK} (h : SqL K H p [.int x, .int y])
    (q : ∀ (a b : Int) (p' : Addr), a ≤ b → ((a = x ∧ b = y) ∨ (a = y ∧ b = x)) → H p' = none → Q (.ref p') (upd H p' (.lst [.int a, .int b]))) : rSorted K [.ref p] H Q := by
  refine ⟨p, [x, y], rfl, h, (by show 2 < 64; decide), fun ns' p' hp hs np => ?_⟩
  obtain ⟨a, b, e, hab, hxy⟩ := perm2 hp hs
  subst e
  exact q a b p' hab hxy np
/-- behind a statement one goes on from what it leaves -/
theorem seq_cut {t u : TS} {D : Ends} {σ : L2.St} {H : Hp} (P : L2.St → Hp → Prop) (h1 : ∀ N : L2.St → Hp → Prop, (∀ σ' H', P σ' H' → N σ' H') → t { D with nx := N } σ H)
    (h2 : ∀ σ' H', P σ' H' → u D σ' H') : tSeq t u D σ H := h1 (u D) h2
theorem bl_true {Q : VK} {H : Hp} {b : Bool} (h : b = true) (q : Q (.bl true) H) : Q (.bl b) H := h.symm ▸ q
theorem bl_false {Q : VK} {H : Hp} {b : Bool} (h : b = false) (q : Q (.bl false) H) : Q (.bl b) H := h.symm ▸ q
/-- a test that is known -/
theorem ite_yes {c : Bool} {A B : Prop} (h : c = true) (q : A) : if c = true then A else B := by
  rw [if_pos h]
  exact q
theorem ite_no {c : Bool} {A B : Prop} (h : c = false) (q : B) : if c = true then A else B := by
  rw [if_neg (by rw [h]; exact Bool.false_ne_true)]
  exact q
theorem dec_int {i j : Int} : decide (V.int i = V.int j) = decide (i = j) := by
  by_cases h : i = j
  · rw [decide_eq_true h, decide_eq_true (by rw [h])]
  · rw [decide_eq_false h, decide_eq_false (fun z => h (V.int.inj z))]
/-- a == b on numbers, as a test: both ways -/
theorem ite_eq {i j : Int} {A B : Prop} (h1 : i = j → A) (h2 : i ≠ j → B) : if decide (V.int i = V.int j) = true then A else B := by
  rw [dec_int]
  exact ite2 (fun z => h1 (of_decide_eq_true z)) (fun z => h2 fun e => z (decide_eq_true e))
/-- a < b and its kin: both ways -/
theorem ite_dec {p : Prop} [Decidable p] {A B : Prop} (h1 : p → A) (h2 : ¬ p → B) : if decide p = true then A else B :=
  ite2 (fun z => h1 (of_decide_eq_true z)) (fun z => h2 fun e => z (decide_eq_true e))
end Ts
end
section
/-! A def whose last parameter has the default None: called with it, without it, and by its name. -/
namespace Ts
open PySem PySem.Spec PyProof.Rows L2

structure DfnD (K : PySem.W.Frag) (mg : Str → Option Value) (x : Str) (st : Stmt) (ps : List Str) (kw : Str) (f : Addr) (fd : FuncData) : Prop where
  F : FunD K x x (defArgs st) (defBody st) (defScope st) [.non] [] f fd
  g : mg x = some (.ref f)
  b : Binds K fd ps []
  b3 : Binds K fd ps [.none]
  bk : ∀ (s : Shared) (us ws : List Value), K.In s.heap → us.length + 1 = ps.length → ws.length = 1 → BindsTo s fd ⟨us, [kw].zip ws⟩ (ps.zip (us ++ ws))
theorem fd_mk {K : PySem.W.Frag} {h : Heap} {mg : Str → Option Value} {x kw : Str} {st : Stmt} {ps : List Str} {f T : Addr} {oc kV doc pm cdv ct tc : Value} {od an td : Option Addr} {osl tsl : Array (Option Value)} {n : Nat} (X : K.In h) (G : h.Ns mainGlobals mg)
    (a : PySem.W.nsIn K mainGlobals x = some (some (.ref f))) (l : K.lookup f = some ⟨oc, od, .func (PySem.W.fnOf x x (defArgs st) (defBody st) (defScope st) (.ref T) kV doc pm an cdv ct), osl⟩) (c : PySem.W.codeIn K cdv x = true) (k : PySem.W.keepIn K (.ref f) = true)
    (d : K.lookup T = some ⟨tc, td, .seq #[.none] n, tsl⟩)
    (h4 : ∀ us : List Value, us.length = ps.length → ∃ kk, bindArgs (PySem.W.fnOf x x (defArgs st) (defBody st) (defScope st) (.ref T) kV doc pm an cdv ct) ⟨us, []⟩ = seqItems? (.ref T) >>= kk ∧ kk (some #[.none]) = pure (ps.zip us))
    (h3 : ∀ us : List Value, us.length + 1 = ps.length → ∃ kk, bindArgs (PySem.W.fnOf x x (defArgs st) (defBody st) (defScope st) (.ref T) kV doc pm an cdv ct) ⟨us, []⟩ = seqItems? (.ref T) >>= kk ∧ kk (some #[.none]) = pure (ps.zip (us ++ [.none])))
    (hk : ∀ (us : List Value) (v : Value), us.length + 1 = ps.length → ∃ kk, bindArgs (PySem.W.fnOf x x (defArgs st) (defBody st) (defScope st) (.ref T) kV doc pm an cdv ct) ⟨us, [(kw, v)]⟩ = seqItems? (.ref T) >>= kk ∧ kk (some #[.none]) = pure (ps.zip (us ++ [v]))) :
    DfnD K mg x st ps kw f (PySem.W.fnOf x x (defArgs st) (defBody st) (defScope st) (.ref T) kV doc pm an cdv ct) where
  F := ⟨⟨oc, od, _, kV, doc, pm, an, cdv, ct, osl, rfl, l, c, .inr ⟨by simp, T, _, [.none], n, rfl, d, rfl, .cons rfl .nil⟩, .inl rfl⟩, k⟩
  g := PySem.W.mg_of X G a
  b := fun s us KI hl => by
    rw [List.append_nil] at hl ⊢
    obtain ⟨kk, e1, e2⟩ := h4 us hl
    exact PySem.W.binds_K KI rfl d rfl e1 e2
  b3 := fun s us KI hl => by
    rw [List.length_append] at hl
    obtain ⟨kk, e1, e2⟩ := h3 us hl
    exact PySem.W.binds_K KI rfl d rfl e1 e2
  bk := fun s us ws KI hl hw => by
    match ws, hw with
    | [v], _ =>
      obtain ⟨kk, e1, e2⟩ := hk us v hl
      exact PySem.W.binds_K KI rfl d rfl e1 e2
section
variable {X : Cx} {k : Nat} {f : Addr} {fd : FuncData} {ps : List Str} {sp : Sp} {st : Stmt} {x kw : Str} {p pos : Pos} {e : Expr} {es : List Expr} {t tk' : TA} {W : WX}
/-- the default fills up; in a try's body -/
theorem pe_clT3 (G : FnOk X.prog X.w X.K X.mg X.base (L2.CX X.prog X.w) k f fd ps sp) (D : DfnD X.K X.mg x st ps kw f fd) (hr : Room k X.A) (tk : Takes X W) (ha : PA X (e :: es) t) (hg : Gl X x := by rfl) (hdb : (x == ("__debug__" : Str)) = false := by decide)
    (he : starEach (e :: es) X.env = (false, eval e X.env) :: starEach es X.env := by rfl) (hpl : (backTo pos (starEach es X.env)).any (·.1) = false := by rfl) : PE X (.Call (.Name x p) (e :: es) [] pos) (tCallSD sp [.non] (WE W) t) :=
  pe_callSD G hr hg D.g D.F.kp D.b3 (.cons rfl .nil) (fun σ => passAt tk σ) ha hdb he hpl
/-- all are given; in a try's body -/
theorem pe_clT4 (G : FnOk X.prog X.w X.K X.mg X.base (L2.CX X.prog X.w) k f fd ps sp) (D : DfnD X.K X.mg x st ps kw f fd) (hr : Room k X.A) (tk : Takes X W) (ha : PA X (e :: es) t) (hg : Gl X x := by rfl) (hdb : (x == ("__debug__" : Str)) = false := by decide)
    (he : starEach (e :: es) X.env = (false, eval e X.env) :: starEach es X.env := by rfl) (hpl : (backTo pos (starEach es X.env)).any (·.1) = false := by rfl) : PE X (.Call (.Name x p) (e :: es) [] pos) (tCallS sp (WE W) t) :=
  pe_callS G hr hg D.g D.F.kp D.b (fun σ => passAt tk σ) ha hdb he hpl
/-- all are given; in a def that may raise -/
theorem pe_clX4 {E : XK} (G : FnOk X.prog X.w X.K X.mg X.base (L2.CX X.prog X.w) k f fd ps sp) (D : DfnD X.K X.mg x st ps kw f fd) (hr : Room k X.A) (tk : Takes X (fun cls d _ H => E cls d H)) (ha : PA X (e :: es) t) (hg : Gl X x := by rfl) (hdb : (x == ("__debug__" : Str)) = false := by decide)
    (he : starEach (e :: es) X.env = (false, eval e X.env) :: starEach es X.env := by rfl) (hpl : (backTo pos (starEach es X.env)).any (·.1) = false := by rfl) : PE X (.Call (.Name x p) (e :: es) [] pos) (tCall sp [] E t) :=
  pe_call G hr hg D.g D.F.kp D.b .nil (passes_call tk fun _ _ _ _ h => h) ha hdb he hpl
def tCallNS (n m : Nat) (sp : Sp) (E : L2.St → XK) (t tk : TA) : TE := fun σ H Q => t σ H fun vs H1 => tk σ H1 fun zs H2 => vs.length = n ∧ zs.length = m ∧ sp (vs ++ zs) H2 Q (E σ)
/-- the last one by its name; in a try's body -/
theorem pe_clTK {kws : List Keyword} (G : FnOk X.prog X.w X.K X.mg X.base (L2.CX X.prog X.w) k f fd ps sp) (D : DfnD X.K X.mg x st ps kw f fd) (hr : Room k X.A) (tk : Takes X W) (ha : PA X (e :: es) t) (hkw : PK X kws tk') (hg : Gl X x := by rfl)
    (hall : (backToKw pos (keywordEach kws X.env)).all (·.1.isSome) = true := by rfl) (hks : (backToKw pos (keywordEach kws X.env)).filterMap (·.1) = [kw] := by rfl)
    (hdb : (x == ("__debug__" : Str)) = false := by decide) (he : starEach (e :: es) X.env = (false, eval e X.env) :: starEach es X.env := by rfl)
    (hpl : ((backTo pos (starEach (e :: es) X.env)).any (·.1) || (backToKw pos (keywordEach kws X.env)).any (·.1.isNone)) = false := by rfl) :
    PE X (.Call (.Name x p) (e :: es) kws pos) (tCallNS (ps.length - 1) 1 sp (WE W) t tk') := by
  refine ⟨fun pins s σ H Q I h => ?_⟩
  refine wpAny_Call_Name_kw (ld_glob I hg D.g ?_ hdb)
  refine PySem.W.callWith_KW (h₀ := X.base) I.ok.mod.kin D.F.kp hall (thn (ha.run pos pins s σ H _ I h) fun us s1 ⟨vs, H1, I1, r, q⟩ => ?_) hpl he
  refine thn (hkw.run pos pins s1 σ H1 _ I1 q) fun ws s2 ⟨zs, H2, I2, rz, l1, l2, q2⟩ => ⟨I2.kIn, ?_⟩
  rw [hks]
  have r2 := r.append rz
  have hl : (vs ++ zs).length = ps.length := G.len _ _ _ _ q2
  rw [List.length_append] at hl
  have hb := D.bk s2 us ws I2.kIn (by rw [← r.length]; omega) (by rw [← rz.length]; exact l2)
  refine wpAny_call (codeAny_mono (G.run X.A X.stack s2 H2 ⟨us, [kw].zip ws⟩ (us ++ ws) (vs ++ zs) Q (WE W σ) hr I2.env0 hb r2 q2) fun r s' hq => ?_)
  cases r with
  | error e => exact passAt tk σ pins H2 s2 e s' I2 hq
  | ok fl =>
    cases fl with
    | ret u => exact I2.after hq
    | next => exact False.elim hq
    | brk => exact False.elim hq
    | cont => exact False.elim hq
end
end Ts
end
section
namespace Ts
open PySem PySem.Spec PyProof.Rows L2

/-- what the class at D, the j-th of cs, must say of itself -/
structure Kd (K : PySem.W.Frag) (cs : List Addr) (S D : Addr) (j : Nat) : Prop where
  ex : ExcC K D
  em : PySem.W.exmOne K (.ref D) (.ref S) = some true
  ve : PySem.W.kitOne K (.ref D) (.type "ValueError") = some true
  bit : ∀ (i : Nat) (c : Addr), cs[i]? = some c → PySem.W.kitOne K (.ref D) (.ref c) = some (decide (i = j))
  lt : j < 10
theorem exm_sub {K : PySem.W.Frag} {C D : Addr} (h1 : PySem.W.subIn K (.ref C) (.type "BaseException") = some true) (h2 : PySem.W.hasDictIn K C = true) (h3 : PySem.W.typeIn K (.ref C) = some (.type "type"))
    (h4 : PySem.W.subIn K (.ref D) (.ref C) = some true) : PySem.W.exmOne K (.ref D) (.ref C) = some true := PySem.W.exm_ref h1 h2 h3 h4
theorem kd_mk {K : PySem.W.Frag} {S D c0 c1 c2 c3 c4 c5 c6 c7 c8 c9 : Addr} {j : Nat} {b0 b1 b2 b3 b4 b5 b6 b7 b8 b9 : Bool} (ex : ExcC K D) (em : PySem.W.exmOne K (.ref D) (.ref S) = some true) (ve : PySem.W.kitOne K (.ref D) (.type "ValueError") = some true)
    (q0 : PySem.W.kitOne K (.ref D) (.ref c0) = some b0) (q1 : PySem.W.kitOne K (.ref D) (.ref c1) = some b1) (q2 : PySem.W.kitOne K (.ref D) (.ref c2) = some b2) (q3 : PySem.W.kitOne K (.ref D) (.ref c3) = some b3) (q4 : PySem.W.kitOne K (.ref D) (.ref c4) = some b4)
    (q5 : PySem.W.kitOne K (.ref D) (.ref c5) = some b5) (q6 : PySem.W.kitOne K (.ref D) (.ref c6) = some b6) (q7 : PySem.W.kitOne K (.ref D) (.ref c7) = some b7) (q8 : PySem.W.kitOne K (.ref D) (.ref c8) = some b8) (q9 : PySem.W.kitOne K (.ref D) (.ref c9) = some b9)
    (hj : j < 10 := by decide) (hb : [b0, b1, b2, b3, b4, b5, b6, b7, b8, b9] = (List.range 10).map fun i => decide (i = j) := by decide) : Kd K [c0, c1, c2, c3, c4, c5, c6, c7, c8, c9] S D j where
  ex := ex
  em := em
  ve := ve
  lt := hj
  bit := fun i c h => by
    have e : ∀ {b : Bool}, [b0, b1, b2, b3, b4, b5, b6, b7, b8, b9][i]? = some b → b = decide (i = j) := fun {b} hi => by
      rw [hb, List.getElem?_map] at hi
      cases hr : (List.range 10)[i]? with
      | none => rw [hr] at hi; cases hi
      | some k =>
        rw [hr] at hi
        obtain ⟨_, e1⟩ := List.getElem?_eq_some_iff.mp hr
        rw [List.getElem_range] at e1
        rw [e1]
        exact (Option.some.inj hi).symm
    match i, h with
    | 0, h => cases h; rw [q0, e rfl]
    | 1, h => cases h; rw [q1, e rfl]
    | 2, h => cases h; rw [q2, e rfl]
    | 3, h => cases h; rw [q3, e rfl]
    | 4, h => cases h; rw [q4, e rfl]
    | 5, h => cases h; rw [q5, e rfl]
    | 6, h => cases h; rw [q6, e rfl]
    | 7, h => cases h; rw [q7, e rfl]
    | 8, h => cases h; rw [q8, e rfl]
    | 9, h => cases h; rw [q9, e rfl]
    | i + 10, h => simp at h

def kwords : List Str := ["name", "letter", "off", "early", "count", "none", "wide", "many", "clock", "text"]
def kword (j : Nat) : Str := kwords.getD j "other"
def spKind (K : PySem.W.Frag) (cs : List Addr) (S : Addr) : SpE := fun a c vs H Q _ => ∃ (D : Addr) (j : Nat), c = .ref D ∧ vs = [.ref a] ∧ Kd K cs S D j ∧ ∀ H', Same H H' → Q (.str (kword j)) H'
def kbits (j : Nat) : List V := (List.range 10).map fun i => V.bl (decide (i = j))
theorem kbits_eq (j : Nat) : kbits j = [V.bl (decide (0 = j)), V.bl (decide (1 = j)), V.bl (decide (2 = j)), V.bl (decide (3 = j)), V.bl (decide (4 = j)), V.bl (decide (5 = j)), V.bl (decide (6 = j)), V.bl (decide (7 = j)), V.bl (decide (8 = j)), V.bl (decide (9 = j))] := rfl
theorem k10 {j : Nat} (h : j < 10) {P : Nat → Prop} (p : P 0 ∧ P 1 ∧ P 2 ∧ P 3 ∧ P 4 ∧ P 5 ∧ P 6 ∧ P 7 ∧ P 8 ∧ P 9) : P j := by
  obtain ⟨p0, p1, p2, p3, p4, p5, p6, p7, p8, p9⟩ := p
  match j, h with
  | 0, _ => exact p0
  | 1, _ => exact p1
  | 2, _ => exact p2
  | 3, _ => exact p3
  | 4, _ => exact p4
  | 5, _ => exact p5
  | 6, _ => exact p6
  | 7, _ => exact p7
  | 8, _ => exact p8
  | 9, _ => exact p9
theorem kbits_count {j : Nat} (h : j < 10) : (kbits j).countP (fun z => eqV z (.bl true)) = 1 := k10 (P := fun j => (kbits j).countP (fun z => eqV z (.bl true)) = 1) h (by decide)
theorem kbits_flat (j : Nat) : (kbits j).all flatV = true := by rw [kbits_eq]; rfl
theorem kbits_at {j : Nat} (h : j < 10) : (kbits j)[j]? = some (.bl true) := k10 (P := fun j => (kbits j)[j]? = some (.bl true)) h (by decide)
theorem kbits_no {j : Nat} (h : j < 10) : ∀ (m : Nat) (z : V), m < j → (kbits j)[m]? = some z → eqV z (.bl true) = false := fun m z hm hz => by
  unfold kbits at hz
  rw [List.getElem?_map] at hz
  have e : (List.range 10)[m]? = some m := by rw [List.getElem?_range (by omega)]
  rw [e] at hz
  have e2 : V.bl (decide (m = j)) = z := Option.some.inj hz
  rw [← e2, decide_eq_false (by omega)]
  rfl
theorem kword_at {j : Nat} (h : j < 10) : atI (kwords.map V.str) ((j : Nat) : Int) = some (.str (kword j)) := by
  refine atI_nat ?_
  rw [List.getElem?_map]
  have e : kwords[j]? = some (kword j) := k10 (P := fun j => kwords[j]? = some (kword j)) h (by refine ⟨rfl, rfl, rfl, rfl, rfl, rfl, rfl, rfl, rfl, rfl⟩)
  rw [e]
  rfl
end Ts
end
section
/-! Texts by their codes. -/
namespace Ts
open PySem PySem.Spec PyProof.Rows L2

def mkS (l : List Nat) : Str := ⟨l.toArray⟩
theorem mkS_list (l : List Nat) : (mkS l).cps.toList = l := by simp [mkS]
theorem mkS_len (l : List Nat) : (mkS l).length = l.length := by simp [mkS, Str.length]
theorem mkS_cat (a b : List Nat) : mkS a ++ mkS b = mkS (a ++ b) := by
  show Str.mk (a.toArray ++ b.toArray) = Str.mk (a ++ b).toArray
  congr 1
  simp
theorem mkS_inj {a b : List Nat} (h : mkS a = mkS b) : a = b := by
  have := congrArg (fun z : Str => z.cps.toList) h
  simpa [mkS] using this
theorem cut_to (l : List Nat) (k : Nat) : cutS (mkS l) none (some (k : Int)) = mkS (l.take k) := by
  unfold cutS
  rw [HT.sIx_none, HT.sIx_nat, mkS_list, mkS_len, List.drop_zero, Nat.sub_zero]
  congr 2
  by_cases h : k ≤ l.length
  · rw [Nat.min_eq_left h]
  · rw [Nat.min_eq_right (by omega), List.take_of_length_le (Nat.le_refl _), List.take_of_length_le (by omega)]
theorem cut_from (l : List Nat) (k : Nat) : cutS (mkS l) (some (k : Int)) none = mkS (l.drop k) := by
  unfold cutS
  rw [HT.sIx_none, HT.sIx_nat, mkS_list, mkS_len]
  congr 1
  by_cases h : k ≤ l.length
  · rw [Nat.min_eq_left h, List.take_of_length_le (by rw [List.length_drop]; exact Nat.le_refl _)]
  · rw [Nat.min_eq_right (by omega), Nat.sub_self, List.take_zero, List.drop_eq_nil_of_le (by omega)]
theorem ofS (x : Str) : x = mkS x.cps.toList := by simp [mkS]
theorem alpha_list : ("abcdefghijklmnopqrstuvwxyz" : Str).cps.toList = (List.range 26).map (97 + ·) := by decide +kernel
theorem alpha_at {i : Int} (h0 : 0 ≤ i) (h1 : i < 26) : atI ("abcdefghijklmnopqrstuvwxyz" : Str).cps.toList i = some (97 + i.toNat) := by
  rw [alpha_list]
  obtain ⟨k, rfl⟩ := Int.eq_ofNat_of_zero_le h0
  refine atI_nat ?_
  rw [List.getElem?_map, List.getElem?_range (by omega)]
  rfl
theorem alpha_len : ("abcdefghijklmnopqrstuvwxyz" : Str).length ≤ sizeLine := by decide +kernel
def low (l : List Nat) : Prop := ∀ c ∈ l, 97 ≤ c ∧ c ≤ 122
/-- a name: 1 to 12 small letters -/
def nmOk (l : List Nat) : Prop := 1 ≤ l.length ∧ l.length ≤ 12 ∧ low l
/-- the k-th of the names round a base -/
def nmL (b : List Nat) (j k : Nat) : List Nat := b.take j ++ [97 + k % 26] ++ (if k < 26 then [] else [122]) ++ b.drop j
theorem nmL_ok {b : List Nat} {j k : Nat} (hb : b.length ≤ 10) (hl : low b) (hk : k < 42) : nmOk (nmL b j k) := by
  have e : (nmL b j k).length = b.length + 1 + (if k < 26 then 0 else 1) := by
    unfold nmL
    by_cases h : k < 26
    · simp only [h, if_true, List.length_append, List.length_take, List.length_drop, List.length_cons, List.length_nil]
      omega
    · simp only [h, if_false, List.length_append, List.length_take, List.length_drop, List.length_cons, List.length_nil]
      omega
  refine ⟨?_, ?_, fun c hc => ?_⟩
  · rw [e]; omega
  · rw [e]; split <;> omega
  · unfold nmL at hc
    simp only [List.mem_append] at hc
    rcases hc with ((hc | hc) | hc) | hc
    · exact hl c (List.mem_of_mem_take hc)
    · simp at hc; omega
    · by_cases h : k < 26
      · simp [h] at hc
      · simp [h] at hc; omega
    · exact hl c (List.mem_of_mem_drop hc)
theorem nmL_inj {b : List Nat} {j k k' : Nat} (hk : k < 42) (hk' : k' < 42) (h : nmL b j k = nmL b j k') : k = k' := by
  unfold nmL at h
  have h1 := List.append_cancel_right h
  rw [List.append_assoc, List.append_assoc] at h1
  have h2 := List.append_cancel_left h1
  by_cases a : k < 26 <;> by_cases a' : k' < 26 <;> simp [a, a'] at h2 <;> omega
def nmList (b : List Nat) (j : Nat) : List (List Nat) := (List.range 42).map (nmL b j)
theorem nmList_nodup (b : List Nat) (j : Nat) : (nmList b j).Nodup := by
  unfold nmList
  refine List.pairwise_map.mpr (List.Pairwise.imp_of_mem (fun {x y} hx hy hne h => hne (nmL_inj (List.mem_range.mp hx) (List.mem_range.mp hy) h)) List.nodup_range)
theorem slr_imp {X : Cx} {r r' : V → Option Int → Option Int → Hp → VK → Prop} (h : SlR X r) (q : ∀ x lo hi H Q, r' x lo hi H Q → r x lo hi H Q) : SlR X r' := by
  intro pins s σ H x v vl vu lo hi sl Q I r1 r2 r3 r4 w
  exact h pins s σ H x v vl vu lo hi sl Q I r1 r2 r3 r4 (q _ _ _ _ _ w)
/-- texts by their codes: z[:k], z[k:], x + y, z[i] -/
def rTo : V → Option Int → Option Int → Hp → VK → Prop := fun x lo hi H Q => ∃ (l : List Nat) (k : Nat), x = .str (mkS l) ∧ lo = none ∧ hi = some (k : Int) ∧ l.length ≤ 1000000 ∧ Q (.str (mkS (l.take k))) H
def rFrom : V → Option Int → Option Int → Hp → VK → Prop := fun x lo hi H Q => ∃ (l : List Nat) (k : Nat), x = .str (mkS l) ∧ lo = some (k : Int) ∧ hi = none ∧ l.length ≤ 1000000 ∧ Q (.str (mkS (l.drop k))) H
def rAddS : R2 := fun x y H Q => ∃ a b : List Nat, x = .str (mkS a) ∧ y = .str (mkS b) ∧ a.length + b.length ≤ 1000000 ∧ Q (.str (mkS (a ++ b))) H
def rAtS : R2 := fun x y H Q => ∃ (l : List Nat) (i c : Nat), x = .str (mkS l) ∧ y = .int (i : Int) ∧ l.length ≤ 1000000 ∧ l[i]? = some c ∧ Q (.str (mkS [c])) H
section
variable {X : Cx}
theorem mkS_le0 {l : List Nat} (h : l.length ≤ 1000000) : (mkS l).length ≤ sizeLine := by
  rw [mkS_len]
  exact Nat.le_trans h (by decide)
theorem sl_to : SlR X rTo := slr_imp sl_str fun x lo hi H Q h => by
  obtain ⟨l, k, rfl, rfl, rfl, hl, q⟩ := h
  rw [← cut_to] at q
  exact ⟨_, rfl, mkS_le0 hl, q⟩
theorem sl_from : SlR X rFrom := slr_imp sl_str fun x lo hi H Q h => by
  obtain ⟨l, k, rfl, rfl, rfl, hl, q⟩ := h
  rw [← cut_from] at q
  exact ⟨_, rfl, mkS_le0 hl, q⟩
theorem op_addC : OpR X (binaryOp .Add) rAddS := opr_imp op_add_str fun x y H Q h => by
  obtain ⟨a, b, rfl, rfl, hl, q⟩ := h
  rw [← mkS_cat] at q
  exact ⟨_, _, rfl, rfl, by rw [mkS_len, mkS_len]; exact Nat.le_trans hl (by decide), q⟩
theorem ix_C : IxR X rAtS := ixr_imp ix_str fun x y H Q h => by
  obtain ⟨l, i, c, rfl, rfl, hl, hc, q⟩ := h
  exact ⟨_, _, c, rfl, rfl, mkS_le0 hl, atI_nat (by rw [mkS_list]; exact hc), q⟩
theorem pe_strC {x : Str} {j : Nat} {pos : Pos} {l : List Nat} (h : x = mkS l) : PE X (.Constant (.str x) j pos) (tC (.str (mkS l))) := h ▸ pe_str
end
/-- texts of a list of codes -/
def txs (ls : List (List Nat)) : List V := ls.map fun l => V.str (mkS l)
theorem txs_at {ls : List (List Nat)} {i : Int} (h0 : 0 ≤ i) (h1 : i < ls.length) : ∃ l, l ∈ ls ∧ atI (txs ls) i = some (.str (mkS l)) := by
  have hn : i.toNat < ls.length := by omega
  refine ⟨ls[i.toNat], List.getElem_mem hn, ?_⟩
  refine at_of (j := i.toNat) (by omega) ?_
  unfold txs
  rw [List.getElem?_map, List.getElem?_eq_getElem hn]
  rfl
theorem mkS_le {l : List Nat} (h : l.length ≤ 1000000) : (mkS l).length ≤ sizeLine := by
  rw [mkS_len]
  exact Nat.le_trans h (by decide)
theorem mkS2_le {a b : List Nat} (h : a.length + b.length ≤ 1000000) : (mkS a).length + (mkS b).length ≤ sizeLine := by
  rw [mkS_len, mkS_len]
  exact Nat.le_trans h (by decide)
theorem mkS_one (c : Nat) : (⟨#[c]⟩ : Str) = mkS [c] := rfl
theorem str_nil : ("" : Str) = mkS [] := by decide +kernel
theorem str_z : ("z" : Str) = mkS [122] := by decide +kernel
end Ts
namespace Ts
open PySem PySem.Spec PyProof.Rows L2
theorem alphaL {j : Nat} (h : j < 26) : [97, 98, 99, 100, 101, 102, 103, 104, 105, 106, 107, 108, 109, 110, 111, 112, 113, 114, 115, 116, 117, 118, 119, 120, 121, 122][j]? = some (97 + j) := by
  have e : [97, 98, 99, 100, 101, 102, 103, 104, 105, 106, 107, 108, 109, 110, 111, 112, 113, 114, 115, 116, 117, 118, 119, 120, 121, 122] = (List.range 26).map (97 + ·) := by decide
  rw [e, List.getElem?_map, List.getElem?_range h]
  rfl
/-- an object that H does not know may change -/
theorem Same.mut {H H1 : Hp} {D : Addr} {o : HO} (s : Same H H1) (h : H D = none) : Same H (upd H1 D o) := fun b u e => by
  rw [upd_ne (ne_of_none e h)]
  exact s b u e
end Ts
namespace Ts
open PySem PySem.Spec PyProof.Rows L2
theorem SqT.grow {K : PySem.W.Frag} {H : Hp} {D t : Addr} {xs acc acc' : List V} (h : SqT K H t xs) (hD : H D = some (.lst acc)) : SqT K (upd H D (.lst acc')) t xs := by
  rcases h with (h | ⟨o, h⟩) | h
  · exact .inl (.inl (by rw [upd_ne (ne_of h hD (by intro z; cases z))]; exact h))
  · exact .inl (.inr ⟨o, by rw [upd_ne (ne_of h hD (by intro z; cases z))]; exact h⟩)
  · exact .inr h
theorem cutV_len {xs : List V} (lo hi : Nat) : cutV xs (some (lo : Int)) (some (hi : Int)) = (xs.drop lo).take (hi - lo) := by
  unfold cutV
  rw [HT.sIx_nat, HT.sIx_nat]
  by_cases h1 : lo ≤ xs.length
  · rw [Nat.min_eq_left h1]
    by_cases h2 : hi ≤ xs.length
    · rw [Nat.min_eq_left h2]
    · rw [Nat.min_eq_right (show xs.length ≤ hi by omega)]
      rw [List.take_of_length_le (by rw [List.length_drop]; exact Nat.le_refl _), List.take_of_length_le (by rw [List.length_drop]; omega)]
  · rw [Nat.min_eq_right (show xs.length ≤ lo by omega), List.drop_eq_nil_of_le (Nat.le_refl _), List.drop_eq_nil_of_le (by omega), List.take_nil, List.take_nil]
end Ts
namespace Ts
open PySem PySem.Spec PyProof.Rows L2
theorem tyT {K : PySem.W.Frag} {H : Hp} {t : Addr} {xs : List V} (h : SqT K H t xs) : TyX K H (.ref t) (.type "tuple") := by
  rcases h with (h | ⟨o, h⟩) | ⟨o, its, n, h, c, _⟩
  · exact .base (.tup h)
  · exact .fTuple h
  · exact .kTuple h c
theorem take_snoc {α : Type} {l : List α} {i : Nat} {x : α} (h : l[i]? = some x) : l.take (i + 1) = l.take i ++ [x] := by
  obtain ⟨hi, e⟩ := List.getElem?_eq_some_iff.mp h
  rw [List.take_succ_eq_append_getElem hi, e]
theorem inV_txs (n : List Nat) (ls : List (List Nat)) : inV (.str (mkS n)) (txs ls) = decide (n ∈ ls) := by
  unfold inV txs
  rw [List.any_map]
  have e : ∀ l : List Nat, eqV (.str (mkS l)) (.str (mkS n)) = decide (l = n) := fun l => by
    show (mkS l == mkS n) = decide (l = n)
    by_cases h : l = n
    · rw [decide_eq_true h, h]
      exact beq_self_eq_true _
    · rw [decide_eq_false h]
      exact beq_eq_false_iff_ne.mpr fun z => h (mkS_inj z)
  induction ls with
  | nil => rfl
  | cons l r ih =>
    rw [List.any_cons, ih]
    show (eqV (.str (mkS l)) (.str (mkS n)) || decide (n ∈ r)) = _
    rw [e]
    by_cases h : l = n
    · subst h
      simp
    · have h2 : n ≠ l := fun z => h z.symm
      simp [h, h2]
theorem txs_flat (ls : List (List Nat)) : (txs ls).all flatV = true := by
  unfold txs
  rw [List.all_map]
  exact List.all_eq_true.mpr fun _ _ => rfl
theorem eq_str (a b : List Nat) : decide (V.str (mkS a) = V.str (mkS b)) = decide (a = b) := by
  by_cases h : a = b
  · rw [decide_eq_true h, decide_eq_true (by rw [h])]
  · rw [decide_eq_false h, decide_eq_false fun z => h (mkS_inj (V.str.inj z))]
end Ts
end
section
/-! A chain of three comparisons; all(.. for sign in text); the end where a def holds a generator expression. -/
namespace Ts
open PySem PySem.Spec PyProof.Rows L2

def tChain3 (r1 r2 r3 : R2) (ta tb tc td : TE) : TE := fun σ H Q => ta σ H fun x H1 => tb σ H1 fun y H2 => r1 x y H2 fun z H3 => ∃ k, z = .bl k ∧
  (if k = true then tc σ H3 fun w H4 => r2 y w H4 fun z2 H5 => ∃ k2, z2 = .bl k2 ∧ (if k2 = true then td σ H5 fun u H6 => r3 w u H6 Q else Q (.bl false) H5) else Q (.bl false) H3)
theorem pe_chain3 {X : Cx} {o1 o2 o3 : CmpOp} {r1 r2 r3 : R2} {a b c d : Expr} {ta tb tc td : TE} {pos : Pos} (h1 : OpR X (compareOp o1) r1) (h2 : OpR X (compareOp o2) r2) (h3 : OpR X (compareOp o3) r3)
    (ha : PE X a ta) (hb : PE X b tb) (hc : PE X c tc) (hd : PE X d td) (hm : lastMarks [o1, o2, o3] [b, c, d] = false := by with_unfolding_all rfl) : PE X (.Compare a [o1, o2, o3] [b, c, d] pos) (tChain3 r1 r2 r3 ta tb tc td) := by
  constructor
  intro pins s σ H Q I w
  refine Compare_chain ?_ hm
  refine thn (ha.run pins s σ H _ I w) ?_
  rintro va s1 ⟨x, H1, I1, rx, q1⟩
  refine chain_link ?_
  refine thn (hb.run pins s1 σ H1 _ I1 q1) ?_
  rintro vb s2 ⟨y, H2, I2, ry, q2⟩
  refine thn (h1 pins s2 σ H2 x y va vb _ I2 rx ry q2) ?_
  rintro vz s3 ⟨z, H3, I3, rz, k, ek, q3⟩
  subst ek
  cases rz
  refine wpAny_truthy_bool ?_
  cases k with
  | false => exact ite_ff ⟨.bl false, H3, I3, rfl, q3⟩
  | true =>
    refine ite_tt (chain_link ?_)
    refine thn (hc.run pins s3 σ H3 _ I3 q3) ?_
    rintro vc s4 ⟨w4, H4, I4, rw4, q4⟩
    refine thn (h2 pins s4 σ H4 y w4 vb vc _ I4 ry rw4 q4) ?_
    rintro vy s5 ⟨z2, H5, I5, rz2, k2, ek2, q5⟩
    subst ek2
    cases rz2
    refine wpAny_truthy_bool ?_
    cases k2 with
    | false => exact ite_ff ⟨.bl false, H5, I5, rfl, q5⟩
    | true =>
      refine ite_tt (chain_last ?_)
      refine thn (hd.run pins s5 σ H5 _ I5 q5) ?_
      rintro vd s6 ⟨u, H6, I6, ru, q6⟩
      exact h3 pins s6 σ H6 w4 u vc vd Q I6 rw4 ru q6

/-- 'a' <= x <= 'z' -/
theorem elt_az {prog : Program} {w : World} {scope : Scope} {x : Str} {j1 j2 : Nat} {p1 p2 p3 p4 : Pos} (hk : scope.kind = .function) (hl : scope.names.lookup x = some .local) (hd : (x == ("__debug__" : Str)) = false := by decide) :
    GxR.EltP prog w scope x (.Compare (.Constant (.str "a") j1 p1) [.LtE, .LtE] [.Name x p2, .Constant (.str "z") j2 p3] p4) (fun c => decide (97 ≤ c) && decide (c ≤ 122)) := by
  intro cenv A' E' c t s₂ m₂ hs hn hm
  have hz : cenv.scope.names.lookup x = some .local := by rw [hs]; exact hl
  have le1 : (!decide ([c] < ("a" : Str).cps.toList)) = decide (97 ≤ c) := by
    have e : ("a" : Str).cps.toList = [97] := by decide +kernel
    rw [e]
    by_cases h : 97 ≤ c
    · rw [decide_eq_true h]
      have : ¬ [c] < [97] := fun z => by
        rcases List.cons_lt_cons_iff.mp z with q | ⟨_, q⟩
        · omega
        · exact absurd q (List.not_lt_nil _)
      rw [decide_eq_false this]
      rfl
    · rw [decide_eq_false h]
      have : [c] < [97] := List.cons_lt_cons_iff.mpr (.inl (by omega))
      rw [decide_eq_true this]
      rfl
  have le2 : (!decide (("z" : Str).cps.toList < [c])) = decide (c ≤ 122) := by
    have e : ("z" : Str).cps.toList = [122] := by decide +kernel
    rw [e]
    by_cases h : c ≤ 122
    · rw [decide_eq_true h]
      have : ¬ [122] < [c] := fun z => by
        rcases List.cons_lt_cons_iff.mp z with q | ⟨_, q⟩
        · omega
        · exact absurd q (List.not_lt_nil _)
      rw [decide_eq_false this]
      rfl
    · rw [decide_eq_false h]
      have : [122] < [c] := List.cons_lt_cons_iff.mpr (.inl (by omega))
      rw [decide_eq_true this]
      rfl
  refine Compare_chain ?_
  refine Calls.Constant_str ?_
  refine chain_link ?_
  refine wpAny_Name (wpAny_loadName_local (by rw [hs]; exact hk) hz hn hm ?_) hd
  refine PySem.P.le_str ?_
  refine wpAny_truthy_bool ?_
  show if (!decide (([c] : List Nat) < ("a" : Str).cps.toList)) = true then _ else _
  rw [le1]
  by_cases h : 97 ≤ c
  · rw [decide_eq_true h]
    refine ite_tt (chain_last ?_)
    refine Calls.Constant_str ?_
    refine PySem.P.le_str ?_
    refine ⟨?_, GxR.keeps_tok _ _⟩
    show Value.bool (!decide (("z" : Str).cps.toList < ([c] : List Nat))) = _
    rw [le2]
    show _ = Value.bool (decide (97 ≤ c) && decide (c ≤ 122))
    rw [decide_eq_true h]
    rfl
  · rw [decide_eq_false h]
    refine ite_ff ⟨?_, GxR.keeps_tok _ _⟩
    show _ = Value.bool (decide (97 ≤ c) && decide (c ≤ 122))
    rw [decide_eq_false h]
    rfl
end Ts
end
section
/-! A def that holds a generator expression: its code object's table, from the law's end to its call. -/
namespace Ts
open PySem PySem.Spec PyProof.Rows L2

/-- what stood is kept, but for the table at P -/
def TabS (P : Addr) (H H' : Hp) : Prop := ∀ b o, b ≠ P → H b = some o → H' b = some o
theorem TabS.of {P : Addr} {H H' : Hp} (h : GxR.Tabbed P H H') : TabS P H H' := fun b _ n e => (h.2 b n).trans e
theorem TabS.andThen {P : Addr} {H H' H'' : Hp} (h : TabS P H H') (s : Same H' H'') : TabS P H H'' := fun b o n e => s b o (h b o n e)
theorem TabS.tup {P t : Addr} {H H' : Hp} {xs : List V} (h : TabS P H H') (g : GxR.TabG H P) (e : H t = some (.tup xs)) : H' t = some (.tup xs) :=
  h t _ (fun z => by
    subst z
    obtain ⟨ps, e2, _⟩ := g
    rw [e] at e2
    cases e2) e
theorem tab_same {P : Addr} {H H' : Hp} (s : Same H H') (g : GxR.TabG H P) : GxR.TabG H' P := let ⟨ps, e, k⟩ := g; ⟨ps, s _ _ e, k⟩
theorem tab_upd {P p : Addr} {H : Hp} {xs : List V} {o : HO} (g : GxR.TabG H P) (e : H p = some (.lst xs)) : GxR.TabG (upd H p o) P := by
  obtain ⟨ps, e2, k⟩ := g
  refine ⟨ps, (upd_ne fun z => ?_).trans e2, k⟩
  subst z
  rw [e] at e2
  cases e2
/-- the generator expression's own scope -/
theorem gs_of {env : Env} {scope : Scope} {x : Str} (h1 : scope.kind = .function) (h2 : scope.isCoroutine = false) (h3 : ∀ y ∈ scope.names, y.2 ≠ .cell ∧ y.2 ≠ .free) (h4 : scope.names.lookup (".0" : Str) = some NameKind.local) (h5 : scope.names.lookup x = some .local) : GxR.GenS env scope x :=
  ⟨h1, h2, fun y hy => (h3 y hy).1, h4, h5, fun y hy z => absurd z (h3 y hy).2⟩
/-- a def whose code object's address is known -/
theorem fn_code {Pr : Program} {w : World} {K : PySem.W.Frag} {mg : Str → Option Value} {base : Heap} {x qual : Str} {st : Stmt} {f c : Addr} {fd : FuncData} {N ps : List Str} {k : Nat} {sp : Sp} (D : L2.Fun K x qual st f fd) (hc : fd.code = .ref c) (S : FnScope N ps (defScope st))
    (ln : ∀ vs H Q E, sp vs H Q E → vs.length = ps.length)
    (body : ∀ (A : Around) (outer : List Env) (s : Shared) (H : Hp) (vs : List V) (Q : VK) (E : XK), Room k (A.deeper (envOfC qual (defScope st) s.heap.objs.size f (.ref c))) → sp vs H Q E →
      ∃ t, PSs (cxOf CX0 Pr w K mg base N qual (defScope st) f (.ref c) A outer s H E).nox (defBody st) t ∧ t { nx := fun _ H2 => Q .non H2, rt := Q } (start N vs) H) : FnOk Pr w K mg base CX0 (k + 1) f fd ps sp := by
  obtain ⟨q1, q2, q3, q4, q5, q6, q7, q8, q9, e1, e2, e3⟩ := D.ex
  subst e1
  have e4 : q7 = .ref c := hc
  subst e4
  exact fn_of e2 e3 S ln fun A outer s H vs Q E r h => let ⟨t, b, g⟩ := body A outer s H vs Q E r h; ⟨t, b.nox, g⟩
/-- the table of the def of that name is empty -/
def TabOf (K : PySem.W.Frag) (mg : Str → Option Value) (h : Heap) (nm : Str) : Prop := ∀ (f c P : Addr) (o : Obj) (fd : FuncData) (e : Value) (dd : Option Addr) (vs : Array Value) (sl : Array (Option Value)),
  mg nm = some (.ref f) → K.lookup f = some o → o.data = .func fd → fd.code = .ref c → K.lookup c = some ⟨e, dd, .fields vs, sl⟩ → vs[11]? = some (.ref P) →
  h.get? P = some { cls := .none, data := .fields #[] } ∧ PySem.W.CodeHd h c P
/-- the end of a law, one of whose defs (nm) holds a generator expression -/
theorem walk_tab {l : PySem.W.OpenLaw} {n k : Nat} {q : Program} {loose : List Str} {XP : (Str → Option Value) → Heap → Prop} {YP : World → Heap → Prop} {d : DefRec} {K : Params → PySem.W.Frag} {CX : World → CXT} {x nm : Str}
    (hn : l.most = some n) (hle : n ≤ sizeLine) (hdf : d.params.defaults = []) (room : Room k callerA) (hrec : ((recsOf q).any fun e => e.name == nm) = true) (hY : ∀ (w : World) (h : Heap), YP w h → (K w.params).In h)
    (F : ∀ (w : World) (mg : Str → Option Value) (fa : Addr) (h : Heap), (K w.params).In h → h.Ns mainGlobals mg → mg d.name = some (.ref fa) → TabOf (K w.params) mg h nm → LamX.LawAtS l w (K w.params) (CX w) k n x mg fa h)
    (hCX : ∀ (w : World) (H : Hp) (s : Shared) (e : Value) (s' : Shared), CX w [] H s (fun _ _ _ => False) e s' → False) :
    PySem.W.WalkO q loose XP YP l.row.toRowW d [] (fun f vs => PySem.call f vs) := by
  refine Att.attach_callB hn hdf ?_
  intro w s0 s1 mg mb fa o pm cd doc a vs ns G Y ho hd hcd hmg hobj hints hlen hbits hg
  have inK := hY w _ Y
  have tab : TabOf (K w.params) mg s1.heap nm := by
    intro f c P o1 fd1 e dd us sl z1 z2 z3 z4 z5 z6
    obtain ⟨r, rm, rn⟩ := List.any_eq_true.mp hrec
    obtain ⟨f', o', fd', c', P', y1, y2, y3, y4, y5, y6⟩ := G.T.tab r rm
    rw [beq_iff_eq.mp rn, z1] at y1
    cases y1
    rw [inK _ _ z2] at y2
    cases y2
    rw [z3] at y3
    cases y3
    rw [z4] at y4
    cases y4
    have hd := PySem.W.CodeHd.of y5 y6
    obtain ⟨⟨oc, uc, x1, _, x3, x4⟩, hP⟩ := y6
    rw [inK _ _ z5] at x1
    cases x1
    cases x3
    rw [z6] at x4
    cases x4
    exact ⟨hP, hd⟩
  obtain ⟨fd, cs, sp, b1, b2, b3, b4, b5, b6⟩ := F w mg fa _ inK G.T.g hmg tab
  exact LamX.law_callTs inK G.T.g G.T.b G.T.builtins G.T.nolimit hg b1 b2 b3 G.T.bmain hobj hints (Nat.le_trans hlen hle) room b6 b4 (fun H hH hS => b5 H a ns hlen hbits hH hS) fun H e s' => hCX w H s1 e s'
end Ts
namespace Ts
theorem tab_nil {P : PySem.Addr} {H : L2.Hp} (e : H P = some (.tbl #[])) : GxR.TabG H P := ⟨#[], e, trivial⟩
end Ts
namespace Ts
open L2
theorem place_nat {n j : Nat} (h : j < n) : ixN n (j : Int) = some j := by
  unfold ixN
  rw [if_pos (Int.natCast_nonneg j), if_pos (by omega)]
  simp
end Ts
end
section
/-! A list comprehension whose element may raise: the error leaves through the block to the def that holds it. -/
namespace Ts
open PySem PySem.Spec PyProof.Rows L2 HandSPX

/-! ### an error in the air, held by this frame or not yet -/
/-- kept from (H, h) on the way to the error's ground B; h' is the heap with the error; ch may have changed -/
structure Way (fs ch : List Addr) (H H' : Hp) (h B h' : Heap) : Prop where
  keep : ∀ b o, h.get? b = some o → H b = none → b ∉ fs → b ∉ ch → B.get? b = some o
  slot : ∀ b o, h.get? b = some o → H b = none → b ∈ fs → b ∉ ch → ∃ sl, h'.get? b = some { o with slots := sl }
  free : ∀ b o, h.get? b = some o → H b = none → b ∉ ch → H' b = none
  there : ∀ b o, h.get? b = some o → b ∉ fs → b ∉ ch → ∃ o', B.get? b = some o'
  tups : ∀ b xs, H b = some (.tup xs) → H' b = some (.tup xs)
  frzs : ∀ b o xs, H b = some (.frz o xs) → H' b = some (.frz o xs)
  tbls : ∀ b ps, H b = some (.tbl ps) → ∃ more, H' b = some (.tbl (ps ++ more))
/-- what may have changed is none of the def's own -/
def OffOwn (X : Cx) (pins : List (Addr × Obj)) (ch : List Addr) : Prop := ∀ b ∈ ch, (b ∈ X.ex ∨ X.s_0.heap.objs.size ≤ b) ∧ b ≠ X.env.locals ∧ (∀ x c, X.env.cells.lookup x = some c → c ≠ b) ∧ ∀ p ∈ X.pn ++ pins, p.1 ≠ b

theorem in_air {X : Cx} {pins : List (Addr × Obj)} {σ : St} {H H' : Hp} {s s' : Shared} {ch : List Addr} {B : Heap} {W : WX} {a : Addr} {cls : Value} {d : Option Addr}
    (I : Inv X pins σ H s) (off : OffOwn X pins ch) (way : Way (frs X.stack) ch H H' s.heap B s'.heap) (good : HOk X.prog X.w H' B) (sits : B.StaysIn s'.heap)
    (sky : Sky B X.stack a (Zc cls d) X.env.locals s'.heap) (na : H' a = none) (os : s'.os = s.os) (bare : AllBare s'.gens) (wish : W cls d σ H') : XE X W (.ref a) s' := by
  -- the state without the error: the ground and the frames
  obtain ⟨G, yes, no⟩ := restrict s'.heap fun b => decide (b ∈ frs X.stack) || (B.get? b).isSome
  have fromB : B.StaysIn G := fun b o e => (yes b (by rw [e]; simp)).trans (sits b o e)
  have fromF : ∀ {b}, b ∈ frs X.stack → G.get? b = s'.heap.get? b := fun {b} m => yes b (by simp [m])
  have inG : ∀ {b o}, G.get? b = some o → s'.heap.get? b = some o ∧ (b ∉ frs X.stack → B.get? b = some o) := fun {b o} e => by
    by_cases t : (decide (b ∈ frs X.stack) || (B.get? b).isSome) = true
    · have e' := (yes b t).symm.trans e
      refine ⟨e', fun nm => ?_⟩
      have : (B.get? b).isSome = true := by simpa [nm] using t
      obtain ⟨o', q⟩ := Option.isSome_iff_exists.mp this
      cases (sits b o' q).symm.trans e'
      exact q
    · rw [no b (by simpa using t)] at e
      cases e
  have un : Un (frs X.stack) ch H H' s.heap G :=
    { keep := fun b o e n nm nc => fromB b o (way.keep b o e n nm nc)
      slot := fun b o e n m nc => by rw [fromF m]; exact way.slot b o e n m nc
      free := way.free
      there := fun b o e nc => by
        by_cases m : b ∈ frs X.stack
        · rw [fromF m]
          exact ⟨_, (way.slot b o e (I.stkFree b m) m nc).choose_spec⟩
        · obtain ⟨o', q⟩ := way.there b o e m nc
          exact ⟨o', fromB b o' q⟩
      tups := way.tups
      frzs := way.frzs
      tbls := way.tbls }
  refine ⟨a, B, { heap := G, gens := s'.gens, drawn := s'.drawn, toks := s'.toks, os := s.os }, pins, σ, H', cls, d, rfl, ?_, fun b o e nm => (inG e).2 nm, .of_keeps fun b o e => (inG e).1, sky, na, os, bare, wish⟩
  exact I.call' (ch := ch) rfl un (good.kept fromB) bare off

/-! ### the block's errors -/
/-- what an element's error is: that of a call out of a state of the block -/
def BlkE (Y : Cx) (E : XK) : Value → Shared → Prop := fun u s' => ∃ (pins : List (Addr × Obj)) (σ : St) (H : Hp) (s : Shared), Inv Y pins σ H s ∧ L2.CX Y.prog Y.w Y.stack H s E u s'
/-- the block, its elements may raise -/
abbrev Cx.blkE (X : Cx) (s : Shared) (H : Hp) (scope : Scope) (cenv : Env) (fp : List Addr) (E : XK) : Cx := (X.blk s H scope cenv fp).wish (BlkE (X.blk s H scope cenv fp) E)
theorem passes_blk {X : Cx} {s : Shared} {H : Hp} {scope : Scope} {cenv : Env} {fp : List Addr} {E : XK} : Passes (L2.CX X.prog X.w) (Cx.blkE X s H scope cenv fp E) E :=
  fun pins σ H' s0 e s' I c => ⟨pins, σ, H', s0, I.unwish, c⟩

section
variable {M : Model} {A : Around} {E₁ : Value → Shared → Prop} {env env' : Env} {s : Shared}
theorem note_same (h : env'.frame = env.frame) (x : Value) : noteFrame x env' = noteFrame x env := by
  unfold noteFrame PySem.frameOf
  rw [h]
/-- the object C is taken out of the ground -/
theorem held_off {B h h' : Heap} {l : List Env} {a C L : Addr} {Z : Obj → Prop} {oC : Obj} (x : HeldZ B l a Z L h) (hC : B.get? C = some oC) (sb : Heap.SameBut C h h') : HeldZ (PySem.W.hideAll B [C]) l a Z L h' := by
  obtain ⟨stay, na, fr, oe, vs, T, oT, ts, he, hz, hd, h1, nT, neT, hT, hdT, h3⟩ := x
  have off : ∀ {b o}, (PySem.W.hideAll B [C]).get? b = some o → b ≠ C ∧ B.get? b = some o := fun {b o} e => by
    refine ⟨fun z => ?_, PySem.W.of_hideAll _ e⟩
    rw [z, PySem.W.hideAll_none [C] (by simp)] at e
    cases e
  have none_of : ∀ {b}, B.get? b = none → (PySem.W.hideAll B [C]).get? b = none := fun {b} n => by
    cases q : (PySem.W.hideAll B [C]).get? b with
    | none => rfl
    | some o => rw [(off q).2] at n; cases n
  have ne : ∀ {b}, B.get? b = none → b ≠ C := fun {b} n z => by rw [z, hC] at n; cases n
  refine ⟨fun b o e => (sb.2 b (off e).1).trans (stay b o (off e).2), none_of na, ?_, oe, vs, T, oT, ts, (sb.2 a (ne na)).trans he, hz, hd, h1, none_of nT, neT, (sb.2 T (ne nT)).trans hT, hdT, h3⟩
  have frames : ∀ {l : List Env}, h.FunFrames B l → h'.FunFrames (PySem.W.hideAll B [C]) l := by
    intro l
    induction l with
    | nil => exact fun _ => trivial
    | cons e r ih =>
      rintro ⟨k, ⟨F, o, hf, nF, eF, nd⟩, rest⟩
      exact ⟨k, ⟨F, o, hf, none_of nF, (sb.2 F (ne nF)).trans eF, nd⟩, ih rest⟩
  exact frames fr
/-- the block's variables let go, the error goes on -/
theorem goes_on {B : Heap} {l : List Env} {a L : Addr} {Z : Obj → Prop} {what : String} {Q : Value → Shared → Prop} (hf : env.frame = some L) (x : HeldZ B l a Z L s.heap)
    (h : ∀ h', HeldZ B l a Z L h' → s.heap.UpToSlots h' → E₁ (.ref a) { s with heap := h' }) : wpAny M A (PySem.passOn what (.ref a) env : Sem Value) Q E₁ s := by
  have t := x.2.2.2
  obtain ⟨oe, vs, T, _, _, he, _, hd, h1, _⟩ := t
  unfold PySem.passOn
  rw [hf]
  refine wpAny_bind (wpAny_field he hd h1 ?_)
  rw [if_neg (by simp)]
  exact wpAny_bind (setFlight_onZ x fun h' y up => wpAny_throw (h h' y up))
end

/-! ### the comprehension around its block -/
/-- how a block ends; an error's env is the block's own -/
def BlkEnd (M : Model) (A : Around) (E : Value → Shared → Prop) (use : Option (Value → Sem Unit)) (Q : Value → Shared → Prop) (acc : Value) (be : Env) (r : Result) (s' : Shared) : Prop :=
  match r with
  | .ok f => compPost M A E use Q acc be.locals (.ok f) s'
  | .error x => (∃ m, s'.heap.Ns be.locals m) ∧ ∀ h', Heap.SameBut be.locals s'.heap h' → wpAny M A (PySem.passOn "comprehension.variables-let-go" x be : Sem Value) (fun _ _ => False) E { s' with heap := h' }

section
variable {M : Model} {A : Around} {E : Value → Shared → Prop} {env : Env} {s : Shared}
theorem comp_blk {e : Expr} {scope : Scope} {pos : Pos} {newAcc first : Sem Value} {g : Comprehension} {gs : List Comprehension} {cl : List (Str × Addr)} {use : Option (Value → Sem Unit)} {Q : Value → Shared → Prop}
    (one : clausesOf e = g :: gs) (plain : ∀ x, foldedSetIterable g.iter env x = pure x) (clo : closureFor scope env = pure cl) (knd : scope.kind = .function) (uniq : ∀ y ∈ scope.names, scope.names.lookup y.1 = some y.2)
    (h : wpAny M A first (fun x s1 => wpAny M A (pyIter x) (fun it s2 => wpAny M A newAcc (fun acc s3 => wpAny M A (newFunctionEnv scope env.globals cl [] env.qual none .none (some env)) (fun be s4 =>
      codeAny M A (.compStart e 0 it acc { be with scope := relabel scope env }) (BlkEnd M A E use Q acc { be with scope := relabel scope env }) s4) E s3) E s2) E s1) E s) :
    wpAny M A (comprehension e scope env pos newAcc false first use) Q E s := by
  unfold comprehension
  rw [one, clo]
  refine wpAny_bind (thn h fun x s1 h1 => ?_)
  refine wpAny_bind (wpAny_standAt ?_)
  refine wpAny_bind (wpAny_of_eq (plain x) ?_)
  refine wpAny_bind (wpAny_holding (thn h1 fun it s2 h2 => ?_))
  refine wpAny_standIf ?_
  refine wpAny_bind (thn h2 fun acc s3 h3 => ?_)
  refine wpAny_bind (wpAny_pure ?_)
  refine wpAny_bind (thn h3 fun be s4 h4 => ?_)
  dsimp only
  have here : ∀ {y : Str × NameKind}, y ∈ (scope.names.filter fun (n, k) => (k == .local || k == .cell) && n != (".0" : Str)).reverse → y.2 = .local → Env.kindOf { be with scope := relabel scope env } y.1 = some .local := fun {y} m l => by
    have m' : y ∈ scope.names := (List.mem_filter.mp (List.mem_reverse.mp m)).1
    exact lookup_relabel_local (by rw [uniq y m', l])
  refine wpAny_holding (wpAny_bind (wpAny_attempt (wpAny_holding (wpAny_run (codeAny_mono h4 fun r s' q => ?_)))))
  match r, use, q with
  | .ok f, none, ⟨m, ns, q⟩ =>
    refine wpAny_bind (wpAny_holding (wpAny_comp_letGo (cenv := { be with scope := relabel scope env }) knd _ s' m (fun _ => here) ns fun h' _ _ sb => wpAny_pure (q h' sb)))
  | .error x, none, ⟨⟨m, ns⟩, q⟩ =>
    refine wpAny_bind (wpAny_holding (wpAny_comp_letGo (cenv := { be with scope := relabel scope env }) knd _ s' m (fun _ => here) ns fun h' _ _ sb => wpAny_mono (q h' sb) (fun _ _ z => z.elim) fun _ _ z => z))
  | .error x, some u, ⟨⟨m, ns⟩, q⟩ =>
    refine wpAny_bind (wpAny_holding (wpAny_comp_letGo (cenv := { be with scope := relabel scope env }) knd _ s' m (fun _ => here) ns fun h' _ _ sb => wpAny_mono (q h' sb) (fun _ _ z => z.elim) fun _ _ z => z))
  | .ok f, some u, q =>
    refine wpAny_bind (wpAny_rule (wpAny_bind (wpAny_holding (thn q fun _ s'' q' => ?_))))
    obtain ⟨m, ns, q'⟩ := q'
    refine wpAny_bind (wpAny_comp_letGo (cenv := { be with scope := relabel scope env }) knd _ s'' m (fun y m => here ?_) ns fun h' _ _ sb => wpAny_pure (q' h' sb))
    exact (List.mem_append.mp m).elim List.mem_of_mem_drop List.mem_of_mem_take
end

/-! ### an element's error, noted -/
section
variable {X : Cx} {pins : List (Addr × Obj)} {σ : St} {H3 : Hp} {s3 : Shared} {E : XK}
theorem blk_noted {scope : Scope} {be : Env} {fp : List Addr} {use : Option (Value → Sem Unit)} {Qf : Value → Shared → Prop} {acc u : Value} {s' : Shared}
    (I3 : Inv X pins σ H3 s3) (stk : X.stack = X.env :: X.outer) (own : X.env.frame = some X.env.locals) (tk : Takes X fun cls d _ H => E cls d H) (off : OffOwn X pins fp)
    (bf : be.frame = X.env.frame) (bl : be.locals = s3.heap.objs.size) (x : BlkE (X.blk s3 H3 scope be fp) E u s') :
    notedBy (model X.prog X.w) X.A be (fun e s'' => BlkEnd (model X.prog X.w) X.A X.xe use Qf acc be (.error e) s'') u s' := by
  obtain ⟨pins', σ', H0, s0, I, a, B, H2, cls, d, rfl, fl, good, ub, na, os, bare, wish⟩ := x
  have base : Un (frs X.stack) fp H3 H0 s3.heap s0.heap := I.base
  have fl : FlyingZ B (X.env :: X.outer) a (Zc cls d) s'.heap := stk ▸ fl
  have old : ∀ {b o}, s3.heap.get? b = some o → b ≠ be.locals := fun {b o} e z => by
    rw [bl] at z
    exact Nat.lt_irrefl _ (z ▸ Heap.lt_size e)
  have frame : ∀ {b}, b ∈ frs X.stack → ∃ o, s3.heap.get? b = some o ∧ ∀ vs, o.data ≠ .fields vs := fun {b} m => (I3.stack.mem m).2
  obtain ⟨m, ⟨oC, es, ep, eC, rest⟩, _⟩ := I.loc
  have noF : be.locals ∉ frs X.stack := fun m => by
    obtain ⟨o, e, _⟩ := frame m
    exact old e rfl
  have inB : B.get? be.locals = some oC := ub.keep _ _ eC I.free noF
  have noC : H2 be.locals = none := ub.free _ _ eC I.free
  show wpAny _ _ (noteFrame (.ref a) be) _ _ _
  rw [note_same bf]
  refine looks_onZ Zc.steady (by rw [I3.ok.frames, stk]) own fl fun h1 held up => ?_
  refine ⟨⟨m, oC, es, ep, held.1 _ _ inB, rest⟩, fun h' sb => ?_⟩
  refine goes_on (bf.trans own) (held_off held inB sb) fun h2 held2 up2 => ?_
  refine tk _ _ (in_air I3 off (B := PySem.W.hideAll B [be.locals]) (H' := H2) ?_ ?_ held2.1 (.inr (.inr (stk ▸ held2))) na (os.trans I.os) bare wish)
  · have offC : ∀ {b o}, B.get? b = some o → b ≠ be.locals → (PySem.W.hideAll B [be.locals]).get? b = some o := fun {b o} e ne => PySem.W.hideAll_get _ e (by simpa using ne)
    exact
      { keep := fun b o e n nm nc => offC (ub.keep b o (base.keep b o e n nm nc) (base.free b o e n nc) nm) (old e)
        slot := fun b o e n mm nc => by
          obtain ⟨o', e', nd⟩ := frame mm
          cases e.symm.trans e'
          obtain ⟨sl, e1⟩ := base.slot b o e n mm nc
          obtain ⟨sl2, e2⟩ := ub.slot b _ e1 mm
          obtain ⟨sl3, e3⟩ := up b _ e2 nd
          obtain ⟨sl4, e4⟩ := up2 b _ ((sb.2 b (old e)).trans e3) nd
          exact ⟨sl4, e4⟩
        free := fun b o e n nc => by
          obtain ⟨o', e'⟩ := base.there b o e nc
          exact ub.free b o' e' (base.free b o e n nc)
        there := fun b o e nm nc => by
          obtain ⟨o', e'⟩ := base.there b o e nc
          obtain ⟨o'', e''⟩ := ub.there b o' e' nm
          exact ⟨o'', offC e'' (old e)⟩
        tups := fun b xs e => ub.tups b xs (base.tups b xs e)
        frzs := fun b o xs e => ub.frzs b o xs (base.frzs b o xs e)
        tbls := fun b ps e => by
          obtain ⟨more, e'⟩ := base.tbls b ps e
          obtain ⟨more', e''⟩ := ub.tbls b _ e'
          exact ⟨more ++ more', by rw [e'', Array.append_assoc]⟩ }
  · refine fun b o q => (good b o q).stay (fun c v mine e => PySem.W.hideAll_get _ e ?_) (fun _ z => z) fun _ _ z => z
    rw [List.mem_singleton]
    rintro rfl
    rcases mine with z | z
    · rw [z, q] at noC; cases noC
    · rw [z] at noC; cases noC
end

/-! ### the comprehension -/
section
variable {X : Cx} {E : XK} {elt tg iter : Expr} {scope : Scope} {own : List (Str × Nat)} {pos : Pos} {wi : TI} {g : TG} {te : TE}
/-- all that is asked of the block's parts -/
structure BlkP (X : Cx) (E : XK) (elt tg iter : Expr) (scope : Scope) (own : List (Str × Nat)) (wi : TI) (g : TG) (te : TE) : Prop where
  calm : X.calm = true
  stk : X.stack = X.env :: X.outer
  fr : X.env.frame = some X.env.locals
  tk : Takes X fun cls d _ H => E cls d H
  nd : X.N.Nodup
  it : PI X tg iter wi
  ok : BlkOk X.N X.env.scope scope own
  tg : ∀ (s : Shared) (H : Hp) (C : Addr) (cl : List (Str × Addr)) (fp : List Addr), PG (Cx.blkE X s H scope (compEnvC scope cl C X.env) fp E) tg g
  el : ∀ (s : Shared) (H : Hp) (C : Addr) (cl : List (Str × Addr)) (fp : List Addr), PE (Cx.blkE X s H scope (compEnvC scope cl C X.env) fp E) elt te
  pl : ∀ x, foldedSetIterable iter X.env x = pure x

theorem lce_core {pins : List (Addr × Obj)} {s : Shared} {σ : St} {H : Hp} {Q : VK} {pos' : Pos} {use : Option (Value → Sem Unit)} {Qf : Value → Shared → Prop} (P : BlkP X E elt tg iter scope own wi g te) (I : Inv X pins σ H s)
    (h : tLc wi g tYes te (own.map (·.2)) σ H Q)
    (fin : ∀ D C s' m H', Inv X pins σ H' s' → Q (.ref D) H' → s'.heap.Ns C m → FpOk X pins H' C → compPost (model X.prog X.w) X.A X.xe use Qf (.ref D) C (.ok .next) s') :
    wpAny (model X.prog X.w) X.A (comprehension (.ListComp elt [⟨tg, iter, [], 0⟩] scope pos) scope X.env pos' (newList []) false (eval iter X.env) use) Qf X.xe s := by
  have caught : ∀ y ∈ scope.names, y.2 = .free → ∃ c, X.env.cells.lookup y.1 = some c := fun y m f => I.ok.has _ (P.ok.free y m f)
  refine comp_blk (use := use) rfl P.pl (closure_ok caught) P.ok.kind P.ok.uniq (thn (P.it.run pins s σ H _ I h) fun _ _ z => thn z ?_)
  rintro _ s2 ⟨it, fp, tn, J, H2, rfl, I2, T, t2, off2, want⟩
  -- a new list, then the block's own variables
  refine wpAny_newObj_type (newEnv_comp ?_) (Nat.zero_le _)
  have new : H2 s2.heap.objs.size = none := I2.hok.fresh (Nat.le_refl _)
  obtain ⟨W, ⟨m0, w0⟩, turn⟩ := want _ new
  generalize hD : s2.heap.objs.size = D at *
  have J3 : ∀ t, Inv X pins σ (upd H2 D (.lst [])) { s2 with heap := s2.heap.push { cls := .type "list", data := .seq #[] }, toks := t } := fun t =>
    I2.laid (fun b o e => Heap.get?_push_of_some _ e) (Nat.le_of_eq hD) ⟨Nat.zero_le _, [], 0, .nil, hD ▸ Heap.get?_push_size _ rfl⟩
  have I3 := J3 s2.toks
  generalize hH3 : upd H2 D (.lst []) = H3 at *
  have h3 : ∀ b o, s2.heap.get? b = some o → (s2.heap.push { cls := .type "list", data := .seq #[] }).get? b = some o := fun b o e => Heap.get?_push_of_some _ e
  have size3 : (s2.heap.push { cls := .type "list", data := .seq #[] }).objs.size = D + 1 := by rw [Heap.size_push, hD]
  have in2 : ∀ b ∈ fp, b < D := fun b m => by
    obtain ⟨o, e, _⟩ := T.obj _ _ t2 b m
    exact hD ▸ Heap.lt_size e
  have off3 : ∀ b ∈ fp, FpOk X pins H3 b ∧ b < (s2.heap.push { cls := .type "list", data := .seq #[] }).objs.size := fun b m => by
    refine ⟨⟨?_, (off2 b m).2⟩, by rw [size3]; exact Nat.lt_succ_of_lt (in2 b m)⟩
    rw [← hH3, upd_ne (Nat.ne_of_lt (in2 b m))]
    exact (off2 b m).1
  have t3 : tn 0 (s2.heap.push { cls := .type "list", data := .seq #[] }) := T.keep _ _ _ t2 fun b _ o e => h3 b o e
  have off : OffOwn X pins fp := fun b m => let ⟨_, a1, _, a2, a3, a4⟩ := (off3 b m).1; ⟨a2, a1, a3, a4⟩
  have hop : s2.heap.push { cls := .type "list", data := .seq #[] } = ({ s2 with heap := s2.heap.push { cls := .type "list", data := .seq #[] } } : Shared).heap := rfl
  rw [hop] at off3 t3
  show codeAny _ _ (.compStart (.ListComp elt [⟨tg, iter, [], 0⟩] scope pos) 0 (.ref it) (.ref D) (compEnvC scope (cellsFrom (({ s2 with heap := s2.heap.push { cls := .type "list", data := .seq #[] } } : Shared).heap.objs.size + 1) scope.names (cloFrom X.env.cells scope.names [])) ({ s2 with heap := s2.heap.push { cls := .type "list", data := .seq #[] } } : Shared).heap.objs.size X.env))
    (BlkEnd (model X.prog X.w) X.A X.xe use Qf (.ref D) (compEnvC scope (cellsFrom (({ s2 with heap := s2.heap.push { cls := .type "list", data := .seq #[] } } : Shared).heap.objs.size + 1) scope.names (cloFrom X.env.cells scope.names [])) ({ s2 with heap := s2.heap.push { cls := .type "list", data := .seq #[] } } : Shared).heap.objs.size X.env))
    { ({ s2 with heap := s2.heap.push { cls := .type "list", data := .seq #[] } } : Shared) with heap := pushCells (({ s2 with heap := s2.heap.push { cls := .type "list", data := .seq #[] } } : Shared).heap.push { cls := .type "dict", data := .dict #[] }) scope.names }
  generalize hs3 : ({ s2 with heap := s2.heap.push { cls := .type "list", data := .seq #[] } } : Shared) = s3 at I3 off3 t3 ⊢
  have I4 := (block_start I3 P.ok P.nd off3).wish (BlkE (X.blk s3 H3 scope (compEnvC scope (cellsFrom (s3.heap.objs.size + 1) scope.names (cloFrom X.env.cells scope.names [])) s3.heap.objs.size X.env) fp) E)
  have t4 : tn 0 (pushCells (s3.heap.push { cls := .type "dict", data := .dict #[] }) scope.names) := T.keep _ _ _ t3 fun b _ o e => pushCells_keeps _ _ _ _ (Heap.get?_push_of_some _ e)
  have ptg := P.tg s3 H3 s3.heap.objs.size (cellsFrom (s3.heap.objs.size + 1) scope.names (cloFrom X.env.cells scope.names [])) fp
  have pel := P.el s3 H3 s3.heap.objs.size (cellsFrom (s3.heap.objs.size + 1) scope.names (cloFrom X.env.cells scope.names [])) fp
  generalize hbe : compEnvC scope (cellsFrom (s3.heap.objs.size + 1) scope.names (cloFrom X.env.cells scope.names [])) s3.heap.objs.size X.env = be at I4 ptg pel ⊢
  have bl : be.locals = s3.heap.objs.size := by subst hbe; rfl
  have bf : be.frame = X.env.frame := by subst hbe; rfl
  have clear : ∀ b ∈ fp, H3 b = none := fun b m => (off3 b m).1.1
  -- what the iterator's objects are in any state of the block
  have apart : ∀ {σ' : St} {H' : Hp} {s' : Shared}, Inv (Cx.blkE X s3 H3 scope be fp E) [] σ' H' s' → (∀ b ∈ fp, H' b = none) → ∀ b ∈ fp, FpOk (Cx.blkE X s3 H3 scope be fp E) [] H' b := fun {σ' H' s'} I' n b m =>
    ⟨n b m, (I'.ok.exf b m).1, I'.ok.exfs b m, .inl m, fun y c e => (I'.ok.exf b m).2 y c e, fun p mp => absurd (show p ∈ ([] : List (Addr × Obj)) ++ [] from mp) (by simp)⟩
  have noted : ∀ u s', BlkE (X.blk s3 H3 scope be fp) E u s' → notedBy (model X.prog X.w) X.A be (fun e s'' => BlkEnd (model X.prog X.w) X.A X.xe use Qf (.ref D) be (.error e) s'') u s' := fun u s' => blk_noted I3 P.stk P.fr P.tk off bf bl
  have loop : codeAny (model X.prog X.w) X.A (.compLoop (.ListComp elt [⟨tg, iter, [], 0⟩] scope pos) 0 (.ref it) (.ref D) be) (BlkEnd (model X.prog X.w) X.A X.xe use Qf (.ref D) be) { s3 with heap := pushCells (s3.heap.push { cls := .type "dict", data := .dict #[] }) scope.names } := by
    refine compLoop_any (fun n s' => ∃ i H', Inv (Cx.blkE X s3 H3 scope be fp E) [] (wipe σ (own.map (·.2))) H' s' ∧ tn i s'.heap ∧ (∀ b ∈ fp, H' b = none) ∧ W i n H') ?_ m0 ⟨0, H3, I4, t4, clear, hH3 ▸ w0⟩
    rintro n s5 ⟨i, H5, I5, t5, c5, w5⟩
    rcases turn i n H5 w5 with ⟨stop, done⟩ | ⟨go, Nx, back, step⟩
    · -- the end: back to the def
      refine thn (T.done (Cx.blkE X s3 H3 scope be fp E) rfl rfl rfl P.calm i [] s5 _ H5 _ I5 (apart I5 c5) t5 stop) ?_
      rintro _ s6 ⟨rfl, I6⟩
      have I7 : Inv X pins σ H5 s6 := I3.call' (ch := fp) I6.os I6.base I6.hok I6.bare off
      have cn : H5 be.locals = none := I6.free
      obtain ⟨m, ns, _⟩ := I6.loc
      exact fin D be.locals s6 m H5 I7 done ns (I3.fpOk (Nat.le_of_eq bl.symm) cn)
    · -- an item
      refine thn (T.item (Cx.blkE X s3 H3 scope be fp E) rfl rfl rfl P.calm i [] s5 _ H5 _ I5 (apart I5 c5) t5 go) ?_
      rintro _ s6 ⟨u, rfl, z6⟩
      refine thn z6 fun _ s7 ⟨y, H7, I7, r7, y7, t7, c7⟩ => ?_
      have held := I7.pinned (apart I7 c7) (T.obj _ _ t7)
      refine wpAny_mono (ptg.run _ s7 _ H7 y u _ held r7 (step y H7 y7)) (fun _ s8 ⟨σ8, H8, I8, same8, q8⟩ => ?_) noted
      refine wpAny_tests_nil ?_
      have q8 : te σ8 H8 _ := q8
      refine wpAny_mono (pel.run _ s8 σ8 H8 _ I8 q8) (fun v s9 ⟨yv, H9, I9, r9, acc, at_D, room, nx⟩ => ?_) noted
      refine app_ok (X := Cx.blkE X s3 H3 scope be fp E) I9 at_D room r9 fun s10 I10 => ?_
      obtain ⟨m', less, w'⟩ := back _ nx
      have kept : ∀ b ∈ fp, ∀ o, s7.heap.get? b = some o → s10.heap.get? b = some o ∧ upd H9 D (.lst (acc ++ [yv])) b = none := fun b m o e =>
        let z := I10.pin (b, o) (List.mem_append_right _ (List.mem_append_right _ (mem_pinsAt m e)))
        ⟨z.1, z.2.1⟩
      refine ⟨m', less, i + 1, _, (I10.unpinned (pins := [])).weak (by rw [← same8, wipe_length]) (fun j v e => ?_), T.keep _ _ _ t7 fun b m o e => (kept b m o e).1, fun b m => ?_, w'⟩
      · rw [← same8] at e
        exact (wipe_some e).1
      · obtain ⟨o, e, _⟩ := T.obj _ _ t7 b m
        exact (kept b m o e).2
  exact codeAny_compStart_list loop (T.self X.A 0 _ _ _ t4 loop)
/-- as a value -/
theorem pe_lcE (P : BlkP X E elt tg iter scope own wi g te) : PE X (.ListComp elt [⟨tg, iter, [], 0⟩] scope pos) (tLc wi g tYes te (own.map (·.2))) where
  run pins s σ H Q I h := by
    rw [eval_ListComp]
    refine lce_core P I h fun D C s' m H' I' q ns clear => ⟨m, ns, fun h' sb => ?_⟩
    obtain ⟨a0, a1, _, a2, a3, a4⟩ := clear
    exact ⟨.ref D, H', I'.turned (t' := s'.toks) (fun b o ne e => (sb.2 b ne).trans e) a0 a1 a2 a3 a4, rfl, q⟩
/-- name = [..], the name a local -/
theorem ps_setLcE {i : Nat} {y : Str} {py spos : Pos} (P : BlkP X E elt tg iter scope own wi g te) (hy : X.N[i]? = some y) (loc : X.env.scope.names.lookup y = some .local)
    (sw : swapsWith (.ListComp elt [⟨tg, iter, [], 0⟩] scope pos) (some (.Name y py)) spos.line X.env = pure true) :
    PS X (.Assign [.Name y py] (.ListComp elt [⟨tg, iter, [], 0⟩] scope pos) spos) (tAsg (tLc wi g tYes te (own.map (·.2))) (gName i)) where
  run pins s σ H D I h := by
    have h : tLc wi g tYes te (own.map (·.2)) σ H (fun x H1 => gName i x σ H1 D.nx) := h
    rw [exec_Assign_Name_used _ _ _ _ sw]
    refine wpAny_bind (wpAny_standAt (wpAny_bind ?_))
    refine wpAny_bind (m := comprehension _ scope X.env _ (newList []) false (eval iter X.env) (some (assign (.Name y py) X.env))) (thn (lce_core (Qf := fun _ s' => SP X pins D .next s') P I h ?_) fun _ _ q => wpAny_pure (wpAny_pure q))
    intro L C s' m H' I' q ns clear
    obtain ⟨a0, a1, _, a2, a3, a4⟩ := clear
    refine wpAny_assign_Name (store_ok2 (v := V.ref L) I' P.nd hy (.inl loc) rfl (fun s2 I2 ⟨a, sb, which⟩ => ?_) (.inr loc))
    have ne : C ≠ a := fun z => which.elim (fun w => a1 (z.trans w)) fun w => a3 y a w z.symm
    exact ⟨m, ns.sameBut sb ne, fun h' sb' => ⟨_, H', I2.turned (t' := s2.toks) (fun b o e1 e => (sb'.2 b e1).trans e) a0 a1 a2 a3 a4, q⟩⟩
end
/-- a call that may raise, as an element -/
theorem pe_clB {X : Cx} {s : Shared} {H : Hp} {scope : Scope} {be : Env} {fp : List Addr} {E : XK} {k : Nat} {f : Addr} {fd : FuncData} {ps : List Str} {sp : Sp} {st : Stmt} {x : Str} {p pos : Pos} {e : Expr} {es : List Expr} {t : TA}
    (G : FnOk X.prog X.w X.K X.mg X.base (L2.CX X.prog X.w) k f fd ps sp) (D : Dfn X.K X.mg x st ps f fd) (hr : Room k X.A) (ha : PA (Cx.blkE X s H scope be fp E) (e :: es) t) (hg : Gl (Cx.blkE X s H scope be fp E) x := by rfl) (hdb : (x == ("__debug__" : Str)) = false := by decide)
    (he : starEach (e :: es) be = (false, eval e be) :: starEach es be := by rfl) (hpl : (backTo pos (starEach es be)).any (·.1) = false := by rfl) : PE (Cx.blkE X s H scope be fp E) (.Call (.Name x p) (e :: es) [] pos) (tCall sp [] E t) :=
  pe_call (X := Cx.blkE X s H scope be fp E) G hr hg D.g D.F.kp D.b .nil passes_blk ha hdb he hpl
end Ts
end
section
/-! A method that may raise, called in a try's body or where nothing is caught. -/
namespace Ts
open PySem PySem.Spec PyProof.Rows L2
/-- a method of the text -/
structure MDfn (K : PySem.W.Frag) (C : Addr) (m qual : Str) (st : Stmt) (ps : List Str) (f : Addr) (fd : FuncData) : Prop where
  F : Fun K m qual st f fd
  M : Meth K C m f
  b : Binds K fd ps []
/-- a method whose last parameter is None unless told -/
structure MDfnD (K : PySem.W.Frag) (C : Addr) (m qual : Str) (st : Stmt) (ps : List Str) (kw : Str) (f : Addr) (fd : FuncData) : Prop where
  F : FunD K m qual (defArgs st) (defBody st) (defScope st) [.non] [] f fd
  M : Meth K C m f
  b : Binds K fd ps []
  b3 : Binds K fd ps [.none]
  bk : ∀ (s : Shared) (us ws : List Value), K.In s.heap → us.length + 1 = ps.length → ws.length = 1 → BindsTo s fd ⟨us, [kw].zip ws⟩ (ps.zip (us ++ ws))
/-- such a method, by what the top has left -/
theorem md_mk {K : PySem.W.Frag} {C : Addr} {m qual kw : Str} {st : Stmt} {ps : List Str} {f T : Addr} {oc kV doc pm cdv ct tc : Value} {od an td : Option Addr} {osl tsl : Array (Option Value)} {n : Nat}
    (a : PySem.W.findIn K (.ref C) m = some (some (.ref f))) (i : PySem.W.isFn K (.ref f) = true) (l : K.lookup f = some ⟨oc, od, .func (PySem.W.fnOf m qual (defArgs st) (defBody st) (defScope st) (.ref T) kV doc pm an cdv ct), osl⟩) (c : PySem.W.codeIn K cdv qual = true) (k : PySem.W.keepIn K (.ref f) = true)
    (d : K.lookup T = some ⟨tc, td, .seq #[.none] n, tsl⟩)
    (h4 : ∀ us : List Value, us.length = ps.length → ∃ kk, bindArgs (PySem.W.fnOf m qual (defArgs st) (defBody st) (defScope st) (.ref T) kV doc pm an cdv ct) ⟨us, []⟩ = seqItems? (.ref T) >>= kk ∧ kk (some #[.none]) = pure (ps.zip us))
    (h3 : ∀ us : List Value, us.length + 1 = ps.length → ∃ kk, bindArgs (PySem.W.fnOf m qual (defArgs st) (defBody st) (defScope st) (.ref T) kV doc pm an cdv ct) ⟨us, []⟩ = seqItems? (.ref T) >>= kk ∧ kk (some #[.none]) = pure (ps.zip (us ++ [.none])))
    (hk : ∀ (us : List Value) (v : Value), us.length + 1 = ps.length → ∃ kk, bindArgs (PySem.W.fnOf m qual (defArgs st) (defBody st) (defScope st) (.ref T) kV doc pm an cdv ct) ⟨us, [(kw, v)]⟩ = seqItems? (.ref T) >>= kk ∧ kk (some #[.none]) = pure (ps.zip (us ++ [v]))) :
    MDfnD K C m qual st ps kw f (PySem.W.fnOf m qual (defArgs st) (defBody st) (defScope st) (.ref T) kV doc pm an cdv ct) where
  F := ⟨⟨oc, od, _, kV, doc, pm, an, cdv, ct, osl, rfl, l, c, .inr ⟨by simp, T, _, [.none], n, rfl, d, rfl, .cons rfl .nil⟩, .inl rfl⟩, k⟩
  M := ⟨a, i, k⟩
  b := fun s us KI hl => by
    rw [List.append_nil] at hl ⊢
    obtain ⟨kk, e1, e2⟩ := h4 us hl
    exact PySem.W.binds_K KI rfl d rfl e1 e2
  b3 := fun s us KI hl => by
    rw [List.length_append] at hl
    obtain ⟨kk, e1, e2⟩ := h3 us hl
    exact PySem.W.binds_K KI rfl d rfl e1 e2
  bk := fun s us ws KI hl hw => by
    match ws, hw with
    | [v], _ =>
      obtain ⟨kk, e1, e2⟩ := hk us v hl
      exact PySem.W.binds_K KI rfl d rfl e1 e2
/-- o.m(..) of an instance, the wish by the slots -/
def tMethS (C : Addr) (m : Str) (sp : Sp) (dvs : List V) (E : L2.St → XK) (ta : TE) (t : TA) : TE := fun σ H Q => ta σ H fun x H1 => ∃ (a dx : Addr) (fs : List (Str × V)), x = .ref a ∧ H1 a = some (.ins C dx fs) ∧ fs.lookup m = none ∧ t σ H1 fun vs H2 => sp (x :: (vs ++ dvs)) H2 Q (E σ)
section
variable {X : Cx} {k : Nat} {C f : Addr} {fd : FuncData} {ps : List Str} {sp : Sp} {m : Str} {apos pos : Pos} {o e : Expr} {es : List Expr} {ta : TE} {t : TA} {W : WX} {dvs : List V} {ds : List Value}
theorem run_dS {pins : List (Addr × Obj)} {σ : St} {H : Hp} {s : Shared} {Q : VK} {us : List Value} {vs : List V} (G : FnOk X.prog X.w X.K X.mg X.base (L2.CX X.prog X.w) k f fd ps sp) (hr : Room k X.A) (hb : Binds X.K fd ps ds) (hd : Vals dvs ds) (tk : Takes X W)
    (I : Inv X pins σ H s) (r : Vals vs us) (h : sp (vs ++ dvs) H Q (WE W σ)) : wpAny (model X.prog X.w) X.A (call (.ref f) us) (EP X pins σ Q) X.xe s := by
  have all := r.append hd
  have n : (us ++ ds).length = ps.length := all.length.symm.trans (G.len _ _ _ _ h)
  refine wpAny_call (codeAny_mono (G.run X.A X.stack s H ⟨us, []⟩ (us ++ ds) (vs ++ dvs) Q (WE W σ) hr I.env0 (hb s us I.kIn n) all h) ?_)
  intro z s' q
  match z, q with
  | .error u, q => exact passAt tk σ pins H s u s' I q
  | .ok (.ret u), q => exact I.after q
/-- o.m(e, ..) in a try's body -/
theorem pe_mtT {pl : Sem Bool} (he : PE X o ta) (c : Cls X.K C) (M : Meth X.K C m f) (G : FnOk X.prog X.w X.K X.mg X.base (L2.CX X.prog X.w) k f fd ps sp) (hr : Room k X.A) (hb : Binds X.K fd ps ds) (hd : Vals dvs ds) (tk : Takes X W) (ha : PA X (e :: es) t)
    (hst : starEach (e :: es) X.env = (false, eval e X.env) :: starEach es X.env := by rfl) (hpl : (backTo pos (starEach es X.env)).any (·.1) = false := by rfl)
    (ht : eval (.Call (.Attribute o m apos) (e :: es) [] pos) X.env = (do
      let ov ← eval o X.env
      standAt apos.atName
      let (f, first) ← holding [ov] (getMethod ov m pl)
      callWith pos f first (backTo pos (starEach (e :: es) X.env)) (backToKw pos (keywordEach [] X.env))) := by rfl) :
    PE X (.Call (.Attribute o m apos) (e :: es) [] pos) (tMethS C m sp dvs (WE W) ta t) := by
  constructor
  intro pins s σ H Q I h
  refine PySem.W.methodCall_KW (pl := pl) (thn (he.run pins s σ H _ I h) ?_) ht
  rintro v s1 ⟨_, H1, I1, rv, a, dx, fs, rfl, here, own, rest⟩
  cases rv
  refine getmeth_ok I1 here c M own (PySem.W.callWith_K (first := [.ref a]) (h₀ := X.base) I.ok.mod.kin M.kp (thn (ha.run pos pins s1 σ H1 _ I1 rest) ?_) hst hpl)
  rintro us s2 ⟨vs, H2, I2, rs, w2⟩
  exact ⟨I2.kIn, run_dS (us := .ref a :: us) (vs := .ref a :: vs) G hr hb hd tk I2 (.cons rfl rs) w2⟩
/-- the last argument by its name -/
def tMethK (C : Addr) (m : Str) (n : Nat) (sp : Sp) (E : L2.St → XK) (ta : TE) (t tk : TA) : TE := fun σ H Q => ta σ H fun x H1 => ∃ (a dx : Addr) (fs : List (Str × V)), x = .ref a ∧ H1 a = some (.ins C dx fs) ∧ fs.lookup m = none ∧
  t σ H1 fun vs H2 => tk σ H2 fun zs H3 => vs.length + 2 = n ∧ zs.length = 1 ∧ sp (x :: (vs ++ zs)) H3 Q (E σ)
/-- o.m(e, .., kw = v) in a try's body -/
theorem pe_mtTK {qual : Str} {st : Stmt} {kw : Str} {kws : List Keyword} {tk' : TA} {pl : Sem Bool} (he : PE X o ta) (c : Cls X.K C) (D : MDfnD X.K C m qual st ps kw f fd) (G : FnOk X.prog X.w X.K X.mg X.base (L2.CX X.prog X.w) k f fd ps sp) (hr : Room k X.A) (tk : Takes X W) (ha : PA X (e :: es) t) (hkw : PK X kws tk')
    (hall : (backToKw pos (keywordEach kws X.env)).all (·.1.isSome) = true := by rfl) (hks : (backToKw pos (keywordEach kws X.env)).filterMap (·.1) = [kw] := by rfl)
    (hst : starEach (e :: es) X.env = (false, eval e X.env) :: starEach es X.env := by rfl) (hpl : ((backTo pos (starEach (e :: es) X.env)).any (·.1) || (backToKw pos (keywordEach kws X.env)).any (·.1.isNone)) = false := by rfl)
    (ht : eval (.Call (.Attribute o m apos) (e :: es) kws pos) X.env = (do
      let ov ← eval o X.env
      standAt apos.atName
      let (f, first) ← holding [ov] (getMethod ov m pl)
      callWith pos f first (backTo pos (starEach (e :: es) X.env)) (backToKw pos (keywordEach kws X.env))) := by rfl) :
    PE X (.Call (.Attribute o m apos) (e :: es) kws pos) (tMethK C m ps.length sp (WE W) ta t tk') := by
  constructor
  intro pins s σ H Q I h
  refine PySem.W.methodCall_KW (pl := pl) (thn (he.run pins s σ H _ I h) ?_) ht
  rintro v s1 ⟨_, H1, I1, rv, a, dx, fs, rfl, here, own, rest⟩
  cases rv
  refine getmeth_ok I1 here c D.M own (PySem.W.callWith_KW (first := [.ref a]) (h₀ := X.base) I.ok.mod.kin D.M.kp hall (thn (ha.run pos pins s1 σ H1 _ I1 rest) ?_) hpl hst)
  rintro us s2 ⟨vs, H2, I2, rs, w2⟩
  refine thn (hkw.run pos pins s2 σ H2 _ I2 w2) ?_
  rintro ws s3 ⟨zs, H3, I3, rz, n1, n2, w3⟩
  refine ⟨I3.kIn, ?_⟩
  rw [hks]
  have all : Vals (.ref a :: (vs ++ zs)) ((.ref a :: us) ++ ws) := .cons rfl (rs.append rz)
  have bound := D.bk s3 (.ref a :: us) ws I3.kIn (by rw [List.length_cons, ← rs.length]; omega) (by rw [← rz.length]; exact n2)
  refine wpAny_call (codeAny_mono (G.run X.A X.stack s3 H3 ⟨.ref a :: us, [kw].zip ws⟩ ((.ref a :: us) ++ ws) (.ref a :: (vs ++ zs)) Q (WE W σ) hr I3.env0 bound all w3) ?_)
  intro z s' q
  match z, q with
  | .error u, q => exact passAt tk σ pins H3 s3 u s' I3 q
  | .ok (.ret u), q => exact I3.after q
/-- C(e, ..) in a try's body: the instance, then __init__ -/
def tMakeS (C : Addr) (sp : Sp) (E : L2.St → XK) (t : TA) : TE := fun σ H Q => t σ H fun vs H1 => ∀ x dx, H1 x = none → H1 dx = none → dx ≠ x → sp (.ref x :: vs) (upd (upd H1 dx (.own x)) x (.ins C dx [])) (fun v H2 => v = .non ∧ Q (.ref x) H2) (E σ)
theorem pe_mkT {x : Str} {p : Pos} (M : Mk X.K C f) (G : FnOk X.prog X.w X.K X.mg X.base (L2.CX X.prog X.w) k f fd ps sp) (hr : Room (k + 1) X.A) (hm : X.mg x = some (.ref C)) (hb : Binds X.K fd ps []) (tk : Takes X W) (ha : PA X (e :: es) t) (hg : Gl X x := by rfl)
    (hdb : (x == ("__debug__" : Str)) = false := by decide) (hst : starEach (e :: es) X.env = (false, eval e X.env) :: starEach es X.env := by rfl) (hpl : (backTo pos (starEach es X.env)).any (·.1) = false := by rfl) :
    PE X (.Call (.Name x p) (e :: es) [] pos) (tMakeS C sp (WE W) t) := by
  constructor
  intro pins s σ H Q I h
  refine wpAny_Call_Name_kw (ld_glob I hg hm (PySem.W.callWith_K (h₀ := X.base) I.ok.mod.kin M.kp (thn (ha.run pos pins s σ H _ I h) ?_) hst hpl) hdb)
  rintro us s1 ⟨vs, H1, I1, rs, w1⟩
  refine ⟨I1.kIn, ?_⟩
  generalize hn : s1.heap.objs.size = n
  have here := w1 (n + 1) n (I1.hok.fresh (by rw [hn]; exact Nat.le_succ _)) (I1.hok.fresh (Nat.le_of_eq hn)) (Nat.ne_of_lt (Nat.lt_succ_self _))
  have I2 := Inv.made (C := C) I1
  rw [hn] at I2
  have all : Vals (V.ref (n + 1) :: vs) (Value.ref (n + 1) :: us) := .cons rfl rs
  have cnt : ((Value.ref (n + 1) :: us) ++ []).length = ps.length := by rw [List.append_nil, ← all.length]; exact G.len _ _ _ _ here
  have bound := hb _ (Value.ref (n + 1) :: us) I2.kIn cnt
  rw [List.append_nil] at bound
  refine wpAny_call (make_map (f := f) I1.kIn M.makes M.init (beq_iff_eq.mp M.fn) ?_)
  rw [hn]
  refine codeAny_mono (G.run _ X.stack _ _ ⟨Value.ref (n + 1) :: us, []⟩ _ _ _ (WE W σ) (hr.make C us []) (I2.env0.make C us []) bound all here) ?_
  intro z s' q
  match z, q with
  | .error u, q => exact passAt tk σ pins _ _ u s' I2 q
  | .ok (.ret u), q =>
    obtain ⟨v, H', I3, rv, rfl, q3⟩ := I2.after q
    exact ⟨rv, ⟨V.ref (n + 1), H', I3, rfl, q3⟩⟩
end
end Ts
end
section
/-! A set comprehension whose element is a number or a text. -/
namespace Ts
open PySem PySem.Spec PyProof.Rows L2
section
variable {X : Cx} {elt tg iter : Expr} {scope : Scope} {own : List (Str × Nat)} {pos : Pos} {wi : TI} {g : TG} {te : TE}
/-- {elt for target in iter}: D the new set -/
def tScK (P : Program) (w : World) (wi : TI) (g : TG) (te : TE) (vs : List Nat) : TE := fun σ H Q => wi σ H fun J H1 => ∀ D, H1 D = none → ∃ W : Nat → Nat → Hp → Prop, (∃ m, W 0 m (upd H1 D (SetK P w D (fun _ => false) 0))) ∧ ∀ i m H, W i m H →
  (J.stop i H ∧ Q (.ref D) H) ∨ (J.go i H ∧ ∃ Nx : Hp → Prop, (∀ H', Nx H' → ∃ m', m' < m ∧ W (i + 1) m' H') ∧ ∀ x H', J.yld i H x H' → g x (wipe σ vs) H' fun σ2 H2 => wipe σ2 vs = wipe σ vs ∧
    te σ2 H2 fun y H4 => ∃ (k : Key) (S : Key → Bool) (n : Nat), y = kV k ∧ H4 D = some (SetK P w D S n) ∧ n + 1 < scanBound ∧ Nx (upd H4 D (SetK P w D (fun j => S j || decide (j = k)) (if S k = true then n else n + 1))))
structure BlkS (X : Cx) (elt tg iter : Expr) (scope : Scope) (own : List (Str × Nat)) (wi : TI) (g : TG) (te : TE) : Prop where
  calm : X.calm = true
  nd : X.N.Nodup
  it : PI X tg iter wi
  ok : BlkOk X.N X.env.scope scope own
  tg : ∀ (s : Shared) (H : Hp) (C : Addr) (cl : List (Str × Addr)) (fp : List Addr), PG (X.blk s H scope (compEnvC scope cl C X.env) fp) tg g
  el : ∀ (s : Shared) (H : Hp) (C : Addr) (cl : List (Str × Addr)) (fp : List Addr), PE (X.blk s H scope (compEnvC scope cl C X.env) fp) elt te
  pl : ∀ x, foldedSetIterable iter X.env x = pure x
theorem scK_core {pins : List (Addr × Obj)} {s : Shared} {σ : St} {H : Hp} {Q : VK} {pos' : Pos} {use : Option (Value → Sem Unit)} {Qf : Value → Shared → Prop} (P : BlkS X elt tg iter scope own wi g te) (I : Inv X pins σ H s)
    (h : tScK X.prog X.w wi g te (own.map (·.2)) σ H Q)
    (fin : ∀ D C s' m H', Inv X pins σ H' s' → Q (.ref D) H' → s'.heap.Ns C m → FpOk X pins H' C → compPost (model X.prog X.w) X.A X.xe use Qf (.ref D) C (.ok .next) s') :
    wpAny (model X.prog X.w) X.A (comprehension (.SetComp elt [⟨tg, iter, [], 0⟩] scope pos) scope X.env pos' (newSet (.type "set")) false (eval iter X.env) use) Qf X.xe s := by
  have caught : ∀ y ∈ scope.names, y.2 = .free → ∃ c, X.env.cells.lookup y.1 = some c := fun y m f => I.ok.has _ (P.ok.free y m f)
  refine wpAny_comprehension_free (use := use) rfl P.pl (closure_ok caught) P.ok.kind (fun y m l => by rw [P.ok.uniq y m, l]) (thn (P.it.run pins s σ H _ I h) fun _ _ z => thn z ?_)
  rintro _ s2 ⟨it, fp, tn, J, H2, rfl, I2, T, t2, off2, want⟩
  refine PpSet.newSet_ok (newEnv_comp ?_)
  have new : H2 s2.heap.objs.size = none := I2.hok.fresh (Nat.le_refl _)
  obtain ⟨W, ⟨m0, w0⟩, turn⟩ := want _ new
  generalize hO : ({ cls := .type "set", dict := none, data := .set #[] 0 (.fresh 0 0 (!X.w.params.followText "set-order")) } : Obj) = O
  have lies : (s2.heap.push O).SetOf (mixKind X.prog X.w) s2.heap.objs.size (fun _ => false) 0 := by
    rw [← hO]
    exact ⟨_, #[], 0, _, Heap.get?_push_size _ rfl, ⟨rfl, rfl, rfl⟩, rfl, (fun e m => by simp at m), (fun k => by simp), (by decide), rfl, rfl⟩
  generalize hD : s2.heap.objs.size = D at *
  have J3 : ∀ t, Inv X pins σ (upd H2 D (SetK X.prog X.w D (fun _ => false) 0)) { s2 with heap := s2.heap.push O, toks := t } := fun t =>
    I2.laid (fun b o e => Heap.get?_push_of_some _ e) (Nat.le_of_eq hD) (setK_new lies)
  have I3 := J3 s2.toks
  generalize hH3 : upd H2 D (SetK X.prog X.w D (fun _ => false) 0) = H3 at *
  have size3 : (s2.heap.push O).objs.size = D + 1 := by rw [Heap.size_push, hD]
  have in2 : ∀ b ∈ fp, b < D := fun b m => by
    obtain ⟨o, e, _⟩ := T.obj _ _ t2 b m
    exact hD ▸ Heap.lt_size e
  have off3 : ∀ b ∈ fp, FpOk X pins H3 b ∧ b < (s2.heap.push O).objs.size := fun b m => by
    refine ⟨⟨?_, (off2 b m).2⟩, by rw [size3]; exact Nat.lt_succ_of_lt (in2 b m)⟩
    rw [← hH3, upd_ne (Nat.ne_of_lt (in2 b m))]
    exact (off2 b m).1
  have t3 : tn 0 (s2.heap.push O) := T.keep _ _ _ t2 fun b _ o e => Heap.get?_push_of_some _ e
  have off : OffOwn X pins fp := fun b m => let ⟨_, a1, _, a2, a3, a4⟩ := (off3 b m).1; ⟨a2, a1, a3, a4⟩
  have hop : s2.heap.push O = ({ s2 with heap := s2.heap.push O } : Shared).heap := rfl
  rw [hop] at off3 t3
  show codeAny _ _ (.compStart (.SetComp elt [⟨tg, iter, [], 0⟩] scope pos) 0 (.ref it) (.ref D) (compEnvC scope (cellsFrom (({ s2 with heap := s2.heap.push O } : Shared).heap.objs.size + 1) scope.names (cloFrom X.env.cells scope.names [])) ({ s2 with heap := s2.heap.push O } : Shared).heap.objs.size X.env))
    (compPost (model X.prog X.w) X.A X.xe use Qf (.ref D) ({ s2 with heap := s2.heap.push O } : Shared).heap.objs.size)
    { ({ s2 with heap := s2.heap.push O } : Shared) with heap := pushCells (({ s2 with heap := s2.heap.push O } : Shared).heap.push { cls := .type "dict", data := .dict #[] }) scope.names }
  generalize hs3 : ({ s2 with heap := s2.heap.push O } : Shared) = s3 at I3 off3 t3 ⊢
  have I4 := block_start I3 P.ok P.nd off3
  have t4 : tn 0 (pushCells (s3.heap.push { cls := .type "dict", data := .dict #[] }) scope.names) := T.keep _ _ _ t3 fun b _ o e => pushCells_keeps _ _ _ _ (Heap.get?_push_of_some _ e)
  have ptg := P.tg s3 H3 s3.heap.objs.size (cellsFrom (s3.heap.objs.size + 1) scope.names (cloFrom X.env.cells scope.names [])) fp
  have pel := P.el s3 H3 s3.heap.objs.size (cellsFrom (s3.heap.objs.size + 1) scope.names (cloFrom X.env.cells scope.names [])) fp
  generalize hbe : compEnvC scope (cellsFrom (s3.heap.objs.size + 1) scope.names (cloFrom X.env.cells scope.names [])) s3.heap.objs.size X.env = be at I4 ptg pel ⊢
  have bl : be.locals = s3.heap.objs.size := by subst hbe; rfl
  have clear : ∀ b ∈ fp, H3 b = none := fun b m => (off3 b m).1.1
  have apart : ∀ {σ' : St} {H' : Hp} {s' : Shared}, Inv (X.blk s3 H3 scope be fp) [] σ' H' s' → (∀ b ∈ fp, H' b = none) → ∀ b ∈ fp, FpOk (X.blk s3 H3 scope be fp) [] H' b := fun {σ' H' s'} I' n b m =>
    ⟨n b m, (I'.ok.exf b m).1, I'.ok.exfs b m, .inl m, fun y c e => (I'.ok.exf b m).2 y c e, fun p mp => absurd (show p ∈ ([] : List (Addr × Obj)) ++ [] from mp) (by simp)⟩
  have loop : codeAny (model X.prog X.w) X.A (.compLoop (.SetComp elt [⟨tg, iter, [], 0⟩] scope pos) 0 (.ref it) (.ref D) be) (compPost (model X.prog X.w) X.A X.xe use Qf (.ref D) s3.heap.objs.size) { s3 with heap := pushCells (s3.heap.push { cls := .type "dict", data := .dict #[] }) scope.names } := by
    refine PpSet.compLoopS_any (fun n s' => ∃ i H', Inv (X.blk s3 H3 scope be fp) [] (wipe σ (own.map (·.2))) H' s' ∧ tn i s'.heap ∧ (∀ b ∈ fp, H' b = none) ∧ W i n H') ?_ m0 ⟨0, H3, I4, t4, clear, hH3 ▸ w0⟩
    rintro n s5 ⟨i, H5, I5, t5, c5, w5⟩
    rcases turn i n H5 w5 with ⟨stop, done⟩ | ⟨go, Nx, back, step⟩
    · refine thn (T.done (X.blk s3 H3 scope be fp) rfl rfl rfl P.calm i [] s5 _ H5 _ I5 (apart I5 c5) t5 stop) ?_
      rintro _ s6 ⟨rfl, I6⟩
      have I7 : Inv X pins σ H5 s6 := I3.call' (ch := fp) I6.os I6.base I6.hok I6.bare off
      have cn : H5 be.locals = none := I6.free
      obtain ⟨m, ns, _⟩ := I6.loc
      have ns : s6.heap.Ns be.locals m := ns
      rw [bl] at cn ns
      exact fin D s3.heap.objs.size s6 m H5 I7 done ns (I3.fpOk (Nat.le_refl _) cn)
    · refine thn (T.item (X.blk s3 H3 scope be fp) rfl rfl rfl P.calm i [] s5 _ H5 _ I5 (apart I5 c5) t5 go) ?_
      rintro _ s6 ⟨u, rfl, z6⟩
      refine thn z6 fun _ s7 ⟨y, H7, I7, r7, y7, t7, c7⟩ => ?_
      have held := I7.pinned (apart I7 c7) (T.obj _ _ t7)
      refine thnF (ptg.run _ s7 _ H7 y u _ held r7 (step y H7 y7)) fun _ s8 ⟨σ8, H8, I8, same8, q8⟩ => ?_
      refine wpAny_tests_nil ?_
      have q8 : te σ8 H8 _ := q8
      refine thnF (pel.run _ s8 σ8 H8 _ I8 q8) fun v s9 ⟨yv, H9, I9, r9, k, S, c, ey, at_D, room, nx⟩ => ?_
      have added := mt_saddK (X := X.blk s3 H3 scope be fp) ([] ++ pinsAt fp s7.heap) s9 σ8 H9 (.ref D) [yv] (.ref D) [v] (fun _ H' => H' = upd H9 D (SetK X.prog X.w D (fun j => S j || decide (j = k)) (if S k = true then c else c + 1))) I9 rfl (.cons r9 .nil) ⟨D, k, S, c, rfl, by rw [ey], at_D, room, rfl⟩
      refine thnF added ?_
      rintro _ s10 ⟨_, _, I10, _, rfl⟩
      obtain ⟨m', less, w'⟩ := back _ nx
      have kept : ∀ b ∈ fp, ∀ o, s7.heap.get? b = some o → s10.heap.get? b = some o ∧ (upd H9 D (SetK X.prog X.w D (fun j => S j || decide (j = k)) (if S k = true then c else c + 1))) b = none := fun b m o e =>
        let z := I10.pin (b, o) (List.mem_append_right _ (List.mem_append_right _ (mem_pinsAt m e)))
        ⟨z.1, z.2.1⟩
      refine ⟨m', less, i + 1, _, (I10.unpinned (pins := [])).weak (by rw [← same8, wipe_length]) (fun j v e => ?_), T.keep _ _ _ t7 fun b m o e => (kept b m o e).1, fun b m => ?_, w'⟩
      · rw [← same8] at e
        exact (wipe_some e).1
      · obtain ⟨o, e, _⟩ := T.obj _ _ t7 b m
        exact (kept b m o e).2
  exact PpSet.codeAny_compStart_set loop (T.self X.A 0 _ _ _ t4 loop)
/-- as a value -/
theorem pe_scK (P : BlkS X elt tg iter scope own wi g te) : PE X (.SetComp elt [⟨tg, iter, [], 0⟩] scope pos) (tScK X.prog X.w wi g te (own.map (·.2))) where
  run pins s σ H Q I h := by
    rw [PpSet.eval_SetComp]
    refine scK_core P I h fun D C s' m H' I' q ns clear => ⟨m, ns, fun h' sb => ?_⟩
    obtain ⟨a0, a1, _, a2, a3, a4⟩ := clear
    exact ⟨.ref D, H', I'.turned (t' := s'.toks) (fun b o ne e => (sb.2 b ne).trans e) a0 a1 a2 a3 a4, rfl, q⟩
/-- name = {..}, the name a local -/
theorem ps_setScK {i : Nat} {y : Str} {py spos : Pos} (P : BlkS X elt tg iter scope own wi g te) (hy : X.N[i]? = some y) (loc : X.env.scope.names.lookup y = some .local)
    (sw : swapsWith (.SetComp elt [⟨tg, iter, [], 0⟩] scope pos) (some (.Name y py)) spos.line X.env = pure true) :
    PS X (.Assign [.Name y py] (.SetComp elt [⟨tg, iter, [], 0⟩] scope pos) spos) (tAsg (tScK X.prog X.w wi g te (own.map (·.2))) (gName i)) where
  run pins s σ H D I h := by
    have h : tScK X.prog X.w wi g te (own.map (·.2)) σ H (fun x H1 => gName i x σ H1 D.nx) := h
    rw [exec_Assign_Name_used _ _ _ _ sw]
    refine wpAny_bind (wpAny_standAt (wpAny_bind ?_))
    refine wpAny_bind (m := comprehension _ scope X.env _ (newSet (.type "set")) false (eval iter X.env) (some (assign (.Name y py) X.env))) (thn (scK_core (Qf := fun _ s' => SP X pins D .next s') P I h ?_) fun _ _ q => wpAny_pure (wpAny_pure q))
    intro L C s' m H' I' q ns clear
    obtain ⟨a0, a1, _, a2, a3, a4⟩ := clear
    refine wpAny_assign_Name (store_ok2 (v := V.ref L) I' P.nd hy (.inl loc) rfl (fun s2 I2 ⟨a, sb, which⟩ => ?_) (.inr loc))
    have ne : C ≠ a := fun z => which.elim (fun w => a1 (z.trans w)) fun w => a3 y a w z.symm
    exact ⟨m, ns.sameBut sb ne, fun h' sb' => ⟨_, H', I2.turned (t' := s2.toks) (fun b o e1 e => (sb'.2 b e1).trans e) a0 a1 a2 a3 a4, q⟩⟩
/-- len of such a set -/
theorem call_lenK (hu : True) : CallR X (.builtin "len") (fun vs H Q => ∃ (a : Addr) (S : Key → Bool) (n : Nat), vs = [.ref a] ∧ H a = some (SetK X.prog X.w a S n) ∧ Q (.int (n : Int)) H) := by
  rintro pins s σ H vs us Q I r ⟨a, S, n, rfl, ha, q⟩
  match r with
  | .cons ra .nil =>
    cases ra
    obtain ⟨o, es, ep, t, ho, hex, hd, _, _, hs, hf, hn⟩ := setK_get I ha
    have small : (es.size : Int) < 2 ^ 63 := by
      have : scanBound ≤ 2 ^ 62 := by decide
      omega
    refine call_len_set ho hex hd hf small ⟨.int (n : Int), H, I.tok _, ⟨_, by rw [hn]⟩, q⟩
end
theorem sw_set {elt : Expr} {gs : List Comprehension} {scope : Scope} {pos py : Pos} {y : Str} {l : Nat} {env : Env} (hk : env.scope.kind = .function) (hy : env.scope.names.lookup y = some .local) (hl : (py.line == pos.line) = true)
    (ha : (scope.names.any fun (n, k) => n == y && (k == .local || k == .cell)) = false) : swapsWith (.SetComp elt gs scope pos) (some (.Name y py)) l env = pure true := by
  have here : env.kindOf y = some .local := hy
  have fn : env.blockKind = .function := by unfold Env.blockKind; rw [hk]; rfl
  unfold swapsWith
  simp only [fn, here, ha, Expr.pos, hl]
  rfl
/-- such a comprehension over a list that it leaves as it is -/
theorem sc_list {P : Program} {w : World} {K : PySem.W.Frag} {a : Addr} {xs : List V} {g : TG} {te : TE} {vs : List Nat} {σ : St} {H1 : Hp} {D : Addr} {Qd : Hp → Prop} (Pv : Nat → Hp → Prop)
    (first : Pv 0 (upd H1 D (SetK P w D (fun _ => false) 0))) (same : ∀ i H, i ≤ xs.length → Pv i H → SqL K H a xs)
    (turn : ∀ i x H, xs[i]? = some x → Pv i H → g x (wipe σ vs) H fun σ2 H2 => wipe σ2 vs = wipe σ vs ∧ te σ2 H2 fun y H4 => ∃ (k : Key) (S : Key → Bool) (n : Nat), y = kV k ∧ H4 D = some (SetK P w D S n) ∧ n + 1 < scanBound ∧
      Pv (i + 1) (upd H4 D (SetK P w D (fun j => S j || decide (j = k)) (if S k = true then n else n + 1))))
    (last : ∀ H, Pv xs.length H → Qd H) :
    ∃ W : Nat → Nat → Hp → Prop, (∃ m, W 0 m (upd H1 D (SetK P w D (fun _ => false) 0))) ∧ ∀ i m H, W i m H → ((Itl K a).stop i H ∧ Qd H) ∨ ((Itl K a).go i H ∧ ∃ Nx : Hp → Prop, (∀ H', Nx H' → ∃ m', m' < m ∧ W (i + 1) m' H') ∧
      ∀ x H', (Itl K a).yld i H x H' → g x (wipe σ vs) H' fun σ2 H2 => wipe σ2 vs = wipe σ vs ∧ te σ2 H2 fun y H4 => ∃ (k : Key) (S : Key → Bool) (n : Nat), y = kV k ∧ H4 D = some (SetK P w D S n) ∧ n + 1 < scanBound ∧
        Nx (upd H4 D (SetK P w D (fun j => S j || decide (j = k)) (if S k = true then n else n + 1)))) := by
  refine ⟨fun i m H => i + m = xs.length ∧ Pv i H, ⟨xs.length, Nat.zero_add _, first⟩, ?_⟩
  rintro i m H ⟨total, p⟩
  have sq := same i H (by omega) p
  cases m with
  | zero =>
    have e : i = xs.length := total
    subst e
    exact .inl ⟨⟨xs, sq, Nat.le_refl _⟩, last H p⟩
  | succ m =>
    have lt : i < xs.length := by omega
    refine .inr ⟨⟨xs, xs[i], sq, List.getElem?_eq_getElem lt⟩, Pv (i + 1), fun H' p' => ⟨m, Nat.lt_succ_self m, by omega, p'⟩, ?_⟩
    rintro x H' ⟨e, y⟩
    subst e
    exact turn i x _ (y xs sq) p
end Ts
end
section
/-! set(xs) of a list of numbers and texts; xs.remove(y) of a list of data. -/
namespace Ts
open PySem PySem.Spec PyProof.Rows L2
/-- who is in, how many, after one more -/
def setPut (S : (Key → Bool) × Nat) (k : Key) : (Key → Bool) × Nat := (fun j => S.1 j || decide (j = k), if S.1 k = true then S.2 else S.2 + 1)
def setOfKeys (ks : List Key) : (Key → Bool) × Nat := ks.foldl setPut (fun _ => false, 0)
theorem setOf_snoc (ks : List Key) (k : Key) : setOfKeys (ks ++ [k]) = setPut (setOfKeys ks) k := by
  unfold setOfKeys
  rw [List.foldl_append]
  rfl
theorem setOf_few (ks : List Key) : (setOfKeys ks).2 ≤ ks.length := by
  have h : ∀ (ks : List Key) (S : (Key → Bool) × Nat), (ks.foldl setPut S).2 ≤ S.2 + ks.length := by
    intro ks
    induction ks with
    | nil => exact fun S => Nat.le_refl _
    | cons k r ih =>
      intro S
      have a := ih (setPut S k)
      have b : (setPut S k).2 ≤ S.2 + 1 := by
        unfold setPut
        dsimp only
        split <;> omega
      rw [List.foldl_cons, List.length_cons]
      omega
  have := h ks (fun _ => false, 0)
  rw [Nat.zero_add] at this
  exact this
section
variable {P : Program} {w : World} {A : Around} {E : Value → Shared → Prop} {s : Shared}
/-- the loop that fills the set at T, item after item -/
theorem fill_loop {I : Addr} {fp wr : List Addr} {G : Array GenState → Array GenState → Prop} {n : Nat} {Pv : Nat → Value → Prop} {St : Nat → Shared → Prop} {R : Result → Shared → Prop} (W : WalksS P w A.in1 I fp wr G n Pv St) (T : Addr) (off : T ∉ fp)
    (ks : List Key) (len : n = ks.length) (small : ks.length + 1 < scanBound) (vals : ∀ i v, Pv i v → ∃ k, ks[i]? = some k ∧ RelV (kV k) v) :
    ∀ (left i : Nat) (s : Shared), n - i = left → i ≤ n → St i s → s.heap.SetOf (mixKind P w) T (setOfKeys (ks.take i)).1 (setOfKeys (ks.take i)).2 →
      (∀ s', Moved (T :: wr) G s s' → s'.heap.SetOf (mixKind P w) T (setOfKeys ks).1 (setOfKeys ks).2 → R (.ok (.ret .none)) s') → codeAny (model P w) A (.builtin "set.update.loop" ⟨[.ref T, .ref I], []⟩) R s := by
  have offw : T ∉ wr := fun m => off (W.sub _ m)
  have more : ∀ b ∈ wr, b ∈ T :: wr := fun b m => .tail _ m
  have kept : ∀ {s1 s2 : Shared} {S : Key → Bool} {c : Nat}, Moved wr G s1 s2 → s1.heap.SetOf (mixKind P w) T S c → s2.heap.SetOf (mixKind P w) T S c := fun m x => setOf_at x fun o e => m.heap T o offw e
  intro left
  induction left with
  | zero =>
    intro i s cnt le st S fin
    have all : i = n := by omega
    subst all
    refine codeAny_builtin PyProof.Rows.F.entry_set_update_loop ?_
    rw [Around.under_plainId PyProof.Rows.F.plain_set_update_loop _]
    show wpAny (model P w) A.in1 (pyNext (.ref I) >>= _) _ _ s
    refine wpAny_bind (W.done s _ _ st fun s1 m => show wpAny (model P w) A.in1 (ret Value.none) _ _ s1 from wpAny_pure (fin s1 (m.mono more) ?_))
    rw [len, List.take_length] at S
    exact kept m S
  | succ left ih =>
    intro i s cnt le st S fin
    have lt : i < n := by omega
    refine codeAny_builtin PyProof.Rows.F.entry_set_update_loop ?_
    rw [Around.under_plainId PyProof.Rows.F.plain_set_update_loop _]
    show wpAny (model P w) A.in1 (pyNext (.ref I) >>= _) _ _ s
    refine wpAny_bind (W.item i s _ _ lt st fun v s1 pv st1 m1 => ?_)
    obtain ⟨k, at_i, rel⟩ := vals i v pv
    have S1 := kept m1 S
    have few := setOf_few (ks.take i)
    rw [List.length_take] at few
    have eq : setOfKeys (ks.take (i + 1)) = setPut (setOfKeys (ks.take i)) k := by
      obtain ⟨h, e⟩ := List.getElem?_eq_some_iff.mp at_i
      rw [List.take_succ_eq_append_getElem h, setOf_snoc, e]
    show wpAny (model P w) A.in1 (holding [v] (setAdd T v) >>= _) _ _ s1
    refine wpAny_bind (wpAny_holding ?_)
    unfold setAdd
    refine wpAny_holding (wpAny_bind ((mixKind P w).pyHash (kV_is rel) (wpAny_setAddHashed_of (knd := mixKind P w) (s := { s1 with toks := s1.toks + 1 }) (kV_is rel) (key_scan rel) S1 (by omega) fun h2 but S2 => ?_)))
    have other : ∀ b o, b ≠ T → s1.heap.get? b = some o → h2.get? b = some o := fun b o ne e => (but.2 b ne).trans e
    refine wpAny_pure ⟨plainId_quiet PyProof.Rows.F.plain_set_update_loop _, ih (i + 1) _ (by omega) lt (W.frame _ s1 _ _ st1 (Nat.le_succ _) fun b m o e => other b o (fun z => off (z ▸ m)) e) ?_ fun s3 m3 S3 => fin s3 ?_ S3⟩
    · rw [eq]
      exact S2
    · exact Moved.trans W.gtrans ((m1.mono more).then_heap (Nat.le_succ _) fun b o nm e => other b o (fun z => nm (z ▸ .head _)) e) m3
/-- an empty set, new -/
abbrev set0 (led : Bool) : Obj := { cls := .type "set", dict := none, data := .set #[] 0 (.fresh 0 0 led) }
/-- set(x): made empty, then told of x -/
theorem set_told {x : Value} {Q : Value → Shared → Prop} (told : ∀ led : Bool, wpAny (model P w) A.in1.in1 (Builtin.«set.__init__» ⟨[.ref s.heap.objs.size, x], []⟩)
      (fun fin s' => match fin with
        | .done f => wants (fun r s2 => r = .none ∧ Q (.ref s.heap.objs.size) s2) E (.ok f) s'
        | .again c => c.quiet = true ∧ codeAny (model P w) A.in1 c (wants (fun r s2 => r = .none ∧ Q (.ref s.heap.objs.size) s2) E) s')
      (fun e s' => wants (fun r s2 => r = .none ∧ Q (.ref s.heap.objs.size) s2) E (.error e) s') { s with heap := s.heap.push (set0 led) }) : wpAny (model P w) A (call (.type "set") [x]) Q E s := by
  have ⟨_, _, q1⟩ := PySem.F.called_set.mro
  have q2 := PySem.F.called_set.made; have q3 := PySem.F.called_set.sub; have q4 := PySem.F.called_set.notType; have q5 := PySem.F.called_set.canCreate
  have q6 := PySem.F.typeCall_set_1 x; have q7 := PySem.F.called_set.init.lookup; have q8 := PySem.F.called_set.init.bind (.ref s.heap.objs.size)
  refine wpAny_call (codeAny_of_tree ?_); show wpAny _ _ (callAny (.type "set") _) _ _ s
  refine wpAny_pure ⟨Code.quiet_builtin _ (by decide +kernel), codeAny_builtin PySem.F.entry_type_call ?_⟩
  rw [Around.under_plain (weight_type_call_type "set" [x] []) rfl]
  repeat any_goals first | assumption | wp_step
  refine codeAny_mono (code_set_new_1 (E := E) x (Q₁ := fun v s1 => ∃ led, v = .ref s.heap.objs.size ∧ s1 = { s with heap := s.heap.push (set0 led) }) fun led => ⟨led, rfl, rfl⟩) fun r s1 made => ?_
  match r, made with
  | .error e, made => exact made
  | .ok (.ret v), ⟨led, e1, e2⟩ =>
    subst e1 e2
    have isS : Shared.TypeIs { s with heap := s.heap.push (set0 led) } (.ref s.heap.objs.size) "set" := ⟨_, Heap.get?_push_size _ rfl, rfl⟩
    repeat any_goals first | assumption | wp_step
    refine codeAny_mono (codeAny_call_builtin PySem.F.called_set.init.plain PySem.F.entry_set_init (check_set_init_1 isS (told led))) fun r2 s2 end_ => ?_
    match r2, end_ with
    | .error e, end_ => exact end_
    | .ok (.ret v2), ⟨e3, q⟩ =>
      subst e3
      repeat any_goals first | assumption | wp_step
    | .ok .next, end_ => exact end_.elim
    | .ok .brk, end_ => exact end_.elim
    | .ok .cont, end_ => exact end_.elim
  | .ok .next, made => exact made.elim
  | .ok .brk, made => exact made.elim
  | .ok .cont, made => exact made.elim
/-- set(xs), xs a list of keys -/
theorem set_keys {l : Addr} {items : Array Value} {ks : List Key} {Q : Value → Shared → Prop} (calm : A.handled = none) (isl : s.heap.IsList l items) (vals : Vals (ks.map kV) items.toList) (small : ks.length + 1 < scanBound)
    (h : ∀ (h2 : Heap) (tk : Nat), h2.SetOf (mixKind P w) s.heap.objs.size (setOfKeys ks).1 (setOfKeys ks).2 → (∀ b o, s.heap.get? b = some o → h2.get? b = some o) → Q (.ref s.heap.objs.size) { s with heap := h2, toks := tk }) :
    wpAny (model P w) A (call (.type "set") [.ref l]) Q E s := by
  refine set_told fun led => ?_
  obtain ⟨⟨oc, od, oda, osl⟩, ho, hc, c, hd⟩ := isl
  dsimp only at hc hd
  subst hc hd
  have at_l : (s.heap.push (set0 led)).get? l = some { cls := .type "list", dict := od, data := .seq items c, slots := osl } := Heap.get?_push_of_some _ ho
  have isl1 : (s.heap.push (set0 led)).IsList l items := ⟨_, at_l, rfl, c, rfl⟩
  have d1 := PySem.F.sub_list_set; have d2 := PySem.F.sub_list_frozenset; have d3 : (Value.type "list" == Value.type "dict") = false := by decide
  unfold Builtin.«set.__init__» noKeywords Builtin.Frozenset.updateFrom
  generalize walkI : pyIter = it
  wp_walk
  subst walkI
  have l_lt : l < s.heap.objs.size := Heap.lt_size ho
  have size1 : (s.heap.push (set0 led)).objs.size = s.heap.objs.size + 1 := Heap.size_push ..
  have l_ne : l ≠ (s.heap.push (set0 led)).objs.size := fun z => by rw [size1] at z; exact Nat.lt_irrefl _ (Nat.lt_succ_of_lt (z ▸ l_lt))
  have T_off : s.heap.objs.size ∉ [(s.heap.push (set0 led)).objs.size, l] := fun m => by
    rw [size1] at m
    simp only [List.mem_cons, List.not_mem_nil, or_false] at m
    rcases m with m | m
    · exact Nat.ne_of_lt (Nat.lt_succ_self _) m
    · exact Nat.ne_of_gt l_lt m
  have cnt : items.size = ks.length := by rw [← Array.length_toList, ← vals.length, List.length_map]
  refine wpAny_pyIter_list isl1 (wpAny_bind (wpAny_runValue (fill_loop ((Walks.list (by simp [calm]) _ l l_ne items).toS) s.heap.objs.size T_off ks cnt small (fun i v e => ?_) (items.size - 0) 0 _ rfl (Nat.zero_le _) ⟨⟨_, Heap.get?_push_size _ rfl, rfl, rfl⟩, isl1.push _⟩ ?_ fun s2 m S2 => ?_)))
  · rw [← Array.getElem?_toList] at e
    obtain ⟨hi, ev⟩ := List.getElem?_eq_some_iff.mp e
    have hk : i < ks.length := by rw [← cnt, ← Array.length_toList]; exact hi
    obtain ⟨u, eu, ru⟩ := vals.get (show (ks.map kV)[i]? = some (kV ks[i]) by rw [List.getElem?_map, List.getElem?_eq_getElem hk]; rfl)
    rw [e] at eu
    cases eu
    exact ⟨_, List.getElem?_eq_getElem hk, ru⟩
  · exact ⟨set0 led, #[], 0, .fresh 0 0 led, Heap.get?_push_of_some _ (Heap.get?_push_size _ rfl), ⟨rfl, rfl, rfl⟩, rfl, (fun e m => by simp at m), (fun k => by simp [setOfKeys]), (by decide), rfl, rfl⟩
  · obtain ⟨h2, g2, d2, t2, o2⟩ := s2
    have a1 : g2 = s.gens := m.gens
    have a2 : d2 = s.drawn := m.drawn
    have a3 : o2 = s.os := m.os
    subst a1 a2 a3
    refine wpAny_pure (show wpAny (model P w) _ (ret Value.none) _ _ _ from wpAny_pure ⟨rfl, h h2 t2 S2 fun b o e => m.heap b o (fun z => ?_) (Heap.get?_push_of_some _ (Heap.get?_push_of_some _ e))⟩)
    have b_lt : b < s.heap.objs.size := Heap.lt_size e
    rw [size1] at z
    simp only [List.mem_cons, List.not_mem_nil, or_false] at z
    rcases z with z | z
    · exact Nat.ne_of_lt b_lt z
    · exact Nat.ne_of_lt (Nat.lt_succ_of_lt b_lt) z
end
section
variable {X : Cx}
def rSetOfK (K : PySem.W.Frag) (P : Program) (w : World) : List V → Hp → VK → Prop := fun xs H Q => ∃ (l : Addr) (ks : List Key), xs = [.ref l] ∧ SqL K H l (ks.map kV) ∧ ks.length + 1 < scanBound ∧ ∀ a, H a = none → Q (.ref a) (upd H a (SetK P w a (setOfKeys ks).1 (setOfKeys ks).2))
theorem cr_setOfK (K : PySem.W.Frag) (hc : X.calm = true) (hK : X.K = K := by rfl) : CallR X (.type "set") (rSetOfK K X.prog X.w) := by
  subst hK
  rintro pins s σ H xs us Q I r ⟨l, ks, rfl, sq, small, q⟩
  rw [Vals.ref1 r]
  obtain ⟨its, rv, pl, _⟩ := I.list sq
  exact set_keys (I.ok.hd hc) pl.isList rv small fun h2 tk S2 kp => ⟨.ref s.heap.objs.size, _, I.laid (t' := tk) kp (Nat.le_refl _) (setK_new S2), rfl, q _ (I.hok.fresh (Nat.le_refl _))⟩
/-- xs.remove(y), items and y data: the first equal one goes -/
def rRemD (K : PySem.W.Frag) : V → List V → Hp → VK → Prop := fun x xs H Q => ∃ (a : Addr) (vs : List V) (y : V) (d : PyData) (ds : List PyData) (j : Nat) (z : PyData), x = .ref a ∧ xs = [y] ∧ H a = some (.lst vs) ∧ DpAll K H vs ds ∧ Dp K H y d ∧
  SeqAt.shaped (.list ds) = true ∧ SeqAt.shaped d = true ∧ ds[j]? = some z ∧ PyData.eqv z d = true ∧ (∀ (m : Nat) (z' : PyData), m < j → ds[m]? = some z' → PyData.eqv z' d = false) ∧ Q .non (upd H a (.lst (vs.eraseIdx j)))
theorem mt_removeD (K : PySem.W.Frag) {k : Nat} (hr : Room k X.A) (hK : X.K = K := by rfl) : MtM X "list.remove" (rRemD K) := by
  subst hK
  have hu : X.A.units + 65 < cLine := by have := hr.un; omega
  rintro pins s σ H x xs v us Q I rx rxs ⟨a, vs, y, d, ds, j, z, rfl, rfl, hH, hA, hy, sl, sd, hz, hzj, hno, q⟩
  cases rx
  obtain ⟨uy, rfl, ry⟩ := rxs.one
  obtain ⟨bs, rd⟩ := Dp.reads I d y uy hy ry
  have can := SeqAt.canLay_of_shaped sl
  have hlen := hA
  obtain ⟨lim, its, n, rv, cnt, at_a⟩ := I.lstM hH
  obtain ⟨as, rds⟩ := Dp.readsAll I ds _ its hA rv
  have same : its.length = ds.length := SeqAt.ReadsAll.length ds its as rds
  have read : its.map (SeqAt.readOf s.heap) = ds := SeqAt.readsAll_map ds its as can rds
  have item : ∀ (m : Nat) (hm : m < its.toArray.size) (z' : PyData), ds[m]? = some z' → SeqAt.readOf s.heap its.toArray[m] = z' := fun m hm z' e => by
    have hm' : m < its.length := by simpa using hm
    rw [← read, List.getElem?_map, List.getElem?_eq_getElem hm'] at e
    simpa using Option.some.inj e
  have jl : j < its.toArray.size := by
    have := (List.getElem?_eq_some_iff.mp hz).1
    simpa [same] using this
  refine call_meets PySem.F.slot_list_remove ⟨_, at_a, rfl⟩ PySem.F.entry_list_remove (PySem.F.args_list_remove_2 _ _)
    (SeqAt.list_removeAt a its.toArray n none #[] uy (fun u => PyData.eqv (SeqAt.readOf s.heap u) d) j jl ?_ (fun m hm lt => ?_) ?_) ⟨at_a, SeqAt.items_eqAt (vs := its.toArray) (show ReadsAll s.heap its.toArray.toList ds as from rds) rd can (SeqAt.canLay_of_shaped sd) (room_in_shaped sd hu), ?_⟩
  · show PyData.eqv (SeqAt.readOf s.heap its.toArray[j]) d = true
    rw [item j jl z hz]
    exact hzj
  · show PyData.eqv (SeqAt.readOf s.heap its.toArray[m]) d = false
    have hm' : m < ds.length := by have : m < its.length := by simpa using hm
                                   omega
    rw [item m hm _ (List.getElem?_eq_getElem hm')]
    exact hno m _ lt (List.getElem?_eq_getElem hm')
  · rw [List.size_toArray]
    omega
  · refine ⟨.non, _, I.lset (its' := its.eraseIdx j) (t' := s.toks) hH at_a ?_ (rv.eraseIdx j) ?_, rfl, q⟩
    · show its.toArray.eraseIdxIfInBounds j = (its.eraseIdx j).toArray
      rw [List.eraseIdxIfInBounds_toArray]
    · exact Nat.le_trans (List.length_eraseIdx_le vs j) lim
end
end Ts
end
section
/-! any(test for x in list): the test may call a def, if that call changes nothing. -/
namespace Ts
open PySem PySem.Spec PyProof.Rows L2 GxR

/-- at the i-th item the test gives pb i, wherever what stood in s1 stands still (the table at P may have grown) -/
def EltL (X : Cx) (P : Addr) (scope : Scope) (x : Str) (elt : Expr) (σ : L2.St) (H1 : Hp) (xs : List V) (pb : Nat → Bool) : Prop :=
  ∀ (pins : List (Addr × Obj)) (s1 : Shared), Inv X pins σ H1 s1 → ∀ (cenv : Env) (A' : Around) (E' : Value → Shared → Prop) (i : Nat) (y : V) (v : Value) (t : Shared) (m₂ : Str → Option Value),
    xs[i]? = some y → RelV y v → cenv.scope = scope → cenv.globals = X.env.globals → cenv.builtins = builtinsNs → cenv.cells = cloFrom X.env.cells scope.names [] → A'.handled = none → A'.depth ≤ X.A.depth + 1 → A'.units ≤ X.A.units + 8 →
    t.heap.Ns cenv.locals m₂ → m₂ x = some v → (∀ b o, b ≠ P → s1.heap.get? b = some o → t.heap.get? b = some o) →
    wpAny (model X.prog X.w) A' (eval elt cenv) (fun z s₃ => z = .bool (pb i) ∧ Keeps t s₃) E' t

/-- a code object's table, as it lies -/
abbrev TblIs (h : Heap) (P : Addr) (rows : Array Value) : Prop := h.get? P = some { cls := .none, data := .fields rows }
/-- the generator expression's own code: found in the table, or made and put behind it -/
theorem code_grown {prog : Program} {w : World} {A : Around} {E : Value → Shared → Prop} {s : Shared} {env : Env} {scope : Scope} {gpos : Pos} {nm : Str} {c P : Addr} {rows : Array Value} {Q : Value → Shared → Prop}
    (at_c : env.code = .ref c) (head : PySem.W.CodeHd s.heap c P) (tbl : TblIs s.heap P rows) (ok : TriplesOk rows.toList)
    (q : ∀ (cv : Value) (h : Heap) (tk : Nat) (more : Array Value), Heap.ExtBut P s.heap h → s.heap.objs.size ≤ h.objs.size → TblIs h P (rows ++ more) → TriplesOk (rows ++ more).toList → Q cv { s with heap := h, toks := tk }) :
    wpAny (model prog w) A (genexprCode env gpos nm scope) Q E s := by
  match found : codeAmong gpos rows.toList with
  | some cv =>
    refine wpAny_genexprCode_hit at_c (head.code tbl ok) found (q cv s.heap s.toks #[] (.refl _ _) (Nat.le_refl _) ?_ ?_)
    · simpa using tbl
    · simpa using ok
  | none =>
    refine wpAny_genexprCodeX at_c (head.code tbl ok) (head.tab tbl) found fun c2 h2 tk2 ext le lt rec _ now _ => ?_
    refine q _ h2 tk2 _ ext (Nat.le_trans le (Nat.le_of_lt lt)) now.2 ?_
    obtain ⟨_, _, _, _, _, _, _, _, _, _, _, _, _, _, _, _, _, _, _, good, _⟩ := rec
    exact good
section
variable {X : Cx} {pins : List (Addr × Obj)} {σ : L2.St} {H : Hp} {s : Shared}
/-- behind the generator's turns: only the table has grown -/
theorem inv_behind {P : Addr} {rows more : Array Value} {wr : List Addr} {G : Array GenState → Array GenState → Prop} {s5 s' : Shared} (I : Inv X pins σ H s) (tbl : H P = some (.tbl rows)) (mv : Moved wr G s5 s') (same_os : s5.os = s.os) (bare : AllBare s'.gens)
    (stands : ∀ b u, b ≠ P → s.heap.get? b = some u → s5.heap.get? b = some u) (off : ∀ b u, s.heap.get? b = some u → b ∉ wr) (grown : TblIs s5.heap P (rows ++ more)) (ok : TriplesOk (rows ++ more).toList) :
    ∃ H2, Tabbed P H H2 ∧ Inv X pins σ H2 s' := by
  have was : TblIs s.heap P rows := I.hok P _ tbl
  have J := inv_tab (h' := s'.heap) (g' := s'.gens) (d' := s'.drawn) (t' := s'.toks) (more := more) I tbl (fun b u ne e => mv.heap b u (off b u e) (stands b u ne e)) (mv.heap P _ (off P _ was) grown) bare
  rw [sh_eta s s' (mv.os.trans same_os)] at J
  exact ⟨_, ⟨⟨_, upd_same, ok⟩, fun b ne => upd_ne ne⟩, J⟩
/-- what any() is handed: a generator whose j-th item is pb j, n of them; however far it is walked, only the table has grown -/
structure Handed (X : Cx) (pins : List (Addr × Obj)) (σ : L2.St) (H1 : Hp) (P : Addr) (n : Nat) (pb : Nat → Bool) (g : Addr) (s5 : Shared) : Prop where
  go : ∃ fp wr G F St, WalksS X.prog X.w X.A.in1 g fp wr G n F St ∧ St 0 s5 ∧ TruthOf X.prog X.w X.A.in1 F pb ∧ ∀ s', Moved wr G s5 s' → ∃ H2, Tabbed P H1 H2 ∧ Inv X pins σ H2 s'
theorem gen_list {c P : Addr} {elt iter : Expr} {x : Str} {px gpos : Pos} {scope : Scope} {te : TE} {k : Nat} {Q' : Value → Shared → Prop} {R : Nat → (Nat → Bool) → Hp → Prop}
    (hr : Room k X.A) (TB : TabB X.base X.mg c P) (at_c : X.env.code = .ref c) (S : GenS X.env scope x) (hi : PE X iter te) (plain : ∀ v, genFold iter X.env v = pure v) (I : Inv X pins σ H s)
    (h : te σ H fun v H1 => ∃ (a : Addr) (xs : List V) (pb : Nat → Bool), v = .ref a ∧ SqL X.K H1 a xs ∧ TabG H1 P ∧ EltL X P scope x elt σ H1 xs pb ∧ R xs.length pb H1)
    (hQ : ∀ n pb H1 g s5, R n pb H1 → Handed X pins σ H1 P n pb g s5 → Q' (.ref g) s5) :
    wpAny (model X.prog X.w) X.A (eval (.GeneratorExp elt [⟨.Name x px, iter, [], 0⟩] scope gpos) X.env) Q' X.xe s := by
  have deep : X.A.depth < recursionLimit := by have := hr.dp; omega
  refine wpAny_GeneratorExp_walksQD hr.hd S.co (closure_ok S.free) S.cell S.dot S.loc S.kind deep (thn (hi.run pins s σ H _ I h) ?_) plain
  rintro _ sV ⟨_, H1, IV, rel, a, xs, pb, rfl, sq, ⟨rows, tbl, ok⟩, test, want⟩
  cases rel
  -- the list that is walked
  obtain ⟨its, vals, lies, _⟩ := IV.list sq
  have isL : sV.heap.IsList a its.toArray := lies.isList
  have cnt : its.toArray.size = xs.length := (List.size_toArray ..).trans vals.length.symm
  have a_in : a < sV.heap.objs.size := let ⟨_, e, _⟩ := isL; Heap.lt_size e
  have tblV : TblIs sV.heap P rows := IV.hok P _ tbl
  have P_in : P < sV.heap.objs.size := Heap.lt_size tblV
  have a_ne : a ≠ P := by
    rintro rfl
    obtain ⟨_, e, isl, _⟩ := isL
    cases tblV.symm.trans e
    cases isl
  -- its iterator, anew
  refine wpAny_pyIter_list isL ⟨IV.nolimit.push _, ?_⟩
  have stays : ∀ {o : Obj} b u, sV.heap.get? b = some u → (sV.heap.push o).get? b = some u := fun b u e => Heap.get?_push_of_some _ e
  refine code_grown at_c (TB.code.keeps fun b u e => stays b u (IV.bk b u e)) (stays P _ tblV) ok fun cv hC tk more ext big tblC okC => ?_
  rw [Heap.size_push] at big
  have big' : sV.heap.objs.size < hC.objs.size := big
  have keepC : ∀ b u, b ≠ P → sV.heap.get? b = some u → hC.get? b = some u := fun b u ne e => ext b u ne (stays b u e)
  have itC := ext sV.heap.objs.size _ (fun z => Nat.ne_of_lt P_in z.symm) (Heap.get?_push_size sV.heap (o := { cls := .type "list_iterator", data := .fields #[.ref a, .int 0 0] }) rfl)
  -- the built-in names
  obtain ⟨bm, om, n1, n2, _, n4, n5, n6, n7, n8⟩ := TB.bm
  refine wpAny_builtinsFor (m := X.mg) ?_ n1 n2 (keepC _ _ n4 (IV.bk _ _ n5)) n6 n7 n8 ?_
  · rw [IV.ok.glob]
    exact ((IV.mod.glob.keeps IV.bk).push _).extBut ext TB.gP
  have lim := IV.nolimit
  have st_ne : cStatics ≠ P := by
    rintro rfl
    obtain ⟨_, ⟨_, _, _, e, isd, _⟩, _⟩ := lim
    cases tblV.symm.trans e
    cases isd
  have st_in : cStatics < sV.heap.objs.size := let ⟨_, ns, _⟩ := lim; ns.lt
  refine ⟨sV.heap.objs.size, [sV.heap.objs.size, a], [sV.heap.objs.size], its.toArray.size, _, _, fun _ => true, fun i z => i < its.toArray.size ∧ z = .bool (pb i), rfl, fun A' hA => Walks.list hA _ _ (Nat.ne_of_lt a_in) its.toArray,
    ⟨⟨_, itC, rfl, rfl⟩, isL.at fun u e => keepC _ _ a_ne e⟩, ?_, (IV.nolimit.push _).extBut ext st_ne, fun m => ?_, fun href up => ?_, fun g h5 tk5 gs gbare _ _ keep5 W5 start => ?_⟩
  · simp only [List.mem_cons, List.not_mem_nil, or_false]
    rintro b (rfl | rfl)
    · exact big'
    · exact Nat.lt_trans a_in big'
  · exact Nat.ne_of_lt st_in (List.mem_singleton.mp m)
  · -- the test at an item
    refine ⟨fun _ _ _ _ _ _ _ _ _ _ _ _ _ => ?_, fun A' E' i v t m₂ hA hD hU at_i _ ns here held => ?_⟩
    · simp only [List.forIn_nil]
      refine wpAny_pure ?_
      exact .intro rfl (keeps_refl _)
    · have i_in : i < its.toArray.size := (Array.getElem?_eq_some_iff.mp at_i).1
      obtain ⟨u, eu, ru⟩ := vals.get (List.getElem?_eq_getElem (show i < xs.length by omega))
      cases (show some u = some v from eu.symm.trans (by simpa using at_i))
      refine wpAny_mono (test pins sV IV _ A' E' i _ _ t m₂ (List.getElem?_eq_getElem (by omega)) ru rfl rfl rfl rfl hA hD hU ns here fun b o ne e => ?_) (fun _ _ r => ⟨⟨i_in, r.1⟩, r.2⟩) fun _ _ e => e
      have b_in := Heap.lt_size e
      exact held b (List.mem_range.mpr (Nat.lt_trans b_in big')) (fun m => Nat.ne_of_lt b_in (List.mem_singleton.mp m)) o (up b o (keepC b o ne e))
  · -- the generator
    simp only [GxR.passing_true, List.length_range] at W5
    refine hQ its.toArray.size pb H1 g _ (by rw [cnt]; exact want) ⟨⟨_, _, _, _, _, W5.in4_1, start, ?_, fun s' mv => ?_⟩⟩
    · rintro j _ t Qj Ej ⟨i, at_j, _, rfl⟩ qj
      obtain ⟨lt, e⟩ := List.getElem?_eq_some_iff.mp at_j
      rw [List.getElem_range] at e
      exact wpAny_truthy_bool (e ▸ qj)
    · refine inv_behind (more := more) IV tbl mv rfl (AllBare.movedS (IV.bare.push gbare) mv) (fun b u ne e => keep5 b u (keepC b u ne e)) (fun b u e m => ?_) (keep5 P _ tblC) okC
      have b_in : (b : Nat) < sV.heap.objs.size := Heap.lt_size e
      simp only [List.mem_cons, List.not_mem_nil, or_false] at m
      rcases m with m | m
      · exact Nat.lt_irrefl _ (Nat.lt_trans big' (m ▸ b_in))
      · exact Nat.ne_of_lt b_in m

/-- any(test for x in e), e a list; behind it the def's table may have grown -/
def tAnyL (X : Cx) (P : Addr) (scope : Scope) (x : Str) (elt : Expr) (te : TE) : TE := fun σ H Q => te σ H fun v H1 => ∃ (a : Addr) (xs : List V) (pb : Nat → Bool), v = .ref a ∧ SqL X.K H1 a xs ∧ TabG H1 P ∧ EltL X P scope x elt σ H1 xs pb ∧
  ∀ H2, Tabbed P H1 H2 → Q (.bl ((List.range xs.length).any pb)) H2
theorem pe_anyL {c P : Addr} {elt iter : Expr} {x : Str} {px p pos gpos : Pos} {scope : Scope} {te : TE} {k : Nat}
    (hr : Room k X.A) (hg : Gl X "any") (hm : X.mg "any" = none) (TB : TabB X.base X.mg c P) (at_c : X.env.code = .ref c) (S : GenS X.env scope x) (hi : PE X iter te) (plain : ∀ v, genFold iter X.env v = pure v) :
    PE X (.Call (.Name "any" p) [.GeneratorExp elt [⟨.Name x px, iter, [], 0⟩] scope gpos] [] pos) (tAnyL X P scope x elt te) where
  run pins s σ H Q I h := by
    refine wpAny_Call_Name_kw (ld_blt I hg hm boot_any (PyProof.Rows.callWith_builtin1 (e := .GeneratorExp elt [⟨.Name x px, iter, [], 0⟩] scope gpos) (rest := []) ?_ rfl rfl))
    show wpAny _ _ (spliced [(false, _)]) _ _ _
    refine Calls.spliced_cons (gen_list (R := fun n pb H1 => ∀ H2, Tabbed P H1 H2 → Q (.bl ((List.range n).any pb)) H2) hr TB at_c S hi plain I h fun n pb H1 g s5 want hand => Calls.spliced_nil ?_)
    obtain ⟨fp, wr, G, F, St, W, start, truth, back⟩ := hand.go
    refine call_any_walkS (W.self 0 _ _ _ start ⟨g, fp, wr, G, _, F, St, _, rfl, W, start, truth, fun s' mv => ?_⟩)
    obtain ⟨H2, tabbed, J⟩ := back s' mv
    exact ⟨.bl _, H2, J, rfl, want H2 tabbed⟩
end
end Ts
namespace Ts
open PySem PySem.Spec PyProof.Rows L2 GxR
/-- what stood is kept, but tables may have grown -/
def NoTbl (o : HO) : Prop := ∀ ps, o ≠ .tbl ps
structure Kp (H H' : Hp) : Prop where
  ob : ∀ b o, NoTbl o → H b = some o → H' b = some o
  tb : ∀ b, TabG H b → TabG H' b
  th : ∀ b, H' b = none → H b = none
theorem Kp.of {H H' : Hp} (s : Same H H') : Kp H H' := ⟨fun b o _ e => s b o e, fun b g => tab_same s g, fun b e => s.free e⟩
theorem Kp.refl (H : Hp) : Kp H H := Kp.of (Same.refl H)
theorem Kp.trans {H H' H'' : Hp} (s : Kp H H') (t : Kp H' H'') : Kp H H'' := ⟨fun b o n e => t.ob b o n (s.ob b o n e), fun b g => t.tb b (s.tb b g), fun b e => s.th b (t.th b e)⟩
theorem Kp.tab {P : Addr} {H H' : Hp} (h : Tabbed P H H') (g : TabG H P) : Kp H H' where
  ob := fun b o n e => by
    refine (h.2 b fun z => ?_).trans e
    obtain ⟨ps, e2, _⟩ := g
    rw [z, e2] at e
    exact n ps (Option.some.inj e).symm
  tb := fun b gb => by
    by_cases z : b = P
    · rw [z]; exact h.1
    · obtain ⟨ps, e2, k⟩ := gb
      exact ⟨ps, (h.2 b z).trans e2, k⟩
  th := fun b e => by
    by_cases z : b = P
    · obtain ⟨ps, e2, _⟩ := h.1
      rw [z, e2] at e
      cases e
    · exact (h.2 b z).symm.trans e
theorem Kp.at {H H' : Hp} (k : Kp H H') {b : Addr} {o : HO} (e : H b = some o) (h : NoTbl o := by intro _ z; cases z) : H' b = some o := k.ob b o h e
theorem Kp.free {H H' : Hp} (k : Kp H H') {b : Addr} (e : H' b = none) : H b = none := k.th b e
theorem Kp.seq {K : PySem.W.Frag} {H H' : Hp} {a : Addr} {xs : List V} (k : Kp H H') (h : SqL K H a xs) : SqL K H' a xs := by
  obtain (h | ⟨o, h⟩) | h := h
  · exact .inl (.inl (k.at h))
  · exact .inl (.inr ⟨o, k.at h⟩)
  · exact .inr h
theorem Kp.seqT {K : PySem.W.Frag} {H H' : Hp} {a : Addr} {xs : List V} (k : Kp H H') (h : SqT K H a xs) : SqT K H' a xs := by
  obtain (h | ⟨o, h⟩) | h := h
  · exact .inl (.inl (k.at h))
  · exact .inl (.inr ⟨o, k.at h⟩)
  · exact .inr h
/-- what is new to H may change -/
theorem Kp.mut {H H1 : Hp} {D : Addr} {o o0 : HO} (s : Kp H H1) (h : H D = none) (h1 : H1 D = some o0) (n : NoTbl o0 := by intro _ z; cases z) : Kp H (upd H1 D o) where
  ob := fun b u q e => by
    rw [upd_ne (ne_of_none e h)]
    exact s.ob b u q e
  tb := fun b g => by
    obtain ⟨ps, e, k⟩ := g
    obtain ⟨ps', e', k'⟩ := s.tb b ⟨ps, e, k⟩
    exact ⟨ps', (upd_ne (ne_of_none e h)).trans e', k'⟩
  th := fun b e => by
    by_cases z : b = D
    · rw [z]; exact h
    · exact s.th b ((upd_ne z).symm.trans e)
theorem gs_free {env : Env} {scope : Scope} {x y : Str} {c : Addr} (h1 : scope.kind = .function) (h2 : scope.isCoroutine = false) (h3 : ∀ z ∈ scope.names, z.2 ≠ .cell ∧ (z.2 = .free → z.1 = y)) (h4 : scope.names.lookup (".0" : Str) = some NameKind.local) (h5 : scope.names.lookup x = some .local) (h6 : env.cells.lookup y = some c) : GenS env scope x :=
  ⟨h1, h2, fun z hz => (h3 z hz).1, h4, h5, fun z hz f => ⟨c, by rw [(h3 z hz).2 f]; exact h6⟩⟩
def atF {α : Type} (l : List α) (f : α → Bool) (i : Nat) : Bool := match l[i]? with
  | some t => f t
  | none => false
theorem atF_some {α : Type} {l : List α} {f : α → Bool} {i : Nat} {t : α} (h : l[i]? = some t) : atF l f i = f t := by
  unfold atF
  rw [h]
theorem any_range {α : Type} (l : List α) (f : α → Bool) : (List.range l.length).any (atF l f) = l.any f := by
  rw [Bool.eq_iff_iff, List.any_eq_true, List.any_eq_true]
  constructor
  · rintro ⟨i, hi, h⟩
    have hi' := List.mem_range.mp hi
    rw [atF_some (List.getElem?_eq_getElem hi')] at h
    exact ⟨l[i], List.getElem_mem hi', h⟩
  · rintro ⟨t, ht, h⟩
    obtain ⟨i, hi⟩ := List.getElem?_of_mem ht
    exact ⟨i, List.mem_range.mpr (List.getElem?_eq_some_iff.mp hi).1, by rw [atF_some hi]; exact h⟩
/-! ### a call that changes nothing, at the library's level -/
section
variable {P : Program} {w : World} {K : PySem.W.Frag} {mg : Str → Option Value} {base : Heap} {A : Around} {E : Value → Shared → Prop} {s : Shared}
theorem quiet_call {x : Str} {st : Stmt} {ps : List Str} {f : Addr} {fd : FuncData} {Q : Value → Shared → Prop} (D : Dfn K mg x st ps f fd) (M : Mod K mg base) (hroom : A.depth < recursionLimit) (hk : ∀ b o, base.get? b = some o → s.heap.get? b = some o) {us : List Value} (hl : us.length = ps.length)
    (hcell : ∀ y ∈ (defScope st).names, y.2 ≠ .cell) (hloc : ∀ y ∈ ps, (defScope st).names.lookup y = some .local) (hco : (defScope st).isCoroutine = false) (hgen : (defScope st).isGenerator = false) (hkd : (defScope st).kind = .function)
    (h : ∀ h₀ cd, Fr s.heap s.heap.objs.size h₀ (fun z => (ps.zip us).reverse.lookup z) → wpAny (model P w) (A.deeper (PySem.W.envX x (defScope st) s.heap.objs.size f cd [])) (execs (defBody st) (PySem.W.envX x (defScope st) s.heap.objs.size f cd []))
      (fun fl s' => Q (match fl with | .ret v => v | _ => .none) s') (fun _ _ => False) { s with heap := h₀, toks := s.toks + (ps.zip us).length }) :
    wpAny (model P w) A (call (.ref f) us) Q E s := by
  obtain ⟨F, g, b⟩ := D
  obtain ⟨oc, od, kV, doc, pm, an, cdv, ct, osl, hfd, lk, hcd⟩ := F.ex
  subst hfd
  have KI := M.kin.keeps hk
  have hb := b s us KI (by rw [List.append_nil]; exact hl)
  rw [List.append_nil] at hb
  refine wpAny_call (codeAny_call_def (fd := PySem.W.fnOf x x (defArgs st) (defBody st) (defScope st) .none kV doc pm an cdv ct) (body := defBody st) (binds := ps.zip us) hroom (KI _ _ lk) rfl (M.nolimit.keeps hk) (PySem.W.codeRec_of KI hcd) rfl hb hcell (fun y hy => hloc _ (List.of_mem_zip hy).1) (fun h₀ hns hk₀ => ?_) hco hgen hkd)
  exact wpAny_mono (h h₀ cdv ⟨hns, hk₀, Nat.le_refl _⟩) (fun _ _ z => z) fun _ _ z => z.elim
variable {n : Str} {sc : Scope} {L f : Addr} {cd : Value} {h₀ : Heap} {m : Str → Option Value}
theorem q_blt {x : Str} {u : Value} {pos : Pos} {Q : Value → Shared → Prop} (M : Mod K mg base) (hk : ∀ b o, base.get? b = some o → s.heap.get? b = some o) (hm : mg x = none) (hv : bootBuiltins x = some u) (h : Q u s)
    (hs : sc.kind = .function := by rfl) (hx : (PySem.W.envX n sc L f cd []).kindOf x = some .globalImplicit := by rfl) (hn : x ≠ "__name__" := by decide) (hd : (x == ("__debug__" : Str)) = false := by decide) :
    wpAny (model P w) A (eval (.Name x pos) (PySem.W.envX n sc L f cd [])) Q E s := by
  obtain ⟨mb, h1, h2⟩ := M.blt
  exact Calls.Name_function_global hs hx (Calls.loadGlobal_builtin (M.glob.keeps hk) hm (h1.keeps hk) ((h2 x hn).trans hv) h) hd
theorem q_item {x : Str} {b : Addr} {items : Array Value} {j : Nat} {val : Value} {p p2 pos : Pos} {k : Nat} {Q : Value → Shared → Prop} (F : Fr h₀ L s.heap m) (hx : m x = some (.ref b)) (ht : IsTup s.heap b items) (hi : items[j]? = some val) (hj : j < 1000)
    (h : Q val { s with toks := s.toks + 1 }) (hs : sc.kind = .function := by rfl) (hl : (PySem.W.envX n sc L f cd []).kindOf x = some .local := by rfl) (hd : (x == ("__debug__" : Str)) = false := by decide) :
    wpAny (model P w) A (eval (.Subscript (.Name x p) (.Constant (.int (j : Int)) k p2) pos) (PySem.W.envX n sc L f cd [])) Q E s := by
  refine Subscript_ (PySem.W.nameX_L F hx (wpAny_Constant_int ?_) hs hl hd)
  have ht2 : IsTup ({ s with toks := s.toks + 1 } : Shared).heap b items := ht
  have hsz : j < items.size := (Array.getElem?_eq_some_iff.mp hi).1
  refine subscriptTail_builtinR (x := val) ht2.typeIs slot_tuple_getitem.lookup (getItem_tuple (j := j) (Q := fun r s' => r = val ∧ Q r s') ht2 (by omega) (by omega) ?_ hi ⟨rfl, h⟩)
  unfold seqIndex?
  simp
  omega
end
end Ts
end
section
/-! Words of a row: slices with a step, figures, runs of figures. -/
namespace Ts
open PySem PySem.Spec PyProof.Rows L2

/-! ### xs[lo::st] -/
def stepV {α : Type} (xs : List α) (lo st : Option Int) : List α := (sliceRange (sliceBounds lo none st xs.length).1 (sliceBounds lo none st xs.length).2.1 (sliceBounds lo none st xs.length).2.2).filterMap (xs[·]?)
theorem vals_pick {xs : List V} {us : List Value} (r : Vals xs us) : ∀ l : List Nat, Vals (l.filterMap (xs[·]?)) (l.filterMap (us[·]?))
  | [] => .nil
  | i :: l => by
    cases e : xs[i]? with
    | none =>
      have n : us[i]? = none := by
        rw [List.getElem?_eq_none_iff] at e ⊢
        rw [← r.length]; exact e
      rw [List.filterMap_cons, List.filterMap_cons]
      simp only [e, n]
      exact vals_pick r l
    | some v =>
      obtain ⟨u, eu, ru⟩ := r.get e
      rw [List.filterMap_cons, List.filterMap_cons]
      simp only [e, eu]
      exact .cons ru (vals_pick r l)
def tSlS (K : PySem.W.Frag) (te : TE) (tl ts : TO) : TE := fun σ H Q => te σ H fun x H1 => tl σ H1 fun lo H2 => ts σ H2 fun st H3 => ∃ (a : Addr) (xs : List V), x = .ref a ∧ SqL K H3 a xs ∧ st ≠ some 0 ∧ ∀ p, H3 p = none → Q (.ref p) (upd H3 p (.lst (stepV xs lo st)))
theorem pe_sliceS {X : Cx} {e : Expr} {lo : Option Expr} {st : Expr} {te : TE} {tl ts : TO} {p2 pos : Pos} (he : PE X e te) (hl : PO X lo tl) (hs : PO X (some st) ts) : PE X (.Subscript e (.Slice lo none (some st) p2) pos) (tSlS X.K te tl ts) := by
  constructor
  intro pins s σ H Q I h
  refine Subscript_ (thn (he.run pins s σ H _ I h) ?_)
  rintro v s1 ⟨x, H1, I1, rx, q1⟩
  refine wpAny_Slice (thn (hl.run pins s1 σ H1 _ I1 q1) ?_)
  rintro vl s2 ⟨l, H2, I2, pl, q2⟩
  rw [evalPart_none]
  refine wpAny_pure (thn (hs.run pins s2 σ H2 _ I2 q2) ?_)
  rintro vs s3 ⟨c, H3, I3, pc, a, xs, rfl, sq, nz, q3⟩
  cases rx
  have stays : ∀ {o : Obj} b u, s3.heap.get? b = some u → (s3.heap.push o).get? b = some u := fun b u e => Heap.get?_push_of_some _ e
  have I4 : Inv X pins σ H3 { s3 with heap := s3.heap.push { cls := .type "slice", data := .fields #[vl, .none, vs] } } := I3.kept (t' := s3.toks) stays
  obtain ⟨its, vals, lies, room⟩ := I4.list sq
  have cnt : its.toArray.size = xs.length := (List.size_toArray ..).trans vals.length.symm
  refine tail_any (ops := [.ref a, .ref s3.heap.objs.size]) (id := "list.__getitem__") (T := "list") lies.isList.typeIs slot_list_getitem.lookup ?_ (by with_unfolding_all rfl)
  refine wpAny_getItem_list_slice lies.isList (Heap.IsSliceOf.new ..) pl .none pc nz ?_ (by rw [cnt]; exact room)
  have size : (stepV xs l c).length ≤ xs.length := by
    have z := slicePick_size_le its.toArray l none c
    unfold slicePick at z
    rw [List.size_toArray, cnt] at z
    have same := (vals_pick vals (sliceRange (sliceBounds l none c xs.length).1 (sliceBounds l none c xs.length).2.1 (sliceBounds l none c xs.length).2.2)).length
    simp only [List.getElem?_toArray] at z
    unfold stepV
    omega
  refine ⟨.ref _, _, I4.laid (t' := s3.toks) (o := .lst (stepV xs l c)) (fun b u e => Heap.get?_push_of_some _ e) (Nat.le_refl _) ⟨Nat.le_trans size room, _, 0, vals_pick vals _, ?_⟩, rfl, q3 _ (I4.hok.fresh (Nat.le_refl _))⟩
  unfold slicePick
  rw [cnt]
  simp only [List.getElem?_toArray]
  exact Heap.get?_push_size _ rfl

/-! ### max of four numbers -/
theorem args_max4 (a b c d : Value) : argsOk "max" ⟨[a, b, c, d], []⟩ := by unfold argsOk; kernel_rfl
theorem max_four {prog : Program} {w : World} {A : Around} {E : Value → Shared → Prop} {s : Shared} {xs : Array (Int × Tok)} {Q : Value → Shared → Prop} (four : xs.size = 4) (hh : A.handled = none)
    (h : ∀ (j : Nat) (t : Tok) (h' : Heap) (tk : Nat), j < 4 → (∀ i, i < 4 → numAt xs i ≤ numAt xs j) → (∀ b o, s.heap.get? b = some o → h'.get? b = some o) → Q (.int (numAt xs j) t) { s with heap := h', toks := tk }) :
    wpAny (model prog w) A (call (.builtin "max") (intItems xs).toList) Q E s := by
  obtain ⟨a, b, c, d, rfl⟩ : ∃ a b c d, xs = #[a, b, c, d] := by
    obtain ⟨l⟩ := xs
    match l, four with
    | [a, b, c, d], _ => exact ⟨a, b, c, d, rfl⟩
  generalize hx : #[a, b, c, d] = xs at *
  have items : (intItems xs).toList = [.int a.1 a.2, .int b.1 b.2, .int c.1 c.2, .int d.1 d.2] := by rw [← hx]; simp [intItems]
  rw [items]
  have loop : (toString "max" ++ toString ".loop" : String) = "max.loop" := by decide
  refine call_function_tree F.kind_max F.plain_max F.entry_max (args_max4 _ _ _ _) ?_
  show wpAny _ A.in1 (Builtin.Builtins.bindParams "max" ["key", "default"] 0 ⟨[], []⟩ >>= _) _ _ s
  refine wpAny_bind (wpAny_of_eq (show Builtin.Builtins.bindParams "max" ["key", "default"] 0 ⟨[], []⟩ = pure [none, none] from rfl) ?_)
  show wpAny _ A.in1 (newTuple _ >>= _) _ _ s
  refine wpAny_bind (wpAny_newObj_type ?_)
  rw [← items]
  -- the tuple, its iterator, the loop's own record
  generalize hT : s.heap.push { cls := .type "tuple", data := .seq (intItems xs).toList.toArray } = hp
  have big : hp.objs.size = s.heap.objs.size + 1 := by rw [← hT, Heap.size_push]
  have tup : hp.IsTuple s.heap.objs.size (intItems xs) := by
    rw [← hT]
    exact ⟨_, Heap.get?_push_size _ rfl, rfl, 0, by simp⟩
  have old : ∀ b o, s.heap.get? b = some o → hp.get? b = some o := fun b o e => by rw [← hT]; exact Heap.get?_push_of_some _ e
  have apart : s.heap.objs.size ≠ hp.objs.size := by omega
  refine wpAny_bind (wpAny_pyIter_tuple tup ?_)
  have W := Walks.tuple (prog := prog) (w := w) (A := A.in1) hh hp.objs.size s.heap.objs.size apart (intItems xs)
  refine wpAny_bind (wpAny_newObj_type ?_)
  rw [loop]
  have size2 : ∀ o : Obj, (hp.push o).objs.size = hp.objs.size + 1 := fun o => Heap.size_push ..
  have n4 : (intItems xs).size = 4 := by rw [← hx]; simp [intItems]
  refine wpAny_pure ⟨plainId_quiet F.plain_max_loop _, codeAny_max_loop_first W _ (CmpOf.ints_gt (numAt xs) fun _ _ => intItems_at) _ ?_ (by rw [n4]; decide) ⟨⟨_, Heap.get?_push_of_some _ (Heap.get?_push_size _ rfl), rfl, rfl⟩, (tup.push _).push _⟩ (Heap.get?_push_size _ rfl) fun v h' tk best keep => ?_⟩
  · intro m
    have size3 := size2 { cls := .type "tuple_iterator", data := .fields #[.ref s.heap.objs.size, .int 0 0] }
    have m : (hp.push { cls := .type "tuple_iterator", data := .fields #[.ref s.heap.objs.size, .int 0 0] }).objs.size ∈ [hp.objs.size, s.heap.objs.size] := m
    rw [size3, big] at m
    rcases List.mem_cons.mp m with m | m
    · exact absurd m (Nat.ne_of_gt (Nat.lt_succ_self _))
    · rw [List.mem_singleton] at m
      exact absurd m (Nat.ne_of_gt (Nat.lt_succ_of_lt (Nat.lt_succ_self _)))
  · have best : (intItems xs)[argBest (fun i j => decide (numAt xs i > numAt xs j)) ((intItems xs).size - 1)]? = some v := best
    rw [n4, show 4 - 1 = 3 from rfl] at best
    obtain ⟨t, rfl⟩ := intItems_at best
    obtain ⟨le, top⟩ := argBest_gt (numAt xs) 3
    refine h _ t h' tk (by omega) (fun i hi => top i (by omega)) fun b o e => ?_
    have lt := Heap.lt_size e
    have lt2 : b < hp.objs.size := by rw [big]; exact Nat.lt_succ_of_lt lt
    refine keep b o (fun m => ?_) ?_ (Heap.get?_push_of_some _ (Heap.get?_push_of_some _ (old b o e)))
    · rw [List.mem_singleton] at m
      exact Nat.ne_of_lt lt2 m
    · show b ≠ (hp.push _).objs.size
      rw [size2]
      exact Nat.ne_of_lt (Nat.lt_succ_of_lt lt2)
theorem call_max4 {X : Cx} (hc : X.calm = true) : CallR X (.builtin "max") (fun vs H Q => ∃ i j k l, vs = [.int i, .int j, .int k, .int l] ∧ ∀ m, (m = i ∨ m = j ∨ m = k ∨ m = l) → i ≤ m → j ≤ m → k ≤ m → l ≤ m → Q (.int m) H) := by
  rintro pins s σ H vs us Q I r ⟨i, j, k, l, rfl, q⟩
  match r with
  | .cons r1 (.cons r2 (.cons r3 (.cons r4 .nil))) =>
    obtain ⟨t1, rfl⟩ := r1
    obtain ⟨t2, rfl⟩ := r2
    obtain ⟨t3, rfl⟩ := r3
    obtain ⟨t4, rfl⟩ := r4
    have e : (intItems #[(i, t1), (j, t2), (k, t3), (l, t4)]).toList = [.int i t1, .int j t2, .int k t3, .int l t4] := by simp [intItems]
    rw [← e]
    refine max_four (xs := #[(i, t1), (j, t2), (k, t3), (l, t4)]) rfl (I.ok.hd hc) fun n t h' tk lt top keep => ⟨.int _, H, I.kept keep, ⟨t, rfl⟩, q _ ?_ (top 0 (by decide)) (top 1 (by decide)) (top 2 (by decide)) (top 3 (by decide))⟩
    match n, lt with
    | 0, _ => exact .inl rfl
    | 1, _ => exact .inr (.inl rfl)
    | 2, _ => exact .inr (.inr (.inl rfl))
    | 3, _ => exact .inr (.inr (.inr rfl))

/-! ### figures -/
abbrev fig (c : Nat) : Bool := decide (48 ≤ c) && decide (c ≤ 57)
/-- '0' <= x <= '9' -/
theorem elt_09 {prog : Program} {w : World} {scope : Scope} {x : Str} {j1 j2 : Nat} {p1 p2 p3 p4 : Pos} (hk : scope.kind = .function) (hl : scope.names.lookup x = some .local) (hd : (x == ("__debug__" : Str)) = false := by decide) :
    GxR.EltP prog w scope x (.Compare (.Constant (.str "0") j1 p1) [.LtE, .LtE] [.Name x p2, .Constant (.str "9") j2 p3] p4) fig := by
  intro cenv A' E' c t s₂ m₂ hs hn hm
  have hz : cenv.scope.names.lookup x = some .local := by rw [hs]; exact hl
  have one : ∀ {a b : Nat}, ([a] < [b]) ↔ a < b := fun {a b} => by
    rw [List.cons_lt_cons_iff]
    exact ⟨fun z => z.elim id fun y => absurd y.2 (List.not_lt_nil _), .inl⟩
  have e0 : ("0" : Str).cps.toList = [48] := by decide +kernel
  have e9 : ("9" : Str).cps.toList = [57] := by decide +kernel
  refine Compare_chain (Calls.Constant_str (chain_link (wpAny_Name (wpAny_loadName_local (by rw [hs]; exact hk) hz hn hm ?_) hd)))
  refine PySem.P.le_str (wpAny_truthy_bool ?_)
  show if (!decide (([c] : List Nat) < ("0" : Str).cps.toList)) = true then _ else _
  rw [e0]
  by_cases lo : 48 ≤ c
  · have n : ¬ ([c] < [48]) := fun z => by have := one.mp z; omega
    rw [decide_eq_false n]
    refine ite_tt (chain_last (Calls.Constant_str (PySem.P.le_str ⟨?_, GxR.keeps_tok _ _⟩)))
    show Value.bool (!decide (("9" : Str).cps.toList < ([c] : List Nat))) = Value.bool (fig c)
    rw [e9]
    unfold fig
    rw [decide_eq_true lo]
    by_cases hi : c ≤ 57
    · have n2 : ¬ ([57] < [c]) := fun z => by have := one.mp z; omega
      rw [decide_eq_false n2, decide_eq_true hi]
      rfl
    · have y2 : [57] < [c] := one.mpr (by omega)
      rw [decide_eq_true y2, decide_eq_false hi]
      rfl
  · have y : [c] < [48] := one.mpr (by omega)
    rw [decide_eq_true y]
    refine ite_ff ⟨?_, GxR.keeps_tok _ _⟩
    unfold fig
    rw [decide_eq_false lo]
    rfl

/-- no run of figures is longer than k -/
def Runs (k : Nat) (l : List Nat) : Prop := ∀ p q r, l = p ++ (q ++ r) → q.all fig = true → q.length ≤ k
theorem Runs.short {k : Nat} {l : List Nat} (h : l.length ≤ k) : Runs k l := fun p q r e _ => by
  have := congrArg List.length e
  simp only [List.length_append] at this
  omega
theorem Runs.mono {j k : Nat} {l : List Nat} (h : Runs j l) (le : j ≤ k) : Runs k l := fun p q r e f => Nat.le_trans (h p q r e f) le
theorem Runs.part {k : Nat} {a b c : List Nat} (h : Runs k (a ++ (b ++ c))) : Runs k b := fun p q r e f => h (a ++ p) q (r ++ c) (by rw [e]; simp) f
theorem Runs.take {k n : Nat} {l : List Nat} (h : Runs k l) : Runs k (l.take n) := Runs.part (a := []) (c := l.drop n) (by simpa using h)
theorem Runs.drop {k n : Nat} {l : List Nat} (h : Runs k l) : Runs k (l.drop n) := Runs.part (a := l.take n) (c := []) (by simpa using h)
theorem Runs.app {j k : Nat} {a b : List Nat} (ha : Runs j a) (hb : Runs k b) : Runs (j + k) (a ++ b) := fun p q r e f => by
  rcases List.append_eq_append_iff.mp e with ⟨x, rfl, e2⟩ | ⟨x, rfl, e2⟩
  · exact Nat.le_trans (hb x q r e2 f) (Nat.le_add_left _ _)
  · rcases List.append_eq_append_iff.mp e2 with ⟨y, rfl, e3⟩ | ⟨y, rfl, e3⟩
    · exact Nat.le_trans (ha p q y (by simp) f) (Nat.le_add_right _ _)
    · rw [List.all_append, Bool.and_eq_true] at f
      have h1 := ha p x [] (by simp) f.1
      have h2 := hb [] y r e3 f.2
      rw [List.length_append]
      omega
theorem Runs.sep {k c : Nat} {a b : List Nat} (ha : Runs k a) (nf : fig c = false) (hb : Runs k b) : Runs k (a ++ c :: b) := fun p q r e f => by
  have over : ∀ y s, c :: b = y ++ (q ++ s) → q.length ≤ k := fun y s e => by
    cases y with
    | nil =>
      cases q with
      | nil => exact Nat.zero_le _
      | cons d q =>
        cases e
        rw [List.all_cons, nf] at f
        cases f
    | cons d y =>
      cases e
      exact hb y q s rfl f
  rcases List.append_eq_append_iff.mp e with ⟨x, rfl, e2⟩ | ⟨x, rfl, e2⟩
  · exact over x r e2
  · rcases List.append_eq_append_iff.mp e2 with ⟨y, rfl, e3⟩ | ⟨y, rfl, e3⟩
    · exact ha p q y (by simp) f
    · cases y with
      | nil =>
        rw [List.append_nil] at f ⊢
        exact ha p x [] (by simp) f
      | cons d y =>
        cases e3
        rw [List.all_append, List.all_cons, nf] at f
        simp at f

/-! ### the parts of a text -/
/-- the parts between the signs c -/
def cuts (c : Nat) (l : List Nat) : List (List Nat) := TL.spl [c] 0 [] l
theorem cut_part (c : Nat) : ∀ (l acc w : List Nat), w ∈ TL.spl [c] 0 acc l → ∃ p r, acc ++ l = p ++ (w ++ r)
  | [], acc, w, m => by
    rw [TL.spl_nil, List.mem_singleton] at m
    exact ⟨[], [], by simp [m]⟩
  | x :: l, acc, w, m => by
    cases h : TL.pre [c] (x :: l) with
    | true =>
      rw [TL.spl_hit h] at m
      rcases List.mem_cons.mp m with rfl | m
      · exact ⟨[], x :: l, rfl⟩
      · obtain ⟨p, r, e⟩ := cut_part c l [] w m
        rw [List.nil_append] at e
        exact ⟨acc ++ x :: p, r, by rw [e]; simp⟩
    | false =>
      rw [TL.spl_miss h] at m
      obtain ⟨p, r, e⟩ := cut_part c l (acc ++ [x]) w m
      exact ⟨p, r, by rw [← e]; simp⟩
theorem cuts_len (c : Nat) : ∀ (l acc : List Nat), (TL.spl [c] 0 acc l).length ≤ l.length + 1
  | [], acc => by rw [TL.spl_nil]; exact Nat.le_refl _
  | x :: l, acc => by
    cases h : TL.pre [c] (x :: l) with
    | true =>
      rw [TL.spl_hit h]
      have : (TL.spl [c] 0 [] l).length ≤ l.length + 1 := cuts_len c l []
      simp only [List.length_cons, List.length_nil]
      exact Nat.succ_le_succ this
    | false =>
      rw [TL.spl_miss h]
      have := cuts_len c l (acc ++ [x])
      rw [List.length_cons]
      omega
theorem cuts_ne (c : Nat) : ∀ (l acc : List Nat), TL.spl [c] 0 acc l ≠ []
  | [], acc => by rw [TL.spl_nil]; simp
  | x :: l, acc => by
    cases h : TL.pre [c] (x :: l) with
    | true => rw [TL.spl_hit h]; simp
    | false => rw [TL.spl_miss h]; exact cuts_ne c l _
/-- a text as it is handed on: not too long, ascii, no long run of figures -/
structure Txl (n k : Nat) (l : List Nat) : Prop where
  len : l.length ≤ n
  asc : ∀ c ∈ l, c < 128
  run : Runs k l
theorem Txl.cut {n k c : Nat} {l w : List Nat} (h : Txl n k l) (m : w ∈ cuts c l) : Txl n k w := by
  obtain ⟨p, r, e⟩ := cut_part c l [] w m
  rw [List.nil_append] at e
  subst e
  refine ⟨Nat.le_trans ?_ h.len, fun c mc => h.asc c (by simp [mc]), h.run.part⟩
  simp only [List.length_append]
  omega
theorem Txl.mono {n n' k k' : Nat} {l : List Nat} (h : Txl n k l) (a : n ≤ n') (b : k ≤ k') : Txl n' k' l := ⟨Nat.le_trans h.len a, h.asc, h.run.mono b⟩
theorem split_at (c : Nat) (hc : c < 256) (l : List Nat) : Txt.split (mkS l) (mkS [c]) = (cuts c l).map mkS := SX.split_S (by simp) (by simpa using hc)

/-! ### small things -/
theorem inDK {X : Cx} (K : PySem.W.Frag) {k : Nat} (hr : Room k X.A) (h : X.K = K := by rfl) : OpR X (compareOp .In) (rInD K) := h ▸ op_inD (by have := hr.un; omega)
/-- the end of a law, two of whose defs hold a generator expression -/
theorem walk_tab2 {l : PySem.W.OpenLaw} {n k : Nat} {q : Program} {loose : List Str} {XP : (Str → Option Value) → Heap → Prop} {YP : World → Heap → Prop} {d : DefRec} {K : Params → PySem.W.Frag} {CX : World → CXT} {x nm nm2 : Str}
    (hn : l.most = some n) (hle : n ≤ sizeLine) (hdf : d.params.defaults = []) (room : Room k callerA) (hrec : ((recsOf q).any fun e => e.name == nm) = true) (hrec2 : ((recsOf q).any fun e => e.name == nm2) = true) (hY : ∀ (w : World) (h : Heap), YP w h → (K w.params).In h)
    (F : ∀ (w : World) (mg : Str → Option Value) (fa : Addr) (h : Heap), (K w.params).In h → h.Ns mainGlobals mg → mg d.name = some (.ref fa) → TabOf (K w.params) mg h nm → TabOf (K w.params) mg h nm2 → LamX.LawAtS l w (K w.params) (CX w) k n x mg fa h)
    (hCX : ∀ (w : World) (H : Hp) (s : Shared) (e : Value) (s' : Shared), CX w [] H s (fun _ _ _ => False) e s' → False) :
    PySem.W.WalkO q loose XP YP l.row.toRowW d [] (fun f vs => PySem.call f vs) := by
  refine Att.attach_callB hn hdf ?_
  intro w s0 s1 mg mb fa o pm cd doc a vs ns G Y ho hd hcd hmg hobj hints hlen hbits hg
  have inK := hY w _ Y
  have tab : ∀ nm : Str, ((recsOf q).any fun e => e.name == nm) = true → TabOf (K w.params) mg s1.heap nm := by
    intro nm hrec f c P o1 fd1 e dd us sl z1 z2 z3 z4 z5 z6
    obtain ⟨r, rm, rn⟩ := List.any_eq_true.mp hrec
    obtain ⟨f', o', fd', c', P', y1, y2, y3, y4, y5, y6⟩ := G.T.tab r rm
    rw [beq_iff_eq.mp rn, z1] at y1
    cases y1
    rw [inK _ _ z2] at y2
    cases y2
    rw [z3] at y3
    cases y3
    rw [z4] at y4
    cases y4
    have hd := PySem.W.CodeHd.of y5 y6
    obtain ⟨⟨oc, uc, x1, _, x3, x4⟩, hP⟩ := y6
    rw [inK _ _ z5] at x1
    cases x1
    cases x3
    rw [z6] at x4
    cases x4
    exact ⟨hP, hd⟩
  obtain ⟨fd, cs, sp, b1, b2, b3, b4, b5, b6⟩ := F w mg fa _ inK G.T.g hmg (tab nm hrec) (tab nm2 hrec2)
  exact LamX.law_callTs inK G.T.g G.T.b G.T.builtins G.T.nolimit hg b1 b2 b3 G.T.bmain hobj hints (Nat.le_trans hlen hle) room b6 b4 (fun H hH hS => b5 H a ns hlen hbits hH hS) fun H e s' => hCX w H s1 e s'
/-- a def that may raise, whose code object's address is known -/
theorem fn_codeX {Pr : Program} {w : World} {K : PySem.W.Frag} {mg : Str → Option Value} {base : Heap} {x qual : Str} {st : Stmt} {f c : Addr} {fd : FuncData} {N ps : List Str} {k : Nat} {sp : Sp} (D : L2.Fun K x qual st f fd) (hc : fd.code = .ref c) (S : FnScope N ps (defScope st))
    (ln : ∀ vs H Q E, sp vs H Q E → vs.length = ps.length)
    (body : ∀ (A : Around) (outer : List Env) (s : Shared) (H : Hp) (vs : List V) (Q : VK) (E : XK), Room k (A.deeper (envOfC qual (defScope st) s.heap.objs.size f (.ref c))) → sp vs H Q E →
      ∃ t, PSs (cxOf (L2.CX Pr w) Pr w K mg base N qual (defScope st) f (.ref c) A outer s H E) (defBody st) t ∧ t { nx := fun _ H2 => Q .non H2, rt := Q } (start N vs) H) : FnOk Pr w K mg base (L2.CX Pr w) (k + 1) f fd ps sp := by
  obtain ⟨q1, q2, q3, q4, q5, q6, q7, q8, q9, e1, e2, e3⟩ := D.ex
  subst e1
  have e4 : q7 = .ref c := hc
  subst e4
  exact fn_of e2 e3 S ln body
end Ts
end
section
/-! sorted(d), d a dict of numbers, however many. -/
namespace Ts
open PySem PySem.Spec PyProof.Rows L2

/-- what is wanted of the keys: they are numbers, they fit a list; then any rising arrangement of them, anew -/
def rSortD : List V → Hp → VK → Prop := fun args H Q => ∃ (d : Addr) (kvs : List (Key × V)) (nums : List Int), args = [.ref d] ∧ H d = some (.dK kvs) ∧ kvs.map Prod.fst = nums.map Sum.inl ∧ nums.length ≤ sizeLine ∧
  ∀ (up : List Int) (fresh : Addr), up.Perm nums → up.Pairwise (· ≤ ·) → H fresh = none → Q (.ref fresh) (upd H fresh (.lst (up.map V.int)))
/-- values that stand for keys which are numbers are those numbers -/
theorem ints_of_keys {nums : List Int} {got : List Value} {keys : List Key} (hk : keys = nums.map Sum.inl) (hl : got.length = nums.length)
    (hv : ∀ (j : Nat) (v : Value), got[j]? = some v → ∃ key, keys[j]? = some key ∧ keyIs key v = true) : IntsAre got nums := by
  subst hk
  refine ints_each hl fun j v hj => ?_
  obtain ⟨key, at_j, same⟩ := hv j v hj
  obtain ⟨n, hn, rfl⟩ : ∃ n, nums[j]? = some n ∧ key = Sum.inl n := by
    rw [List.getElem?_map] at at_j
    cases q : nums[j]? with
    | some n => exact ⟨n, rfl, by rw [q] at at_j; exact (Option.some.inj at_j).symm⟩
    | none => rw [q] at at_j; nomatch at_j
  rcases keyIs_shape same with ⟨i, tk, is, ev⟩ | ⟨_, _, is, _⟩
  · exact ⟨n, tk, hn, by rw [ev, Sum.inl.inj is]⟩
  · nomatch is
/-- a new list of numbers, sorted where it lies -/
theorem sort_fresh {X : Cx} {pins : List (Addr × Obj)} {σ : L2.St} {H : Hp} {s : Shared} {Q : VK} {got : List Value} {nums : List Int} {A : Around} (I : Inv X pins σ H s) (hi : IntsAre got nums) (hn : nums.length ≤ sizeLine) (hl : got.length = nums.length)
    (q : ∀ (up : List Int) (fresh : Addr), up.Perm nums → up.Pairwise (· ≤ ·) → H fresh = none → Q (.ref fresh) (upd H fresh (.lst (up.map V.int)))) :
    wpAny (model X.prog X.w) A (call (.builtin "list.sort") [.ref s.heap.objs.size]) (fun _ z => EP X pins σ Q (.ref s.heap.objs.size) z) X.xe { s with heap := s.heap.push (seqObj "list" got.toArray 0) } := by
  have here : (s.heap.push (seqObj "list" got.toArray 0)).get? s.heap.objs.size = some (seqObj "list" got.toArray 0) := Heap.get?_push_size _ rfl
  refine wpAny_call_entry PyProof.Rows.slot_list_sort ⟨_, here, rfl⟩ PyProof.Rows.entry_list_sort ?_ (PyProof.Rows.args_list_sort _)
  refine SrtO.list_sort_ord (s := { s with heap := s.heap.push (seqObj "list" got.toArray 0) }) SrtO.swo_int here (hl ▸ hn) (SrtO.ints_sortable hi) fun out rising stable => ⟨.none, rfl, ?_⟩
  obtain ⟨whole, perm, le⟩ := SrtO.ints_out hi rising stable
  obtain ⟨ep, there⟩ := PyProof.Rows.sortedHeap_at (vs := got) (out := out.toArray) here
  have fit : ((out.map SrtO.iv).map V.int).length ≤ sizeLine := by rw [List.length_map, perm.length_eq]; exact hn
  have old : ∀ b u, s.heap.get? b = some u → (PyProof.Rows.sortedHeap (s.heap.push (seqObj "list" got.toArray 0)) s.heap.objs.size got out.toArray).get? b = some u := fun b u e =>
    (PyProof.Rows.sortedHeap_old (Nat.ne_of_lt (Heap.lt_size e)) (by rw [size_push']; exact Nat.lt_succ_of_lt (Heap.lt_size e))).trans (Heap.get?_push_of_some _ e)
  exact ⟨.ref s.heap.objs.size, upd H s.heap.objs.size (.lst ((out.map SrtO.iv).map V.int)), I.laid (t' := s.toks) old (Nat.le_refl _) ⟨fit, out, ep, vals_of_ints whole, there⟩, rfl, q _ _ perm le (I.hok.fresh (Nat.le_refl _))⟩
theorem call_sortedDA {X : Cx} (hcalm : X.calm = true) : CallR X (.builtin "sorted") rSortD := by
  rintro pins s σ H args us Q I rel ⟨d, kvs, nums, rfl, hd, hk, hn, q⟩
  rw [Vals.ref1 rel]
  obtain ⟨_, lies, pairs, kv, dd⟩ := dk_rd I.hok (.inl hd)
  obtain ⟨ep, lay⟩ := dd.dictAt
  have same : pairs.map Prod.fst = nums.map Sum.inl := kv.keys.symm.trans hk
  have count : pairs.length = nums.length := by simpa using congrArg List.length same
  refine Calls.call_function_entry kind_sorted plain_sorted entry_sorted (args_sorted1 _) ?_
  unfold Builtin.«sorted»
  refine wpAny_bind (m := checkCount "sorted" 1 1 _) (wpAny_pure (wpAny_bind ?_))
  refine PySem.W.kdu_collect (A := X.A.in1) (PySem.W.kdl_dict (knd := mixKind X.prog X.w) (kvs := pairs) (ep := ep) lies) (I.ok.hd hcalm) lay (count ▸ hn) fun h' tk got kept told => ?_
  have gl : got.toList.length = nums.length := by rw [Array.length_toList, told.1, count]
  have hi : IntsAre got.toList nums := ints_of_keys same gl fun j v e => by
    obtain ⟨key, val, at_j, is⟩ := told.2 j v (by simpa using e)
    exact ⟨key, by rw [List.getElem?_map, at_j]; rfl, is⟩
  refine wpAny_bind (wpAny_newList (wpAny_bind (wpAny_holding ?_)) (gl ▸ hn))
  exact wpAny_mono (sort_fresh (I.kept (t' := tk) kept) hi hn gl q) (fun _ z done => wpAny_pure ⟨_, rfl, done⟩) fun _ _ e => e
end Ts
end
section
namespace Ts.k10
open PySem PySem.Spec PyProof.Rows L2 Ts
/-! ### promises of the law's own helpers -/
def spMix : Sp := fun vs H Q _ => ∃ c k : Int, vs = [.int c, .int k] ∧ ∀ r : Int, 0 ≤ r → r < 999983 → Q (.int r) H
def spBig : Sp := fun vs H Q _ => ∃ c k : Int, vs = [.int c, .int k] ∧ ∀ (r : Int) (H' : Hp), 0 ≤ r → r ≤ 1000000000000 → Same H H' → Q (.int r) H'
def spOff : Sp := fun vs H Q _ => ∃ c : Int, vs = [.int c] ∧ ∀ (r : Int) (H' : Hp), 0 ≤ r → r ≤ 999 → Same H H' → Q (.int r) H'
/-- the least number not less than p times o by 1000 -/
def slk (p o : Int) : Int := (p * o + 999) / 1000
def spSlack : Sp := fun vs H Q _ => ∃ p o : Int, vs = [.int p, .int o] ∧ -1000000 < o ∧ o < 1000000 ∧ Q (.int (slk p o)) H
def spCellAt (K : PySem.W.Frag) : Sp := fun vs H Q _ => ∃ (l : Addr) (ns : List Int) (j : Nat), vs = [.ref l, .int (j : Int)] ∧ SqL K H l (ns.map V.int) ∧ Q (.int (ns.getD j 0)) H
def spWhole (K : PySem.W.Frag) : Sp := fun vs H Q _ => ∃ i : Int, vs = [.int i] ∧ Q (.bl true) H
def spLaw (K : PySem.W.Frag) : Sp := fun vs H Q _ => ∃ (a : Addr) (ns : List Int), vs = [.ref a] ∧ SqL K H a (ns.map V.int) ∧ ns.length ≤ 63 ∧ ∀ H', Q (.bl true) H'

def okOff (o : Int) : Prop := 0 ≤ o ∧ o ≤ 999
def spCheckOff (C : Addr) : Sp := fun vs H Q E => ∃ o : Int, vs = [.int o] ∧ (okOff o → Q .non H) ∧ (¬ okOff o → E (.ref C) none H)

/-- a letter as a tuple -/
def letV (nm : V) (s b lo hi : Int) : List V := [nm, .int s, .int b, .int lo, .int hi]
def brLo (b lo now o : Int) : Int := lo + (now - b) - slk (now - b) o
def brHi (s hi now o : Int) : Int := hi + (now - s) + slk (now - s) o
def spBrought (K : PySem.W.Frag) (cO cE : Addr) : Sp := fun vs H Q E => ∃ (t : Addr) (nm : V) (s b lo hi now o : Int), vs = [.ref t, .int now, .int o] ∧ SqT K H t (letV nm s b lo hi) ∧
  (¬ okOff o → E (.ref cO) none H) ∧ (okOff o → now < b → E (.ref cE) none H) ∧
  (okOff o → b ≤ now → ∀ u, H u = none → Q (.ref u) (upd H u (.tup [.int (brLo b lo now o), .int (brHi s hi now o)])))
def spLawBrought (K : PySem.W.Frag) : Sp := fun vs H Q _ => ∃ (t : Addr) (nm : V) (s b lo hi now o : Int), vs = [.ref t, .int now, .int o] ∧ SqT K H t (letV nm s b lo hi) ∧ okOff o ∧
  ∀ u, H u = none → Q (.ref u) (upd H u (.tup [.int (brLo b lo now o), .int (brHi s hi now o)]))

def spWord : Sp := fun vs H Q _ => ∃ c n : Int, vs = [.int c, .int n] ∧ 0 ≤ n ∧ n ≤ 1000 ∧ ∀ z : List Nat, (z.length : Int) = n → low z → Q (.str (mkS z)) H
def spNames : Sp := fun vs H Q _ => ∃ c : Int, vs = [.int c] ∧ ∀ (p : Addr) (xs : List (List Nat)) (H' : Hp), xs.length = 42 → xs.Nodup → (∀ z ∈ xs, nmOk z) → Same H H' → H' p = some (.lst (txs xs)) → Q (.ref p) H'

/-- a letter's data -/
structure Let where
  nm : List Nat
  s : Int
  b : Int
  lo : Int
  hi : Int
def Let.vals (x : Let) : List V := letV (.str (mkS x.nm)) x.s x.b x.lo x.hi
structure Let.Ok (x : Let) : Prop where
  nm : nmOk x.nm
  s0 : 0 ≤ x.s
  sb : x.s ≤ x.b
  b1 : x.b ≤ 1000000000000
  l0 : 0 ≤ x.lo
  lh : x.lo ≤ x.hi
  h1 : x.hi ≤ 1000000000000
/-- letters as tuples at addresses -/
def LetsAt (K : PySem.W.Frag) (H : Hp) (as : List Addr) (ls : List Let) : Prop := as.length = ls.length ∧ ∀ (i : Nat) (t : Addr) (x : Let), as[i]? = some t → ls[i]? = some x → SqT K H t x.vals
theorem LetsAt.same {K : PySem.W.Frag} {H H' : Hp} {as : List Addr} {ls : List Let} (h : LetsAt K H as ls) (s : Same H H') : LetsAt K H' as ls := ⟨h.1, fun i t x a b => Ts.Same.seqT s (h.2 i t x a b)⟩
theorem LetsAt.get {K : PySem.W.Frag} {H : Hp} {as : List Addr} {ls : List Let} (h : LetsAt K H as ls) {i : Nat} {v : V} (e : (as.map V.ref)[i]? = some v) : ∃ t x, v = .ref t ∧ as[i]? = some t ∧ ls[i]? = some x ∧ SqT K H t x.vals := by
  rw [List.getElem?_map] at e
  cases ea : as[i]? with
  | none => rw [ea] at e; cases e
  | some t =>
    rw [ea] at e
    have hi : i < ls.length := by rw [← h.1]; exact (List.getElem?_eq_some_iff.mp ea).1
    exact ⟨t, ls[i], (Option.some.inj e).symm, rfl, List.getElem?_eq_getElem hi, h.2 i t _ ea (List.getElem?_eq_getElem hi)⟩
theorem LetsAt.nil {K : PySem.W.Frag} {H : Hp} : LetsAt K H [] [] := ⟨rfl, fun i t x h _ => by simp at h⟩
theorem LetsAt.snoc {K : PySem.W.Frag} {H : Hp} {as : List Addr} {ls : List Let} {t : Addr} {x : Let} (h : LetsAt K H as ls) (hx : SqT K H t x.vals) : LetsAt K H (as ++ [t]) (ls ++ [x]) := by
  refine ⟨by rw [List.length_append, List.length_append, h.1]; rfl, fun i u y a b => ?_⟩
  by_cases hi : i < as.length
  · rw [List.getElem?_append_left hi] at a
    rw [List.getElem?_append_left (by rw [← h.1]; exact hi)] at b
    exact h.2 i u y a b
  · have hl := (List.getElem?_eq_some_iff.mp a).1
    rw [List.length_append] at hl
    have e : i = as.length := by simp at hl; omega
    subst e
    rw [List.getElem?_append_right (Nat.le_refl _), Nat.sub_self] at a
    rw [List.getElem?_append_right (by rw [h.1]; exact Nat.le_refl _), h.1, Nat.sub_self] at b
    cases a
    cases b
    exact hx
theorem LetsAt.grow {K : PySem.W.Frag} {H : Hp} {D : Addr} {acc acc' : List V} {as : List Addr} {ls : List Let} (h : LetsAt K H as ls) (hD : H D = some (.lst acc)) : LetsAt K (upd H D (.lst acc')) as ls := ⟨h.1, fun i t x a b => Ts.SqT.grow (h.2 i t x a b) hD⟩
def spLetter (K : PySem.W.Frag) : Sp := fun vs H Q _ => ∃ (c m : Int) (p : Addr) (xs : List (List Nat)), vs = [.int c, .ref p, .int m] ∧ SqL K H p (txs xs) ∧ xs.length = 42 ∧ (∀ z ∈ xs, nmOk z) ∧ 1 ≤ m ∧ m ≤ 42 ∧
  ∀ (x : Let) (t : Addr) (H' : Hp), x.Ok → x.nm ∈ xs → Same H H' → H' t = some (.tup x.vals) → Q (.ref t) H'
def spLetters (K : PySem.W.Frag) : Sp := fun vs H Q _ => ∃ (l p : Addr) (ns : List Int) (xs : List (List Nat)), vs = [.ref l, .ref p] ∧ SqL K H l (ns.map V.int) ∧ ns.length ≤ 63 ∧ SqL K H p (txs xs) ∧ xs.length = 42 ∧ (∀ z ∈ xs, nmOk z) ∧
  ∀ (as : List Addr) (ls : List Let) (q : Addr) (H' : Hp), ls.length ≤ 200 → (∀ x ∈ ls, x.Ok) → Same H H' → LetsAt K H' as ls → H' q = some (.lst (as.map V.ref)) → H q = none → Q (.ref q) H'
/-- no answer later than now -/
def spNow (K : PySem.W.Frag) : Sp := fun vs H Q _ => ∃ (l p : Addr) (ns : List Int) (as : List Addr) (ls : List Let), vs = [.ref l, .ref p] ∧ SqL K H l (ns.map V.int) ∧ SqL K H p (as.map V.ref) ∧ LetsAt K H as ls ∧ (∀ x ∈ ls, x.Ok) ∧
  ∀ (now : Int) (H' : Hp), 0 ≤ now → now ≤ 1000000010000 → (∀ x ∈ ls, x.b ≤ now) → Same H H' → Q (.int now) H'

/-! ### the clocks of letters -/
abbrev St2 := Int × Int
def brSt (now o : Int) (x : Let) : St2 := (brLo x.b x.lo now o, brHi x.s x.hi now o)
theorem slk_ge0 {p o : Int} (hp : 0 ≤ p) (h : okOff o) : 0 ≤ slk p o := by
  have h1 : 0 ≤ p * o := Int.mul_nonneg hp h.1
  unfold slk
  omega
theorem slk_le {p o : Int} (hp : 0 ≤ p) (h : okOff o) : slk p o ≤ p := by
  have h1 : p * o ≤ p * 999 := Int.mul_le_mul_of_nonneg_left h.2 hp
  unfold slk
  omega
theorem brSt_le {now o : Int} {x : Let} (hx : x.Ok) (h : okOff o) (hb : x.b ≤ now) : (brSt now o x).1 ≤ (brSt now o x).2 := by
  have h1 := slk_le (p := now - x.b) (by omega) h
  have h0 := slk_ge0 (p := now - x.b) (by omega) h
  have h2 := slk_ge0 (p := now - x.s) (by have := hx.sb; omega) h
  have := hx.sb
  have := hx.lh
  show brLo x.b x.lo now o ≤ brHi x.s x.hi now o
  unfold brLo brHi
  omega
def addN (acc : List (List Nat)) (n : List Nat) : List (List Nat) := if n ∈ acc then acc else acc ++ [n]
def namesOf (ls : List Let) : List (List Nat) := ls.foldl (fun acc x => addN acc x.nm) []
theorem namesOf_snoc (ls : List Let) (x : Let) : namesOf (ls ++ [x]) = addN (namesOf ls) x.nm := by
  unfold namesOf
  rw [List.foldl_append]
  rfl
theorem addN_mem {acc : List (List Nat)} {n m : List Nat} : m ∈ addN acc n ↔ m ∈ acc ∨ m = n := by
  unfold addN
  split
  · rename_i h
    exact ⟨.inl, fun z => z.elim id fun e => e ▸ h⟩
  · rw [List.mem_append, List.mem_singleton]
theorem addN_nodup {acc : List (List Nat)} {n : List Nat} (h : acc.Nodup) : (addN acc n).Nodup := by
  unfold addN
  split
  · exact h
  · rename_i hn
    exact nd_snoc h hn
theorem fold_mem {m : List Nat} : ∀ (ls : List Let) (acc : List (List Nat)), m ∈ ls.foldl (fun acc x => addN acc x.nm) acc ↔ m ∈ acc ∨ ∃ x ∈ ls, x.nm = m
  | [], acc => by simp
  | x :: r, acc => by
    rw [List.foldl_cons, fold_mem r, addN_mem]
    constructor
    · rintro ((h | h) | ⟨y, hy, e⟩)
      · exact .inl h
      · exact .inr ⟨x, List.mem_cons_self, h.symm⟩
      · exact .inr ⟨y, List.mem_cons_of_mem _ hy, e⟩
    · rintro (h | ⟨y, hy, e⟩)
      · exact .inl (.inl h)
      · rcases List.mem_cons.mp hy with rfl | hy
        · exact .inl (.inr e.symm)
        · exact .inr ⟨y, hy, e⟩
theorem fold_nodup : ∀ (ls : List Let) (acc : List (List Nat)), acc.Nodup → (ls.foldl (fun acc x => addN acc x.nm) acc).Nodup
  | [], _, h => h
  | x :: r, acc, h => fold_nodup r _ (addN_nodup h)
theorem namesOf_mem {ls : List Let} {m : List Nat} : m ∈ namesOf ls ↔ ∃ x ∈ ls, x.nm = m := by
  unfold namesOf
  rw [fold_mem]
  simp
theorem namesOf_nodup (ls : List Let) : (namesOf ls).Nodup := fold_nodup ls [] List.nodup_nil
theorem namesOf_len (ls : List Let) : (namesOf ls).length ≤ ls.length := by
  have h : ∀ (ls : List Let) (acc : List (List Nat)), (ls.foldl (fun acc x => addN acc x.nm) acc).length ≤ acc.length + ls.length := by
    intro ls
    induction ls with
    | nil => intro acc; simp
    | cons x r ih =>
      intro acc
      rw [List.foldl_cons]
      refine Nat.le_trans (ih _) ?_
      rw [List.length_cons]
      unfold addN
      split
      · omega
      · rw [List.length_append]; simp; omega
  have z := h ls []
  rw [List.length_nil, Nat.zero_add] at z
  exact z
def stsOf (now o : Int) (n : List Nat) (ls : List Let) : List St2 := (ls.filter fun x => decide (x.nm = n)).map (brSt now o)
theorem stsOf_eq (now o : Int) {n : List Nat} (ls : List Let) {x : Let} (h : x.nm = n) : stsOf now o n (ls ++ [x]) = stsOf now o n ls ++ [brSt now o x] := by
  unfold stsOf
  rw [List.filter_append, List.map_append]
  simp [h]
theorem stsOf_ne (now o : Int) {n : List Nat} (ls : List Let) {x : Let} (h : x.nm ≠ n) : stsOf now o n (ls ++ [x]) = stsOf now o n ls := by
  unfold stsOf
  rw [List.filter_append]
  simp [h]
theorem stsOf_nil (now o : Int) {n : List Nat} {ls : List Let} (h : n ∉ namesOf ls) : stsOf now o n ls = [] := by
  unfold stsOf
  rw [List.map_eq_nil_iff, List.filter_eq_nil_iff]
  intro x hx
  simpa using fun e => h (namesOf_mem.mpr ⟨x, hx, e⟩)
theorem stsOf_some (now o : Int) {n : List Nat} {ls : List Let} (h : n ∈ namesOf ls) : stsOf now o n ls ≠ [] := by
  obtain ⟨x, hx, e⟩ := namesOf_mem.mp h
  unfold stsOf
  rw [Ne, List.map_eq_nil_iff, List.filter_eq_nil_iff]
  intro z
  exact absurd e (by simpa using z x hx)
def loOf : List St2 → Int
  | [] => 0
  | s :: r => r.foldl (fun m t => if t.1 > m then t.1 else m) s.1
def hiOf : List St2 → Int
  | [] => 0
  | s :: r => r.foldl (fun m t => if t.2 < m then t.2 else m) s.2
theorem loOf_snoc {l : List St2} (h : l ≠ []) (t : St2) : loOf (l ++ [t]) = if t.1 > loOf l then t.1 else loOf l := by
  cases l with
  | nil => exact absurd rfl h
  | cons s r =>
    show (r ++ [t]).foldl _ _ = _
    rw [List.foldl_append]
    rfl
theorem hiOf_snoc {l : List St2} (h : l ≠ []) (t : St2) : hiOf (l ++ [t]) = if t.2 < hiOf l then t.2 else hiOf l := by
  cases l with
  | nil => exact absurd rfl h
  | cons s r =>
    show (r ++ [t]).foldl _ _ = _
    rw [List.foldl_append]
    rfl
theorem fmax_spec : ∀ (r : List St2) (m : Int), m ≤ r.foldl (fun m t => if t.1 > m then t.1 else m) m ∧ (∀ t ∈ r, t.1 ≤ r.foldl (fun m t => if t.1 > m then t.1 else m) m)
  | [], m => ⟨Int.le_refl _, fun _ h => nomatch h⟩
  | s :: r, m => by
    obtain ⟨h1, h2⟩ := fmax_spec r (if s.1 > m then s.1 else m)
    rw [List.foldl_cons]
    refine ⟨?_, fun t ht => ?_⟩
    · refine Int.le_trans ?_ h1
      split <;> omega
    · rcases List.mem_cons.mp ht with rfl | ht
      · refine Int.le_trans ?_ h1
        split <;> omega
      · exact h2 t ht
theorem fmin_spec : ∀ (r : List St2) (m : Int), r.foldl (fun m t => if t.2 < m then t.2 else m) m ≤ m ∧ (∀ t ∈ r, r.foldl (fun m t => if t.2 < m then t.2 else m) m ≤ t.2)
  | [], m => ⟨Int.le_refl _, fun _ h => nomatch h⟩
  | s :: r, m => by
    obtain ⟨h1, h2⟩ := fmin_spec r (if s.2 < m then s.2 else m)
    rw [List.foldl_cons]
    refine ⟨?_, fun t ht => ?_⟩
    · refine Int.le_trans h1 ?_
      split <;> omega
    · rcases List.mem_cons.mp ht with rfl | ht
      · refine Int.le_trans h1 ?_
        split <;> omega
      · exact h2 t ht
theorem fmax_mem : ∀ (r : List St2) (m : Int), r.foldl (fun m t => if t.1 > m then t.1 else m) m = m ∨ ∃ t ∈ r, t.1 = r.foldl (fun m t => if t.1 > m then t.1 else m) m
  | [], m => .inl rfl
  | s :: r, m => by
    rw [List.foldl_cons]
    rcases fmax_mem r (if s.1 > m then s.1 else m) with h | ⟨t, ht, e⟩
    · rw [h]
      split
      · exact .inr ⟨s, List.mem_cons_self, rfl⟩
      · exact .inl rfl
    · exact .inr ⟨t, List.mem_cons_of_mem _ ht, e⟩
theorem fmin_mem : ∀ (r : List St2) (m : Int), r.foldl (fun m t => if t.2 < m then t.2 else m) m = m ∨ ∃ t ∈ r, t.2 = r.foldl (fun m t => if t.2 < m then t.2 else m) m
  | [], m => .inl rfl
  | s :: r, m => by
    rw [List.foldl_cons]
    rcases fmin_mem r (if s.2 < m then s.2 else m) with h | ⟨t, ht, e⟩
    · rw [h]
      split
      · exact .inr ⟨s, List.mem_cons_self, rfl⟩
      · exact .inl rfl
    · exact .inr ⟨t, List.mem_cons_of_mem _ ht, e⟩
/-- the greatest low, the least high, by what they are -/
theorem loOf_is {l : List St2} {m : Int} (h1 : m ∈ l.map (·.1)) (h2 : ∀ y ∈ l.map (·.1), y ≤ m) : m = loOf l := by
  cases l with
  | nil => cases h1
  | cons s r =>
    have g := fmax_spec r s.1
    have k := fmax_mem r s.1
    have up : m ≤ loOf (s :: r) := by
      obtain ⟨t, ht, e⟩ := List.mem_map.mp h1
      rcases List.mem_cons.mp ht with rfl | ht
      · exact e ▸ g.1
      · exact e ▸ g.2 t ht
    have dn : loOf (s :: r) ≤ m := by
      refine h2 _ ?_
      rcases k with k | ⟨t, ht, e⟩
      · exact List.mem_map.mpr ⟨s, List.mem_cons_self, k.symm⟩
      · exact List.mem_map.mpr ⟨t, List.mem_cons_of_mem _ ht, e⟩
    omega
theorem hiOf_is {l : List St2} {m : Int} (h1 : m ∈ l.map (·.2)) (h2 : ∀ y ∈ l.map (·.2), m ≤ y) : m = hiOf l := by
  cases l with
  | nil => cases h1
  | cons s r =>
    have g := fmin_spec r s.2
    have k := fmin_mem r s.2
    have up : hiOf (s :: r) ≤ m := by
      obtain ⟨t, ht, e⟩ := List.mem_map.mp h1
      rcases List.mem_cons.mp ht with rfl | ht
      · exact e ▸ g.1
      · exact e ▸ g.2 t ht
    have dn : m ≤ hiOf (s :: r) := by
      refine h2 _ ?_
      rcases k with k | ⟨t, ht, e⟩
      · exact List.mem_map.mpr ⟨s, List.mem_cons_self, k.symm⟩
      · exact List.mem_map.mpr ⟨t, List.mem_cons_of_mem _ ht, e⟩
    omega
def comb (l : List St2) : Option St2 := if loOf l ≤ hiOf l then some (loOf l, hiOf l) else none
def joinSt (o : Option St2) (t : St2) : Option St2 := match o with
  | none => none
  | some k => if (if t.1 > k.1 then t.1 else k.1) > (if t.2 < k.2 then t.2 else k.2) then none else some ((if t.1 > k.1 then t.1 else k.1), (if t.2 < k.2 then t.2 else k.2))
theorem comb_one {t : St2} (h : t.1 ≤ t.2) : comb [t] = some t := if_pos h
theorem comb_snoc {l : List St2} (h : l ≠ []) (t : St2) : comb (l ++ [t]) = joinSt (comb l) t := by
  unfold comb
  rw [loOf_snoc h, hiOf_snoc h]
  by_cases c : loOf l ≤ hiOf l
  · rw [if_pos c]
    show _ = if _ then _ else _
    by_cases d : (if t.1 > loOf l then t.1 else loOf l) ≤ (if t.2 < hiOf l then t.2 else hiOf l)
    · rw [if_pos d, if_neg (Int.not_lt.mpr d)]
    · rw [if_neg d, if_pos (Int.not_le.mp d)]
  · rw [if_neg c]
    refine if_neg fun d => c ?_
    have h1 : loOf l ≤ (if t.1 > loOf l then t.1 else loOf l) := by split <;> omega
    have h2 : (if t.2 < hiOf l then t.2 else hiOf l) ≤ hiOf l := by split <;> omega
    omega
abbrev Clk := List Nat × Option St2
def clkOf (now o : Int) (ls : List Let) (n : List Nat) : Option St2 := comb (stsOf now o n ls)
def gath (now o : Int) (ls : List Let) : List Clk := (namesOf ls).map fun n => (n, clkOf now o ls n)
/-- a clock's stretch as a value -/
def ClV (K : PySem.W.Frag) (H : Hp) (v : V) (o : Option St2) : Prop := match o with
  | none => v = .non
  | some t => ∃ b : Addr, v = .ref b ∧ SqT K H b [.int t.1, .int t.2]
theorem ClV.same {K : PySem.W.Frag} {H H' : Hp} {v : V} {o : Option St2} (h : ClV K H v o) (s : Same H H') : ClV K H' v o := by
  cases o with
  | none => exact h
  | some t => exact match h with | ⟨b, e, q⟩ => ⟨b, e, Ts.Same.seqT s q⟩
theorem SqT.off {K : PySem.W.Frag} {H : Hp} {d t : Addr} {xs : List V} {u o : HO} (h : SqT K H t xs) (hd : H d = some u) (n1 : ∀ ys, u ≠ .tup ys) (n2 : ∀ ob ys, u ≠ .frz ob (.tup ys)) : SqT K (upd H d o) t xs := by
  rcases h with (h | ⟨ob, h⟩) | h
  · exact .inl (.inl (by rw [upd_ne (ne_of h hd (fun z => n1 _ z.symm))]; exact h))
  · exact .inl (.inr ⟨ob, by rw [upd_ne (ne_of h hd (fun z => n2 _ _ z.symm))]; exact h⟩)
  · exact .inr h
theorem ClV.off {K : PySem.W.Frag} {H : Hp} {d : Addr} {v : V} {c : Option St2} {u o : HO} (h : ClV K H v c) (hd : H d = some u) (n1 : ∀ ys, u ≠ .tup ys) (n2 : ∀ ob ys, u ≠ .frz ob (.tup ys)) : ClV K (upd H d o) v c := by
  cases c with
  | none => exact h
  | some t => exact match h with | ⟨b, e, q⟩ => ⟨b, e, SqT.off q hd n1 n2⟩
def ClAt (K : PySem.W.Frag) (H : Hp) (v : V) (c : Clk) : Prop := ∃ (t : Addr) (w : V), v = .ref t ∧ SqT K H t [.str (mkS c.1), w] ∧ ClV K H w c.2
theorem ClAt.same {K : PySem.W.Frag} {H H' : Hp} {v : V} {c : Clk} (h : ClAt K H v c) (s : Same H H') : ClAt K H' v c := match h with
  | ⟨t, w, e, q, k⟩ => ⟨t, w, e, Ts.Same.seqT s q, k.same s⟩
theorem ClAt.off {K : PySem.W.Frag} {H : Hp} {d : Addr} {v : V} {c : Clk} {u o : HO} (h : ClAt K H v c) (hd : H d = some u) (n1 : ∀ ys, u ≠ .tup ys) (n2 : ∀ ob ys, u ≠ .frz ob (.tup ys)) : ClAt K (upd H d o) v c := match h with
  | ⟨t, w, e, q, k⟩ => ⟨t, w, e, SqT.off q hd n1 n2, k.off hd n1 n2⟩
def ClksAt (K : PySem.W.Frag) (H : Hp) (xs : List V) (cs : List Clk) : Prop := xs.length = cs.length ∧ ∀ (i : Nat) (v : V) (c : Clk), xs[i]? = some v → cs[i]? = some c → ClAt K H v c
theorem ClksAt.same {K : PySem.W.Frag} {H H' : Hp} {xs : List V} {cs : List Clk} (h : ClksAt K H xs cs) (s : Same H H') : ClksAt K H' xs cs := ⟨h.1, fun i v c a b => (h.2 i v c a b).same s⟩
theorem ClksAt.off {K : PySem.W.Frag} {H : Hp} {d : Addr} {xs : List V} {cs : List Clk} {u o : HO} (h : ClksAt K H xs cs) (hd : H d = some u) (n1 : ∀ ys, u ≠ .tup ys) (n2 : ∀ ob ys, u ≠ .frz ob (.tup ys)) : ClksAt K (upd H d o) xs cs := ⟨h.1, fun i v c a b => (h.2 i v c a b).off hd n1 n2⟩
theorem ClksAt.get {K : PySem.W.Frag} {H : Hp} {xs : List V} {cs : List Clk} (h : ClksAt K H xs cs) {i : Nat} {v : V} (e : xs[i]? = some v) : ∃ c, cs[i]? = some c ∧ ClAt K H v c := by
  have hi : i < cs.length := by rw [← h.1]; exact (List.getElem?_eq_some_iff.mp e).1
  exact ⟨cs[i], List.getElem?_eq_getElem hi, h.2 i v _ e (List.getElem?_eq_getElem hi)⟩
theorem ClksAt.nil {K : PySem.W.Frag} {H : Hp} : ClksAt K H [] [] := ⟨rfl, fun i v c h _ => by simp at h⟩
theorem ClksAt.snoc {K : PySem.W.Frag} {H : Hp} {xs : List V} {cs : List Clk} {v : V} {c : Clk} (h : ClksAt K H xs cs) (hc : ClAt K H v c) : ClksAt K H (xs ++ [v]) (cs ++ [c]) := by
  refine ⟨by rw [List.length_append, List.length_append, h.1]; rfl, fun i u y a b => ?_⟩
  by_cases hi : i < xs.length
  · rw [List.getElem?_append_left hi] at a
    rw [List.getElem?_append_left (by rw [← h.1]; exact hi)] at b
    exact h.2 i u y a b
  · have hl := (List.getElem?_eq_some_iff.mp a).1
    rw [List.length_append] at hl
    have e : i = xs.length := by simp at hl; omega
    subst e
    rw [List.getElem?_append_right (Nat.le_refl _), Nat.sub_self] at a
    rw [List.getElem?_append_right (by rw [h.1]; exact Nat.le_refl _), h.1, Nat.sub_self] at b
    cases a
    cases b
    exact hc
/-- a clock's data -/
def stD : Option St2 → PyData
  | none => .none
  | some t => .tuple [.int t.1, .int t.2]
def clkD (c : Clk) : PyData := .tuple [.str (mkS c.1), stD c.2]
def clksD (cs : List Clk) : PyData := .list (cs.map clkD)
theorem ClV.dp {K : PySem.W.Frag} {H : Hp} {v : V} {o : Option St2} (h : ClV K H v o) : Dp K H v (stD o) := by
  cases o with
  | none => cases (show v = .non from h); exact .non
  | some t =>
    obtain ⟨b, rfl, q⟩ := h
    exact .tup q (.cons (.int _) (.cons (.int _) .nil))
theorem ClAt.dp {K : PySem.W.Frag} {H : Hp} {v : V} {c : Clk} (h : ClAt K H v c) : Dp K H v (clkD c) := by
  obtain ⟨t, w, rfl, q, k⟩ := h
  exact .tup q (.cons (.str _) (.cons k.dp .nil))
theorem dps_of {K : PySem.W.Frag} {H : Hp} {α : Type} {f : α → PyData} : ∀ {xs : List V} {cs : List α}, xs.length = cs.length → (∀ (i : Nat) (v : V) (c : α), xs[i]? = some v → cs[i]? = some c → Dp K H v (f c)) → DpAll K H xs (cs.map f)
  | [], [], _, _ => .nil
  | [], _ :: _, h, _ => by cases h
  | _ :: _, [], h, _ => by cases h
  | v :: xs, c :: cs, h, g => .cons (g 0 v c rfl rfl) (dps_of (Nat.succ.inj h) fun i v' c' a b => g (i + 1) v' c' a b)
theorem ClksAt.dp {K : PySem.W.Frag} {H : Hp} {p : Addr} {xs : List V} {cs : List Clk} (h : ClksAt K H xs cs) (hp : SqL K H p xs) : Dp K H (.ref p) (clksD cs) :=
  .lst hp (dps_of h.1 fun i v c a b => (h.2 i v c a b).dp)
def letD (x : Let) : PyData := .tuple [.str (mkS x.nm), .int x.s, .int x.b, .int x.lo, .int x.hi]
theorem LetsAt.dp {K : PySem.W.Frag} {H : Hp} {p : Addr} {as : List Addr} {ls : List Let} (h : LetsAt K H as ls) (hp : SqL K H p (as.map V.ref)) : Dp K H (.ref p) (.list (ls.map letD)) := by
  refine .lst hp (dps_of (by rw [List.length_map, h.1]) fun i v c a b => ?_)
  obtain ⟨t, x, rfl, _, hx, hT⟩ := h.get a
  rw [hx] at b
  cases b
  exact .tup hT (.cons (.str _) (.cons (.int _) (.cons (.int _) (.cons (.int _) (.cons (.int _) .nil)))))
/-! ### such data may be compared -/
theorem strOk_nm {l : List Nat} (h : low l) : PyData.strOk (mkS l) = true := by
  unfold PyData.strOk mkS
  rw [Array.all_eq_true]
  intro i hi
  have hm : l[i]'(by simpa using hi) ∈ l := List.getElem_mem _
  have := h _ hm
  simp only [List.getElem_toArray, decide_eq_true_eq]
  omega
def Shp (n : Nat) (d : PyData) : Prop := d.canLay0 = true ∧ d.depth ≤ n
theorem Shp.ok {n : Nat} {d : PyData} (h : Shp n d) (hn : n ≤ 64) : SeqAt.shaped d = true := by
  unfold SeqAt.shaped
  rw [h.1, decide_eq_true (Nat.le_trans h.2 hn)]
  rfl
theorem Shp.up {n m : Nat} {d : PyData} (h : Shp n d) (hn : n ≤ m) : Shp m d := ⟨h.1, Nat.le_trans h.2 hn⟩
theorem shp_all {n : Nat} : ∀ {ds : List PyData}, (∀ d ∈ ds, Shp n d) → PyData.canLayAll0 ds = true ∧ PyData.depthAll ds ≤ n
  | [], _ => ⟨rfl, Nat.zero_le _⟩
  | d :: ds, h => by
    obtain ⟨h1, h2⟩ := shp_all fun d hd => h d (List.mem_cons_of_mem _ hd)
    obtain ⟨g1, g2⟩ := h d List.mem_cons_self
    refine ⟨?_, Nat.max_le.mpr ⟨g2, h2⟩⟩
    show (PyData.canLay0 d && PyData.canLayAll0 ds) = true
    rw [g1, h1]
    rfl
theorem shp_list {n : Nat} {ds : List PyData} (h : ∀ d ∈ ds, Shp n d) : Shp (n + 1) (.list ds) := ⟨(shp_all h).1, Nat.succ_le_succ (shp_all h).2⟩
theorem shp_tup {n : Nat} {ds : List PyData} (h : ∀ d ∈ ds, Shp n d) : Shp (n + 1) (.tuple ds) := ⟨(shp_all h).1, Nat.succ_le_succ (shp_all h).2⟩
theorem shp_int {n : Nat} (i : Int) : Shp n (.int i) := ⟨rfl, Nat.zero_le _⟩
theorem shp_str {n : Nat} {l : List Nat} (h : low l) : Shp n (.str (mkS l)) := ⟨strOk_nm h, Nat.zero_le _⟩
theorem shp_st (o : Option St2) : Shp 1 (stD o) := by
  cases o with
  | none => exact ⟨rfl, Nat.zero_le _⟩
  | some t => exact ⟨rfl, Nat.le_refl _⟩
theorem shp_clk {c : Clk} (h : low c.1) : Shp 2 (clkD c) := by
  refine shp_tup fun d hd => ?_
  rcases List.mem_cons.mp hd with rfl | hd
  · exact shp_str h
  · rw [List.mem_singleton] at hd
    exact hd ▸ shp_st _
theorem shp_clks {cs : List Clk} (h : ∀ c ∈ cs, low c.1) : SeqAt.shaped (clksD cs) = true := Shp.ok (n := 3) (shp_list fun d hd => by
  obtain ⟨c, hc, rfl⟩ := List.mem_map.mp hd
  exact shp_clk (h c hc)) (by decide)
theorem shp_let {x : Let} (h : low x.nm) : Shp 1 (letD x) := by
  refine shp_tup fun d hd => ?_
  rcases List.mem_cons.mp hd with rfl | hd
  · exact shp_str h
  · simp only [List.mem_cons, List.not_mem_nil, or_false] at hd
    rcases hd with rfl | rfl | rfl | rfl <;> exact shp_int _
theorem shp_lets {ls : List Let} (h : ∀ x ∈ ls, low x.nm) : SeqAt.shaped (.list (ls.map letD)) = true := Shp.ok (n := 2) (shp_list fun d hd => by
  obtain ⟨c, hc, rfl⟩ := List.mem_map.mp hd
  exact shp_let (h c hc)) (by decide)
theorem eqv_self {d : PyData} (h : SeqAt.shaped d = true) : PyData.eqv d d = true := SeqAt.eqv_refl d (SeqAt.canLay_of_shaped h)
theorem gath_low {now o : Int} {ls : List Let} (h : ∀ x ∈ ls, x.Ok) : ∀ c ∈ gath now o ls, low c.1 := fun c hc => by
  obtain ⟨n, hn, rfl⟩ := List.mem_map.mp hc
  obtain ⟨x, hx, e⟩ := namesOf_mem.mp hn
  exact e ▸ (h x hx).nm.2.2

def spCommon (K : PySem.W.Frag) : Sp := fun vs H Q _ => ∃ (v : V) (t : Addr) (o : Option St2) (a b : Int), vs = [v, .ref t] ∧ ClV K H v o ∧ SqT K H t [.int a, .int b] ∧
  ∀ (v' : V) (H' : Hp), Same H H' → ClV K H' v' (joinSt o (a, b)) → Q v' H'
def spGathered (K : PySem.W.Frag) (cO cE : Addr) : Sp := fun vs H Q E => ∃ (p : Addr) (as : List Addr) (ls : List Let) (now o : Int), vs = [.ref p, .int now, .int o] ∧ SqL K H p (as.map V.ref) ∧ LetsAt K H as ls ∧ (∀ x ∈ ls, x.Ok) ∧ ls.length ≤ 1000 ∧
  (¬ okOff o → ∀ H', Same H H' → E (.ref cO) none H') ∧
  (okOff o → (∃ x ∈ ls, now < x.b) → ∀ H', Same H H' → E (.ref cE) none H') ∧
  (okOff o → (∀ x ∈ ls, x.b ≤ now) → ∀ (q : Addr) (xs : List V) (H' : Hp), Same H H' → ClksAt K H' xs (gath now o ls) → H' q = some (.lst xs) → H q = none → Q (.ref q) H')
def spLawGathered (K : PySem.W.Frag) : Sp := fun vs H Q _ => ∃ (p : Addr) (as : List Addr) (ls : List Let) (now o : Int), vs = [.ref p, .int now, .int o] ∧ SqL K H p (as.map V.ref) ∧ LetsAt K H as ls ∧ (∀ x ∈ ls, x.Ok) ∧ ls.length ≤ 1000 ∧ okOff o ∧
  ∀ (q : Addr) (xs : List V) (H' : Hp), Same H H' → ClksAt K H' xs (gath now o ls) → H' q = some (.lst xs) → H q = none → Q (.ref q) H'
/-- the dict of the clocks so far -/
def KvAt (K : PySem.W.Frag) (H : Hp) (kvs : List (Key × V)) (cs : List Clk) : Prop := kvs.map (·.1) = cs.map (fun c => (Sum.inr (mkS c.1) : Key)) ∧ ∀ c ∈ cs, ∃ v, valV kvs (Sum.inr (mkS c.1) : Key) = some v ∧ ClV K H v c.2
theorem KvAt.none_of {K : PySem.W.Frag} {H : Hp} {kvs : List (Key × V)} {cs : List Clk} (h : KvAt K H kvs cs) {n : List Nat} (hn : n ∉ cs.map (·.1)) : valV kvs (Sum.inr (mkS n) : Key) = none := by
  cases e : valV kvs (Sum.inr (mkS n) : Key) with
  | none => rfl
  | some v =>
    have m := valV_in e
    rw [h.1] at m
    obtain ⟨c, hc, e2⟩ := List.mem_map.mp m
    exact absurd (List.mem_map.mpr ⟨c, hc, mkS_inj (Sum.inr.inj e2)⟩) hn
theorem valV_at : ∀ {kvs : List (Key × V)} {i : Nat} {k : Key} {v : V}, (kvs.map (·.1)).Nodup → kvs[i]? = some (k, v) → valV kvs k = some v
  | [], i, k, v, _, h => by simp at h
  | p :: r, 0, k, v, _, h => by
    have e : p = (k, v) := Option.some.inj h
    subst e
    exact valV_pos rfl
  | p :: r, i + 1, k, v, hn, h => by
    have hn' := List.nodup_cons.mp hn
    have ih := valV_at (kvs := r) (i := i) hn'.2 h
    rw [valV_neg (fun e => hn'.1 (List.mem_map.mpr ⟨(k, v), List.mem_of_getElem? h, e.symm⟩))]
    exact ih
theorem keysN {cs : List Clk} (h : (cs.map (·.1)).Nodup) : (cs.map fun c => (Sum.inr (mkS c.1) : Key)).Nodup := by
  have e : (cs.map fun c => (Sum.inr (mkS c.1) : Key)) = (cs.map (·.1)).map fun n => (Sum.inr (mkS n) : Key) := by rw [List.map_map]; rfl
  rw [e]
  exact List.pairwise_map.mpr (h.imp fun {a b} hne q => hne (mkS_inj (Sum.inr.inj q)))
theorem gath_names (now o : Int) (ls : List Let) : (gath now o ls).map (·.1) = namesOf ls := by
  unfold gath
  rw [List.map_map]
  exact (List.map_congr_left fun _ _ => rfl).trans (List.map_id _)
theorem KvAt.same {K : PySem.W.Frag} {H H' : Hp} {kvs : List (Key × V)} {cs : List Clk} (h : KvAt K H kvs cs) (s : Same H H') : KvAt K H' kvs cs := ⟨h.1, fun c hc => match h.2 c hc with | ⟨v, e, q⟩ => ⟨v, e, q.same s⟩⟩
theorem KvAt.off {K : PySem.W.Frag} {H : Hp} {d : Addr} {kvs ks : List (Key × V)} {cs : List Clk} {o : HO} (h : KvAt K H kvs cs) (hd : H d = some (.dK ks)) : KvAt K (upd H d o) kvs cs :=
  ⟨h.1, fun c hc => match h.2 c hc with | ⟨v, e, q⟩ => ⟨v, e, q.off hd (fun _ z => nomatch z) (fun _ _ z => nomatch z)⟩⟩
theorem gath_snoc_new {now o : Int} {ls : List Let} {x : Let} (h : x.nm ∉ namesOf ls) : gath now o (ls ++ [x]) = gath now o ls ++ [(x.nm, comb [brSt now o x])] := by
  unfold gath
  rw [namesOf_snoc]
  unfold addN
  rw [if_neg h, List.map_append]
  congr 1
  · refine List.map_congr_left fun n hn => ?_
    unfold clkOf
    rw [stsOf_ne now o ls (fun e => h (e ▸ hn))]
  · show [(x.nm, clkOf now o (ls ++ [x]) x.nm)] = _
    unfold clkOf
    rw [stsOf_eq now o ls rfl, stsOf_nil now o h]
    rfl
theorem gath_snoc_old {now o : Int} {ls : List Let} {x : Let} (h : x.nm ∈ namesOf ls) : gath now o (ls ++ [x]) = (namesOf ls).map fun n => (n, if n = x.nm then joinSt (clkOf now o ls n) (brSt now o x) else clkOf now o ls n) := by
  unfold gath
  rw [namesOf_snoc]
  unfold addN
  rw [if_pos h]
  refine List.map_congr_left fun n hn => ?_
  by_cases e : n = x.nm
  · rw [if_pos e]
    unfold clkOf
    rw [stsOf_eq now o ls e.symm, comb_snoc (stsOf_some now o hn)]
  · rw [if_neg e]
    unfold clkOf
    rw [stsOf_ne now o ls (fun z => e z.symm)]
theorem KvAt.put {K : PySem.W.Frag} {H : Hp} {kvs : List (Key × V)} {now o : Int} {ls : List Let} {x : Let} {v : V} (h : KvAt K H kvs (gath now o ls))
    (hv : ClV K H v (if x.nm ∈ namesOf ls then joinSt (clkOf now o ls x.nm) (brSt now o x) else comb [brSt now o x])) : KvAt K H (putK kvs (Sum.inr (mkS x.nm)) v) (gath now o (ls ++ [x])) := by
  by_cases hm : x.nm ∈ namesOf ls
  · rw [if_pos hm] at hv
    rw [gath_snoc_old hm]
    have hm2 : x.nm ∈ (gath now o ls).map (·.1) := by rw [gath_names]; exact hm
    obtain ⟨c, hc, ec⟩ := List.mem_map.mp hm2
    obtain ⟨v0, e0, _⟩ := h.2 c hc
    rw [ec] at e0
    have hk : (putK kvs (Sum.inr (mkS x.nm) : Key) v).map (·.1) = kvs.map (·.1) := by
      unfold putK
      rw [valV_any, e0, if_pos (show (some v0).isSome = true from rfl), List.map_map]
      refine List.map_congr_left fun p _ => ?_
      show (if p.1 = _ then (p.1, v) else p).1 = p.1
      split <;> rfl
    refine ⟨?_, fun c' hc' => ?_⟩
    · rw [hk, h.1]
      unfold gath
      rw [List.map_map, List.map_map]
      rfl
    · obtain ⟨n, hn, rfl⟩ := List.mem_map.mp hc'
      rw [valV_put]
      by_cases e : n = x.nm
      · refine ⟨v, if_pos (by rw [e]), ?_⟩
        show ClV K H v (if n = x.nm then _ else _)
        rw [if_pos e, e]
        exact hv
      · have ne : ¬ (Sum.inr (mkS n) : Key) = Sum.inr (mkS x.nm) := fun q => e (mkS_inj (Sum.inr.inj q))
        obtain ⟨v1, e1, q1⟩ := h.2 (n, clkOf now o ls n) (List.mem_map.mpr ⟨n, hn, rfl⟩)
        refine ⟨v1, by rw [if_neg ne]; exact e1, ?_⟩
        show ClV K H v1 (if n = x.nm then _ else _)
        rw [if_neg e]
        exact q1
  · rw [if_neg hm] at hv
    rw [gath_snoc_new hm]
    have e0 : valV kvs (Sum.inr (mkS x.nm) : Key) = none := h.none_of (by rw [gath_names]; exact hm)
    rw [putK_new v e0]
    refine ⟨by rw [List.map_append, h.1, List.map_append]; rfl, fun c hc => ?_⟩
    rcases List.mem_append.mp hc with hc | hc
    · obtain ⟨v1, e1, q1⟩ := h.2 c hc
      have ne : ¬ (Sum.inr (mkS c.1) : Key) = Sum.inr (mkS x.nm) := fun q => hm (by rw [← mkS_inj (Sum.inr.inj q), ← gath_names now o ls]; exact List.mem_map.mpr ⟨c, hc, rfl⟩)
      exact ⟨v1, by rw [valV_snoc _ _ _ _ e0, if_neg ne]; exact e1, q1⟩
    · rw [List.mem_singleton] at hc
      subst hc
      exact ⟨v, by rw [valV_snoc _ _ _ _ e0, if_pos rfl], hv⟩
theorem ClksAt.items {K : PySem.W.Frag} {H : Hp} {kvs : List (Key × V)} {ts : List Addr} {now o : Int} {ls : List Let} (h : KvAt K H kvs (gath now o ls)) (ht : Paired (fun (t : Addr) (q : Key × V) => H t = some (.tup [kV q.1, q.2])) ts kvs) : ClksAt K H (ts.map V.ref) (gath now o ls) := by
  have hl : kvs.length = (gath now o ls).length := by
    have e := congrArg List.length h.1
    rwa [List.length_map, List.length_map] at e
  refine ⟨by rw [List.length_map, Paired.length ht, hl], fun i v c a b => ?_⟩
  rw [List.getElem?_map] at a
  cases ea : ts[i]? with
  | none => rw [ea] at a; cases a
  | some t =>
    rw [ea] at a
    cases a
    obtain ⟨⟨k, w⟩, ek, hk⟩ := LiI.paired_get ht ea
    have ekey : k = Sum.inr (mkS c.1) := by
      have e1 : (kvs.map (·.1))[i]? = some k := by rw [List.getElem?_map, ek]; rfl
      rw [h.1, List.getElem?_map, b] at e1
      exact (Option.some.inj e1).symm
    have nd : (kvs.map (·.1)).Nodup := by rw [h.1]; exact keysN (by rw [gath_names]; exact namesOf_nodup ls)
    have ev := valV_at nd ek
    obtain ⟨v1, e1, q1⟩ := h.2 c (List.mem_of_getElem? b)
    rw [← ekey, ev] at e1
    cases e1
    subst ekey
    exact ⟨t, w, rfl, SqT.of hk, q1⟩

/-- stretches as tuples at addresses -/
def StsAt (K : PySem.W.Frag) (H : Hp) (bs : List Addr) (ts : List St2) : Prop := bs.length = ts.length ∧ ∀ (i : Nat) (b : Addr) (t : St2), bs[i]? = some b → ts[i]? = some t → SqT K H b [.int t.1, .int t.2]
theorem StsAt.same {K : PySem.W.Frag} {H H' : Hp} {bs : List Addr} {ts : List St2} (h : StsAt K H bs ts) (s : Same H H') : StsAt K H' bs ts := ⟨h.1, fun i b t x y => Ts.Same.seqT s (h.2 i b t x y)⟩
theorem StsAt.off {K : PySem.W.Frag} {H : Hp} {d : Addr} {bs : List Addr} {ts : List St2} {u o : HO} (h : StsAt K H bs ts) (hd : H d = some u) (n1 : ∀ ys, u ≠ .tup ys) (n2 : ∀ ob ys, u ≠ .frz ob (.tup ys)) : StsAt K (upd H d o) bs ts := ⟨h.1, fun i b t x y => SqT.off (h.2 i b t x y) hd n1 n2⟩
theorem StsAt.nil {K : PySem.W.Frag} {H : Hp} : StsAt K H [] [] := ⟨rfl, fun i b t h _ => by simp at h⟩
theorem StsAt.snoc {K : PySem.W.Frag} {H : Hp} {bs : List Addr} {ts : List St2} {b : Addr} {t : St2} (h : StsAt K H bs ts) (hb : SqT K H b [.int t.1, .int t.2]) : StsAt K H (bs ++ [b]) (ts ++ [t]) := by
  refine ⟨by rw [List.length_append, List.length_append, h.1]; rfl, fun i u y x z => ?_⟩
  by_cases hi : i < bs.length
  · rw [List.getElem?_append_left hi] at x
    rw [List.getElem?_append_left (by rw [← h.1]; exact hi)] at z
    exact h.2 i u y x z
  · have hl := (List.getElem?_eq_some_iff.mp x).1
    rw [List.length_append] at hl
    have e : i = bs.length := by simp at hl; omega
    subst e
    rw [List.getElem?_append_right (Nat.le_refl _), Nat.sub_self] at x
    rw [List.getElem?_append_right (by rw [h.1]; exact Nat.le_refl _), h.1, Nat.sub_self] at z
    cases x
    cases z
    exact hb
theorem StsAt.get {K : PySem.W.Frag} {H : Hp} {bs : List Addr} {ts : List St2} (h : StsAt K H bs ts) {i : Nat} {v : V} (e : (bs.map V.ref)[i]? = some v) : ∃ b t, v = .ref b ∧ ts[i]? = some t ∧ SqT K H b [.int t.1, .int t.2] := by
  rw [List.getElem?_map] at e
  cases eb : bs[i]? with
  | none => rw [eb] at e; cases e
  | some b =>
    rw [eb] at e
    have hi : i < ts.length := by rw [← h.1]; exact (List.getElem?_eq_some_iff.mp eb).1
    exact ⟨b, ts[i], (Option.some.inj e).symm, List.getElem?_eq_getElem hi, h.2 i b _ eb (List.getElem?_eq_getElem hi)⟩
def gathTo (now o : Int) (ls : List Let) (i : Nat) : List Clk := (namesOf (ls.take i)).map fun n => (n, clkOf now o ls n)
theorem stsOf_take {now o : Int} {n : List Nat} {ls : List Let} {i : Nat} {x : Let} (h : ls[i]? = some x) : stsOf now o n (ls.take (i + 1)) = if x.nm = n then stsOf now o n (ls.take i) ++ [brSt now o x] else stsOf now o n (ls.take i) := by
  rw [take_snoc h]
  split
  · rename_i e; exact stsOf_eq now o _ e
  · rename_i e; exact stsOf_ne now o _ e

/-! ### clocks as a list, what they bear -/
def bearsC (t : Int) (c : Clk) : Bool := match c.2 with
  | none => false
  | some s => decide (s.1 ≤ t) && decide (t ≤ s.2)
def manyC (cs : List Clk) (t : Int) : Nat := cs.countP (bearsC t)
def lowsC (cs : List Clk) : List Int := cs.filterMap fun c => c.2.map (·.1)
def edgeC (c : Clk) : List Int := match c.2 with
  | none => []
  | some s => [s.1, s.2 + 1]
def edgesC (cs : List Clk) : List Int := cs.flatMap edgeC
theorem manyC_snoc {cs : List Clk} {c : Clk} {t : Int} : manyC (cs ++ [c]) t = manyC cs t + (if bearsC t c = true then 1 else 0) := by
  unfold manyC
  rw [List.countP_append, List.countP_singleton]
theorem manyC_le {cs : List Clk} {t : Int} : manyC cs t ≤ cs.length := List.countP_le_length
/-- the clocks of a law: names of small letters, no stretch that falls -/
structure ClksOk (cs : List Clk) : Prop where
  nm : ∀ c ∈ cs, nmOk c.1
  st : ∀ c ∈ cs, ∀ s : St2, c.2 = some s → s.1 ≤ s.2
  nd : (cs.map (·.1)).Nodup
def spMany (K : PySem.W.Frag) : Sp := fun vs H Q _ => ∃ (q : Addr) (xs : List V) (cs : List Clk) (t : Int), vs = [.ref q, .int t] ∧ SqL K H q xs ∧ ClksAt K H xs cs ∧ Q (.int (manyC cs t)) H
def spLows (K : PySem.W.Frag) : Sp := fun vs H Q _ => ∃ (q : Addr) (xs : List V) (cs : List Clk), vs = [.ref q] ∧ SqL K H q xs ∧ ClksAt K H xs cs ∧ cs.length ≤ 1000 ∧ ∀ (p : Addr) (H' : Hp), Same H H' → H p = none → H' p = some (.lst ((lowsC cs).map V.int)) → Q (.ref p) H'
def spEdges (K : PySem.W.Frag) : Sp := fun vs H Q _ => ∃ (q : Addr) (xs : List V) (cs : List Clk), vs = [.ref q] ∧ SqL K H q xs ∧ ClksAt K H xs cs ∧ cs.length ≤ 1000 ∧ ∀ (p : Addr) (H' : Hp), Same H H' → H p = none → H' p = some (.lst ((edgesC cs).map V.int)) → Q (.ref p) H'
def spClocks (K : PySem.W.Frag) : Sp := fun vs H Q _ => ∃ (l : Addr) (ns : List Int), vs = [.ref l] ∧ SqL K H l (ns.map V.int) ∧ ns.length ≤ 63 ∧
  ∀ (q : Addr) (xs : List V) (cs : List Clk) (H' : Hp), Same H H' → H q = none → H' q = some (.lst xs) → ClksAt K H' xs cs → cs.length ≤ 40 → ClksOk cs → Q (.ref q) H'
def spPoint (K : PySem.W.Frag) : Sp := fun vs H Q _ => ∃ (l q : Addr) (ns : List Int) (xs : List V) (cs : List Clk), vs = [.ref l, .ref q] ∧ SqL K H l (ns.map V.int) ∧ SqL K H q xs ∧ ClksAt K H xs cs ∧ cs.length ≤ 1000 ∧ ∀ (t : Int) (H' : Hp), Same H H' → Q (.int t) H'
def stsD (ts : List St2) : PyData := .list (ts.map fun t => .tuple [.int t.1, .int t.2])
theorem StsAt.dp {K : PySem.W.Frag} {H : Hp} {p : Addr} {bs : List Addr} {ts : List St2} (h : StsAt K H bs ts) (hp : SqL K H p (bs.map V.ref)) : Dp K H (.ref p) (stsD ts) := by
  refine .lst hp (dps_of (by rw [List.length_map, h.1]) fun i v c a b => ?_)
  obtain ⟨b', t, rfl, ht, hT⟩ := h.get a
  rw [ht] at b
  cases b
  exact .tup hT (.cons (.int _) (.cons (.int _) .nil))
theorem shp_sts (ts : List St2) : SeqAt.shaped (stsD ts) = true := Shp.ok (n := 2) (shp_list fun d hd => by
  obtain ⟨t, _, rfl⟩ := List.mem_map.mp hd
  exact ⟨rfl, Nat.le_refl _⟩) (by decide)

def bearersC (cs : List Clk) (t : Int) : List (List Nat) := (cs.filter (bearsC t)).map (·.1)
theorem bearersC_snoc {cs : List Clk} {c : Clk} {t : Int} : bearersC (cs ++ [c]) t = bearersC cs t ++ (if bearsC t c = true then [c.1] else []) := by
  unfold bearersC
  rw [List.filter_append, List.map_append]
  congr 1
  by_cases h : bearsC t c = true
  · rw [if_pos h, List.filter_cons_of_pos h]
    rfl
  · rw [if_neg h, List.filter_cons_of_neg h]
    rfl
theorem bearersC_len {cs : List Clk} {t : Int} : (bearersC cs t).length ≤ cs.length := by
  unfold bearersC
  rw [List.length_map]
  exact List.length_filter_le _ _
theorem bearersC_low {cs : List Clk} {t : Int} (h : ∀ c ∈ cs, nmOk c.1) : ∀ z ∈ bearersC cs t, low z := fun z hz => by
  obtain ⟨c, hc, rfl⟩ := List.mem_map.mp hz
  exact (h c (List.mem_filter.mp hc).1).2.2
def nmsD (l : List (List Nat)) : PyData := .list (l.map fun z => .str (mkS z))
theorem dp_txs {K : PySem.W.Frag} {H : Hp} : ∀ l : List (List Nat), DpAll K H (txs l) (l.map fun z => PyData.str (mkS z))
  | [] => .nil
  | _ :: l => .cons (.str _) (dp_txs l)
theorem shp_nms {l : List (List Nat)} (h : ∀ z ∈ l, low z) : SeqAt.shaped (nmsD l) = true := Shp.ok (n := 1) (shp_list fun d hd => by
  obtain ⟨z, hz, rfl⟩ := List.mem_map.mp hd
  exact shp_str (h z hz)) (by decide)
/-- w is the least of the lows of some clocks that m of all bear, m the most that bear one of these -/
def FewTo (cs part : List Clk) (m : Nat) (w : V) : Prop := (∀ l ∈ lowsC part, manyC cs l ≤ m) ∧ ((m = 0 ∧ w = .non) ∨ (0 < m ∧ ∃ l ∈ lowsC part, manyC cs l = m ∧ w = .int l ∧ ∀ l' ∈ lowsC part, manyC cs l' = m → l ≤ l'))
def FewAt (cs : List Clk) (m : Nat) (w : V) : Prop := FewTo cs cs m w
theorem lowsC_none {cs : List Clk} {n : List Nat} : lowsC (cs ++ [(n, none)]) = lowsC cs := by
  unfold lowsC
  rw [List.filterMap_append]
  simp
theorem lowsC_some {cs : List Clk} {n : List Nat} {st : St2} : lowsC (cs ++ [(n, some st)]) = lowsC cs ++ [st.1] := by
  unfold lowsC
  rw [List.filterMap_append]
  rfl
theorem bearersC_count {cs : List Clk} {t : Int} : (txs (bearersC cs t)).length = manyC cs t := by
  unfold txs bearersC manyC
  rw [List.length_map, List.length_map, List.countP_eq_length_filter]
theorem many_pos {cs : List Clk} {c : Clk} {st : St2} (hc : c ∈ cs) (e : c.2 = some st) (h : st.1 ≤ st.2) : 0 < manyC cs st.1 := by
  refine List.countP_pos_iff.mpr ⟨c, hc, ?_⟩
  unfold bearsC
  rw [e]
  show (decide (st.1 ≤ st.1) && decide (st.1 ≤ st.2)) = true
  rw [decide_eq_true (Int.le_refl _), decide_eq_true h]
  rfl
def spBears (K : PySem.W.Frag) : Sp := fun vs H Q _ => ∃ (w : V) (o : Option St2) (t : Int), vs = [w, .int t] ∧ ClV K H w o ∧ Q (.bl (bearsC t ([], o))) H
def spBearers (K : PySem.W.Frag) : Sp := fun vs H Q _ => ∃ (q : Addr) (xs : List V) (cs : List Clk) (t : Int), vs = [.ref q, .int t] ∧ SqL K H q xs ∧ ClksAt K H xs cs ∧ cs.length ≤ 1000 ∧
  ∀ (p : Addr) (H' : Hp), Same H H' → H p = none → H' p = some (.lst (txs (bearersC cs t))) → Q (.ref p) H'
def spFewest (K : PySem.W.Frag) : Sp := fun vs H Q _ => ∃ (q : Addr) (xs : List V) (cs : List Clk), vs = [.ref q] ∧ SqL K H q xs ∧ ClksAt K H xs cs ∧ cs.length ≤ 1000 ∧ ClksOk cs ∧
  ∀ (p : Addr) (m : Nat) (w : V) (H' : Hp), FewAt cs m w → Same H H' → H p = none → H' p = some (.tup [.int ((cs.length : Int) - (m : Int)), w]) → Q (.ref p) H'

/-- the stretches of all times that at least need clocks bear -/
structure PartsOf (cs : List Clk) (need : Int) (ts : List St2) : Prop where
  le : ∀ t ∈ ts, t.1 ≤ t.2
  gap : ts.Pairwise fun a b => a.2 + 1 < b.1
  cov : ∀ x : Int, need ≤ (manyC cs x : Int) ↔ ∃ t ∈ ts, t.1 ≤ x ∧ x ≤ t.2
theorem PartsOf.next {cs : List Clk} {need : Int} {ts : List St2} (h : PartsOf cs need ts) {i j : Nat} {a b : St2} (ha : ts[i]? = some a) (hb : ts[j]? = some b) (hij : i < j) : a.2 + 1 < b.1 := by
  obtain ⟨h1, rfl⟩ := List.getElem?_eq_some_iff.mp ha
  obtain ⟨h2, rfl⟩ := List.getElem?_eq_some_iff.mp hb
  exact List.pairwise_iff_getElem.mp h.gap i j h1 h2 hij
theorem PartsOf.apart {cs : List Clk} {need : Int} {ts : List St2} (h : PartsOf cs need ts) {a b : St2} (ha : a ∈ ts) (hb : b ∈ ts) : a = b ∨ a.2 + 1 < b.1 ∨ b.2 + 1 < a.1 := by
  obtain ⟨i, hi⟩ := List.getElem?_of_mem ha
  obtain ⟨j, hj⟩ := List.getElem?_of_mem hb
  rcases Nat.lt_trichotomy i j with z | z | z
  · exact .inr (.inl (h.next hi hj z))
  · subst z
    rw [hi] at hj
    exact .inl (Option.some.inj hj)
  · exact .inr (.inr (h.next hj hi z))
theorem PartsOf.below {cs : List Clk} {need : Int} {ts : List St2} (h : PartsOf cs need ts) {a : St2} (ha : a ∈ ts) : (manyC cs (a.1 - 1) : Int) < need := by
  refine Int.not_le.mp fun z => ?_
  obtain ⟨b, hb, h1, h2⟩ := (h.cov _).mp z
  have := h.le a ha
  have := h.le b hb
  rcases h.apart ha hb with e | e | e
  · subst e; omega
  · omega
  · omega
theorem PartsOf.above {cs : List Clk} {need : Int} {ts : List St2} (h : PartsOf cs need ts) {a : St2} (ha : a ∈ ts) : (manyC cs (a.2 + 1) : Int) < need := by
  refine Int.not_le.mp fun z => ?_
  obtain ⟨b, hb, h1, h2⟩ := (h.cov _).mp z
  have := h.le a ha
  have := h.le b hb
  rcases h.apart ha hb with e | e | e
  · subst e; omega
  · omega
  · omega
/-- there is but one such list -/
theorem gaps_one : ∀ {ts us : List St2}, (∀ t ∈ ts, t.1 ≤ t.2) → (∀ t ∈ us, t.1 ≤ t.2) → ts.Pairwise (fun a b => a.2 + 1 < b.1) → us.Pairwise (fun a b => a.2 + 1 < b.1) → (∀ x : Int, (∃ t ∈ ts, t.1 ≤ x ∧ x ≤ t.2) ↔ ∃ t ∈ us, t.1 ≤ x ∧ x ≤ t.2) → ts = us
  | [], [], _, _, _, _, _ => rfl
  | [], u :: us, _, lu, _, _, h => by
    obtain ⟨t, ht, _⟩ := (h u.1).mpr ⟨u, List.mem_cons_self, Int.le_refl _, lu u List.mem_cons_self⟩
    cases ht
  | t :: ts, [], lt, _, _, _, h => by
    obtain ⟨u, hu, _⟩ := (h t.1).mp ⟨t, List.mem_cons_self, Int.le_refl _, lt t List.mem_cons_self⟩
    cases hu
  | t :: ts, u :: us, lt, lu, gt, gu, h => by
    have l1 := lt t List.mem_cons_self
    have l2 := lu u List.mem_cons_self
    obtain ⟨g1, g2⟩ := List.pairwise_cons.mp gt
    obtain ⟨g3, g4⟩ := List.pairwise_cons.mp gu
    have a1 : u.1 ≤ t.1 := by
      obtain ⟨v, hv, h1, h2⟩ := (h t.1).mp ⟨t, List.mem_cons_self, Int.le_refl _, l1⟩
      rcases List.mem_cons.mp hv with e | e
      · rw [← e]; exact h1
      · have := g3 v e; omega
    have a2 : t.1 ≤ u.1 := by
      obtain ⟨v, hv, h1, h2⟩ := (h u.1).mpr ⟨u, List.mem_cons_self, Int.le_refl _, l2⟩
      rcases List.mem_cons.mp hv with e | e
      · rw [← e]; exact h1
      · have := g1 v e; omega
    have a3 : u.2 ≤ t.2 := by
      refine Int.not_lt.mp fun z => ?_
      obtain ⟨v, hv, h1, h2⟩ := (h (t.2 + 1)).mpr ⟨u, List.mem_cons_self, by omega, by omega⟩
      rcases List.mem_cons.mp hv with e | e
      · rw [e] at h2; omega
      · have := g1 v e; omega
    have a4 : t.2 ≤ u.2 := by
      refine Int.not_lt.mp fun z => ?_
      obtain ⟨v, hv, h1, h2⟩ := (h (u.2 + 1)).mp ⟨t, List.mem_cons_self, by omega, by omega⟩
      rcases List.mem_cons.mp hv with e | e
      · rw [e] at h2; omega
      · have := g3 v e; omega
    have e : t = u := Prod.ext (by omega) (by omega)
    subst e
    congr 1
    refine gaps_one (fun v hv => lt v (List.mem_cons_of_mem _ hv)) (fun v hv => lu v (List.mem_cons_of_mem _ hv)) g2 g4 fun x => ?_
    constructor
    · rintro ⟨v, hv, h1, h2⟩
      obtain ⟨v', hv', h3, h4⟩ := (h x).mp ⟨v, List.mem_cons_of_mem _ hv, h1, h2⟩
      rcases List.mem_cons.mp hv' with e | e
      · have := g1 v hv
        rw [e] at h4
        omega
      · exact ⟨v', e, h3, h4⟩
    · rintro ⟨v, hv, h1, h2⟩
      obtain ⟨v', hv', h3, h4⟩ := (h x).mpr ⟨v, List.mem_cons_of_mem _ hv, h1, h2⟩
      rcases List.mem_cons.mp hv' with e | e
      · have := g3 v hv
        rw [e] at h4
        omega
      · exact ⟨v', e, h3, h4⟩
theorem PartsOf.one {cs : List Clk} {need : Int} {ts us : List St2} (h : PartsOf cs need ts) (g : PartsOf cs need us) : ts = us := gaps_one h.le g.le h.gap g.gap fun x => (h.cov x).symm.trans (g.cov x)
theorem edgesC_none {cs : List Clk} {n : List Nat} : edgesC (cs ++ [(n, none)]) = edgesC cs := by
  unfold edgesC
  rw [List.flatMap_append]
  simp [edgeC]
theorem edgesC_some {cs : List Clk} {n : List Nat} {st : St2} : edgesC (cs ++ [(n, some st)]) = edgesC cs ++ [st.1, st.2 + 1] := by
  unfold edgesC
  rw [List.flatMap_append]
  simp [edgeC]
theorem edgesC_len : ∀ cs : List Clk, (edgesC cs).length ≤ 2 * cs.length
  | [] => Nat.le_refl _
  | (n, none) :: cs => by
    have := edgesC_len cs
    show (edgesC cs).length ≤ 2 * (cs.length + 1)
    omega
  | (n, some st) :: cs => by
    have := edgesC_len cs
    show (st.1 :: (st.2 + 1) :: edgesC cs).length ≤ 2 * (cs.length + 1)
    simp only [List.length_cons]
    omega
def inSt (x : Int) (t : St2) : Bool := decide (t.1 ≤ x) && decide (x ≤ t.2)
theorem PartsOf.held {cs : List Clk} {need : Int} {ts : List St2} (h : PartsOf cs need ts) (x : Int) : (!PyData.eqv (stsD (ts.filter (inSt x))) (.list [])) = decide ((manyC cs x : Int) ≥ need) := by
  by_cases z : need ≤ (manyC cs x : Int)
  · rw [decide_eq_true (show (manyC cs x : Int) ≥ need from z)]
    obtain ⟨t, ht, h1, h2⟩ := (h.cov x).mp z
    have hm : t ∈ ts.filter (inSt x) := List.mem_filter.mpr ⟨ht, by unfold inSt; rw [decide_eq_true h1, decide_eq_true h2]; rfl⟩
    cases e : ts.filter (inSt x) with
    | nil => rw [e] at hm; cases hm
    | cons a l => rfl
  · rw [decide_eq_false (show ¬ (manyC cs x : Int) ≥ need from z)]
    have e : ts.filter (inSt x) = [] := List.filter_eq_nil_iff.mpr fun t ht hb => z ((h.cov x).mpr ⟨t, ht, by
      unfold inSt at hb
      simpa using hb⟩)
    rw [e]
    rfl
def spParts (K : PySem.W.Frag) : Sp := fun vs H Q _ => ∃ (q : Addr) (xs : List V) (cs : List Clk) (need : Int), vs = [.ref q, .int need] ∧ SqL K H q xs ∧ ClksAt K H xs cs ∧ cs.length ≤ 1000 ∧ ClksOk cs ∧ 1 ≤ need ∧
  ∀ (p : Addr) (bs : List Addr) (ts : List St2) (H' : Hp), PartsOf cs need ts → ts.length ≤ 2000 → Same H H' → H p = none → H' p = some (.lst (bs.map V.ref)) → StsAt K H' bs ts → Q (.ref p) H'
def spPartsRight (K : PySem.W.Frag) : Sp := fun vs H Q _ => ∃ (q pf : Addr) (need : Int) (xs : List V) (cs : List Clk) (bs : List Addr) (ts : List St2), vs = [.ref q, .int need, .ref pf] ∧ SqL K H q xs ∧ ClksAt K H xs cs ∧ cs.length ≤ 1000 ∧
  H pf = some (.lst (bs.map V.ref)) ∧ StsAt K H bs ts ∧ ts.length ≤ 2000 ∧ PartsOf cs need ts ∧ ∀ H', Same H H' → Q (.bl true) H'

/-! ### the turns of clocks -/
def dl1 (c : Clk) (x : Int) : Int := match c.2 with
  | none => 0
  | some s => (if s.1 = x then 1 else 0) - (if s.2 + 1 = x then 1 else 0)
def dl : List Clk → Int → Int
  | [], _ => 0
  | c :: cs, x => dl1 c x + dl cs x
theorem dl_snoc {c : Clk} {x : Int} : ∀ cs : List Clk, dl (cs ++ [c]) x = dl cs x + dl1 c x
  | [] => by
    show dl1 c x + 0 = 0 + dl1 c x
    omega
  | d :: cs => by
    show dl1 d x + dl (cs ++ [c]) x = dl1 d x + dl cs x + dl1 c x
    rw [dl_snoc cs, Int.add_assoc]
theorem manyC_cons {c : Clk} {cs : List Clk} {t : Int} : manyC (c :: cs) t = (if bearsC t c = true then 1 else 0) + manyC cs t := by
  unfold manyC
  rw [List.countP_cons, Nat.add_comm]
theorem bears_step {c : Clk} {x : Int} (h : ∀ s : St2, c.2 = some s → s.1 ≤ s.2) : (((if bearsC x c = true then 1 else 0 : Nat)) : Int) = (((if bearsC (x - 1) c = true then 1 else 0 : Nat)) : Int) + dl1 c x := by
  obtain ⟨n, o⟩ := c
  cases o with
  | none => rfl
  | some s =>
    have hs := h s rfl
    unfold bearsC dl1
    simp only [Bool.and_eq_true, decide_eq_true_eq]
    repeat' split
    all_goals omega
theorem manyC_step (x : Int) : ∀ {cs : List Clk}, (∀ c ∈ cs, ∀ s : St2, c.2 = some s → s.1 ≤ s.2) → (manyC cs x : Int) = (manyC cs (x - 1) : Int) + dl cs x
  | [], _ => rfl
  | c :: cs, h => by
    have ih := manyC_step x (cs := cs) fun d hd => h d (List.mem_cons_of_mem _ hd)
    have hc := bears_step (x := x) (h c List.mem_cons_self)
    rw [manyC_cons, manyC_cons]
    show _ = _ + (dl1 c x + dl cs x)
    generalize (if bearsC x c = true then 1 else 0 : Nat) = a at hc ⊢
    generalize (if bearsC (x - 1) c = true then 1 else 0 : Nat) = b at hc ⊢
    omega
theorem edge_lo {cs : List Clk} {c : Clk} {s : St2} (hc : c ∈ cs) (e : c.2 = some s) : s.1 ∈ edgesC cs ∧ s.2 + 1 ∈ edgesC cs := by
  have h : edgeC c = [s.1, s.2 + 1] := by unfold edgeC; rw [e]
  constructor
  · exact List.mem_flatMap.mpr ⟨c, hc, by rw [h]; exact List.mem_cons_self⟩
  · exact List.mem_flatMap.mpr ⟨c, hc, by rw [h]; exact List.mem_cons_of_mem _ List.mem_cons_self⟩
theorem bears_iff {c : Clk} {x : Int} : bearsC x c = true ↔ ∃ s, c.2 = some s ∧ s.1 ≤ x ∧ x ≤ s.2 := by
  unfold bearsC
  cases e : c.2 with
  | none => simp
  | some s => simp
theorem manyC_const {cs : List Clk} {x y : Int} (hxy : x ≤ y) (h : ∀ e ∈ edgesC cs, e ≤ x ∨ y < e) : manyC cs x = manyC cs y := by
  refine List.countP_congr fun c hc => ?_
  rw [bears_iff, bears_iff]
  constructor
  · rintro ⟨s, e, h1, h2⟩
    obtain ⟨q1, q2⟩ := edge_lo hc e
    have a1 := h _ q1
    have a2 := h _ q2
    exact ⟨s, e, by omega, by omega⟩
  · rintro ⟨s, e, h1, h2⟩
    obtain ⟨q1, q2⟩ := edge_lo hc e
    have a1 := h _ q1
    have a2 := h _ q2
    exact ⟨s, e, by omega, by omega⟩
theorem manyC_low {cs : List Clk} {x : Int} (h : ∀ e ∈ edgesC cs, x < e) : manyC cs x = 0 := by
  refine List.countP_eq_zero.mpr fun c hc hb => ?_
  obtain ⟨s, e, h1, h2⟩ := bears_iff.mp hb
  have := h _ (edge_lo hc e).1
  omega
theorem manyC_high {cs : List Clk} {x : Int} (h : ∀ e ∈ edgesC cs, e ≤ x) : manyC cs x = 0 := by
  refine List.countP_eq_zero.mpr fun c hc hb => ?_
  obtain ⟨s, e, h1, h2⟩ := bears_iff.mp hb
  have := h _ (edge_lo hc e).2
  omega
theorem top_of : ∀ l : List Int, ∃ b : Int, ∀ x ∈ l, x ≤ b
  | [] => ⟨0, fun _ h => nomatch h⟩
  | a :: l => by
    obtain ⟨b, h⟩ := top_of l
    refine ⟨max a b, fun x hx => ?_⟩
    rcases List.mem_cons.mp hx with e | e
    · omega
    · have := h x e; omega
theorem most_of : ∀ {l : List Int} {a : Int}, a ∈ l → ∃ b ∈ l, ∀ x ∈ l, x ≤ b
  | [], _, h => nomatch h
  | [c], _, _ => ⟨c, List.mem_cons_self, fun x hx => by rw [List.mem_singleton.mp hx]; exact Int.le_refl _⟩
  | c :: d :: l, _, _ => by
    obtain ⟨b, hb, h⟩ := most_of (l := d :: l) (a := d) List.mem_cons_self
    by_cases q : b ≤ c
    · refine ⟨c, List.mem_cons_self, fun x hx => ?_⟩
      rcases List.mem_cons.mp hx with e | e
      · rw [e]; exact Int.le_refl _
      · have := h x e; omega
    · refine ⟨b, List.mem_cons_of_mem _ hb, fun x hx => ?_⟩
      rcases List.mem_cons.mp hx with e | e
      · omega
      · exact h x e
/-- the turns told, rising: each time at which it may change how many bear it, with how many do -/
structure TalOf (cs : List Clk) (L : List (Int × Int)) : Prop where
  rise : L.Pairwise fun a b => a.1 < b.1
  val : ∀ e ∈ L, e.2 = (manyC cs e.1 : Int)
  pts : ∀ x, (∃ e ∈ L, e.1 = x) ↔ x ∈ edgesC cs
theorem TalOf.next {cs : List Clk} {L : List (Int × Int)} (h : TalOf cs L) {i j : Nat} {a b : Int × Int} (ha : L[i]? = some a) (hb : L[j]? = some b) (hij : i < j) : a.1 < b.1 := by
  obtain ⟨h1, rfl⟩ := List.getElem?_eq_some_iff.mp ha
  obtain ⟨h2, rfl⟩ := List.getElem?_eq_some_iff.mp hb
  exact List.pairwise_iff_getElem.mp h.rise i j h1 h2 hij
/-- from a turn to the next one it stays -/
theorem TalOf.stay {cs : List Clk} {L : List (Int × Int)} (h : TalOf cs L) {i : Nat} {a : Int × Int} (ha : L[i]? = some a) {x : Int} (hx : a.1 ≤ x) (hn : ∀ (j : Nat) (e : Int × Int), i + 1 ≤ j → L[j]? = some e → x < e.1) : (manyC cs x : Int) = a.2 := by
  rw [h.val a (List.mem_of_getElem? ha)]
  congr 1
  refine (manyC_const hx fun e he => ?_).symm
  obtain ⟨b, hb, rfl⟩ := (h.pts e).mpr he
  obtain ⟨j, hj⟩ := List.getElem?_of_mem hb
  rcases Nat.lt_trichotomy i j with z | z | z
  · exact .inr (hn j b z hj)
  · subst z
    rw [ha] at hj
    cases hj
    exact .inl (Int.le_refl _)
  · exact .inl (Int.le_of_lt (h.next hj ha z))
/-- the stretches told ahead of the i-th turn, and the one begun -/
structure PIn (cs : List Clk) (need : Int) (L : List (Int × Int)) (i : Nat) (ts : List St2) (o : Option Int) : Prop where
  le : ∀ t ∈ ts, t.1 ≤ t.2
  gap : ts.Pairwise fun a b => a.2 + 1 < b.1
  far : ∀ t ∈ ts, ∀ (j : Nat) (e : Int × Int), i ≤ j → L[j]? = some e → t.2 + 1 < e.1
  st : ∀ s, o = some s → (∀ t ∈ ts, t.2 + 1 < s) ∧ ∀ (j : Nat) (e : Int × Int), i ≤ j → L[j]? = some e → s < e.1
  cov : ∀ x : Int, (∀ (j : Nat) (e : Int × Int), i ≤ j → L[j]? = some e → x < e.1) → (need ≤ (manyC cs x : Int) ↔ (∃ t ∈ ts, t.1 ≤ x ∧ x ≤ t.2) ∨ ∃ s, o = some s ∧ s ≤ x)
section
variable {cs : List Clk} {need : Int} {L : List (Int × Int)} {i : Nat} {ts : List St2} {o : Option Int} {p m s : Int}
theorem PIn.zero (h : TalOf cs L) (hn : 1 ≤ need) : PIn cs need L 0 [] none where
  le := fun _ h => nomatch h
  gap := List.Pairwise.nil
  far := fun _ h => nomatch h
  st := fun _ h => nomatch h
  cov := fun x hx => by
    have e : manyC cs x = 0 := manyC_low fun e he => by
      obtain ⟨b, hb, rfl⟩ := (h.pts e).mpr he
      obtain ⟨j, hj⟩ := List.getElem?_of_mem hb
      exact hx j b (Nat.zero_le _) hj
    rw [e]
    constructor
    · intro z; exfalso; omega
    · rintro (⟨t, ht, _⟩ | ⟨s, hs, _⟩)
      · cases ht
      · cases hs
/-- x ahead of the turn p: as before; from p on: m bear it -/
theorem TalOf.cases (T : TalOf cs L) (hi : L[i]? = some (p, m)) {x : Int} (hx : ∀ (j : Nat) (e : Int × Int), i + 1 ≤ j → L[j]? = some e → x < e.1) :
    (x < p ∧ ∀ (j : Nat) (e : Int × Int), i ≤ j → L[j]? = some e → x < e.1) ∨ (p ≤ x ∧ (manyC cs x : Int) = m) := by
  by_cases h : x < p
  · refine .inl ⟨h, fun j e hj he => ?_⟩
    by_cases z : i = j
    · subst z
      rw [hi] at he
      cases he
      exact h
    · exact hx j e (by omega) he
  · exact .inr ⟨by omega, T.stay hi (by show p ≤ x; omega) hx⟩
theorem PIn.begin (h : PIn cs need L i ts none) (T : TalOf cs L) (hi : L[i]? = some (p, m)) (hm : need ≤ m) : PIn cs need L (i + 1) ts (some p) where
  le := h.le
  gap := h.gap
  far := fun t ht j e hj he => h.far t ht j e (by omega) he
  st := fun s hs => by
    cases hs
    exact ⟨fun t ht => h.far t ht i _ (Nat.le_refl _) hi, fun j e hj he => T.next hi he hj⟩
  cov := fun x hx => by
    rcases T.cases hi hx with ⟨hp, ha⟩ | ⟨hp, ha⟩
    · rw [h.cov x ha]
      constructor
      · rintro (q | ⟨s, hs, _⟩)
        · exact .inl q
        · cases hs
      · rintro (q | ⟨s, hs, q⟩)
        · exact .inl q
        · cases hs
          exfalso; omega
    · rw [ha]
      exact ⟨fun _ => .inr ⟨p, rfl, hp⟩, fun _ => hm⟩
theorem PIn.close (h : PIn cs need L i ts (some s)) (T : TalOf cs L) (hi : L[i]? = some (p, m)) (hm : m < need) : PIn cs need L (i + 1) (ts ++ [(s, p - 1)]) none where
  le := fun t ht => by
    rcases List.mem_append.mp ht with ht | ht
    · exact h.le t ht
    · rw [List.mem_singleton.mp ht]
      have := (h.st s rfl).2 i _ (Nat.le_refl _) hi
      show s ≤ p - 1
      simp only at this
      omega
  gap := List.pairwise_append.mpr ⟨h.gap, List.pairwise_singleton _ _, fun a ha b hb => by
    rw [List.mem_singleton.mp hb]
    exact (h.st s rfl).1 a ha⟩
  far := fun t ht j e hj he => by
    rcases List.mem_append.mp ht with ht | ht
    · exact h.far t ht j e (by omega) he
    · rw [List.mem_singleton.mp ht]
      have := T.next hi he hj
      show p - 1 + 1 < e.1
      simp only at this
      omega
  st := fun s hs => nomatch hs
  cov := fun x hx => by
    rcases T.cases hi hx with ⟨hp, ha⟩ | ⟨hp, ha⟩
    · rw [h.cov x ha]
      constructor
      · rintro (⟨t, ht, q⟩ | ⟨s', hs, q⟩)
        · exact .inl ⟨t, List.mem_append_left _ ht, q⟩
        · cases hs
          exact .inl ⟨(s, p - 1), List.mem_append_right _ List.mem_cons_self, q, by show x ≤ p - 1; omega⟩
      · rintro (⟨t, ht, q1, q2⟩ | ⟨s', hs, q⟩)
        · rcases List.mem_append.mp ht with ht | ht
          · exact .inl ⟨t, ht, q1, q2⟩
          · rw [List.mem_singleton.mp ht] at q1 q2
            exact .inr ⟨s, rfl, q1⟩
        · cases hs
    · rw [ha]
      constructor
      · intro z; exfalso; omega
      · rintro (⟨t, ht, q1, q2⟩ | ⟨s', hs, q⟩)
        · rcases List.mem_append.mp ht with ht | ht
          · have := h.far t ht i _ (Nat.le_refl _) hi
            simp only at this
            exfalso; omega
          · rw [List.mem_singleton.mp ht] at q1 q2
            simp only at q1 q2
            exfalso; omega
        · cases hs
theorem PIn.out (h : PIn cs need L i ts none) (T : TalOf cs L) (hi : L[i]? = some (p, m)) (hm : m < need) : PIn cs need L (i + 1) ts none where
  le := h.le
  gap := h.gap
  far := fun t ht j e hj he => h.far t ht j e (by omega) he
  st := fun s hs => nomatch hs
  cov := fun x hx => by
    rcases T.cases hi hx with ⟨hp, ha⟩ | ⟨hp, ha⟩
    · exact h.cov x ha
    · rw [ha]
      constructor
      · intro z; exfalso; omega
      · rintro (⟨t, ht, q1, q2⟩ | ⟨s', hs, q⟩)
        · have := h.far t ht i _ (Nat.le_refl _) hi
          simp only at this
          exfalso; omega
        · cases hs
theorem PIn.on (h : PIn cs need L i ts (some s)) (T : TalOf cs L) (hi : L[i]? = some (p, m)) (hm : need ≤ m) : PIn cs need L (i + 1) ts (some s) where
  le := h.le
  gap := h.gap
  far := fun t ht j e hj he => h.far t ht j e (by omega) he
  st := fun s' hs => by
    cases hs
    exact ⟨(h.st s rfl).1, fun j e hj he => (h.st s rfl).2 j e (by omega) he⟩
  cov := fun x hx => by
    rcases T.cases hi hx with ⟨hp, ha⟩ | ⟨hp, ha⟩
    · exact h.cov x ha
    · rw [ha]
      have := (h.st s rfl).2 i _ (Nat.le_refl _) hi
      simp only at this
      exact ⟨fun _ => .inr ⟨s, rfl, by omega⟩, fun _ => hm⟩
theorem PIn.done (h : PIn cs need L L.length ts o) (T : TalOf cs L) (hn : 1 ≤ need) : PartsOf cs need ts := by
  have no : ∀ x : Int, ∀ (j : Nat) (e : Int × Int), L.length ≤ j → L[j]? = some e → x < e.1 := fun x j e hj he => absurd (List.getElem?_eq_some_iff.mp he).1 (by omega)
  have eo : o = none := by
    cases o with
    | none => rfl
    | some s =>
      obtain ⟨b, hb⟩ := top_of (edgesC cs)
      have z : manyC cs (max b s) = 0 := manyC_high fun e he => by have := hb e he; omega
      have q := (h.cov (max b s) (no _)).mpr (.inr ⟨s, rfl, by omega⟩)
      rw [z] at q
      exfalso; omega
  subst eo
  refine ⟨h.le, h.gap, fun x => ?_⟩
  rw [h.cov x (no x)]
  constructor
  · rintro (q | ⟨s, hs, _⟩)
    · exact q
    · cases hs
  · exact .inl
end
/-- the times of turns, in the order of numbers -/
theorem tal_mk {cs : List Clk} {ps : List Int} (hok : ∀ c ∈ cs, ∀ s : St2, c.2 = some s → s.1 ≤ s.2) (hm : ∀ x, x ∈ ps ↔ x ∈ edgesC cs) (hs : ps.Pairwise (· < ·)) : TalOf cs (ps.map fun p => (p, (manyC cs p : Int))) where
  rise := List.pairwise_map.mpr hs
  val := fun e he => by
    obtain ⟨p, _, rfl⟩ := List.mem_map.mp he
    rfl
  pts := fun x => by
    rw [← hm]
    constructor
    · rintro ⟨e, he, rfl⟩
      obtain ⟨p, hp, rfl⟩ := List.mem_map.mp he
      exact hp
    · exact fun h => ⟨_, List.mem_map.mpr ⟨x, h, rfl⟩, rfl⟩
def prevM (cs : List Clk) (ps : List Int) : Nat → Int
  | 0 => 0
  | i + 1 => match ps[i]? with
    | some a => (manyC cs a : Int)
    | none => 0
theorem prevM_succ {cs : List Clk} {ps : List Int} {i : Nat} {a : Int} (h : ps[i]? = some a) : prevM cs ps (i + 1) = (manyC cs a : Int) := by
  show (match ps[i]? with
    | some a => (manyC cs a : Int)
    | none => 0) = _
  rw [h]
theorem prevM_step {cs : List Clk} {ps : List Int} (hok : ∀ c ∈ cs, ∀ s : St2, c.2 = some s → s.1 ≤ s.2) (hm : ∀ x, x ∈ ps ↔ x ∈ edgesC cs) (hs : ps.Pairwise (· < ·)) {i : Nat} {p : Int} (hi : ps[i]? = some p) : prevM cs ps i + dl cs p = (manyC cs p : Int) := by
  rw [manyC_step p hok]
  congr 1
  have nx : ∀ {j k : Nat} {a b : Int}, ps[j]? = some a → ps[k]? = some b → j < k → a < b := fun {j k a b} ha hb hjk => by
    obtain ⟨h1, rfl⟩ := List.getElem?_eq_some_iff.mp ha
    obtain ⟨h2, rfl⟩ := List.getElem?_eq_some_iff.mp hb
    exact List.pairwise_iff_getElem.mp hs j k h1 h2 hjk
  cases i with
  | zero =>
    have z : manyC cs (p - 1) = 0 := manyC_low fun e he => by
      obtain ⟨j, hj⟩ := List.getElem?_of_mem ((hm e).mpr he)
      cases j with
      | zero => rw [hi] at hj; cases hj; omega
      | succ j => have := nx hi hj (by omega); omega
    rw [z]
    rfl
  | succ i =>
    have hl := (List.getElem?_eq_some_iff.mp hi).1
    have ha : ps[i]? = some ps[i] := List.getElem?_eq_getElem (by omega)
    rw [prevM_succ ha]
    congr 1
    have q := nx ha hi (by omega)
    refine manyC_const (by omega) fun e he => ?_
    obtain ⟨j, hj⟩ := List.getElem?_of_mem ((hm e).mpr he)
    rcases Nat.lt_trichotomy j i with z | z | z
    · exact .inl (Int.le_of_lt (nx hj ha z))
    · subst z; rw [ha] at hj; cases hj; exact .inl (Int.le_refl _)
    · rcases Nat.lt_trichotomy j (i + 1) with y | y | y
      · omega
      · subst y; rw [hi] at hj; cases hj; exact .inr (by omega)
      · have := nx hi hj y; exact .inr (by omega)
/-- a dict of numbers -/
structure DF (kvs : List (Key × V)) (ks : List Int) (f : Int → Int) : Prop where
  keys : kvs.map (·.1) = ks.map Sum.inl
  nd : ks.Nodup
  val : ∀ x, x ∈ ks → valV kvs (Sum.inl x : Key) = some (.int (f x))
  non : ∀ x, x ∉ ks → valV kvs (Sum.inl x : Key) = none
theorem DF.nil {f : Int → Int} : DF [] [] f := ⟨rfl, List.nodup_nil, fun _ h => (nomatch h), fun _ _ => rfl⟩
theorem DF.getD {kvs : List (Key × V)} {ks : List Int} {f : Int → Int} (h : DF kvs ks f) (x : Int) : (valV kvs (Sum.inl x : Key)).getD (.int 0) = .int (if x ∈ ks then f x else 0) := by
  by_cases m : x ∈ ks
  · rw [h.val x m, if_pos m]; rfl
  · rw [h.non x m, if_neg m]; rfl
def addI (ks : List Int) (x : Int) : List Int := if x ∈ ks then ks else ks ++ [x]
theorem addI_mem {ks : List Int} {x y : Int} : y ∈ addI ks x ↔ y ∈ ks ∨ y = x := by
  unfold addI
  split
  · rename_i h
    exact ⟨.inl, fun z => z.elim id fun e => e ▸ h⟩
  · rw [List.mem_append, List.mem_singleton]
theorem addI_len {ks : List Int} {x : Int} : (addI ks x).length ≤ ks.length + 1 := by
  unfold addI
  split
  · omega
  · rw [List.length_append]; exact Nat.le_refl _
theorem DF.put {kvs : List (Key × V)} {ks : List Int} {f : Int → Int} (h : DF kvs ks f) (x n : Int) : DF (putK kvs (Sum.inl x : Key) (.int n)) (addI ks x) (fun y => if y = x then n else f y) where
  keys := by
    by_cases m : x ∈ ks
    · have e0 := h.val x m
      unfold putK addI
      rw [valV_any, e0, if_pos (show (some (V.int (f x))).isSome = true from rfl), if_pos m, List.map_map, ← h.keys]
      refine List.map_congr_left fun p _ => ?_
      show (if p.1 = _ then (p.1, _) else p).1 = p.1
      split <;> rfl
    · rw [putK_new _ (h.non x m)]
      unfold addI
      rw [if_neg m, List.map_append, List.map_append, h.keys]
      rfl
  nd := by
    unfold addI
    split
    · exact h.nd
    · rename_i hn
      exact nd_snoc h.nd hn
  val := fun y hy => by
    rw [valV_put]
    by_cases e : y = x
    · rw [if_pos (by rw [e]), if_pos e]
    · rw [if_neg (fun z => e (Sum.inl.inj z)), if_neg e]
      exact h.val y ((addI_mem.mp hy).resolve_right e)
  non := fun y hy => by
    have hn := fun z => hy (addI_mem.mpr z)
    rw [valV_put, if_neg (fun z => hn (.inr (Sum.inl.inj z)))]
    exact h.non y fun z => hn (.inl z)
/-- the turns of some clocks as a dict -/
def TurnsAt (kvs : List (Key × V)) (part : List Clk) : Prop := ∃ ks : List Int, DF kvs ks (dl part) ∧ (∀ x, x ∈ ks ↔ x ∈ edgesC part) ∧ ks.length ≤ 2 * part.length
theorem dl_none {part : List Clk} {x : Int} : ∀ {part : List Clk}, x ∉ edgesC part → dl part x = 0
  | [], _ => rfl
  | c :: part, h => by
    have h2 : x ∉ edgesC part := fun z => h (List.mem_flatMap.mpr (by
      obtain ⟨d, hd, q⟩ := List.mem_flatMap.mp z
      exact ⟨d, List.mem_cons_of_mem _ hd, q⟩))
    have ih := dl_none (x := x) (part := part) h2
    show dl1 c x + dl part x = 0
    rw [ih]
    have h1 : x ∉ edgeC c := fun z => h (List.mem_flatMap.mpr ⟨c, List.mem_cons_self, z⟩)
    unfold edgeC at h1
    unfold dl1
    cases e : c.2 with
    | none => rfl
    | some s =>
      rw [e] at h1
      simp at h1
      simp only
      rw [if_neg (fun z => h1.1 z.symm), if_neg (fun z => h1.2 z.symm)]
      rfl
theorem DF.congr {kvs : List (Key × V)} {ks : List Int} {f g : Int → Int} (h : DF kvs ks f) (e : ∀ x ∈ ks, f x = g x) : DF kvs ks g := ⟨h.keys, h.nd, fun x hx => by rw [h.val x hx, e x hx], h.non⟩
/-- two turns more -/
theorem TurnsAt.two {kvs : List (Key × V)} {part : List Clk} {cn : List Nat} {s : St2} {ks : List Int} (D : DF kvs ks (dl part)) (hk : ∀ x, x ∈ ks ↔ x ∈ edgesC part) (hl : ks.length ≤ 2 * part.length) (hs : s.1 ≤ s.2) :
    TurnsAt (putK (putK kvs (Sum.inl s.1 : Key) (.int ((if s.1 ∈ ks then dl part s.1 else 0) + 1))) (Sum.inl (s.2 + 1) : Key)
      (.int ((if s.2 + 1 ∈ addI ks s.1 then (if s.2 + 1 = s.1 then ((if s.1 ∈ ks then dl part s.1 else 0) + 1) else dl part (s.2 + 1)) else 0) - 1))) (part ++ [(cn, some s)]) := by
  refine ⟨addI (addI ks s.1) (s.2 + 1), ((D.put s.1 _).put (s.2 + 1) _).congr fun x hx => ?_, fun x => ?_, ?_⟩
  · have z : ∀ y, (if y ∈ ks then dl part y else 0) = dl part y := fun y => by
      by_cases m : y ∈ ks
      · rw [if_pos m]
      · rw [if_neg m, dl_none (part := part) fun q => m ((hk y).mpr q)]
    rw [dl_snoc, z]
    show _ = dl part x + ((if s.1 = x then 1 else 0) - (if s.2 + 1 = x then 1 else 0))
    have ne : ¬ s.2 + 1 = s.1 := by omega
    have y : (if s.2 + 1 ∈ addI ks s.1 then dl part (s.2 + 1) else 0) = dl part (s.2 + 1) := by
      by_cases m : s.2 + 1 ∈ addI ks s.1
      · rw [if_pos m]
      · rw [if_neg m, dl_none (part := part) fun q => m (addI_mem.mpr (.inl ((hk _).mpr q)))]
    rw [if_neg ne, y]
    by_cases e1 : x = s.2 + 1
    · have e2 : ¬ s.1 = s.2 + 1 := by omega
      subst e1
      rw [if_pos rfl, if_neg e2, if_pos rfl]
      omega
    · have e3 : ¬ s.2 + 1 = x := fun q => e1 q.symm
      rw [if_neg e1, if_neg e3]
      by_cases e2 : x = s.1
      · have e4 : s.1 = x := e2.symm
        rw [if_pos e2, if_pos e4, e4]
        omega
      · have e4 : ¬ s.1 = x := fun q => e2 q.symm
        rw [if_neg e2, if_neg e4]
        omega
  · rw [edgesC_some, addI_mem, addI_mem, hk, List.mem_append]
    simp only [List.mem_cons, List.not_mem_nil, or_false]
    constructor
    · rintro ((h | h) | h)
      · exact .inl h
      · exact .inr (.inl h)
      · exact .inr (.inr h)
    · rintro (h | h | h)
      · exact .inl (.inl h)
      · exact .inl (.inr h)
      · exact .inr h
  · have h1 := addI_len (ks := ks) (x := s.1)
    have h2 := addI_len (ks := addI ks s.1) (x := s.2 + 1)
    rw [List.length_append]
    simp only [List.length_cons, List.length_nil]
    omega
/-- pairs of numbers as tuples at addresses: the same as stretches -/
def spTallies (K : PySem.W.Frag) : Sp := fun vs H Q _ => ∃ (q : Addr) (xs : List V) (cs : List Clk), vs = [.ref q] ∧ SqL K H q xs ∧ ClksAt K H xs cs ∧ cs.length ≤ 1000 ∧ ClksOk cs ∧
  ∀ (p : Addr) (bs : List Addr) (L : List (Int × Int)) (H' : Hp), TalOf cs L → L.length ≤ 2000 → Same H H' → H p = none → H' p = some (.lst (bs.map V.ref)) → StsAt K H' bs L → Q (.ref p) H'
def optV (o : Option Int) : V := match o with
  | none => .non
  | some s => .int s

/-- the most that bear one of the first i turns, and the first of these -/
structure FIn (L : List (Int × Int)) (i : Nat) (m : Int) (w : V) : Prop where
  up : ∀ (j : Nat) (e : Int × Int), j < i → L[j]? = some e → e.2 ≤ m
  at_ : (m = 0 ∧ w = .non) ∨ (0 < m ∧ ∃ (j : Nat) (p : Int), j < i ∧ L[j]? = some (p, m) ∧ w = .int p ∧ ∀ (k : Nat) (e : Int × Int), k < i → L[k]? = some e → e.2 = m → p ≤ e.1)
theorem FIn.zero {L : List (Int × Int)} : FIn L 0 0 .non := ⟨fun j e h => absurd h (Nat.not_lt_zero _), .inl ⟨rfl, rfl⟩⟩
theorem FIn.pos {L : List (Int × Int)} {i : Nat} {m : Int} {w : V} (h : FIn L i m w) : 0 ≤ m := by
  rcases h.at_ with ⟨h, _⟩ | ⟨h, _⟩ <;> omega
theorem FIn.new {L : List (Int × Int)} {i : Nat} {m p n : Int} {w : V} (h : FIn L i m w) (hi : L[i]? = some (p, n)) (hn : m < n) : FIn L (i + 1) n (.int p) := by
  have h0 := h.pos
  refine ⟨fun j e hj he => ?_, .inr ⟨by omega, i, p, Nat.lt_succ_self _, hi, rfl, fun k e hk he en => ?_⟩⟩
  · by_cases z : j = i
    · subst z
      rw [hi] at he
      cases he
      exact Int.le_refl _
    · have := h.up j e (by omega) he
      omega
  · by_cases z : k = i
    · subst z
      rw [hi] at he
      cases he
      exact Int.le_refl _
    · have := h.up k e (by omega) he
      omega
theorem FIn.old {cs : List Clk} {L : List (Int × Int)} (T : TalOf cs L) {i : Nat} {m p n : Int} {w : V} (h : FIn L i m w) (hi : L[i]? = some (p, n)) (hn : ¬ m < n) : FIn L (i + 1) m w := by
  refine ⟨fun j e hj he => ?_, ?_⟩
  · by_cases z : j = i
    · subst z
      rw [hi] at he
      cases he
      show n ≤ m
      omega
    · exact h.up j e (by omega) he
  · rcases h.at_ with q | ⟨h0, j, p0, hj, e0, ew, q⟩
    · exact .inl q
    · refine .inr ⟨h0, j, p0, by omega, e0, ew, fun k e hk he en => ?_⟩
      by_cases z : k = i
      · subst z
        exact Int.le_of_lt (T.next e0 he hj)
      · exact q k e (by omega) he en
theorem lows_edge {cs : List Clk} {l : Int} (h : l ∈ lowsC cs) : l ∈ edgesC cs := by
  obtain ⟨c, hc, e⟩ := List.mem_filterMap.mp h
  cases ec : c.2 with
  | none => rw [ec] at e; cases e
  | some s =>
    rw [ec] at e
    cases e
    exact (edge_lo hc ec).1
/-- whoever bears a time: as many bear some low that is no later -/
theorem low_of {cs : List Clk} {p : Int} (h : 0 < manyC cs p) : ∃ l ∈ lowsC cs, l ≤ p ∧ manyC cs p ≤ manyC cs l := by
  have lo : ∀ c ∈ cs, ∀ s : St2, c.2 = some s → s.1 ∈ lowsC cs := fun c hc s e => List.mem_filterMap.mpr ⟨c, hc, by rw [e]; rfl⟩
  obtain ⟨c, hc, hb⟩ := List.countP_pos_iff.mp h
  obtain ⟨s, es, h1, h2⟩ := bears_iff.mp hb
  have m0 : s.1 ∈ (lowsC cs).filter fun l => decide (l ≤ p) := List.mem_filter.mpr ⟨lo c hc s es, decide_eq_true h1⟩
  obtain ⟨l, hl, mx⟩ := most_of m0
  obtain ⟨hl1, hl2⟩ := List.mem_filter.mp hl
  have hlp := of_decide_eq_true hl2
  refine ⟨l, hl1, hlp, List.countP_mono_left fun d hd hbd => ?_⟩
  obtain ⟨t, et, g1, g2⟩ := bears_iff.mp hbd
  have := mx t.1 (List.mem_filter.mpr ⟨lo d hd t et, decide_eq_true g1⟩)
  exact bears_iff.mpr ⟨t, et, this, by omega⟩
theorem FIn.done {cs : List Clk} {L : List (Int × Int)} (T : TalOf cs L) {m : Int} {w : V} (h : FIn L L.length m w) : FewAt cs m.toNat w := by
  have h0 := h.pos
  have all : ∀ x ∈ edgesC cs, (manyC cs x : Int) ≤ m ∧ ∃ j : Nat, j < L.length ∧ L[j]? = some (x, (manyC cs x : Int)) := fun x hx => by
    obtain ⟨e, he, rfl⟩ := (T.pts x).mpr hx
    obtain ⟨j, hj⟩ := List.getElem?_of_mem he
    have hjl := (List.getElem?_eq_some_iff.mp hj).1
    rw [← T.val e he]
    exact ⟨h.up j e hjl hj, j, hjl, hj⟩
  refine ⟨fun l hl => ?_, ?_⟩
  · have := (all l (lows_edge hl)).1
    omega
  · rcases h.at_ with ⟨q, ew⟩ | ⟨q, j, p, hj, e0, ew, mn⟩
    · exact .inl ⟨by omega, ew⟩
    · have ep := T.val _ (List.mem_of_getElem? e0)
      simp only at ep
      obtain ⟨l, hl, hlp, hle⟩ := low_of (cs := cs) (p := p) (by omega)
      obtain ⟨a1, k, hk, ek⟩ := all l (lows_edge hl)
      have a2 := mn k _ hk ek (by show (manyC cs l : Int) = m; omega)
      simp only at a2
      have el : l = p := by omega
      subst el
      refine .inr ⟨by omega, l, hl, by omega, ew, fun l' hl' e' => ?_⟩
      obtain ⟨_, k', hk', ek'⟩ := all l' (lows_edge hl')
      exact mn k' _ hk' ek' (by show (manyC cs l' : Int) = m; omega)

def fewV : Option Int → V
  | none => .non
  | some k => .int k
def fewI (cs : List Clk) (f : Option Int) : Int := f.getD (((cs.length : Int) - 1) / 2)
def needI (cs : List Clk) (f : Option Int) : Int := (cs.length : Int) - fewI cs f
def borneC (cs : List Clk) (f : Option Int) (x : Int) : Bool := decide ((manyC cs x : Int) ≥ (cs.length : Int) - fewI cs f)
/-- the refusal that is due, off and counts being right -/
def dueOf (cs : List Clk) (f : Option Int) : Str := if cs = [] then "none" else if fewI cs f < 0 ∨ fewI cs f ≥ (cs.length : Int) then "count" else if (lowsC cs).filter (borneC cs f) = [] then "none" else ""
theorem dp_ints {K : PySem.W.Frag} {H : Hp} : ∀ l : List Int, DpAll K H (l.map V.int) (l.map PyData.int)
  | [] => .nil
  | _ :: l => .cons (.int _) (dp_ints l)
theorem shp_ints (l : List Int) : SeqAt.shaped (.list (l.map PyData.int)) = true := Shp.ok (n := 1) (shp_list fun d hd => by
  obtain ⟨z, hz, rfl⟩ := List.mem_map.mp hd
  exact shp_int z) (by decide)
theorem lowsC_len (cs : List Clk) : (lowsC cs).length ≤ cs.length := by
  unfold lowsC
  exact List.length_filterMap_le _ _
theorem gath_len {now o : Int} {ls : List Let} : (gath now o ls).length ≤ ls.length := by
  unfold gath
  rw [List.length_map]
  exact namesOf_len ls
theorem at_neg1 {xs : List V} {v : V} (h : xs[xs.length - 1]? = some v) : atI xs (-1) = some v := by
  have hl := (List.getElem?_eq_some_iff.mp h).1
  unfold atI ixN
  rw [if_neg (by decide), if_pos (by omega)]
  show xs[((-1 : Int) + (xs.length : Int)).toNat]? = some v
  rw [show ((-1 : Int) + (xs.length : Int)).toNat = xs.length - 1 from by omega]
  exact h
theorem StsAt.at {K : PySem.W.Frag} {H : Hp} {bs : List Addr} {ts : List St2} {i : Nat} {t : St2} (h : StsAt K H bs ts) (e : ts[i]? = some t) : ∃ b, (bs.map V.ref)[i]? = some (.ref b) ∧ SqT K H b [.int t.1, .int t.2] := by
  have hi := (List.getElem?_eq_some_iff.mp e).1
  have hb : i < bs.length := by rw [h.1]; exact hi
  refine ⟨bs[i], ?_, h.2 i _ t (List.getElem?_eq_getElem hb) e⟩
  rw [List.getElem?_map, List.getElem?_eq_getElem hb]
  rfl
def meetsC (ts : List St2) (c : Clk) : Bool := match c.2 with
  | none => false
  | some s => ts.any fun t => decide (t.1 ≤ s.2) && decide (s.1 ≤ t.2)
/-- the clocks that must be wrong -/
def wrongC (cs : List Clk) (ts : List St2) : List (List Nat) := (cs.filter fun c => !meetsC ts c).map (·.1)
theorem wrongC_snoc {cs : List Clk} {c : Clk} {ts : List St2} : wrongC (cs ++ [c]) ts = wrongC cs ts ++ (if meetsC ts c = true then [] else [c.1]) := by
  unfold wrongC
  rw [List.filter_append, List.map_append]
  congr 1
  by_cases h : meetsC ts c = true
  · rw [if_pos h, List.filter_cons_of_neg (by rw [h]; exact Bool.false_ne_true)]
    rfl
  · rw [if_neg h, List.filter_cons_of_pos (by rw [Bool.eq_false_iff.mpr h]; rfl)]
    rfl
theorem wrongC_len {cs : List Clk} {ts : List St2} : (wrongC cs ts).length ≤ cs.length := by
  unfold wrongC
  rw [List.length_map]
  exact List.length_filter_le _ _
theorem wrongC_low {cs : List Clk} {ts : List St2} (h : ∀ c ∈ cs, low c.1) : ∀ z ∈ wrongC cs ts, low z := fun z hz => by
  obtain ⟨c, hc, rfl⟩ := List.mem_map.mp hz
  exact h c (List.mem_filter.mp hc).1
def meetsT (s t : St2) : Bool := decide (t.1 ≤ s.2) && decide (s.1 ≤ t.2)
theorem meets_eq (ts : List St2) (n : List Nat) (s : St2) : PyData.eqv (stsD (ts.filter (meetsT s))) (.list []) = !meetsC ts (n, some s) := by
  show _ = !(ts.any (meetsT s))
  cases e : ts.filter (meetsT s) with
  | nil =>
    have : ts.any (meetsT s) = false := by
      rw [List.any_eq_false]
      exact fun t ht hb => by
        have := List.filter_eq_nil_iff.mp e t ht
        exact this hb
    rw [this]
    rfl
  | cons a l =>
    have hm : a ∈ ts.filter (meetsT s) := by rw [e]; exact List.mem_cons_self
    obtain ⟨h1, h2⟩ := List.mem_filter.mp hm
    rw [List.any_eq_true.mpr ⟨a, h1, h2⟩]
    rfl
/-- what is sure, as data -/
structure SureOf (cs : List Clk) (need lo hi : Int) (ts : List St2) : Prop where
  parts : PartsOf cs need ts
  fst : ∃ t, ts[0]? = some t ∧ lo = t.1
  lst : ∃ t, ts[ts.length - 1]? = some t ∧ hi = t.2
def spDueS (K : PySem.W.Frag) : Sp := fun vs H Q _ => ∃ (p : Addr) (as : List Addr) (ls : List Let) (now o : Int) (f : Option Int), vs = [.ref p, .int now, .int o, fewV f] ∧ SqL K H p (as.map V.ref) ∧ LetsAt K H as ls ∧ (∀ x ∈ ls, x.Ok) ∧ ls.length ≤ 1000 ∧ okOff o ∧
  ∀ H', Same H H' → Q (.str (dueOf (gath now o ls) f)) H'
def spSureRight (K : PySem.W.Frag) : Sp := fun vs H Q _ => ∃ (p : Addr) (as : List Addr) (ls : List Let) (now o : Int) (f : Option Int) (pf pw ps : Addr) (bs : List Addr) (ts : List St2) (lo hi : Int), vs = [.ref p, .int now, .int o, fewV f, .ref pf] ∧
  SqL K H p (as.map V.ref) ∧ LetsAt K H as ls ∧ (∀ x ∈ ls, x.Ok) ∧ ls.length ≤ 1000 ∧ okOff o ∧ H pf = some (.tup [.int lo, .int hi, .ref pw, .ref ps]) ∧ H pw = some (.lst (txs (wrongC (gath now o ls) ts))) ∧ H ps = some (.lst (bs.map V.ref)) ∧ StsAt K H bs ts ∧ ts.length ≤ 2000 ∧
  SureOf (gath now o ls) (needI (gath now o ls) f) lo hi ts ∧ ∀ H', Same H H' → Q (.bl true) H'
theorem flat1 (n : Nat) (v : V) : (List.replicate n [v]).flatten = List.replicate n v := by
  induction n with
  | zero => rfl
  | succ n ih =>
    rw [List.replicate_succ, List.flatten_cons, ih, List.replicate_succ]
    rfl
theorem LetsAt.ins {K : PySem.W.Frag} {H : Hp} {as : List Addr} {ls : List Let} {t : Addr} {x : Let} (h : LetsAt K H as ls) (hx : SqT K H t x.vals) (i : Nat) : LetsAt K H (as.take i ++ [t] ++ as.drop i) (ls.take i ++ [x] ++ ls.drop i) := by
  have h1 : LetsAt K H (as.take i) (ls.take i) := ⟨by rw [List.length_take, List.length_take, h.1], fun j u y a b => by
    rw [List.getElem?_take] at a b
    split at a
    · rename_i hj
      rw [if_pos hj] at b
      exact h.2 j u y a b
    · cases a⟩
  have h2 : LetsAt K H (as.drop i) (ls.drop i) := ⟨by rw [List.length_drop, List.length_drop, h.1], fun j u y a b => by
    rw [List.getElem?_drop] at a b
    exact h.2 _ u y a b⟩
  have h3 := h1.snoc hx
  refine ⟨by rw [List.length_append, List.length_append (as := ls.take i ++ [x]), h3.1, h2.1], fun j u y a b => ?_⟩
  by_cases hj : j < (as.take i ++ [t]).length
  · rw [List.getElem?_append_left hj] at a
    rw [List.getElem?_append_left (by rw [← h3.1]; exact hj)] at b
    exact h3.2 j u y a b
  · rw [List.getElem?_append_right (by omega)] at a
    rw [List.getElem?_append_right (by rw [← h3.1]; omega), ← h3.1] at b
    exact h2.2 _ u y a b
def spApart (K : PySem.W.Frag) : Sp := fun vs H Q _ => ∃ (l p : Addr) (ns : List Int) (nms : List (List Nat)), vs = [.ref l, .ref p] ∧ SqL K H l (ns.map V.int) ∧ SqL K H p (txs nms) ∧ nms.length = 42 ∧ (∀ z ∈ nms, nmOk z) ∧
  ∀ (u q : Addr) (as : List Addr) (ls : List Let) (few : Int) (H' : Hp), ls.length ≤ 200 → (∀ x ∈ ls, x.Ok) → Same H H' → LetsAt K H' as ls → H' q = some (.lst (as.map V.ref)) → H q = none → H' u = some (.tup [.ref q, .int few]) → Q (.ref u) H'
/-- the word that is due -/
def ToldW (now o : Int) (ls : List Let) (f : Option Int) (w : Str) : Prop := (¬ okOff o ∧ w = "off") ∨ (okOff o ∧ (∃ x ∈ ls, now < x.b) ∧ w = "early") ∨ (okOff o ∧ (∀ x ∈ ls, x.b ≤ now) ∧ w = dueOf (gath now o ls) f)
theorem ToldW.one {now o : Int} {ls : List Let} {f : Option Int} {v w : Str} (h : ToldW now o ls f v) (g : ToldW now o ls f w) : v = w := by
  rcases h with ⟨a, e⟩ | ⟨a, ⟨x, hx, lx⟩, e⟩ | ⟨a, b, e⟩ <;> rcases g with ⟨a', e'⟩ | ⟨a', ⟨y, hy, ly⟩, e'⟩ | ⟨a', b', e'⟩
  · rw [e, e']
  · exact absurd a' a
  · exact absurd a' a
  · exact absurd a a'
  · rw [e, e']
  · have := b' x hx
    omega
  · exact absurd a a'
  · have := b y hy
    omega
  · rw [e, e']
theorem ToldW.ok {now o : Int} {ls : List Let} {f : Option Int} (h : ToldW now o ls f "") : okOff o := by
  rcases h with ⟨_, e⟩ | ⟨a, _, _⟩ | ⟨a, _, _⟩
  · exact absurd e (by decide +kernel)
  · exact a
  · exact a
theorem SureOf.same {cs : List Clk} {need lo hi lo' hi' : Int} {ts ts' : List St2} (h : SureOf cs need lo hi ts) (g : SureOf cs need lo' hi' ts') : ts' = ts ∧ lo' = lo ∧ hi' = hi := by
  have e := g.parts.one h.parts
  subst e
  obtain ⟨a, ea, rfl⟩ := h.fst
  obtain ⟨b, eb, rfl⟩ := g.fst
  obtain ⟨c, ec, rfl⟩ := h.lst
  obtain ⟨d, ed, rfl⟩ := g.lst
  rw [ea] at eb
  rw [ec] at ed
  cases eb
  cases ed
  exact ⟨rfl, rfl, rfl⟩
/-- what is sure, anew at fv -/
def SureAt (K : PySem.W.Frag) (H H' : Hp) (cs : List Clk) (f : Option Int) (fv : V) : Prop := ∃ (pf pw ps : Addr) (bs : List Addr) (ts : List St2) (lo hi : Int), fv = .ref pf ∧ H pf = none ∧ H pw = none ∧ H ps = none ∧ pw ≠ ps ∧ H' pf = some (.tup [.int lo, .int hi, .ref pw, .ref ps]) ∧
  H' pw = some (.lst (txs (wrongC cs ts))) ∧ H' ps = some (.lst (bs.map V.ref)) ∧ StsAt K H' bs ts ∧ ts.length ≤ 2000 ∧ SureOf cs (needI cs f) lo hi ts
def sureD (lo hi : Int) (ws : List (List Nat)) (ts : List St2) : PyData := .tuple [.int lo, .int hi, nmsD ws, stsD ts]
theorem shp_sure {lo hi : Int} {ws : List (List Nat)} {ts : List St2} (h : ∀ z ∈ ws, low z) : SeqAt.shaped (sureD lo hi ws ts) = true := Shp.ok (n := 3) (shp_tup fun d hd => by
  simp only [List.mem_cons, List.not_mem_nil, or_false] at hd
  rcases hd with rfl | rfl | rfl | rfl
  · exact shp_int _
  · exact shp_int _
  · exact (shp_list (n := 0) fun d hd => by
      obtain ⟨z, hz, rfl⟩ := List.mem_map.mp hd
      exact shp_str (h z hz)).up (by decide)
  · exact shp_list (n := 1) fun d hd => by
      obtain ⟨t, _, rfl⟩ := List.mem_map.mp hd
      exact ⟨rfl, Nat.le_refl _⟩) (by decide)
theorem dp_sure {K : PySem.W.Frag} {H : Hp} {pf pw ps : Addr} {bs : List Addr} {ts : List St2} {lo hi : Int} {ws : List (List Nat)} (e : H pf = some (.tup [.int lo, .int hi, .ref pw, .ref ps])) (ew : H pw = some (.lst (txs ws))) (es : H ps = some (.lst (bs.map V.ref))) (hB : StsAt K H bs ts) :
    Dp K H (.ref pf) (sureD lo hi ws ts) := .tup (SqT.of e) (.cons (.int _) (.cons (.int _) (.cons (.lst (SqL.of ew) (dp_txs _)) (.cons (hB.dp (SqL.of es)) .nil))))
def spToldS (K : PySem.W.Frag) (P : Addr) : Sp := fun vs H Q _ => ∃ (p : Addr) (as : List Addr) (ls : List Let) (now o : Int) (f : Option Int), vs = [.ref p, .int now, .int o, fewV f] ∧ SqL K H p (as.map V.ref) ∧ LetsAt K H as ls ∧ (∀ x ∈ ls, x.Ok) ∧ ls.length ≤ 1000 ∧ GxR.TabG H P ∧
  ∀ (u : Addr) (fv : V) (w : Str) (H' : Hp), ToldW now o ls f w → Kp H H' → H u = none → H' u = some (.tup [fv, .str w]) → (w = "" → SureAt K H H' (gath now o ls) f fv) → Q (.ref u) H'
def spAsked (K : PySem.W.Frag) (P : Addr) : Sp := fun vs H Q _ => ∃ (p : Addr) (as : List Addr) (ls : List Let) (now o : Int) (f : Option Int) (w : Str), vs = [.ref p, .int now, .int o, fewV f, .str w] ∧ SqL K H p (as.map V.ref) ∧ LetsAt K H as ls ∧ (∀ x ∈ ls, x.Ok) ∧ ls.length ≤ 1000 ∧ GxR.TabG H P ∧
  ToldW now o ls f w ∧ ∀ H', Q (.bl true) H'

def spMostWrong (cC : Addr) : Sp := fun vs H Q E => ∃ (f : Option Int) (n : Int), vs = [fewV f, .int n] ∧ (f = none → Q (.int ((n - 1) / 2)) H) ∧ (∀ b, f = some b → (0 ≤ b ∧ b < n) → Q (.int b) H) ∧ ∀ b, f = some b → ¬ (0 ≤ b ∧ b < n) → E (.ref cC) none H
def spMeets (K : PySem.W.Frag) (P : Addr) : Sp := fun vs H Q _ => ∃ (v : V) (o : Option St2) (p : Addr) (bs : List Addr) (ts : List St2), vs = [v, .ref p] ∧ ClV K H v o ∧ SqL K H p (bs.map V.ref) ∧ StsAt K H bs ts ∧ (∀ s : St2, o = some s → s.1 ≤ s.2) ∧ (∀ t ∈ ts, t.1 ≤ t.2) ∧ GxR.TabG H P ∧
  ∀ H', Kp H H' → Q (.bl (meetsC ts ([], o))) H'
/-- a stretch or None, as it stands in memory -/
def QSt (h : Heap) (v : Value) : Option St2 → Prop
  | none => v = .none
  | some t => ∃ (b : Addr) (t1 t2 : Tok), v = .ref b ∧ IsTup h b #[.int t.1 t1, .int t.2 t2]
theorem QSt.keeps {h h' : Heap} {v : Value} {o : Option St2} (q : QSt h v o) (k : ∀ b u, h.get? b = some u → h'.get? b = some u) : QSt h' v o := by
  cases o with
  | none => exact q
  | some t => obtain ⟨b, t1, t2, e, i⟩ := q; exact ⟨b, t1, t2, e, i.keeps k⟩
/-- a pair of numbers that H knows -/
theorem tup_st {X : Cx} {pins : List (Addr × Obj)} {σ : L2.St} {H : Hp} {s : Shared} (I : Inv X pins σ H s) {b : Addr} {i j : Int} (h : SqT X.K H b [.int i, .int j]) : ∃ t1 t2 : Tok, IsTup s.heap b #[.int i t1, .int j t2] := by
  obtain ⟨its, r, p, _⟩ := I.tuple h
  obtain ⟨u1, u2, rfl, ⟨t1, rfl⟩, ⟨t2, rfl⟩⟩ := vals2 r
  exact ⟨t1, t2, p⟩
theorem join_meets {o : Option St2} {t : St2} (ho : ∀ s : St2, o = some s → s.1 ≤ s.2) (ht : t.1 ≤ t.2) : (!(joinSt o t).isNone) = meetsC [t] ([], o) := by
  cases o with
  | none => rfl
  | some k =>
    have hk := ho k rfl
    unfold joinSt meetsC
    simp only [List.any_cons, List.any_nil, Bool.or_false]
    by_cases h : (if t.1 > k.1 then t.1 else k.1) > (if t.2 < k.2 then t.2 else k.2)
    · rw [if_pos h]
      have : ¬ (t.1 ≤ k.2 ∧ k.1 ≤ t.2) := by
        revert h
        split <;> split <;> intro h <;> omega
      simp only [Option.isNone_none, Bool.not_true]
      symm
      rw [Bool.and_eq_false_iff]
      by_cases g : t.1 ≤ k.2
      · exact .inr (decide_eq_false fun z => this ⟨g, z⟩)
      · exact .inl (decide_eq_false g)
    · rw [if_neg h]
      have : t.1 ≤ k.2 ∧ k.1 ≤ t.2 := by
        revert h
        split <;> split <;> intro h <;> omega
      rw [decide_eq_true this.1, decide_eq_true this.2]
      rfl
theorem meets_any {ts : List St2} {o : Option St2} : (ts.any fun t => meetsC [t] ([], o)) = meetsC ts ([], o) := by
  cases o with
  | none =>
    show (ts.any fun _ => false) = false
    induction ts with
    | nil => rfl
    | cons t ts ih => rw [List.any_cons, ih]; rfl
  | some k =>
    show (ts.any fun t => [t].any fun t => _) = ts.any _
    congr 1
    funext t
    simp only [List.any_cons, List.any_nil, Bool.or_false]
theorem ClV.kp {K : PySem.W.Frag} {H H' : Hp} {v : V} {o : Option St2} (h : ClV K H v o) (s : Kp H H') : ClV K H' v o := by
  cases o with
  | none => exact h
  | some t => exact match h with | ⟨b, e, q⟩ => ⟨b, e, s.seqT q⟩
theorem ClAt.kp {K : PySem.W.Frag} {H H' : Hp} {v : V} {c : Clk} (h : ClAt K H v c) (s : Kp H H') : ClAt K H' v c := match h with
  | ⟨t, w, e, q, k⟩ => ⟨t, w, e, s.seqT q, ClV.kp k s⟩
theorem ClksAt.kp {K : PySem.W.Frag} {H H' : Hp} {xs : List V} {cs : List Clk} (h : ClksAt K H xs cs) (s : Kp H H') : ClksAt K H' xs cs := ⟨h.1, fun i v c a b => ClAt.kp (h.2 i v c a b) s⟩
theorem LetsAt.kp {K : PySem.W.Frag} {H H' : Hp} {as : List Addr} {ls : List Let} (h : LetsAt K H as ls) (s : Kp H H') : LetsAt K H' as ls := ⟨h.1, fun i t x a b => s.seqT (h.2 i t x a b)⟩
theorem StsAt.kp {K : PySem.W.Frag} {H H' : Hp} {bs : List Addr} {ts : List St2} (h : StsAt K H bs ts) (s : Kp H H') : StsAt K H' bs ts := ⟨h.1, fun i b t x y => s.seqT (h.2 i b t x y)⟩
theorem comb_le {l : List St2} {s : St2} (h : comb l = some s) : s.1 ≤ s.2 := by
  unfold comb at h
  split at h
  · cases h; assumption
  · cases h
theorem gath_ok {now o : Int} {ls : List Let} (h : ∀ x ∈ ls, x.Ok) : ClksOk (gath now o ls) where
  nm := fun c hc => by
    obtain ⟨n, hn, rfl⟩ := List.mem_map.mp hc
    obtain ⟨x, hx, rfl⟩ := namesOf_mem.mp hn
    exact (h x hx).nm
  st := fun c hc s e => by
    obtain ⟨n, hn, rfl⟩ := List.mem_map.mp hc
    exact comb_le (show comb (stsOf now o n ls) = some s from e)
  nd := by rw [gath_names]; exact namesOf_nodup ls
theorem parts_none {cs : List Clk} {f : Option Int} {ts : List St2} (h : PartsOf cs (needI cs f) ts) (hn : 1 ≤ needI cs f) : ts = [] ↔ (lowsC cs).filter (borneC cs f) = [] := by
  constructor
  · intro e
    subst e
    refine List.filter_eq_nil_iff.mpr fun l _ hb => ?_
    obtain ⟨t, ht, _⟩ := (h.cov l).mp (of_decide_eq_true hb)
    cases ht
  · intro e
    cases ts with
    | nil => rfl
    | cons t ts =>
      have ht := (h.cov t.1).mpr ⟨t, List.mem_cons_self, Int.le_refl _, h.le t List.mem_cons_self⟩
      obtain ⟨l, hl, _, hle⟩ := low_of (cs := cs) (p := t.1) (by omega)
      exact absurd (decide_eq_true (show (manyC cs l : Int) ≥ (cs.length : Int) - fewI cs f by unfold needI at ht; omega)) (List.filter_eq_nil_iff.mp e l hl)
def spSure (K : PySem.W.Frag) (P cO cE cN cC : Addr) : Sp := fun vs H Q E => ∃ (p : Addr) (as : List Addr) (ls : List Let) (now o : Int) (f : Option Int), vs = [.ref p, .int now, .int o, fewV f] ∧ SqL K H p (as.map V.ref) ∧ LetsAt K H as ls ∧ (∀ x ∈ ls, x.Ok) ∧ ls.length ≤ 1000 ∧ GxR.TabG H P ∧
  (¬ okOff o → ∀ H', Same H H' → E (.ref cO) none H') ∧ (okOff o → (∃ x ∈ ls, now < x.b) → ∀ H', Same H H' → E (.ref cE) none H') ∧
  (okOff o → (∀ x ∈ ls, x.b ≤ now) → dueOf (gath now o ls) f = "none" → ∀ H', Same H H' → E (.ref cN) none H') ∧
  (okOff o → (∀ x ∈ ls, x.b ≤ now) → dueOf (gath now o ls) f = "count" → ∀ H', Same H H' → E (.ref cC) none H') ∧
  (okOff o → (∀ x ∈ ls, x.b ≤ now) → dueOf (gath now o ls) f = "" → ∀ (fv : V) (H' : Hp), Kp H H' → SureAt K H H' (gath now o ls) f fv → Q fv H')

def spLawT (K : PySem.W.Frag) (P : Addr) : Sp := fun vs H Q _ => ∃ (a : Addr) (ns : List Int), vs = [.ref a] ∧ SqL K H a (ns.map V.int) ∧ ns.length ≤ 63 ∧ GxR.TabG H P ∧ ∀ H', Q (.bl true) H'

/-! ### a letter checked; watches -/
def numsOk (s b lo hi : Int) : Prop := (0 ≤ s ∧ s ≤ b ∧ b ≤ 1000000000000) ∧ 0 ≤ lo ∧ lo ≤ hi ∧ hi ≤ 1000000000000
instance {z : List Nat} : Decidable (low z) := by unfold low; infer_instance
instance {z : List Nat} : Decidable (nmOk z) := by unfold nmOk; infer_instance
instance {s b lo hi : Int} : Decidable (numsOk s b lo hi) := by unfold numsOk; infer_instance
/-- what is told of a letter -/
def told1 (x : Let) : Str := if nmOk x.nm then (if numsOk x.s x.b x.lo x.hi then "" else "letter") else "name"
theorem told_cases (x : Let) : (told1 x = "" ∧ nmOk x.nm ∧ numsOk x.s x.b x.lo x.hi) ∨ (told1 x = "letter" ∧ nmOk x.nm ∧ ¬ numsOk x.s x.b x.lo x.hi) ∨ (told1 x = "name" ∧ ¬ nmOk x.nm) := by
  unfold told1
  by_cases h : nmOk x.nm
  · by_cases g : numsOk x.s x.b x.lo x.hi
    · rw [if_pos h, if_pos g]; exact .inl ⟨rfl, h, g⟩
    · rw [if_pos h, if_neg g]; exact .inr (.inl ⟨rfl, h, g⟩)
  · rw [if_neg h]; exact .inr (.inr ⟨rfl, h⟩)
def spIsName (P : Addr) : Sp := fun vs H Q _ => ∃ z : List Nat, vs = [.str (mkS z)] ∧ z.length ≤ 100000 ∧ GxR.TabG H P ∧ ∀ (b : Bool) (H' : Hp), (b = true ↔ nmOk z) → Kp H H' → Q (.bl b) H'
def spInOrder : Sp := fun vs H Q _ => ∃ x y : Int, vs = [.int x, .int y] ∧ ∀ b : Bool, (b = true ↔ (0 ≤ x ∧ x ≤ y ∧ y ≤ 1000000000000)) → Q (.bl b) H
def spChecked (K : PySem.W.Frag) (P cN cL : Addr) : Sp := fun vs H Q E => ∃ (t : Addr) (x : Let), vs = [.ref t] ∧ SqT K H t x.vals ∧ x.nm.length ≤ 100000 ∧ GxR.TabG H P ∧
  (told1 x = "name" → ∀ H', Kp H H' → E (.ref cN) none H') ∧ (told1 x = "letter" → ∀ H', Kp H H' → E (.ref cL) none H') ∧ (told1 x = "" → ∀ H', Kp H H' → Q (.ref t) H')
theorem line_of2 {n : Nat} (h : n ≤ 200000) : n ≤ sizeLine := Nat.le_trans h (by decide)
theorem line_lt {n : Nat} (h : n ≤ 200000) : n < sizeLine := Nat.lt_of_le_of_lt h (by decide)
theorem line_of {n : Nat} (h : n ≤ 100000) : n ≤ sizeLine := Nat.le_trans h (by decide)
def spLawT2 (K : PySem.W.Frag) (P P2 : Addr) : Sp := fun vs H Q _ => ∃ (a : Addr) (ns : List Int), vs = [.ref a] ∧ SqL K H a (ns.map V.int) ∧ ns.length ≤ 63 ∧ GxR.TabG H P ∧ GxR.TabG H P2 ∧ ∀ H', Q (.bl true) H'
/-- how many different names there are -/
def distR : List (List Nat) → Nat
  | [] => 0
  | x :: r => if x ∈ r then distR r else distR r + 1
def dist (xs : List (List Nat)) : Nat := distR xs.reverse
theorem dist_snoc (xs : List (List Nat)) (x : List Nat) : dist (xs ++ [x]) = if x ∈ xs then dist xs else dist xs + 1 := by
  unfold dist
  rw [List.reverse_append]
  show (if x ∈ xs.reverse then _ else _) = _
  simp only [List.mem_reverse]
  rfl
theorem dist_le (xs : List (List Nat)) : dist xs ≤ xs.length := by
  have h : ∀ l, distR l ≤ l.length := by
    intro l
    induction l with
    | nil => exact Nat.le_refl _
    | cons x r ih =>
      unfold distR
      rw [List.length_cons]
      split <;> omega
  have := h xs.reverse
  rw [List.length_reverse] at this
  exact this
/-- no room for a letter of that name -/
def full (ls : List Let) (nm : List Nat) : Prop := 200 ≤ ls.length ∨ (nm ∉ ls.map (·.nm) ∧ 40 ≤ dist (ls.map (·.nm)))
instance {ls : List Let} {nm : List Nat} : Decidable (full ls nm) := by unfold full; infer_instance
def spCheckRoom (K : PySem.W.Frag) (cM : Addr) : Sp := fun vs H Q E => ∃ (p : Addr) (as : List Addr) (ls : List Let) (nm : List Nat), vs = [.ref p, .str (mkS nm)] ∧ SqL K H p (as.map V.ref) ∧ LetsAt K H as ls ∧ ls.length ≤ 200 ∧
  (full ls nm → ∀ H', Same H H' → E (.ref cM) none H') ∧ (¬ full ls nm → ∀ H', Same H H' → Q .non H')
/-- the texts as keys -/
def inS (xs : List (List Nat)) : Key → Bool
  | .inl _ => false
  | .inr z => decide (z ∈ xs.map mkS)
theorem inS_nil : inS [] = fun _ => false := by
  funext k
  cases k <;> rfl
theorem inS_at (xs : List (List Nat)) (x : List Nat) : inS xs (.inr (mkS x)) = decide (x ∈ xs) := by
  show decide (mkS x ∈ xs.map mkS) = _
  rw [Bool.eq_iff_iff, decide_eq_true_eq, decide_eq_true_eq, List.mem_map]
  exact ⟨fun ⟨y, m, e⟩ => mkS_inj e ▸ m, fun m => ⟨x, m, rfl⟩⟩
theorem inS_snoc (xs : List (List Nat)) (x : List Nat) : (fun j => inS xs j || decide (j = (.inr (mkS x) : Key))) = inS (xs ++ [x]) := by
  funext k
  cases k with
  | inl i => show (false || decide (Sum.inl i = Sum.inr (mkS x))) = false; simp
  | inr z =>
    show (decide (z ∈ xs.map mkS) || decide ((Sum.inr z : Key) = Sum.inr (mkS x))) = decide (z ∈ (xs ++ [x]).map mkS)
    rw [List.map_append, Bool.eq_iff_iff]
    simp
/-- a watch: its thousandths, its letters (the list at p) -/
def WatchAt (K : PySem.W.Frag) (C : Addr) (H : Hp) (a : Addr) (o : Int) (ls : List Let) (p : Addr) : Prop := ∃ (dx : Addr) (as : List Addr), H a = some (.ins C dx [("off", .int o), ("letters", .ref p)]) ∧ H p = some (.lst (as.map V.ref)) ∧ LetsAt K H as ls
/-- what stood is kept, but for the instance at a (tables may have grown) -/
structure KpX (a : Addr) (H H' : Hp) : Prop where
  ob : ∀ b o, b ≠ a → NoTbl o → H b = some o → H' b = some o
  tb : ∀ b, GxR.TabG H b → GxR.TabG H' b
  th : ∀ b, H' b = none → H b = none
theorem KpX.of {a : Addr} {H H' : Hp} {o0 o : HO} (k : Kp H H') (h : H' a = some o0) (n : NoTbl o0) : KpX a H (upd H' a o) where
  ob := fun b u ne t e => (upd_ne ne).trans (k.ob b u t e)
  tb := fun b g => by
    obtain ⟨ps, e, t⟩ := k.tb b g
    refine ⟨ps, (upd_ne fun z => ?_).trans e, t⟩
    rw [z, h] at e
    exact n ps (Option.some.inj e)
  th := fun b e => by
    by_cases z : b = a
    · rw [z, upd_same] at e; cases e
    · exact k.th b ((upd_ne z).symm.trans e)
theorem LetsAt.upd {K : PySem.W.Frag} {H : Hp} {as : List Addr} {ls : List Let} {a C dx : Addr} {fs : List (Str × V)} {o : HO} (h : LetsAt K H as ls) (e : H a = some (.ins C dx fs)) : LetsAt K (L2.upd H a o) as ls := ⟨h.1, fun i t x p q => by
  rcases h.2 i t x p q with (z | ⟨u, z⟩) | z
  · exact .inl (.inl ((upd_ne fun y => by rw [y, e] at z; cases z).trans z))
  · exact .inl (.inr ⟨u, (upd_ne fun y => by rw [y, e] at z; cases z).trans z⟩)
  · exact .inr z⟩
def spInit (C cO : Addr) : Sp := fun vs H Q E => ∃ (a dx : Addr) (o : Int), vs = [.ref a, .int o] ∧ H a = some (.ins C dx []) ∧ (¬ okOff o → E (.ref cO) none H) ∧
  (okOff o → ∀ (p : Addr) (H' : Hp), H p = none → p ≠ a → H' a = some (.ins C dx [("off", .int o), ("letters", .ref p)]) → H' p = some (.lst []) → (∀ b u, b ≠ a → H b = some u → H' b = some u) → (∀ b, b ≠ a → b ≠ p → H' b = H b) → Q .non H')
def spPut (K : PySem.W.Frag) (C P cN cL cM : Addr) : Sp := fun vs H Q E => ∃ (a t : Addr) (o : Int) (ls : List Let) (x : Let) (p : Addr), vs = [.ref a, .ref t] ∧ WatchAt K C H a o ls p ∧ SqT K H t x.vals ∧ x.nm.length ≤ 100000 ∧ ls.length ≤ 200 ∧ GxR.TabG H P ∧
  (told1 x = "name" → ∀ H', Kp H H' → E (.ref cN) none H') ∧ (told1 x = "letter" → ∀ H', Kp H H' → E (.ref cL) none H') ∧ (told1 x = "" → full ls x.nm → ∀ H', Kp H H' → E (.ref cM) none H') ∧
  (told1 x = "" → ¬ full ls x.nm → ∀ H' p', H p' = none → KpX a H H' → WatchAt K C H' a o (ls ++ [x]) p' → Q (.int ((ls.length : Int) + 1)) H')
def keptOf (ls : List Let) (nm : List Nat) : List Let := ls.filter fun x => decide (x.nm ≠ nm)
def spDrop (K : PySem.W.Frag) (C cC : Addr) : Sp := fun vs H Q E => ∃ (a : Addr) (o : Int) (ls : List Let) (nm : List Nat) (p : Addr), vs = [.ref a, .str (mkS nm)] ∧ WatchAt K C H a o ls p ∧ ls.length ≤ 200 ∧
  ((∀ x ∈ ls, x.nm ≠ nm) → ∀ H', Same H H' → E (.ref cC) none H') ∧
  ((∃ x ∈ ls, x.nm = nm) → ∀ H' p', H p' = none → KpX a H H' → WatchAt K C H' a o (keptOf ls nm) p' → Q (.int ((ls.length : Int) - ((keptOf ls nm).length : Int))) H')
def spWTold (K : PySem.W.Frag) (C P cE cN cC : Addr) : Sp := fun vs H Q E => ∃ (a : Addr) (o : Int) (ls : List Let) (now : Int) (f : Option Int) (p : Addr), vs = [.ref a, .int now, fewV f] ∧ WatchAt K C H a o ls p ∧ (∀ x ∈ ls, x.Ok) ∧ ls.length ≤ 1000 ∧ GxR.TabG H P ∧ okOff o ∧
  ((∃ x ∈ ls, now < x.b) → ∀ H', Same H H' → E (.ref cE) none H') ∧ ((∀ x ∈ ls, x.b ≤ now) → dueOf (gath now o ls) f = "none" → ∀ H', Same H H' → E (.ref cN) none H') ∧ ((∀ x ∈ ls, x.b ≤ now) → dueOf (gath now o ls) f = "count" → ∀ H', Same H H' → E (.ref cC) none H') ∧
  ((∀ x ∈ ls, x.b ≤ now) → dueOf (gath now o ls) f = "" → ∀ (fv : V) (H' : Hp), Kp H H' → SureAt K H H' (gath now o ls) f fv → Q fv H')
def spNoWatch : Sp := fun vs H Q _ => ∃ o : Int, vs = [.int o] ∧ ¬ okOff o ∧ ∀ H', Q (.bl true) H'

/-! ### the law's own watches, their plain lists, what was told -/
/-- numbers in order and within bounds -/
def numsIn (x : Let) : Prop := 0 ≤ x.s ∧ x.s ≤ x.b ∧ x.b ≤ 1000000000000 ∧ 0 ≤ x.lo ∧ x.lo ≤ x.hi ∧ x.hi ≤ 1000000000000
def spLetterG (K : PySem.W.Frag) : Sp := fun vs H Q _ => ∃ (c m : Int) (p : Addr) (xs : List (List Nat)), vs = [.int c, .ref p, .int m] ∧ SqL K H p (txs xs) ∧ 1 ≤ m ∧ m ≤ (xs.length : Int) ∧
  ∀ (x : Let) (t : Addr) (H' : Hp), x.nm ∈ xs → numsIn x → Same H H' → H' t = some (.tup x.vals) → Q (.ref t) H'
/-- what may be put: a letter that holds, or one that is wrong in one way -/
def LtrOk (x : Let) : Prop := (nmOk x.nm ∨ x.nm = [] ∨ x.nm = [81]) ∧ 0 ≤ x.s ∧ x.b ≤ 1000000000000 ∧ 0 ≤ x.lo ∧ x.hi ≤ 1000000000000
theorem LtrOk.nums {x : Let} (h : LtrOk x) : numsOk x.s x.b x.lo x.hi ↔ x.s ≤ x.b ∧ x.lo ≤ x.hi :=
  ⟨fun g => ⟨g.1.2.1, g.2.2.1⟩, fun g => ⟨⟨h.2.1, g.1, h.2.2.1⟩, h.2.2.2.1, g.2, h.2.2.2.2⟩⟩
theorem LtrOk.short {x : Let} (h : LtrOk x) : x.nm.length ≤ 100000 := by
  rcases h.1 with g | g | g
  · have := g.2.1
    omega
  · rw [g]; decide
  · rw [g]; decide
theorem LtrOk.of {x : Let} (n : nmOk x.nm) (h : numsIn x) : LtrOk x := ⟨.inl n, h.1, h.2.2.1, h.2.2.2.1, h.2.2.2.2.2⟩
theorem ok_told {x : Let} (h : told1 x = "") : x.Ok := by
  rcases told_cases x with ⟨_, n, m⟩ | ⟨e, _, _⟩ | ⟨e, _⟩
  · exact ⟨n, m.1.1, m.1.2.1, m.1.2.2, m.2.1, m.2.2.1, m.2.2.2⟩
  · rw [e] at h; exact absurd h (by decide +kernel)
  · rw [e] at h; exact absurd h (by decide +kernel)
/-- the word that is due when x is put -/
def dueW (ls : List Let) (x : Let) : Str := if told1 x = "" then (if full ls x.nm then "many" else "") else told1 x
def spPutDue (K : PySem.W.Frag) : Sp := fun vs H Q _ => ∃ (q t : Addr) (bs : List Addr) (ls : List Let) (x : Let), vs = [.ref q, .ref t] ∧ SqL K H q (bs.map V.ref) ∧ LetsAt K H bs ls ∧ ls.length ≤ 200 ∧ SqT K H t x.vals ∧ LtrOk x ∧
  ∀ H', Same H H' → Q (.str (dueW ls x)) H'
theorem set_names (xs : List (List Nat)) : setOfKeys (xs.map fun z => (.inr (mkS z) : Key)) = (inS xs, dist xs) := by
  suffices h : ∀ n, ∀ xs : List (List Nat), xs.length = n → setOfKeys (xs.map fun z => (.inr (mkS z) : Key)) = (inS xs, dist xs) from h _ xs rfl
  intro n
  induction n with
  | zero =>
    intro xs e
    rw [List.length_eq_zero_iff.mp e, inS_nil]
    rfl
  | succ n ih =>
    intro xs e
    have ne : xs ≠ [] := fun z => by rw [z] at e; cases e
    rw [← List.dropLast_concat_getLast ne, List.map_append]
    show setOfKeys (_ ++ [(.inr (mkS (xs.getLast ne)) : Key)]) = _
    rw [setOf_snoc, ih xs.dropLast (by rw [List.length_dropLast, e]; rfl), ← inS_snoc, dist_snoc]
    unfold setPut
    dsimp only
    by_cases m : xs.getLast ne ∈ xs.dropLast
    · rw [if_pos m, if_pos (show inS xs.dropLast (.inr (mkS (xs.getLast ne))) = true from (inS_at _ _).trans (decide_eq_true m))]
    · rw [if_neg m, if_neg (show ¬ inS xs.dropLast (.inr (mkS (xs.getLast ne))) = true from fun z => m (of_decide_eq_true ((inS_at _ _).symm.trans z)))]
/-! what is kept, but for the objects at some places -/
structure KpM (L : List Addr) (H H' : Hp) : Prop where
  ob : ∀ b o, b ∉ L → NoTbl o → H b = some o → H' b = some o
  tb : ∀ b, GxR.TabG H b → GxR.TabG H' b
  th : ∀ b, H' b = none → H b = none
theorem KpM.of {L : List Addr} {H H' : Hp} (k : Kp H H') : KpM L H H' := ⟨fun b o _ t e => k.ob b o t e, k.tb, k.th⟩
theorem KpM.same {L : List Addr} {H H' : Hp} (s : Same H H') : KpM L H H' := .of (.of s)
theorem KpM.ofX {L : List Addr} {H H' : Hp} {a : Addr} (k : KpX a H H') (m : a ∈ L) : KpM L H H' := ⟨fun b o n t e => k.ob b o (fun z => n (z ▸ m)) t e, k.tb, k.th⟩
theorem KpM.trans {L : List Addr} {H H' H'' : Hp} (k : KpM L H H') (j : KpM L H' H'') : KpM L H H'' := ⟨fun b o n t e => j.ob b o n t (k.ob b o n t e), fun b g => j.tb b (k.tb b g), fun b e => k.th b (j.th b e)⟩
theorem KpM.sub {L L' : List Addr} {H H' : Hp} (k : KpM L H H') (s : ∀ b ∈ L, b ∈ L') : KpM L' H H' := ⟨fun b o n t e => k.ob b o (fun m => n (s b m)) t e, k.tb, k.th⟩
theorem KpM.upd {L : List Addr} {H : Hp} {a : Addr} {o0 o : HO} (e : H a = some o0) (n : NoTbl o0) (m : a ∈ L) : KpM L H (upd H a o) := KpM.ofX (KpX.of (Kp.refl H) e n) m
theorem KpM.at {L : List Addr} {H H' : Hp} (k : KpM L H H') {b : Addr} {o : HO} (e : H b = some o) (n : b ∉ L) (t : NoTbl o := by intro _ z; cases z) : H' b = some o := k.ob b o n t e
/-- at those places lists and instances stand -/
def Mu (L : List Addr) (H : Hp) : Prop := ∀ b ∈ L, (∃ xs, H b = some (.lst xs)) ∨ ∃ C dx fs, H b = some (.ins C dx fs)
theorem Mu.tup {L : List Addr} {H : Hp} (h : Mu L H) {b : Addr} {o : HO} (e : H b = some o) (n1 : ∀ xs, o ≠ .lst xs) (n2 : ∀ C dx fs, o ≠ .ins C dx fs) : b ∉ L := fun m => by
  rcases h b m with ⟨xs, z⟩ | ⟨C, dx, fs, z⟩
  · exact n1 xs (Option.some.inj (e.symm.trans z))
  · exact n2 C dx fs (Option.some.inj (e.symm.trans z))
theorem KpM.seqT {K : PySem.W.Frag} {L : List Addr} {H H' : Hp} {t : Addr} {xs : List V} (k : KpM L H H') (u : Mu L H) (h : SqT K H t xs) : SqT K H' t xs := by
  rcases h with (h | ⟨o, h⟩) | h
  · exact .inl (.inl (k.at h (u.tup h (fun _ z => nomatch z) (fun _ _ _ z => nomatch z))))
  · exact .inl (.inr ⟨o, k.at h (u.tup h (fun _ z => nomatch z) (fun _ _ _ z => nomatch z))⟩)
  · exact .inr h
theorem LetsAt.kpm {K : PySem.W.Frag} {L : List Addr} {H H' : Hp} {as : List Addr} {ls : List Let} (h : LetsAt K H as ls) (k : KpM L H H') (u : Mu L H) : LetsAt K H' as ls := ⟨h.1, fun i t x a b => k.seqT u (h.2 i t x a b)⟩
theorem StsAt.kpm {K : PySem.W.Frag} {L : List Addr} {H H' : Hp} {bs : List Addr} {ts : List St2} (h : StsAt K H bs ts) (k : KpM L H H') (u : Mu L H) : StsAt K H' bs ts := ⟨h.1, fun i b t x y => k.seqT u (h.2 i b t x y)⟩
theorem WatchAt.kpm {K : PySem.W.Frag} {L : List Addr} {C w p : Addr} {H H' : Hp} {o : Int} {ls : List Let} (h : WatchAt K C H w o ls p) (k : KpM L H H') (u : Mu L H) (nw : w ∉ L) (np : p ∉ L) : WatchAt K C H' w o ls p := match h with
  | ⟨dx, as, e1, e2, hA⟩ => ⟨dx, as, k.at e1 nw, k.at e2 np, hA.kpm k u⟩
/-- a watch and its plain list; the watch's own list is none of those at N -/
def PairAt (K : PySem.W.Frag) (C : Addr) (N : List Addr) (H : Hp) (w q : Addr) (o : Int) (ls : List Let) : Prop := ∃ (p : Addr) (bs : List Addr), WatchAt K C H w o ls p ∧ H q = some (.lst (bs.map V.ref)) ∧ LetsAt K H bs ls ∧ (∀ x ∈ ls, x.Ok) ∧ ls.length ≤ 200 ∧ p ∉ N
theorem PairAt.kpm {K : PySem.W.Frag} {L N : List Addr} {C w q : Addr} {H H' : Hp} {o : Int} {ls : List Let} (h : PairAt K C N H w q o ls) (k : KpM L H H') (u : Mu L H) (nw : w ∉ L) (nq : q ∉ L) (s : ∀ b ∈ L, b ∈ N) : PairAt K C N H' w q o ls := match h with
  | ⟨p, bs, hw, eq, hB, ok, l, np⟩ => ⟨p, bs, hw.kpm k u nw fun m => np (s p m), k.at eq nq, hB.kpm k u, ok, l, np⟩
theorem PairAt.mu {K : PySem.W.Frag} {N : List Addr} {C w q : Addr} {H : Hp} {o : Int} {ls : List Let} (h : PairAt K C N H w q o ls) : Mu [w, q] H := by
  obtain ⟨p, bs, ⟨dx, as, e1, _⟩, eq, _⟩ := h
  intro b m
  simp only [List.mem_cons, List.not_mem_nil, or_false] at m
  rcases m with rfl | rfl
  · exact .inr ⟨_, _, _, e1⟩
  · exact .inl ⟨_, eq⟩
/-- what stands at the places of N -/
def Stands (N : List Addr) (H : Hp) : Prop := ∀ b ∈ N, H b ≠ none
theorem Stands.kpm {L N : List Addr} {H H' : Hp} (h : Stands N H) (k : KpM L H H') : Stands N H' := fun b m e => h b m (k.th b e)
theorem Stands.new {N : List Addr} {H : Hp} (h : Stands N H) {p : Addr} (e : H p = none) : p ∉ N := fun m => h p m e
def spLPut (K : PySem.W.Frag) (C P : Addr) : Sp := fun vs H Q _ => ∃ (w q t : Addr) (N : List Addr) (o : Int) (ls : List Let) (x : Let), vs = [.ref w, .ref q, .ref t] ∧ PairAt K C N H w q o ls ∧ q ∈ N ∧ Stands N H ∧ SqT K H t x.vals ∧ LtrOk x ∧ GxR.TabG H P ∧
  ∀ (H' : Hp) (ls' : List Let), KpM [w, q] H H' → PairAt K C N H' w q o ls' → Q (.bl true) H'
def spLDrop (K : PySem.W.Frag) (C : Addr) : Sp := fun vs H Q _ => ∃ (w q : Addr) (N : List Addr) (o : Int) (ls : List Let) (nm : List Nat), vs = [.ref w, .ref q, .str (mkS nm)] ∧ PairAt K C N H w q o ls ∧ q ∈ N ∧ Stands N H ∧
  ∀ (H' : Hp) (ls' : List Let), KpM [w, q] H H' → PairAt K C N H' w q o ls' → Q (.bl true) H'
/-- one that was told, and what was kept of it -/
def HeldOne (K : PySem.W.Frag) (N : List Addr) (H : Hp) (t : Addr) : Prop := ∃ (f k pw ps kw ks : Addr) (bs : List Addr) (lo hi : Int) (ws : List (List Nat)) (ss : List St2), H t = some (.tup [.ref f, .ref k]) ∧ H f = some (.tup [.int lo, .int hi, .ref pw, .ref ps]) ∧ H k = some (.tup [.int lo, .int hi, .ref kw, .ref ks]) ∧
  H pw = some (.lst (txs ws)) ∧ H kw = some (.lst (txs ws)) ∧ H ps = some (.lst (bs.map V.ref)) ∧ H ks = some (.lst (bs.map V.ref)) ∧ StsAt K H bs ss ∧ (∀ z ∈ ws, low z) ∧ t ∉ N ∧ f ∉ N ∧ k ∉ N ∧ pw ∉ N ∧ kw ∉ N ∧ ps ∉ N ∧ ks ∉ N
theorem HeldOne.kpm {K : PySem.W.Frag} {L N : List Addr} {H H' : Hp} {t : Addr} (h : HeldOne K N H t) (k : KpM L H H') (u : Mu L H) (s : ∀ b ∈ L, b ∈ N) : HeldOne K N H' t := match h with
  | ⟨f, c, pw, ps, kw, ks, bs, lo, hi, ws, ss, e1, e2, e3, e4, e5, e6, e7, hB, lw, n1, n2, n3, n4, n5, n6, n7⟩ =>
    have g : ∀ {b}, b ∉ N → b ∉ L := fun n m => n (s _ m)
    ⟨f, c, pw, ps, kw, ks, bs, lo, hi, ws, ss, k.at e1 (g n1), k.at e2 (g n2), k.at e3 (g n3), k.at e4 (g n4), k.at e5 (g n5), k.at e6 (g n6), k.at e7 (g n7), hB.kpm k u, lw, n1, n2, n3, n4, n5, n6, n7⟩
def HeldAt (K : PySem.W.Frag) (N : List Addr) (H : Hp) (h : Addr) (n : Nat) : Prop := ∃ ts : List Addr, H h = some (.lst (ts.map V.ref)) ∧ (∀ t ∈ ts, HeldOne K N H t) ∧ ts.length ≤ n
theorem HeldAt.kpm {K : PySem.W.Frag} {L N : List Addr} {H H' : Hp} {h : Addr} {n : Nat} (x : HeldAt K N H h n) (k : KpM L H H') (u : Mu L H) (nh : h ∉ L) (s : ∀ b ∈ L, b ∈ N) : HeldAt K N H' h n := match x with
  | ⟨ts, e, a, l⟩ => ⟨ts, k.at e nh, fun t m => (a t m).kpm k u s, l⟩
theorem HeldAt.up {K : PySem.W.Frag} {N : List Addr} {H : Hp} {h : Addr} {n m : Nat} (x : HeldAt K N H h n) (l : n ≤ m) : HeldAt K N H h m := match x with
  | ⟨ts, e, a, b⟩ => ⟨ts, e, a, Nat.le_trans b l⟩
theorem HeldAt.mu {K : PySem.W.Frag} {N : List Addr} {H : Hp} {h : Addr} {n : Nat} (x : HeldAt K N H h n) : Mu [h] H := by
  obtain ⟨ts, e, _⟩ := x
  intro b m
  rw [List.mem_singleton] at m
  subst m
  exact .inl ⟨_, e⟩
def spLAsk (K : PySem.W.Frag) (C P : Addr) : Sp := fun vs H Q _ => ∃ (w q h : Addr) (N : List Addr) (o c : Int) (ls : List Let) (n : Nat), vs = [.ref w, .ref q, .int o, .int c, .ref h] ∧ PairAt K C N H w q o ls ∧ HeldAt K N H h n ∧ n ≤ 1000 ∧ h ∈ N ∧ Stands N H ∧ okOff o ∧ GxR.TabG H P ∧
  ∀ H', KpM [h] H H' → HeldAt K N H' h (n + 1) → Q (.bl true) H'
def spLFilled (K : PySem.W.Frag) (C P : Addr) : Sp := fun vs H Q _ => ∃ (w q pn : Addr) (N : List Addr) (o f : Int) (ls : List Let) (nms : List (List Nat)), vs = [.ref w, .ref q, .int f, .ref pn] ∧ PairAt K C N H w q o ls ∧ q ∈ N ∧ w ∈ N ∧ Stands N H ∧ H pn = some (.lst (txs nms)) ∧ pn ∉ N ∧ nms.length = 42 ∧ (∀ z ∈ nms, nmOk z) ∧ GxR.TabG H P ∧
  ∀ (H' : Hp) (ls' : List Let), KpM [w, q] H H' → PairAt K C N H' w q o ls' → Q (.bl true) H'
def spLDeed (K : PySem.W.Frag) (C P P2 : Addr) : Sp := fun vs H Q _ => ∃ (w q pn h : Addr) (N : List Addr) (o c : Int) (ls : List Let) (nms : List (List Nat)) (n : Nat), vs = [.ref w, .ref q, .int o, .int c, .ref pn, .ref h] ∧ PairAt K C N H w q o ls ∧ HeldAt K N H h n ∧ n ≤ 1000 ∧ h ∈ N ∧ q ∈ N ∧ w ∈ N ∧ h ≠ w ∧ h ≠ q ∧ Stands N H ∧
  H pn = some (.lst (txs nms)) ∧ pn ∉ N ∧ nms.length = 42 ∧ (∀ z ∈ nms, nmOk z) ∧ okOff o ∧ GxR.TabG H P ∧ GxR.TabG H P2 ∧ ∀ (H' : Hp) (ls' : List Let), KpM [w, q, h] H H' → PairAt K C N H' w q o ls' → HeldAt K N H' h (n + 1) → Q (.bl true) H'
theorem PairAt.kp {K : PySem.W.Frag} {N : List Addr} {C w q : Addr} {H H' : Hp} {o : Int} {ls : List Let} (h : PairAt K C N H w q o ls) (k : Kp H H') : PairAt K C N H' w q o ls :=
  h.kpm (L := []) (.of k) (fun _ m => nomatch m) (fun m => nomatch m) (fun m => nomatch m) fun _ m => nomatch m
theorem LetsAt.zs {K : PySem.W.Frag} {H : Hp} {bs : List Addr} {ls : List Let} (h : LetsAt K H bs ls) : ∃ zs : List (Addr × Let), bs = zs.map (·.1) ∧ ls = zs.map (·.2) ∧ ∀ z ∈ zs, SqT K H z.1 z.2.vals := by
  refine ⟨bs.zip ls, (List.map_fst_zip (by rw [h.1]; exact Nat.le_refl _)).symm, (List.map_snd_zip (by rw [h.1]; exact Nat.le_refl _)).symm, fun z m => ?_⟩
  obtain ⟨i, hi⟩ := List.getElem?_of_mem m
  obtain ⟨h1, h2⟩ := List.getElem?_zip_eq_some.mp hi
  exact h.2 i z.1 z.2 h1 h2
theorem lets_zs {K : PySem.W.Frag} {H : Hp} {zs : List (Addr × Let)} (h : ∀ z ∈ zs, SqT K H z.1 z.2.vals) : LetsAt K H (zs.map (·.1)) (zs.map (·.2)) := by
  refine ⟨by rw [List.length_map, List.length_map], fun i t x a b => ?_⟩
  rw [List.getElem?_map] at a b
  cases e : zs[i]? with
  | none => rw [e] at a; cases a
  | some z =>
    rw [e] at a b
    cases a
    cases b
    exact h z (List.mem_of_getElem? e)
theorem filt_len (ls : List Let) (nm : List Nat) : (ls.filter fun x => decide (x.nm = nm)).length + (keptOf ls nm).length = ls.length := by
  unfold keptOf
  induction ls with
  | nil => rfl
  | cons x r ih =>
    by_cases h : x.nm = nm
    · rw [List.filter_cons_of_pos (by simpa using h), List.filter_cons_of_neg (by simpa using h), List.length_cons, List.length_cons]
      omega
    · rw [List.filter_cons_of_neg (by simpa using h), List.filter_cons_of_pos (by simpa using h), List.length_cons, List.length_cons]
      omega
/-- the letters that are left when those of that name among the first i are out -/
def restOf (zs : List (Addr × Let)) (i : Nat) (nm : List Nat) : List (Addr × Let) := ((zs.take i).filter fun z => decide (z.2.nm ≠ nm)) ++ zs.drop i
theorem erase_mid {α β : Type} (f : α → β) (A : List α) (z : α) (B : List α) : ((A ++ z :: B).map f).eraseIdx A.length = (A ++ B).map f := by
  induction A with
  | nil => rfl
  | cons a A ih =>
    show f a :: ((A ++ z :: B).map f).eraseIdx A.length = _
    rw [ih]
    rfl
theorem rest_at {zs : List (Addr × Let)} {i : Nat} {z : Addr × Let} (nm : List Nat) (e : zs[i]? = some z) : restOf zs i nm = ((zs.take i).filter fun z => decide (z.2.nm ≠ nm)) ++ z :: zs.drop (i + 1) := by
  obtain ⟨h, q⟩ := List.getElem?_eq_some_iff.mp e
  unfold restOf
  rw [List.drop_eq_getElem_cons h, q]
theorem rest_out {zs : List (Addr × Let)} {i : Nat} {z : Addr × Let} {nm : List Nat} (e : zs[i]? = some z) (h : z.2.nm = nm) : restOf zs (i + 1) nm = ((zs.take i).filter fun z => decide (z.2.nm ≠ nm)) ++ zs.drop (i + 1) := by
  unfold restOf
  rw [take_snoc e, List.filter_append, List.filter_cons_of_neg (by simpa using h), List.filter_nil, List.append_nil]
theorem rest_in {zs : List (Addr × Let)} {i : Nat} {z : Addr × Let} {nm : List Nat} (e : zs[i]? = some z) (h : z.2.nm ≠ nm) : restOf zs (i + 1) nm = restOf zs i nm := by
  rw [rest_at nm e]
  unfold restOf
  rw [take_snoc e, List.filter_append, List.filter_cons_of_pos (by simpa using h), List.filter_nil, List.append_assoc]
  rfl
theorem rest_mem {zs : List (Addr × Let)} {i : Nat} {nm : List Nat} {z : Addr × Let} (m : z ∈ restOf zs i nm) : z ∈ zs :=
  (List.mem_append.mp m).elim (fun h => List.mem_of_mem_take (List.mem_filter.mp h).1) List.mem_of_mem_drop
theorem rest_end (zs : List (Addr × Let)) (nm : List Nat) : restOf zs zs.length nm = zs.filter fun z => decide (z.2.nm ≠ nm) := by
  unfold restOf
  rw [List.take_length, List.drop_length, List.append_nil]
theorem kept_zs (zs : List (Addr × Let)) (nm : List Nat) : (zs.filter fun z => decide (z.2.nm ≠ nm)).map (·.2) = keptOf (zs.map (·.2)) nm := by
  unfold keptOf
  rw [List.filter_map]
  rfl
theorem let_ne {x y : Let} (h : x.nm ≠ y.nm) : PyData.eqv (letD x) (letD y) = false := by
  show (PyData.eqv (.str (mkS x.nm)) (.str (mkS y.nm)) && _) = false
  have : PyData.eqv (.str (mkS x.nm)) (.str (mkS y.nm)) = false := by
    show (mkS x.nm == mkS y.nm) = false
    exact beq_eq_false_iff_ne.mpr fun z => h (mkS_inj z)
  rw [this]
  rfl
theorem let_dp {K : PySem.W.Frag} {H : Hp} {t : Addr} {x : Let} (h : SqT K H t x.vals) : Dp K H (.ref t) (letD x) := .tup h (.cons (.str _) (.cons (.int _) (.cons (.int _) (.cons (.int _) (.cons (.int _) .nil)))))
theorem nin5 {b a1 a2 a3 a4 a5 : Addr} (h1 : b ≠ a1) (h2 : b ≠ a2) (h3 : b ≠ a3) (h4 : b ≠ a4) (h5 : b ≠ a5) : b ∉ [a1, a2, a3, a4, a5] := fun m => by
  simp only [List.mem_cons, List.not_mem_nil, or_false] at m
  rcases m with m | m | m | m | m
  · exact h1 m
  · exact h2 m
  · exact h3 m
  · exact h4 m
  · exact h5 m
theorem nin3 {b a1 a2 a3 : Addr} (h1 : b ≠ a1) (h2 : b ≠ a2) (h3 : b ≠ a3) : b ∉ [a1, a2, a3] := fun m => by
  simp only [List.mem_cons, List.not_mem_nil, or_false] at m
  rcases m with m | m | m
  · exact h1 m
  · exact h2 m
  · exact h3 m
theorem nin2 {b a1 a2 : Addr} (h1 : b ≠ a1) (h2 : b ≠ a2) : b ∉ [a1, a2] := fun m => by
  simp only [List.mem_cons, List.not_mem_nil, or_false] at m
  rcases m with m | m
  · exact h1 m
  · exact h2 m
theorem kinds_ne {H : Hp} {a b C dx : Addr} {xs : List V} {fs : List (Str × V)} (e : H a = some (.lst xs)) (g : H b = some (.ins C dx fs)) : a ≠ b := fun z => by
  rw [z, g] at e
  cases e
theorem HeldOne.ne {K : PySem.W.Frag} {N : List Addr} {H : Hp} {t : Addr} (h : HeldOne K N H t) : ∃ (f k : Addr) (d : PyData), SqT K H t [.ref f, .ref k] ∧ Dp K H (.ref f) d ∧ Dp K H (.ref k) d ∧ SeqAt.shaped d = true := by
  obtain ⟨f, k, pw, ps, kw, ks, bs, lo, hi, ws, ss, e1, e2, e3, e4, e5, e6, e7, hB, lw, _⟩ := h
  exact ⟨f, k, _, SqT.of e1, dp_sure e2 e4 e6 hB, dp_sure e3 e5 e7 hB, shp_sure lw⟩
theorem at_flag (i j : Int) (b : Bool) : ∃ z, atI [V.int i, V.int j] (if b = true then 1 else 0) = some (.int z) := by
  cases b
  · exact ⟨i, atI_nat (j := 0) rfl⟩
  · exact ⟨j, atI_nat (j := 1) rfl⟩
theorem mu3 {H : Hp} {w q h : Addr} (a : Mu [w, q] H) (b : Mu [h] H) : Mu [w, q, h] H := fun x m => by
  simp only [List.mem_cons, List.not_mem_nil, or_false] at m
  rcases m with rfl | rfl | rfl
  · exact a _ (.head _)
  · exact a _ (.tail _ (.head _))
  · exact b _ (.head _)

/-! ### the text by places -/
def top (i : Nat) : Stmt := PySem.Challenge.pw_timestretch_k10_watches_kept.main.body.getD i (.Pass ⟨0, 0, 0, 0⟩)
abbrev s_checked : Stmt := top 16
abbrev s_is_name : Stmt := top 17
abbrev s_in_order : Stmt := top 18
abbrev s_check_off : Stmt := top 19
abbrev s_slack : Stmt := top 20
abbrev s_brought : Stmt := top 21
abbrev s_gathered : Stmt := top 23
abbrev s_common : Stmt := top 24
abbrev s_parts : Stmt := top 26
abbrev s_tallies : Stmt := top 27
abbrev s_sure : Stmt := top 29
abbrev s_most_wrong : Stmt := top 30
abbrev s_meets : Stmt := top 31
abbrev s_check_room : Stmt := top 36
abbrev s_whole : Stmt := top 38
abbrev s_cell_at : Stmt := top 39
abbrev s_mix : Stmt := top 40
abbrev s_big : Stmt := top 41
abbrev s_off : Stmt := top 42
abbrev s_w_slack : Stmt := top 43
abbrev s_w_brought : Stmt := top 44
abbrev s_kind : Stmt := top 45
abbrev s_word : Stmt := top 46
abbrev s_names : Stmt := top 47
abbrev s_letter : Stmt := top 48
abbrev s_w_gathered : Stmt := top 49
abbrev s_many : Stmt := top 50
abbrev s_lows : Stmt := top 51
abbrev s_edges : Stmt := top 52
abbrev s_parts_right : Stmt := top 53
abbrev s_due : Stmt := top 54
abbrev s_sure_right : Stmt := top 55
abbrev s_put_due : Stmt := top 56
abbrev s_put : Stmt := top 57
abbrev s_drop : Stmt := top 58
abbrev s_ask : Stmt := top 59
abbrev s_filled : Stmt := top 60
abbrev s_deed : Stmt := top 61
abbrev s_forty : Stmt := top 62
abbrev s_no_watch : Stmt := top 63
abbrev s_law : Stmt := top 64
abbrev s_W_init : Stmt := inClass (top 35) 0
abbrev s_W_put : Stmt := inClass (top 35) 1
abbrev s_W_drop : Stmt := inClass (top 35) 2
abbrev s_W_told : Stmt := inClass (top 35) 3
/-! ### where things stand, and what the top has written -/
structure Ad where
  k_tab_is_name : Addr
  P_tab_is_name : Addr
  k_tab_meets : Addr
  P_tab_meets : Addr
  f_checked : Addr
  d_checked : FuncData
  f_is_name : Addr
  d_is_name : FuncData
  f_in_order : Addr
  d_in_order : FuncData
  f_check_off : Addr
  d_check_off : FuncData
  f_slack : Addr
  d_slack : FuncData
  f_brought : Addr
  d_brought : FuncData
  f_gathered : Addr
  d_gathered : FuncData
  f_common : Addr
  d_common : FuncData
  f_parts : Addr
  d_parts : FuncData
  f_tallies : Addr
  d_tallies : FuncData
  f_sure : Addr
  d_sure : FuncData
  f_most_wrong : Addr
  d_most_wrong : FuncData
  f_meets : Addr
  d_meets : FuncData
  f_check_room : Addr
  d_check_room : FuncData
  f_whole : Addr
  d_whole : FuncData
  f_cell_at : Addr
  d_cell_at : FuncData
  f_mix : Addr
  d_mix : FuncData
  f_big : Addr
  d_big : FuncData
  f_off : Addr
  d_off : FuncData
  f_w_slack : Addr
  d_w_slack : FuncData
  f_w_brought : Addr
  d_w_brought : FuncData
  f_kind : Addr
  d_kind : FuncData
  f_word : Addr
  d_word : FuncData
  f_names : Addr
  d_names : FuncData
  f_letter : Addr
  d_letter : FuncData
  f_w_gathered : Addr
  d_w_gathered : FuncData
  f_many : Addr
  d_many : FuncData
  f_lows : Addr
  d_lows : FuncData
  f_edges : Addr
  d_edges : FuncData
  f_parts_right : Addr
  d_parts_right : FuncData
  f_due : Addr
  d_due : FuncData
  f_sure_right : Addr
  d_sure_right : FuncData
  f_put_due : Addr
  d_put_due : FuncData
  f_put : Addr
  d_put : FuncData
  f_drop : Addr
  d_drop : FuncData
  f_ask : Addr
  d_ask : FuncData
  f_filled : Addr
  d_filled : FuncData
  f_deed : Addr
  d_deed : FuncData
  f_forty : Addr
  d_forty : FuncData
  f_no_watch : Addr
  d_no_watch : FuncData
  f_law : Addr
  d_law : FuncData
  f_W_init : Addr
  d_W_init : FuncData
  f_W_put : Addr
  d_W_put : FuncData
  f_W_drop : Addr
  d_W_drop : FuncData
  f_W_told : Addr
  d_W_told : FuncData
  c_StretchError : Addr
  c_BadName : Addr
  c_BadLetter : Addr
  c_BadOff : Addr
  c_TooEarly : Addr
  c_BadCount : Addr
  c_NoAgreement : Addr
  c_TooWide : Addr
  c_TooMany : Addr
  c_NoClock : Addr
  c_NoText : Addr
  c_Watch : Addr
def Ad.cs (a : Ad) : List Addr := [a.c_BadName, a.c_BadLetter, a.c_BadOff, a.c_TooEarly, a.c_BadCount, a.c_NoAgreement, a.c_TooWide, a.c_TooMany, a.c_NoClock, a.c_NoText]
structure Txt (K : PySem.W.Frag) (mg : Str → Option Value) (a : Ad) : Prop where
  checked : Dfn K mg "checked" s_checked ["letter"] a.f_checked a.d_checked
  is_name : Dfn K mg "is_name" s_is_name ["name"] a.f_is_name a.d_is_name
  in_order : Dfn K mg "in_order" s_in_order ["first", "last"] a.f_in_order a.d_in_order
  check_off : Dfn K mg "check_off" s_check_off ["off"] a.f_check_off a.d_check_off
  slack : Dfn K mg "slack" s_slack ["passed", "off"] a.f_slack a.d_slack
  brought : Dfn K mg "brought" s_brought ["letter", "now", "off"] a.f_brought a.d_brought
  gathered : Dfn K mg "gathered" s_gathered ["letters", "now", "off"] a.f_gathered a.d_gathered
  common : Dfn K mg "common" s_common ["kept", "stretch"] a.f_common a.d_common
  parts : Dfn K mg "parts" s_parts ["clocks", "need"] a.f_parts a.d_parts
  tallies : Dfn K mg "tallies" s_tallies ["clocks"] a.f_tallies a.d_tallies
  sure : DfnD K mg "sure" s_sure ["letters", "now", "off", "bad"] "bad" a.f_sure a.d_sure
  most_wrong : Dfn K mg "most_wrong" s_most_wrong ["bad", "many"] a.f_most_wrong a.d_most_wrong
  meets : Dfn K mg "meets" s_meets ["stretch", "some"] a.f_meets a.d_meets
  check_room : Dfn K mg "check_room" s_check_room ["letters", "name"] a.f_check_room a.d_check_room
  whole : Dfn K mg "_law_whole" s_whole ["_law_found"] a.f_whole a.d_whole
  cell_at : Dfn K mg "_law_cell_at" s_cell_at ["_law_script", "_law_k"] a.f_cell_at a.d_cell_at
  mix : Dfn K mg "_law_mix" s_mix ["_law_cell", "_law_k"] a.f_mix a.d_mix
  big : Dfn K mg "_law_big" s_big ["_law_cell", "_law_k"] a.f_big a.d_big
  off : Dfn K mg "_law_off" s_off ["_law_cell"] a.f_off a.d_off
  w_slack : Dfn K mg "_law_slack" s_w_slack ["_law_passed", "_law_off_here"] a.f_w_slack a.d_w_slack
  w_brought : Dfn K mg "_law_brought" s_w_brought ["_law_letter_here", "_law_now", "_law_off_here"] a.f_w_brought a.d_w_brought
  kind : Dfn K mg "_law_kind" s_kind ["_law_e"] a.f_kind a.d_kind
  word : Dfn K mg "_law_word" s_word ["_law_cell", "_law_size"] a.f_word a.d_word
  names : Dfn K mg "_law_names" s_names ["_law_cell"] a.f_names a.d_names
  letter : Dfn K mg "_law_letter" s_letter ["_law_cell", "_law_names_here", "_law_many_here"] a.f_letter a.d_letter
  w_gathered : Dfn K mg "_law_gathered" s_w_gathered ["_law_letters", "_law_now", "_law_off_here"] a.f_w_gathered a.d_w_gathered
  many : Dfn K mg "_law_many" s_many ["_law_clocks", "_law_point"] a.f_many a.d_many
  lows : Dfn K mg "_law_lows" s_lows ["_law_clocks"] a.f_lows a.d_lows
  edges : Dfn K mg "_law_edges" s_edges ["_law_clocks"] a.f_edges a.d_edges
  parts_right : Dfn K mg "_law_parts_right" s_parts_right ["_law_clocks", "_law_need", "_law_found"] a.f_parts_right a.d_parts_right
  due : Dfn K mg "_law_due" s_due ["_law_letters", "_law_now", "_law_off_here", "_law_few"] a.f_due a.d_due
  sure_right : Dfn K mg "_law_sure_right" s_sure_right ["_law_letters", "_law_now", "_law_off_here", "_law_few", "_law_found"] a.f_sure_right a.d_sure_right
  put_due : Dfn K mg "_law_put_due" s_put_due ["_law_own", "_law_letter_here"] a.f_put_due a.d_put_due
  put : Dfn K mg "_law_put" s_put ["_law_watch", "_law_own", "_law_letter_here"] a.f_put a.d_put
  drop : Dfn K mg "_law_drop" s_drop ["_law_watch", "_law_own", "_law_name"] a.f_drop a.d_drop
  ask : Dfn K mg "_law_ask" s_ask ["_law_watch", "_law_own", "_law_off_here", "_law_cell", "_law_held"] a.f_ask a.d_ask
  filled : Dfn K mg "_law_filled" s_filled ["_law_watch", "_law_own", "_law_first", "_law_names_here"] a.f_filled a.d_filled
  deed : Dfn K mg "_law_deed" s_deed ["_law_watch", "_law_own", "_law_off_here", "_law_cell", "_law_names_here", "_law_held"] a.f_deed a.d_deed
  forty : Dfn K mg "_law_forty" s_forty ["_law_watch", "_law_own", "_law_first", "_law_names_here"] a.f_forty a.d_forty
  no_watch : Dfn K mg "_law_no_watch" s_no_watch ["_law_off_here"] a.f_no_watch a.d_no_watch
  law : Dfn K mg "law" s_law ["_law_script"] a.f_law a.d_law
  F_W_init : Fun K "__init__" "Watch.__init__" s_W_init a.f_W_init a.d_W_init
  b_W_init : Binds K a.d_W_init ["self", "off"] []
  mk_Watch : Mk K a.c_Watch a.f_W_init
  cl_Watch : Cls K a.c_Watch
  g_Watch : mg "Watch" = some (.ref a.c_Watch)
  na_letters : NoAttr K a.c_Watch "letters"
  na_off : NoAttr K a.c_Watch "off"
  W_put : MDfn K a.c_Watch "put" "Watch.put" s_W_put ["self", "letter"] a.f_W_put a.d_W_put
  W_drop : MDfn K a.c_Watch "drop" "Watch.drop" s_W_drop ["self", "name"] a.f_W_drop a.d_W_drop
  W_told : MDfnD K a.c_Watch "told" "Watch.told" s_W_told ["self", "now", "bad"] "bad" a.f_W_told a.d_W_told
  StretchError : Err K mg "StretchError" a.c_StretchError
  BadName : Err K mg "BadName" a.c_BadName
  BadLetter : Err K mg "BadLetter" a.c_BadLetter
  BadOff : Err K mg "BadOff" a.c_BadOff
  TooEarly : Err K mg "TooEarly" a.c_TooEarly
  BadCount : Err K mg "BadCount" a.c_BadCount
  NoAgreement : Err K mg "NoAgreement" a.c_NoAgreement
  TooWide : Err K mg "TooWide" a.c_TooWide
  TooMany : Err K mg "TooMany" a.c_TooMany
  NoClock : Err K mg "NoClock" a.c_NoClock
  NoText : Err K mg "NoText" a.c_NoText
  kd_BadName : Kd K a.cs a.c_StretchError a.c_BadName 0
  kd_BadLetter : Kd K a.cs a.c_StretchError a.c_BadLetter 1
  kd_BadOff : Kd K a.cs a.c_StretchError a.c_BadOff 2
  kd_TooEarly : Kd K a.cs a.c_StretchError a.c_TooEarly 3
  kd_BadCount : Kd K a.cs a.c_StretchError a.c_BadCount 4
  kd_NoAgreement : Kd K a.cs a.c_StretchError a.c_NoAgreement 5
  kd_TooMany : Kd K a.cs a.c_StretchError a.c_TooMany 7
  kd_NoClock : Kd K a.cs a.c_StretchError a.c_NoClock 8
  b_all : mg "all" = none
  b_len : mg "len" = none
  b_max : mg "max" = none
  b_min : mg "min" = none
  b_list : mg "list" = none
  b_sorted : mg "sorted" = none
  b_any : mg "any" = none
  b_isinstance : mg "isinstance" = none
  b_bool : mg "bool" = none
  b_int : mg "int" = none
  b_ValueError : mg "ValueError" = none
  b_range : mg "range" = none
  b_tuple : mg "tuple" = none
  b_set : mg "set" = none
  h_tab_is_name : a.d_is_name.code = .ref a.k_tab_is_name
  h_tab_meets : a.d_meets.code = .ref a.k_tab_meets
  c_LONGEST_NAME : ∃ t, mg "LONGEST_NAME" = some (.int 12 t)
  c_GREATEST_NUMBER : ∃ t, mg "GREATEST_NUMBER" = some (.int 1000000000000 t)
  c_GREATEST_OFF : ∃ t, mg "GREATEST_OFF" = some (.int 999 t)
  c_MOST_LETTERS : ∃ t, mg "MOST_LETTERS" = some (.int 200 t)
  c_MOST_NAMES : ∃ t, mg "MOST_NAMES" = some (.int 40 t)
section
variable {P : Program} {w : World} {K : PySem.W.Frag} {mg : Str → Option Value} {base : Heap} {a : Ad}
/-! ### is_name -/
abbrev n_is_name : List Str := ["name"]
theorem sc_is_name : FnScope ["name"] ["name"] (defScope s_is_name) := ⟨rfl, rfl, rfl, by decide +kernel, rfl, by decide +kernel, by decide +kernel⟩
--own
theorem ok_is_name (T : Txt K mg a) (TB_is_name : GxR.TabB base mg a.k_tab_is_name a.P_tab_is_name) : FnOk P w K mg base CX0 1 a.f_is_name a.d_is_name ["name"] (spIsName a.P_tab_is_name) := by
  refine fn_code T.is_name.F T.h_tab_is_name sc_is_name (fun vs H Q E h => ?_) (fun A outer s H vs Q E hr h => ?_)
  · obtain ⟨z, rfl, _⟩ := h
    rfl
  · obtain ⟨z, rfl, zl, hT, q⟩ := h
    obtain ⟨tk_LONGEST_NAME, hc_LONGEST_NAME⟩ := T.c_LONGEST_NAME
    refine ⟨_, (pss_one (ps_ret (pe_and (pe_chain op_le op_le pe_int (pe_callB call_len_str (by rfl) T.b_len boot_len (pa_cons (pv 0) pa_nil)) (pe_gint hc_LONGEST_NAME)) (pe_one (GxR.pe_allS hr (by rfl) T.b_all (by decide +kernel) TB_is_name rfl (gs_of rfl rfl (by decide +kernel) rfl rfl) (pv 0) (elt_az rfl rfl) (fun _ => rfl)))))), ?_⟩
    refine ⟨_, rfl, mkS z, rfl, line_of (by rw [mkS_len]; exact zl), _, _, rfl, rfl, _, rfl, ?_⟩
    rw [mkS_len]
    refine ite_dec (fun h1 => ?_) (fun h1 => ?_)
    · refine ⟨_, _, rfl, rfl, _, rfl, ?_⟩
      refine ite_dec (fun h2 => ?_) (fun h2 => ?_)
      · refine ⟨_, rfl, mkS z, rfl, hT, fun H2 hH => q _ H2 ?_ (Kp.tab hH hT)⟩
        rw [mkS_list, List.all_eq_true]
        refine ⟨fun h => ⟨by omega, by omega, fun c hc => ?_⟩, fun h c hc => ?_⟩
        · have := h c hc
          simpa using this
        · have := h.2.2 c hc
          simpa using this
      · exact q false H ⟨fun h => (nomatch h), fun h => absurd h.2.1 (by omega)⟩ (Kp.refl H)
    · refine ⟨_, rfl, iteF ?_⟩
      exact q false H ⟨fun h => (nomatch h), fun h => absurd h.1 (by omega)⟩ (Kp.refl H)

/-! ### in_order -/
abbrev n_in_order : List Str := ["first", "last"]
theorem sc_in_order : FnScope ["first", "last"] ["first", "last"] (defScope s_in_order) := ⟨rfl, rfl, rfl, by decide +kernel, rfl, by decide +kernel, by decide +kernel⟩
theorem ok_in_order (T : Txt K mg a) : FnOk P w K mg base CX0 1 a.f_in_order a.d_in_order ["first", "last"] (spInOrder) := by
  refine T.in_order.F.ok sc_in_order (fun vs H Q E h => ?_) (fun cdv A outer s H vs Q E hr h => ?_)
  · obtain ⟨x, y, rfl, q⟩ := h
    rfl
  · obtain ⟨x, y, rfl, q⟩ := h
    have hu := hu_of hr
    obtain ⟨tk_GREATEST_NUMBER, hc_GREATEST_NUMBER⟩ := T.c_GREATEST_NUMBER
    refine ⟨_, (pss_one (ps_ret (pe_chain3 op_le op_le op_le pe_int (pv 0) (pv 1) (pe_gint hc_GREATEST_NUMBER)))), ?_⟩
    refine ⟨_, rfl, _, _, rfl, rfl, _, rfl, ?_⟩
    refine ite_dec (fun h1 => ?_) (fun h1 => ?_)
    · refine ⟨_, rfl, _, _, rfl, rfl, _, rfl, ?_⟩
      refine ite_dec (fun h2 => ?_) (fun h2 => ?_)
      · refine ⟨_, _, rfl, rfl, ?_⟩
        exact q _ ⟨fun h => ⟨h1, h2, of_decide_eq_true h⟩, fun h => decide_eq_true h.2.2⟩
      · exact q false ⟨fun h => (nomatch h), fun h => absurd h.2.1 h2⟩
    · exact q false ⟨fun h => (nomatch h), fun h => absurd h.1 h1⟩
/-! ### checked -/
abbrev n_checked : List Str := ["letter", "name", "sent", "back", "low", "high"]
theorem sc_checked : FnScope ["letter", "name", "sent", "back", "low", "high"] ["letter"] (defScope s_checked) := ⟨rfl, rfl, rfl, by decide +kernel, rfl, by decide +kernel, by decide +kernel⟩
theorem ok_checked (T : Txt K mg a) (TB_is_name : GxR.TabB base mg a.k_tab_is_name a.P_tab_is_name) : FnOk P w K mg base (L2.CX P w) 2 a.f_checked a.d_checked ["letter"] (spChecked K a.P_tab_is_name a.c_BadName a.c_BadLetter) := by
  refine T.checked.F.okX sc_checked (fun vs H Q E h => ?_) (fun cdv A outer s H vs Q E hr h => ?_)
  · obtain ⟨t, x, rfl, hT, xl, hP, eN, eL, q⟩ := h
    rfl
  · obtain ⟨t, x, rfl, hT, xl, hP, eN, eL, q⟩ := h
    have hu := hu_of hr
    refine ⟨_, (pss_cons (ps_asg (pv 0) (pg_tup (by rfl) (pgs_cons (pg_name (i := 1) sc_checked.nd rfl (Or.inl rfl)) (pgs_cons (pg_name (i := 2) sc_checked.nd rfl (Or.inl rfl)) (pgs_cons (pg_name (i := 3) sc_checked.nd rfl (Or.inl rfl)) (pgs_cons (pg_name (i := 4) sc_checked.nd rfl (Or.inl rfl)) (pgs_cons (pg_name (i := 5) sc_checked.nd rfl (Or.inl rfl)) pgs_nil)))))))
      (pss_cons (ps_if (pt_not (pt_val (pe_cl (ok_is_name T TB_is_name) T.is_name (hr.mono (by decide)) (pa_cons (pv 1) pa_nil)))) (pss_one (ps_rs rfl (takes_of rfl rfl rfl rfl) T.BadName)) pss_nil)
      (pss_cons (ps_if (pt_not (PW.pt (pw_and (pt_val (pe_cl (ok_in_order T) T.in_order (hr.mono (by decide)) (pa_cons (pv 2) (pa_cons (pv 3) pa_nil)))) (pw_and1 (pt_val (pe_cl (ok_in_order T) T.in_order (hr.mono (by decide)) (pa_cons (pv 4) (pa_cons (pv 5) pa_nil)))))))) (pss_one (ps_rs rfl (takes_of rfl rfl rfl rfl) T.BadLetter)) pss_nil)
      (pss_one (ps_ret (pv 0)))))), ?_⟩
    refine ⟨_, rfl, t, _, rfl, hT, rfl, _, _, rfl, _, _, rfl, _, _, rfl, _, _, rfl, _, _, rfl, rfl, ?_⟩
    refine ⟨_, rfl, x.nm, rfl, xl, hP, fun r H1 hr1 s1 => ?_⟩
    refine ⟨_, rfl, ?_⟩
    cases r with
    | false =>
      refine iteT ?_
      exact eN (if_neg fun h => nomatch (hr1.mpr h)) H1 s1
    | true =>
      have ok := hr1.mp rfl
      refine iteF ?_
      have bad : ¬ numsOk x.s x.b x.lo x.hi → told1 x = "letter" := fun h => (if_pos ok).trans (if_neg h)
      refine ⟨_, rfl, _, rfl, x.s, x.b, rfl, fun r1 h1 => ?_⟩
      refine ⟨_, rfl, ?_⟩
      cases r1 with
      | false =>
        refine iteF ?_
        refine iteT ?_
        exact eL (bad fun h => nomatch (h1.mpr h.1)) H1 s1
      | true =>
        refine iteT ?_
        refine ⟨_, rfl, _, rfl, x.lo, x.hi, rfl, fun r2 h2 => ?_⟩
        refine ⟨_, rfl, ?_⟩
        cases r2 with
        | false =>
          refine iteT ?_
          exact eL (bad fun h => nomatch (h2.mpr h.2)) H1 s1
        | true =>
          refine iteF ?_
          exact ⟨_, rfl, q ((if_pos ok).trans (if_pos ⟨h1.mp rfl, h2.mp rfl⟩)) H1 s1⟩
/-! ### check_off -/
abbrev n_check_off : List Str := ["off"]
theorem sc_check_off : FnScope ["off"] ["off"] (defScope s_check_off) := ⟨rfl, rfl, rfl, by decide +kernel, rfl, by decide +kernel, by decide +kernel⟩
theorem ok_check_off (T : Txt K mg a) : FnOk P w K mg base (L2.CX P w) 1 a.f_check_off a.d_check_off ["off"] (spCheckOff a.c_BadOff) := by
  refine T.check_off.F.okX sc_check_off (fun vs H Q E h => ?_) (fun cdv A outer s H vs Q E hr h => ?_)
  · obtain ⟨o, rfl, q, e⟩ := h
    rfl
  · obtain ⟨o, rfl, q, e⟩ := h
    have hu := hu_of hr
    obtain ⟨tk_GREATEST_OFF, hc_GREATEST_OFF⟩ := T.c_GREATEST_OFF
    refine ⟨_, (pss_one (ps_if (pt_not (pt_chain op_le op_le pe_int (pv 0) (pe_gint hc_GREATEST_OFF))) (pss_one (ps_rs rfl (takes_of rfl rfl rfl rfl) T.BadOff)) pss_nil)), ?_⟩
    refine ⟨_, rfl, _, _, rfl, rfl, _, rfl, ?_⟩
    refine ite2 (fun z => ?_) (fun z => ?_)
    · have z0 := of_decide_eq_true z
      refine ⟨_, _, rfl, rfl, _, rfl, ?_⟩
      refine ite2 (fun y => ?_) (fun y => ?_)
      · refine e fun ok => ?_
        have y2 : decide (o ≤ 999) = true := decide_eq_true ok.2
        rw [y2] at y
        cases y
      · refine q ⟨z0, ?_⟩
        by_cases h9 : o ≤ 999
        · exact h9
        · exact absurd (by rw [decide_eq_false h9]; rfl) y
    · refine ⟨_, rfl, ?_⟩
      refine iteT ?_
      exact e fun ok => z (decide_eq_true ok.1)
/-! ### slack -/
abbrev n_slack : List Str := ["passed", "off"]
theorem sc_slack : FnScope ["passed", "off"] ["passed", "off"] (defScope s_slack) := ⟨rfl, rfl, rfl, by decide +kernel, rfl, by decide +kernel, by decide +kernel⟩
theorem ok_slack (T : Txt K mg a) : FnOk P w K mg base CX0 1 a.f_slack a.d_slack ["passed", "off"] (spSlack) := by
  refine T.slack.F.ok sc_slack (fun vs H Q E h => ?_) (fun cdv A outer s H vs Q E hr h => ?_)
  · obtain ⟨p, o, rfl, o0, o1, q⟩ := h
    rfl
  · obtain ⟨p, o, rfl, o0, o1, q⟩ := h
    have hu := hu_of hr
    refine ⟨_, (pss_one (ps_ret (pe_op (op_divc (c := 1000) (by decide) (by decide)) (pe_op op_add (pe_op op_mul (pv 0) (pv 1)) pe_int) pe_int))), ?_⟩
    refine ⟨_, rfl, _, rfl, _, _, rfl, rfl, .inr ⟨by omega, by omega⟩, _, _, rfl, rfl, _, rfl, rfl, ?_⟩
    exact q
/-! ### brought -/
abbrev n_brought : List Str := ["letter", "now", "off", "_", "sent", "back", "low", "high", "shortest", "longest"]
theorem sc_brought : FnScope ["letter", "now", "off", "_", "sent", "back", "low", "high", "shortest", "longest"] ["letter", "now", "off"] (defScope s_brought) := ⟨rfl, rfl, rfl, by decide +kernel, rfl, by decide +kernel, by decide +kernel⟩
theorem ok_brought (T : Txt K mg a) : FnOk P w K mg base (L2.CX P w) 2 a.f_brought a.d_brought ["letter", "now", "off"] (spBrought K a.c_BadOff a.c_TooEarly) := by
  refine T.brought.F.okX sc_brought (fun vs H Q E h => ?_) (fun cdv A outer s H vs Q E hr h => ?_)
  · obtain ⟨t, nm, s', b, lo, hi, now, o, rfl, hT, eO, eE, q⟩ := h
    rfl
  · obtain ⟨t, nm, s', b, lo, hi, now, o, rfl, hT, eO, eE, q⟩ := h
    have hu := hu_of hr
    refine ⟨_, (pss_cons (ps_expr (pe_clX (ok_check_off T) T.check_off (hr.mono (by decide)) (takes_of rfl rfl rfl rfl) (pa_cons (pv 2) pa_nil)))
      (pss_cons (ps_asg (pv 0) (pg_tup (by rfl) (pgs_cons (pg_name (i := 3) sc_brought.nd rfl (Or.inl rfl)) (pgs_cons (pg_name (i := 4) sc_brought.nd rfl (Or.inl rfl)) (pgs_cons (pg_name (i := 5) sc_brought.nd rfl (Or.inl rfl)) (pgs_cons (pg_name (i := 6) sc_brought.nd rfl (Or.inl rfl)) (pgs_cons (pg_name (i := 7) sc_brought.nd rfl (Or.inl rfl)) pgs_nil)))))))
      (pss_cons (ps_if (pt_cmpR op_gt (pv 5) (pv 1) (nomark _)) (pss_one (ps_rs rfl (takes_of rfl rfl rfl rfl) T.TooEarly)) pss_nil)
      (pss_cons (ps_set (i := 8) sc_brought.nd rfl (Or.inl rfl) (pe_op op_sub (pv 1) (pv 5)))
      (pss_cons (ps_set (i := 9) sc_brought.nd rfl (Or.inl rfl) (pe_op op_sub (pv 1) (pv 4)))
      (pss_one (ps_ret (pe_tup (pa_cons (pe_op op_sub (pe_op op_add (pv 6) (pv 8)) (pe_cl (ok_slack T) T.slack (hr.mono (by decide)) (pa_cons (pv 8) (pa_cons (pv 2) pa_nil)))) (pa_cons (pe_op op_add (pe_op op_add (pv 7) (pv 9)) (pe_cl (ok_slack T) T.slack (hr.mono (by decide)) (pa_cons (pv 9) (pa_cons (pv 2) pa_nil)))) pa_nil)))))))))), ?_⟩
    refine ⟨_, rfl, _, rfl, fun ok => ?_, eO⟩
    refine ⟨_, rfl, t, _, rfl, hT, rfl, _, _, rfl, _, _, rfl, _, _, rfl, _, _, rfl, _, _, rfl, rfl, ?_⟩
    refine ⟨_, rfl, _, rfl, _, _, rfl, rfl, _, rfl, ?_⟩
    refine ite_dec (fun z => eE ok z) (fun z => ?_)
    obtain ⟨o0, o1⟩ := id ok
    refine ⟨_, rfl, _, rfl, _, _, rfl, rfl, ?_⟩
    refine ⟨_, rfl, _, rfl, _, _, rfl, rfl, ?_⟩
    refine ⟨_, rfl, _, rfl, _, _, rfl, rfl, _, rfl, _, rfl, _, _, rfl, by omega, by omega, _, _, rfl, rfl, ?_⟩
    refine ⟨_, rfl, _, rfl, _, _, rfl, rfl, _, rfl, _, rfl, _, _, rfl, by omega, by omega, _, _, rfl, rfl, (by show 2 ≤ sizeLine; decide), fun u nu => ?_⟩
    exact q ok (by omega) u nu
/-! ### common -/
abbrev n_common : List Str := ["kept", "stretch", "low", "high"]
theorem sc_common : FnScope ["kept", "stretch", "low", "high"] ["kept", "stretch"] (defScope s_common) := ⟨rfl, rfl, rfl, by decide +kernel, rfl, by decide +kernel, by decide +kernel⟩
theorem ok_common (T : Txt K mg a) : FnOk P w K mg base CX0 1 a.f_common a.d_common ["kept", "stretch"] (spCommon K) := by
  refine T.common.F.ok sc_common (fun vs H Q E h => ?_) (fun cdv A outer s H vs Q E hr h => ?_)
  · obtain ⟨v, t, o, x, y, rfl, hV, hT, q⟩ := h
    rfl
  · obtain ⟨v, t, o, x, y, rfl, hV, hT, q⟩ := h
    have hu := hu_of hr
    refine ⟨_, (pss_cons (ps_if (pt_cmpR op_isN (pv 0) pe_non (nomark _)) (pss_one (ps_ret pe_non)) pss_nil)
      (pss_cons (ps_set (i := 2) sc_common.nd rfl (Or.inl rfl) (pe_callB (call_max2 rfl) (by rfl) T.b_max (by decide +kernel) (pa_cons (pe_ix (ixT K) (pv 0) pe_int (fun _ _ => rfl)) (pa_cons (pe_ix (ixT K) (pv 1) pe_int (fun _ _ => rfl)) pa_nil))))
      (pss_cons (ps_set (i := 3) sc_common.nd rfl (Or.inl rfl) (pe_callB (call_min2 rfl) (by rfl) T.b_min (by decide +kernel) (pa_cons (pe_ix (ixT K) (pv 0) pe_int (fun _ _ => rfl)) (pa_cons (pe_ix (ixT K) (pv 1) pe_int (fun _ _ => rfl)) pa_nil))))
      (pss_cons (ps_if (pt_cmpR op_gt (pv 2) (pv 3) (nomark _)) (pss_one (ps_ret pe_non)) pss_nil)
      (pss_one (ps_ret (pe_tup (pa_cons (pv 2) (pa_cons (pv 3) pa_nil))))))))), ?_⟩
    cases o with
    | none =>
      cases (show v = .non from hV)
      refine ⟨_, rfl, rfl, _, rfl, ?_⟩
      refine ite_dec (fun _ => ?_) (fun z => absurd rfl z)
      exact q .non H (Same.refl H) rfl
    | some k =>
      obtain ⟨b, rfl, hK⟩ := hV
      refine ⟨_, rfl, rfl, _, rfl, ?_⟩
      refine ite_dec (fun z => nomatch z) (fun _ => ?_)
      refine ⟨_, rfl, _, _, _, _, rfl, rfl, hK, atI_nat (j := 0) rfl, _, rfl, _, _, _, _, rfl, rfl, hT, atI_nat (j := 0) rfl, _, _, rfl, ?_⟩
      refine ⟨_, rfl, _, _, _, _, rfl, rfl, hK, atI_nat (j := 1) rfl, _, rfl, _, _, _, _, rfl, rfl, hT, atI_nat (j := 1) rfl, _, _, rfl, ?_⟩
      refine ⟨_, rfl, _, rfl, _, _, rfl, rfl, _, rfl, ?_⟩
      refine ite_dec (fun z => ?_) (fun z => ?_)
      · refine q .non H (Same.refl H) ?_
        show ClV K H .non (if _ then _ else _)
        rw [if_pos z]
        rfl
      · refine ⟨_, rfl, _, rfl, (by show 2 ≤ sizeLine; decide), fun u nu => ?_⟩
        refine q (.ref u) _ (same_new nu) ?_
        show ClV K _ (.ref u) (if _ then _ else _)
        rw [if_neg z]
        exact ⟨u, rfl, SqT.of upd_same⟩
/-! ### gathered -/
abbrev n_gathered : List Str := ["letters", "now", "off", "found", "letter", "name", "stretch"]
theorem sc_gathered : FnScope ["letters", "now", "off", "found", "letter", "name", "stretch"] ["letters", "now", "off"] (defScope s_gathered) := ⟨rfl, rfl, rfl, by decide +kernel, rfl, by decide +kernel, by decide +kernel⟩
theorem ok_gathered (T : Txt K mg a) : FnOk P w K mg base (L2.CX P w) 3 a.f_gathered a.d_gathered ["letters", "now", "off"] (spGathered K a.c_BadOff a.c_TooEarly) := by
  refine T.gathered.F.okX sc_gathered (fun vs H Q E h => ?_) (fun cdv A outer s H vs Q E hr h => ?_)
  · obtain ⟨p, as, ls, now, o, rfl, hL, hA, hok, hl, eO, eE, q⟩ := h
    rfl
  · obtain ⟨p, as, ls, now, o, rfl, hL, hA, hok, hl, eO, eE, q⟩ := h
    have hu := hu_of hr
    refine ⟨_, (pss_cons (ps_expr (pe_clX (ok_check_off T) T.check_off (hr.mono (by decide)) (takes_of rfl rfl rfl rfl) (pa_cons (pv 2) pa_nil)))
      (pss_cons (ps_set (i := 3) sc_gathered.nd rfl (Or.inl rfl) pe_dnewK)
      (pss_cons (ps_for (passes_of rfl) rfl (piL K (pv 0)) (pg_name (i := 4) sc_gathered.nd rfl (Or.inl rfl)) (pss_cons (ps_set (i := 5) sc_gathered.nd rfl (Or.inl rfl) (pe_ix (ixT K) (pv 4) pe_int (fun _ _ => rfl)))
      (pss_cons (ps_set (i := 6) sc_gathered.nd rfl (Or.inl rfl) (pe_clX (ok_brought T) T.brought (hr.mono (by decide)) (takes_of rfl rfl rfl rfl) (pa_cons (pv 4) (pa_cons (pv 1) (pa_cons (pv 2) pa_nil)))))
      (pss_cons (ps_if (pt_cmp (pc_din hu (pv 5) (pv 3))) (pss_one (ps_set (i := 6) sc_gathered.nd rfl (Or.inl rfl) (pe_cl (ok_common T) T.common (hr.mono (by decide)) (pa_cons (pe_dget hu (pv 3) (pv 5) (fun _ _ => rfl)) (pa_cons (pv 6) pa_nil))))) pss_nil)
      (pss_one (ps_dput hu (pv 3) (pv 5) (pv 6) rfl))))))
      (pss_one (ps_ret (LiI.pe_listItems rfl (pv 3) (by rfl) T.b_list (by decide +kernel))))))), ?_⟩
    refine ⟨_, rfl, _, rfl, fun ok => ?_, fun bad => eO bad _ (Same.refl _)⟩
    intro d nd
    dsimp only [gName]
    generalize hH1 : upd _ d _ = H1
    obtain ⟨s1, e1⟩ := gen_new hH1 nd
    clear hH1
    refine ⟨_, rfl, p, rfl, ⟨_, s1.seq hL⟩, for_list (K := K) (a := p) (xs := as.map V.ref) (fun i σ H' => Same H H' ∧ ∃ (kvs : List (Key × V)) (v4 v5 v6 : Option V), σ = [some (.ref p), some (.int now), some (.int o), some (.ref d), v4, v5, v6] ∧
        H' d = some (.dK kvs) ∧ KvAt K H' kvs (gath now o (ls.take i)) ∧ ∀ (j : Nat) (x : Let), j < i → ls[j]? = some x → x.b ≤ now)
      ⟨s1, [], none, none, none, rfl, e1, ⟨rfl, fun _ h => nomatch h⟩, fun j x h => absurd h (Nat.not_lt_zero _)⟩ (fun i σ H' _ h => h.1.seq hL) ?_ ?_⟩
    · rintro i v σ H2 hi ⟨s2, kvs, v4, v5, v6, rfl, hd, hK, hj⟩
      obtain ⟨t, x, rfl, ha, hx, hT⟩ := hA.get hi
      have hT2 := Ts.Same.seqT s2 hT
      have xo := hok x (List.mem_of_getElem? hx)
      have hkl : kvs.length ≤ 1000 := by
        have e := congrArg List.length hK.1
        rw [List.length_map, List.length_map] at e
        have e2 : (gath now o (ls.take i)).length ≤ (ls.take i).length := by unfold gath; rw [List.length_map]; exact namesOf_len _
        rw [List.length_take] at e2
        omega
      refine ⟨_, rfl, _, _, _, _, rfl, rfl, hT2, atI_nat (j := 0) rfl, ?_⟩
      refine ⟨_, rfl, _, rfl, _, rfl, t, .str (mkS x.nm), x.s, x.b, x.lo, x.hi, now, o, rfl, hT2, fun bad => absurd ok bad, fun _ lt => eE ok ⟨x, List.mem_of_getElem? hx, lt⟩ _ s2, fun _ le u nu => ?_⟩
      dsimp only [gName]
      generalize hH3 : upd _ u _ = H3
      obtain ⟨s3, e3⟩ := gen_new hH3 nu
      clear hH3
      have hd3 := s3 _ _ hd
      have hK3 := hK.same s3
      refine seq_cut (fun σ' H' => ∃ v' : V, Same H3 H' ∧ ClV K H' v' (if x.nm ∈ namesOf (ls.take i) then joinSt (clkOf now o (ls.take i) x.nm) (brSt now o x) else comb [brSt now o x]) ∧
        σ' = [some (.ref p), some (.int now), some (.int o), some (.ref d), some (.ref t), some (.str (mkS x.nm)), some v']) (fun N hN => ?_) ?_
      · refine ⟨_, rfl, _, rfl, d, _, rfl, DGet.k (k := Sum.inr (mkS x.nm)) hd3, _, rfl, ?_⟩
        by_cases hm : x.nm ∈ namesOf (ls.take i)
        · have hm2 : x.nm ∈ (gath now o (ls.take i)).map (·.1) := by rw [gath_names]; exact hm
          obtain ⟨v0, e0, c0⟩ := hK3.2 (x.nm, clkOf now o (ls.take i) x.nm) (List.mem_map.mpr ⟨x.nm, hm, rfl⟩)
          have e0' : valV kvs (Sum.inr (mkS x.nm) : Key) = some v0 := e0
          rw [e0']
          refine iteT ?_
          have g0 : DGet H3 d (.str (mkS x.nm)) (some v0) := e0' ▸ DGet.k (k := Sum.inr (mkS x.nm)) hd3
          refine ⟨_, rfl, _, rfl, d, v0, rfl, g0, _, rfl, v0, u, clkOf now o (ls.take i) x.nm, _, _, rfl, c0, SqT.of e3, fun v' H4 s4 c4 => ?_⟩
          exact hN _ _ ⟨v', s4, by rw [if_pos hm]; exact c4, rfl⟩
        · have e0 : valV kvs (Sum.inr (mkS x.nm) : Key) = none := hK3.none_of (by rw [gath_names]; exact hm)
          rw [e0]
          refine iteF ?_
          refine hN _ _ ⟨.ref u, Same.refl _, ?_, rfl⟩
          rw [if_neg hm, comb_one (brSt_le xo ok le)]
          exact ⟨u, rfl, SqT.of e3⟩
      rintro σ' H4 ⟨v', s4, c4, rfl⟩
      have hd4 := s4 _ _ hd3
      refine ⟨_, rfl, _, rfl, _, rfl, d, _, rfl, DPut.k (k := Sum.inr (mkS x.nm)) hd4 (small1000 hkl), ?_⟩
      refine ⟨Same.mut ((s2.trans s3).trans s4) nd, putK kvs (Sum.inr (mkS x.nm)) v', some (.ref t), some (.str (mkS x.nm)), some v', rfl, upd_same, ?_, fun j y hji hy => ?_⟩
      · rw [take_snoc hx]
        exact ((hK3.same s4).put c4).off hd4
      · by_cases e : j = i
        · subst e
          rw [hx] at hy
          cases hy
          exact le
        · exact hj j y (by omega) hy
    · rintro σ H2 ⟨s2, kvs, v4, v5, v6, rfl, hd, hK, hj⟩
      refine ⟨_, rfl, d, kvs, rfl, hd, fun H3 p' ts s3 np' nt nin ep hp => ?_⟩
      rw [List.length_map, hA.1, List.take_length] at hK
      refine q ok (fun x hx => ?_) p' _ H3 (s2.trans s3) (ClksAt.items (hK.same s3) hp) ep (s2.free np')
      obtain ⟨j, hjx⟩ := List.getElem?_of_mem hx
      exact hj j x (by rw [List.length_map, hA.1]; exact (List.getElem?_eq_some_iff.mp hjx).1) hjx
/-! ### tallies -/
abbrev n_tallies : List Str := ["clocks", "turns", "_", "stretch", "low", "high", "found", "many", "point"]
theorem sc_tallies : FnScope ["clocks", "turns", "_", "stretch", "low", "high", "found", "many", "point"] ["clocks"] (defScope s_tallies) := ⟨rfl, rfl, rfl, by decide +kernel, rfl, by decide +kernel, by decide +kernel⟩
theorem ok_tallies (T : Txt K mg a) : FnOk P w K mg base CX0 1 a.f_tallies a.d_tallies ["clocks"] (spTallies K) := by
  refine T.tallies.F.ok sc_tallies (fun vs H Q E h => ?_) (fun cdv A outer s H vs Q E hr h => ?_)
  · obtain ⟨q, xs, cs, rfl, hL, hC, hl, hok, k⟩ := h
    rfl
  · obtain ⟨q, xs, cs, rfl, hL, hC, hl, hok, k⟩ := h
    have hu := hu_of hr
    refine ⟨_, (pss_cons (ps_set (i := 1) sc_tallies.nd rfl (Or.inl rfl) pe_dnewK)
      (pss_cons (ps_for PassesOwn.never rfl (piL K (pv 0)) (pg_tup (by rfl) (pgs_cons (pg_name (i := 2) sc_tallies.nd rfl (Or.inl rfl)) (pgs_cons (pg_name (i := 3) sc_tallies.nd rfl (Or.inl rfl)) pgs_nil))) (pss_one (ps_if (pt_cmpR op_notN (pv 3) pe_non (nomark _)) (pss_cons (ps_asg (pv 3) (pg_tup (by rfl) (pgs_cons (pg_name (i := 4) sc_tallies.nd rfl (Or.inl rfl)) (pgs_cons (pg_name (i := 5) sc_tallies.nd rfl (Or.inl rfl)) pgs_nil))))
      (pss_cons (ps_dput hu (pv 1) (pv 4) (pe_op op_add (pe_dget2 hu (pv 1) (pv 4) pe_int ⟨rfl, rfl, rfl, rfl⟩) pe_int) rfl)
      (pss_one (ps_dput hu (pv 1) (pe_op op_add (pv 5) pe_int) (pe_op op_sub (pe_dget2 hu (pv 1) (pe_op op_add (pv 5) pe_int) pe_int ⟨rfl, rfl, rfl, rfl⟩) pe_int) rfl)))) pss_nil)))
      (pss_cons (ps_set (i := 6) sc_tallies.nd rfl (Or.inl rfl) (pe_lst pa_nil))
      (pss_cons (ps_set (i := 7) sc_tallies.nd rfl (Or.inl rfl) pe_int)
      (pss_cons (ps_for PassesOwn.never rfl (piL K (pe_callB (call_sortedDA rfl) (by rfl) T.b_sorted (by decide +kernel) (pa_cons (pv 1) pa_nil))) (pg_name (i := 8) sc_tallies.nd rfl (Or.inl rfl)) (pss_cons (ps_set (i := 7) sc_tallies.nd rfl (Or.inl rfl) (pe_op op_add (pv 7) (pe_dget hu (pv 1) (pv 8) (fun _ _ => rfl))))
      (pss_one (ps_expr (pe_bm PySem.F.plainAttrs_list PySem.F.slot_list_append PySem.F.type_list_append mt_append (pv 6) (pa_cons (pe_tup (pa_cons (pv 8) (pa_cons (pv 7) pa_nil))) pa_nil))))))
      (pss_one (ps_ret (pv 6)))))))), ?_⟩
    intro d nd
    dsimp only [gName]
    generalize hH1 : upd _ d _ = H1
    obtain ⟨s1, e1⟩ := gen_new hH1 nd
    clear hH1
    refine ⟨_, rfl, q, rfl, ⟨_, s1.seq hL⟩, for_list (K := K) (a := q) (xs := xs) (fun i σ H' => Same H H' ∧ ∃ (kvs : List (Key × V)) (v2 v3 v4 v5 : Option V), σ = [some (.ref q), some (.ref d), v2, v3, v4, v5, none, none, none] ∧
        H' d = some (.dK kvs) ∧ TurnsAt kvs (cs.take i))
      ⟨s1, [], none, none, none, none, rfl, e1, [], DF.nil, fun x => Iff.rfl, Nat.zero_le _⟩ (fun i σ H' _ h => h.1.seq hL) ?_ ?_⟩
    · rintro i v σ H2 hi ⟨s2, kvs, v2, v3, v4, v5, rfl, hd, ks, D, hk, hkl⟩
      obtain ⟨c, hc, u, w, rfl, hT, hV⟩ := (hC.same s2).get hi
      have hcm : c ∈ cs := List.mem_of_getElem? hc
      have hil : i < cs.length := (List.getElem?_eq_some_iff.mp hc).1
      have hlen : ks.length ≤ 2000 := by
        rw [List.length_take] at hkl
        omega
      rw [take_snoc hc]
      refine ⟨u, _, rfl, hT, rfl, _, _, rfl, _, _, rfl, rfl, ?_⟩
      obtain ⟨cn, co⟩ := c
      cases co with
      | none =>
        cases (show w = .non from hV)
        refine ⟨_, rfl, rfl, _, rfl, ?_⟩
        refine iteF ?_
        refine ⟨s2, kvs, _, _, _, _, rfl, hd, ks, D.congr fun x _ => ?_, fun x => ?_, ?_⟩
        · rw [dl_snoc]
          show _ = _ + 0
          omega
        · rw [edgesC_none]; exact hk x
        · rw [List.length_append]; omega
      | some st =>
        obtain ⟨b, rfl, hB⟩ := hV
        have kl : kvs.length = ks.length := by
          have e := congrArg List.length D.keys
          rwa [List.length_map, List.length_map] at e
        have D1 := D.put st.1 ((if st.1 ∈ ks then dl (cs.take i) st.1 else 0) + 1)
        have kl1 : (putK kvs (Sum.inl st.1 : Key) (V.int ((if st.1 ∈ ks then dl (cs.take i) st.1 else 0) + 1))).length = (addI ks st.1).length := by
          have e := congrArg List.length D1.keys
          rwa [List.length_map, List.length_map] at e
        have kl2 := addI_len (ks := ks) (x := st.1)
        refine ⟨_, rfl, rfl, _, rfl, ?_⟩
        refine iteT ?_
        refine ⟨_, rfl, b, _, rfl, hB, rfl, _, _, rfl, _, _, rfl, rfl, ?_⟩
        refine ⟨_, rfl, d, rfl, .inl ⟨_, .inl hd⟩, _, rfl, _, DGet.k (k := Sum.inl st.1) hd, _, _, D.getD st.1, rfl, ?_⟩
        refine ⟨_, rfl, _, rfl, d, _, rfl, DPut.k (k := Sum.inl st.1) hd (Nat.lt_of_le_of_lt (show kvs.length ≤ 2000 by omega) (by decide)), ?_⟩
        dsimp only [gName]
        have hd1 : (upd H2 d (.dK (putK kvs (Sum.inl st.1 : Key) (V.int ((if st.1 ∈ ks then dl (cs.take i) st.1 else 0) + 1))))) d = some (.dK (putK kvs (Sum.inl st.1 : Key) (V.int ((if st.1 ∈ ks then dl (cs.take i) st.1 else 0) + 1)))) := upd_same
        refine ⟨_, rfl, d, rfl, .inl ⟨_, .inl hd1⟩, _, rfl, _, _, rfl, rfl, _, DGet.k (k := Sum.inl (st.2 + 1)) hd1, _, _, D1.getD (st.2 + 1), rfl, ?_⟩
        refine ⟨_, rfl, _, rfl, _, _, rfl, rfl, d, _, rfl, DPut.k (k := Sum.inl (st.2 + 1)) hd1 (Nat.lt_of_le_of_lt (show _ ≤ 2001 by omega) (by decide)), ?_⟩
        exact ⟨Same.mut (Same.mut s2 nd) nd, _, _, _, _, _, rfl, upd_same, TurnsAt.two D hk hkl (hok.st _ hcm st rfl)⟩
    · rintro σ H2 ⟨s2, kvs, v2, v3, v4, v5, rfl, hd, ks, D, hk, hkl⟩
      rw [hC.1, List.take_length] at D hk hkl
      refine ⟨(by show 0 ≤ sizeLine; decide), fun pm nm => ?_⟩
      dsimp only [gName]
      generalize hH3 : upd _ pm _ = H3
      obtain ⟨s3, e3⟩ := gen_new hH3 nm
      clear hH3
      refine ⟨_, rfl, d, kvs, ks, rfl, s3 _ _ hd, D.keys, Nat.le_trans (show ks.length ≤ 2000 by omega) (by decide), fun ys p6 hp hs n6 => ?_⟩
      generalize hH4 : upd _ p6 _ = H4
      obtain ⟨s4, e4⟩ := gen_new hH4 n6
      clear hH4
      have hm : ∀ x, x ∈ ys ↔ x ∈ edgesC cs := fun x => hp.mem_iff.trans (hk x)
      have hnd : ys.Nodup := hp.symm.nodup_iff.mp D.nd
      have hlt : ys.Pairwise (· < ·) := (List.pairwise_and_iff.mpr ⟨hs, hnd⟩).imp fun {a b} h => by
        obtain ⟨h1, h2⟩ := h
        omega
      have hyl : ys.length ≤ 2000 := by rw [hp.length_eq]; omega
      have np : p6 ≠ pm := fun z => by
        rw [z, e3] at n6
        cases n6
      refine ⟨p6, rfl, ⟨_, SqL.of e4⟩, for_list (K := K) (a := p6) (xs := ys.map V.int) (fun i σ H' => Same H2 H' ∧ H' p6 = some (.lst (ys.map V.int)) ∧ ∃ (bs : List Addr) (v8 : Option V), σ = [some (.ref q), some (.ref d), v2, v3, v4, v5, some (.ref pm), some (.int (prevM cs ys i)), v8] ∧
          H' pm = some (.lst (bs.map V.ref)) ∧ StsAt K H' bs ((ys.take i).map fun p => (p, (manyC cs p : Int))))
        ⟨s3.trans s4, e4, [], none, rfl, s4 _ _ e3, StsAt.nil⟩ (fun i σ H' _ h => SqL.of h.2.1) ?_ ?_⟩
      · rintro i v σ H' hi ⟨s5, e6, bs, v8, rfl, epm, hS⟩
        rw [List.getElem?_map] at hi
        cases hy : ys[i]? with
        | none => rw [hy] at hi; cases hi
        | some p =>
          rw [hy] at hi
          cases hi
          have hpk : p ∈ ks := hp.mem_iff.mp (List.mem_of_getElem? hy)
          have g0 : DGet H' d (.int p) (some (.int (dl cs p))) := D.val p hpk ▸ DGet.k (k := Sum.inl p) (s5 _ _ hd)
          have hM := prevM_step hok.st hm hlt hy
          have hM1 : prevM cs ys (i + 1) = (manyC cs p : Int) := prevM_succ hy
          refine ⟨_, rfl, _, rfl, _, rfl, d, _, rfl, g0, _, _, rfl, rfl, ?_⟩
          dsimp only [gName]
          rw [hM]
          refine ⟨_, rfl, .inl ⟨rfl, _, SqL.of epm⟩, _, rfl, _, rfl, (by show 2 ≤ sizeLine; decide), fun t nt => ?_⟩
          have sx : Same H' (upd H' t (.tup [.int p, .int (manyC cs p : Int)])) := same_new nt
          have em9 := (upd_ne (ne_of_none epm nt) (o := .tup [.int p, .int (manyC cs p : Int)])).trans epm
          refine ⟨pm, _, .ref t, rfl, rfl, em9, ?_, ?_⟩
          · have := hS.1
            rw [List.length_map, List.length_take] at this
            rw [List.length_map]
            exact Nat.lt_of_le_of_lt (show _ ≤ 2000 by omega) (by decide)
          refine ⟨Same.mut (s5.trans sx) nm, (upd_ne np).trans (sx _ _ e6), bs ++ [t], _, by rw [hM1]; rfl, ?_, ?_⟩
          · rw [List.map_append]
            exact upd_same
          · rw [take_snoc hy, List.map_append]
            exact (((hS.same sx).snoc (t := (p, (manyC cs p : Int))) (SqT.of upd_same))).off em9 (fun _ z => nomatch z) (fun _ _ z => nomatch z)
      · rintro σ H' ⟨s5, e6, bs, v8, rfl, epm, hS⟩
        rw [List.length_map, List.take_length] at hS
        exact ⟨_, rfl, k pm bs _ H' (tal_mk hok.st hm hlt) (by rw [List.length_map]; exact hyl) (s2.trans s5) (s2.free nm) epm hS⟩
/-! ### parts -/
abbrev n_parts : List Str := ["clocks", "need", "found", "start", "point", "many"]
theorem sc_parts : FnScope ["clocks", "need", "found", "start", "point", "many"] ["clocks", "need"] (defScope s_parts) := ⟨rfl, rfl, rfl, by decide +kernel, rfl, by decide +kernel, by decide +kernel⟩
theorem ok_parts (T : Txt K mg a) : FnOk P w K mg base CX0 2 a.f_parts a.d_parts ["clocks", "need"] (spParts K) := by
  refine T.parts.F.ok sc_parts (fun vs H Q E h => ?_) (fun cdv A outer s H vs Q E hr h => ?_)
  · obtain ⟨q, xs, cs, need, rfl, hL, hC, hl, hok, hn, k⟩ := h
    rfl
  · obtain ⟨q, xs, cs, need, rfl, hL, hC, hl, hok, hn, k⟩ := h
    have hu := hu_of hr
    refine ⟨_, (pss_cons (ps_set (i := 2) sc_parts.nd rfl (Or.inl rfl) (pe_lst pa_nil))
      (pss_cons (ps_set (i := 3) sc_parts.nd rfl (Or.inl rfl) pe_non)
      (pss_cons (ps_for PassesOwn.never rfl (piL K (pe_cl (ok_tallies T) T.tallies (hr.mono (by decide)) (pa_cons (pv 0) pa_nil))) (pg_tup (by rfl) (pgs_cons (pg_name (i := 4) sc_parts.nd rfl (Or.inl rfl)) (pgs_cons (pg_name (i := 5) sc_parts.nd rfl (Or.inl rfl)) pgs_nil))) (pss_one (ps_if (PW.pt (pw_and (pt_cmpR op_isN (pv 3) pe_non (nomark _)) (pw_and1 (pt_cmpR op_ge (pv 5) (pv 1) (nomark _))))) (pss_one (ps_set (i := 3) sc_parts.nd rfl (Or.inl rfl) (pv 4))) (pss_one (ps_if (PW.pt (pw_and (pt_cmpR op_notN (pv 3) pe_non (nomark _)) (pw_and1 (pt_cmpR op_lt (pv 5) (pv 1) (nomark _))))) (pss_cons (ps_expr (pe_bm PySem.F.plainAttrs_list PySem.F.slot_list_append PySem.F.type_list_append mt_append (pv 2) (pa_cons (pe_tup (pa_cons (pv 3) (pa_cons (pe_op op_sub (pv 4) pe_int) pa_nil))) pa_nil)))
      (pss_one (ps_set (i := 3) sc_parts.nd rfl (Or.inl rfl) pe_non))) pss_nil)))))
      (pss_one (ps_ret (pv 2)))))), ?_⟩
    refine ⟨(by show 0 ≤ sizeLine; decide), fun pm nm => ?_⟩
    dsimp only [gName]
    generalize hH1 : upd _ pm _ = H1
    obtain ⟨s1, e1⟩ := gen_new hH1 nm
    clear hH1
    refine ⟨_, rfl, q, xs, cs, rfl, s1.seq hL, hC.same s1, hl, hok, fun p6 as L H2 T hLl s2 n6 e6 hA => ?_⟩
    have np : p6 ≠ pm := fun z => by
      rw [z, e1] at n6
      cases n6
    refine ⟨p6, rfl, ⟨_, SqL.of e6⟩, for_list (K := K) (a := p6) (xs := as.map V.ref) (fun i σ H' => Same H H' ∧ H' p6 = some (.lst (as.map V.ref)) ∧ StsAt K H' as L ∧ ∃ (bs : List Addr) (ts : List St2) (o : Option Int) (v4 v5 : Option V),
        σ = [some (.ref q), some (.int need), some (.ref pm), some (optV o), v4, v5] ∧ H' pm = some (.lst (bs.map V.ref)) ∧ StsAt K H' bs ts ∧ PIn cs need L i ts o ∧ ts.length ≤ i)
      ⟨s1.trans s2, e6, hA, [], [], none, none, none, rfl, s2 _ _ e1, StsAt.nil, PIn.zero T hn, Nat.le_refl _⟩ (fun i σ H' _ h => SqL.of h.2.1) ?_ ?_⟩
    · rintro i v σ H' hi ⟨s3, e3, hA3, bs, ts, o, v4, v5, rfl, epm, hS, hP, htl⟩
      obtain ⟨b, ⟨p, m⟩, rfl, ht, hT⟩ := hA3.get hi
      have hil : i < L.length := (List.getElem?_eq_some_iff.mp ht).1
      refine ⟨b, _, rfl, hT, rfl, _, _, rfl, _, _, rfl, rfl, ?_⟩
      dsimp only [gName]
      refine ⟨_, rfl, rfl, _, rfl, ?_⟩
      cases o with
      | none =>
        refine iteT ?_
        refine ⟨_, rfl, _, rfl, _, _, rfl, rfl, _, rfl, ?_⟩
        refine ite_dec (fun z => ?_) (fun z => ?_)
        · refine ⟨_, rfl, ?_⟩
          exact ⟨s3, e3, hA3, bs, ts, some p, _, _, rfl, epm, hS, hP.begin T ht (by omega), by omega⟩
        · refine ⟨_, rfl, rfl, _, rfl, ?_⟩
          refine iteF ?_
          exact ⟨s3, e3, hA3, bs, ts, none, _, _, rfl, epm, hS, hP.out T ht (by omega), by omega⟩
      | some s' =>
        refine iteF ?_
        refine ⟨_, rfl, rfl, _, rfl, ?_⟩
        refine iteT ?_
        refine ⟨_, rfl, _, rfl, _, _, rfl, rfl, _, rfl, ?_⟩
        refine ite_dec (fun z => ?_) (fun z => ?_)
        · refine ⟨_, rfl, .inl ⟨rfl, _, SqL.of epm⟩, _, rfl, _, rfl, _, _, rfl, rfl, (by show 2 ≤ sizeLine; decide), fun t nt => ?_⟩
          have sx : Same H' (upd H' t (.tup [.int s', .int (p - 1)])) := same_new nt
          have em9 := (upd_ne (ne_of_none epm nt) (o := .tup [.int s', .int (p - 1)])).trans epm
          refine ⟨pm, _, .ref t, rfl, rfl, em9, ?_, ?_⟩
          · have := hS.1
            rw [List.length_map]
            exact Nat.lt_of_le_of_lt (show _ ≤ 2000 by omega) (by decide)
          dsimp only [gName]
          refine ⟨Same.mut (s3.trans sx) nm, (upd_ne np).trans (sx _ _ e3), (hA3.same sx).off em9 (fun _ z => nomatch z) (fun _ _ z => nomatch z), bs ++ [t], ts ++ [(s', p - 1)], none, _, _, rfl, ?_, ?_, hP.close T ht (by omega), ?_⟩
          · rw [List.map_append]
            exact upd_same
          · exact (((hS.same sx).snoc (t := (s', p - 1)) (SqT.of upd_same))).off em9 (fun _ z => nomatch z) (fun _ _ z => nomatch z)
          · rw [List.length_append]
            simp only [List.length_cons, List.length_nil]
            omega
        · exact ⟨s3, e3, hA3, bs, ts, some s', _, _, rfl, epm, hS, hP.on T ht (by omega), by omega⟩
    · rintro σ H' ⟨s3, e3, hA3, bs, ts, o, v4, v5, rfl, epm, hS, hP, htl⟩
      have el : (as.map V.ref).length = L.length := by rw [List.length_map, hA.1]
      rw [el] at hP htl
      exact ⟨_, rfl, k pm bs ts H' (hP.done T hn) (by omega) s3 nm epm hS⟩
/-! ### most_wrong -/
abbrev n_most_wrong : List Str := ["bad", "many"]
theorem sc_most_wrong : FnScope ["bad", "many"] ["bad", "many"] (defScope s_most_wrong) := ⟨rfl, rfl, rfl, by decide +kernel, rfl, by decide +kernel, by decide +kernel⟩
theorem ok_most_wrong (T : Txt K mg a) : FnOk P w K mg base (L2.CX P w) 1 a.f_most_wrong a.d_most_wrong ["bad", "many"] (spMostWrong a.c_BadCount) := by
  refine T.most_wrong.F.okX sc_most_wrong (fun vs H Q E h => ?_) (fun cdv A outer s H vs Q E hr h => ?_)
  · obtain ⟨f, n, rfl, q0, q1, e1⟩ := h
    rfl
  · obtain ⟨f, n, rfl, q0, q1, e1⟩ := h
    have hu := hu_of hr
    refine ⟨_, (pss_cons (ps_if (pt_cmpR op_isN (pv 0) pe_non (nomark _)) (pss_one (ps_ret (pe_op (op_divc (c := 2) (by decide) (by decide)) (pe_op op_sub (pv 1) pe_int) pe_int))) pss_nil)
      (pss_cons (ps_if (pt_not (pt_chain op_le op_lt pe_int (pv 0) (pv 1))) (pss_one (ps_rs rfl (takes_of rfl rfl rfl rfl) T.BadCount)) pss_nil)
      (pss_one (ps_ret (pv 0))))), ?_⟩
    refine ⟨_, rfl, rfl, _, rfl, ?_⟩
    cases f with
    | none =>
      refine iteT ?_
      exact ⟨_, rfl, _, _, rfl, rfl, _, rfl, rfl, q0 rfl⟩
    | some b =>
      refine iteF ?_
      refine ⟨_, rfl, _, _, rfl, rfl, _, rfl, ?_⟩
      refine ite_dec (fun h1 => ?_) (fun h1 => ?_)
      · refine ⟨_, rfl, _, _, rfl, rfl, _, rfl, ?_⟩
        by_cases h2 : b < n
        · rw [decide_eq_true h2]
          refine iteF ?_
          exact ⟨_, rfl, q1 b rfl ⟨h1, h2⟩⟩
        · rw [decide_eq_false h2]
          refine iteT ?_
          exact e1 b rfl fun z => h2 z.2
      · refine ⟨_, rfl, ?_⟩
        refine iteT ?_
        exact e1 b rfl fun z => h1 z.1
/-! ### meets -/
abbrev n_meets : List Str := ["stretch", "some"]
theorem sc_meets : FnScope ["stretch", "some"] ["stretch", "some"] (defScope s_meets) := ⟨rfl, rfl, rfl, by decide +kernel, rfl, by decide +kernel, by decide +kernel⟩
--own
theorem common_quiet (T : Txt K mg a) (M : Mod K mg base) {A : Around} {E : Value → Shared → Prop} {s : Shared} {v : Value} {tb : Addr} {t1 t2 : Tok} {o : Option St2} {t : St2} {Q : Value → Shared → Prop} (hA : A.handled = none) (hroom : A.depth + 5 < recursionLimit)
    (hk : ∀ b o, base.get? b = some o → s.heap.get? b = some o) (hv : QSt s.heap v o) (ht : IsTup s.heap tb #[.int t.1 t1, .int t.2 t2])
    (hQ : ∀ (r : Value) (s' : Shared), (r == .none) = (joinSt o t).isNone → Keeps s s' → Q r s') : wpAny (model P w) A (call (.ref a.f_common) [v, .ref tb]) Q E s := by
  refine quiet_call T.common M (by omega) hk rfl (by decide +kernel) (by decide +kernel) rfl rfl rfl (fun h₀ cd F => ?_)
  have hv0 := hv.keeps F.keep
  have ht0 := ht.keeps F.keep
  have hk0 : ∀ b u, base.get? b = some u → h₀.get? b = some u := fun b u e => F.keep b u (hk b u e)
  refine wpAny_execs_cons (wpAny_If (wpAny_isTrue_Compare1 (PySem.W.nameX_L F (v := v) rfl (Constant_none (is_none_gen (wpAny_truthy_bool ?_)))) rfl))
  cases o with
  | none =>
    cases (show v = .none from hv)
    refine ite_tt ?_
    refine wpAny_execs_cons (wpAny_Return_some (Constant_none ?_))
    exact hQ _ _ rfl ⟨_, _, rfl, F.keep⟩
  | some k =>
    obtain ⟨b, u1, u2, rfl, hb⟩ := id hv
    have hb0 := hb.keeps F.keep
    refine ite_ff ?_
    refine wpAny_execs_nil ?_
    -- low
    refine wpAny_execs_cons (wpAny_Assign_Name (wpAny_Call_Name_kw (q_blt (u := .builtin "max") M hk0 T.b_max (by decide +kernel) ?_)) rfl)
    refine PyProof.Rows.callWith_builtin1 ?_ rfl (by rfl)
    show wpAny _ _ (spliced ((false, _) :: (false, _) :: [])) _ _ _
    refine Calls.spliced_cons (q_item (j := 0) F (b := b) rfl hb0 rfl (by decide) ?_)
    refine Calls.spliced_cons (q_item (j := 0) F (b := tb) rfl ht0 rfl (by decide) ?_)
    refine Calls.spliced_nil ?_
    refine max_two_ints hA fun h1 tk1 k1 => ?_
    have F1 : Fr s.heap s.heap.objs.size h1 _ := ⟨F.ns.keeps k1, fun b u e => k1 b u (F.keep b u e), F.above⟩
    obtain ⟨l1, e1⟩ : ∃ l1 : Tok, (if t.1 > k.1 then Value.int t.1 t1 else Value.int k.1 u1) = .int (if t.1 > k.1 then t.1 else k.1) l1 := by
      split
      · exact ⟨_, rfl⟩
      · exact ⟨_, rfl⟩
    rw [e1]
    refine PySem.W.storeX_L F1 (News.nil) (fun h2 F2 _ => ?_) rfl rfl
    -- high
    have hk2 : ∀ b u, base.get? b = some u → h2.get? b = some u := fun b u e => F2.keep b u (hk b u e)
    refine wpAny_execs_cons (wpAny_Assign_Name (wpAny_Call_Name_kw (q_blt (u := .builtin "min") M hk2 T.b_min (by decide +kernel) ?_)) rfl)
    refine PyProof.Rows.callWith_builtin1 ?_ rfl (by rfl)
    show wpAny _ _ (spliced ((false, _) :: (false, _) :: [])) _ _ _
    refine Calls.spliced_cons (q_item (j := 1) F2 (b := b) rfl (hb.keeps F2.keep) rfl (by decide) ?_)
    refine Calls.spliced_cons (q_item (j := 1) F2 (b := tb) rfl (ht.keeps F2.keep) rfl (by decide) ?_)
    refine Calls.spliced_nil ?_
    refine min_two_ints hA fun h3 tk3 k3 => ?_
    have F3 : Fr s.heap s.heap.objs.size h3 _ := ⟨F2.ns.keeps k3, fun b u e => k3 b u (F2.keep b u e), F2.above⟩
    obtain ⟨l2, e2⟩ : ∃ l2 : Tok, (if t.2 < k.2 then Value.int t.2 t2 else Value.int k.2 u2) = .int (if t.2 < k.2 then t.2 else k.2) l2 := by
      split
      · exact ⟨_, rfl⟩
      · exact ⟨_, rfl⟩
    rw [e2]
    refine PySem.W.storeX_L F3 (News.nil) (fun h4 F4 _ => ?_) rfl rfl
    -- low > high
    refine wpAny_execs_cons (wpAny_If (wpAny_isTrue_Compare1 (PySem.W.nameX_L F4 (v := .int (if t.1 > k.1 then t.1 else k.1) l1) rfl (PySem.W.nameX_L F4 (v := .int (if t.2 < k.2 then t.2 else k.2) l2) rfl (gt_int (wpAny_truthy_bool ?_)))) rfl))
    unfold joinSt at hQ
    dsimp only at hQ
    by_cases hgt : (if t.1 > k.1 then t.1 else k.1) > (if t.2 < k.2 then t.2 else k.2)
    · rw [decide_eq_true hgt]
      rw [if_pos hgt] at hQ
      refine ite_tt ?_
      refine wpAny_execs_cons (wpAny_Return_some (Constant_none ?_))
      exact hQ _ _ rfl ⟨_, _, rfl, F4.keep⟩
    · rw [decide_eq_false hgt]
      rw [if_neg hgt] at hQ
      refine ite_ff ?_
      refine wpAny_execs_nil ?_
      refine wpAny_execs_cons (wpAny_Return_some (wpAny_Tuple_spliced ?_))
      show wpAny _ _ (spliced ((false, _) :: (false, _) :: [])) _ _ _
      refine Calls.spliced_cons (PySem.W.nameX_L F4 (v := .int (if t.1 > k.1 then t.1 else k.1) l1) rfl ?_)
      refine Calls.spliced_cons (PySem.W.nameX_L F4 (v := .int (if t.2 < k.2 then t.2 else k.2) l2) rfl ?_)
      refine Calls.spliced_nil ?_
      exact ⟨by show 2 ≤ sizeLine; decide, hQ _ _ rfl ⟨_, _, rfl, fun b u e => Heap.get?_push_of_some _ (F4.keep b u e)⟩⟩
theorem ok_meets (T : Txt K mg a) (TB_meets : GxR.TabB base mg a.k_tab_meets a.P_tab_meets) : FnOk P w K mg base CX0 2 a.f_meets a.d_meets ["stretch", "some"] (spMeets K a.P_tab_meets) := by
  refine fn_code T.meets.F T.h_tab_meets sc_meets (fun vs H Q E h => ?_) (fun A outer s H vs Q E hr h => ?_)
  · obtain ⟨v, o, p, bs, ts, rfl, _⟩ := h
    rfl
  · obtain ⟨v, o, p, bs, ts, rfl, hV, hL, hS, ho, hts, hT, q⟩ := h
    refine ⟨_, (pss_one (ps_ret (pe_anyL hr (by rfl) T.b_any TB_meets rfl (gs_free (y := "stretch") rfl rfl (by decide +kernel) rfl rfl rfl) (pv 1) (fun _ => rfl)))), ?_⟩
    refine ⟨_, rfl, p, bs.map V.ref, atF ts (fun t => meetsC [t] ([], o)), rfl, hL, hT, ?_, fun H2 hH => ?_⟩
    · intro pins s1 I cenv A' E' i y u t m₂ hy ry hsc hgl hbl hce hA hD hU hn hm hk
      obtain ⟨tb, st, rfl, hti, hT2⟩ := hS.get hy
      cases (show u = .ref tb from ry)
      obtain ⟨c1, c2, it⟩ := tup_st I hT2
      obtain ⟨ps, hP, _⟩ := id hT
      have hPo : s1.heap.get? a.P_tab_meets = some { cls := .none, data := .fields ps } := I.hok a.P_tab_meets _ hP
      have tupP : ∀ {b : Addr} {items : Array Value}, IsTup s1.heap b items → IsTup t.heap b items := fun {b items} h => by
        obtain ⟨ob, ho, hcl, hd⟩ := h
        refine ⟨ob, hk b ob (fun z => ?_) ho, hcl, hd⟩
        rw [z, hPo] at ho
        cases ho
        cases hcl
      have hkb : ∀ b o, base.get? b = some o → t.heap.get? b = some o := fun b o e => hk b o (fun z => by
        have := (I.bs b o e).2
        rw [z, hP] at this
        cases this) (I.bk b o e)
      obtain ⟨m, hns, hl⟩ := I.loc
      obtain ⟨uv, ruv, lk⟩ := hl 0 "stretch" v rfl rfl (.inr (.inl rfl))
      obtain ⟨c, hc, oc, goc, doc⟩ : ∃ c, (envOfC "meets" (defScope s_meets) s.heap.objs.size a.f_meets (.ref a.k_tab_meets)).cells.lookup ("stretch" : Str) = some c ∧ s1.heap.IsCell c (some uv) := by
        rcases lk with ⟨z, _⟩ | ⟨_, z⟩
        · exact nomatch (z.symm.trans (rfl : (envOfC "meets" (defScope s_meets) s.heap.objs.size a.f_meets (.ref a.k_tab_meets)).kindOf "stretch" = some NameKind.cell))
        · exact z
      have hcP : c ≠ a.P_tab_meets := fun z => by
        have := I.freeC "stretch" c hc
        rw [z, hP] at this
        cases this
      have hcell : t.heap.IsCell c (some uv) := ⟨oc, hk c oc hcP goc, doc⟩
      have hq : QSt t.heap uv o := by
        cases o with
        | none =>
          cases (show v = .non from hV)
          exact ruv
        | some k =>
          obtain ⟨b, rfl, hB⟩ := hV
          cases (show uv = .ref b from ruv)
          obtain ⟨d1, d2, ib⟩ := tup_st I hB
          exact ⟨b, d1, d2, rfl, tupP ib⟩
      cases cenv
      dsimp only at hsc hgl hbl hce hn
      subst hsc hgl hbl hce
      refine wpAny_Compare1 (wpAny_Call_Name_kw (Calls.Name_function_global rfl rfl (Calls.loadGlobal_global (I.mod.glob.keeps hkb) T.common.g ?_))) rfl
      refine PySem.W.callWith_K (h₀ := base) I.mod.kin T.common.F.kp ?_ rfl rfl
      show wpAny _ _ (spliced ((false, _) :: (false, _) :: [])) _ _ _
      refine Calls.spliced_cons (wpAny_Name (wpAny_loadName_free rfl rfl (show _ = some c from hc) hcell ?_))
      refine Calls.spliced_cons (wpAny_Name (wpAny_loadName_local rfl rfl hn hm ?_))
      refine Calls.spliced_nil ⟨I.mod.kin.keeps hkb, ?_⟩
      have hrd := hr.dp
      refine common_quiet T I.mod hA (show A'.depth + 5 < recursionLimit from ?_) hkb hq (tupP it) fun r s' hr' hK => ?_
      · have hD2 : A'.depth ≤ (A.deeper (envOfC "meets" (defScope s_meets) s.heap.objs.size a.f_meets (.ref a.k_tab_meets))).depth + 1 := hD
        omega
      refine Constant_none (isnot_none_gen ⟨?_, hK⟩)
      rw [hr', atF_some hti, join_meets ho (hts st (List.mem_of_getElem? hti))]
    · have e : (List.range (bs.map V.ref).length).any (atF ts (fun t => meetsC [t] ([], o))) = meetsC ts ([], o) := by
        rw [List.length_map, hS.1, any_range, meets_any]
      rw [e]
      exact q H2 (Kp.tab hH hT)

/-! ### sure -/
abbrev n_sure : List Str := ["letters", "now", "off", "bad", "clocks", "need", "some", "wrong", "name", "stretch"]
theorem sc_sure : FnScope ["letters", "now", "off", "bad", "clocks", "need", "some", "wrong", "name", "stretch"] ["letters", "now", "off", "bad"] (defScope s_sure) := ⟨rfl, rfl, rfl, by decide +kernel, rfl, by decide +kernel, by decide +kernel⟩
theorem ok_sure (T : Txt K mg a) (TB_meets : GxR.TabB base mg a.k_tab_meets a.P_tab_meets) : FnOk P w K mg base (L2.CX P w) 4 a.f_sure a.d_sure ["letters", "now", "off", "bad"] (spSure K a.P_tab_meets a.c_BadOff a.c_TooEarly a.c_NoAgreement a.c_BadCount) := by
  refine T.sure.F.ok sc_sure (fun vs H Q E h => ?_) (fun cdv A outer s H vs Q E hr h => ?_)
  · obtain ⟨p, as, ls, now, o, f, rfl, hL, hA, hok, hl, hT, eO, eE, eN, eC, q⟩ := h
    rfl
  · obtain ⟨p, as, ls, now, o, f, rfl, hL, hA, hok, hl, hT, eO, eE, eN, eC, q⟩ := h
    have hu := hu_of hr
    refine ⟨_, (pss_cons (ps_set (i := 4) sc_sure.nd rfl (Or.inl rfl) (pe_clX (ok_gathered T) T.gathered (hr.mono (by decide)) (takes_of rfl rfl rfl rfl) (pa_cons (pv 0) (pa_cons (pv 1) (pa_cons (pv 2) pa_nil)))))
      (pss_cons (ps_if (pt_not (pt_truth (pv 4) (by intro _; rfl))) (pss_one (ps_rs rfl (takes_of rfl rfl rfl rfl) T.NoAgreement)) pss_nil)
      (pss_cons (ps_set (i := 5) sc_sure.nd rfl (Or.inl rfl) (pe_op op_sub (pe_callB (lenK K) (by rfl) T.b_len boot_len (pa_cons (pv 4) pa_nil)) (pe_clX (ok_most_wrong T) T.most_wrong (hr.mono (by decide)) (takes_of rfl rfl rfl rfl) (pa_cons (pv 3) (pa_cons (pe_callB (lenK K) (by rfl) T.b_len boot_len (pa_cons (pv 4) pa_nil)) pa_nil)))))
      (pss_cons (ps_set (i := 6) sc_sure.nd rfl (Or.inr rfl) (pe_cl (ok_parts T) T.parts (hr.mono (by decide)) (pa_cons (pv 4) (pa_cons (pv 5) pa_nil))))
      (pss_cons (ps_if (pt_not (pt_truth (pv 6) (by intro _; rfl))) (pss_one (ps_rs rfl (takes_of rfl rfl rfl rfl) T.NoAgreement)) pss_nil)
      (pss_cons (ps_setLc (i := 7) (own := [("name", 8), ("stretch", 9)]) (g := (gTup K 2 (gCons (gName 8) (gCons (gName 9) gNil)))) rfl sc_sure.nd rfl rfl (sw_true rfl rfl rfl (by decide +kernel)) (piL K (pv 4)) (blkOk_by (N := n_sure) (sc := defScope s_sure) (by decide +kernel)) (fun _ _ _ _ _ => pg_tup (by rfl) (pgs_cons (pg_name (i := 8) sc_sure.nd rfl (Or.inl rfl)) (pgs_cons (pg_name (i := 9) sc_sure.nd rfl (Or.inl rfl)) pgs_nil))) (fun _ _ _ _ _ => pts_one (pt_not (pt_val (pe_cl (ok_meets T TB_meets) T.meets (hr.mono (by decide)) (pa_cons (pv 9) (pa_cons (pv 6) pa_nil)))))) (fun _ _ _ _ _ => (pv 8)))
      (pss_one (ps_ret (pe_tup (pa_cons (pe_ix (ixT K) (pe_ix (ixL K) (pv 6) pe_int (fun _ _ => rfl)) pe_int (fun _ _ => rfl)) (pa_cons (pe_ix (ixT K) (pe_ix (ixL K) (pv 6) pe_negc (fun _ _ => rfl)) pe_int (fun _ _ => rfl)) (pa_cons (pv 7) (pa_cons (pv 6) pa_nil))))))))))))), ?_⟩
    refine ⟨_, rfl, _, rfl, _, rfl, p, as, ls, now, o, rfl, hL, hA, hok, hl, eO, eE, fun ok le cl xs H1 s1 hX ecl ncl => ?_⟩
    dsimp only [gName]
    have eN' := eN ok le
    have eC' := eC ok le
    have q' := q ok le
    clear eO eE eN eC q
    have hcl : (gath now o ls).length ≤ 1000 := Nat.le_trans gath_len hl
    have hck : ClksOk (gath now o ls) := gath_ok hok
    generalize gath now o ls = cs at hX eN' eC' q' hcl hck
    have hxl : xs.length = cs.length := hX.1
    -- no letters
    refine ⟨_, rfl, !xs.isEmpty, .inl ⟨xs, SqL.of ecl, rfl⟩, ?_⟩
    by_cases hne : cs = []
    · subst hne
      have : xs = [] := List.length_eq_zero_iff.mp hxl
      subst this
      refine iteT ?_
      exact eN' (if_pos rfl) H1 s1
    have hxe : xs.isEmpty = false := by
      cases xs with
      | nil => exact absurd (List.length_eq_zero_iff.mp hxl.symm) hne
      | cons a l => rfl
    rw [hxe]
    refine iteF ?_
    have hpos : 0 < cs.length := List.length_pos_iff.mpr hne
    -- need
    refine ⟨_, rfl, _, _, rfl, .inl (SqL.of ecl), _, rfl, _, rfl, _, _, rfl, .inl (SqL.of ecl), ?_⟩
    rw [hxl]
    have dueC : ∀ {b : Int}, f = some b → ¬ (0 ≤ b ∧ b < (cs.length : Int)) → dueOf cs f = "count" := fun {b} e h => by
      unfold dueOf
      rw [if_neg hne, if_pos (by rw [e]; show b < 0 ∨ b ≥ _; omega)]
    refine ⟨f, (cs.length : Int), rfl, fun hf => ?_, fun b hf hb => ?_, fun b hf hb => eC' (dueC hf hb) H1 s1⟩
    all_goals
      refine ⟨_, _, rfl, rfl, ?_⟩
      dsimp only [gName]
      have hfew : 0 ≤ fewI cs f ∧ fewI cs f < (cs.length : Int) := by
        unfold fewI
        rw [hf]
        first
          | (show 0 ≤ ((cs.length : Int) - 1) / 2 ∧ ((cs.length : Int) - 1) / 2 < _; omega)
          | exact hb
      have eneed : (cs.length : Int) - fewI cs f = needI cs f := rfl
      first
        | rw [show ((cs.length : Int) - ((cs.length : Int) - 1) / 2) = needI cs f by unfold needI fewI; rw [hf]; rfl]
        | rw [show ((cs.length : Int) - b) = needI cs f by unfold needI fewI; rw [hf]; rfl]
      have hneed : 1 ≤ needI cs f := by unfold needI; omega
      refine ⟨_, rfl, _, rfl, cl, xs, cs, needI cs f, rfl, SqL.of ecl, hX, hcl, hck, hneed, fun so bs ts H2 hP htl s2 nso eso hB => ?_⟩
      dsimp only [gName]
      have dueR : dueOf cs f = (if (lowsC cs).filter (borneC cs f) = [] then ("none" : Str) else ("" : Str)) := by
        unfold dueOf
        rw [if_neg hne, if_neg (by omega)]
      -- nothing is borne by enough
      refine ⟨_, rfl, !(bs.map V.ref).isEmpty, .inl ⟨_, SqL.of eso, rfl⟩, ?_⟩
      by_cases hts : ts = []
      · have hbs : bs = [] := List.length_eq_zero_iff.mp (by rw [hB.1, hts]; rfl)
        rw [hbs]
        refine iteT ?_
        exact eN' (by rw [dueR, if_pos ((parts_none hP hneed).mp hts)]) H2 (s1.trans s2)
      have hbe : (bs.map V.ref).isEmpty = false := by
        cases bs with
        | nil => exact absurd (List.length_eq_zero_iff.mp (by rw [← hB.1]; rfl)) hts
        | cons a l => rfl
      rw [hbe]
      refine iteF ?_
      have s12 := s1.trans s2
      have hT2 := tab_same s12 hT
      have ecl2 := s2 _ _ ecl
      have hX2 := hX.same s2
      -- who must be wrong
      refine ⟨_, rfl, cl, rfl, ⟨_, SqL.of ecl2⟩, fun D nD => lc_list (K := K) (a := cl) (xs := xs) (fun i H' => Kp H2 H' ∧ H' D = some (.lst (txs (wrongC (cs.take i) ts)))) ⟨Kp.of (same_new nD), upd_same⟩ (fun i H' _ h => h.1.seq (SqL.of ecl2)) ?_ ?_⟩
      · rintro i v H' hi ⟨s3, eD⟩
        obtain ⟨c, hc, u, w, rfl, hTu, hV⟩ := (ClksAt.kp hX2 s3).get hi
        have il : i < cs.length := (List.getElem?_eq_some_iff.mp hc).1
        have bl := wrongC_len (cs := cs.take i) (ts := ts)
        rw [List.length_take] at bl
        rw [take_snoc hc, wrongC_snoc]
        refine ⟨u, _, rfl, hTu, rfl, _, _, rfl, _, _, rfl, rfl, ?_⟩
        refine ⟨rfl, ?_⟩
        refine ⟨_, rfl, _, rfl, w, c.2, so, bs, ts, rfl, hV, s3.seq (SqL.of eso), StsAt.kp hB s3, fun s e => hck.st c (List.mem_of_getElem? hc) s e, hP.le, s3.tb _ hT2, fun H'' s4 => ?_⟩
        have s5 := s3.trans s4
        have eD4 := s4.at eD
        have em : meetsC ts ([], c.2) = meetsC ts c := rfl
        rw [em]
        refine ⟨_, rfl, ?_⟩
        by_cases h : meetsC ts c = true
        · rw [h, if_pos rfl, List.append_nil]
          refine iteF ?_
          exact ⟨s5, eD4⟩
        · rw [Bool.eq_false_iff.mpr h, if_neg Bool.false_ne_true]
          refine iteT ?_
          refine ⟨_, rfl, ?_⟩
          exact ⟨_, eD4, by unfold txs; rw [List.length_map]; exact Nat.lt_of_le_of_lt (show _ ≤ 1000 by omega) (by decide), Kp.mut s5 nD eD4, upd_same.trans (by unfold txs; rw [List.map_append]; rfl)⟩
      · rintro H3 ⟨s3, eD⟩
        rw [hxl, List.take_length] at eD
        dsimp only [gName]
        have s13 : Kp H H3 := (Kp.of s12).trans s3
        have eso3 := s3.at eso
        have hB3 := StsAt.kp hB s3
        have hpt : 0 < ts.length := List.length_pos_iff.mpr hts
        have g0 : ts[0]? = some ts[0] := List.getElem?_eq_getElem hpt
        have g1 : ts[ts.length - 1]? = some (ts[ts.length - 1]'(by omega)) := List.getElem?_eq_getElem (by omega)
        generalize ts[0] = ta at g0
        generalize (ts[ts.length - 1]'(by omega)) = tz at g1
        obtain ⟨b0, i0, hT0⟩ := StsAt.at hB3 g0
        obtain ⟨b1, i1, hT1⟩ := StsAt.at hB3 g1
        have i1' : (bs.map V.ref)[(bs.map V.ref).length - 1]? = some (.ref b1) := by rw [List.length_map, hB.1]; exact i1
        refine ⟨_, rfl, so, _, _, _, rfl, rfl, SqL.of eso3, atI_nat (j := 0) i0, b0, _, _, _, rfl, rfl, hT0, atI_nat (j := 0) rfl, ?_⟩
        refine ⟨_, rfl, so, _, _, _, rfl, rfl, SqL.of eso3, at_neg1 i1', b1, _, _, _, rfl, rfl, hT1, atI_nat (j := 0 + 1) rfl, _, rfl, _, rfl, (by show 4 ≤ sizeLine; decide), fun u nu => ?_⟩
        have sx : Same H3 (upd H3 u (.tup [.int ta.1, .int tz.2, .ref D, .ref so])) := same_new nu
        have dso : D ≠ so := fun z => by rw [z, eso] at nD; cases nD
        refine q' (by rw [dueR, if_neg fun z => hts ((parts_none hP hneed).mpr z)]) (.ref u) _ (s13.trans (Kp.of sx)) ⟨u, D, so, bs, ts, ta.1, tz.2, rfl, s13.free nu, s12.free nD, s1.free nso, dso, upd_same, sx _ _ eD, sx _ _ eso3, hB3.same sx, htl, hP, ⟨ta, g0, rfl⟩, ⟨tz, g1, rfl⟩⟩
/-! ### check_room -/
abbrev n_check_room : List Str := ["letters", "name", "names", "letter"]
theorem sc_check_room : FnScope ["letters", "name", "names", "letter"] ["letters", "name"] (defScope s_check_room) := ⟨rfl, rfl, rfl, by decide +kernel, rfl, by decide +kernel, by decide +kernel⟩
theorem ok_check_room (T : Txt K mg a) : FnOk P w K mg base (L2.CX P w) 1 a.f_check_room a.d_check_room ["letters", "name"] (spCheckRoom K a.c_TooMany) := by
  refine T.check_room.F.okX sc_check_room (fun vs H Q E h => ?_) (fun cdv A outer s H vs Q E hr h => ?_)
  · obtain ⟨p, as, ls, nm, rfl, hL, hA, hl, eF, q⟩ := h
    rfl
  · obtain ⟨p, as, ls, nm, rfl, hL, hA, hl, eF, q⟩ := h
    have hu := hu_of hr
    obtain ⟨tk_MOST_LETTERS, hc_MOST_LETTERS⟩ := T.c_MOST_LETTERS
    obtain ⟨tk_MOST_NAMES, hc_MOST_NAMES⟩ := T.c_MOST_NAMES
    refine ⟨_, (pss_cons (ps_if (pt_cmpR op_ge (pe_callB (lenK K) (by rfl) T.b_len boot_len (pa_cons (pv 0) pa_nil)) (pe_gint hc_MOST_LETTERS) (nomark _)) (pss_one (ps_rs rfl (takes_of rfl rfl rfl rfl) T.TooMany)) pss_nil)
      (pss_cons (ps_setScK (i := 2) (own := [("letter", 3)]) (g := gName 3) ⟨rfl, sc_check_room.nd, (piL K (pv 0)), (blkOk_by (N := n_check_room) (sc := defScope s_check_room) (by decide +kernel)), fun _ _ _ _ _ => pg_name (i := 3) sc_check_room.nd rfl (Or.inl rfl), fun _ _ _ _ _ => (pe_ix (ixT K) (pv 3) pe_int (fun _ _ => rfl)), fun _ => rfl⟩ rfl rfl (sw_set rfl rfl rfl (by decide +kernel)))
      (pss_one (ps_if (PW.pt (pw_and (pt_cmpR or_snotinK (pv 1) (pv 2) rfl) (pw_and1 (pt_cmpR op_ge (pe_callB (call_lenK trivial) (by rfl) T.b_len boot_len (pa_cons (pv 2) pa_nil)) (pe_gint hc_MOST_NAMES) (nomark _))))) (pss_one (ps_rs rfl (takes_of rfl rfl rfl rfl) T.TooMany)) pss_nil)))), ?_⟩
    refine ⟨_, rfl, _, _, rfl, .inl hL, _, _, rfl, rfl, _, rfl, ?_⟩
    rw [List.length_map, hA.1]
    refine ite_dec (fun g1 => ?_) (fun g1 => ?_)
    · exact eF (.inl (by omega)) H (Same.refl H)
    refine ⟨_, rfl, p, rfl, ⟨_, hL⟩, fun D nD => sc_list (K := K) (a := p) (xs := as.map V.ref) (fun i H' => Same H H' ∧ H' D = some (SetK P w D (inS ((ls.take i).map (·.nm))) (dist ((ls.take i).map (·.nm))))) ⟨same_new nD, by rw [show (ls.take 0).map (·.nm) = [] from rfl, inS_nil]; exact upd_same⟩ (fun i H' _ h => h.1.seq hL) ?_ ?_⟩
    · rintro i v H' hi ⟨s1, eD⟩
      obtain ⟨t, x, rfl, ha, hx, hT⟩ := (hA.same s1).get hi
      refine ⟨rfl, ?_⟩
      refine ⟨_, rfl, _, _, _, _, rfl, rfl, hT, atI_nat (j := 0) rfl, ?_⟩
      have few := dist_le ((ls.take i).map (·.nm))
      rw [List.length_map, List.length_take] at few
      refine ⟨.inr (mkS x.nm), _, _, rfl, eD, Nat.lt_of_le_of_lt (show _ + 1 ≤ 1001 by omega) (by decide), Same.mut s1 nD, ?_⟩
      rw [upd_same, take_snoc hx, List.map_append, inS_snoc, inS_at]
      rw [show ([x].map (·.nm)) = [x.nm] from rfl, dist_snoc]
      simp only [decide_eq_true_eq]
      rfl
    rintro H1 ⟨s1, eD⟩
    rw [List.length_map, hA.1, List.take_length] at eD
    dsimp only [gName]
    have cnt := dist_le (ls.map (·.nm))
    rw [List.length_map] at cnt
    refine ⟨_, rfl, _, rfl, .inr (mkS nm), D, _, _, rfl, rfl, eD, _, rfl, ?_⟩
    rw [inS_at]
    by_cases hm : nm ∈ ls.map (·.nm)
    · refine ite_no (by rw [decide_eq_true hm]; rfl) ?_
      refine ite_no rfl ?_
      exact q (fun z => z.elim (fun y => g1 (by omega)) fun y => y.1 hm) H1 s1
    · refine ite_yes (by rw [decide_eq_false hm]; rfl) ?_
      refine ⟨_, rfl, D, _, _, rfl, eD, _, _, rfl, rfl, _, rfl, ?_⟩
      refine ite_dec (fun g2 => ?_) (fun g2 => ?_)
      · exact eF (.inr ⟨hm, by omega⟩) H1 s1
      · exact q (fun z => z.elim (fun y => g1 (by omega)) fun y => g2 (by have := y.2; omega)) H1 s1
/-! ### _law_whole -/
abbrev n_whole : List Str := ["_law_found"]
theorem sc_whole : FnScope ["_law_found"] ["_law_found"] (defScope s_whole) := ⟨rfl, rfl, rfl, by decide +kernel, rfl, by decide +kernel, by decide +kernel⟩
theorem ok_whole (T : Txt K mg a) : FnOk P w K mg base CX0 1 a.f_whole a.d_whole ["_law_found"] (spWhole K) := by
  refine T.whole.F.ok sc_whole (fun vs H Q E h => ?_) (fun cdv A outer s H vs Q E hr h => ?_)
  · obtain ⟨i, rfl, q⟩ := h
    rfl
  · obtain ⟨i, rfl, q⟩ := h
    have hu := hu_of hr
    refine ⟨_, (pss_one (ps_ret (pe_and (pe_callB (isiK K) (by rfl) T.b_isinstance (by decide +kernel) (pa_cons (pv 0) (pa_cons (pe_bty (n := "int") T.b_int (by decide +kernel)) pa_nil))) (pe_one (pe_not (pe_callB (isiK K) (by rfl) T.b_isinstance (by decide +kernel) (pa_cons (pv 0) (pa_cons (pe_bty (n := "bool") T.b_bool (by decide +kernel)) pa_nil)))))))), ?_⟩
    refine ⟨_, rfl, _, _, _, _, true, rfl, .ty _, .base (.int i), kit_ty (by decide +kernel), _, rfl, ?_⟩
    refine iteT ?_
    refine ⟨_, rfl, _, _, _, _, false, rfl, .ty _, .base (.int i), kit_ty (by decide +kernel), _, rfl, ?_⟩
    exact q
/-! ### _law_cell_at -/
abbrev n_cell_at : List Str := ["_law_script", "_law_k"]
theorem sc_cell_at : FnScope ["_law_script", "_law_k"] ["_law_script", "_law_k"] (defScope s_cell_at) := ⟨rfl, rfl, rfl, by decide +kernel, rfl, by decide +kernel, by decide +kernel⟩
theorem ok_cell_at (T : Txt K mg a) : FnOk P w K mg base CX0 1 a.f_cell_at a.d_cell_at ["_law_script", "_law_k"] (spCellAt K) := by
  refine T.cell_at.F.ok sc_cell_at (fun vs H Q E h => ?_) (fun cdv A outer s H vs Q E hr h => ?_)
  · obtain ⟨l, ns, j, rfl, hS, q⟩ := h
    rfl
  · obtain ⟨l, ns, j, rfl, hS, q⟩ := h
    have hu := hu_of hr
    refine ⟨_, (pss_cons (ps_if (pt_cmpR op_lt (pv 1) (pe_callB (lenK K) (by rfl) T.b_len boot_len (pa_cons (pv 0) pa_nil)) (nomark _)) (pss_one (ps_ret (pe_ix (ixL K) (pv 0) (pv 1) (fun _ _ => rfl)))) pss_nil)
      (pss_one (ps_ret pe_int))), ?_⟩
    refine ⟨_, rfl, _, rfl, _, _, rfl, .inl hS, _, _, rfl, rfl, _, rfl, ?_⟩
    have el : (ns.map V.int).length = ns.length := List.length_map ..
    refine ite2 (fun z => ?_) (fun z => ?_)
    · have z' : j < ns.length := by have := of_decide_eq_true z; omega
      have e : (ns.map V.int)[j]? = some (.int (ns.getD j 0)) := by rw [List.getElem?_map, List.getD_eq_getElem?_getD, List.getElem?_eq_getElem z']; rfl
      exact ⟨_, rfl, _, rfl, _, _, _, _, rfl, rfl, hS, atI_nat e, q⟩
    · have z' : ¬ (j < ns.length) := fun y => z (decide_eq_true (by omega))
      have e : ns.getD j 0 = 0 := by rw [List.getD_eq_getElem?_getD, List.getElem?_eq_none (by omega)]; rfl
      rw [e] at q
      exact q
/-! ### _law_mix -/
abbrev n_mix : List Str := ["_law_cell", "_law_k", "_law_number"]
theorem sc_mix : FnScope ["_law_cell", "_law_k", "_law_number"] ["_law_cell", "_law_k"] (defScope s_mix) := ⟨rfl, rfl, rfl, by decide +kernel, rfl, by decide +kernel, by decide +kernel⟩
theorem ok_mix (T : Txt K mg a) : FnOk P w K mg base CX0 1 a.f_mix a.d_mix ["_law_cell", "_law_k"] (spMix) := by
  refine T.mix.F.ok sc_mix (fun vs H Q E h => ?_) (fun cdv A outer s H vs Q E hr h => ?_)
  · obtain ⟨c, k, rfl, q⟩ := h
    rfl
  · obtain ⟨c, k, rfl, q⟩ := h
    have hu := hu_of hr
    refine ⟨_, (pss_cons (ps_set (i := 2) sc_mix.nd rfl (Or.inl rfl) (pe_op (op_modc (c := 1000003) (by decide)) (pe_op (op_mulc (c := 48271) (by decide)) (pe_op op_add (pe_op op_add (pv 0) (pe_op (op_cmul (c := 7919) (by decide)) pe_int (pv 1))) pe_int) pe_int) pe_int))
      (pss_one (ps_ret (pe_op (op_modc (c := 999983) (by decide)) (pe_op op_mul (pv 2) (pv 2)) pe_int)))), ?_⟩
    refine ⟨_, rfl, _, rfl, _, rfl, rfl, _, _, rfl, rfl, _, _, rfl, rfl, _, rfl, rfl, _, rfl, rfl, _, rfl, _, rfl, _, _, rfl, rfl, .inl ⟨by omega, by omega⟩, _, rfl, rfl, ?_⟩
    exact q _ (Int.emod_nonneg _ (by decide)) (Int.emod_lt_of_pos _ (by decide))
/-! ### _law_big -/
abbrev n_big : List Str := ["_law_cell", "_law_k", "_law_number"]
theorem sc_big : FnScope ["_law_cell", "_law_k", "_law_number"] ["_law_cell", "_law_k"] (defScope s_big) := ⟨rfl, rfl, rfl, by decide +kernel, rfl, by decide +kernel, by decide +kernel⟩
theorem ok_big (T : Txt K mg a) : FnOk P w K mg base CX0 2 a.f_big a.d_big ["_law_cell", "_law_k"] (spBig) := by
  refine T.big.F.ok sc_big (fun vs H Q E h => ?_) (fun cdv A outer s H vs Q E hr h => ?_)
  · obtain ⟨c, k, rfl, q⟩ := h
    rfl
  · obtain ⟨c, k, rfl, q⟩ := h
    have hu := hu_of hr
    refine ⟨_, (pss_cons (ps_set (i := 2) sc_big.nd rfl (Or.inl rfl) (pe_cl (ok_mix T) T.mix (hr.mono (by decide)) (pa_cons (pv 0) (pa_cons (pv 1) pa_nil))))
      (pss_cons (ps_if (pt_cmpR op_eq (pe_op (op_modc (c := 4) (by decide)) (pe_cl (ok_mix T) T.mix (hr.mono (by decide)) (pa_cons (pv 0) (pa_cons (pe_op op_add (pv 1) pe_int) pa_nil))) pe_int) pe_int (nomark _)) (pss_one (ps_ret (pe_op (op_modc (c := 30) (by decide)) (pv 2) pe_int))) pss_nil)
      (pss_cons (ps_if (pt_cmpR op_eq (pe_op (op_modc (c := 4) (by decide)) (pe_cl (ok_mix T) T.mix (hr.mono (by decide)) (pa_cons (pv 0) (pa_cons (pe_op op_add (pv 1) pe_int) pa_nil))) pe_int) pe_int (nomark _)) (pss_one (ps_ret (pe_op (op_modc (c := 3000) (by decide)) (pv 2) pe_int))) pss_nil)
      (pss_cons (ps_if (pt_cmpR op_eq (pe_op (op_modc (c := 4) (by decide)) (pe_cl (ok_mix T) T.mix (hr.mono (by decide)) (pa_cons (pv 0) (pa_cons (pe_op op_add (pv 1) pe_int) pa_nil))) pe_int) pe_int (nomark _)) (pss_one (ps_ret (pe_ix (ixL K) (pe_lst (pa_cons pe_int (pa_cons pe_int (pa_cons pe_pow12 (pa_cons (pe_op op_sub pe_pow12 pe_int) pa_nil))))) (pe_op (op_modc (c := 4) (by decide)) (pv 2) pe_int) (fun _ _ => rfl)))) pss_nil)
      (pss_one (ps_ret (pe_op op_mod (pe_op op_add (pe_op (op_mulc (c := 1000003) (by decide)) (pv 2) pe_int) (pe_cl (ok_mix T) T.mix (hr.mono (by decide)) (pa_cons (pv 0) (pa_cons (pe_op op_add (pv 1) pe_int) pa_nil)))) (pe_op op_add pe_pow12 pe_int)))))))), ?_⟩
    refine ⟨_, rfl, _, rfl, _, _, rfl, fun m m0 m1 => ?_⟩
    refine ⟨_, rfl, _, rfl, _, _, rfl, rfl, _, _, rfl, fun x x0 x1 => ?_⟩
    refine ⟨_, rfl, rfl, rfl, _, rfl, ?_⟩
    refine ite2 (fun z => ?_) (fun z => ?_)
    · refine ⟨_, rfl, _, rfl, rfl, ?_⟩
      exact q _ H (by omega) (by omega) (Same.refl H)
    refine ⟨_, rfl, _, rfl, _, _, rfl, rfl, _, _, rfl, fun y y0 y1 => ?_⟩
    refine ⟨_, rfl, rfl, rfl, _, rfl, ?_⟩
    refine ite2 (fun z => ?_) (fun z => ?_)
    · refine ⟨_, rfl, _, rfl, rfl, ?_⟩
      exact q _ H (by omega) (by omega) (Same.refl H)
    refine ⟨_, rfl, _, rfl, _, _, rfl, rfl, _, _, rfl, fun u u0 u1 => ?_⟩
    refine ⟨_, rfl, rfl, rfl, _, rfl, ?_⟩
    refine ite2 (fun z => ?_) (fun z => ?_)
    · refine ⟨_, _, rfl, rfl, (by show 4 ≤ sizeLine; decide), fun p np => ?_⟩
      refine ⟨_, rfl, _, rfl, rfl, ?_⟩
      refine ix_int (fun j => 0 ≤ j ∧ j ≤ 1000000000000) SqL.here (Int.emod_nonneg _ (by decide)) (Int.emod_lt_of_pos _ (by decide)) (allc ⟨_, rfl, by decide⟩ (allc ⟨_, rfl, by decide⟩ (allc ⟨_, rfl, by decide⟩ (all1 ⟨_, rfl, by decide⟩)))) fun j hj => ?_
      exact q j _ hj.1 hj.2 (same_new np)
    refine ⟨_, rfl, _, rfl, rfl, _, rfl, _, rfl, _, _, rfl, rfl, _, _, rfl, fun v v0 v1 => ?_⟩
    refine ⟨_, _, rfl, rfl, _, _, rfl, rfl, _, _, rfl, rfl, (by show (0 : Int) < 1000000000000 + 1; decide), ?_⟩
    exact q _ H (Int.emod_nonneg _ (by decide)) (Int.le_of_lt_add_one (Int.emod_lt_of_pos _ (by decide))) (Same.refl H)
/-! ### _law_off -/
abbrev n_off : List Str := ["_law_cell"]
theorem sc_off : FnScope ["_law_cell"] ["_law_cell"] (defScope s_off) := ⟨rfl, rfl, rfl, by decide +kernel, rfl, by decide +kernel, by decide +kernel⟩
theorem ok_off (T : Txt K mg a) : FnOk P w K mg base CX0 2 a.f_off a.d_off ["_law_cell"] (spOff) := by
  refine T.off.F.ok sc_off (fun vs H Q E h => ?_) (fun cdv A outer s H vs Q E hr h => ?_)
  · obtain ⟨c, rfl, q⟩ := h
    rfl
  · obtain ⟨c, rfl, q⟩ := h
    have hu := hu_of hr
    refine ⟨_, (pss_one (ps_ret (pe_ix (ixL K) (pe_lst (pa_cons pe_int (pa_cons pe_int (pa_cons pe_int (pa_cons pe_int (pa_cons (pe_op (op_modc (c := 30) (by decide)) (pe_cl (ok_mix T) T.mix (hr.mono (by decide)) (pa_cons (pv 0) (pa_cons pe_int pa_nil))) pe_int) (pa_cons (pe_op (op_modc (c := 1000) (by decide)) (pe_cl (ok_mix T) T.mix (hr.mono (by decide)) (pa_cons (pv 0) (pa_cons pe_int pa_nil))) pe_int) pa_nil))))))) (pe_op (op_modc (c := 6) (by decide)) (pv 0) pe_int) (fun _ _ => rfl)))), ?_⟩
    refine ⟨_, rfl, _, _, rfl, fun x x0 x1 => ?_⟩
    refine ⟨_, rfl, rfl, _, rfl, _, _, rfl, fun y y0 y1 => ?_⟩
    refine ⟨_, rfl, rfl, (by show 6 ≤ sizeLine; decide), fun p np => ?_⟩
    refine ⟨_, rfl, _, rfl, rfl, ?_⟩
    refine ix_int (fun j => 0 ≤ j ∧ j ≤ 999) SqL.here (Int.emod_nonneg _ (by decide)) (Int.emod_lt_of_pos _ (by decide)) (allc ⟨_, rfl, by decide⟩ (allc ⟨_, rfl, by decide⟩ (allc ⟨_, rfl, by decide⟩ (allc ⟨_, rfl, by decide⟩ (allc ⟨_, rfl, by omega⟩ (all1 ⟨_, rfl, by omega⟩)))))) fun j hj => ?_
    exact q j _ hj.1 hj.2 (same_new np)
/-! ### _law_slack -/
abbrev n_w_slack : List Str := ["_law_passed", "_law_off_here", "_law_most"]
theorem sc_w_slack : FnScope ["_law_passed", "_law_off_here", "_law_most"] ["_law_passed", "_law_off_here"] (defScope s_w_slack) := ⟨rfl, rfl, rfl, by decide +kernel, rfl, by decide +kernel, by decide +kernel⟩
theorem ok_w_slack (T : Txt K mg a) : FnOk P w K mg base CX0 1 a.f_w_slack a.d_w_slack ["_law_passed", "_law_off_here"] (spSlack) := by
  refine T.w_slack.F.ok sc_w_slack (fun vs H Q E h => ?_) (fun cdv A outer s H vs Q E hr h => ?_)
  · obtain ⟨p, o, rfl, o0, o1, q⟩ := h
    rfl
  · obtain ⟨p, o, rfl, o0, o1, q⟩ := h
    have hu := hu_of hr
    refine ⟨_, (pss_cons (ps_set (i := 2) sc_w_slack.nd rfl (Or.inl rfl) (pe_op (op_divc (c := 1000) (by decide) (by decide)) (pe_op op_mul (pv 0) (pv 1)) pe_int))
      (pss_cons (ps_if (pt_cmpR op_lt (pe_op (op_mulc (c := 1000) (by decide)) (pv 2) pe_int) (pe_op op_mul (pv 0) (pv 1)) (nomark _)) (pss_one (ps_set (i := 2) sc_w_slack.nd rfl (Or.inl rfl) (pe_op op_add (pv 2) pe_int))) pss_nil)
      (pss_one (ps_ret (pv 2))))), ?_⟩
    refine ⟨_, rfl, _, rfl, _, _, rfl, rfl, .inr ⟨by omega, by omega⟩, _, rfl, rfl, ?_⟩
    refine ⟨_, rfl, _, rfl, rfl, _, rfl, _, rfl, _, _, rfl, rfl, .inr ⟨by omega, by omega⟩, _, _, rfl, rfl, _, rfl, ?_⟩
    have e : slk p o = (p * o + 999) / 1000 := rfl
    refine ite2 (fun z => ?_) (fun z => ?_)
    · have z' := of_decide_eq_true z
      refine ⟨_, rfl, _, _, rfl, rfl, _, rfl, ?_⟩
      have e2 : p * o / 1000 + 1 = slk p o := by omega
      rw [← e2] at q
      exact q
    · have z' : ¬ (p * o / 1000 * 1000 < p * o) := fun y => z (decide_eq_true y)
      refine ⟨_, rfl, ?_⟩
      have e2 : p * o / 1000 = slk p o := by omega
      rw [← e2] at q
      exact q
/-! ### _law_brought -/
abbrev n_w_brought : List Str := ["_law_letter_here", "_law_now", "_law_off_here", "_law_name", "_law_sent", "_law_back", "_law_low", "_law_high"]
theorem sc_w_brought : FnScope ["_law_letter_here", "_law_now", "_law_off_here", "_law_name", "_law_sent", "_law_back", "_law_low", "_law_high"] ["_law_letter_here", "_law_now", "_law_off_here"] (defScope s_w_brought) := ⟨rfl, rfl, rfl, by decide +kernel, rfl, by decide +kernel, by decide +kernel⟩
theorem ok_w_brought (T : Txt K mg a) : FnOk P w K mg base CX0 2 a.f_w_brought a.d_w_brought ["_law_letter_here", "_law_now", "_law_off_here"] (spLawBrought K) := by
  refine T.w_brought.F.ok sc_w_brought (fun vs H Q E h => ?_) (fun cdv A outer s H vs Q E hr h => ?_)
  · obtain ⟨t, nm, s', b, lo, hi, now, o, rfl, hT, ok, q⟩ := h
    rfl
  · obtain ⟨t, nm, s', b, lo, hi, now, o, rfl, hT, ok, q⟩ := h
    have hu := hu_of hr
    refine ⟨_, (pss_cons (ps_asg (pv 0) (pg_tup (by rfl) (pgs_cons (pg_name (i := 3) sc_w_brought.nd rfl (Or.inl rfl)) (pgs_cons (pg_name (i := 4) sc_w_brought.nd rfl (Or.inl rfl)) (pgs_cons (pg_name (i := 5) sc_w_brought.nd rfl (Or.inl rfl)) (pgs_cons (pg_name (i := 6) sc_w_brought.nd rfl (Or.inl rfl)) (pgs_cons (pg_name (i := 7) sc_w_brought.nd rfl (Or.inl rfl)) pgs_nil)))))))
      (pss_one (ps_ret (pe_tup (pa_cons (pe_op op_sub (pe_op op_sub (pe_op op_add (pv 6) (pv 1)) (pv 5)) (pe_cl (ok_w_slack T) T.w_slack (hr.mono (by decide)) (pa_cons (pe_op op_sub (pv 1) (pv 5)) (pa_cons (pv 2) pa_nil)))) (pa_cons (pe_op op_add (pe_op op_sub (pe_op op_add (pv 7) (pv 1)) (pv 4)) (pe_cl (ok_w_slack T) T.w_slack (hr.mono (by decide)) (pa_cons (pe_op op_sub (pv 1) (pv 4)) (pa_cons (pv 2) pa_nil)))) pa_nil)))))), ?_⟩
    obtain ⟨o0, o1⟩ := id ok
    refine ⟨_, rfl, t, _, rfl, hT, rfl, _, _, rfl, _, _, rfl, _, _, rfl, _, _, rfl, _, _, rfl, rfl, ?_⟩
    refine ⟨_, rfl, _, rfl, _, _, rfl, rfl, _, rfl, _, _, rfl, rfl, _, rfl, _, rfl, _, _, rfl, rfl, _, rfl, _, _, rfl, by omega, by omega, _, _, rfl, rfl, ?_⟩
    refine ⟨_, rfl, _, rfl, _, _, rfl, rfl, _, rfl, _, _, rfl, rfl, _, rfl, _, rfl, _, _, rfl, rfl, _, rfl, _, _, rfl, by omega, by omega, _, _, rfl, rfl, (by show 2 ≤ sizeLine; decide), fun u nu => ?_⟩
    have e1 : brLo b lo now o = lo + now - b - slk (now - b) o := by unfold brLo; omega
    have e2 : brHi s' hi now o = hi + now - s' + slk (now - s') o := by unfold brHi; omega
    rw [e1, e2] at q
    exact q u nu
/-! ### _law_kind -/
abbrev n_kind : List Str := ["_law_e", "_law_kinds", "_law_words"]
theorem sc_kind : FnScope ["_law_e", "_law_kinds", "_law_words"] ["_law_e"] (defScope s_kind) := ⟨rfl, rfl, rfl, by decide +kernel, rfl, by decide +kernel, by decide +kernel⟩
--own
theorem ok_kind (T : Txt K mg a) : FnE P w K mg base 1 a.f_kind a.d_kind ["_law_e"] (spKind K a.cs a.c_StretchError) := by
  refine fnE_of T.kind.F sc_kind (fun a c vs H Q E h => ?_) (fun cdv A outer s H vs Q E p c hz hf hr h => ?_)
  · obtain ⟨D, j, _, rfl, _⟩ := h
    rfl
  · obtain ⟨D, j, rfl, rfl, C, q⟩ := h
    refine ⟨_, (pss_cons (ps_set (i := 1) sc_kind.nd rfl (Or.inl rfl) (pe_lst (pa_cons (pe_callB (call_isP C.ex List.mem_cons_self hz hf) (by rfl) T.b_isinstance (by decide +kernel) (pa_cons (pv 0) (pa_cons (pe_gref T.BadName.g) pa_nil))) (pa_cons (pe_callB (call_isP C.ex List.mem_cons_self hz hf) (by rfl) T.b_isinstance (by decide +kernel) (pa_cons (pv 0) (pa_cons (pe_gref T.BadLetter.g) pa_nil))) (pa_cons (pe_callB (call_isP C.ex List.mem_cons_self hz hf) (by rfl) T.b_isinstance (by decide +kernel) (pa_cons (pv 0) (pa_cons (pe_gref T.BadOff.g) pa_nil))) (pa_cons (pe_callB (call_isP C.ex List.mem_cons_self hz hf) (by rfl) T.b_isinstance (by decide +kernel) (pa_cons (pv 0) (pa_cons (pe_gref T.TooEarly.g) pa_nil))) pa_nil))))))
      (pss_cons (ps_set (i := 1) sc_kind.nd rfl (Or.inl rfl) (pe_op op_cat (pv 1) (pe_lst (pa_cons (pe_callB (call_isP C.ex List.mem_cons_self hz hf) (by rfl) T.b_isinstance (by decide +kernel) (pa_cons (pv 0) (pa_cons (pe_gref T.BadCount.g) pa_nil))) (pa_cons (pe_callB (call_isP C.ex List.mem_cons_self hz hf) (by rfl) T.b_isinstance (by decide +kernel) (pa_cons (pv 0) (pa_cons (pe_gref T.NoAgreement.g) pa_nil))) (pa_cons (pe_callB (call_isP C.ex List.mem_cons_self hz hf) (by rfl) T.b_isinstance (by decide +kernel) (pa_cons (pv 0) (pa_cons (pe_gref T.TooWide.g) pa_nil))) pa_nil))))))
      (pss_cons (ps_set (i := 1) sc_kind.nd rfl (Or.inl rfl) (pe_op op_cat (pv 1) (pe_lst (pa_cons (pe_callB (call_isP C.ex List.mem_cons_self hz hf) (by rfl) T.b_isinstance (by decide +kernel) (pa_cons (pv 0) (pa_cons (pe_gref T.TooMany.g) pa_nil))) (pa_cons (pe_callB (call_isP C.ex List.mem_cons_self hz hf) (by rfl) T.b_isinstance (by decide +kernel) (pa_cons (pv 0) (pa_cons (pe_gref T.NoClock.g) pa_nil))) (pa_cons (pe_callB (call_isP C.ex List.mem_cons_self hz hf) (by rfl) T.b_isinstance (by decide +kernel) (pa_cons (pv 0) (pa_cons (pe_gref T.NoText.g) pa_nil))) pa_nil))))))
      (pss_cons (ps_if (PW.pt (pw_or (pt_cmpR op_ne (pe_bm PySem.F.plainAttrs_list PySem.F.slot_list_count PySem.F.type_list_count mt_count (pv 1) (pa_cons pe_bl pa_nil)) pe_int (nomark _)) (pw_or1 (pt_not (pt_val (pe_callB (call_isP C.ex List.mem_cons_self hz hf) (by rfl) T.b_isinstance (by decide +kernel) (pa_cons (pv 0) (pa_cons (pe_bty (n := "ValueError") T.b_ValueError (by decide +kernel)) pa_nil)))))))) (pss_one (ps_ret pe_str)) pss_nil)
      (pss_cons (ps_set (i := 2) sc_kind.nd rfl (Or.inl rfl) (pe_lst (pa_cons pe_str (pa_cons pe_str (pa_cons pe_str (pa_cons pe_str (pa_cons pe_str (pa_cons pe_str (pa_cons pe_str (pa_cons pe_str (pa_cons pe_str (pa_cons pe_str pa_nil))))))))))))
      (pss_one (ps_ret (pe_ix (ixL K) (pv 2) (pe_bm PySem.F.plainAttrs_list PySem.F.slot_list_index PySem.F.type_list_index mt_index (pv 1) (pa_cons pe_bl pa_nil)) (fun _ _ => rfl))))))))), ?_⟩
    refine ⟨_, rfl, _, _, _, rfl, (fun _ z => z), C.bit 0 _ rfl, _, rfl, _, _, _, rfl, (fun _ z => z), C.bit 1 _ rfl, _, rfl, _, _, _, rfl, (fun _ z => z), C.bit 2 _ rfl, _, rfl, _, _, _, rfl, (fun _ z => z), C.bit 3 _ rfl, (by show 4 ≤ sizeLine; decide), fun p1 n1 => ?_⟩
    refine ⟨_, rfl, _, rfl, _, _, _, rfl, (fun _ z => z), C.bit 4 _ rfl, _, rfl, _, _, _, rfl, (fun _ z => z), C.bit 5 _ rfl, _, rfl, _, _, _, rfl, (fun _ z => z), C.bit 6 _ rfl, (by show 3 ≤ sizeLine; decide), fun p2 n2 => ?_⟩
    refine ⟨_, _, _, _, rfl, rfl, (upd_ne (ne_of_none upd_same n2)).trans upd_same, upd_same, (by show 7 ≤ sizeLine; decide), fun p3 n3 => ?_⟩
    refine ⟨_, rfl, _, rfl, _, _, _, rfl, (fun _ z => z), C.bit 7 _ rfl, _, rfl, _, _, _, rfl, (fun _ z => z), C.bit 8 _ rfl, _, rfl, _, _, _, rfl, (fun _ z => z), C.bit 9 _ rfl, (by show 3 ≤ sizeLine; decide), fun p4 n4 => ?_⟩
    refine ⟨_, _, _, _, rfl, rfl, (upd_ne (ne_of_none upd_same n4)).trans upd_same, upd_same, (by show 10 ≤ sizeLine; decide), fun p5 n5 => ?_⟩
    refine ⟨_, rfl, .inl ⟨rfl, _, SqL.here⟩, _, kbits j, _, rfl, rfl, SqL.here, rfl, kbits_flat j, rfl, _, rfl, ?_⟩
    refine iteNS (by rw [kbits_count C.lt]; rfl) ?_
    refine ⟨_, rfl, _, _, _, rfl, (fun _ z => z), C.ve, _, rfl, ?_⟩
    refine iteF ?_
    refine ⟨(by show 10 ≤ sizeLine; decide), fun p6 n6 => ?_⟩
    refine ⟨_, rfl, _, rfl, ?_⟩
    have ne56 : p5 ≠ p6 := ne_of_none upd_same n6
    refine ⟨.inl ⟨rfl, _, SqL.of ((upd_ne ne56).trans upd_same)⟩, _, kbits j, _, j, _, rfl, rfl, SqL.of ((upd_ne ne56).trans upd_same), rfl, kbits_flat j, kbits_at C.lt, rfl, kbits_no C.lt, ?_⟩
    refine ⟨_, kwords.map V.str, _, _, rfl, rfl, SqL.here, kword_at C.lt, ?_⟩
    refine q _ ?_
    exact ((((((same_new n1).trans (same_new n2)).trans (same_new n3)).trans (same_new n4)).trans (same_new n5)).trans (same_new n6))

/-! ### _law_word -/
abbrev n_word : List Str := ["_law_cell", "_law_size", "_law_word_here", "_law_k"]
theorem sc_word : FnScope ["_law_cell", "_law_size", "_law_word_here", "_law_k"] ["_law_cell", "_law_size"] (defScope s_word) := ⟨rfl, rfl, rfl, by decide +kernel, rfl, by decide +kernel, by decide +kernel⟩
theorem ok_word (T : Txt K mg a) : FnOk P w K mg base CX0 2 a.f_word a.d_word ["_law_cell", "_law_size"] (spWord) := by
  refine T.word.F.ok sc_word (fun vs H Q E h => ?_) (fun cdv A outer s H vs Q E hr h => ?_)
  · obtain ⟨c, n, rfl, n0, n1, q⟩ := h
    rfl
  · obtain ⟨c, n, rfl, n0, n1, q⟩ := h
    have hu := hu_of hr
    refine ⟨_, (pss_cons (ps_set (i := 2) sc_word.nd rfl (Or.inl rfl) (pe_strC (l := []) (by decide +kernel)))
      (pss_cons (ps_for PassesOwn.never rfl (pi_range1 rfl T.b_range (pa_cons (pv 1) pa_nil)) (pg_name (i := 3) sc_word.nd rfl (Or.inl rfl)) (pss_one (ps_set (i := 2) sc_word.nd rfl (Or.inl rfl) (pe_op op_addC (pv 2) (pe_ix ix_C (pe_strC (l := [97, 98, 99, 100, 101, 102, 103, 104, 105, 106, 107, 108, 109, 110, 111, 112, 113, 114, 115, 116, 117, 118, 119, 120, 121, 122]) (by decide +kernel)) (pe_op (op_modc (c := 26) (by decide)) (pe_cl (ok_mix T) T.mix (hr.mono (by decide)) (pa_cons (pv 0) (pa_cons (pe_op op_add (pv 3) pe_int) pa_nil))) pe_int) (fun _ _ => rfl))))))
      (pss_one (ps_ret (pv 2))))), ?_⟩
    refine ⟨_, rfl, n, rfl, by omega, by omega, for_range (lo := 0) (n := n.toNat) (fun i σ H' => H = H' ∧ ∃ (z : List Nat) (v : Option V), σ = [some (.int c), some (.int n), some (.str (mkS z)), v] ∧ z.length = i ∧ low z)
      ⟨rfl, [], none, rfl, rfl, fun _ h => nomatch h⟩ ?_ ?_⟩
    · rintro i σ H' hi ⟨rfl, z, v, rfl, hz, lz⟩
      refine ⟨_, rfl, _, rfl, _, rfl, _, _, rfl, rfl, _, _, rfl, fun m m0 m1 => ?_⟩
      obtain ⟨j, hj⟩ := Int.eq_ofNat_of_zero_le (Int.emod_nonneg m (by decide : (26 : Int) ≠ 0))
      have hj26 : j < 26 := by omega
      refine ⟨_, rfl, rfl, _, j, 97 + j, rfl, by dsimp only; rw [hj], by decide, alphaL hj26, ?_⟩
      refine ⟨_, _, rfl, rfl, by rw [hz]; show i + 1 ≤ 1000000; omega, ?_⟩
      refine ⟨rfl, z ++ [97 + j], some (.int (0 + (i : Int))), rfl, by rw [List.length_append, hz]; rfl, fun ch hc => ?_⟩
      rcases List.mem_append.mp hc with h | h
      · exact lz ch h
      · rw [List.mem_singleton] at h
        omega
    · rintro σ H' ⟨rfl, z, v, rfl, hz, lz⟩
      exact ⟨_, rfl, q z (by omega) lz⟩
/-! ### _law_names -/
abbrev n_names : List Str := ["_law_cell", "_law_base", "_law_at", "_law_signs", "_law_k"]
theorem sc_names : FnScope ["_law_cell", "_law_base", "_law_at", "_law_signs", "_law_k"] ["_law_cell"] (defScope s_names) := ⟨rfl, rfl, rfl, by decide +kernel, rfl, by decide +kernel, by decide +kernel⟩
theorem ok_names (T : Txt K mg a) : FnOk P w K mg base CX0 3 a.f_names a.d_names ["_law_cell"] (spNames) := by
  refine T.names.F.ok sc_names (fun vs H Q E h => ?_) (fun cdv A outer s H vs Q E hr h => ?_)
  · obtain ⟨c, rfl, q⟩ := h
    rfl
  · obtain ⟨c, rfl, q⟩ := h
    have hu := hu_of hr
    refine ⟨_, (pss_cons (ps_set (i := 1) sc_names.nd rfl (Or.inr rfl) (pe_cl (ok_word T) T.word (hr.mono (by decide)) (pa_cons (pv 0) (pa_cons (pe_op (op_modc (c := 11) (by decide)) (pv 0) pe_int) pa_nil))))
      (pss_cons (ps_set (i := 2) sc_names.nd rfl (Or.inr rfl) (pe_op (op_modc (c := 11) (by decide)) (pe_cl (ok_mix T) T.mix (hr.mono (by decide)) (pa_cons (pv 0) (pa_cons pe_int pa_nil))) pe_int))
      (pss_cons (ps_set (i := 3) sc_names.nd rfl (Or.inr rfl) (pe_strC (l := [97, 98, 99, 100, 101, 102, 103, 104, 105, 106, 107, 108, 109, 110, 111, 112, 113, 114, 115, 116, 117, 118, 119, 120, 121, 122]) (by decide +kernel)))
      (pss_one (ps_ret (pe_lc (own := [("_law_k", 4)]) (g := gName 4) (tt := tYes) rfl sc_names.nd (pi_range1 rfl T.b_range (pa_cons pe_int pa_nil)) (blkOk_by (N := n_names) (sc := defScope s_names) (by decide +kernel)) (fun _ _ _ _ _ => pg_name (i := 4) sc_names.nd rfl (Or.inl rfl)) (fun _ _ _ _ _ => pts_nil) (fun _ _ _ _ _ => (pe_op op_addC (pe_op op_addC (pe_op op_addC (pe_slice sl_to (pv 1) po_none (po_some (pv 2))) (pe_ix ix_C (pv 3) (pe_op (op_modc (c := 26) (by decide)) (pv 4) pe_int) (fun _ _ => rfl))) (pe_ix (ixL K) (pe_lst (pa_cons (pe_strC (l := []) (by decide +kernel)) (pa_cons (pe_strC (l := [122]) (by decide +kernel)) pa_nil))) (pe_op (op_divc (c := 26) (by decide) (by decide)) (pv 4) pe_int) (fun _ _ => rfl))) (pe_slice sl_from (pv 1) (po_some (pv 2)) po_none))))))))), ?_⟩
    refine ⟨_, rfl, _, rfl, _, rfl, rfl, _, _, rfl, Int.emod_nonneg _ (by decide), by omega, fun b hb lb => ?_⟩
    refine ⟨_, rfl, _, _, rfl, fun m m0 m1 => ?_⟩
    refine ⟨_, rfl, rfl, ?_⟩
    have hb10 : b.length ≤ 10 := by omega
    obtain ⟨j, hj⟩ := Int.eq_ofNat_of_zero_le (Int.emod_nonneg m (by decide : (11 : Int) ≠ 0))
    dsimp only [gName]
    rw [hj]
    have hj10 : j ≤ 10 := by omega
    refine ⟨42, rfl, by decide, by decide, fun D nD => lc_range (lo := 0) (n := 42) (fun i H' => Same H H' ∧ H' D = some (.lst (txs ((List.range i).map (nmL b j))))) ⟨same_new nD, upd_same⟩ ?_ ?_⟩
    · rintro i H' hi ⟨s1, eD⟩
      refine ⟨rfl, ?_⟩
      refine ⟨_, rfl, _, rfl, _, rfl, b, j, rfl, rfl, rfl, by omega, ?_⟩
      have e1 : (0 + (i : Int)) % 26 = ((i % 26 : Nat) : Int) := by omega
      refine ⟨_, rfl, _, rfl, _, rfl, rfl, _, i % 26, 97 + i % 26, rfl, by dsimp only; rw [e1], by decide, alphaL (Nat.mod_lt _ (by decide)), ?_⟩
      refine ⟨_, _, rfl, rfl, by rw [List.length_take]; show min j b.length + 1 ≤ 1000000; omega, ?_⟩
      refine ⟨(by show 2 ≤ sizeLine; decide), fun p np => ?_⟩
      refine ⟨_, rfl, _, rfl, rfl, ?_⟩
      have nDp : D ≠ p := ne_of_none eD np
      have e2 : atI [V.str (mkS []), V.str (mkS [122])] ((0 + (i : Int)) / 26) = some (.str (mkS (if i < 26 then [] else [122]))) := by
        by_cases h : i < 26
        · have e3 : (0 + (i : Int)) / 26 = ((0 : Nat) : Int) := by omega
          rw [e3, if_pos h]
          exact atI_nat (j := 0) rfl
        · have e3 : (0 + (i : Int)) / 26 = ((1 : Nat) : Int) := by omega
          rw [e3, if_neg h]
          exact atI_nat (j := 1) rfl
      refine ⟨p, _, _, _, rfl, rfl, SqL.here, e2, ?_⟩
      refine ⟨_, _, rfl, rfl, by rw [List.length_append, List.length_take]; split <;> simp <;> omega, ?_⟩
      refine ⟨_, rfl, _, rfl, _, rfl, b, j, rfl, rfl, rfl, by omega, ?_⟩
      refine ⟨_, _, rfl, rfl, by rw [List.length_append, List.length_append, List.length_take, List.length_drop]; split <;> simp <;> omega, ?_⟩
      refine ⟨_, (upd_ne nDp).trans eD, by unfold txs; rw [List.length_map, List.length_map, List.length_range]; exact Nat.lt_trans hi (by decide), Same.mut (s1.trans (same_new np)) nD, upd_same.trans ?_⟩
      rw [List.range_succ, List.map_append]
      unfold txs
      rw [List.map_append]
      rfl
    · rintro H' ⟨s1, eD⟩
      refine q D _ H' ?_ (nmList_nodup b j) (fun z hz => ?_) s1 eD
      · unfold nmList; rw [List.length_map, List.length_range]
      · obtain ⟨k, hk, rfl⟩ := List.mem_map.mp hz
        exact nmL_ok hb10 lb (List.mem_range.mp hk)
/-! ### _law_letter -/
abbrev n_letter : List Str := ["_law_cell", "_law_names_here", "_law_many_here", "_law_place", "_law_sent", "_law_back", "_law_near", "_law_low", "_law_high"]
theorem sc_letter : FnScope ["_law_cell", "_law_names_here", "_law_many_here", "_law_place", "_law_sent", "_law_back", "_law_near", "_law_low", "_law_high"] ["_law_cell", "_law_names_here", "_law_many_here"] (defScope s_letter) := ⟨rfl, rfl, rfl, by decide +kernel, rfl, by decide +kernel, by decide +kernel⟩
theorem ok_letter (T : Txt K mg a) : FnOk P w K mg base CX0 3 a.f_letter a.d_letter ["_law_cell", "_law_names_here", "_law_many_here"] (spLetterG K) := by
  refine T.letter.F.ok sc_letter (fun vs H Q E h => ?_) (fun cdv A outer s H vs Q E hr h => ?_)
  · obtain ⟨c, m, np', xs, rfl, hN, m0, m1, q⟩ := h
    rfl
  · obtain ⟨c, m, np', xs, rfl, hN, m0, m1, q⟩ := h
    have hu := hu_of hr
    refine ⟨_, (pss_cons (ps_set (i := 3) sc_letter.nd rfl (Or.inl rfl) (pe_op op_mod (pe_cl (ok_mix T) T.mix (hr.mono (by decide)) (pa_cons (pv 0) (pa_cons pe_int pa_nil))) (pv 2)))
      (pss_cons (ps_set (i := 4) sc_letter.nd rfl (Or.inl rfl) (pe_op (op_modc (c := 1000) (by decide)) (pe_cl (ok_mix T) T.mix (hr.mono (by decide)) (pa_cons (pv 0) (pa_cons pe_int pa_nil))) pe_int))
      (pss_cons (ps_set (i := 5) sc_letter.nd rfl (Or.inl rfl) (pe_op op_add (pv 4) (pe_op op_mod (pe_cl (ok_mix T) T.mix (hr.mono (by decide)) (pa_cons (pv 0) (pa_cons pe_int pa_nil))) (pe_ix (ixL K) (pe_lst (pa_cons pe_int (pa_cons pe_int (pa_cons pe_int pa_nil)))) (pe_op (op_modc (c := 3) (by decide)) (pe_cl (ok_mix T) T.mix (hr.mono (by decide)) (pa_cons (pv 0) (pa_cons pe_int pa_nil))) pe_int) (fun _ _ => rfl)))))
      (pss_cons (ps_set (i := 6) sc_letter.nd rfl (Or.inl rfl) (pe_op op_add (pe_op op_add pe_int (pv 4)) (pe_ix (ixL K) (pe_lst (pa_cons pe_int (pa_cons pe_int (pa_cons pe_int (pa_cons pe_int (pa_cons pe_int (pa_cons pe_int (pa_cons pe_int pa_nil)))))))) (pe_op (op_modc (c := 7) (by decide)) (pv 3) pe_int) (fun _ _ => rfl))))
      (pss_cons (ps_set (i := 7) sc_letter.nd rfl (Or.inl rfl) (pe_op op_sub (pe_op op_add (pv 6) (pe_op (op_modc (c := 80) (by decide)) (pe_cl (ok_mix T) T.mix (hr.mono (by decide)) (pa_cons (pv 0) (pa_cons pe_int pa_nil))) pe_int)) pe_int))
      (pss_cons (ps_set (i := 8) sc_letter.nd rfl (Or.inl rfl) (pe_op op_add (pv 6) (pe_op (op_modc (c := 100) (by decide)) (pe_cl (ok_mix T) T.mix (hr.mono (by decide)) (pa_cons (pv 0) (pa_cons pe_int pa_nil))) pe_int)))
      (pss_cons (ps_if (pt_cmpR op_eq (pe_op (op_modc (c := 2) (by decide)) (pe_cl (ok_mix T) T.mix (hr.mono (by decide)) (pa_cons (pv 0) (pa_cons pe_int pa_nil))) pe_int) pe_int (nomark _)) (pss_cons (ps_set (i := 5) sc_letter.nd rfl (Or.inl rfl) (pv 4))
      (pss_cons (ps_set (i := 7) sc_letter.nd rfl (Or.inl rfl) (pe_op op_add (pv 6) (pe_op (op_mulc (c := 10) (by decide)) (pe_op (op_modc (c := 6) (by decide)) (pe_cl (ok_mix T) T.mix (hr.mono (by decide)) (pa_cons (pv 0) (pa_cons pe_int pa_nil))) pe_int) pe_int)))
      (pss_one (ps_set (i := 8) sc_letter.nd rfl (Or.inl rfl) (pe_op op_add (pv 7) (pe_op (op_mulc (c := 10) (by decide)) (pe_op (op_modc (c := 4) (by decide)) (pe_cl (ok_mix T) T.mix (hr.mono (by decide)) (pa_cons (pv 0) (pa_cons pe_int pa_nil))) pe_int) pe_int)))))) pss_nil)
      (pss_cons (ps_asg (pe_callB (sortK K) (by rfl) T.b_sorted (by decide +kernel) (pa_cons (pe_lst (pa_cons (pv 7) (pa_cons (pv 8) pa_nil))) pa_nil)) (pg_unl (by rfl) (pgs_cons (pg_name (i := 7) sc_letter.nd rfl (Or.inl rfl)) (pgs_cons (pg_name (i := 8) sc_letter.nd rfl (Or.inl rfl)) pgs_nil))))
      (pss_cons (ps_if (pt_cmpR op_eq (pe_op (op_modc (c := 9) (by decide)) (pe_cl (ok_mix T) T.mix (hr.mono (by decide)) (pa_cons (pv 0) (pa_cons pe_int pa_nil))) pe_int) pe_int (nomark _)) (pss_one (ps_asg (pe_callB (sortK K) (by rfl) T.b_sorted (by decide +kernel) (pa_cons (pe_lst (pa_cons (pe_cl (ok_big T) T.big (hr.mono (by decide)) (pa_cons (pv 0) (pa_cons pe_int pa_nil))) (pa_cons (pe_cl (ok_big T) T.big (hr.mono (by decide)) (pa_cons (pv 0) (pa_cons pe_int pa_nil))) pa_nil))) pa_nil)) (pg_unl (by rfl) (pgs_cons (pg_name (i := 7) sc_letter.nd rfl (Or.inl rfl)) (pgs_cons (pg_name (i := 8) sc_letter.nd rfl (Or.inl rfl)) pgs_nil))))) pss_nil)
      (pss_cons (ps_if (pt_cmpR op_eq (pe_op (op_modc (c := 9) (by decide)) (pe_cl (ok_mix T) T.mix (hr.mono (by decide)) (pa_cons (pv 0) (pa_cons pe_int pa_nil))) pe_int) pe_int (nomark _)) (pss_one (ps_asg (pe_callB (sortK K) (by rfl) T.b_sorted (by decide +kernel) (pa_cons (pe_lst (pa_cons (pe_cl (ok_big T) T.big (hr.mono (by decide)) (pa_cons (pv 0) (pa_cons pe_int pa_nil))) (pa_cons (pe_cl (ok_big T) T.big (hr.mono (by decide)) (pa_cons (pv 0) (pa_cons pe_int pa_nil))) pa_nil))) pa_nil)) (pg_unl (by rfl) (pgs_cons (pg_name (i := 4) sc_letter.nd rfl (Or.inl rfl)) (pgs_cons (pg_name (i := 5) sc_letter.nd rfl (Or.inl rfl)) pgs_nil))))) pss_nil)
      (pss_one (ps_ret (pe_tup (pa_cons (pe_ix (ixL K) (pv 1) (pv 3) (fun _ _ => rfl)) (pa_cons (pv 4) (pa_cons (pv 5) (pa_cons (pv 7) (pa_cons (pv 8) pa_nil)))))))))))))))))), ?_⟩
    refine ⟨_, rfl, _, _, rfl, fun a a0 a1 => ?_⟩
    refine ⟨_, rfl, _, _, rfl, rfl, (by show 0 < m; omega), ?_⟩
    have pl0 := Int.emod_nonneg a (show m ≠ 0 by omega)
    have pl1 := Int.emod_lt_of_pos a (show 0 < m by omega)
    dsimp only [gName]
    generalize a % m = pl at pl0 pl1 ⊢
    refine ⟨_, rfl, _, _, rfl, fun b b0 b1 => ?_⟩
    refine ⟨_, rfl, rfl, ?_⟩
    dsimp only [gName]
    have sn0 : 0 ≤ b % 1000 := by omega
    have sn1 : b % 1000 < 1000 := by omega
    generalize b % 1000 = sn at sn0 sn1 ⊢
    -- back
    refine ⟨_, rfl, _, rfl, _, _, rfl, fun d d0 d1 => ?_⟩
    refine ⟨(by show 3 ≤ sizeLine; decide), fun p1 n1 => ?_⟩
    refine ⟨_, rfl, _, _, rfl, fun e e0 e1 => ?_⟩
    refine ⟨_, rfl, rfl, ?_⟩
    refine ix_int (fun j => 1 ≤ j ∧ j ≤ 60) SqL.here (Int.emod_nonneg _ (by decide)) (Int.emod_lt_of_pos _ (by decide)) (allc ⟨_, rfl, by decide⟩ (allc ⟨_, rfl, by decide⟩ (all1 ⟨_, rfl, by decide⟩))) fun w hw => ?_
    refine ⟨_, _, rfl, rfl, (by show 0 < w; omega), ?_⟩
    have dw0 := Int.emod_nonneg d (show w ≠ 0 by omega)
    have dw1 := Int.emod_lt_of_pos d (show 0 < w by omega)
    refine ⟨_, _, rfl, rfl, ?_⟩
    dsimp only [gName]
    generalize d % w = dw at dw0 dw1 ⊢
    -- near
    refine ⟨_, rfl, _, _, rfl, rfl, (by show 7 ≤ sizeLine; decide), fun p2 n2 => ?_⟩
    refine ⟨_, rfl, _, rfl, rfl, ?_⟩
    refine ix_int (fun j => 0 ≤ j ∧ j ≤ 600) SqL.here (Int.emod_nonneg _ (by decide)) (Int.emod_lt_of_pos _ (by decide)) (allc ⟨_, rfl, by decide⟩ (allc ⟨_, rfl, by decide⟩ (allc ⟨_, rfl, by decide⟩ (allc ⟨_, rfl, by decide⟩ (allc ⟨_, rfl, by decide⟩ (allc ⟨_, rfl, by decide⟩ (all1 ⟨_, rfl, by decide⟩))))))) fun nr hnr => ?_
    refine ⟨_, _, rfl, rfl, ?_⟩
    dsimp only [gName]
    have nb0 : 500000 ≤ 500000 + sn + nr := by omega
    have nb1 : 500000 + sn + nr ≤ 502000 := by omega
    generalize 500000 + sn + nr = near at nb0 nb1 ⊢
    generalize hHb : upd _ p2 _ = Hb
    obtain ⟨sb', _⟩ := gen_new hHb n2
    clear hHb
    have sHb : Same H Hb := (same_new n1).trans sb'
    -- low, high
    refine ⟨_, rfl, _, rfl, _, _, rfl, fun f f0 f1 => ?_⟩
    refine ⟨_, rfl, rfl, _, _, rfl, rfl, _, _, rfl, rfl, ?_⟩
    refine ⟨_, rfl, _, rfl, _, _, rfl, fun g g0 g1 => ?_⟩
    refine ⟨_, rfl, rfl, _, _, rfl, rfl, ?_⟩
    dsimp only [gName]
    have lw0 : 0 ≤ near + f % 80 - 40 ∧ near + f % 80 - 40 ≤ 1000000 := by omega
    have hw0 : 0 ≤ near + g % 100 ∧ near + g % 100 ≤ 1000000 := by omega
    generalize near + f % 80 - 40 = lw at lw0 ⊢
    generalize near + g % 100 = hw at hw0 ⊢
    -- sworn at once
    refine seq_cut (fun σ' H' => ∃ (bk lo hi : Int), sn ≤ bk ∧ bk ≤ 1100 ∧ 0 ≤ lo ∧ lo ≤ 1000000 ∧ 0 ≤ hi ∧ hi ≤ 1000000 ∧ Hb = H' ∧ σ' = [some (.int c), some (.ref np'), some (.int m), some (.int pl), some (.int sn), some (.int bk), some (.int near), some (.int lo), some (.int hi)]) (fun N hN => ?_) ?_
    · refine ⟨_, rfl, _, _, rfl, fun h h0 h1 => ?_⟩
      refine ⟨_, rfl, rfl, rfl, _, rfl, ?_⟩
      refine ite_eq (fun z => ?_) (fun z => ?_)
      · refine ⟨_, rfl, ?_⟩
        refine ⟨_, rfl, _, rfl, _, _, rfl, fun i i0 i1 => ?_⟩
        refine ⟨_, rfl, rfl, _, rfl, rfl, _, _, rfl, rfl, ?_⟩
        refine ⟨_, rfl, _, rfl, _, _, rfl, fun j j0 j1 => ?_⟩
        refine ⟨_, rfl, rfl, _, rfl, rfl, _, _, rfl, rfl, ?_⟩
        exact hN _ _ ⟨sn, near + i % 6 * 10, near + i % 6 * 10 + j % 4 * 10, by omega, by omega, by omega, by omega, by omega, by omega, rfl, rfl⟩
      · exact hN _ _ ⟨sn + dw, lw, hw, by omega, by omega, by omega, by omega, by omega, by omega, rfl, rfl⟩
    rintro σ' H1 ⟨bk, lo0, hi0, hb0, hb1, l0, l1, h0, h1, rfl, rfl⟩
    refine ⟨_, rfl, _, rfl, (by show 2 ≤ sizeLine; decide), fun p3 n3 => ?_⟩
    refine ⟨_, [lo0, hi0], rfl, SqL.here, (by show 2 < 64; decide), fun ns1 p4 hp1 hs1 n4 => ?_⟩
    obtain ⟨lo1, hi1, rfl, lh, lhx⟩ := perm2 hp1 hs1
    refine ⟨p4, _, rfl, SqL.here, rfl, _, _, rfl, _, _, rfl, rfl, ?_⟩
    dsimp only [gName]
    generalize hHc : upd _ p4 _ = Hc
    obtain ⟨sc', _⟩ := gen_new hHc n4
    clear hHc
    have sHc : Same H Hc := (sHb.trans (same_new n3)).trans sc'
    -- far times
    refine seq_cut (fun σ' H' => ∃ (lo hi : Int), 0 ≤ lo ∧ lo ≤ hi ∧ hi ≤ 1000000000000 ∧ Same Hc H' ∧ σ' = [some (.int c), some (.ref np'), some (.int m), some (.int pl), some (.int sn), some (.int bk), some (.int near), some (.int lo), some (.int hi)]) (fun N hN => ?_) ?_
    · refine ⟨_, rfl, _, _, rfl, fun h h0 h1 => ?_⟩
      refine ⟨_, rfl, rfl, rfl, _, rfl, ?_⟩
      refine ite_eq (fun z => ?_) (fun z => ?_)
      · refine ⟨_, rfl, _, _, rfl, fun i Hd i0 i1 sd => ?_⟩
        refine ⟨_, rfl, _, _, rfl, fun j He j0 j1 se => ?_⟩
        refine ⟨(by show 2 ≤ sizeLine; decide), fun p5 n5 => ?_⟩
        refine ⟨_, [i, j], rfl, SqL.here, (by show 2 < 64; decide), fun ns2 p6 hp2 hs2 n6 => ?_⟩
        obtain ⟨lo2, hi2, rfl, lh2, lhx2⟩ := perm2 hp2 hs2
        refine ⟨p6, _, rfl, SqL.here, rfl, _, _, rfl, _, _, rfl, rfl, ?_⟩
        exact hN _ _ ⟨lo2, hi2, by omega, by omega, by omega, ((sd.trans se).trans (same_new n5)).trans (same_new n6), rfl⟩
      · exact hN _ _ ⟨lo1, hi1, by omega, by omega, by omega, Same.refl _, rfl⟩
    rintro σ' H2 ⟨lo, hi, l2, l3, l4, s2, rfl⟩
    -- far counts
    refine seq_cut (fun σ' H' => ∃ (s' b' : Int), 0 ≤ s' ∧ s' ≤ b' ∧ b' ≤ 1000000000000 ∧ Same H2 H' ∧ σ' = [some (.int c), some (.ref np'), some (.int m), some (.int pl), some (.int s'), some (.int b'), some (.int near), some (.int lo), some (.int hi)]) (fun N hN => ?_) ?_
    · refine ⟨_, rfl, _, _, rfl, fun h h0 h1 => ?_⟩
      refine ⟨_, rfl, rfl, rfl, _, rfl, ?_⟩
      refine ite_eq (fun z => ?_) (fun z => ?_)
      · refine ⟨_, rfl, _, _, rfl, fun i Hd i0 i1 sd => ?_⟩
        refine ⟨_, rfl, _, _, rfl, fun j He j0 j1 se => ?_⟩
        refine ⟨(by show 2 ≤ sizeLine; decide), fun p5 n5 => ?_⟩
        refine ⟨_, [i, j], rfl, SqL.here, (by show 2 < 64; decide), fun ns2 p6 hp2 hs2 n6 => ?_⟩
        obtain ⟨lo2, hi2, rfl, lh2, lhx2⟩ := perm2 hp2 hs2
        refine ⟨p6, _, rfl, SqL.here, rfl, _, _, rfl, _, _, rfl, rfl, ?_⟩
        exact hN _ _ ⟨lo2, hi2, by omega, by omega, by omega, ((sd.trans se).trans (same_new n5)).trans (same_new n6), rfl⟩
      · exact hN _ _ ⟨sn, bk, by omega, by omega, by omega, Same.refl _, rfl⟩
    rintro σ' H3 ⟨sf, bf, s4, s5, s6, s7, rfl⟩
    have sH3 : Same H H3 := (sHc.trans s2).trans s7
    obtain ⟨nm, hnm, hat⟩ := txs_at (ls := xs) pl0 (by omega)
    refine ⟨_, rfl, _, rfl, _, _, _, _, rfl, rfl, sH3.seq hN, hat, ?_⟩
    refine ⟨_, rfl, _, rfl, _, rfl, _, rfl, (by show 5 ≤ sizeLine; decide), fun t nt => ?_⟩
    exact q ⟨nm, sf, bf, lo, hi⟩ t _ hnm ⟨s4, s5, s6, l2, l3, l4⟩ (sH3.trans (same_new nt)) upd_same
/-! ### _law_gathered -/
abbrev n_w_gathered : List Str := ["_law_letters", "_law_now", "_law_off_here", "_law_made", "_law_name", "_law_some", "_law_low", "_law_high", "_law_letter_here", "_law_one"]
theorem sc_w_gathered : FnScope ["_law_letters", "_law_now", "_law_off_here", "_law_made", "_law_name", "_law_some", "_law_low", "_law_high", "_law_letter_here", "_law_one"] ["_law_letters", "_law_now", "_law_off_here"] (defScope s_w_gathered) := ⟨rfl, rfl, rfl, by decide +kernel, rfl, by decide +kernel, by decide +kernel⟩
theorem ok_w_gathered (T : Txt K mg a) : FnOk P w K mg base CX0 3 a.f_w_gathered a.d_w_gathered ["_law_letters", "_law_now", "_law_off_here"] (spLawGathered K) := by
  refine T.w_gathered.F.ok sc_w_gathered (fun vs H Q E h => ?_) (fun cdv A outer s H vs Q E hr h => ?_)
  · obtain ⟨p, as, ls, now, o, rfl, hL, hA, hok, hl, ok, q⟩ := h
    rfl
  · obtain ⟨p, as, ls, now, o, rfl, hL, hA, hok, hl, ok, q⟩ := h
    have hu := hu_of hr
    refine ⟨_, (pss_cons (ps_set (i := 3) sc_w_gathered.nd rfl (Or.inl rfl) (pe_lst pa_nil))
      (pss_cons (ps_for PassesOwn.never rfl (piL K (pe_lc (own := [("_law_letter_here", 8)]) (g := gName 8) (tt := tYes) rfl sc_w_gathered.nd (piL K (pv 0)) (blkOk_by (N := n_w_gathered) (sc := defScope s_w_gathered) (by decide +kernel)) (fun _ _ _ _ _ => pg_name (i := 8) sc_w_gathered.nd rfl (Or.inl rfl)) (fun _ _ _ _ _ => pts_nil) (fun _ _ _ _ _ => (pe_ix (ixT K) (pv 8) pe_int (fun _ _ => rfl))))) (pg_name (i := 4) sc_w_gathered.nd rfl (Or.inr rfl)) (pss_one (ps_if (pt_cmpR (niK K) (pv 4) (pe_lc (own := [("_law_one", 9)]) (g := gName 9) (tt := tYes) rfl sc_w_gathered.nd (piL K (pv 3)) (blkOk_by (N := n_w_gathered) (sc := defScope s_w_gathered) (by decide +kernel)) (fun _ _ _ _ _ => pg_name (i := 9) sc_w_gathered.nd rfl (Or.inl rfl)) (fun _ _ _ _ _ => pts_nil) (fun _ _ _ _ _ => (pe_ix (ixT K) (pv 9) pe_int (fun _ _ => rfl)))) rfl) (pss_cons (ps_setLc (i := 5) (own := [("_law_letter_here", 8)]) (g := gName 8) rfl sc_w_gathered.nd rfl rfl (sw_true rfl rfl rfl (by decide +kernel)) (piL K (pv 0)) (blkOk_by (N := n_w_gathered) (sc := defScope s_w_gathered) (by decide +kernel)) (fun _ _ _ _ _ => pg_name (i := 8) sc_w_gathered.nd rfl (Or.inl rfl)) (fun _ _ _ _ _ => pts_one (pt_cmpR op_eq (pe_ix (ixT K) (pv 8) pe_int (fun _ _ => rfl)) (pv 4) (nomark _))) (fun _ _ _ _ _ => (pe_cl (ok_w_brought T) T.w_brought (hr.mono (by decide)) (pa_cons (pv 8) (pa_cons (pv 1) (pa_cons (pv 2) pa_nil))))))
      (pss_cons (ps_set (i := 6) sc_w_gathered.nd rfl (Or.inl rfl) (pe_callB (maxK K rfl) (by rfl) T.b_max (by decide +kernel) (pa_cons (pe_lc (own := [("_law_one", 9)]) (g := gName 9) (tt := tYes) rfl sc_w_gathered.nd (piL K (pv 5)) (blkOk_by (N := n_w_gathered) (sc := defScope s_w_gathered) (by decide +kernel)) (fun _ _ _ _ _ => pg_name (i := 9) sc_w_gathered.nd rfl (Or.inl rfl)) (fun _ _ _ _ _ => pts_nil) (fun _ _ _ _ _ => (pe_ix (ixT K) (pv 9) pe_int (fun _ _ => rfl)))) pa_nil)))
      (pss_cons (ps_set (i := 7) sc_w_gathered.nd rfl (Or.inl rfl) (pe_callB (minK K rfl) (by rfl) T.b_min (by decide +kernel) (pa_cons (pe_lc (own := [("_law_one", 9)]) (g := gName 9) (tt := tYes) rfl sc_w_gathered.nd (piL K (pv 5)) (blkOk_by (N := n_w_gathered) (sc := defScope s_w_gathered) (by decide +kernel)) (fun _ _ _ _ _ => pg_name (i := 9) sc_w_gathered.nd rfl (Or.inl rfl)) (fun _ _ _ _ _ => pts_nil) (fun _ _ _ _ _ => (pe_ix (ixT K) (pv 9) pe_int (fun _ _ => rfl)))) pa_nil)))
      (pss_one (ps_expr (pe_bm PySem.F.plainAttrs_list PySem.F.slot_list_append PySem.F.type_list_append mt_append (pv 3) (pa_cons (pe_tup (pa_cons (pv 4) (pa_cons (pe_ifExp (pt_cmpR op_le (pv 6) (pv 7) (nomark _)) (pe_tup (pa_cons (pv 6) (pa_cons (pv 7) pa_nil))) pe_non) pa_nil))) pa_nil))))))) pss_nil)))
      (pss_one (ps_ret (pv 3))))), ?_⟩
    refine ⟨(by show 0 ≤ sizeLine; decide), fun pm nm => ?_⟩
    dsimp only [gName]
    generalize hH1 : upd _ pm _ = H1
    obtain ⟨s1, e1⟩ := gen_new hH1 nm
    clear hH1
    have lin : ∀ {i : Nat}, i < (as.map V.ref).length → i < ls.length := fun h => by rwa [List.length_map, hA.1] at h
    -- the names
    refine ⟨_, rfl, p, rfl, ⟨_, s1.seq hL⟩, fun D nD => lc_list (K := K) (a := p) (xs := as.map V.ref) (fun i H' => Same H1 H' ∧ H' D = some (.lst (txs ((ls.take i).map (·.nm))))) ⟨same_new nD, upd_same⟩ (fun i H' _ h => (s1.trans h.1).seq hL) ?_ ?_⟩
    · rintro i v H' hi ⟨s2, eD⟩
      obtain ⟨t, x, rfl, ha, hx, hT⟩ := hA.get hi
      refine ⟨rfl, ?_⟩
      refine ⟨_, rfl, _, _, _, _, rfl, rfl, Ts.Same.seqT (s1.trans s2) hT, atI_nat (j := 0) rfl, ?_⟩
      refine ⟨_, eD, ?_, Same.mut s2 nD, ?_⟩
      · unfold txs
        rw [List.length_map, List.length_map, List.length_take]
        exact Nat.lt_of_lt_of_le (show min i ls.length < 1001 by omega) (by decide)
      · rw [upd_same, take_snoc hx, List.map_append]
        unfold txs
        rw [List.map_append]
        rfl
    rintro H2 ⟨s2, eD⟩
    rw [List.length_map, hA.1, List.take_length] at eD
    have nDm : D ≠ pm := fun z => by rw [z, e1] at nD; cases nD
    refine ⟨D, rfl, ⟨_, SqL.of eD⟩, for_list (K := K) (a := D) (xs := txs (ls.map (·.nm))) (fun i σ H' => Same H H' ∧ H' D = some (.lst (txs (ls.map (·.nm)))) ∧ ∃ (xs : List V) (v4 v5 v6 v7 : Option V),
        σ = [some (.ref p), some (.int now), some (.int o), some (.ref pm), v4, v5, v6, v7, none, none] ∧ H' pm = some (.lst xs) ∧ ClksAt K H' xs (gathTo now o ls i))
      ⟨s1.trans s2, eD, [], none, none, none, none, rfl, s2 _ _ e1, ClksAt.nil⟩ (fun i σ H' _ h => SqL.of h.2.1) ?_ ?_⟩
    · rintro i v σ H3 hi ⟨s3, eD3, xs, v4, v5, v6, v7, rfl, em, hX⟩
      have hil : i < ls.length := by
        have := (List.getElem?_eq_some_iff.mp hi).1
        unfold txs at this
        rwa [List.length_map, List.length_map] at this
      have hx : ls[i]? = some ls[i] := List.getElem?_eq_getElem hil
      generalize ls[i] = x at hx
      have ev : v = .str (mkS x.nm) := by
        unfold txs at hi
        rw [List.getElem?_map, List.getElem?_map, hx] at hi
        exact (Option.some.inj hi).symm
      subst ev
      have hxl : xs.length ≤ 1000 := by
        rw [hX.1]
        unfold gathTo
        rw [List.length_map]
        have := namesOf_len (ls.take i)
        rw [List.length_take] at this
        omega
      have hnm : ∀ {j : Nat} {c : Clk}, (gathTo now o ls i)[j]? = some c → (namesOf (ls.take i))[j]? = some c.1 := fun {j c} h => by
        unfold gathTo at h
        rw [List.getElem?_map] at h
        cases e : (namesOf (ls.take i))[j]? with
        | none => rw [e] at h; cases h
        | some n => rw [e] at h; cases h; rfl
      -- name not in those made
      refine ⟨_, rfl, ?_⟩
      refine ⟨_, rfl, pm, rfl, ⟨_, SqL.of em⟩, fun D2 nD2 => lc_list (K := K) (a := pm) (xs := xs) (fun j H' => Same H3 H' ∧ H' D2 = some (.lst (txs ((namesOf (ls.take i)).take j)))) ⟨same_new nD2, upd_same⟩ (fun j H' _ h => SqL.of (h.1 _ _ em)) ?_ ?_⟩
      · rintro j w H' hj ⟨s4, e2⟩
        obtain ⟨c, hc, t, u, rfl, hT, _⟩ := (hX.same s4).get hj
        refine ⟨rfl, ?_⟩
        refine ⟨_, rfl, _, _, _, _, rfl, rfl, hT, atI_nat (j := 0) rfl, ?_⟩
        refine ⟨_, e2, ?_, Same.mut s4 nD2, ?_⟩
        · unfold txs
          rw [List.length_map, List.length_take]
          have := (List.getElem?_eq_some_iff.mp hj).1
          exact Nat.lt_of_lt_of_le (show min j (namesOf (ls.take i)).length < 1001 by omega) (by decide)
        · rw [upd_same, take_snoc (hnm hc)]
          unfold txs
          rw [List.map_append]
          rfl
      rintro H4 ⟨s4, e2⟩
      have e2' : H4 D2 = some (.lst (txs (namesOf (ls.take i)))) := by
        rw [e2, hX.1]
        unfold gathTo
        rw [List.length_map, List.take_length]
      refine ⟨D2, _, rfl, .inl (SqL.of e2'), rfl, txs_flat _, _, rfl, ?_⟩
      have em4 := s4 _ _ em
      have eD4 := s4 _ _ eD3
      have hX4 := hX.same s4
      rw [if_pos rfl, inV_txs]
      by_cases hm : x.nm ∈ namesOf (ls.take i)
      · rw [decide_eq_true hm]
        refine iteF ?_
        refine ⟨s3.trans s4, eD4, xs, some (.str (mkS x.nm)), v5, v6, v7, rfl, em4, ?_⟩
        have e : gathTo now o ls (i + 1) = gathTo now o ls i := by
          unfold gathTo
          rw [take_snoc hx, namesOf_snoc]
          unfold addN
          rw [if_pos hm]
        rw [e]
        exact hX4
      rw [decide_eq_false hm]
      refine iteT ?_
      have hxi : x ∈ ls := List.mem_of_getElem? hx
      -- its stretches
      refine ⟨_, rfl, p, rfl, ⟨_, (s3.trans s4).seq hL⟩, fun D3 nD3 => lc_list (K := K) (a := p) (xs := as.map V.ref) (fun j H' => Same H4 H' ∧ ∃ bs : List Addr, StsAt K H' bs (stsOf now o x.nm (ls.take j)) ∧ H' D3 = some (.lst (bs.map V.ref)))
        ⟨same_new nD3, [], StsAt.nil, upd_same⟩ (fun j H' _ h => ((s3.trans s4).trans h.1).seq hL) ?_ ?_⟩
      · rintro j w H' hj ⟨s5, bs, hB, e3⟩
        obtain ⟨t, y, rfl, ha, hy, hT⟩ := hA.get hj
        have hT5 := Ts.Same.seqT ((s3.trans s4).trans s5) hT
        refine ⟨rfl, ?_⟩
        refine ⟨_, rfl, _, _, _, _, rfl, rfl, hT5, atI_nat (j := 0) rfl, _, rfl, rfl, _, rfl, ?_⟩
        rw [eq_str, stsOf_take hy]
        by_cases hn : y.nm = x.nm
        · rw [decide_eq_true hn, if_pos hn]
          refine iteT ?_
          refine ⟨_, rfl, _, rfl, _, rfl, t, .str (mkS y.nm), y.s, y.b, y.lo, y.hi, now, o, rfl, hT5, ok, fun u nu => ?_⟩
          have e3' := (upd_ne (ne_of_none e3 nu) (o := .tup [.int (brLo y.b y.lo now o), .int (brHi y.s y.hi now o)])).trans e3
          refine ⟨_, e3', ?_, Same.mut (s5.trans (same_new nu)) nD3, bs ++ [u], ?_, ?_⟩
          · rw [List.length_map, hB.1]
            have h1 : (stsOf now o x.nm (ls.take j)).length ≤ (ls.take j).length := by unfold stsOf; rw [List.length_map]; exact List.length_filter_le _ _
            rw [List.length_take] at h1
            exact Nat.lt_of_lt_of_le (show _ < 1001 by omega) (by decide)
          · exact ((hB.same (same_new nu)).snoc (t := brSt now o y) (SqT.of upd_same)).off e3' (fun _ z => nomatch z) (fun _ _ z => nomatch z)
          · rw [upd_same, List.map_append]
            rfl
        · rw [decide_eq_false hn, if_neg hn]
          refine iteF ?_
          exact ⟨s5, bs, hB, e3⟩
      rintro H5 ⟨s5, bs, hB, e3⟩
      rw [List.length_map, hA.1, List.take_length] at hB
      have hne : stsOf now o x.nm ls ≠ [] := stsOf_some now o (namesOf_mem.mpr ⟨x, hxi, rfl⟩)
      have hbl : bs.length ≤ 1000 := by
        rw [hB.1]
        unfold stsOf
        rw [List.length_map]
        exact Nat.le_trans (List.length_filter_le _ _) hl
      have em5 := s5 _ _ em4
      -- the greatest low
      refine ⟨_, rfl, D3, rfl, ⟨_, SqL.of e3⟩, fun D4 nD4 => lc_list (K := K) (a := D3) (xs := bs.map V.ref) (fun j H' => Same H5 H' ∧ H' D4 = some (.lst ((((stsOf now o x.nm ls).take j).map (·.1)).map V.int))) ⟨same_new nD4, upd_same⟩ (fun j H' _ h => SqL.of (h.1 _ _ e3)) ?_ ?_⟩
      · rintro j w H' hj ⟨s6, e4⟩
        obtain ⟨b, t, rfl, ht, hT⟩ := (hB.same s6).get hj
        refine ⟨rfl, ?_⟩
        refine ⟨_, rfl, _, _, _, _, rfl, rfl, hT, atI_nat (j := 0) rfl, ?_⟩
        refine ⟨_, e4, ?_, Same.mut s6 nD4, ?_⟩
        · rw [List.length_map, List.length_map, List.length_take]
          have := hB.1
          exact Nat.lt_of_lt_of_le (show _ < 1001 by omega) (by decide)
        · rw [upd_same, take_snoc ht, List.map_append, List.map_append]
          rfl
      rintro H6 ⟨s6, e4⟩
      rw [List.length_map, hB.1, List.take_length] at e4
      refine ⟨D4, _, rfl, SqL.of e4, ?_, fun m hm1 hm2 => ?_⟩
      · rw [List.length_map]
        exact List.length_pos_iff.mpr hne
      have eLo := loOf_is hm1 hm2
      subst eLo
      dsimp only [gName]
      have e36 := s6 _ _ e3
      have hB6 := hB.same s6
      -- the least high
      refine ⟨_, rfl, D3, rfl, ⟨_, SqL.of e36⟩, fun D5 nD5 => lc_list (K := K) (a := D3) (xs := bs.map V.ref) (fun j H' => Same H6 H' ∧ H' D5 = some (.lst ((((stsOf now o x.nm ls).take j).map (·.2)).map V.int))) ⟨same_new nD5, upd_same⟩ (fun j H' _ h => SqL.of (h.1 _ _ e36)) ?_ ?_⟩
      · rintro j w H' hj ⟨s7, e5⟩
        obtain ⟨b, t, rfl, ht, hT⟩ := (hB6.same s7).get hj
        refine ⟨rfl, ?_⟩
        refine ⟨_, rfl, _, _, _, _, rfl, rfl, hT, atI_nat (j := 1) rfl, ?_⟩
        refine ⟨_, e5, ?_, Same.mut s7 nD5, ?_⟩
        · rw [List.length_map, List.length_map, List.length_take]
          have := hB.1
          exact Nat.lt_of_lt_of_le (show _ < 1001 by omega) (by decide)
        · rw [upd_same, take_snoc ht, List.map_append, List.map_append]
          rfl
      rintro H7 ⟨s7, e5⟩
      rw [List.length_map, hB.1, List.take_length] at e5
      refine ⟨D5, _, rfl, SqL.of e5, ?_, fun m2 hm3 hm4 => ?_⟩
      · rw [List.length_map]
        exact List.length_pos_iff.mpr hne
      have eHi := hiOf_is hm3 hm4
      subst eHi
      dsimp only [gName]
      have s67 := (s5.trans s6).trans s7
      have em7 := s67 _ _ em4
      have eD7 := s67 _ _ eD4
      have hX7 := hX4.same s67
      have s07 := (s3.trans s4).trans s67
      have eg : gathTo now o ls (i + 1) = gathTo now o ls i ++ [(x.nm, clkOf now o ls x.nm)] := by
        unfold gathTo
        rw [take_snoc hx, namesOf_snoc]
        unfold addN
        rw [if_neg hm, List.map_append]
        rfl
      have fin : ∀ (u : V) (H8 : Hp) (t : Addr), Same H7 H8 → ClV K H8 u (clkOf now o ls x.nm) → H8 t = none →
          (Same H (upd (upd H8 t (.tup [.str (mkS x.nm), u])) pm (.lst (xs ++ [.ref t]))) ∧ (upd (upd H8 t (.tup [.str (mkS x.nm), u])) pm (.lst (xs ++ [.ref t]))) D = some (.lst (txs (ls.map (·.nm)))) ∧
            (upd (upd H8 t (.tup [.str (mkS x.nm), u])) pm (.lst (xs ++ [.ref t]))) pm = some (.lst (xs ++ [.ref t])) ∧ ClksAt K (upd (upd H8 t (.tup [.str (mkS x.nm), u])) pm (.lst (xs ++ [.ref t]))) (xs ++ [.ref t]) (gathTo now o ls (i + 1))) := by
        intro u H8 t s8 cv nt
        have em8 := s8 _ _ em7
        have npt : pm ≠ t := ne_of_none em8 nt
        have em9 := (upd_ne npt (o := .tup [.str (mkS x.nm), u])).trans em8
        have sx : Same H8 (upd H8 t (.tup [.str (mkS x.nm), u])) := same_new nt
        refine ⟨Same.mut ((s07.trans s8).trans sx) nm, (upd_ne nDm).trans (sx _ _ (s8 _ _ eD7)), upd_same, ?_⟩
        rw [eg]
        refine (((hX7.same (s8.trans sx)).snoc ⟨t, u, rfl, SqT.of upd_same, cv.same sx⟩)).off em9 (fun _ z => nomatch z) (fun _ _ z => nomatch z)
      have ec : clkOf now o ls x.nm = if loOf (stsOf now o x.nm ls) ≤ hiOf (stsOf now o x.nm ls) then some (loOf (stsOf now o x.nm ls), hiOf (stsOf now o x.nm ls)) else none := rfl
      have hsz : xs.length < sizeLine := Nat.lt_of_le_of_lt hxl (by decide)
      refine ⟨_, rfl, .inl ⟨rfl, _, SqL.of em7⟩, _, rfl, ?_⟩
      refine ⟨_, rfl, _, rfl, _, _, rfl, rfl, _, rfl, ?_⟩
      refine ite_dec (fun z => ?_) (fun z => ?_)
      · refine ⟨_, rfl, _, rfl, (by show 2 ≤ sizeLine; decide), fun u nu => ?_⟩
        refine ⟨(by show 2 ≤ sizeLine; decide), fun t nt => ?_⟩
        rw [if_pos z] at ec
        have f := fin (.ref u) _ t (same_new nu) (by rw [ec]; exact ⟨u, rfl, SqT.of upd_same⟩) nt
        refine ⟨pm, xs, _, rfl, rfl, (upd_ne (ne_of_none (same_new nu _ _ em7) nt)).trans (same_new nu _ _ em7), hsz, ?_⟩
        exact ⟨f.1, f.2.1, xs ++ [.ref t], some (.str (mkS x.nm)), _, _, _, rfl, f.2.2.1, f.2.2.2⟩
      · refine ⟨(by show 2 ≤ sizeLine; decide), fun t nt => ?_⟩
        rw [if_neg z] at ec
        have f := fin .non _ t (Same.refl _) (by rw [ec]; rfl) nt
        refine ⟨pm, xs, _, rfl, rfl, (upd_ne (ne_of_none em7 nt)).trans em7, hsz, ?_⟩
        exact ⟨f.1, f.2.1, xs ++ [.ref t], some (.str (mkS x.nm)), _, _, _, rfl, f.2.2.1, f.2.2.2⟩
    · rintro σ H3 ⟨s3, eD3, xs, v4, v5, v6, v7, rfl, em, hX⟩
      have e : gathTo now o ls (txs (ls.map (·.nm))).length = gath now o ls := by
        unfold gathTo txs
        rw [List.length_map, List.length_map, List.take_length]
        rfl
      rw [e] at hX
      exact ⟨_, rfl, q pm xs H3 s3 hX em nm⟩
/-! ### _law_many -/
abbrev n_many : List Str := ["_law_clocks", "_law_point", "_law_found", "_law_name", "_law_stretch"]
theorem sc_many : FnScope ["_law_clocks", "_law_point", "_law_found", "_law_name", "_law_stretch"] ["_law_clocks", "_law_point"] (defScope s_many) := ⟨rfl, rfl, rfl, by decide +kernel, rfl, by decide +kernel, by decide +kernel⟩
theorem ok_many (T : Txt K mg a) : FnOk P w K mg base CX0 1 a.f_many a.d_many ["_law_clocks", "_law_point"] (spMany K) := by
  refine T.many.F.ok sc_many (fun vs H Q E h => ?_) (fun cdv A outer s H vs Q E hr h => ?_)
  · obtain ⟨q, xs, cs, t, rfl, hL, hC, k⟩ := h
    rfl
  · obtain ⟨q, xs, cs, t, rfl, hL, hC, k⟩ := h
    have hu := hu_of hr
    refine ⟨_, (pss_cons (ps_set (i := 2) sc_many.nd rfl (Or.inl rfl) pe_int)
      (pss_cons (ps_for PassesOwn.never rfl (piL K (pv 0)) (pg_tup (by rfl) (pgs_cons (pg_name (i := 3) sc_many.nd rfl (Or.inl rfl)) (pgs_cons (pg_name (i := 4) sc_many.nd rfl (Or.inl rfl)) pgs_nil))) (pss_one (ps_if (PW.pt (pw_and (pt_cmpR op_notN (pv 4) pe_non (nomark _)) (pw_and (pt_cmpR op_le (pe_ix (ixT K) (pv 4) pe_int (fun _ _ => rfl)) (pv 1) (nomark _)) (pw_and1 (pt_cmpR op_le (pv 1) (pe_ix (ixT K) (pv 4) pe_int (fun _ _ => rfl)) (nomark _)))))) (pss_one (ps_set (i := 2) sc_many.nd rfl (Or.inl rfl) (pe_op op_add (pv 2) pe_int))) pss_nil)))
      (pss_one (ps_ret (pv 2))))), ?_⟩
    refine ⟨_, rfl, q, rfl, ⟨_, hL⟩, for_list (K := K) (a := q) (xs := xs) (fun i σ H' => H = H' ∧ ∃ v3 v4 : Option V, σ = [some (.ref q), some (.int t), some (.int (manyC (cs.take i) t)), v3, v4]) ⟨rfl, none, none, rfl⟩ (fun i σ H' _ h => h.1 ▸ hL) ?_ ?_⟩
    · rintro i v σ H' hi ⟨rfl, v3, v4, rfl⟩
      obtain ⟨c, hc, u, w, rfl, hT, hV⟩ := hC.get hi
      rw [take_snoc hc, manyC_snoc]
      refine ⟨u, _, rfl, hT, rfl, _, _, rfl, _, _, rfl, rfl, ?_⟩
      obtain ⟨cn, co⟩ := c
      cases co with
      | none =>
        cases (show w = .non from hV)
        refine ⟨_, rfl, rfl, _, rfl, ?_⟩
        refine iteF ?_
        exact ⟨rfl, _, _, rfl⟩
      | some st =>
        obtain ⟨b, rfl, hB⟩ := hV
        refine ⟨_, rfl, rfl, _, rfl, ?_⟩
        refine iteT ?_
        refine ⟨_, rfl, _, _, _, _, rfl, rfl, hB, atI_nat (j := 0) rfl, _, rfl, _, _, rfl, rfl, _, rfl, ?_⟩
        refine ite_dec (fun h1 => ?_) (fun h1 => ?_)
        · refine ⟨_, rfl, _, rfl, _, _, _, _, rfl, rfl, hB, atI_nat (j := 1) rfl, _, _, rfl, rfl, _, rfl, ?_⟩
          refine ite_dec (fun h2 => ?_) (fun h2 => ?_)
          · refine ⟨_, rfl, _, _, rfl, rfl, ?_⟩
            have e : bearsC t (cn, some st) = true := by
              show (decide (st.1 ≤ t) && decide (t ≤ st.2)) = true
              rw [decide_eq_true h1, decide_eq_true h2]
              rfl
            exact ⟨rfl, _, _, by rw [if_pos e]; rfl⟩
          · have e : ¬ bearsC t (cn, some st) = true := by
              show ¬ (decide (st.1 ≤ t) && decide (t ≤ st.2)) = true
              rw [decide_eq_false h2, Bool.and_false]
              exact Bool.false_ne_true
            exact ⟨rfl, _, _, by rw [if_neg e]; rfl⟩
        · have e : ¬ bearsC t (cn, some st) = true := by
            show ¬ (decide (st.1 ≤ t) && decide (t ≤ st.2)) = true
            rw [decide_eq_false h1, Bool.false_and]
            exact Bool.false_ne_true
          exact ⟨rfl, _, _, by rw [if_neg e]; rfl⟩
    · rintro σ H' ⟨rfl, v3, v4, rfl⟩
      rw [hC.1, List.take_length]
      exact ⟨_, rfl, k⟩
/-! ### _law_lows -/
abbrev n_lows : List Str := ["_law_clocks", "_law_name", "_law_stretch"]
theorem sc_lows : FnScope ["_law_clocks", "_law_name", "_law_stretch"] ["_law_clocks"] (defScope s_lows) := ⟨rfl, rfl, rfl, by decide +kernel, rfl, by decide +kernel, by decide +kernel⟩
theorem ok_lows (T : Txt K mg a) : FnOk P w K mg base CX0 1 a.f_lows a.d_lows ["_law_clocks"] (spLows K) := by
  refine T.lows.F.ok sc_lows (fun vs H Q E h => ?_) (fun cdv A outer s H vs Q E hr h => ?_)
  · obtain ⟨q, xs, cs, rfl, hL, hC, hl, k⟩ := h
    rfl
  · obtain ⟨q, xs, cs, rfl, hL, hC, hl, k⟩ := h
    have hu := hu_of hr
    refine ⟨_, (pss_one (ps_ret (pe_lc (own := [("_law_name", 1), ("_law_stretch", 2)]) (g := (gTup K 2 (gCons (gName 1) (gCons (gName 2) gNil)))) rfl sc_lows.nd (piL K (pv 0)) (blkOk_by (N := n_lows) (sc := defScope s_lows) (by decide +kernel)) (fun _ _ _ _ _ => pg_tup (by rfl) (pgs_cons (pg_name (i := 1) sc_lows.nd rfl (Or.inl rfl)) (pgs_cons (pg_name (i := 2) sc_lows.nd rfl (Or.inl rfl)) pgs_nil))) (fun _ _ _ _ _ => pts_one (pt_cmpR op_notN (pv 2) pe_non (nomark _))) (fun _ _ _ _ _ => (pe_ix (ixT K) (pv 2) pe_int (fun _ _ => rfl)))))), ?_⟩
    refine ⟨_, rfl, q, rfl, ⟨_, hL⟩, fun D nD => lc_list (K := K) (a := q) (xs := xs) (fun i H' => Same H H' ∧ H' D = some (.lst ((lowsC (cs.take i)).map V.int)) ∧ (lowsC (cs.take i)).length ≤ i) ⟨same_new nD, upd_same, Nat.le_refl _⟩ (fun i H' _ h => h.1.seq hL) ?_ ?_⟩
    · rintro i v H' hi ⟨s1, eD, hi2⟩
      obtain ⟨c, hc, u, w, rfl, hT, hV⟩ := (hC.same s1).get hi
      have il : i < 1000 := by
        have := (List.getElem?_eq_some_iff.mp hc).1
        omega
      rw [take_snoc hc]
      refine ⟨u, _, rfl, hT, rfl, _, _, rfl, _, _, rfl, rfl, ?_⟩
      refine ⟨rfl, ?_⟩
      obtain ⟨cn, co⟩ := c
      cases co with
      | none =>
        cases (show w = .non from hV)
        have e : lowsC (cs.take i ++ [(cn, none)]) = lowsC (cs.take i) := by
          unfold lowsC
          rw [List.filterMap_append]
          simp
        rw [e]
        refine ⟨_, rfl, rfl, _, rfl, ?_⟩
        refine iteF ?_
        exact ⟨s1, eD, Nat.le_succ_of_le hi2⟩
      | some st =>
        obtain ⟨b, rfl, hB⟩ := hV
        have e : lowsC (cs.take i ++ [(cn, some st)]) = lowsC (cs.take i) ++ [st.1] := by
          unfold lowsC
          rw [List.filterMap_append]
          rfl
        rw [e]
        refine ⟨_, rfl, rfl, _, rfl, ?_⟩
        refine iteT ?_
        refine ⟨_, rfl, _, _, _, _, rfl, rfl, hB, atI_nat (j := 0) rfl, ?_⟩
        refine ⟨_, eD, by rw [List.length_map]; exact Nat.lt_of_le_of_lt (show (lowsC (cs.take i)).length ≤ 1000 by omega) (by decide), Same.mut s1 nD, upd_same.trans (by rw [List.map_append]; rfl), by rw [List.length_append]; show _ + 1 ≤ i + 1; omega⟩
    · rintro H' ⟨s1, eD, _⟩
      rw [hC.1, List.take_length] at eD
      exact k D H' s1 nD eD
/-! ### _law_edges -/
abbrev n_edges : List Str := ["_law_clocks", "_law_made", "_law_name", "_law_stretch"]
theorem sc_edges : FnScope ["_law_clocks", "_law_made", "_law_name", "_law_stretch"] ["_law_clocks"] (defScope s_edges) := ⟨rfl, rfl, rfl, by decide +kernel, rfl, by decide +kernel, by decide +kernel⟩
theorem ok_edges (T : Txt K mg a) : FnOk P w K mg base CX0 1 a.f_edges a.d_edges ["_law_clocks"] (spEdges K) := by
  refine T.edges.F.ok sc_edges (fun vs H Q E h => ?_) (fun cdv A outer s H vs Q E hr h => ?_)
  · obtain ⟨q, xs, cs, rfl, hL, hC, hl, k⟩ := h
    rfl
  · obtain ⟨q, xs, cs, rfl, hL, hC, hl, k⟩ := h
    have hu := hu_of hr
    refine ⟨_, (pss_cons (ps_set (i := 1) sc_edges.nd rfl (Or.inl rfl) (pe_lst pa_nil))
      (pss_cons (ps_for PassesOwn.never rfl (piL K (pv 0)) (pg_tup (by rfl) (pgs_cons (pg_name (i := 2) sc_edges.nd rfl (Or.inl rfl)) (pgs_cons (pg_name (i := 3) sc_edges.nd rfl (Or.inl rfl)) pgs_nil))) (pss_one (ps_if (pt_cmpR op_notN (pv 3) pe_non (nomark _)) (pss_one (ps_set (i := 1) sc_edges.nd rfl (Or.inl rfl) (pe_op op_cat (pv 1) (pe_lst (pa_cons (pe_ix (ixT K) (pv 3) pe_int (fun _ _ => rfl)) (pa_cons (pe_op op_add (pe_ix (ixT K) (pv 3) pe_int (fun _ _ => rfl)) pe_int) pa_nil)))))) pss_nil)))
      (pss_one (ps_ret (pv 1))))), ?_⟩
    refine ⟨(by show 0 ≤ sizeLine; decide), fun pm nm => ?_⟩
    dsimp only [gName]
    refine ⟨_, rfl, q, rfl, ⟨_, (same_new nm).seq hL⟩, for_list (K := K) (a := q) (xs := xs) (fun i σ H' => Same H H' ∧ ∃ (pm' : Addr) (v2 v3 : Option V), σ = [some (.ref q), some (.ref pm'), v2, v3] ∧ H pm' = none ∧ H' pm' = some (.lst ((edgesC (cs.take i)).map V.int))) ⟨same_new nm, pm, none, none, rfl, nm, upd_same⟩ (fun i σ H' _ h => h.1.seq hL) ?_ ?_⟩
    · rintro i v σ H' hi ⟨s1, pm', v2, v3, rfl, nm', em⟩
      obtain ⟨c, hc, u, w, rfl, hT, hV⟩ := (hC.same s1).get hi
      have il : i < cs.length := (List.getElem?_eq_some_iff.mp hc).1
      have el := edgesC_len (cs.take i)
      rw [List.length_take] at el
      rw [take_snoc hc]
      refine ⟨u, _, rfl, hT, rfl, _, _, rfl, _, _, rfl, rfl, ?_⟩
      obtain ⟨cn, co⟩ := c
      cases co with
      | none =>
        cases (show w = .non from hV)
        refine ⟨_, rfl, rfl, _, rfl, ?_⟩
        refine iteF ?_
        rw [edgesC_none]
        exact ⟨s1, pm', _, _, rfl, nm', em⟩
      | some st =>
        obtain ⟨b, rfl, hB⟩ := hV
        rw [edgesC_some]
        refine ⟨_, rfl, rfl, _, rfl, ?_⟩
        refine iteT ?_
        refine ⟨_, rfl, _, rfl, _, _, _, _, rfl, rfl, hB, atI_nat (j := 0) rfl, _, rfl, _, _, _, _, rfl, rfl, hB, atI_nat (j := 1) rfl, _, _, rfl, rfl, (by show 2 ≤ sizeLine; decide), fun p np => ?_⟩
        refine ⟨_, _, _, _, rfl, rfl, (upd_ne (ne_of_none em np)).trans em, upd_same, by rw [List.length_map]; exact Nat.le_trans (show _ ≤ 2002 by show _ + 2 ≤ 2002; omega) (by decide), fun p2 np2 => ?_⟩
        exact ⟨(s1.trans (same_new np)).trans (same_new np2), p2, _, _, rfl, (s1.trans (same_new np)).free np2, upd_same.trans (by rw [List.map_append]; rfl)⟩
    · rintro σ H' ⟨s1, pm', v2, v3, rfl, nm', em⟩
      rw [hC.1, List.take_length] at em
      exact ⟨_, rfl, k pm' H' s1 nm' em⟩
/-! ### _law_parts_right -/
abbrev n_parts_right : List Str := ["_law_clocks", "_law_need", "_law_found", "_law_ahead", "_law_one", "_law_point", "_law_held"]
theorem sc_parts_right : FnScope ["_law_clocks", "_law_need", "_law_found", "_law_ahead", "_law_one", "_law_point", "_law_held"] ["_law_clocks", "_law_need", "_law_found"] (defScope s_parts_right) := ⟨rfl, rfl, rfl, by decide +kernel, rfl, by decide +kernel, by decide +kernel⟩
theorem ok_parts_right (T : Txt K mg a) : FnOk P w K mg base CX0 2 a.f_parts_right a.d_parts_right ["_law_clocks", "_law_need", "_law_found"] (spPartsRight K) := by
  refine T.parts_right.F.ok sc_parts_right (fun vs H Q E h => ?_) (fun cdv A outer s H vs Q E hr h => ?_)
  · obtain ⟨q, pf, need, xs, cs, bs, ts, rfl, hL, hC, hcl, hF, hB, htl, hP, k⟩ := h
    rfl
  · obtain ⟨q, pf, need, xs, cs, bs, ts, rfl, hL, hC, hcl, hF, hB, htl, hP, k⟩ := h
    have hu := hu_of hr
    refine ⟨_, (pss_cons (ps_if (pt_not (pt_val (pe_callB (isiK K) (by rfl) T.b_isinstance (by decide +kernel) (pa_cons (pv 2) (pa_cons (pe_bty (n := "list") T.b_list (by decide +kernel)) pa_nil))))) (pss_one (ps_ret pe_bl)) pss_nil)
      (pss_cons (ps_set (i := 3) sc_parts_right.nd rfl (Or.inl rfl) pe_non)
      (pss_cons (ps_for PassesOwn.never rfl (piL K (pv 2)) (pg_name (i := 4) sc_parts_right.nd rfl (Or.inl rfl)) (pss_cons (ps_if (PW.pt (pw_or (pt_not (pt_val (pe_callB (isiK K) (by rfl) T.b_isinstance (by decide +kernel) (pa_cons (pv 4) (pa_cons (pe_bty (n := "tuple") T.b_tuple (by decide +kernel)) pa_nil))))) (pw_or (pt_cmpR op_ne (pe_callB (lenK K) (by rfl) T.b_len boot_len (pa_cons (pv 4) pa_nil)) pe_int (nomark _)) (pw_or (pt_not (pt_val (pe_cl (ok_whole T) T.whole (hr.mono (by decide)) (pa_cons (pe_ix (ixT K) (pv 4) pe_int (fun _ _ => rfl)) pa_nil)))) (pw_or1 (pt_not (pt_val (pe_cl (ok_whole T) T.whole (hr.mono (by decide)) (pa_cons (pe_ix (ixT K) (pv 4) pe_int (fun _ _ => rfl)) pa_nil))))))))) (pss_one (ps_ret pe_bl)) pss_nil)
      (pss_cons (ps_if (PW.pt (pw_or (pt_cmpR op_gt (pe_ix (ixT K) (pv 4) pe_int (fun _ _ => rfl)) (pe_ix (ixT K) (pv 4) pe_int (fun _ _ => rfl)) (nomark _)) (pw_or1 (PW.pt (pw_and (pt_cmpR op_notN (pv 3) pe_non (nomark _)) (pw_and1 (pt_cmpR op_le (pe_ix (ixT K) (pv 4) pe_int (fun _ _ => rfl)) (pe_op op_add (pv 3) pe_int) (nomark _)))))))) (pss_one (ps_ret pe_bl)) pss_nil)
      (pss_cons (ps_if (PW.pt (pw_or (pt_cmpR op_ge (pe_cl (ok_many T) T.many (hr.mono (by decide)) (pa_cons (pv 0) (pa_cons (pe_op op_sub (pe_ix (ixT K) (pv 4) pe_int (fun _ _ => rfl)) pe_int) pa_nil))) (pv 1) (nomark _)) (pw_or1 (pt_cmpR op_ge (pe_cl (ok_many T) T.many (hr.mono (by decide)) (pa_cons (pv 0) (pa_cons (pe_op op_add (pe_ix (ixT K) (pv 4) pe_int (fun _ _ => rfl)) pe_int) pa_nil))) (pv 1) (nomark _))))) (pss_one (ps_ret pe_bl)) pss_nil)
      (pss_one (ps_set (i := 3) sc_parts_right.nd rfl (Or.inl rfl) (pe_ix (ixT K) (pv 4) pe_int (fun _ _ => rfl))))))))
      (pss_cons (ps_for PassesOwn.never rfl (piL K (pe_op op_cat (pe_cl (ok_edges T) T.edges (hr.mono (by decide)) (pa_cons (pv 0) pa_nil)) (pe_lc (own := [("_law_one", 4)]) (g := gName 4) (tt := tYes) rfl sc_parts_right.nd (piL K (pv 2)) (blkOk_by (N := n_parts_right) (sc := defScope s_parts_right) (by decide +kernel)) (fun _ _ _ _ _ => pg_name (i := 4) sc_parts_right.nd rfl (Or.inl rfl)) (fun _ _ _ _ _ => pts_nil) (fun _ _ _ _ _ => (pe_ix (ixT K) (pv 4) pe_int (fun _ _ => rfl)))))) (pg_name (i := 5) sc_parts_right.nd rfl (Or.inr rfl)) (pss_cons (ps_set (i := 6) sc_parts_right.nd rfl (Or.inl rfl) (pe_cmpR (neDK K hr.units) (pe_lc (own := [("_law_one", 4)]) (g := gName 4) rfl sc_parts_right.nd (piL K (pv 2)) (blkOk_by (N := n_parts_right) (sc := defScope s_parts_right) (by decide +kernel)) (fun _ _ _ _ _ => pg_name (i := 4) sc_parts_right.nd rfl (Or.inl rfl)) (fun _ _ _ _ _ => pts_one (PW.pt (pw_and (pt_cmpR op_le (pe_ix (ixT K) (pv 4) pe_int (fun _ _ => rfl)) (pv 5) (nomark _)) (pw_and1 (pt_cmpR op_le (pv 5) (pe_ix (ixT K) (pv 4) pe_int (fun _ _ => rfl)) (nomark _)))))) (fun _ _ _ _ _ => (pv 4))) (pe_lst pa_nil) (nomark _)))
      (pss_one (ps_if (pt_cmpR op_ne (pv 6) (pe_cmpR op_ge (pe_cl (ok_many T) T.many (hr.mono (by decide)) (pa_cons (pv 0) (pa_cons (pv 5) pa_nil))) (pv 1) (nomark _)) (nomark _)) (pss_one (ps_ret pe_bl)) pss_nil))))
      (pss_one (ps_ret pe_bl)))))), ?_⟩
    refine ⟨_, rfl, _, _, _, _, true, rfl, .ty _, .base (.lst hF), kit_ty (by decide +kernel), _, rfl, ?_⟩
    refine iteF ?_
    refine ⟨_, rfl, pf, rfl, ⟨_, SqL.of hF⟩, for_list (K := K) (a := pf) (xs := bs.map V.ref) (fun i σ H' => H = H' ∧ ∃ (w : V) (v4 : Option V), σ = [some (.ref q), some (.int need), some (.ref pf), some w, v4, none, none] ∧ ((i = 0 ∧ w = .non) ∨ ∃ (j : Nat) (t : St2), i = j + 1 ∧ ts[j]? = some t ∧ w = .int t.2)) ⟨rfl, .non, none, rfl, .inl ⟨rfl, rfl⟩⟩ (fun i σ H' _ h => h.1 ▸ SqL.of hF) ?_ ?_⟩
    · rintro i v σ H' hi ⟨rfl, w, v4, rfl, hw⟩
      obtain ⟨b, t, rfl, ht, hT⟩ := hB.get hi
      have tm : t ∈ ts := List.mem_of_getElem? ht
      have tle := hP.le t tm
      have tb := hP.below tm
      have ta := hP.above tm
      refine ⟨_, rfl, _, _, _, _, true, rfl, .ty _, tyT hT, kit_ty (by decide +kernel), _, rfl, ?_⟩
      refine iteF ?_
      refine ⟨_, rfl, _, _, rfl, .inr hT, rfl, _, rfl, ?_⟩
      refine iteNS rfl ?_
      refine ⟨_, rfl, _, _, _, _, rfl, rfl, hT, atI_nat (j := 0) rfl, _, rfl, _, rfl, ?_⟩
      refine iteF ?_
      refine ⟨_, rfl, _, _, _, _, rfl, rfl, hT, atI_nat (j := 1) rfl, _, rfl, _, rfl, ?_⟩
      refine iteF ?_
      -- rising, apart
      dsimp only [gName, tNext]
      refine seq_cut (fun σ' H' => H = H' ∧ σ' = [some (.ref q), some (.int need), some (.ref pf), some w, some (.ref b), none, none]) (fun N hN => ?_) ?_
      · refine ⟨_, rfl, _, _, _, _, rfl, rfl, hT, atI_nat (j := 0) rfl, _, rfl, _, _, _, _, rfl, rfl, hT, atI_nat (j := 1) rfl, _, _, rfl, rfl, _, rfl, ?_⟩
        refine ite_dec (fun h => absurd h (by omega)) (fun _ => ?_)
        rcases hw with ⟨_, rfl⟩ | ⟨j, t', rfl, ht', rfl⟩
        · refine ⟨_, rfl, rfl, _, rfl, ?_⟩
          refine iteF ?_
          refine iteF ?_
          exact hN _ _ ⟨rfl, rfl⟩
        · have nx := hP.next ht' ht (Nat.lt_succ_self _)
          refine ⟨_, rfl, rfl, _, rfl, ?_⟩
          refine iteT ?_
          refine ⟨_, rfl, _, _, _, _, rfl, rfl, hT, atI_nat (j := 0) rfl, _, rfl, _, _, rfl, rfl, _, _, rfl, rfl, _, rfl, ?_⟩
          refine ite_dec (fun h => absurd h (by omega)) (fun _ => ?_)
          exact hN _ _ ⟨rfl, rfl⟩
      rintro σ' H' ⟨rfl, rfl⟩
      refine ⟨_, rfl, _, rfl, _, _, _, _, rfl, rfl, hT, atI_nat (j := 0) rfl, _, _, rfl, rfl, q, xs, cs, _, rfl, hL, hC, _, rfl, _, _, rfl, rfl, _, rfl, ?_⟩
      refine ite_dec (fun h => absurd h (by omega)) (fun _ => ?_)
      refine ⟨_, rfl, _, rfl, _, _, _, _, rfl, rfl, hT, atI_nat (j := 1) rfl, _, _, rfl, rfl, q, xs, cs, _, rfl, hL, hC, _, rfl, _, _, rfl, rfl, _, rfl, ?_⟩
      refine ite_dec (fun h => absurd h (by omega)) (fun _ => ?_)
      refine ⟨_, rfl, _, _, _, _, rfl, rfl, hT, atI_nat (j := 1) rfl, ?_⟩
      exact ⟨rfl, .int t.2, _, rfl, .inr ⟨i, t, rfl, ht, rfl⟩⟩
    rintro σ H' ⟨rfl, w, v4, rfl, _⟩
    -- the points
    refine ⟨_, rfl, q, xs, cs, rfl, hL, hC, hcl, fun pe H1 s1 ne ee => ?_⟩
    have hF1 := s1 _ _ hF
    have hB1 := hB.same s1
    refine ⟨_, rfl, pf, rfl, ⟨_, SqL.of hF1⟩, fun D nD => lc_list (K := K) (a := pf) (xs := bs.map V.ref) (fun i H' => Same H1 H' ∧ H' D = some (.lst (((ts.take i).map (·.1)).map V.int))) ⟨same_new nD, upd_same⟩ (fun i H' _ h => SqL.of (h.1 _ _ hF1)) ?_ ?_⟩
    · rintro i v H' hi ⟨s2, eD⟩
      obtain ⟨b, t, rfl, ht, hT⟩ := (hB1.same s2).get hi
      refine ⟨rfl, ?_⟩
      refine ⟨_, rfl, _, _, _, _, rfl, rfl, hT, atI_nat (j := 0) rfl, ?_⟩
      refine ⟨_, eD, by rw [List.length_map, List.length_map, List.length_take]; exact Nat.lt_of_le_of_lt (show _ ≤ 2000 by omega) (by decide), Same.mut s2 nD, upd_same.trans ?_⟩
      rw [take_snoc ht, List.map_append, List.map_append]
      rfl
    rintro H2 ⟨s2, eD⟩
    rw [List.length_map, hB.1, List.take_length] at eD
    have el := edgesC_len cs
    refine ⟨_, _, _, _, rfl, rfl, s2 _ _ ee, eD, by rw [List.length_map, List.length_map, List.length_map]; exact Nat.le_trans (show _ ≤ 4000 by omega) (by decide), fun pp np => ?_⟩
    generalize hH3 : upd _ pp _ = H3
    obtain ⟨s3, ep⟩ := gen_new hH3 np
    clear hH3
    have s03 := (s1.trans s2).trans s3
    have hF3 := s03 _ _ hF
    have hB3 := hB.same s03
    rw [← List.map_append] at ep
    refine ⟨pp, rfl, ⟨_, SqL.of ep⟩, for_list (K := K) (a := pp) (xs := (edgesC cs ++ ts.map (·.1)).map V.int) (fun i σ H' => Same H3 H' ∧ ∃ v3 v4 v5 v6 : Option V, σ = [some (.ref q), some (.int need), some (.ref pf), v3, v4, v5, v6]) ⟨Same.refl H3, some w, v4, none, none, rfl⟩ (fun i σ H' _ h => SqL.of (h.1 _ _ ep)) ?_ ?_⟩
    · rintro i v σ H4 hi ⟨s4, v3, v4, v5, v6, rfl⟩
      obtain ⟨x, rfl⟩ : ∃ x, v = V.int x := by
        obtain ⟨x, _, e⟩ := List.mem_map.mp (List.mem_of_getElem? hi)
        exact ⟨x, e.symm⟩
      have hF4 := s4 _ _ hF3
      have hB4 := hB3.same s4
      refine ⟨_, rfl, pf, rfl, ⟨_, SqL.of hF4⟩, fun D4 nD4 => lc_list (K := K) (a := pf) (xs := bs.map V.ref) (fun j H' => Same H4 H' ∧ ∃ bs' : List Addr, bs'.length ≤ j ∧ StsAt K H' bs' ((ts.take j).filter (inSt x)) ∧ H' D4 = some (.lst (bs'.map V.ref))) ⟨same_new nD4, [], Nat.le_refl _, StsAt.nil, upd_same⟩ (fun j H' _ h => SqL.of (h.1 _ _ hF4)) ?_ ?_⟩
      · rintro j v H' hj ⟨s5, bs', hb', hB', e4⟩
        obtain ⟨b, t, rfl, ht, hT⟩ := (hB4.same s5).get hj
        have jl : j < ts.length := (List.getElem?_eq_some_iff.mp ht).1
        rw [take_snoc ht, List.filter_append]
        refine ⟨rfl, ?_⟩
        refine ⟨_, rfl, _, _, _, _, rfl, rfl, hT, atI_nat (j := 0) rfl, _, rfl, _, _, rfl, rfl, _, rfl, ?_⟩
        refine ite_dec (fun g1 => ?_) (fun g1 => ?_)
        · refine ⟨_, rfl, _, rfl, _, _, _, _, rfl, rfl, hT, atI_nat (j := 1) rfl, _, _, rfl, rfl, _, rfl, ?_⟩
          refine ite_dec (fun g2 => ?_) (fun g2 => ?_)
          · refine ⟨_, rfl, ?_⟩
            have e : inSt x t = true := by unfold inSt; rw [decide_eq_true g1, decide_eq_true g2]; rfl
            rw [List.filter_cons_of_pos e, List.filter_nil]
            exact ⟨_, e4, by rw [List.length_map]; exact Nat.lt_of_le_of_lt (show _ ≤ 2000 by omega) (by decide), Same.mut s5 nD4, bs' ++ [b], by rw [List.length_append]; show _ + 1 ≤ j + 1; omega, (hB'.snoc hT).off e4 (fun _ z => nomatch z) (fun _ _ z => nomatch z), upd_same.trans (by rw [List.map_append]; rfl)⟩
          · have e : ¬ inSt x t = true := by unfold inSt; rw [decide_eq_false g2, Bool.and_false]; exact Bool.false_ne_true
            rw [List.filter_cons_of_neg e, List.filter_nil, List.append_nil]
            exact ⟨s5, bs', by omega, hB', e4⟩
        · have e : ¬ inSt x t = true := by unfold inSt; rw [decide_eq_false g1, Bool.false_and]; exact Bool.false_ne_true
          rw [List.filter_cons_of_neg e, List.filter_nil, List.append_nil]
          exact iteF ⟨s5, bs', by omega, hB', e4⟩
      rintro H5 ⟨s5, bs', hb', hB', e4⟩
      rw [List.length_map, hB.1, List.take_length] at hB'
      refine ⟨(by show 0 ≤ sizeLine; decide), fun p6 n6 => ?_⟩
      refine ⟨_, _, (hB'.same (same_new n6)).dp (SqL.of ((upd_ne (ne_of_none e4 n6)).trans e4)), .lst SqL.here .nil, shp_sts _, rfl, ?_⟩
      rw [hP.held x]
      have s46 : Same H4 _ := s5.trans (same_new n6 (o := .lst []))
      dsimp only [gName]
      refine ⟨_, rfl, _, rfl, _, rfl, q, xs, cs, x, rfl, ((s03.trans s4).trans s46).seq hL, hC.same ((s03.trans s4).trans s46), _, rfl, _, _, rfl, rfl, rfl, _, rfl, ?_⟩
      refine ite_no (by rw [decide_eq_true rfl]; rfl) ?_
      exact ⟨s4.trans s46, _, _, _, _, rfl⟩
    · rintro σ H4 ⟨s4, v3, v4, v5, v6, rfl⟩
      exact k H4 (s03.trans s4)
/-! ### _law_due -/
abbrev n_due : List Str := ["_law_letters", "_law_now", "_law_off_here", "_law_few", "_law_clocks", "_law_lows_here", "_law_low"]
theorem sc_due : FnScope ["_law_letters", "_law_now", "_law_off_here", "_law_few", "_law_clocks", "_law_lows_here", "_law_low"] ["_law_letters", "_law_now", "_law_off_here", "_law_few"] (defScope s_due) := ⟨rfl, rfl, rfl, by decide +kernel, rfl, by decide +kernel, by decide +kernel⟩
theorem ok_due (T : Txt K mg a) : FnOk P w K mg base CX0 4 a.f_due a.d_due ["_law_letters", "_law_now", "_law_off_here", "_law_few"] (spDueS K) := by
  refine T.due.F.ok sc_due (fun vs H Q E h => ?_) (fun cdv A outer s H vs Q E hr h => ?_)
  · obtain ⟨p, as, ls, now, o, f, rfl, hL, hA, hok, hl, ok, k⟩ := h
    rfl
  · obtain ⟨p, as, ls, now, o, f, rfl, hL, hA, hok, hl, ok, k⟩ := h
    have hu := hu_of hr
    refine ⟨_, (pss_cons (ps_set (i := 4) sc_due.nd rfl (Or.inr rfl) (pe_cl (ok_w_gathered T) T.w_gathered (hr.mono (by decide)) (pa_cons (pv 0) (pa_cons (pv 1) (pa_cons (pv 2) pa_nil)))))
      (pss_cons (ps_if (pt_cmpR (eqDK K hr.units) (pv 4) (pe_lst pa_nil) (nomark _)) (pss_one (ps_ret pe_str)) pss_nil)
      (pss_cons (ps_if (pt_cmpR op_isN (pv 3) pe_non (nomark _)) (pss_one (ps_set (i := 3) sc_due.nd rfl (Or.inr rfl) (pe_op (op_divc (c := 2) (by decide) (by decide)) (pe_op op_sub (pe_callB (lenK K) (by rfl) T.b_len boot_len (pa_cons (pv 4) pa_nil)) pe_int) pe_int))) pss_nil)
      (pss_cons (ps_if (PW.pt (pw_or (pt_cmpR op_lt (pv 3) pe_int (nomark _)) (pw_or1 (pt_cmpR op_ge (pv 3) (pe_callB (lenK K) (by rfl) T.b_len boot_len (pa_cons (pv 4) pa_nil)) (nomark _))))) (pss_one (ps_ret pe_str)) pss_nil)
      (pss_cons (ps_setLc (i := 5) (own := [("_law_low", 6)]) (g := gName 6) rfl sc_due.nd rfl rfl (sw_true rfl rfl rfl (by decide +kernel)) (piL K (pe_cl (ok_lows T) T.lows (hr.mono (by decide)) (pa_cons (pv 4) pa_nil))) (blkOk_by (N := n_due) (sc := defScope s_due) (by decide +kernel)) (fun _ _ _ _ _ => pg_name (i := 6) sc_due.nd rfl (Or.inl rfl)) (fun _ _ _ _ _ => pts_one (pt_cmpR op_ge (pe_cl (ok_many T) T.many (hr.mono (by decide)) (pa_cons (pv 4) (pa_cons (pv 6) pa_nil))) (pe_op op_sub (pe_callB (lenK K) (by rfl) T.b_len boot_len (pa_cons (pv 4) pa_nil)) (pv 3)) (nomark _))) (fun _ _ _ _ _ => (pv 6)))
      (pss_cons (ps_if (pt_cmpR (eqDK K hr.units) (pv 5) (pe_lst pa_nil) (nomark _)) (pss_one (ps_ret pe_str)) pss_nil)
      (pss_one (ps_ret pe_str)))))))), ?_⟩
    refine ⟨_, rfl, _, rfl, _, rfl, p, as, ls, now, o, rfl, hL, hA, hok, hl, ok, fun q xs H1 s1 hX eq nq => ?_⟩
    dsimp only [gName]
    have lowC := gath_low (now := now) (o := o) hok
    have hcl : (gath now o ls).length ≤ 1000 := Nat.le_trans gath_len hl
    generalize gath now o ls = cs at hX k lowC hcl
    -- clocks == []
    refine ⟨_, rfl, (by show 0 ≤ sizeLine; decide), fun p1 n1 => ?_⟩
    have eq2 := (upd_ne (ne_of_none eq n1) (o := .lst [])).trans eq
    have s2 : Same H _ := s1.trans (same_new n1 (o := .lst []))
    have hX2 := hX.same (same_new n1 (o := .lst []))
    refine ⟨clksD cs, .list [], hX2.dp (SqL.of eq2), .lst SqL.here .nil, shp_clks lowC, rfl, _, rfl, ?_⟩
    generalize upd H1 p1 _ = H2 at s2 eq2 hX2 ⊢
    by_cases hne : cs = []
    · subst hne
      refine ite_yes rfl ?_
      exact k H2 s2
    refine ite_no (by
      cases cs with
      | nil => exact absurd rfl hne
      | cons c l => rfl) ?_
    dsimp only [tNext]
    refine seq_cut (fun σ' H' => H2 = H' ∧ σ' = [some (.ref p), some (.int now), some (.int o), some (.int (fewI cs f)), some (.ref q), none, none]) (fun N hN => ?_) ?_
    · refine ⟨_, rfl, rfl, _, rfl, ?_⟩
      cases f with
      | none =>
        refine ite_yes rfl ?_
        refine ⟨_, rfl, _, _, rfl, .inl (SqL.of eq2), _, _, rfl, rfl, _, rfl, rfl, ?_⟩
        rw [hX2.1]
        exact hN _ _ ⟨rfl, rfl⟩
      | some j =>
        refine ite_no rfl ?_
        exact hN _ _ ⟨rfl, rfl⟩
    rintro σ' H' ⟨rfl, rfl⟩
    have kc : (fewI cs f < 0 ∨ fewI cs f ≥ (cs.length : Int)) → Q (.str "count") H2 := fun h => by
      have k' := k H2 s2
      rw [show dueOf cs f = "count" from (if_neg hne).trans (if_pos h)] at k'
      exact k'
    refine ⟨_, rfl, _, _, rfl, rfl, _, rfl, ?_⟩
    refine ite_dec (fun h1 => ?_) (fun h1 => ?_)
    · refine iteT ?_
      exact kc (.inl h1)
    refine ⟨_, rfl, _, rfl, _, _, rfl, .inl (SqL.of eq2), _, _, rfl, rfl, _, rfl, ?_⟩
    rw [hX2.1]
    refine ite_dec (fun h2 => ?_) (fun h2 => ?_)
    · exact kc (.inr h2)
    -- the lows that enough bear
    refine ⟨_, rfl, q, xs, cs, rfl, SqL.of eq2, hX2, hcl, fun pl H3 s3 nl el => ?_⟩
    have eq3 := s3 _ _ eq2
    have hX3 := hX2.same s3
    have lle := lowsC_len cs
    refine ⟨pl, rfl, ⟨_, SqL.of el⟩, fun D nD => lc_list (K := K) (a := pl) (xs := (lowsC cs).map V.int) (fun i H' => Same H3 H' ∧ H' D = some (.lst ((((lowsC cs).take i).filter (borneC cs f)).map V.int))) ⟨same_new nD, upd_same⟩ (fun i H' _ hh => SqL.of (hh.1 _ _ el)) ?_ ?_⟩
    · rintro i v H' hi ⟨s4, eD⟩
      have hil := (List.getElem?_eq_some_iff.mp hi).1
      rw [List.length_map] at hil
      rw [List.getElem?_map, List.getElem?_eq_getElem hil] at hi
      cases hi
      rw [take_snoc (List.getElem?_eq_getElem hil), List.filter_append]
      generalize (lowsC cs)[i] = x
      refine ⟨rfl, ?_⟩
      refine ⟨_, rfl, _, rfl, q, xs, cs, x, rfl, SqL.of (s4 _ _ eq3), hX3.same s4, _, rfl, _, _, rfl, .inl (SqL.of (s4 _ _ eq3)), _, rfl, _, _, rfl, rfl, _, _, rfl, rfl, _, rfl, ?_⟩
      rw [hX2.1]
      refine ite_dec (fun g => ?_) (fun g => ?_)
      · rw [List.filter_cons_of_pos (p := borneC cs f) (decide_eq_true g), List.filter_nil]
        refine ⟨_, rfl, ?_⟩
        exact ⟨_, eD, by rw [List.length_map]; exact Nat.lt_of_le_of_lt (show _ ≤ 1000 from Nat.le_trans (List.length_filter_le _ _) (by rw [List.length_take]; omega)) (by decide), Same.mut s4 nD, upd_same.trans (by rw [List.map_append]; rfl)⟩
      · rw [List.filter_cons_of_neg (p := borneC cs f) (fun h => g (of_decide_eq_true h)), List.filter_nil, List.append_nil]
        exact ⟨s4, eD⟩
    rintro H4 ⟨s4, eD⟩
    rw [List.length_map, List.take_length] at eD
    dsimp only [gName]
    refine ⟨_, rfl, (by show 0 ≤ sizeLine; decide), fun p5 n5 => ?_⟩
    refine ⟨_, _, .lst (SqL.of ((upd_ne (ne_of_none eD n5)).trans eD)) (dp_ints _), .lst SqL.here .nil, shp_ints _, rfl, _, rfl, ?_⟩
    have k' := k (upd H4 p5 (.lst [])) (((s2.trans s3).trans s4).trans (same_new n5))
    rw [show dueOf cs f = (if (lowsC cs).filter (borneC cs f) = [] then ("none" : Str) else ("" : Str)) from (if_neg hne).trans (if_neg (not_or.mpr ⟨h1, h2⟩))] at k'
    cases e : (lowsC cs).filter (borneC cs f) with
    | nil =>
      rw [e, if_pos rfl] at k'
      refine ite_yes rfl ?_
      exact k'
    | cons x l =>
      rw [e, if_neg (List.cons_ne_nil _ _)] at k'
      refine ite_no rfl ?_
      exact k'
/-! ### _law_sure_right -/
abbrev n_sure_right : List Str := ["_law_letters", "_law_now", "_law_off_here", "_law_few", "_law_found", "_law_clocks", "_law_need", "_law_low", "_law_high", "_law_wrong", "_law_some", "_law_due_here", "_law_name", "_law_stretch", "_law_one"]
theorem sc_sure_right : FnScope ["_law_letters", "_law_now", "_law_off_here", "_law_few", "_law_found", "_law_clocks", "_law_need", "_law_low", "_law_high", "_law_wrong", "_law_some", "_law_due_here", "_law_name", "_law_stretch", "_law_one"] ["_law_letters", "_law_now", "_law_off_here", "_law_few", "_law_found"] (defScope s_sure_right) := ⟨rfl, rfl, rfl, by decide +kernel, rfl, by decide +kernel, by decide +kernel⟩
theorem ok_sure_right (T : Txt K mg a) : FnOk P w K mg base CX0 4 a.f_sure_right a.d_sure_right ["_law_letters", "_law_now", "_law_off_here", "_law_few", "_law_found"] (spSureRight K) := by
  refine T.sure_right.F.ok sc_sure_right (fun vs H Q E h => ?_) (fun cdv A outer s H vs Q E hr h => ?_)
  · obtain ⟨p, as, ls, now, o, f, pf, pw, ps, bs, ts, lo, hi, rfl, hL, hA, hok, hl, ok, eF, eW, eS, hB, htl, hSure, k⟩ := h
    rfl
  · obtain ⟨p, as, ls, now, o, f, pf, pw, ps, bs, ts, lo, hi, rfl, hL, hA, hok, hl, ok, eF, eW, eS, hB, htl, hSure, k⟩ := h
    have hu := hu_of hr
    refine ⟨_, (pss_cons (ps_set (i := 5) sc_sure_right.nd rfl (Or.inl rfl) (pe_cl (ok_w_gathered T) T.w_gathered (hr.mono (by decide)) (pa_cons (pv 0) (pa_cons (pv 1) (pa_cons (pv 2) pa_nil)))))
      (pss_cons (ps_set (i := 6) sc_sure_right.nd rfl (Or.inl rfl) (pe_op op_sub (pe_callB (lenK K) (by rfl) T.b_len boot_len (pa_cons (pv 5) pa_nil)) (pe_ix (ixL K) (pe_lst (pa_cons (pe_op (op_divc (c := 2) (by decide) (by decide)) (pe_op op_sub (pe_callB (lenK K) (by rfl) T.b_len boot_len (pa_cons (pv 5) pa_nil)) pe_int) pe_int) (pa_cons (pv 3) pa_nil))) (pe_callTy call_int1 (by rfl) T.b_int (by decide +kernel) (pa_cons (pe_cmpR op_notN (pv 3) pe_non (nomark _)) pa_nil)) (fun _ _ => rfl))))
      (pss_cons (ps_if (PW.pt (pw_or (pt_not (pt_val (pe_callB (isiK K) (by rfl) T.b_isinstance (by decide +kernel) (pa_cons (pv 4) (pa_cons (pe_bty (n := "tuple") T.b_tuple (by decide +kernel)) pa_nil))))) (pw_or (pt_cmpR op_ne (pe_callB (lenK K) (by rfl) T.b_len boot_len (pa_cons (pv 4) pa_nil)) pe_int (nomark _)) (pw_or1 (pt_not (pt_val (pe_callB (isiK K) (by rfl) T.b_isinstance (by decide +kernel) (pa_cons (pe_ix (ixT K) (pv 4) pe_int (fun _ _ => rfl)) (pa_cons (pe_bty (n := "list") T.b_list (by decide +kernel)) pa_nil))))))))) (pss_one (ps_ret pe_bl)) pss_nil)
      (pss_cons (ps_asg (pv 4) (pg_tup (by rfl) (pgs_cons (pg_name (i := 7) sc_sure_right.nd rfl (Or.inl rfl)) (pgs_cons (pg_name (i := 8) sc_sure_right.nd rfl (Or.inl rfl)) (pgs_cons (pg_name (i := 9) sc_sure_right.nd rfl (Or.inl rfl)) (pgs_cons (pg_name (i := 10) sc_sure_right.nd rfl (Or.inl rfl)) pgs_nil))))))
      (pss_cons (ps_if (PW.pt (pw_or (pt_not (pt_val (pe_cl (ok_parts_right T) T.parts_right (hr.mono (by decide)) (pa_cons (pv 5) (pa_cons (pv 6) (pa_cons (pv 10) pa_nil)))))) (pw_or1 (pt_cmpR (eqDK K hr.units) (pv 10) (pe_lst pa_nil) (nomark _))))) (pss_one (ps_ret pe_bl)) pss_nil)
      (pss_cons (ps_if (PW.pt (pw_or (pt_not (pt_val (pe_cl (ok_whole T) T.whole (hr.mono (by decide)) (pa_cons (pv 7) pa_nil)))) (pw_or (pt_not (pt_val (pe_cl (ok_whole T) T.whole (hr.mono (by decide)) (pa_cons (pv 8) pa_nil)))) (pw_or1 (pt_cmpR (neDK K hr.units) (pe_tup (pa_cons (pv 7) (pa_cons (pv 8) pa_nil))) (pe_tup (pa_cons (pe_ix (ixT K) (pe_ix (ixL K) (pv 10) pe_int (fun _ _ => rfl)) pe_int (fun _ _ => rfl)) (pa_cons (pe_ix (ixT K) (pe_ix (ixL K) (pv 10) pe_negc (fun _ _ => rfl)) pe_int (fun _ _ => rfl)) pa_nil))) (nomark _)))))) (pss_one (ps_ret pe_bl)) pss_nil)
      (pss_cons (ps_if (PW.pt (pw_or (pt_cmpR op_lt (pe_cl (ok_many T) T.many (hr.mono (by decide)) (pa_cons (pv 5) (pa_cons (pv 7) pa_nil))) (pv 6) (nomark _)) (pw_or1 (pt_cmpR op_lt (pe_cl (ok_many T) T.many (hr.mono (by decide)) (pa_cons (pv 5) (pa_cons (pv 8) pa_nil))) (pv 6) (nomark _))))) (pss_one (ps_ret pe_bl)) pss_nil)
      (pss_cons (ps_set (i := 11) sc_sure_right.nd rfl (Or.inl rfl) (pe_lst pa_nil))
      (pss_cons (ps_for PassesOwn.never rfl (piL K (pv 5)) (pg_tup (by rfl) (pgs_cons (pg_name (i := 12) sc_sure_right.nd rfl (Or.inl rfl)) (pgs_cons (pg_name (i := 13) sc_sure_right.nd rfl (Or.inr rfl)) pgs_nil))) (pss_one (ps_if (pt_cmpR op_isN (pv 13) pe_non (nomark _)) (pss_one (ps_expr (pe_bm PySem.F.plainAttrs_list PySem.F.slot_list_append PySem.F.type_list_append mt_append (pv 11) (pa_cons (pv 12) pa_nil)))) (pss_one (ps_if (pt_cmpR (eqDK K hr.units) (pe_lc (own := [("_law_one", 14)]) (g := gName 14) rfl sc_sure_right.nd (piL K (pv 10)) (blkOk_by (N := n_sure_right) (sc := defScope s_sure_right) (by decide +kernel)) (fun _ _ _ _ _ => pg_name (i := 14) sc_sure_right.nd rfl (Or.inl rfl)) (fun _ _ _ _ _ => pts_one (PW.pt (pw_and (pt_cmpR op_le (pe_ix (ixT K) (pv 14) pe_int (fun _ _ => rfl)) (pe_ix (ixT K) (pv 13) pe_int (fun _ _ => rfl)) (nomark _)) (pw_and1 (pt_cmpR op_le (pe_ix (ixT K) (pv 13) pe_int (fun _ _ => rfl)) (pe_ix (ixT K) (pv 14) pe_int (fun _ _ => rfl)) (nomark _)))))) (fun _ _ _ _ _ => (pv 14))) (pe_lst pa_nil) (nomark _)) (pss_one (ps_expr (pe_bm PySem.F.plainAttrs_list PySem.F.slot_list_append PySem.F.type_list_append mt_append (pv 11) (pa_cons (pv 12) pa_nil)))) pss_nil)))))
      (pss_one (ps_ret (pe_cmpR (eqDK K hr.units) (pv 9) (pv 11) (nomark _))))))))))))), ?_⟩
    refine ⟨_, rfl, _, rfl, _, rfl, p, as, ls, now, o, rfl, hL, hA, hok, hl, ok, fun q xs H1 s1 hX eq nq => ?_⟩
    dsimp only [gName]
    have lowC := gath_low (now := now) (o := o) hok
    have hcl : (gath now o ls).length ≤ 1000 := Nat.le_trans gath_len hl
    generalize gath now o ls = cs at hX lowC hcl hSure eW
    obtain ⟨hP, ⟨t0, ht0, rfl⟩, ⟨t1, ht1, rfl⟩⟩ := hSure
    -- need
    refine ⟨_, rfl, _, _, rfl, .inl (SqL.of eq), _, rfl, _, _, rfl, .inl (SqL.of eq), _, _, rfl, rfl, _, rfl, rfl, _, rfl, (by show 2 ≤ sizeLine; decide), fun p1 n1 => ?_⟩
    refine ⟨_, rfl, rfl, .inr ⟨_, rfl, ?_⟩⟩
    rw [hX.1]
    have hat : atI [V.int (((cs.length : Int) - 1) / 2), fewV f] (if (!decide (fewV f = V.non)) = true then 1 else 0) = some (.int (fewI cs f)) := by
      cases f with
      | none => exact atI_nat (j := 0) rfl
      | some j => exact atI_nat (j := 1) rfl
    refine ⟨p1, _, _, _, rfl, rfl, SqL.here, hat, ?_⟩
    refine ⟨_, _, rfl, rfl, ?_⟩
    dsimp only [gName]
    have s2 : Same H _ := s1.trans (same_new n1 (o := .lst [.int (((cs.length : Int) - 1) / 2), fewV f]))
    have eq2 := same_new n1 (o := .lst [.int (((cs.length : Int) - 1) / 2), fewV f]) _ _ eq
    have hX2 := hX.same (same_new n1 (o := .lst [.int (((cs.length : Int) - 1) / 2), fewV f]))
    generalize upd H1 p1 _ = H2 at s2 eq2 hX2 ⊢
    have eF2 := s2 _ _ eF
    have eW2 := s2 _ _ eW
    have eS2 := s2 _ _ eS
    have hB2 := hB.same s2
    change _ at hP
    generalize hnd : (cs.length : Int) - fewI cs f = nd
    have hP : PartsOf cs nd ts := hnd ▸ hP
    -- its form
    refine ⟨_, rfl, _, _, _, _, true, rfl, .ty _, .base (.tup eF2), kit_ty (by decide +kernel), _, rfl, ?_⟩
    refine iteF ?_
    refine ⟨_, rfl, _, _, rfl, .inr (SqT.of eF2), rfl, _, rfl, ?_⟩
    refine iteNS rfl ?_
    refine ⟨_, rfl, _, _, _, _, rfl, rfl, SqT.of eF2, atI_nat (j := 2) rfl, _, _, _, _, true, rfl, .ty _, .base (.lst eW2), kit_ty (by decide +kernel), _, rfl, ?_⟩
    refine iteF ?_
    refine ⟨_, rfl, pf, _, rfl, SqT.of (K := K) eF2, rfl, _, _, rfl, _, _, rfl, _, _, rfl, _, _, rfl, rfl, ?_⟩
    -- its parts
    refine ⟨_, rfl, _, rfl, _, rfl, q, ps, nd, xs, cs, bs, ts, rfl, SqL.of eq2, hX2, hcl, eS2, hB2, htl, hP, fun H3 s3 => ?_⟩
    refine ⟨_, rfl, ?_⟩
    refine iteF ?_
    have tne : ts ≠ [] := fun z => by rw [z] at ht0; cases ht0
    refine ⟨_, rfl, (by show 0 ≤ sizeLine; decide), fun p4 n4 => ?_⟩
    have s24 := s3.trans (same_new n4 (o := .lst []))
    have eS4 := s24 _ _ eS2
    have hB4 := hB2.same s24
    refine ⟨_, _, hB4.dp (SqL.of eS4), .lst SqL.here .nil, shp_sts _, rfl, _, rfl, ?_⟩
    refine ite_no (by
      cases ts with
      | nil => exact absurd rfl tne
      | cons a l => rfl) ?_
    have eq4 := s24 _ _ eq2
    have hX4 := hX2.same s24
    have eW4 := s24 _ _ eW2
    have s04 := s2.trans s24
    generalize upd H3 p4 _ = H4 at s24 eS4 hB4 eq4 hX4 eW4 s04 ⊢
    -- low, high
    refine ⟨_, rfl, _, rfl, _, rfl, ?_⟩
    refine iteF ?_
    refine ⟨_, rfl, _, rfl, _, rfl, ?_⟩
    refine iteF ?_
    refine ⟨_, rfl, _, rfl, (by show 2 ≤ sizeLine; decide), fun p5 n5 => ?_⟩
    have s5 : Same H4 _ := same_new n5 (o := .tup [.int t0.1, .int t1.2])
    obtain ⟨b0, hb0, hT0⟩ := (hB4.same s5).at ht0
    obtain ⟨b1, hb1, hT1⟩ := (hB4.same s5).at ht1
    have hat1 : atI (bs.map V.ref) (-1) = some (.ref b1) := at_neg1 (by rw [List.length_map, hB.1]; exact hb1)
    refine ⟨_, rfl, _, _, _, _, rfl, rfl, SqL.of (s5 _ _ eS4), at_of (j := 0) rfl hb0, _, _, _, _, rfl, rfl, hT0, atI_nat (j := 0) rfl, _, rfl, _, _, _, _, rfl, rfl, SqL.of (s5 _ _ eS4), hat1, _, _, _, _, rfl, rfl, hT1, atI_nat (j := 1) rfl, (by show 2 ≤ sizeLine; decide), fun p6 n6 => ?_⟩
    refine ⟨.tuple [.int t0.1, .int t1.2], .tuple [.int t0.1, .int t1.2], .tup (SqT.of (same_new n6 _ _ upd_same)) (.cons (.int _) (.cons (.int _) .nil)), .tup (SqT.of upd_same) (.cons (.int _) (.cons (.int _) .nil)), rfl, rfl, _, rfl, ?_⟩
    refine ite_no (by rw [SeqAt.eqv_refl _ rfl]; rfl) ?_
    have s46 := s5.trans (same_new n6 (o := .tup [.int t0.1, .int t1.2]))
    have eS6 := s46 _ _ eS4
    have eq6 := s46 _ _ eq4
    have hX6 := hX4.same s46
    have hB6 := hB4.same s46
    have eW6 := s46 _ _ eW4
    have s06 := s04.trans s46
    generalize upd _ p6 _ = H6 at s46 eS6 eq6 hX6 hB6 eW6 s06 ⊢
    have m0 : t0 ∈ ts := List.mem_of_getElem? ht0
    have m1 : t1 ∈ ts := List.mem_of_getElem? ht1
    have c0 := (hP.cov t0.1).mpr ⟨t0, m0, Int.le_refl _, hP.le t0 m0⟩
    have c1 := (hP.cov t1.2).mpr ⟨t1, m1, hP.le t1 m1, Int.le_refl _⟩
    refine ⟨_, rfl, _, rfl, q, xs, cs, _, rfl, SqL.of eq6, hX6, _, rfl, _, _, rfl, rfl, _, rfl, ?_⟩
    refine ite_dec (fun h => absurd h (by omega)) (fun _ => ?_)
    refine ⟨_, rfl, _, rfl, q, xs, cs, _, rfl, SqL.of eq6, hX6, _, rfl, _, _, rfl, rfl, _, rfl, ?_⟩
    refine ite_dec (fun h => absurd h (by omega)) (fun _ => ?_)
    -- those that must be wrong
    refine ⟨(by show 0 ≤ sizeLine; decide), fun pd nd' => ?_⟩
    dsimp only [gName]
    have lowW : ∀ z ∈ wrongC cs ts, low z := wrongC_low lowC
    refine ⟨_, rfl, q, rfl, ⟨_, SqL.of (same_new nd' _ _ eq6)⟩, for_list (K := K) (a := q) (xs := xs) (fun i σ H' => Same H6 H' ∧ H' pd = some (.lst (txs (wrongC (cs.take i) ts))) ∧ ∃ v12 v13 v14 : Option V, σ = [some (.ref p), some (.int now), some (.int o), some (fewV f), some (.ref pf), some (.ref q), some (.int nd), some (.int t0.1), some (.int t1.2), some (.ref pw), some (.ref ps), some (.ref pd), v12, v13, v14])
      ⟨same_new nd', upd_same, none, none, none, rfl⟩ (fun i σ H' _ hh => SqL.of (hh.1 _ _ eq6)) ?_ ?_⟩
    · rintro i v σ H7 hi ⟨s7, ed, v12, v13, v14, rfl⟩
      obtain ⟨c, hc, u, w, rfl, hT, hV⟩ := (hX6.same s7).get hi
      have il : i < cs.length := (List.getElem?_eq_some_iff.mp hc).1
      have wl := wrongC_len (cs := cs.take i) (ts := ts)
      rw [List.length_take] at wl
      have hsz : (txs (wrongC (cs.take i) ts)).length < sizeLine := by
        unfold txs
        rw [List.length_map]
        exact Nat.lt_of_le_of_lt (show _ ≤ 1000 by omega) (by decide)
      rw [take_snoc hc, wrongC_snoc]
      refine ⟨u, _, rfl, hT, rfl, _, _, rfl, _, _, rfl, rfl, ?_⟩
      obtain ⟨cn, co⟩ := c
      cases co with
      | none =>
        cases (show w = .non from hV)
        rw [if_neg (show ¬ meetsC ts (cn, none) = true from Bool.false_ne_true)]
        refine ⟨_, rfl, rfl, _, rfl, ?_⟩
        refine ite_yes rfl ?_
        refine ⟨_, rfl, .inl ⟨rfl, _, SqL.of ed⟩, _, rfl, pd, _, _, rfl, rfl, ed, hsz, ?_⟩
        exact ⟨Same.mut s7 nd', upd_same.trans (by unfold txs; rw [List.map_append]; rfl), _, _, _, rfl⟩
      | some st =>
        obtain ⟨b, rfl, hBs⟩ := hV
        refine ⟨_, rfl, rfl, _, rfl, ?_⟩
        refine ite_no rfl ?_
        have eS7 := s7 _ _ eS6
        have hB7 := hB6.same s7
        refine ⟨_, rfl, ps, rfl, ⟨_, SqL.of eS7⟩, fun D4 nD4 => lc_list (K := K) (a := ps) (xs := bs.map V.ref) (fun j H' => Same H7 H' ∧ ∃ bs' : List Addr, bs'.length ≤ j ∧ StsAt K H' bs' ((ts.take j).filter (meetsT st)) ∧ H' D4 = some (.lst (bs'.map V.ref))) ⟨same_new nD4, [], Nat.le_refl _, StsAt.nil, upd_same⟩ (fun j H' _ h => SqL.of (h.1 _ _ eS7)) ?_ ?_⟩
        · rintro j v H' hj ⟨s8, bs', hb', hB', e4⟩
          obtain ⟨b2, t, rfl, ht, hT2⟩ := (hB7.same s8).get hj
          have jl : j < ts.length := (List.getElem?_eq_some_iff.mp ht).1
          have hBs8 := Ts.Same.seqT s8 hBs
          rw [take_snoc ht, List.filter_append]
          refine ⟨rfl, ?_⟩
          refine ⟨_, rfl, _, _, _, _, rfl, rfl, hT2, atI_nat (j := 0) rfl, _, rfl, _, _, _, _, rfl, rfl, hBs8, atI_nat (j := 1) rfl, _, _, rfl, rfl, _, rfl, ?_⟩
          refine ite_dec (fun g1 => ?_) (fun g1 => ?_)
          · refine ⟨_, rfl, _, _, _, _, rfl, rfl, hBs8, atI_nat (j := 0) rfl, _, rfl, _, _, _, _, rfl, rfl, hT2, atI_nat (j := 1) rfl, _, _, rfl, rfl, _, rfl, ?_⟩
            refine ite_dec (fun g2 => ?_) (fun g2 => ?_)
            · refine ⟨_, rfl, ?_⟩
              have e : meetsT st t = true := by unfold meetsT; rw [decide_eq_true g1, decide_eq_true g2]; rfl
              rw [List.filter_cons_of_pos e, List.filter_nil]
              exact ⟨_, e4, by rw [List.length_map]; exact Nat.lt_of_le_of_lt (show _ ≤ 2000 by omega) (by decide), Same.mut s8 nD4, bs' ++ [b2], by rw [List.length_append]; show _ + 1 ≤ j + 1; omega, (hB'.snoc hT2).off e4 (fun _ z => nomatch z) (fun _ _ z => nomatch z), upd_same.trans (by rw [List.map_append]; rfl)⟩
            · have e : ¬ meetsT st t = true := by unfold meetsT; rw [decide_eq_false g2, Bool.and_false]; exact Bool.false_ne_true
              rw [List.filter_cons_of_neg e, List.filter_nil, List.append_nil]
              exact ⟨s8, bs', by omega, hB', e4⟩
          · have e : ¬ meetsT st t = true := by unfold meetsT; rw [decide_eq_false g1, Bool.false_and]; exact Bool.false_ne_true
            rw [List.filter_cons_of_neg e, List.filter_nil, List.append_nil]
            exact iteF ⟨s8, bs', by omega, hB', e4⟩
        rintro H8 ⟨s8, bs', hb', hB', e4⟩
        rw [List.length_map, hB.1, List.take_length] at hB'
        refine ⟨(by show 0 ≤ sizeLine; decide), fun p9 n9 => ?_⟩
        refine ⟨_, _, (hB'.same (same_new n9)).dp (SqL.of ((upd_ne (ne_of_none e4 n9)).trans e4)), .lst SqL.here .nil, shp_sts _, rfl, _, rfl, ?_⟩
        rw [meets_eq ts cn st]
        have s79 : Same H7 _ := s8.trans (same_new n9 (o := .lst []))
        by_cases hm : meetsC ts (cn, some st) = true
        · rw [if_pos hm, List.append_nil]
          refine ite_no (by rw [hm]; rfl) ?_
          exact ⟨s7.trans s79, s79 _ _ ed, _, _, _, rfl⟩
        · rw [if_neg hm]
          refine ite_yes (by rw [Bool.eq_false_iff.mpr hm]; rfl) ?_
          have ed9 := s79 _ _ ed
          refine ⟨_, rfl, .inl ⟨rfl, _, SqL.of ed9⟩, _, rfl, pd, _, _, rfl, rfl, ed9, hsz, ?_⟩
          exact ⟨Same.mut (s7.trans s79) nd', upd_same.trans (by unfold txs; rw [List.map_append]; rfl), _, _, _, rfl⟩
    rintro σ H7 ⟨s7, ed, v12, v13, v14, rfl⟩
    rw [hX.1, List.take_length] at ed
    refine ⟨_, rfl, _, rfl, nmsD (wrongC cs ts), nmsD (wrongC cs ts), .lst (SqL.of (s7 _ _ eW6)) (dp_txs _), .lst (SqL.of ed) (dp_txs _), shp_nms lowW, shp_nms lowW, ?_⟩
    exact bl_true (eqv_self (shp_nms lowW)) (k _ (s06.trans s7))
/-! ### _law_put_due -/
abbrev n_put_due : List Str := ["_law_own", "_law_letter_here", "_law_name", "_law_sent", "_law_back", "_law_low", "_law_high", "_law_some", "_law_one"]
theorem sc_put_due : FnScope ["_law_own", "_law_letter_here", "_law_name", "_law_sent", "_law_back", "_law_low", "_law_high", "_law_some", "_law_one"] ["_law_own", "_law_letter_here"] (defScope s_put_due) := ⟨rfl, rfl, rfl, by decide +kernel, rfl, by decide +kernel, by decide +kernel⟩
theorem ok_put_due (T : Txt K mg a) : FnOk P w K mg base CX0 1 a.f_put_due a.d_put_due ["_law_own", "_law_letter_here"] (spPutDue K) := by
  refine T.put_due.F.ok sc_put_due (fun vs H Q E h => ?_) (fun cdv A outer s H vs Q E hr h => ?_)
  · obtain ⟨q, t, bs, ls, x, rfl, hL, hB, hl, hT, ok, k⟩ := h
    rfl
  · obtain ⟨q, t, bs, ls, x, rfl, hL, hB, hl, hT, ok, k⟩ := h
    have hu := hu_of hr
    refine ⟨_, (pss_cons (ps_asg (pv 1) (pg_tup (by rfl) (pgs_cons (pg_name (i := 2) sc_put_due.nd rfl (Or.inl rfl)) (pgs_cons (pg_name (i := 3) sc_put_due.nd rfl (Or.inl rfl)) (pgs_cons (pg_name (i := 4) sc_put_due.nd rfl (Or.inl rfl)) (pgs_cons (pg_name (i := 5) sc_put_due.nd rfl (Or.inl rfl)) (pgs_cons (pg_name (i := 6) sc_put_due.nd rfl (Or.inl rfl)) pgs_nil)))))))
      (pss_cons (ps_if (PW.pt (pw_or (pt_cmpR op_eq (pv 2) pe_str (nomark _)) (pw_or1 (pt_cmpR op_eq (pv 2) pe_str (nomark _))))) (pss_one (ps_ret pe_str)) pss_nil)
      (pss_cons (ps_if (PW.pt (pw_or (pt_cmpR op_gt (pv 3) (pv 4) (nomark _)) (pw_or1 (pt_cmpR op_gt (pv 5) (pv 6) (nomark _))))) (pss_one (ps_ret pe_str)) pss_nil)
      (pss_cons (ps_setLc (i := 7) (own := [("_law_one", 8)]) (g := gName 8) (tt := tYes) rfl sc_put_due.nd rfl rfl (sw_true rfl rfl rfl (by decide +kernel)) (piL K (pv 0)) (blkOk_by (N := n_put_due) (sc := defScope s_put_due) (by decide +kernel)) (fun _ _ _ _ _ => pg_name (i := 8) sc_put_due.nd rfl (Or.inl rfl)) (fun _ _ _ _ _ => pts_nil) (fun _ _ _ _ _ => (pe_ix (ixT K) (pv 8) pe_int (fun _ _ => rfl))))
      (pss_cons (ps_if (PW.pt (pw_or (pt_cmpR op_ge (pe_callB (lenK K) (by rfl) T.b_len boot_len (pa_cons (pv 0) pa_nil)) pe_int (nomark _)) (pw_or1 (PW.pt (pw_and (pt_cmpR (niK K) (pv 2) (pv 7) rfl) (pw_and1 (pt_cmpR op_ge (pe_callB (call_lenK trivial) (by rfl) T.b_len boot_len (pa_cons (pe_callTy (cr_setOfK K rfl) (by rfl) T.b_set (by decide +kernel) (pa_cons (pv 7) pa_nil)) pa_nil)) pe_int (nomark _)))))))) (pss_one (ps_ret pe_str)) pss_nil)
      (pss_one (ps_ret pe_str))))))), ?_⟩
    refine ⟨_, rfl, t, _, rfl, hT, rfl, _, _, rfl, _, _, rfl, _, _, rfl, _, _, rfl, _, _, rfl, rfl, ?_⟩
    have notnm : x.nm = [] ∨ x.nm = [81] → dueW ls x = "name" := fun h => by
      have bad : ¬ nmOk x.nm := fun n => by
        rcases h with h | h
        · have := n.1
          rw [h] at this
          cases this
        · have := n.2.2 81 (by rw [h]; exact .head _)
          omega
      unfold dueW told1
      rw [if_neg bad, if_neg (by decide +kernel)]
    refine ⟨_, rfl, rfl, _, rfl, ?_⟩
    by_cases h1 : x.nm = []
    · refine ite_yes (by rw [h1]; exact decide_eq_true rfl) ?_
      have k' := k H (Same.refl H)
      rw [notnm (.inl h1)] at k'
      exact k'
    refine ite_no (decide_eq_false fun z => h1 (mkS_inj (V.str.inj z))) ?_
    refine ⟨_, rfl, rfl, _, rfl, ?_⟩
    by_cases h2 : x.nm = [81]
    · refine ite_yes (by rw [h2]; exact decide_eq_true rfl) ?_
      have k' := k H (Same.refl H)
      rw [notnm (.inr h2)] at k'
      exact k'
    refine ite_no (decide_eq_false fun z => h2 (mkS_inj (V.str.inj z))) ?_
    have nm : nmOk x.nm := ok.1.resolve_right fun z => z.elim h1 h2
    have bad : ¬ (x.s ≤ x.b ∧ x.lo ≤ x.hi) → dueW ls x = "letter" := fun h => by
      unfold dueW told1
      rw [if_pos nm, if_neg (fun z => h (ok.nums.mp z)), if_neg (by decide +kernel)]
    refine ⟨_, rfl, _, rfl, _, _, rfl, rfl, _, rfl, ?_⟩
    refine ite_dec (fun h3 => ?_) (fun h3 => ?_)
    · have k' := k H (Same.refl H)
      rw [bad fun z => by have := z.1; omega] at k'
      exact k'
    refine ⟨_, rfl, _, rfl, _, _, rfl, rfl, _, rfl, ?_⟩
    refine ite_dec (fun h4 => ?_) (fun h4 => ?_)
    · have k' := k H (Same.refl H)
      rw [bad fun z => by have := z.2; omega] at k'
      exact k'
    have good : dueW ls x = (if full ls x.nm then ("many" : Str) else "") := by
      unfold dueW told1
      rw [if_pos nm, if_pos (ok.nums.mpr ⟨by omega, by omega⟩), if_pos rfl]
    refine ⟨_, rfl, q, rfl, ⟨_, hL⟩, fun D nD => lc_list (K := K) (a := q) (xs := bs.map V.ref) (fun i H' => Same H H' ∧ H' D = some (.lst (txs ((ls.take i).map (·.nm))))) ⟨same_new nD, upd_same⟩ (fun i H' _ h => h.1.seq hL) ?_ ?_⟩
    · rintro i v H' hi ⟨s2, eD⟩
      obtain ⟨u, y, rfl, ha, hy, hT2⟩ := hB.get hi
      refine ⟨rfl, ?_⟩
      refine ⟨_, rfl, _, _, _, _, rfl, rfl, Ts.Same.seqT s2 hT2, atI_nat (j := 0) rfl, ?_⟩
      refine ⟨_, eD, ?_, Same.mut s2 nD, ?_⟩
      · unfold txs
        rw [List.length_map, List.length_map, List.length_take]
        exact Nat.lt_of_lt_of_le (show min i ls.length < 1001 by omega) (by decide)
      · rw [upd_same, take_snoc hy, List.map_append]
        unfold txs
        rw [List.map_append]
        rfl
    rintro H1 ⟨s1, eD⟩
    rw [List.length_map, hB.1, List.take_length] at eD
    dsimp only [gName]
    have k1 := k H1 s1
    refine ⟨_, rfl, _, _, rfl, .inl (s1.seq hL), _, _, rfl, rfl, _, rfl, ?_⟩
    rw [List.length_map, hB.1]
    refine ite_dec (fun g1 => ?_) (fun g1 => ?_)
    · rw [good, if_pos (.inl (by omega))] at k1
      exact k1
    refine ⟨_, rfl, _, rfl, D, _, rfl, .inl (SqL.of eD), rfl, txs_flat _, _, rfl, ?_⟩
    rw [if_pos rfl, inV_txs]
    by_cases g2 : x.nm ∈ ls.map (·.nm)
    · rw [decide_eq_true g2]
      refine iteF ?_
      refine iteF ?_
      rw [good, if_neg fun z => z.elim (fun y => g1 (by omega)) fun y => y.1 g2] at k1
      exact k1
    rw [decide_eq_false g2]
    refine iteT ?_
    have hs : SqL K H1 D (((ls.map (·.nm)).map fun z => (.inr (mkS z) : Key)).map kV) := by
      rw [List.map_map]
      exact SqL.of eD
    have few := dist_le (ls.map (·.nm))
    rw [List.length_map] at few
    refine ⟨_, rfl, D, _, rfl, hs, (by rw [List.length_map, List.length_map]; exact Nat.lt_of_le_of_lt (show _ + 1 ≤ 1001 by omega) (by decide)), fun p2 n2 => ?_⟩
    rw [set_names]
    refine ⟨p2, _, _, rfl, upd_same, _, _, rfl, rfl, _, rfl, ?_⟩
    have k2 := k _ (s1.trans (same_new n2 (o := SetK P w p2 (inS (ls.map (·.nm))) (dist (ls.map (·.nm))))))
    refine ite_dec (fun g3 => ?_) (fun g3 => ?_)
    · rw [good, if_pos (.inr ⟨g2, by omega⟩)] at k2
      exact k2
    · rw [good, if_neg fun z => z.elim (fun y => g1 (by omega)) fun y => g3 (by have := y.2; omega)] at k2
      exact k2
/-! ### Watch.put -/
abbrev n_W_put : List Str := ["self", "letter"]
theorem sc_W_put : FnScope ["self", "letter"] ["self", "letter"] (defScope s_W_put) := ⟨rfl, rfl, rfl, by decide +kernel, rfl, by decide +kernel, by decide +kernel⟩
theorem ok_W_put (T : Txt K mg a) (TB_is_name : GxR.TabB base mg a.k_tab_is_name a.P_tab_is_name) : FnOk P w K mg base (L2.CX P w) 3 a.f_W_put a.d_W_put ["self", "letter"] (spPut K a.c_Watch a.P_tab_is_name a.c_BadName a.c_BadLetter a.c_TooMany) := by
  refine T.W_put.F.okX sc_W_put (fun vs H Q E h => ?_) (fun cdv A outer s H vs Q E hr h => ?_)
  · obtain ⟨w0, t, o, ls, x, p, rfl, ⟨dx, as, hw, hL, hA⟩, hT, xl, hl, hP, eN, eL, eM, q⟩ := h
    rfl
  · obtain ⟨w0, t, o, ls, x, p, rfl, ⟨dx, as, hw, hL, hA⟩, hT, xl, hl, hP, eN, eL, eM, q⟩ := h
    have hu := hu_of hr
    refine ⟨_, (pss_cons (ps_expr (pe_clX (ok_check_room T) T.check_room (hr.mono (by decide)) (takes_of rfl rfl rfl rfl) (pa_cons (pe_fld (pv 0) rfl) (pa_cons (pe_ix (ixT K) (pe_clX (ok_checked T TB_is_name) T.checked (hr.mono (by decide)) (takes_of rfl rfl rfl rfl) (pa_cons (pv 1) pa_nil)) pe_int (fun _ _ => rfl)) pa_nil))))
      (pss_cons (ps_fld (pv 0) (pe_op op_cat (pe_fld (pv 0) rfl) (pe_lst (pa_cons (pv 1) pa_nil))) rfl)
      (pss_one (ps_ret (pe_callB (lenK K) (by rfl) T.b_len boot_len (pa_cons (pe_fld (pv 0) rfl) pa_nil)))))), ?_⟩
    refine ⟨_, rfl, w0, _, dx, _, _, rfl, hw, T.cl_Watch, T.na_letters, rfl, ?_⟩
    refine ⟨_, rfl, t, x, rfl, hT, xl, hP, eN, eL, fun ok H1 k1 => ?_⟩
    refine ⟨_, _, _, _, rfl, rfl, k1.seqT hT, atI_nat (j := 0) rfl, ?_⟩
    refine ⟨p, as, ls, x.nm, rfl, SqL.of (k1.at hL), hA.kp k1, hl, fun fu H2 s2 => eM ok fu H2 (k1.trans (Kp.of s2)), fun nf H2 s2 => ?_⟩
    have k2 := k1.trans (Kp.of s2)
    have hw2 := k2.at hw
    have hL2 := k2.at hL
    refine ⟨_, rfl, w0, _, dx, _, _, rfl, hw2, T.cl_Watch, T.na_letters, rfl, _, rfl, (by show 1 ≤ sizeLine; decide), fun p3 n3 => ?_⟩
    generalize hH3 : upd _ p3 _ = H3
    obtain ⟨s3, e3⟩ := gen_new hH3 n3
    clear hH3
    refine ⟨_, _, _, _, rfl, rfl, s3 _ _ hL2, e3, line_of2 (by rw [List.length_map, hA.1]; show ls.length + 1 ≤ 200000; omega), fun p4 n4 => ?_⟩
    generalize hH4 : upd _ p4 _ = H4
    obtain ⟨s4, e4⟩ := gen_new hH4 n4
    have n4' := (k2.trans (Kp.of s3)).free n4
    clear hH4
    have k4 := k2.trans (Kp.of (s3.trans s4))
    have hw4 := k4.at hw
    refine ⟨_, rfl, w0, _, dx, _, rfl, hw4, T.cl_Watch, T.na_letters, (by show 2 < 1000; decide), ?_⟩
    have e5 : (upd H4 w0 (.ins a.c_Watch dx (putF "letters" (.ref p4) [("off", .int o), ("letters", .ref p)]))) w0 = some (.ins a.c_Watch dx [("off", .int o), ("letters", .ref p4)]) := upd_same
    have pw : p4 ≠ w0 := fun z => by rw [z, hw4] at e4; cases e4
    have eq : as.map V.ref ++ [V.ref t] = (as ++ [t]).map V.ref := by rw [List.map_append]; rfl
    rw [eq] at e4
    have e6 : (upd H4 w0 (.ins a.c_Watch dx (putF "letters" (.ref p4) [("off", .int o), ("letters", .ref p)]))) p4 = some (.lst ((as ++ [t]).map V.ref)) := (upd_ne pw).trans e4
    have kx : KpX w0 H (upd H4 w0 (.ins a.c_Watch dx (putF "letters" (.ref p4) [("off", .int o), ("letters", .ref p)]))) := KpX.of k4 hw4 (by intro _ z; cases z)
    have hA5 : LetsAt K (upd H4 w0 (.ins a.c_Watch dx (putF "letters" (.ref p4) [("off", .int o), ("letters", .ref p)]))) (as ++ [t]) (ls ++ [x]) := ((hA.kp k4).snoc (k4.seqT hT)).upd hw4
    generalize upd H4 w0 (.ins a.c_Watch dx (putF "letters" (.ref p4) [("off", .int o), ("letters", .ref p)])) = H5 at e5 e6 kx hA5 ⊢
    refine ⟨_, rfl, w0, _, dx, _, _, rfl, e5, T.cl_Watch, T.na_letters, rfl, _, _, rfl, .inl (SqL.of e6), ?_⟩
    have z := q ok nf H5 p4 n4' kx ⟨dx, as ++ [t], e5, e6, hA5⟩
    rw [List.length_map, List.length_append, hA.1]
    exact z
/-! ### _law_put -/
abbrev n_put : List Str := ["_law_watch", "_law_own", "_law_letter_here", "_law_word_here", "_law_found", "_law_e"]
theorem sc_put : FnScope ["_law_watch", "_law_own", "_law_letter_here", "_law_word_here", "_law_found", "_law_e"] ["_law_watch", "_law_own", "_law_letter_here"] (defScope s_put) := ⟨rfl, rfl, rfl, by decide +kernel, rfl, by decide +kernel, by decide +kernel⟩
theorem ok_put (T : Txt K mg a) (TB_is_name : GxR.TabB base mg a.k_tab_is_name a.P_tab_is_name) : FnOk P w K mg base CX0 4 a.f_put a.d_put ["_law_watch", "_law_own", "_law_letter_here"] (spLPut K a.c_Watch a.P_tab_is_name) := by
  refine T.put.F.ok sc_put (fun vs H Q E h => ?_) (fun cdv A outer s H vs Q E hr h => ?_)
  · obtain ⟨w0, q, t, N, o, ls, x, rfl, hp, qN, st, hT, lt, hP, k⟩ := h
    rfl
  · obtain ⟨w0, q, t, N, o, ls, x, rfl, hp, qN, st, hT, lt, hP, k⟩ := h
    have hu := hu_of hr
    refine ⟨_, (pss_cons (ps_set (i := 3) sc_put.nd rfl (Or.inl rfl) (pe_cl (ok_put_due T) T.put_due (hr.mono (by decide)) (pa_cons (pv 1) (pa_cons (pv 2) pa_nil))))
      (pss_cons (ps_try_as (ts := fun x cls d => tRet (tAndV (tOp rNe (tVar 3) (tC (.str ""))) (tOp rEq (tCallE (spKind K a.cs a.c_StretchError) x cls d (tCons (tVar 5) tNil)) (tVar 3)))) (i := 5) rfl rfl sc_put.nd rfl rfl ⟨rfl, by decide, .inl T.StretchError.g⟩ takes0 (fun W pn xe tk _ => (pss_one (ps_set (i := 4) sc_put.nd rfl (Or.inl rfl) (pe_mtT (pv 0) T.cl_Watch T.W_put.M (ok_W_put T TB_is_name) (hr.mono (by decide)) T.W_put.b .nil tk (pa_cons (pv 2) pa_nil))))) (fun a oe cls d pn hz hf => (pss_one (ps_ret (pe_and (pe_cmpR op_ne (pv 3) pe_str (nomark _)) (pe_one (pe_cmpR op_eq (pe_callE (p := (a, oe)) (ok_kind T) (rm_suite hr (by decide)) List.mem_cons_self hz hf T.kind.g T.kind.F.kp T.kind.b (pa_cons (pv 5) pa_nil)) (pv 3) (nomark _))))))))
      (pss_cons (ps_expr (pe_bm PySem.F.plainAttrs_list PySem.F.slot_list_append PySem.F.type_list_append mt_append (pv 1) (pa_cons (pv 2) pa_nil)))
      (pss_one (ps_ret (pe_and (pe_cmpR op_eq (pv 3) pe_str (nomark _)) (pe_and (pe_cl (ok_whole T) T.whole (hr.mono (by decide)) (pa_cons (pv 4) pa_nil)) (pe_one (pe_cmpR op_eq (pv 4) (pe_callB (lenK K) (by rfl) T.b_len boot_len (pa_cons (pv 1) pa_nil)) (nomark _)))))))))), ?_⟩
    have hp0 := hp
    obtain ⟨p, bs, ⟨dx, as, hw, hL, hA⟩, eq, hB, hok, hl, np⟩ := hp0
    refine ⟨_, rfl, _, rfl, q, t, bs, ls, x, rfl, SqL.of eq, hB, hl, hT, lt, fun H1 s1 => ?_⟩
    dsimp only [gName]
    have hw1 := s1 _ _ hw
    have hL1 := s1 _ _ hL
    have done : ∀ H2, Kp H1 H2 → Q (.bl true) H2 := fun H2 k2 => k H2 ls (KpM.of ((Kp.of s1).trans k2)) (hp.kp ((Kp.of s1).trans k2))
    have dw : ∀ z : Str, told1 x = z → z ≠ "" → dueW ls x = z := fun z e n => by
      unfold dueW
      rw [if_neg (by rw [e]; exact n)]
      exact e
    refine ⟨_, rfl, w0, dx, _, rfl, hw1, rfl, _, rfl, w0, t, o, ls, x, p, rfl, ⟨dx, as, hw1, hL1, hA.same s1⟩, Ts.Same.seqT s1 hT, lt.short, hl, tab_same s1 hP, fun e H2 k2 => ?_, fun e H2 k2 => ?_, fun e fu H2 k2 => ?_, fun e nf H2 p' n' k2 hW => ?_⟩
    · rw [dw _ e (by decide +kernel)]
      refine ⟨true, T.kd_BadName.em, fun _ x nx => ?_, fun z => nomatch z⟩
      refine ⟨_, rfl, rfl, _, rfl, ?_⟩
      refine iteT ?_
      refine ⟨_, rfl, rfl, _, 0, rfl, rfl, T.kd_BadName, fun H' s' => ?_⟩
      refine ⟨_, rfl, rfl, ?_⟩
      exact bl_true (decide_eq_true rfl) (done _ (k2.trans (Kp.of s')))
    · rw [dw _ e (by decide +kernel)]
      refine ⟨true, T.kd_BadLetter.em, fun _ x nx => ?_, fun z => nomatch z⟩
      refine ⟨_, rfl, rfl, _, rfl, ?_⟩
      refine iteT ?_
      refine ⟨_, rfl, rfl, _, 1, rfl, rfl, T.kd_BadLetter, fun H' s' => ?_⟩
      refine ⟨_, rfl, rfl, ?_⟩
      exact bl_true (decide_eq_true rfl) (done _ (k2.trans (Kp.of s')))
    · rw [show dueW ls x = "many" from (if_pos e).trans (if_pos fu)]
      refine ⟨true, T.kd_TooMany.em, fun _ x nx => ?_, fun z => nomatch z⟩
      refine ⟨_, rfl, rfl, _, rfl, ?_⟩
      refine iteT ?_
      refine ⟨_, rfl, rfl, _, 7, rfl, rfl, T.kd_TooMany, fun H' s' => ?_⟩
      refine ⟨_, rfl, rfl, ?_⟩
      exact bl_true (decide_eq_true rfl) (done _ (k2.trans (Kp.of s')))
    · rw [show dueW ls x = "" from (if_pos e).trans (if_neg nf)]
      dsimp only [gName]
      have wq : q ≠ w0 := fun z => by rw [z, hw] at eq; cases eq
      have eq2 := k2.ob _ _ wq (by intro _ z; cases z) (s1 _ _ eq)
      have st1 : Stands N H1 := st.kpm (KpM.same s1 (L := []))
      have np' : p' ∉ N := st1.new n'
      have pq : p' ≠ q := fun z => np' (z ▸ qN)
      have l200 : ¬ 200 ≤ ls.length := fun z => nf (.inl z)
      have blen : bs.length ≤ 200 := by rw [hB.1]; omega
      have mu1 : Mu [w0, q] H1 := (hp.kp (Kp.of s1)).mu
      have kx : KpM [w0, q] H1 H2 := KpM.ofX k2 (.head _)
      have hB2 : LetsAt K H2 bs ls := (hB.same s1).kpm kx mu1
      have hT2 : SqT K H2 t x.vals := kx.seqT mu1 (Ts.Same.seqT s1 hT)
      refine ⟨_, rfl, .inl ⟨rfl, _, SqL.of eq2⟩, _, rfl, q, _, _, rfl, rfl, eq2, (by rw [List.length_map]; exact line_lt (by omega)), ?_⟩
      have new : (upd H2 q (.lst (bs.map V.ref ++ [V.ref t]))) q = some (.lst ((bs ++ [t]).map V.ref)) := by
        rw [upd_same, List.map_append]
        rfl
      have hW3 : WatchAt K a.c_Watch (upd H2 q (.lst (bs.map V.ref ++ [V.ref t]))) w0 o (ls ++ [x]) p' := by
        obtain ⟨dx2, as2, e1, e2, hA2⟩ := hW
        exact ⟨dx2, as2, (upd_ne (Ne.symm wq)).trans e1, (upd_ne pq).trans e2, hA2.grow eq2⟩
      have hB3 : LetsAt K (upd H2 q (.lst (bs.map V.ref ++ [V.ref t]))) (bs ++ [t]) (ls ++ [x]) := (hB2.snoc hT2).grow eq2
      have kx3 : KpM [w0, q] H (upd H2 q (.lst (bs.map V.ref ++ [V.ref t]))) := ((KpM.same s1).trans kx).trans (KpM.upd eq2 (by intro _ z; cases z) (.tail _ (.head _)))
      generalize upd H2 q (.lst (bs.map V.ref ++ [V.ref t])) = H3 at new hW3 hB3 kx3 ⊢
      have fin := k H3 (ls ++ [x]) kx3 ⟨p', bs ++ [t], hW3, new, hB3, fun y m => (List.mem_append.mp m).elim (hok y) fun z => List.mem_singleton.mp z ▸ ok_told e, by rw [List.length_append]; show ls.length + 1 ≤ 200; omega, np'⟩
      refine ⟨_, rfl, rfl, _, rfl, ?_⟩
      refine iteT ?_
      refine ⟨_, rfl, _, rfl, ?_⟩
      refine ⟨_, rfl, ?_⟩
      refine iteT ?_
      refine ⟨_, rfl, _, rfl, q, _, rfl, .inl (SqL.of new), rfl, ?_⟩
      rw [List.length_map, List.length_append, hB.1]
      exact bl_true (decide_eq_true rfl) fin
/-! ### Watch.drop -/
abbrev n_W_drop : List Str := ["self", "name", "kept", "dropped", "letter"]
theorem sc_W_drop : FnScope ["self", "name", "kept", "dropped", "letter"] ["self", "name"] (defScope s_W_drop) := ⟨rfl, rfl, rfl, by decide +kernel, rfl, by decide +kernel, by decide +kernel⟩
theorem ok_W_drop (T : Txt K mg a) : FnOk P w K mg base (L2.CX P w) 1 a.f_W_drop a.d_W_drop ["self", "name"] (spDrop K a.c_Watch a.c_NoClock) := by
  refine T.W_drop.F.okX sc_W_drop (fun vs H Q E h => ?_) (fun cdv A outer s H vs Q E hr h => ?_)
  · obtain ⟨w0, o, ls, nm, p, rfl, ⟨dx, as, hw, hL, hA⟩, hl, eC, q⟩ := h
    rfl
  · obtain ⟨w0, o, ls, nm, p, rfl, ⟨dx, as, hw, hL, hA⟩, hl, eC, q⟩ := h
    have hu := hu_of hr
    refine ⟨_, (pss_cons (ps_setLc (i := 2) (own := [("letter", 4)]) (g := gName 4) rfl sc_W_drop.nd rfl rfl (sw_true rfl rfl rfl (by decide +kernel)) (piL K (pe_fld (pv 0) rfl)) (blkOk_by (N := n_W_drop) (sc := defScope s_W_drop) (by decide +kernel)) (fun _ _ _ _ _ => pg_name (i := 4) sc_W_drop.nd rfl (Or.inl rfl)) (fun _ _ _ _ _ => pts_one (pt_cmpR op_ne (pe_ix (ixT K) (pv 4) pe_int (fun _ _ => rfl)) (pv 1) (nomark _))) (fun _ _ _ _ _ => (pv 4)))
      (pss_cons (ps_set (i := 3) sc_W_drop.nd rfl (Or.inl rfl) (pe_op op_sub (pe_callB (lenK K) (by rfl) T.b_len boot_len (pa_cons (pe_fld (pv 0) rfl) pa_nil)) (pe_callB (lenK K) (by rfl) T.b_len boot_len (pa_cons (pv 2) pa_nil))))
      (pss_cons (ps_if (pt_cmpR op_eq (pv 3) pe_int (nomark _)) (pss_one (ps_rs rfl (takes_of rfl rfl rfl rfl) T.NoClock)) pss_nil)
      (pss_cons (ps_fld (pv 0) (pv 2) rfl)
      (pss_one (ps_ret (pv 3))))))), ?_⟩
    refine ⟨_, rfl, w0, _, dx, _, _, rfl, hw, T.cl_Watch, T.na_letters, rfl, p, rfl, ⟨_, SqL.of hL⟩, fun D nD => lc_list (K := K) (a := p) (xs := as.map V.ref) (fun i H' => Same H H' ∧ ∃ ks : List Addr, LetsAt K H' ks (keptOf (ls.take i) nm) ∧ H' D = some (.lst (ks.map V.ref))) ⟨same_new nD, [], LetsAt.nil, upd_same⟩ (fun i H' _ h => SqL.of (h.1 _ _ hL)) ?_ ?_⟩
    · rintro i v H' hi ⟨s1, ks, hK, eD⟩
      obtain ⟨t, x, rfl, ha, hx, hT⟩ := (hA.same s1).get hi
      have few : (keptOf (ls.take i) nm).length ≤ 200 := Nat.le_trans (List.length_filter_le _ _) (by rw [List.length_take]; omega)
      refine ⟨rfl, ?_⟩
      refine ⟨_, rfl, _, _, _, _, rfl, rfl, hT, atI_nat (j := 0) rfl, _, rfl, rfl, _, rfl, ?_⟩
      by_cases h : x.nm = nm
      · refine ite_no (by rw [h, decide_eq_true rfl]; rfl) ?_
        refine ⟨s1, ks, ?_, eD⟩
        rw [take_snoc hx]
        unfold keptOf at hK ⊢
        rw [List.filter_append, List.filter_cons_of_neg (by simpa using h), List.filter_nil, List.append_nil]
        exact hK
      · refine ite_yes (by rw [decide_eq_false fun z => h (mkS_inj (V.str.inj z))]; rfl) ?_
        refine ⟨_, rfl, _, eD, line_lt (by rw [List.length_map, hK.1]; omega), Same.mut s1 nD, ks ++ [t], ?_, ?_⟩
        · rw [take_snoc hx]
          have e : keptOf (ls.take i ++ [x]) nm = keptOf (ls.take i) nm ++ [x] := by
            unfold keptOf
            rw [List.filter_append, List.filter_cons_of_pos (by simpa using h), List.filter_nil]
          rw [e]
          exact (hK.snoc hT).grow eD
        · rw [upd_same, List.map_append]
          rfl
    rintro H1 ⟨s1, ks, hK, eD⟩
    rw [List.length_map, hA.1, List.take_length] at hK
    dsimp only [gName]
    have hw1 := s1 _ _ hw
    have hL1 := s1 _ _ hL
    refine ⟨_, rfl, w0, _, dx, _, _, rfl, hw1, T.cl_Watch, T.na_letters, rfl, _, _, rfl, .inl (SqL.of hL1), _, rfl, _, _, rfl, .inl (SqL.of eD), _, _, rfl, rfl, ?_⟩
    rw [List.length_map, List.length_map, hA.1, hK.1]
    dsimp only [gName]
    have le : (keptOf ls nm).length ≤ ls.length := List.length_filter_le _ _
    have none_ : (keptOf ls nm).length = ls.length → ∀ x ∈ ls, x.nm ≠ nm := fun e x m => by
      have := (List.length_filter_eq_length_iff.mp e) x m
      simpa using this
    refine ⟨_, rfl, rfl, _, rfl, ?_⟩
    refine ite_eq (fun z => ?_) (fun z => ?_)
    · exact eC (none_ (by omega)) H1 s1
    have some_ : ∃ x ∈ ls, x.nm = nm := Classical.byContradiction fun h => z (by
      have : (keptOf ls nm).length = ls.length := List.length_filter_eq_length_iff.mpr fun x m => by simpa using fun y => h ⟨x, m, y⟩
      omega)
    refine ⟨_, rfl, _, rfl, w0, _, dx, _, rfl, hw1, T.cl_Watch, T.na_letters, (by show 2 < 1000; decide), ?_⟩
    have Dw : D ≠ w0 := fun y => by rw [y, hw1] at eD; cases eD
    have kx : KpX w0 H _ := KpX.of (o := .ins a.c_Watch dx (putF "letters" (.ref D) [("off", .int o), ("letters", .ref p)])) (Kp.of s1) hw1 (by intro _ z; cases z)
    exact ⟨_, rfl, q some_ _ D nD kx ⟨dx, ks, upd_same, (upd_ne Dw).trans eD, hK.upd hw1⟩⟩
/-! ### _law_drop -/
abbrev n_drop : List Str := ["_law_watch", "_law_own", "_law_name", "_law_many_here", "_law_found", "_law_e", "_law_one"]
theorem sc_drop : FnScope ["_law_watch", "_law_own", "_law_name", "_law_many_here", "_law_found", "_law_e", "_law_one"] ["_law_watch", "_law_own", "_law_name"] (defScope s_drop) := ⟨rfl, rfl, rfl, by decide +kernel, rfl, by decide +kernel, by decide +kernel⟩
theorem ok_drop (T : Txt K mg a) : FnOk P w K mg base CX0 2 a.f_drop a.d_drop ["_law_watch", "_law_own", "_law_name"] (spLDrop K a.c_Watch) := by
  refine T.drop.F.ok sc_drop (fun vs H Q E h => ?_) (fun cdv A outer s H vs Q E hr h => ?_)
  · obtain ⟨w0, q, N, o, ls, nm, rfl, hp, qN, st, k⟩ := h
    rfl
  · obtain ⟨w0, q, N, o, ls, nm, rfl, hp, qN, st, k⟩ := h
    have hu := hu_of hr
    refine ⟨_, (pss_cons (ps_set (i := 3) sc_drop.nd rfl (Or.inl rfl) (pe_callB (lenK K) (by rfl) T.b_len boot_len (pa_cons (pe_lc (own := [("_law_one", 6)]) (g := gName 6) rfl sc_drop.nd (piL K (pv 1)) (blkOk_by (N := n_drop) (sc := defScope s_drop) (by decide +kernel)) (fun _ _ _ _ _ => pg_name (i := 6) sc_drop.nd rfl (Or.inl rfl)) (fun _ _ _ _ _ => pts_one (pt_cmpR op_eq (pe_ix (ixT K) (pv 6) pe_int (fun _ _ => rfl)) (pv 2) (nomark _))) (fun _ _ _ _ _ => (pv 6))) pa_nil)))
      (pss_cons (ps_try_as (ts := fun x cls d => tRet (tAndV (tOp rEq (tVar 3) (tC (.int 0))) (tOp rEq (tCallE (spKind K a.cs a.c_StretchError) x cls d (tCons (tVar 5) tNil)) (tC (.str "clock"))))) (i := 5) rfl rfl sc_drop.nd rfl rfl ⟨rfl, by decide, .inl T.StretchError.g⟩ takes0 (fun W pn xe tk _ => (pss_one (ps_set (i := 4) sc_drop.nd rfl (Or.inl rfl) (pe_mtT (pv 0) T.cl_Watch T.W_drop.M (ok_W_drop T) (hr.mono (by decide)) T.W_drop.b .nil tk (pa_cons (pv 2) pa_nil))))) (fun a oe cls d pn hz hf => (pss_one (ps_ret (pe_and (pe_cmpR op_eq (pv 3) pe_int (nomark _)) (pe_one (pe_cmpR op_eq (pe_callE (p := (a, oe)) (ok_kind T) (rm_suite hr (by decide)) List.mem_cons_self hz hf T.kind.g T.kind.F.kp T.kind.b (pa_cons (pv 5) pa_nil)) pe_str (nomark _))))))))
      (pss_cons (ps_for PassesOwn.never rfl (piL K (pe_callTy (listK K) (by rfl) T.b_list (by decide +kernel) (pa_cons (pv 1) pa_nil))) (pg_name (i := 6) sc_drop.nd rfl (Or.inl rfl)) (pss_one (ps_if (pt_cmpR op_eq (pe_ix (ixT K) (pv 6) pe_int (fun _ _ => rfl)) (pv 2) (nomark _)) (pss_one (ps_expr (pe_bm PySem.F.plainAttrs_list PySem.F.slot_list_remove PySem.F.type_list_remove (mt_removeD K hr) (pv 1) (pa_cons (pv 6) pa_nil)))) pss_nil)))
      (pss_one (ps_ret (pe_and (pe_cmpR op_gt (pv 3) pe_int (nomark _)) (pe_and (pe_cl (ok_whole T) T.whole (hr.mono (by decide)) (pa_cons (pv 4) pa_nil)) (pe_one (pe_cmpR op_eq (pv 4) (pv 3) (nomark _)))))))))), ?_⟩
    have hp0 := hp
    obtain ⟨p, bs, ⟨dx, as, hw, hL, hA⟩, eq, hB, hok, hl, np⟩ := hp0
    have wq : w0 ≠ q := fun z => by rw [← z, hw] at eq; cases eq
    obtain ⟨zs, rfl, hls, hZ⟩ := hB.zs
    -- how many
    refine ⟨_, rfl, q, rfl, ⟨_, SqL.of eq⟩, fun D nD => lc_list (K := K) (a := q) (xs := (zs.map (·.1)).map V.ref) (fun i H' => Same H H' ∧ ∃ cs : List Addr, cs.length = ((ls.take i).filter fun x => decide (x.nm = nm)).length ∧ H' D = some (.lst (cs.map V.ref))) ⟨same_new nD, [], rfl, upd_same⟩ (fun i H' _ h => SqL.of (h.1 _ _ eq)) ?_ ?_⟩
    · rintro i v H' hi ⟨s1, cs, lc, eD⟩
      obtain ⟨t, x, rfl, ha, hx, hT⟩ := (hB.same s1).get hi
      refine ⟨rfl, ?_⟩
      refine ⟨_, rfl, _, _, _, _, rfl, rfl, hT, atI_nat (j := 0) rfl, _, rfl, rfl, _, rfl, ?_⟩
      rw [eq_str, take_snoc hx, List.filter_append]
      have few : ((ls.take i).filter fun x => decide (x.nm = nm)).length ≤ 200 := Nat.le_trans (List.length_filter_le _ _) (by rw [List.length_take]; omega)
      by_cases h : x.nm = nm
      · rw [decide_eq_true h, List.filter_cons_of_pos (by simpa using h), List.filter_nil]
        refine iteT ?_
        exact ⟨_, rfl, _, eD, line_lt (by rw [List.length_map, lc]; omega), Same.mut s1 nD, cs ++ [t], by rw [List.length_append, List.length_append, lc]; rfl, by rw [upd_same, List.map_append]; rfl⟩
      · rw [decide_eq_false h, List.filter_cons_of_neg (by simpa using h), List.filter_nil, List.append_nil]
        exact iteF ⟨s1, cs, lc, eD⟩
    rintro H1 ⟨s1, cs, lc, eD⟩
    rw [List.length_map, hB.1, List.take_length] at lc
    refine ⟨D, _, rfl, .inl (SqL.of eD), ?_⟩
    rw [List.length_map, lc]
    dsimp only [gName]
    have hw1 := s1 _ _ hw
    have hL1 := s1 _ _ hL
    have cnt := filt_len ls nm
    refine ⟨_, rfl, w0, dx, _, rfl, hw1, rfl, _, rfl, w0, o, ls, nm, p, rfl, ⟨dx, as, hw1, hL1, hA.same s1⟩, hl, fun no H2 s2 => ?_, fun yes H2 p' n' k2 hW => ?_⟩
    · have zero : (ls.filter fun x => decide (x.nm = nm)).length = 0 := by
        rw [List.length_eq_zero_iff, List.filter_eq_nil_iff]
        exact fun x m => by simpa using no x m
      rw [zero]
      refine ⟨true, T.kd_NoClock.em, fun _ x nx => ?_, fun z => nomatch z⟩
      refine ⟨_, rfl, rfl, _, rfl, ?_⟩
      refine iteT ?_
      refine ⟨_, rfl, rfl, _, 8, rfl, rfl, T.kd_NoClock, fun H' s' => ?_⟩
      refine ⟨rfl, ?_⟩
      have s3 := (s1.trans s2).trans s'
      exact bl_true (decide_eq_true rfl) (k _ ls (KpM.same s3) (hp.kp (.of s3)))
    dsimp only [gName]
    have q'N : p' ∉ N := (st.kpm (KpM.same s1 (L := []))).new n'
    have pq : p' ∉ [q] := fun m => q'N (List.mem_singleton.mp m ▸ qN)
    have mu1 : Mu [w0, q] H1 := (hp.kp (Kp.of s1)).mu
    have kx : KpM [w0, q] H1 H2 := KpM.ofX k2 (.head _)
    have eq2 := k2.ob _ _ (Ne.symm wq) (by intro _ z; cases z) (s1 _ _ eq)
    have hZ2 : ∀ z ∈ zs, SqT K H2 z.1 z.2.vals := fun z m => kx.seqT mu1 (Ts.Same.seqT s1 (hZ z m))
    have many : (1 : Int) ≤ ((ls.filter fun x => decide (x.nm = nm)).length : Int) := by
      obtain ⟨x, m, e⟩ := yes
      have := List.length_pos_of_mem (List.mem_filter.mpr ⟨m, decide_eq_true e⟩ : x ∈ ls.filter fun x => decide (x.nm = nm))
      omega
    rw [show (ls.length : Int) - ((keptOf ls nm).length : Int) = ((ls.filter fun x => decide (x.nm = nm)).length : Int) from by omega]
    generalize ((ls.filter fun x => decide (x.nm = nm)).length : Int) = mn at many ⊢
    have lowL : ∀ z ∈ zs, low z.2.nm := fun z m => (hok z.2 (hls ▸ List.mem_map.mpr ⟨z, m, rfl⟩)).nm.2.2
    -- out of the plain list
    refine ⟨_, rfl, q, _, rfl, .inl (SqL.of eq2), fun l nl => ?_⟩
    have lq : l ≠ q := fun z => by rw [z, eq2] at nl; cases nl
    generalize hH3 : upd _ l _ = H3
    obtain ⟨s3, el⟩ := gen_new hH3 nl
    clear hH3
    have eq3 := s3 _ _ eq2
    have mu3 : Mu [q] H3 := fun b m => .inl ⟨_, (List.mem_singleton.mp m) ▸ eq3⟩
    refine ⟨l, rfl, ⟨_, SqL.of el⟩, for_list (K := K) (a := l) (xs := (zs.map (·.1)).map V.ref) (fun i σ H' => KpM [q] H3 H' ∧ H' q = some (.lst (((restOf zs i nm).map (·.1)).map V.ref)) ∧ ∃ v6 : Option V, σ = [some (.ref w0), some (.ref q), some (.str (mkS nm)), some (.int mn), some (.int mn), none, v6])
      ⟨KpM.same (Same.refl _), eq3, none, rfl⟩ (fun i σ H' _ h => SqL.of (h.1.at el fun m => lq (List.mem_singleton.mp m))) ?_ ?_⟩
    · rintro i v σ H4 hi ⟨k4, e4, v6, rfl⟩
      obtain ⟨z, hz, rfl⟩ : ∃ z, zs[i]? = some z ∧ v = .ref z.1 := by
        rw [List.map_map, List.getElem?_map] at hi
        cases e : zs[i]? with
        | none => rw [e] at hi; cases hi
        | some z => rw [e] at hi; exact ⟨z, rfl, (Option.some.inj hi).symm⟩
      have all4 : ∀ z ∈ zs, SqT K H4 z.1 z.2.vals := fun z m => k4.seqT mu3 (Ts.Same.seqT s3 (hZ2 z m))
      have hT := all4 z (List.mem_of_getElem? hz)
      refine ⟨_, rfl, _, _, _, _, rfl, rfl, hT, atI_nat (j := 0) rfl, _, rfl, rfl, _, rfl, ?_⟩
      rw [eq_str]
      by_cases h : z.2.nm = nm
      · rw [decide_eq_true h]
        refine iteT ?_
        have dps : ∀ l : List (Addr × Let), (∀ z ∈ l, z ∈ zs) → DpAll K H4 ((l.map (·.1)).map V.ref) (l.map fun z => letD z.2) := by
          intro l
          induction l with
          | nil => exact fun _ => .nil
          | cons y r ih => exact fun g => .cons (let_dp (all4 y (g y (.head _)))) (ih fun z m => g z (.tail _ m))
        have sh : SeqAt.shaped (.list ((restOf zs i nm).map fun z => letD z.2)) = true := by
          have : (restOf zs i nm).map (fun z => letD z.2) = ((restOf zs i nm).map (·.2)).map letD := by rw [List.map_map]; rfl
          rw [this]
          exact shp_lets fun x m => by
            obtain ⟨y, hy, rfl⟩ := List.mem_map.mp m
            exact lowL y (rest_mem hy)
        have shz : SeqAt.shaped (letD z.2) = true := (shp_let (lowL z (List.mem_of_getElem? hz))).ok (by decide)
        refine ⟨_, rfl, .inl ⟨rfl, _, SqL.of e4⟩, _, rfl, q, _, _, letD z.2, (restOf zs i nm).map fun z => letD z.2, ((zs.take i).filter fun z => decide (z.2.nm ≠ nm)).length, letD z.2, rfl, rfl, e4, dps _ (fun y m => rest_mem m), let_dp hT, sh, shz, ?_, eqv_self shz, fun m z' lt em => ?_, ?_⟩
        · rw [rest_at nm hz, List.map_append, List.getElem?_append_right (by rw [List.length_map]; exact Nat.le_refl _), List.length_map, Nat.sub_self]
          rfl
        · rw [rest_at nm hz, List.map_append, List.getElem?_append_left (by rw [List.length_map]; exact lt), List.getElem?_map] at em
          cases ey : ((zs.take i).filter fun z => decide (z.2.nm ≠ nm))[m]? with
          | none => rw [ey] at em; cases em
          | some y =>
            rw [ey] at em
            cases em
            have := (List.mem_filter.mp (List.mem_of_getElem? ey)).2
            exact let_ne fun w => (of_decide_eq_true this) (w.trans h)
        · have er : (((restOf zs i nm).map (·.1)).map V.ref).eraseIdx ((zs.take i).filter fun z => decide (z.2.nm ≠ nm)).length = ((restOf zs (i + 1) nm).map (·.1)).map V.ref := by
            rw [List.map_map, List.map_map, rest_at nm hz, erase_mid, ← rest_out hz h]
          exact ⟨k4.trans (KpM.upd e4 (by intro _ z; cases z) (.head _)), upd_same.trans (congrArg (fun y => some (HO.lst y)) er), _, rfl⟩
      · rw [decide_eq_false h]
        refine iteF ?_
        exact ⟨k4, (rest_in hz h).symm ▸ e4, _, rfl⟩
    rintro σ H4 ⟨k4, e4, v6, rfl⟩
    rw [List.length_map, List.length_map, rest_end] at e4
    have hA4 : LetsAt K H4 ((zs.filter fun z => decide (z.2.nm ≠ nm)).map (·.1)) (keptOf ls nm) := by
      rw [hls, ← kept_zs]
      exact lets_zs fun z m => k4.seqT mu3 (Ts.Same.seqT s3 (hZ2 z (List.mem_filter.mp m).1))
    have mem : ∀ b ∈ [q], b ∈ [w0, q] := fun b m => .tail _ m
    have fin := k H4 (keptOf ls nm) (((KpM.same s1).trans kx).trans ((KpM.same s3).trans (k4.sub mem))) ⟨p', _, (hW.kpm (KpM.same s3 (L := [q])) (fun b m => .inl ⟨_, List.mem_singleton.mp m ▸ eq2⟩) (fun m => wq (List.mem_singleton.mp m)) pq).kpm k4 mu3 (fun m => wq (List.mem_singleton.mp m)) pq, e4, hA4, fun x m => hok x (List.mem_filter.mp m).1, Nat.le_trans (List.length_filter_le _ _) hl, q'N⟩
    refine ⟨_, rfl, _, _, rfl, rfl, _, rfl, ?_⟩
    refine ite_dec (fun _ => ?_) (fun z => absurd many (by omega))
    refine ⟨_, rfl, _, rfl, ?_⟩
    refine ⟨_, rfl, ?_⟩
    refine iteT ?_
    refine ⟨_, rfl, _, rfl, rfl, ?_⟩
    exact bl_true (decide_eq_true rfl) fin
/-! ### Watch.told -/
abbrev n_W_told : List Str := ["self", "now", "bad"]
theorem sc_W_told : FnScope ["self", "now", "bad"] ["self", "now", "bad"] (defScope s_W_told) := ⟨rfl, rfl, rfl, by decide +kernel, rfl, by decide +kernel, by decide +kernel⟩
theorem ok_W_told (T : Txt K mg a) (TB_meets : GxR.TabB base mg a.k_tab_meets a.P_tab_meets) : FnOk P w K mg base (L2.CX P w) 5 a.f_W_told a.d_W_told ["self", "now", "bad"] (spWTold K a.c_Watch a.P_tab_meets a.c_TooEarly a.c_NoAgreement a.c_BadCount) := by
  refine T.W_told.F.ok sc_W_told (fun vs H Q E h => ?_) (fun cdv A outer s H vs Q E hr h => ?_)
  · obtain ⟨x, o, ls, now, f, p, rfl, ⟨dx, as, hw, hL, hA⟩, hok, hl, hP, ok, eE, eN, eC, q⟩ := h
    rfl
  · obtain ⟨x, o, ls, now, f, p, rfl, ⟨dx, as, hw, hL, hA⟩, hok, hl, hP, ok, eE, eN, eC, q⟩ := h
    have hu := hu_of hr
    refine ⟨_, (pss_one (ps_ret (pe_clX4 (ok_sure T TB_meets) T.sure (hr.mono (by decide)) (takes_of rfl rfl rfl rfl) (pa_cons (pe_fld (pv 0) rfl) (pa_cons (pv 1) (pa_cons (pe_fld (pv 0) rfl) (pa_cons (pv 2) pa_nil))))))), ?_⟩
    exact ⟨_, rfl, x, _, dx, _, _, rfl, hw, T.cl_Watch, T.na_letters, rfl, _, rfl, _, rfl, x, _, dx, _, _, rfl, hw, T.cl_Watch, T.na_off, rfl, _, rfl, p, as, ls, now, o, f, rfl, SqL.of hL, hA, hok, hl, hP, fun bad => absurd ok bad, fun _ => eE, fun _ => eN, fun _ => eC, fun _ => q⟩
/-! ### _law_ask -/
abbrev n_ask : List Str := ["_law_watch", "_law_own", "_law_off_here", "_law_cell", "_law_held", "_law_now", "_law_few", "_law_word_here", "_law_found", "_law_e", "_law_one"]
theorem sc_ask : FnScope ["_law_watch", "_law_own", "_law_off_here", "_law_cell", "_law_held", "_law_now", "_law_few", "_law_word_here", "_law_found", "_law_e", "_law_one"] ["_law_watch", "_law_own", "_law_off_here", "_law_cell", "_law_held"] (defScope s_ask) := ⟨rfl, rfl, rfl, by decide +kernel, rfl, by decide +kernel, by decide +kernel⟩
theorem ok_ask (T : Txt K mg a) (TB_meets : GxR.TabB base mg a.k_tab_meets a.P_tab_meets) : FnOk P w K mg base CX0 6 a.f_ask a.d_ask ["_law_watch", "_law_own", "_law_off_here", "_law_cell", "_law_held"] (spLAsk K a.c_Watch a.P_tab_meets) := by
  refine T.ask.F.ok sc_ask (fun vs H Q E h => ?_) (fun cdv A outer s H vs Q E hr h => ?_)
  · obtain ⟨w0, q, h, N, o, c, ls, n, rfl, hp, hh, hn, hN, st, ok, hP, k⟩ := h
    rfl
  · obtain ⟨w0, q, h, N, o, c, ls, n, rfl, hp, hh, hn, hN, st, ok, hP, k⟩ := h
    have hu := hu_of hr
    refine ⟨_, (pss_cons (ps_set (i := 5) sc_ask.nd rfl (Or.inr rfl) (pe_callB (maxK K rfl) (by rfl) T.b_max (by decide +kernel) (pa_cons (pe_op op_cat (pe_lst (pa_cons pe_int pa_nil)) (pe_lc (own := [("_law_one", 10)]) (g := gName 10) (tt := tYes) rfl sc_ask.nd (piL K (pv 1)) (blkOk_by (N := n_ask) (sc := defScope s_ask) (by decide +kernel)) (fun _ _ _ _ _ => pg_name (i := 10) sc_ask.nd rfl (Or.inl rfl)) (fun _ _ _ _ _ => pts_nil) (fun _ _ _ _ _ => (pe_ix (ixT K) (pv 10) pe_int (fun _ _ => rfl))))) pa_nil)))
      (pss_cons (ps_set (i := 5) sc_ask.nd rfl (Or.inr rfl) (pe_op op_add (pv 5) (pe_ix (ixL K) (pe_lst (pa_cons pe_int (pa_cons (pe_op (op_modc (c := 900) (by decide)) (pe_cl (ok_mix T) T.mix (hr.mono (by decide)) (pa_cons (pv 3) (pa_cons pe_int pa_nil))) pe_int) (pa_cons pe_int (pa_cons pe_negc pa_nil))))) (pe_op (op_modc (c := 4) (by decide)) (pe_cl (ok_mix T) T.mix (hr.mono (by decide)) (pa_cons (pv 3) (pa_cons pe_int pa_nil))) pe_int) (fun _ _ => rfl))))
      (pss_cons (ps_set (i := 6) sc_ask.nd rfl (Or.inl rfl) (pe_ix (ixL K) (pe_lst (pa_cons pe_non (pa_cons (pe_op (op_modc (c := 5) (by decide)) (pe_cl (ok_mix T) T.mix (hr.mono (by decide)) (pa_cons (pv 3) (pa_cons pe_int pa_nil))) pe_int) (pa_cons (pe_op (op_modc (c := 41) (by decide)) (pe_cl (ok_mix T) T.mix (hr.mono (by decide)) (pa_cons (pv 3) (pa_cons pe_int pa_nil))) pe_int) (pa_cons pe_negc pa_nil))))) (pe_op (op_modc (c := 4) (by decide)) (pe_cl (ok_mix T) T.mix (hr.mono (by decide)) (pa_cons (pv 3) (pa_cons pe_int pa_nil))) pe_int) (fun _ _ => rfl)))
      (pss_cons (ps_set (i := 7) sc_ask.nd rfl (Or.inl rfl) (pe_ifExp (pt_cmpR (eqDK K hr.units) (pe_lc (own := [("_law_one", 10)]) (g := gName 10) rfl sc_ask.nd (piL K (pv 1)) (blkOk_by (N := n_ask) (sc := defScope s_ask) (by decide +kernel)) (fun _ _ _ _ _ => pg_name (i := 10) sc_ask.nd rfl (Or.inl rfl)) (fun _ _ _ _ _ => pts_one (pt_cmpR op_gt (pe_ix (ixT K) (pv 10) pe_int (fun _ _ => rfl)) (pv 5) (nomark _))) (fun _ _ _ _ _ => (pv 10))) (pe_lst pa_nil) (nomark _)) (pe_cl (ok_due T) T.due (hr.mono (by decide)) (pa_cons (pv 1) (pa_cons (pv 5) (pa_cons (pv 2) (pa_cons (pv 6) pa_nil))))) pe_str))
      (pss_cons (ps_try_as (ts := fun x cls d => tRet (tAndV (tOp rNe (tVar 7) (tC (.str ""))) (tOp rEq (tCallE (spKind K a.cs a.c_StretchError) x cls d (tCons (tVar 9) tNil)) (tVar 7)))) (i := 9) rfl rfl sc_ask.nd rfl rfl ⟨rfl, by decide, .inl T.StretchError.g⟩ takes0 (fun W pn xe tk _ => (pss_one (ps_if (PW.pt (pw_and (pt_cmpR op_isN (pv 6) pe_non (nomark _)) (pw_and1 (pt_cmpR op_gt (pe_op (op_modc (c := 3) (by decide)) (pv 3) pe_int) pe_int (nomark _))))) (pss_one (ps_set (i := 8) sc_ask.nd rfl (Or.inl rfl) (pe_mtT (dvs := [.non]) (pv 0) T.cl_Watch T.W_told.M (ok_W_told T TB_meets) (hr.mono (by decide)) T.W_told.b3 (.cons rfl .nil) tk (pa_cons (pv 5) pa_nil)))) (pss_one (ps_if (pt_cmpR op_eq (pe_op (op_modc (c := 2) (by decide)) (pv 3) pe_int) pe_int (nomark _)) (pss_one (ps_set (i := 8) sc_ask.nd rfl (Or.inl rfl) (pe_mtTK (pv 0) T.cl_Watch T.W_told (ok_W_told T TB_meets) (hr.mono (by decide)) tk (pa_cons (pv 5) pa_nil) (pk_cons (pv 6) pk_nil)))) (pss_one (ps_set (i := 8) sc_ask.nd rfl (Or.inl rfl) (pe_mtT (pv 0) T.cl_Watch T.W_told.M (ok_W_told T TB_meets) (hr.mono (by decide)) T.W_told.b .nil tk (pa_cons (pv 5) (pa_cons (pv 6) pa_nil)))))))))) (fun a oe cls d pn hz hf => (pss_one (ps_ret (pe_and (pe_cmpR op_ne (pv 7) pe_str (nomark _)) (pe_one (pe_cmpR op_eq (pe_callE (p := (a, oe)) (ok_kind T) (rm_suite hr (by decide)) List.mem_cons_self hz hf T.kind.g T.kind.F.kp T.kind.b (pa_cons (pv 9) pa_nil)) (pv 7) (nomark _))))))))
      (pss_cons (ps_if (PW.pt (pw_or (pt_cmpR op_ne (pv 7) pe_str (nomark _)) (pw_or1 (pt_not (pt_val (pe_cl (ok_sure_right T) T.sure_right (hr.mono (by decide)) (pa_cons (pv 1) (pa_cons (pv 5) (pa_cons (pv 2) (pa_cons (pv 6) (pa_cons (pv 8) pa_nil))))))))))) (pss_one (ps_ret pe_bl)) pss_nil)
      (pss_cons (ps_expr (pe_bm PySem.F.plainAttrs_list PySem.F.slot_list_append PySem.F.type_list_append mt_append (pv 4) (pa_cons (pe_tup (pa_cons (pv 8) (pa_cons (pe_tup (pa_cons (pe_ix (ixT K) (pv 8) pe_int (fun _ _ => rfl)) (pa_cons (pe_ix (ixT K) (pv 8) pe_int (fun _ _ => rfl)) (pa_cons (pe_callTy (listK K) (by rfl) T.b_list (by decide +kernel) (pa_cons (pe_ix (ixT K) (pv 8) pe_int (fun _ _ => rfl)) pa_nil)) (pa_cons (pe_callTy (listK K) (by rfl) T.b_list (by decide +kernel) (pa_cons (pe_ix (ixT K) (pv 8) pe_int (fun _ _ => rfl)) pa_nil)) pa_nil))))) pa_nil))) pa_nil)))
      (pss_one (ps_ret pe_bl))))))))), ?_⟩
    have hp0 := hp
    obtain ⟨p, bs, ⟨dx, as, hw, hL, hA⟩, eq, hB, hok, hl, np⟩ := hp0
    have blen : bs.length ≤ 200 := by rw [hB.1]; exact hl
    -- the last answer
    refine ⟨(by show 1 ≤ sizeLine; decide), fun p1 n1 => ?_⟩
    generalize hHa : upd _ p1 _ = Ha
    obtain ⟨sa, ea⟩ := gen_new hHa n1
    clear hHa
    refine ⟨_, rfl, q, rfl, ⟨_, SqL.of (sa _ _ eq)⟩, fun D nD => lc_list (K := K) (a := q) (xs := bs.map V.ref) (fun i H' => Same Ha H' ∧ H' D = some (.lst (((ls.take i).map (·.b)).map V.int))) ⟨same_new nD, upd_same⟩ (fun i H' _ h => SqL.of (h.1 _ _ (sa _ _ eq))) ?_ ?_⟩
    · rintro i v H' hi ⟨s1, eD⟩
      obtain ⟨t, x, rfl, ha, hx, hT⟩ := ((hB.same sa).same s1).get hi
      refine ⟨rfl, ?_⟩
      refine ⟨_, rfl, _, _, _, _, rfl, rfl, hT, atI_nat (j := 2) rfl, ?_⟩
      refine ⟨_, eD, by rw [List.length_map, List.length_map, List.length_take]; exact line_lt (by omega), Same.mut s1 nD, ?_⟩
      rw [upd_same, take_snoc hx, List.map_append, List.map_append]
      rfl
    rintro Hb ⟨sb, eD⟩
    rw [List.length_map, hB.1, List.take_length] at eD
    have ea2 := sb _ _ ea
    refine ⟨_, _, _, _, rfl, rfl, ea2, eD, (by rw [List.length_map, List.length_map]; exact line_of2 (by show 1 + ls.length ≤ 200000; omega)), fun p2 n2 => ?_⟩
    refine ⟨p2, 0 :: ls.map (·.b), rfl, SqL.of upd_same, Nat.succ_pos _, fun m hm hle => ?_⟩
    dsimp only [gName]
    have m0 : 0 ≤ m := hle 0 (.head _)
    have mall : ∀ x ∈ ls, x.b ≤ m := fun x hx => hle x.b (.tail _ (List.mem_map.mpr ⟨x, hx, rfl⟩))
    have sb2 : Same Ha _ := sb.trans (same_new n2 (o := .lst ((V.int 0) :: (ls.map (·.b)).map V.int)))
    generalize hHc : upd _ p2 _ = Hc
    obtain ⟨sc', _⟩ := gen_new hHc n2
    clear hHc
    have sc := (sa.trans sb).trans sc'
    -- now
    refine ⟨_, rfl, _, rfl, _, _, rfl, fun r r0 r1 => ?_⟩
    refine ⟨_, rfl, rfl, (by show 4 ≤ sizeLine; decide), fun p3 n3 => ?_⟩
    refine ⟨_, rfl, _, _, rfl, fun s r2 r3 => ?_⟩
    refine ⟨_, rfl, rfl, ?_⟩
    refine ix_int (fun j => -1 ≤ j ∧ j < 900) SqL.here (Int.emod_nonneg _ (by decide)) (Int.emod_lt_of_pos _ (by decide)) (allc ⟨_, rfl, by decide⟩ (allc ⟨_, rfl, by omega⟩ (allc ⟨_, rfl, by decide⟩ (all1 ⟨_, rfl, by decide⟩)))) fun d hd => ?_
    refine ⟨_, _, rfl, rfl, ?_⟩
    dsimp only [gName]
    generalize m + d = now
    have s3 := sc.trans (same_new n3 (o := .lst [.int 0, .int (r % 900), .int 0, .int (-1)]))
    generalize hHd : upd _ p3 _ = Hd at s3
    clear hHd
    -- how few
    refine ⟨_, rfl, _, _, rfl, fun e e0 e1 => ?_⟩
    refine ⟨_, rfl, rfl, _, rfl, _, _, rfl, fun g g0 g1 => ?_⟩
    refine ⟨_, rfl, rfl, (by show 4 ≤ sizeLine; decide), fun p4 n4 => ?_⟩
    refine ⟨_, rfl, _, _, rfl, fun s r2 r3 => ?_⟩
    refine ⟨_, rfl, rfl, ?_⟩
    refine ix_any (fun v => ∃ f, v = fewV f) SqL.here (Int.emod_nonneg _ (by decide)) (Int.emod_lt_of_pos _ (by decide)) (allc ⟨none, rfl⟩ (allc ⟨some _, rfl⟩ (allc ⟨some _, rfl⟩ (all1 ⟨some _, rfl⟩)))) fun v hv => ?_
    obtain ⟨f, rfl⟩ := hv
    dsimp only [gName]
    have s4 := s3.trans (same_new n4 (o := .lst [.non, .int (e % 5), .int (g % 41), .int (-1)]))
    generalize hHe : upd _ p4 _ = He at s4
    clear hHe
    -- the word that is due
    refine seq_cut (fun σ' H' => ∃ W : Str, ToldW now o ls f W ∧ Same He H' ∧ σ' = [some (.ref w0), some (.ref q), some (.int o), some (.int c), some (.ref h), some (.int now), some (fewV f), some (.str W), none, none, none]) (fun M hM => ?_) ?_
    · refine ⟨_, rfl, q, rfl, ⟨_, SqL.of (s4 _ _ eq)⟩, fun D nD => lc_list (K := K) (a := q) (xs := bs.map V.ref) (fun i H' => Same He H' ∧ ∃ cs : List Addr, LetsAt K H' cs ((ls.take i).filter fun x => decide (now < x.b)) ∧ H' D = some (.lst (cs.map V.ref))) ⟨same_new nD, [], LetsAt.nil, upd_same⟩ (fun i H' _ h => SqL.of (h.1 _ _ (s4 _ _ eq))) ?_ ?_⟩
      · rintro i v H' hi ⟨s5, cs, hC, eD⟩
        obtain ⟨t, x, rfl, ha, hx, hT⟩ := ((hB.same s4).same s5).get hi
        have few : ((ls.take i).filter fun x => decide (now < x.b)).length ≤ 200 := Nat.le_trans (List.length_filter_le _ _) (by rw [List.length_take]; omega)
        refine ⟨rfl, ?_⟩
        refine ⟨_, rfl, _, _, _, _, rfl, rfl, hT, atI_nat (j := 2) rfl, _, rfl, _, _, rfl, rfl, _, rfl, ?_⟩
        rw [take_snoc hx, List.filter_append]
        refine ite_dec (fun g => ?_) (fun g => ?_)
        · rw [List.filter_cons_of_pos (p := fun x : Let => decide (now < x.b)) (decide_eq_true g), List.filter_nil]
          exact ⟨_, rfl, _, eD, line_lt (by rw [List.length_map, hC.1]; omega), Same.mut s5 nD, cs ++ [t], (hC.snoc hT).grow eD, by rw [upd_same, List.map_append]; rfl⟩
        · rw [List.filter_cons_of_neg (p := fun x : Let => decide (now < x.b)) (by simpa using g), List.filter_nil, List.append_nil]
          exact ⟨s5, cs, hC, eD⟩
      rintro H5 ⟨s5, cs, hC, eD⟩
      rw [List.length_map, hB.1, List.take_length] at hC
      refine ⟨(by show 0 ≤ sizeLine; decide), fun p5 n5 => ?_⟩
      have lowC : ∀ x ∈ ls.filter (fun x => decide (now < x.b)), low x.nm := fun x m => (hok x (List.mem_filter.mp m).1).nm.2.2
      refine ⟨_, _, (hC.same (same_new n5)).dp (SqL.of ((upd_ne (ne_of_none eD n5)).trans eD)), .lst SqL.here .nil, shp_lets lowC, rfl, _, rfl, ?_⟩
      have s6 := (s4.trans s5).trans (same_new n5 (o := .lst []))
      have s56 := s5.trans (same_new n5 (o := .lst []))
      generalize upd H5 p5 (.lst []) = H6 at s6 s56 ⊢
      cases ef : ls.filter (fun x => decide (now < x.b)) with
      | nil =>
        refine ite_yes rfl ?_
        have le : ∀ x ∈ ls, x.b ≤ now := fun x m => by
          have := List.filter_eq_nil_iff.mp ef x m
          simpa using this
        refine ⟨_, rfl, _, rfl, _, rfl, _, rfl, q, bs, ls, now, o, f, rfl, SqL.of (s6 _ _ eq), hB.same s6, hok, by omega, ok, fun H7 s7 => ?_⟩
        exact hM _ _ ⟨_, .inr (.inr ⟨ok, le, rfl⟩), s56.trans s7, rfl⟩
      | cons x r =>
        refine ite_no rfl ?_
        have m : x ∈ ls.filter (fun x => decide (now < x.b)) := by rw [ef]; exact .head _
        exact hM _ _ ⟨"early", .inr (.inl ⟨ok, ⟨x, (List.mem_filter.mp m).1, by simpa using (List.mem_filter.mp m).2⟩, rfl⟩), s56, rfl⟩
    rintro σ' H6 ⟨W, hW, s46, rfl⟩
    have s6 := s4.trans s46
    have done : ∀ H2, Same H6 H2 → Q (.bl true) H2 := fun H2 s2 => k H2 (KpM.same (s6.trans s2)) ((hh.kpm (KpM.same (s6.trans s2) (L := [])) (fun _ m => nomatch m) (fun m => nomatch m) (fun _ m => nomatch m)).up (Nat.le_succ _))
    -- asked
    refine seq_cut (fun σ' H' => W = "" ∧ ∃ fv : V, Kp H6 H' ∧ SureAt K H6 H' (gath now o ls) f fv ∧ σ' = [some (.ref w0), some (.ref q), some (.int o), some (.int c), some (.ref h), some (.int now), some (fewV f), some (.str W), some fv, none, none]) (fun M hM => ?_) ?_
    · refine ⟨_, rfl, rfl, _, rfl, ?_⟩
      cases f with
      | none =>
        refine iteT ?_
        refine ⟨_, rfl, _, rfl, rfl, _, _, rfl, rfl, _, rfl, ?_⟩
        refine ite_dec (fun _ => ?_) (fun _ => ⟨_, rfl, _, rfl, rfl, rfl, _, rfl, ite_eq (fun _ => ?_) (fun _ => ?_)⟩)
        · refine ⟨_, rfl, w0, dx, _, rfl, s6 _ _ hw, rfl, _, rfl, ?_⟩
          refine ⟨w0, o, ls, now, none, p, rfl, ⟨dx, as, s6 _ _ hw, s6 _ _ hL, hA.same s6⟩, hok, by omega, tab_same s6 hP, ok, fun ex H7 s7 => ?_, fun le e H7 s7 => ?_, fun le e H7 s7 => ?_, fun le e fv H7 k7 hS => hM _ _ ⟨hW.one (.inr (.inr ⟨ok, le, e.symm⟩)), fv, k7, hS, rfl⟩⟩
          · obtain rfl : W = "early" := hW.one (.inr (.inl ⟨ok, ex, rfl⟩))
            refine ⟨true, T.kd_TooEarly.em, fun _ x nx => ?_, fun z => nomatch z⟩
            refine ⟨_, rfl, rfl, _, rfl, ?_⟩
            refine iteT ?_
            refine ⟨_, rfl, rfl, _, 3, rfl, rfl, T.kd_TooEarly, fun H' s' => ?_⟩
            refine ⟨_, rfl, rfl, ?_⟩
            exact bl_true (decide_eq_true rfl) (done _ (s7.trans s'))
          · obtain rfl : W = "none" := hW.one (.inr (.inr ⟨ok, le, e.symm⟩))
            refine ⟨true, T.kd_NoAgreement.em, fun _ x nx => ?_, fun z => nomatch z⟩
            refine ⟨_, rfl, rfl, _, rfl, ?_⟩
            refine iteT ?_
            refine ⟨_, rfl, rfl, _, 5, rfl, rfl, T.kd_NoAgreement, fun H' s' => ?_⟩
            refine ⟨_, rfl, rfl, ?_⟩
            exact bl_true (decide_eq_true rfl) (done _ (s7.trans s'))
          · obtain rfl : W = "count" := hW.one (.inr (.inr ⟨ok, le, e.symm⟩))
            refine ⟨true, T.kd_BadCount.em, fun _ x nx => ?_, fun z => nomatch z⟩
            refine ⟨_, rfl, rfl, _, rfl, ?_⟩
            refine iteT ?_
            refine ⟨_, rfl, rfl, _, 4, rfl, rfl, T.kd_BadCount, fun H' s' => ?_⟩
            refine ⟨_, rfl, rfl, ?_⟩
            exact bl_true (decide_eq_true rfl) (done _ (s7.trans s'))
        · refine ⟨_, rfl, w0, dx, _, rfl, s6 _ _ hw, rfl, _, rfl, _, rfl, rfl, rfl, ?_⟩
          refine ⟨w0, o, ls, now, none, p, rfl, ⟨dx, as, s6 _ _ hw, s6 _ _ hL, hA.same s6⟩, hok, by omega, tab_same s6 hP, ok, fun ex H7 s7 => ?_, fun le e H7 s7 => ?_, fun le e H7 s7 => ?_, fun le e fv H7 k7 hS => hM _ _ ⟨hW.one (.inr (.inr ⟨ok, le, e.symm⟩)), fv, k7, hS, rfl⟩⟩
          · obtain rfl : W = "early" := hW.one (.inr (.inl ⟨ok, ex, rfl⟩))
            refine ⟨true, T.kd_TooEarly.em, fun _ x nx => ?_, fun z => nomatch z⟩
            refine ⟨_, rfl, rfl, _, rfl, ?_⟩
            refine iteT ?_
            refine ⟨_, rfl, rfl, _, 3, rfl, rfl, T.kd_TooEarly, fun H' s' => ?_⟩
            refine ⟨_, rfl, rfl, ?_⟩
            exact bl_true (decide_eq_true rfl) (done _ (s7.trans s'))
          · obtain rfl : W = "none" := hW.one (.inr (.inr ⟨ok, le, e.symm⟩))
            refine ⟨true, T.kd_NoAgreement.em, fun _ x nx => ?_, fun z => nomatch z⟩
            refine ⟨_, rfl, rfl, _, rfl, ?_⟩
            refine iteT ?_
            refine ⟨_, rfl, rfl, _, 5, rfl, rfl, T.kd_NoAgreement, fun H' s' => ?_⟩
            refine ⟨_, rfl, rfl, ?_⟩
            exact bl_true (decide_eq_true rfl) (done _ (s7.trans s'))
          · obtain rfl : W = "count" := hW.one (.inr (.inr ⟨ok, le, e.symm⟩))
            refine ⟨true, T.kd_BadCount.em, fun _ x nx => ?_, fun z => nomatch z⟩
            refine ⟨_, rfl, rfl, _, rfl, ?_⟩
            refine iteT ?_
            refine ⟨_, rfl, rfl, _, 4, rfl, rfl, T.kd_BadCount, fun H' s' => ?_⟩
            refine ⟨_, rfl, rfl, ?_⟩
            exact bl_true (decide_eq_true rfl) (done _ (s7.trans s'))
        · refine ⟨_, rfl, w0, dx, _, rfl, s6 _ _ hw, rfl, _, rfl, _, rfl, ?_⟩
          refine ⟨w0, o, ls, now, none, p, rfl, ⟨dx, as, s6 _ _ hw, s6 _ _ hL, hA.same s6⟩, hok, by omega, tab_same s6 hP, ok, fun ex H7 s7 => ?_, fun le e H7 s7 => ?_, fun le e H7 s7 => ?_, fun le e fv H7 k7 hS => hM _ _ ⟨hW.one (.inr (.inr ⟨ok, le, e.symm⟩)), fv, k7, hS, rfl⟩⟩
          · obtain rfl : W = "early" := hW.one (.inr (.inl ⟨ok, ex, rfl⟩))
            refine ⟨true, T.kd_TooEarly.em, fun _ x nx => ?_, fun z => nomatch z⟩
            refine ⟨_, rfl, rfl, _, rfl, ?_⟩
            refine iteT ?_
            refine ⟨_, rfl, rfl, _, 3, rfl, rfl, T.kd_TooEarly, fun H' s' => ?_⟩
            refine ⟨_, rfl, rfl, ?_⟩
            exact bl_true (decide_eq_true rfl) (done _ (s7.trans s'))
          · obtain rfl : W = "none" := hW.one (.inr (.inr ⟨ok, le, e.symm⟩))
            refine ⟨true, T.kd_NoAgreement.em, fun _ x nx => ?_, fun z => nomatch z⟩
            refine ⟨_, rfl, rfl, _, rfl, ?_⟩
            refine iteT ?_
            refine ⟨_, rfl, rfl, _, 5, rfl, rfl, T.kd_NoAgreement, fun H' s' => ?_⟩
            refine ⟨_, rfl, rfl, ?_⟩
            exact bl_true (decide_eq_true rfl) (done _ (s7.trans s'))
          · obtain rfl : W = "count" := hW.one (.inr (.inr ⟨ok, le, e.symm⟩))
            refine ⟨true, T.kd_BadCount.em, fun _ x nx => ?_, fun z => nomatch z⟩
            refine ⟨_, rfl, rfl, _, rfl, ?_⟩
            refine iteT ?_
            refine ⟨_, rfl, rfl, _, 4, rfl, rfl, T.kd_BadCount, fun H' s' => ?_⟩
            refine ⟨_, rfl, rfl, ?_⟩
            exact bl_true (decide_eq_true rfl) (done _ (s7.trans s'))
      | some b =>
        refine iteF ?_
        refine ⟨_, rfl, _, rfl, rfl, rfl, _, rfl, ite_eq (fun _ => ?_) (fun _ => ?_)⟩
        · refine ⟨_, rfl, w0, dx, _, rfl, s6 _ _ hw, rfl, _, rfl, _, rfl, rfl, rfl, ?_⟩
          refine ⟨w0, o, ls, now, some b, p, rfl, ⟨dx, as, s6 _ _ hw, s6 _ _ hL, hA.same s6⟩, hok, by omega, tab_same s6 hP, ok, fun ex H7 s7 => ?_, fun le e H7 s7 => ?_, fun le e H7 s7 => ?_, fun le e fv H7 k7 hS => hM _ _ ⟨hW.one (.inr (.inr ⟨ok, le, e.symm⟩)), fv, k7, hS, rfl⟩⟩
          · obtain rfl : W = "early" := hW.one (.inr (.inl ⟨ok, ex, rfl⟩))
            refine ⟨true, T.kd_TooEarly.em, fun _ x nx => ?_, fun z => nomatch z⟩
            refine ⟨_, rfl, rfl, _, rfl, ?_⟩
            refine iteT ?_
            refine ⟨_, rfl, rfl, _, 3, rfl, rfl, T.kd_TooEarly, fun H' s' => ?_⟩
            refine ⟨_, rfl, rfl, ?_⟩
            exact bl_true (decide_eq_true rfl) (done _ (s7.trans s'))
          · obtain rfl : W = "none" := hW.one (.inr (.inr ⟨ok, le, e.symm⟩))
            refine ⟨true, T.kd_NoAgreement.em, fun _ x nx => ?_, fun z => nomatch z⟩
            refine ⟨_, rfl, rfl, _, rfl, ?_⟩
            refine iteT ?_
            refine ⟨_, rfl, rfl, _, 5, rfl, rfl, T.kd_NoAgreement, fun H' s' => ?_⟩
            refine ⟨_, rfl, rfl, ?_⟩
            exact bl_true (decide_eq_true rfl) (done _ (s7.trans s'))
          · obtain rfl : W = "count" := hW.one (.inr (.inr ⟨ok, le, e.symm⟩))
            refine ⟨true, T.kd_BadCount.em, fun _ x nx => ?_, fun z => nomatch z⟩
            refine ⟨_, rfl, rfl, _, rfl, ?_⟩
            refine iteT ?_
            refine ⟨_, rfl, rfl, _, 4, rfl, rfl, T.kd_BadCount, fun H' s' => ?_⟩
            refine ⟨_, rfl, rfl, ?_⟩
            exact bl_true (decide_eq_true rfl) (done _ (s7.trans s'))
        · refine ⟨_, rfl, w0, dx, _, rfl, s6 _ _ hw, rfl, _, rfl, _, rfl, ?_⟩
          refine ⟨w0, o, ls, now, some b, p, rfl, ⟨dx, as, s6 _ _ hw, s6 _ _ hL, hA.same s6⟩, hok, by omega, tab_same s6 hP, ok, fun ex H7 s7 => ?_, fun le e H7 s7 => ?_, fun le e H7 s7 => ?_, fun le e fv H7 k7 hS => hM _ _ ⟨hW.one (.inr (.inr ⟨ok, le, e.symm⟩)), fv, k7, hS, rfl⟩⟩
          · obtain rfl : W = "early" := hW.one (.inr (.inl ⟨ok, ex, rfl⟩))
            refine ⟨true, T.kd_TooEarly.em, fun _ x nx => ?_, fun z => nomatch z⟩
            refine ⟨_, rfl, rfl, _, rfl, ?_⟩
            refine iteT ?_
            refine ⟨_, rfl, rfl, _, 3, rfl, rfl, T.kd_TooEarly, fun H' s' => ?_⟩
            refine ⟨_, rfl, rfl, ?_⟩
            exact bl_true (decide_eq_true rfl) (done _ (s7.trans s'))
          · obtain rfl : W = "none" := hW.one (.inr (.inr ⟨ok, le, e.symm⟩))
            refine ⟨true, T.kd_NoAgreement.em, fun _ x nx => ?_, fun z => nomatch z⟩
            refine ⟨_, rfl, rfl, _, rfl, ?_⟩
            refine iteT ?_
            refine ⟨_, rfl, rfl, _, 5, rfl, rfl, T.kd_NoAgreement, fun H' s' => ?_⟩
            refine ⟨_, rfl, rfl, ?_⟩
            exact bl_true (decide_eq_true rfl) (done _ (s7.trans s'))
          · obtain rfl : W = "count" := hW.one (.inr (.inr ⟨ok, le, e.symm⟩))
            refine ⟨true, T.kd_BadCount.em, fun _ x nx => ?_, fun z => nomatch z⟩
            refine ⟨_, rfl, rfl, _, rfl, ?_⟩
            refine iteT ?_
            refine ⟨_, rfl, rfl, _, 4, rfl, rfl, T.kd_BadCount, fun H' s' => ?_⟩
            refine ⟨_, rfl, rfl, ?_⟩
            exact bl_true (decide_eq_true rfl) (done _ (s7.trans s'))
    rintro σ' H7 ⟨rfl, fv, k7, hS, rfl⟩
    obtain ⟨pf, pw, ps, cs, ts, lo, hi, rfl, nf, nw, ns', nws, ef, ew, es, hS, htl, hSure⟩ := hS
    have lowW : ∀ z ∈ wrongC (gath now o ls) ts, low z := wrongC_low (gath_low hok)
    have k07 := (Kp.of s6).trans k7
    generalize hws : wrongC (gath now o ls) ts = ws at ew lowW
    refine ⟨_, rfl, rfl, _, rfl, ?_⟩
    refine iteF ?_
    refine ⟨_, rfl, _, rfl, _, rfl, _, rfl, _, rfl, q, bs, ls, now, o, f, pf, pw, ps, cs, ts, lo, hi, rfl, SqL.of (k07.at eq), LetsAt.kp hB k07, hok, by omega, ok, ef, hws ▸ ew, es, hS, htl, hSure, fun H8 s8 => ?_⟩
    refine ⟨_, rfl, ?_⟩
    refine iteF ?_
    have k08 := k07.trans (Kp.of s8)
    obtain ⟨ts0, eh0, held0, lh0⟩ := hh
    have eh := k08.at eh0
    -- kept
    refine ⟨_, rfl, .inl ⟨rfl, _, SqL.of eh⟩, _, rfl, ?_⟩
    refine ⟨_, rfl, _, _, _, _, rfl, rfl, SqT.of (K := K) (s8 _ _ ef), atI_nat (j := 0) rfl, _, rfl, _, _, _, _, rfl, rfl, SqT.of (K := K) (s8 _ _ ef), atI_nat (j := 1) rfl, _, rfl, _, _, _, _, rfl, rfl, SqT.of (K := K) (s8 _ _ ef), atI_nat (j := 2) rfl, pw, _, rfl, .inl (SqL.of (s8 _ _ ew)), fun kw nkw => ?_⟩
    generalize hH9 : upd _ kw _ = H9
    obtain ⟨s9, ekw⟩ := gen_new hH9 nkw
    clear hH9
    have s89 := s8.trans s9
    refine ⟨_, rfl, _, _, _, _, rfl, rfl, SqT.of (K := K) (s89 _ _ ef), atI_nat (j := 3) rfl, ps, _, rfl, .inl (SqL.of (s89 _ _ es)), fun ks nks => ?_⟩
    generalize hH10 : upd _ ks _ = H10
    obtain ⟨s10, eks⟩ := gen_new hH10 nks
    clear hH10
    refine ⟨(by show 4 ≤ sizeLine; decide), fun kt nkt => ?_⟩
    generalize hH11 : upd _ kt _ = H11
    obtain ⟨s11, ekt⟩ := gen_new hH11 nkt
    clear hH11
    refine ⟨(by show 2 ≤ sizeLine; decide), fun t nt => ?_⟩
    generalize hH12 : upd _ t _ = H12
    obtain ⟨s12, et⟩ := gen_new hH12 nt
    clear hH12
    have s812 := ((s9.trans s10).trans s11).trans s12
    have s712 := s8.trans s812
    have k12 := k08.trans (Kp.of s812)
    have eh12 := s812 _ _ eh
    refine ⟨h, _, _, rfl, rfl, eh12, (by rw [List.length_map]; exact line_lt (by omega)), ?_⟩
    have ninN : ∀ {b : Addr} {H' : Hp}, Kp H H' → H' b = none → b ∉ N := fun kk e => st.new (kk.free e)
    have nh : ∀ {b : Addr}, b ∉ N → b ≠ h := fun g z => g (z ▸ hN)
    have a1 := ninN (Kp.of s6) nf
    have a2 := ninN (Kp.of s6) nw
    have a3 := ninN (Kp.of s6) ns'
    have a4 := ninN k08 nkw
    have a5 := ninN (k08.trans (Kp.of s9)) nks
    have a6 := ninN (k08.trans (Kp.of (s9.trans s10))) nkt
    have a7 := ninN (k08.trans (Kp.of ((s9.trans s10).trans s11))) nt
    have kfin : KpM [h] H (upd H12 h (.lst (ts0.map V.ref ++ [V.ref t]))) := (KpM.of k12).trans (KpM.upd eh12 (by intro _ z; cases z) (.head _))
    have muh : Mu [h] H := fun b m => .inl ⟨_, List.mem_singleton.mp m ▸ eh0⟩
    have hS12 := (hS.same s712).kpm (KpM.upd (L := [h]) eh12 (o := .lst (ts0.map V.ref ++ [V.ref t])) (by intro _ z; cases z) (.head _)) (fun b m => .inl ⟨_, List.mem_singleton.mp m ▸ eh12⟩)
    refine k _ kfin ⟨ts0 ++ [t], by rw [upd_same, List.map_append]; rfl, fun u m => ?_, by rw [List.length_append]; show ts0.length + 1 ≤ n + 1; omega⟩
    rcases List.mem_append.mp m with m | m
    · exact (held0 u m).kpm kfin muh fun b m => List.mem_singleton.mp m ▸ hN
    · rw [List.mem_singleton] at m
      subst m
      exact ⟨pf, kt, pw, ps, kw, ks, cs, lo, hi, ws, ts, (upd_ne (nh a7)).trans et, (upd_ne (nh a1)).trans (s712 _ _ ef), (upd_ne (nh a6)).trans (s12 _ _ ekt), (upd_ne (nh a2)).trans (s712 _ _ ew), (upd_ne (nh a4)).trans (((s10.trans s11).trans s12) _ _ ekw), (upd_ne (nh a3)).trans (s712 _ _ es), (upd_ne (nh a5)).trans ((s11.trans s12) _ _ eks), hS12, lowW, a7, a1, a6, a2, a4, a3, a5⟩
/-! ### _law_filled -/
abbrev n_filled : List Str := ["_law_watch", "_law_own", "_law_first", "_law_names_here", "_law_k", "_law_letter_here"]
theorem sc_filled : FnScope ["_law_watch", "_law_own", "_law_first", "_law_names_here", "_law_k", "_law_letter_here"] ["_law_watch", "_law_own", "_law_first", "_law_names_here"] (defScope s_filled) := ⟨rfl, rfl, rfl, by decide +kernel, rfl, by decide +kernel, by decide +kernel⟩
theorem ok_filled (T : Txt K mg a) (TB_is_name : GxR.TabB base mg a.k_tab_is_name a.P_tab_is_name) : FnOk P w K mg base CX0 5 a.f_filled a.d_filled ["_law_watch", "_law_own", "_law_first", "_law_names_here"] (spLFilled K a.c_Watch a.P_tab_is_name) := by
  refine T.filled.F.ok sc_filled (fun vs H Q E h => ?_) (fun cdv A outer s H vs Q E hr h => ?_)
  · obtain ⟨w0, q, pn, N, o, f, ls0, nms, rfl, hp0, qN, wN, st0, en0, nN, n42, nok, hP0, k⟩ := h
    rfl
  · obtain ⟨w0, q, pn, N, o, f, ls0, nms, rfl, hp0, qN, wN, st0, en0, nN, n42, nok, hP0, k⟩ := h
    have hu := hu_of hr
    refine ⟨_, (pss_cons (ps_for PassesOwn.never rfl (pi_range1 rfl T.b_range (pa_cons (pe_ix (ixL K) (pe_lst (pa_cons pe_int (pa_cons (pe_op op_add pe_int (pe_op (op_modc (c := 4) (by decide)) (pe_op (op_divc (c := 5) (by decide) (by decide)) (pv 2) pe_int) pe_int)) (pa_cons (pe_op op_add pe_int (pe_op (op_modc (c := 3) (by decide)) (pe_op (op_divc (c := 5) (by decide) (by decide)) (pv 2) pe_int) pe_int)) (pa_cons pe_int (pa_cons pe_int pa_nil)))))) (pe_op (op_modc (c := 5) (by decide)) (pv 2) pe_int) (fun _ _ => rfl)) pa_nil)) (pg_name (i := 4) sc_filled.nd rfl (Or.inl rfl)) (pss_cons (ps_set (i := 5) sc_filled.nd rfl (Or.inl rfl) (pe_cl (ok_letter T) T.letter (hr.mono (by decide)) (pa_cons (pe_op op_add (pv 2) (pv 4)) (pa_cons (pv 3) (pa_cons pe_int pa_nil)))))
      (pss_cons (ps_if (pt_cmpR op_eq (pe_op (op_modc (c := 5) (by decide)) (pv 2) pe_int) pe_int (nomark _)) (pss_one (ps_set (i := 5) sc_filled.nd rfl (Or.inl rfl) (pe_tup (pa_cons (pe_ix (ixL K) (pv 3) (pv 4) (fun _ _ => rfl)) (pa_cons (pe_ix (ixT K) (pv 5) pe_int (fun _ _ => rfl)) (pa_cons (pe_ix (ixT K) (pv 5) pe_int (fun _ _ => rfl)) (pa_cons (pe_ix (ixT K) (pv 5) pe_int (fun _ _ => rfl)) (pa_cons (pe_ix (ixT K) (pv 5) pe_int (fun _ _ => rfl)) pa_nil)))))))) pss_nil)
      (pss_one (ps_if (pt_not (pt_val (pe_cl (ok_put T TB_is_name) T.put (hr.mono (by decide)) (pa_cons (pv 0) (pa_cons (pv 1) (pa_cons (pv 5) pa_nil)))))) (pss_one (ps_ret pe_bl)) pss_nil)))))
      (pss_one (ps_ret pe_bl))), ?_⟩
    refine ⟨_, rfl, _, rfl, rfl, _, rfl, rfl, _, _, rfl, rfl, _, rfl, _, rfl, rfl, _, rfl, rfl, _, _, rfl, rfl, (by show 5 ≤ sizeLine; decide), fun p1 n1 => ?_⟩
    refine ⟨_, rfl, _, rfl, rfl, ?_⟩
    generalize hHa : upd _ p1 _ = Ha
    obtain ⟨sa, ea⟩ := gen_new hHa n1
    clear hHa
    obtain ⟨n, hat, hn0, hn1, hn2⟩ : ∃ n : Int, atI [V.int 0, V.int (197 + f / 5 % 4), V.int (38 + f / 5 % 3), V.int 0, V.int 0] (f % 5) = some (.int n) ∧ 0 ≤ n ∧ n ≤ 200 ∧ (f % 5 = 2 → n ≤ 40) := by
      have h : f % 5 = 0 ∨ f % 5 = 1 ∨ f % 5 = 2 ∨ f % 5 = 3 ∨ f % 5 = 4 := by omega
      rcases h with h | h | h | h | h <;> rw [h]
      · exact ⟨0, atI_nat (j := 0) rfl, by omega, by omega, fun _ => by omega⟩
      · exact ⟨197 + f / 5 % 4, atI_nat (j := 1) rfl, by omega, by omega, fun z => by omega⟩
      · exact ⟨38 + f / 5 % 3, atI_nat (j := 2) rfl, by omega, by omega, fun _ => by omega⟩
      · exact ⟨0, atI_nat (j := 3) rfl, by omega, by omega, fun z => by omega⟩
      · exact ⟨0, atI_nat (j := 4) rfl, by omega, by omega, fun z => by omega⟩
    refine ⟨p1, _, _, _, rfl, rfl, SqL.of ea, hat, ?_⟩
    have hpa := hp0.kp (Kp.of sa)
    refine ⟨n, rfl, by omega, by omega, for_range (lo := 0) (n := n.toNat) (fun i σ H' => KpM [w0, q] Ha H' ∧ (∃ ls, PairAt K a.c_Watch N H' w0 q o ls) ∧ ∃ v4 v5 : Option V, σ = [some (.ref w0), some (.ref q), some (.int f), some (.ref pn), v4, v5])
      ⟨KpM.same (Same.refl _), ⟨ls0, hpa⟩, none, none, rfl⟩ ?_ ?_⟩
    · rintro i σ H1 hi ⟨k1, ⟨ls, hp⟩, v4, v5, rfl⟩
      have wqN : ∀ b ∈ [w0, q], b ∈ N := fun b m => by
        simp only [List.mem_cons, List.not_mem_nil, or_false] at m
        rcases m with rfl | rfl
        · exact wN
        · exact qN
      have k01 := (KpM.same sa (L := [w0, q])).trans k1
      have en := k01.at en0 fun m => nN (wqN _ m)
      have st := st0.kpm k01
      refine ⟨_, rfl, _, rfl, _, _, rfl, rfl, _, rfl, ?_⟩
      refine ⟨_, _, pn, nms, rfl, SqL.of en, by decide, by rw [n42]; decide, fun x t H2 hx hnum s2 et => ?_⟩
      dsimp only [gName]
      refine seq_cut (fun σ' H' => ∃ (x : Let) (t : Addr) (v : Option V), LtrOk x ∧ Same H2 H' ∧ SqT K H' t x.vals ∧ σ' = [some (.ref w0), some (.ref q), some (.int f), some (.ref pn), v, some (.ref t)]) (fun M hM => ?_) ?_
      · refine ⟨_, rfl, _, rfl, rfl, rfl, _, rfl, ?_⟩
        refine ite_eq (fun z => ?_) (fun z => ?_)
        · have := hn2 z
          obtain ⟨nm, hnm, hatn⟩ := txs_at (ls := nms) (i := 0 + (i : Int)) (by omega) (by rw [n42]; omega)
          have en2 := s2 _ _ en
          refine ⟨_, rfl, _, rfl, _, _, _, _, rfl, rfl, SqL.of en2, hatn, ?_⟩
          refine ⟨_, rfl, _, _, _, _, rfl, rfl, SqT.of et, atI_nat (j := 1) rfl, _, rfl, _, _, _, _, rfl, rfl, SqT.of et, atI_nat (j := 2) rfl, _, rfl, _, _, _, _, rfl, rfl, SqT.of et, atI_nat (j := 3) rfl, _, rfl, _, _, _, _, rfl, rfl, SqT.of et, atI_nat (j := 4) rfl, (by show 5 ≤ sizeLine; decide), fun t2 nt2 => ?_⟩
          exact hM _ _ ⟨⟨nm, x.s, x.b, x.lo, x.hi⟩, t2, _, LtrOk.of (nok _ hnm) hnum, same_new nt2, SqT.of upd_same, rfl⟩
        · exact hM _ _ ⟨x, t, _, LtrOk.of (nok _ hx) hnum, Same.refl _, SqT.of et, rfl⟩
      rintro σ' H3 ⟨y, u, v, hy, s3, hT, rfl⟩
      have s13 := s2.trans s3
      have hp3 := hp.kp (Kp.of s13)
      refine ⟨_, rfl, _, rfl, _, rfl, w0, q, u, N, o, ls, y, rfl, hp3, qN, st.kpm (KpM.same s13 (L := [])), hT, hy, (k01.trans (KpM.same s13)).tb _ hP0, fun H4 ls4 k4 hp4 => ?_⟩
      refine ⟨_, rfl, ?_⟩
      refine iteF ?_
      exact ⟨(k1.trans (KpM.same s13)).trans k4, ⟨ls4, hp4⟩, _, _, rfl⟩
    · rintro σ H1 ⟨k1, ⟨ls, hp⟩, v4, v5, rfl⟩
      exact k H1 ls ((KpM.same sa).trans k1) hp
/-! ### _law_deed -/
abbrev n_deed : List Str := ["_law_watch", "_law_own", "_law_off_here", "_law_cell", "_law_names_here", "_law_held", "_law_way", "_law_letter_here", "_law_wrong"]
theorem sc_deed : FnScope ["_law_watch", "_law_own", "_law_off_here", "_law_cell", "_law_names_here", "_law_held", "_law_way", "_law_letter_here", "_law_wrong"] ["_law_watch", "_law_own", "_law_off_here", "_law_cell", "_law_names_here", "_law_held"] (defScope s_deed) := ⟨rfl, rfl, rfl, by decide +kernel, rfl, by decide +kernel, by decide +kernel⟩
theorem ok_deed (T : Txt K mg a) (TB_is_name : GxR.TabB base mg a.k_tab_is_name a.P_tab_is_name) (TB_meets : GxR.TabB base mg a.k_tab_meets a.P_tab_meets) : FnOk P w K mg base CX0 7 a.f_deed a.d_deed ["_law_watch", "_law_own", "_law_off_here", "_law_cell", "_law_names_here", "_law_held"] (spLDeed K a.c_Watch a.P_tab_is_name a.P_tab_meets) := by
  refine T.deed.F.ok sc_deed (fun vs H Q E h => ?_) (fun cdv A outer s H vs Q E hr h => ?_)
  · obtain ⟨w0, q, pn, h, N, o, c, ls, nms, n, rfl, hp, hh, hn, hN, qN, wN, nhw, nhq, st, en, nN, n42, nok, ok, hP, hP2, k⟩ := h
    rfl
  · obtain ⟨w0, q, pn, h, N, o, c, ls, nms, n, rfl, hp, hh, hn, hN, qN, wN, nhw, nhq, st, en, nN, n42, nok, ok, hP, hP2, k⟩ := h
    have hu := hu_of hr
    refine ⟨_, (pss_cons (ps_set (i := 6) sc_deed.nd rfl (Or.inl rfl) (pe_op (op_modc (c := 8) (by decide)) (pe_cl (ok_mix T) T.mix (hr.mono (by decide)) (pa_cons (pv 3) (pa_cons pe_int pa_nil))) pe_int))
      (pss_cons (ps_set (i := 7) sc_deed.nd rfl (Or.inl rfl) (pe_cl (ok_letter T) T.letter (hr.mono (by decide)) (pa_cons (pv 3) (pa_cons (pv 4) (pa_cons (pe_ix (ixL K) (pe_lst (pa_cons pe_int (pa_cons pe_int pa_nil))) (pe_op (op_modc (c := 2) (by decide)) (pe_cl (ok_mix T) T.mix (hr.mono (by decide)) (pa_cons (pv 3) (pa_cons pe_int pa_nil))) pe_int) (fun _ _ => rfl)) pa_nil)))))
      (pss_cons (ps_if (pt_cmpR op_lt (pv 6) pe_int (nomark _)) (pss_one (ps_ret (pe_cl (ok_put T TB_is_name) T.put (hr.mono (by decide)) (pa_cons (pv 0) (pa_cons (pv 1) (pa_cons (pv 7) pa_nil)))))) pss_nil)
      (pss_cons (ps_if (pt_cmpR op_eq (pv 6) pe_int (nomark _)) (pss_cons (ps_set (i := 8) sc_deed.nd rfl (Or.inl rfl) (pe_lst (pa_cons (pe_tup (pa_cons pe_str (pa_cons pe_int (pa_cons pe_int (pa_cons pe_int (pa_cons pe_int pa_nil)))))) (pa_cons (pe_tup (pa_cons pe_str (pa_cons pe_int (pa_cons pe_int (pa_cons pe_int (pa_cons pe_int pa_nil)))))) (pa_cons (pe_tup (pa_cons pe_str (pa_cons pe_int (pa_cons pe_int (pa_cons pe_int (pa_cons pe_int pa_nil)))))) (pa_cons (pe_tup (pa_cons pe_str (pa_cons pe_int (pa_cons pe_int (pa_cons pe_int (pa_cons pe_int pa_nil)))))) pa_nil))))))
      (pss_one (ps_ret (pe_cl (ok_put T TB_is_name) T.put (hr.mono (by decide)) (pa_cons (pv 0) (pa_cons (pv 1) (pa_cons (pe_ix (ixL K) (pv 8) (pe_op (op_modc (c := 4) (by decide)) (pe_cl (ok_mix T) T.mix (hr.mono (by decide)) (pa_cons (pv 3) (pa_cons pe_int pa_nil))) pe_int) (fun _ _ => rfl)) pa_nil))))))) pss_nil)
      (pss_cons (ps_if (pt_cmpR op_eq (pv 6) pe_int (nomark _)) (pss_one (ps_ret (pe_cl (ok_drop T) T.drop (hr.mono (by decide)) (pa_cons (pv 0) (pa_cons (pv 1) (pa_cons (pe_ix (ixT K) (pv 7) pe_int (fun _ _ => rfl)) pa_nil)))))) pss_nil)
      (pss_one (ps_ret (pe_cl (ok_ask T TB_meets) T.ask (hr.mono (by decide)) (pa_cons (pv 0) (pa_cons (pv 1) (pa_cons (pv 2) (pa_cons (pv 3) (pa_cons (pv 5) pa_nil))))))))))))), ?_⟩
    refine ⟨_, rfl, _, _, rfl, fun r r0 r1 => ?_⟩
    refine ⟨_, rfl, rfl, ?_⟩
    dsimp only [gName]
    generalize r % 8 = way
    refine ⟨_, rfl, _, rfl, (by show 2 ≤ sizeLine; decide), fun p1 n1 => ?_⟩
    generalize hH1 : upd _ p1 _ = H1
    obtain ⟨s1, e1⟩ := gen_new hH1 n1
    clear hH1
    refine ⟨_, rfl, _, _, rfl, fun b b0 b1 => ?_⟩
    refine ⟨_, rfl, rfl, ?_⟩
    refine ix_int (fun j => 1 ≤ j ∧ j ≤ 42) (SqL.of e1) (Int.emod_nonneg _ (by decide)) (Int.emod_lt_of_pos _ (by decide)) (allc ⟨_, rfl, by decide⟩ (all1 ⟨_, rfl, by decide⟩)) fun m hm => ?_
    refine ⟨_, _, pn, nms, rfl, SqL.of (s1 _ _ en), hm.1, by omega, fun x t H2 hx hnum s2' et => ?_⟩
    dsimp only [gName]
    have s2 := s1.trans s2'
    have mem : ∀ b ∈ [w0, q], b ∈ [w0, q, h] := fun b m => by
      simp only [List.mem_cons, List.not_mem_nil, or_false] at m ⊢
      rcases m with m | m
      · exact .inl m
      · exact .inr (.inl m)
    have memN : ∀ b ∈ [w0, q], b ∈ N := fun b m => by
      simp only [List.mem_cons, List.not_mem_nil, or_false] at m
      rcases m with rfl | rfl
      · exact wN
      · exact qN
    have hnot : h ∉ [w0, q] := fun m => by
      simp only [List.mem_cons, List.not_mem_nil, or_false] at m
      exact m.elim nhw nhq
    have hhs : ∀ {H' : Hp}, Same H H' → HeldAt K N H' h n := fun s => hh.kpm (KpM.same s (L := [])) (fun _ m => nomatch m) (fun m => nomatch m) (fun _ m => nomatch m)
    have fin : ∀ (H3 H4 : Hp) (ls4 : List Let), Same H H3 → KpM [w0, q] H3 H4 → PairAt K a.c_Watch N H4 w0 q o ls4 → Q (.bl true) H4 := fun H3 H4 ls4 s3 k4 hp4 =>
      k H4 ls4 ((KpM.same s3).trans (k4.sub mem)) hp4 (((hhs s3).kpm k4 (hp.kp (.of s3)).mu hnot memN).up (Nat.le_succ _))
    have st' : ∀ {H' : Hp}, Same H H' → Stands N H' := fun s => st.kpm (KpM.same s (L := []))
    refine ⟨_, rfl, _, _, rfl, rfl, _, rfl, ?_⟩
    refine ite_dec (fun _ => ?_) (fun _ => ?_)
    · exact ⟨_, rfl, _, rfl, _, rfl, w0, q, t, N, o, ls, x, rfl, hp.kp (.of s2), qN, st' s2, SqT.of et, LtrOk.of (nok _ hx) hnum, tab_same s2 hP, fun H3 ls3 k3 hp3 => fin H2 H3 ls3 s2 k3 hp3⟩
    refine ⟨_, rfl, rfl, _, rfl, ?_⟩
    refine ite_eq (fun _ => ?_) (fun _ => ?_)
    · refine ⟨(by show 5 ≤ sizeLine; decide), fun p3 n3 => ?_⟩
      generalize hH3 : upd _ p3 _ = H3
      obtain ⟨s3, e3⟩ := gen_new hH3 n3
      clear hH3
      refine ⟨(by show 5 ≤ sizeLine; decide), fun p4 n4 => ?_⟩
      generalize hH4 : upd _ p4 _ = H4
      obtain ⟨s4, e4⟩ := gen_new hH4 n4
      clear hH4
      refine ⟨(by show 5 ≤ sizeLine; decide), fun p5 n5 => ?_⟩
      generalize hH5 : upd _ p5 _ = H5
      obtain ⟨s5, e5⟩ := gen_new hH5 n5
      clear hH5
      refine ⟨(by show 5 ≤ sizeLine; decide), fun p6 n6 => ?_⟩
      generalize hH6 : upd _ p6 _ = H6
      obtain ⟨s6, e6⟩ := gen_new hH6 n6
      clear hH6
      refine ⟨(by show 4 ≤ sizeLine; decide), fun p7 n7 => ?_⟩
      dsimp only [gName]
      generalize hH7 : upd _ p7 _ = H7
      obtain ⟨s7, e7⟩ := gen_new hH7 n7
      clear hH7
      have s27 := (((s3.trans s4).trans s5).trans s6).trans s7
      have s07 := s2.trans s27
      refine ⟨_, rfl, _, rfl, _, rfl, _, rfl, _, _, rfl, fun e e0 e1 => ?_⟩
      refine ⟨_, rfl, rfl, ?_⟩
      refine ix_any (fun v => ∃ (u : Addr) (y : Let), v = .ref u ∧ SqT K H7 u y.vals ∧ LtrOk y) (SqL.of e7) (Int.emod_nonneg _ (by decide)) (Int.emod_lt_of_pos _ (by decide))
        (allc ⟨p3, ⟨[], 1, 2, 3, 4⟩, rfl, SqT.of ((((s4.trans s5).trans s6).trans s7) _ _ e3), .inr (.inl rfl), by decide, by decide, by decide, by decide⟩
        (allc ⟨p4, ⟨[81], 9, 2, 3, 4⟩, rfl, SqT.of (((s5.trans s6).trans s7) _ _ e4), .inr (.inr rfl), by decide, by decide, by decide, by decide⟩
        (allc ⟨p5, ⟨[113], 9, 2, 3, 4⟩, rfl, SqT.of ((s6.trans s7) _ _ e5), .inl (by decide), by decide, by decide, by decide, by decide⟩
        (all1 ⟨p6, ⟨[113], 1, 2, 5, 4⟩, rfl, SqT.of (s7 _ _ e6), .inl (by decide), by decide, by decide, by decide, by decide⟩)))) fun v hv => ?_
      obtain ⟨u, y, rfl, hT, hy⟩ := hv
      exact ⟨w0, q, u, N, o, ls, y, rfl, hp.kp (.of s07), qN, st' s07, hT, hy, tab_same s07 hP, fun H8 ls8 k8 hp8 => fin H7 H8 ls8 s07 k8 hp8⟩
    refine ⟨_, rfl, rfl, _, rfl, ?_⟩
    refine ite_eq (fun _ => ?_) (fun _ => ?_)
    · exact ⟨_, rfl, _, rfl, _, rfl, _, _, _, _, rfl, rfl, SqT.of et, atI_nat (j := 0) rfl, w0, q, N, o, ls, x.nm, rfl, hp.kp (.of s2), qN, st' s2, fun H3 ls3 k3 hp3 => fin H2 H3 ls3 s2 k3 hp3⟩
    refine ⟨_, rfl, _, rfl, _, rfl, _, rfl, _, rfl, w0, q, h, N, o, c, ls, n, rfl, hp.kp (.of s2), hhs s2, hn, hN, st' s2, ok, tab_same s2 hP2, fun H3 k3 hh3 => ?_⟩
    have mh : ∀ b ∈ [h], b ∈ [w0, q, h] := fun b m => .tail _ (.tail _ m)
    have muh : Mu [h] H2 := (hhs s2).mu
    refine k H3 ls ((KpM.same s2).trans (k3.sub mh)) ((hp.kp (.of s2)).kpm k3 muh (fun m => nhw (List.mem_singleton.mp m).symm) (fun m => nhq (List.mem_singleton.mp m).symm) fun b m => List.mem_singleton.mp m ▸ hN) hh3
/-! ### _law_forty -/
abbrev n_forty : List Str := ["_law_watch", "_law_own", "_law_first", "_law_names_here", "_law_turn", "_law_name", "_law_letter_here"]
theorem sc_forty : FnScope ["_law_watch", "_law_own", "_law_first", "_law_names_here", "_law_turn", "_law_name", "_law_letter_here"] ["_law_watch", "_law_own", "_law_first", "_law_names_here"] (defScope s_forty) := ⟨rfl, rfl, rfl, by decide +kernel, rfl, by decide +kernel, by decide +kernel⟩
theorem ok_forty (T : Txt K mg a) (TB_is_name : GxR.TabB base mg a.k_tab_is_name a.P_tab_is_name) : FnOk P w K mg base CX0 5 a.f_forty a.d_forty ["_law_watch", "_law_own", "_law_first", "_law_names_here"] (spLFilled K a.c_Watch a.P_tab_is_name) := by
  refine T.forty.F.ok sc_forty (fun vs H Q E h => ?_) (fun cdv A outer s H vs Q E hr h => ?_)
  · obtain ⟨w0, q, pn, N, o, f, ls0, nms, rfl, hp0, qN, wN, st0, en0, nN, n42, nok, hP0, k⟩ := h
    rfl
  · obtain ⟨w0, q, pn, N, o, f, ls0, nms, rfl, hp0, qN, wN, st0, en0, nN, n42, nok, hP0, k⟩ := h
    have hu := hu_of hr
    refine ⟨_, (pss_cons (ps_set (i := 4) sc_forty.nd rfl (Or.inl rfl) (pe_ix (ixL K) (pv 3) (pe_op (op_modc (c := 40) (by decide)) (pe_op (op_divc (c := 5) (by decide) (by decide)) (pv 2) pe_int) pe_int) (fun _ _ => rfl)))
      (pss_cons (ps_for PassesOwn.never rfl (piL K (pe_op op_cat (pe_slice (slL K) (pv 3) po_none (po_some pe_int)) (pe_lst (pa_cons (pe_ix (ixL K) (pv 3) pe_int (fun _ _ => rfl)) (pa_cons pe_str (pa_cons (pe_ix (ixL K) (pv 3) pe_int (fun _ _ => rfl)) (pa_cons (pv 4) (pa_cons (pe_ix (ixL K) (pv 3) pe_int (fun _ _ => rfl)) pa_nil)))))))) (pg_name (i := 5) sc_forty.nd rfl (Or.inl rfl)) (pss_cons (ps_set (i := 6) sc_forty.nd rfl (Or.inl rfl) (pe_cl (ok_letter T) T.letter (hr.mono (by decide)) (pa_cons (pv 2) (pa_cons (pe_lst (pa_cons (pv 5) pa_nil)) (pa_cons pe_int pa_nil)))))
      (pss_one (ps_if (pt_cmpR op_eq (pv 5) pe_str (nomark _)) (pss_one (ps_if (pt_not (pt_val (pe_cl (ok_drop T) T.drop (hr.mono (by decide)) (pa_cons (pv 0) (pa_cons (pv 1) (pa_cons (pv 4) pa_nil)))))) (pss_one (ps_ret pe_bl)) pss_nil)) (pss_one (ps_if (pt_not (pt_val (pe_cl (ok_put T TB_is_name) T.put (hr.mono (by decide)) (pa_cons (pv 0) (pa_cons (pv 1) (pa_cons (pv 6) pa_nil)))))) (pss_one (ps_ret pe_bl)) pss_nil))))))
      (pss_one (ps_ret (pe_and (pe_cl (ok_drop T) T.drop (hr.mono (by decide)) (pa_cons (pv 0) (pa_cons (pv 1) (pa_cons (pe_ix (ixL K) (pv 3) pe_int (fun _ _ => rfl)) pa_nil)))) (pe_one (pe_cl (ok_put T TB_is_name) T.put (hr.mono (by decide)) (pa_cons (pv 0) (pa_cons (pv 1) (pa_cons (pe_cl (ok_letter T) T.letter (hr.mono (by decide)) (pa_cons (pv 2) (pa_cons (pe_lst (pa_cons (pv 4) pa_nil)) (pa_cons pe_int pa_nil)))) pa_nil)))))))))), ?_⟩
    have at_ : ∀ j : Int, 0 ≤ j → j < 42 → ∃ z, nmOk z ∧ atI (txs nms) j = some (.str (mkS z)) := fun j h0 h1 => by
      obtain ⟨z, hz, e⟩ := txs_at (ls := nms) h0 (by rw [n42]; exact h1)
      exact ⟨z, nok z hz, e⟩
    have m0 := Int.emod_nonneg (f / 5) (by decide : (40 : Int) ≠ 0)
    have m1 := Int.emod_lt_of_pos (f / 5) (by decide : (0 : Int) < 40)
    obtain ⟨zt, okt, att⟩ := at_ (f / 5 % 40) m0 (by omega)
    obtain ⟨z0, ok0, at0⟩ := at_ 40 (by decide) (by decide)
    obtain ⟨z1, ok1, at1⟩ := at_ 41 (by decide) (by decide)
    refine ⟨_, rfl, _, rfl, _, rfl, rfl, _, rfl, rfl, _, _, _, _, rfl, rfl, SqL.of en0, att, ?_⟩
    dsimp only [gName]
    -- the names
    refine ⟨_, rfl, _, rfl, pn, _, rfl, SqL.of en0, fun p1 n1 => ?_⟩
    generalize hH1 : upd _ p1 _ = H1
    obtain ⟨s1, e1⟩ := gen_new hH1 n1
    clear hH1
    have en1 := s1 _ _ en0
    refine ⟨_, rfl, _, _, _, _, rfl, rfl, SqL.of en1, at0, _, rfl, _, _, _, _, rfl, rfl, SqL.of en1, at0, _, rfl, _, rfl, _, _, _, _, rfl, rfl, SqL.of en1, at1, (by show 5 ≤ sizeLine; decide), fun p2 n2 => ?_⟩
    generalize hH2 : upd _ p2 _ = H2
    obtain ⟨s2, e2⟩ := gen_new hH2 n2
    clear hH2
    have clen := cutV_length (txs nms) none (some 40)
    have tlen : (txs nms).length = 42 := by unfold txs; rw [List.length_map]; exact n42
    refine ⟨_, _, _, _, rfl, rfl, s2 _ _ e1, e2, line_of2 (by show _ + 5 ≤ 200000; omega), fun p3 n3 => ?_⟩
    generalize hH3 : upd _ p3 _ = H3
    obtain ⟨s3, e3⟩ := gen_new hH3 n3
    clear hH3
    have s03 := (s1.trans s2).trans s3
    have items : ∀ v ∈ cutV (txs nms) none (some 40) ++ [.str (mkS z0), .str "", .str (mkS z0), .str (mkS zt), .str (mkS z1)], ∃ z, v = .str (mkS z) ∧ (nmOk z ∨ z = []) := fun v m => by
      rcases List.mem_append.mp m with m | m
      · have m' : v ∈ txs nms := List.mem_of_mem_drop (List.mem_of_mem_take m)
        obtain ⟨z, hz, rfl⟩ := List.mem_map.mp m'
        exact ⟨z, rfl, .inl (nok z hz)⟩
      · simp only [List.mem_cons, List.not_mem_nil, or_false] at m
        rcases m with rfl | rfl | rfl | rfl | rfl
        · exact ⟨_, rfl, .inl ok0⟩
        · exact ⟨[], rfl, .inr rfl⟩
        · exact ⟨_, rfl, .inl ok0⟩
        · exact ⟨_, rfl, .inl okt⟩
        · exact ⟨_, rfl, .inl ok1⟩
    have p3N : p3 ∉ N := (st0.kpm (KpM.same (s1.trans s2) (L := []))).new n3
    have wqN : ∀ b ∈ [w0, q], b ∈ N := fun b m => by
      simp only [List.mem_cons, List.not_mem_nil, or_false] at m
      rcases m with rfl | rfl
      · exact wN
      · exact qN
    generalize cutV (txs nms) none (some 40) ++ [.str (mkS z0), .str "", .str (mkS z0), .str (mkS zt), .str (mkS z1)] = its at items e3
    refine ⟨p3, rfl, ⟨_, SqL.of e3⟩, for_list (K := K) (a := p3) (xs := its) (fun i σ H' => KpM [w0, q] H3 H' ∧ (∃ ls, PairAt K a.c_Watch N H' w0 q o ls) ∧ ∃ v5 v6 : Option V, σ = [some (.ref w0), some (.ref q), some (.int f), some (.ref pn), some (.str (mkS zt)), v5, v6])
      ⟨KpM.same (Same.refl _), ⟨ls0, hp0.kp (.of s03)⟩, none, none, rfl⟩ (fun i σ H' _ hh => SqL.of (hh.1.at e3 fun m => p3N (wqN _ m))) ?_ ?_⟩
    · rintro i v σ H4 hi ⟨k4, ⟨ls, hp⟩, v5, v6, rfl⟩
      obtain ⟨z, rfl, hz⟩ := items v (List.mem_of_getElem? hi)
      have k04 := (KpM.same s03 (L := [w0, q])).trans k4
      refine ⟨_, rfl, _, rfl, (by show 1 ≤ sizeLine; decide), fun p5 n5 => ?_⟩
      refine ⟨_, _, p5, [z], rfl, SqL.of upd_same, by decide, (by show (1 : Int) ≤ ((1 : Nat) : Int); decide), fun x t H6 hx hnum s6' et => ?_⟩
      dsimp only [gName]
      have s6 := (same_new n5 (o := .lst [.str (mkS z)])).trans s6'
      have hp6 := hp.kp (.of s6)
      have st6 := st0.kpm (k04.trans (KpM.same s6))
      refine ⟨_, rfl, rfl, _, rfl, ?_⟩
      by_cases hne : z = []
      · refine ite_yes (by rw [hne]; exact decide_eq_true rfl) ?_
        refine ⟨_, rfl, _, rfl, _, rfl, w0, q, N, o, ls, zt, rfl, hp6, qN, st6, fun H7 ls7 k7 hp7 => ?_⟩
        refine ⟨_, rfl, ?_⟩
        refine iteF ?_
        exact ⟨(k4.trans (KpM.same s6)).trans k7, ⟨ls7, hp7⟩, _, _, rfl⟩
      · refine ite_no (decide_eq_false fun y => hne (mkS_inj (V.str.inj y))) ?_
        have xn : nmOk x.nm := (List.mem_singleton.mp hx) ▸ hz.resolve_right hne
        refine ⟨_, rfl, _, rfl, _, rfl, w0, q, t, N, o, ls, x, rfl, hp6, qN, st6, SqT.of et, LtrOk.of xn hnum, (k04.trans (KpM.same s6)).tb _ hP0, fun H7 ls7 k7 hp7 => ?_⟩
        refine ⟨_, rfl, ?_⟩
        refine iteF ?_
        exact ⟨(k4.trans (KpM.same s6)).trans k7, ⟨ls7, hp7⟩, _, _, rfl⟩
    · rintro σ H4 ⟨k4, ⟨ls, hp⟩, v5, v6, rfl⟩
      have k04 := (KpM.same s03 (L := [w0, q])).trans k4
      have en4 := k04.at en0 fun m => nN (wqN _ m)
      refine ⟨_, rfl, _, rfl, _, rfl, _, _, _, _, rfl, rfl, SqL.of en4, at0, w0, q, N, o, ls, z0, rfl, hp, qN, st0.kpm k04, fun H5 ls5 k5 hp5 => ?_⟩
      have k05 := k04.trans k5
      refine ⟨_, rfl, ?_⟩
      refine iteT ?_
      refine ⟨_, rfl, _, rfl, _, rfl, _, rfl, (by show 1 ≤ sizeLine; decide), fun p6 n6 => ?_⟩
      refine ⟨_, _, p6, [zt], rfl, SqL.of upd_same, by decide, (by show (1 : Int) ≤ ((1 : Nat) : Int); decide), fun x t H7 hx hnum s7' et => ?_⟩
      have s7 := (same_new n6 (o := .lst [.str (mkS zt)])).trans s7'
      have k07 := k05.trans (KpM.same s7)
      exact ⟨w0, q, t, N, o, ls5, x, rfl, hp5.kp (.of s7), qN, st0.kpm k07, SqT.of et, LtrOk.of ((List.mem_singleton.mp hx) ▸ okt) hnum, k07.tb _ hP0, fun H8 ls8 k8 hp8 => k H8 ls8 (k07.trans k8) hp8⟩
/-! ### Watch.__init__ -/
abbrev n_W_init : List Str := ["self", "off"]
theorem sc_W_init : FnScope ["self", "off"] ["self", "off"] (defScope s_W_init) := ⟨rfl, rfl, rfl, by decide +kernel, rfl, by decide +kernel, by decide +kernel⟩
theorem ok_W_init (T : Txt K mg a) : FnOk P w K mg base (L2.CX P w) 2 a.f_W_init a.d_W_init ["self", "off"] (spInit a.c_Watch a.c_BadOff) := by
  refine T.F_W_init.okX sc_W_init (fun vs H Q E h => ?_) (fun cdv A outer s H vs Q E hr h => ?_)
  · obtain ⟨x, dx, o, rfl, hx, eO, q⟩ := h
    rfl
  · obtain ⟨x, dx, o, rfl, hx, eO, q⟩ := h
    have hu := hu_of hr
    refine ⟨_, (pss_cons (ps_expr (pe_clX (ok_check_off T) T.check_off (hr.mono (by decide)) (takes_of rfl rfl rfl rfl) (pa_cons (pv 1) pa_nil)))
      (pss_cons (ps_fld (pv 0) (pv 1) rfl)
      (pss_one (ps_fld (pv 0) (pe_lst pa_nil) rfl)))), ?_⟩
    refine ⟨_, rfl, o, rfl, fun ok => ?_, fun bad => eO bad⟩
    refine ⟨_, rfl, _, rfl, x, _, dx, _, rfl, hx, T.cl_Watch, T.na_off, (by show 0 < 1000; decide), ?_⟩
    refine ⟨(by show 0 ≤ sizeLine; decide), fun p np => ?_⟩
    have px : p ≠ x := fun z => by rw [z, upd_same] at np; cases np
    have np0 : H p = none := by rwa [upd_ne px] at np
    refine ⟨_, rfl, x, _, dx, _, rfl, (upd_ne px.symm).trans upd_same, T.cl_Watch, T.na_letters, (by show 1 < 1000; decide), ?_⟩
    refine q ok p _ np0 px upd_same ((upd_ne px).trans upd_same) (fun b u ne e => ?_) fun b n1 n2 => ?_
    · rw [upd_ne ne, upd_ne (ne_of_none e np0), upd_ne ne]
      exact e
    · rw [upd_ne n1, upd_ne n2, upd_ne n1]
/-! ### _law_no_watch -/
abbrev n_no_watch : List Str := ["_law_off_here", "_law_e"]
theorem sc_no_watch : FnScope ["_law_off_here", "_law_e"] ["_law_off_here"] (defScope s_no_watch) := ⟨rfl, rfl, rfl, by decide +kernel, rfl, by decide +kernel, by decide +kernel⟩
theorem ok_no_watch (T : Txt K mg a) : FnOk P w K mg base CX0 4 a.f_no_watch a.d_no_watch ["_law_off_here"] (spNoWatch) := by
  refine T.no_watch.F.ok sc_no_watch (fun vs H Q E h => ?_) (fun cdv A outer s H vs Q E hr h => ?_)
  · obtain ⟨o, rfl, bad, q⟩ := h
    rfl
  · obtain ⟨o, rfl, bad, q⟩ := h
    have hu := hu_of hr
    refine ⟨_, (pss_cons (ps_try_as (ts := fun x cls d => tRet (tOp rEq (tCallE (spKind K a.cs a.c_StretchError) x cls d (tCons (tVar 1) tNil)) (tC (.str "off")))) (i := 1) rfl rfl sc_no_watch.nd rfl rfl ⟨rfl, by decide, .inl T.StretchError.g⟩ takes0 (fun W pn xe tk _ => (pss_one (ps_expr (pe_mkT T.mk_Watch (ok_W_init T) (hr.mono (by decide)) T.g_Watch T.b_W_init tk (pa_cons (pv 0) pa_nil))))) (fun a oe cls d pn hz hf => (pss_one (ps_ret (pe_cmpR op_eq (pe_callE (p := (a, oe)) (ok_kind T) (rm_suite hr (by decide)) List.mem_cons_self hz hf T.kind.g T.kind.F.kp T.kind.b (pa_cons (pv 1) pa_nil)) pe_str (nomark _))))))
      (pss_one (ps_ret pe_bl))), ?_⟩
    refine ⟨_, rfl, fun x dx nx ndx ne => ⟨x, dx, o, rfl, upd_same, fun _ => ?_, fun ok => absurd ok bad⟩⟩
    refine ⟨true, T.kd_BadOff.em, fun _ x nx => ?_, fun z => nomatch z⟩
    refine ⟨_, rfl, rfl, _, 2, rfl, rfl, T.kd_BadOff, fun H' s' => ?_⟩
    refine ⟨rfl, ?_⟩
    have e : decide (V.str (kword 2) = V.str (Str.ofString "off")) = true := decide_eq_true rfl
    rw [e]
    exact q H'
/-! ### law -/
abbrev n_law : List Str := ["_law_script", "_law_first", "_law_names_here", "_law_offs", "_law_watches", "_law_owns", "_law_held", "_law_cell", "_law_at", "_law_k", "_law_found", "_law_kept"]
theorem sc_law : FnScope ["_law_script", "_law_first", "_law_names_here", "_law_offs", "_law_watches", "_law_owns", "_law_held", "_law_cell", "_law_at", "_law_k", "_law_found", "_law_kept"] ["_law_script"] (defScope s_law) := ⟨rfl, rfl, rfl, by decide +kernel, rfl, by decide +kernel, by decide +kernel⟩
theorem ok_law (T : Txt K mg a) (TB_is_name : GxR.TabB base mg a.k_tab_is_name a.P_tab_is_name) (TB_meets : GxR.TabB base mg a.k_tab_meets a.P_tab_meets) : FnOk P w K mg base CX0 8 a.f_law a.d_law ["_law_script"] (spLawT2 K a.P_tab_is_name a.P_tab_meets) := by
  refine T.law.F.ok sc_law (fun vs H Q E h => ?_) (fun cdv A outer s H vs Q E hr h => ?_)
  · obtain ⟨l, ns, rfl, hS, hlen, hP, hP2, k⟩ := h
    rfl
  · obtain ⟨l, ns, rfl, hS, hlen, hP, hP2, k⟩ := h
    have hu := hu_of hr
    refine ⟨_, (pss_cons (ps_set (i := 1) sc_law.nd rfl (Or.inl rfl) (pe_cl (ok_cell_at T) T.cell_at (hr.mono (by decide)) (pa_cons (pv 0) (pa_cons pe_int pa_nil))))
      (pss_cons (ps_set (i := 2) sc_law.nd rfl (Or.inl rfl) (pe_cl (ok_names T) T.names (hr.mono (by decide)) (pa_cons (pe_cl (ok_cell_at T) T.cell_at (hr.mono (by decide)) (pa_cons (pv 0) (pa_cons pe_int pa_nil))) pa_nil)))
      (pss_cons (ps_set (i := 3) sc_law.nd rfl (Or.inl rfl) (pe_lst (pa_cons (pe_cl (ok_off T) T.off (hr.mono (by decide)) (pa_cons (pe_op (op_divc (c := 7) (by decide) (by decide)) (pv 1) pe_int) pa_nil)) (pa_cons (pe_cl (ok_off T) T.off (hr.mono (by decide)) (pa_cons (pe_cl (ok_cell_at T) T.cell_at (hr.mono (by decide)) (pa_cons (pv 0) (pa_cons pe_int pa_nil))) pa_nil)) pa_nil))))
      (pss_cons (ps_set (i := 4) sc_law.nd rfl (Or.inl rfl) (pe_lst (pa_cons (pe_make T.mk_Watch (ok_W_init T) (hr.mono (by decide)) rfl T.g_Watch T.b_W_init .nil passL (pa_cons (pe_ix (ixL K) (pv 3) pe_int (fun _ _ => rfl)) pa_nil)) (pa_cons (pe_make T.mk_Watch (ok_W_init T) (hr.mono (by decide)) rfl T.g_Watch T.b_W_init .nil passL (pa_cons (pe_ix (ixL K) (pv 3) pe_int (fun _ _ => rfl)) pa_nil)) pa_nil))))
      (pss_cons (ps_set (i := 5) sc_law.nd rfl (Or.inl rfl) (pe_lst (pa_cons (pe_lst pa_nil) (pa_cons (pe_lst pa_nil) pa_nil))))
      (pss_cons (ps_set (i := 6) sc_law.nd rfl (Or.inl rfl) (pe_lst pa_nil))
      (pss_cons (ps_if (pt_not (pt_val (pe_cl (ok_filled T TB_is_name) T.filled (hr.mono (by decide)) (pa_cons (pe_ix (ixL K) (pv 4) pe_int (fun _ _ => rfl)) (pa_cons (pe_ix (ixL K) (pv 5) pe_int (fun _ _ => rfl)) (pa_cons (pv 1) (pa_cons (pv 2) pa_nil))))))) (pss_one (ps_ret pe_bl)) pss_nil)
      (pss_cons (ps_for PassesOwn.never rfl (piL K (pe_slice (slL K) (pv 0) (po_some pe_int) (po_some (pe_op op_add pe_int (pe_ix (ixL K) (pe_lst (pa_cons pe_int (pa_cons pe_int pa_nil))) (pe_callTy call_int1 (by rfl) T.b_int (by decide +kernel) (pa_cons (pe_cmpR (inK K) (pe_op (op_modc (c := 5) (by decide)) (pv 1) pe_int) (pe_tup (pa_cons pe_int (pa_cons pe_int pa_nil))) rfl) pa_nil)) (fun _ _ => rfl)))))) (pg_name (i := 7) sc_law.nd rfl (Or.inl rfl)) (pss_cons (ps_set (i := 8) sc_law.nd rfl (Or.inl rfl) (pe_op (op_modc (c := 2) (by decide)) (pe_op (op_modc (c := 3) (by decide)) (pe_cl (ok_mix T) T.mix (hr.mono (by decide)) (pa_cons (pv 7) (pa_cons pe_int pa_nil))) pe_int) pe_int))
      (pss_cons (ps_if (pt_not (pt_val (pe_cl (ok_deed T TB_is_name TB_meets) T.deed (hr.mono (by decide)) (pa_cons (pe_ix (ixL K) (pv 4) (pv 8) (fun _ _ => rfl)) (pa_cons (pe_ix (ixL K) (pv 5) (pv 8) (fun _ _ => rfl)) (pa_cons (pe_ix (ixL K) (pv 3) (pv 8) (fun _ _ => rfl)) (pa_cons (pv 7) (pa_cons (pv 2) (pa_cons (pv 6) pa_nil))))))))) (pss_one (ps_ret pe_bl)) pss_nil)
      (pss_one (ps_for PassesOwn.never rfl (pi_range1 rfl T.b_range (pa_cons pe_int pa_nil)) (pg_name (i := 9) sc_law.nd rfl (Or.inl rfl)) (pss_one (ps_if (PW.pt (pw_or (pt_cmpR (neDK K hr.units) (pe_fld (pe_ix (ixL K) (pv 4) (pv 9) (fun _ _ => rfl)) rfl) (pe_ix (ixL K) (pv 5) (pv 9) (fun _ _ => rfl)) (nomark _)) (pw_or1 (pt_cmpR op_ne (pe_fld (pe_ix (ixL K) (pv 4) (pv 9) (fun _ _ => rfl)) rfl) (pe_ix (ixL K) (pv 3) (pv 9) (fun _ _ => rfl)) (nomark _))))) (pss_one (ps_ret pe_bl)) pss_nil)))))))
      (pss_cons (ps_if (PW.pt (pw_and (pt_cmpR op_eq (pe_op (op_modc (c := 5) (by decide)) (pv 1) pe_int) pe_int (nomark _)) (pw_and1 (pt_not (pt_val (pe_cl (ok_forty T TB_is_name) T.forty (hr.mono (by decide)) (pa_cons (pe_ix (ixL K) (pv 4) pe_int (fun _ _ => rfl)) (pa_cons (pe_ix (ixL K) (pv 5) pe_int (fun _ _ => rfl)) (pa_cons (pv 1) (pa_cons (pv 2) pa_nil)))))))))) (pss_one (ps_ret pe_bl)) pss_nil)
      (pss_cons (ps_for PassesOwn.never rfl (piL K (pv 6)) (pg_tup (by rfl) (pgs_cons (pg_name (i := 10) sc_law.nd rfl (Or.inl rfl)) (pgs_cons (pg_name (i := 11) sc_law.nd rfl (Or.inl rfl)) pgs_nil))) (pss_one (ps_if (pt_cmpR (neDK K hr.units) (pv 10) (pv 11) (nomark _)) (pss_one (ps_ret pe_bl)) pss_nil)))
      (pss_one (ps_ret (pe_cl (ok_no_watch T) T.no_watch (hr.mono (by decide)) (pa_cons (pe_ix (ixL K) (pe_lst (pa_cons pe_negc (pa_cons pe_int (pa_cons (pe_op op_sub pe_negc (pe_cl (ok_big T) T.big (hr.mono (by decide)) (pa_cons (pv 1) (pa_cons pe_int pa_nil)))) (pa_cons (pe_op op_add pe_int (pe_cl (ok_big T) T.big (hr.mono (by decide)) (pa_cons (pv 1) (pa_cons pe_int pa_nil)))) pa_nil))))) (pe_op (op_modc (c := 4) (by decide)) (pv 1) pe_int) (fun _ _ => rfl)) pa_nil)))))))))))))), ?_⟩
    refine ⟨_, rfl, _, _, 0, rfl, hS, ?_⟩
    dsimp only [gName]
    generalize ns.getD 0 0 = f
    refine ⟨_, rfl, _, _, 1, rfl, hS, _, rfl, fun pn nms H1 n42 hnd hnok s1 epn => ?_⟩
    dsimp only [gName]
    refine ⟨_, rfl, _, rfl, rfl, _, rfl, fun o0 H2 a0 a1 s2 => ?_⟩
    refine ⟨_, rfl, _, _, 1, rfl, (s1.trans s2).seq hS, _, rfl, fun o1 H3 b0 b1 s3 => ?_⟩
    refine ⟨(by show 2 ≤ sizeLine; decide), fun pF nF => ?_⟩
    dsimp only [gName]
    generalize hH4 : upd _ pF _ = H4
    obtain ⟨s4, eF⟩ := gen_new hH4 nF
    clear hH4
    have ok0 : okOff o0 := ⟨a0, a1⟩
    have ok1 : okOff o1 := ⟨b0, b1⟩
    have s04 := ((s1.trans s2).trans s3).trans s4
    have epn4 := ((s2.trans s3).trans s4) _ _ epn
    -- the watches
    refine ⟨_, rfl, _, _, _, _, rfl, rfl, SqL.of eF, atI_nat (j := 0) rfl, fun w0 dx0 nw0 ndx0 ne0 => ⟨w0, dx0, o0, rfl, upd_same, fun bad => absurd ok0 bad, fun _ p0 H5 np0 pw0 ew0 ep0 kp0 _ => ⟨rfl, ?_⟩⟩⟩
    have s5 : Same H4 H5 := fun b u e => kp0 b u (ne_of_none e nw0) ((upd_ne (ne_of_none e nw0)).trans ((upd_ne (ne_of_none e ndx0)).trans e))
    have fp0 : H4 p0 = none := by
      cases e : H4 p0 with
      | none => rfl
      | some u =>
        rw [upd_ne pw0, upd_ne (ne_of_none e ndx0), e] at np0
        cases np0
    clear kp0 np0
    refine ⟨_, rfl, _, _, _, _, rfl, rfl, SqL.of (s5 _ _ eF), atI_nat (j := 1) rfl, fun w1 dx1 nw1 ndx1 ne1 => ⟨w1, dx1, o1, rfl, upd_same, fun bad => absurd ok1 bad, fun _ p1 H6 np1 pw1 ew1 ep1 kp1 _ => ⟨rfl, ?_⟩⟩⟩
    have s6 : Same H5 H6 := fun b u e => kp1 b u (ne_of_none e nw1) ((upd_ne (ne_of_none e nw1)).trans ((upd_ne (ne_of_none e ndx1)).trans e))
    have fp1 : H5 p1 = none := by
      cases e : H5 p1 with
      | none => rfl
      | some u =>
        rw [upd_ne pw1, upd_ne (ne_of_none e ndx1), e] at np1
        cases np1
    clear kp1 np1
    have w01 : w1 ≠ w0 := fun z => by rw [z, ew0] at nw1; cases nw1
    refine ⟨(by show 2 ≤ sizeLine; decide), fun pW nW => ?_⟩
    dsimp only [gName]
    generalize hH7 : upd _ pW _ = H7
    obtain ⟨s7, eW⟩ := gen_new hH7 nW
    clear hH7
    -- the plain lists
    refine ⟨(by show 0 ≤ sizeLine; decide), fun q0 nq0 => ?_⟩
    generalize hH8 : upd _ q0 _ = H8
    obtain ⟨s8, eq0⟩ := gen_new hH8 nq0
    clear hH8
    refine ⟨(by show 0 ≤ sizeLine; decide), fun q1 nq1 => ?_⟩
    generalize hH9 : upd _ q1 _ = H9
    obtain ⟨s9, eq1⟩ := gen_new hH9 nq1
    clear hH9
    refine ⟨(by show 2 ≤ sizeLine; decide), fun pO nO => ?_⟩
    dsimp only [gName]
    generalize hH10 : upd _ pO _ = H10
    obtain ⟨s10, eO⟩ := gen_new hH10 nO
    clear hH10
    refine ⟨(by show 0 ≤ sizeLine; decide), fun hd nhd => ?_⟩
    dsimp only [gName]
    generalize hH11 : upd _ hd _ = H11
    obtain ⟨s11, ehd⟩ := gen_new hH11 nhd
    clear hH11
    have s711 := ((s8.trans s9).trans s10).trans s11
    have fF := ((s5.trans s6).trans s7) _ _ eF
    have fn := ((s5.trans s6).trans s7) _ _ epn4
    have fw0 := (s6.trans s7) _ _ ew0
    have fp := (s6.trans s7) _ _ ep0
    have fw1 := s7 _ _ ew1
    have fp' := s7 _ _ ep1
    have gF := s711 _ _ fF
    have gn := s711 _ _ fn
    have gW := s711 _ _ eW
    have gw0 := s711 _ _ fw0
    have gw1 := s711 _ _ fw1
    have gp0 := s711 _ _ fp
    have gp1 := s711 _ _ fp'
    have gq0 := ((s9.trans s10).trans s11) _ _ eq0
    have gq1 := (s10.trans s11) _ _ eq1
    have gO := s11 _ _ eO
    have q10 : q1 ≠ q0 := fun z => by rw [z, eq0] at nq1; cases nq1
    have hdq0 : hd ≠ q0 := fun z => by rw [z, (s9.trans s10) _ _ eq0] at nhd; cases nhd
    have hdq1 : hd ≠ q1 := fun z => by rw [z, s10 _ _ eq1] at nhd; cases nhd
    have hdw0 : hd ≠ w0 := kinds_ne ehd gw0
    have hdw1 : hd ≠ w1 := kinds_ne ehd gw1
    have q0w0 : q0 ≠ w0 := kinds_ne gq0 gw0
    have q0w1 : q0 ≠ w1 := kinds_ne gq0 gw1
    have q1w0 : q1 ≠ w0 := kinds_ne gq1 gw0
    have q1w1 : q1 ≠ w1 := kinds_ne gq1 gw1
    have nin7 : ∀ (b : Addr) (xs : List V), H7 b = some (.lst xs) → b ∉ [w0, w1, q0, q1, hd] := fun b xs e =>
      nin5 (kinds_ne (s711 _ _ e) gw0) (kinds_ne (s711 _ _ e) gw1) (ne_of_none e nq0) (ne_of_none (s8 _ _ e) nq1) (ne_of_none (((s8.trans s9).trans s10) _ _ e) nhd)
    have iF := nin7 _ _ fF
    have iW := nin7 _ _ eW
    have in_ := nin7 _ _ fn
    have ip0 := nin7 _ _ fp
    have ip1 := nin7 _ _ fp'
    have iO : pO ∉ [w0, w1, q0, q1, hd] := nin5 (kinds_ne gO gw0) (kinds_ne gO gw1) (fun z => by rw [z, s9 _ _ eq0] at nO; cases nO) (fun z => by rw [z, eq1] at nO; cases nO) (ne_of_none eO nhd)
    have st11 : Stands [w0, w1, q0, q1, hd] H11 := fun b m e => by
      simp only [List.mem_cons, List.not_mem_nil, or_false] at m
      rcases m with rfl | rfl | rfl | rfl | rfl
      · rw [gw0] at e; cases e
      · rw [gw1] at e; cases e
      · rw [gq0] at e; cases e
      · rw [gq1] at e; cases e
      · rw [ehd] at e; cases e
    have s011 := s04.trans (((s5.trans s6).trans s7).trans s711)
    have g0 : PairAt K a.c_Watch [w0, w1, q0, q1, hd] H11 w0 q0 o0 [] := ⟨p0, [], ⟨dx0, [], gw0, gp0, LetsAt.nil⟩, gq0, LetsAt.nil, (fun _ m => nomatch m), Nat.zero_le _, ip0⟩
    have g1 : PairAt K a.c_Watch [w0, w1, q0, q1, hd] H11 w1 q1 o1 [] := ⟨p1, [], ⟨dx1, [], gw1, gp1, LetsAt.nil⟩, gq1, LetsAt.nil, (fun _ m => nomatch m), Nat.zero_le _, ip1⟩
    have hh0 : HeldAt K [w0, w1, q0, q1, hd] H11 hd 0 := ⟨[], ehd, (fun _ m => nomatch m), Nat.le_refl _⟩
    have tb11 := tab_same s011 hP
    have tb11' := tab_same s011 hP2
    have s07 := s04.trans ((s5.trans s6).trans s7)
    have mu11 : Mu [w0, w1, q0, q1, hd] H11 := fun b m => by
      simp only [List.mem_cons, List.not_mem_nil, or_false] at m
      rcases m with rfl | rfl | rfl | rfl | rfl
      · exact .inr ⟨_, _, _, gw0⟩
      · exact .inr ⟨_, _, _, gw1⟩
      · exact .inl ⟨_, gq0⟩
      · exact .inl ⟨_, gq1⟩
      · exact .inl ⟨_, ehd⟩
    have hSk : ∀ H', KpM [w0, w1, q0, q1, hd] H11 H' → SqL K H' l (ns.map V.int) := fun H' kk => by
      rcases hS with (e | ⟨ob, e⟩) | e
      · exact .inl (.inl (kk.at (s011 _ _ e) (nin7 _ _ (s07 _ _ e))))
      · exact .inl (.inr ⟨ob, kk.at (s011 _ _ e) (mu11.tup (s011 _ _ e) (fun _ z => nomatch z) (fun _ _ _ z => nomatch z))⟩)
      · exact .inr e
    clear s07 mu11
    clear s711 fF fn fw0 fp fw1 fp' gp0 gp1 nin7 ip0 ip1 hP hP2 hS
    clear s1 s2 s3 s4 s04 s5 s6 s7 s8 s9 s10 s11 s011 eF eW eO eq0 eq1 epn epn4 ew0 ew1 ep0 ep1 nq0 nq1 nO nhd nW nF fp0 fp1 nw0 nw1 ndx0 ndx1 ehd
    have m1 : w0 ∈ [w0, w1, q0, q1, hd] := .head _
    have m2 : w1 ∈ [w0, w1, q0, q1, hd] := .tail _ (.head _)
    have m3 : q0 ∈ [w0, w1, q0, q1, hd] := .tail _ (.tail _ (.head _))
    have m4 : q1 ∈ [w0, w1, q0, q1, hd] := .tail _ (.tail _ (.tail _ (.head _)))
    have m5 : hd ∈ [w0, w1, q0, q1, hd] := .tail _ (.tail _ (.tail _ (.tail _ (.head _))))
    have u1 : ∀ b ∈ [w0, q0], b ∈ [w0, w1, q0, q1, hd] := fun b m => by
      simp only [List.mem_cons, List.not_mem_nil, or_false] at m
      rcases m with rfl | rfl
      · exact m1
      · exact m3
    have u3 : ∀ b ∈ [w0, q0, hd], b ∈ [w0, w1, q0, q1, hd] := fun b m => by
      simp only [List.mem_cons, List.not_mem_nil, or_false] at m
      rcases m with rfl | rfl | rfl
      · exact m1
      · exact m3
      · exact m5
    have u4 : ∀ b ∈ [w1, q1, hd], b ∈ [w0, w1, q0, q1, hd] := fun b m => by
      simp only [List.mem_cons, List.not_mem_nil, or_false] at m
      rcases m with rfl | rfl | rfl
      · exact m2
      · exact m4
      · exact m5
    generalize [w0, w1, q0, q1, hd] = N at iF iW in_ iO st11 g0 g1 hh0 hSk m1 m2 m3 m4 m5 u1 u3 u4
    -- filled
    refine ⟨_, rfl, _, _, _, _, rfl, rfl, SqL.of gW, atI_nat (j := 0) rfl, _, rfl, _, _, _, _, rfl, rfl, SqL.of gO, atI_nat (j := 0) rfl, _, rfl, _, rfl, w0, q0, pn, N, o0, f, [], nms, rfl, g0, m3, m1, st11, gn, in_, n42, hnok, tb11, fun H12 ls0 k12 h0 => ?_⟩
    refine ⟨_, rfl, ?_⟩
    refine iteF ?_
    have h1 := g1.kpm k12 g0.mu (nin2 w01 (Ne.symm q0w1)) (nin2 q1w0 q10) u1
    have hh := hh0.kpm k12 g0.mu (nin2 hdw0 hdq0) u1
    have kN := k12.sub u1
    have st12 := st11.kpm kN
    have tb12 := kN.tb _ tb11
    have tb12' := kN.tb _ tb11'
    have eF := kN.at gF iF
    have en := kN.at gn in_
    have eW := kN.at gW iW
    have eO := kN.at gO iO
    have hS12 := hSk _ kN
    clear hSk gF gn gW gO g0 g1 hh0 st11 tb11 tb11' k12 kN
    -- the cells
    refine ⟨_, rfl, _, rfl, (by show 2 ≤ sizeLine; decide), fun p1 n1 => ?_⟩
    generalize hH13 : upd _ p1 _ = H13
    obtain ⟨s13, e1⟩ := gen_new hH13 n1
    clear hH13
    refine ⟨_, rfl, _, rfl, rfl, (by show 2 ≤ sizeLine; decide), fun p2 n2 => ?_⟩
    generalize hH14 : upd _ p2 _ = H14
    obtain ⟨s14, e2⟩ := gen_new hH14 n2
    clear hH14
    refine ⟨p2, _, rfl, .inr (SqT.of e2), rfl, rfl, .inr ⟨_, rfl, ?_⟩⟩
    refine ⟨p1, _, _, _, rfl, rfl, SqL.of (s14 _ _ e1), (at_flag 30 10 _).choose_spec, _, _, rfl, rfl, _, rfl, l, _, rfl, (s13.trans s14).seq hS12, fun D nD => ?_⟩
    generalize hH15 : upd _ D _ = H15
    obtain ⟨s15, eD⟩ := gen_new hH15 nD
    clear hH15
    have clen := cutV_length (ns.map V.int)
    have cmem : ∀ lo hi, ∀ v ∈ cutV (ns.map V.int) lo hi, ∃ c, v = .int c := fun lo hi v m => by
      obtain ⟨c, _, e⟩ := List.mem_map.mp (List.mem_of_mem_drop (List.mem_of_mem_take m))
      exact ⟨c, e.symm⟩
    obtain ⟨its, eits, ilen, imem⟩ : ∃ its : List V, H15 D = some (.lst its) ∧ its.length ≤ 63 ∧ ∀ v ∈ its, ∃ c, v = .int c := ⟨_, eD, Nat.le_trans (clen _ _) (by rw [List.length_map]; exact hlen), cmem _ _⟩
    clear eD clen cmem
    have iD : D ∉ N := (st12.kpm (KpM.same (s13.trans s14) (L := []))).new nD
    have s12 := (s13.trans s14).trans s15
    have fF := s12 _ _ eF
    have fn := s12 _ _ en
    have fW := s12 _ _ eW
    have fO := s12 _ _ eO
    have st15 := st12.kpm (KpM.same s12 (L := []))
    have tb15 := tab_same s12 tb12
    have tb15' := tab_same s12 tb12'
    refine ⟨D, rfl, ⟨_, SqL.of eits⟩, for_list (K := K) (a := D) (xs := its) (fun i σ H' => KpM N H15 H' ∧ (∃ ls, PairAt K a.c_Watch N H' w0 q0 o0 ls) ∧ (∃ ls, PairAt K a.c_Watch N H' w1 q1 o1 ls) ∧ HeldAt K N H' hd i ∧ ∃ v7 v8 v9 : Option V, σ = [some (.ref l), some (.int f), some (.ref pn), some (.ref pF), some (.ref pW), some (.ref pO), some (.ref hd), v7, v8, v9, none, none])
      ⟨KpM.same (Same.refl _), ⟨_, h0.kp (.of s12)⟩, ⟨_, h1.kp (.of s12)⟩, hh.kpm (KpM.same s12 (L := [])) (fun _ m => nomatch m) (fun m => nomatch m) (fun _ m => nomatch m), none, none, none, rfl⟩ (fun i σ H' _ z => SqL.of (z.1.at eits iD)) ?_ ?_⟩
    · rintro i v σ H1 hi ⟨k1, ⟨ls0, hp0⟩, ⟨ls1, hp1⟩, hh1, v7, v8, v9, rfl⟩
      obtain ⟨c, rfl⟩ := imem v (List.mem_of_getElem? hi)
      have il : i < its.length := (List.getElem?_eq_some_iff.mp hi).1
      have eF1 := k1.at fF iF
      have en1 := k1.at fn in_
      have eW1 := k1.at fW iW
      have eO1 := k1.at fO iO
      have st1 := st15.kpm k1
      have tbA := k1.tb _ tb15
      have tbB := k1.tb _ tb15'
      refine ⟨_, rfl, _, _, rfl, fun r r0 r1 => ?_⟩
      refine ⟨_, rfl, rfl, _, rfl, rfl, ?_⟩
      dsimp only [gName]
      have hat : r % 3 % 2 = 0 ∨ r % 3 % 2 = 1 := by omega
      generalize r % 3 % 2 = at_ at hat ⊢
      refine seq_cut (fun σ' H' => KpM N H15 H' ∧ (∃ ls, PairAt K a.c_Watch N H' w0 q0 o0 ls) ∧ (∃ ls, PairAt K a.c_Watch N H' w1 q1 o1 ls) ∧ HeldAt K N H' hd (i + 1) ∧ ∃ v8 : Option V, σ' = [some (.ref l), some (.int f), some (.ref pn), some (.ref pF), some (.ref pW), some (.ref pO), some (.ref hd), some (.int c), v8, v9, none, none]) (fun M hM => ?_) ?_
      · rcases hat with rfl | rfl
        · refine ⟨_, rfl, _, rfl, _, _, _, _, rfl, rfl, SqL.of eW1, atI_nat (j := 0) rfl, _, rfl, _, rfl, _, _, _, _, rfl, rfl, SqL.of eO1, atI_nat (j := 0) rfl, _, rfl, _, rfl, _, _, _, _, rfl, rfl, SqL.of eF1, atI_nat (j := 0) rfl, _, rfl, _, rfl, _, rfl, w0, q0, pn, hd, N, o0, c, ls0, nms, i, rfl, hp0, hh1, by omega, m5, m3, m1, hdw0, hdq0, st1, en1, in_, n42, hnok, ok0, tbA, tbB, fun H2 lsB k2 hB hhB => ?_⟩
          refine ⟨_, rfl, ?_⟩
          refine iteF ?_
          exact hM _ _ ⟨k1.trans (k2.sub u3), ⟨lsB, hB⟩, ⟨ls1, hp1.kpm k2 (mu3 hp0.mu hh1.mu) (nin3 w01 (Ne.symm q0w1) (Ne.symm hdw1)) (nin3 q1w0 q10 (Ne.symm hdq1)) u3⟩, hhB, _, rfl⟩
        · refine ⟨_, rfl, _, rfl, _, _, _, _, rfl, rfl, SqL.of eW1, atI_nat (j := 1) rfl, _, rfl, _, rfl, _, _, _, _, rfl, rfl, SqL.of eO1, atI_nat (j := 1) rfl, _, rfl, _, rfl, _, _, _, _, rfl, rfl, SqL.of eF1, atI_nat (j := 1) rfl, _, rfl, _, rfl, _, rfl, w1, q1, pn, hd, N, o1, c, ls1, nms, i, rfl, hp1, hh1, by omega, m5, m4, m2, hdw1, hdq1, st1, en1, in_, n42, hnok, ok1, tbA, tbB, fun H2 lsB k2 hB hhB => ?_⟩
          refine ⟨_, rfl, ?_⟩
          refine iteF ?_
          exact hM _ _ ⟨k1.trans (k2.sub u4), ⟨ls0, hp0.kpm k2 (mu3 hp1.mu hh1.mu) (nin3 (Ne.symm w01) (Ne.symm q1w0) (Ne.symm hdw0)) (nin3 q0w1 (Ne.symm q10) (Ne.symm hdq0)) u4⟩, ⟨lsB, hB⟩, hhB, _, rfl⟩
      rintro σ' H2 ⟨k2, ⟨ls0, hp0⟩, ⟨ls1, hp1⟩, hh2, v8, rfl⟩
      have eF2 := k2.at fF iF
      have eW2 := k2.at fW iW
      have eO2 := k2.at fO iO
      refine ⟨2, rfl, by decide, by decide, for_range (lo := 0) (n := 2) (fun j σ H' => H2 = H' ∧ ∃ v9 : Option V, σ = [some (.ref l), some (.int f), some (.ref pn), some (.ref pF), some (.ref pW), some (.ref pO), some (.ref hd), some (.int c), v8, v9, none, none]) ⟨rfl, v9, rfl⟩ ?_ ?_⟩
      · rintro j σ H' hj ⟨rfl, v9, rfl⟩
        have hj2 : j = 0 ∨ j = 1 := by omega
        rcases hj2 with rfl | rfl
        · obtain ⟨p0, bs, ⟨dx, as, gw, gL, gA⟩, gq, gB, gok, gl, gp⟩ := hp0
          have lowL : ∀ x ∈ ls0, low x.nm := fun x m => (gok x m).nm.2.2
          refine ⟨_, rfl, _, rfl, _, _, _, _, rfl, rfl, SqL.of eW2, (atI_nat (j := 0) rfl), w0, _, dx, _, _, rfl, gw, T.cl_Watch, T.na_letters, rfl, _, rfl, _, rfl, _, _, _, _, rfl, rfl, SqL.of eO2, (atI_nat (j := 0) rfl), _, _, gA.dp (SqL.of gL), gB.dp (SqL.of gq), shp_lets lowL, shp_lets lowL, _, rfl, ?_⟩
          refine ite_no (by rw [eqv_self (shp_lets lowL)]; rfl) ?_
          refine ⟨_, rfl, _, rfl, _, _, _, _, rfl, rfl, SqL.of eW2, (atI_nat (j := 0) rfl), w0, _, dx, _, _, rfl, gw, T.cl_Watch, T.na_off, rfl, _, rfl, _, rfl, _, _, _, _, rfl, rfl, SqL.of eF2, (atI_nat (j := 0) rfl), rfl, _, rfl, ?_⟩
          refine ite_no (by rw [decide_eq_true rfl]; rfl) ?_
          exact ⟨rfl, _, rfl⟩
        · obtain ⟨p1, bs, ⟨dx, as, gw, gL, gA⟩, gq, gB, gok, gl, gp⟩ := hp1
          have lowL : ∀ x ∈ ls1, low x.nm := fun x m => (gok x m).nm.2.2
          refine ⟨_, rfl, _, rfl, _, _, _, _, rfl, rfl, SqL.of eW2, (atI_nat (j := 1) rfl), w1, _, dx, _, _, rfl, gw, T.cl_Watch, T.na_letters, rfl, _, rfl, _, rfl, _, _, _, _, rfl, rfl, SqL.of eO2, (atI_nat (j := 1) rfl), _, _, gA.dp (SqL.of gL), gB.dp (SqL.of gq), shp_lets lowL, shp_lets lowL, _, rfl, ?_⟩
          refine ite_no (by rw [eqv_self (shp_lets lowL)]; rfl) ?_
          refine ⟨_, rfl, _, rfl, _, _, _, _, rfl, rfl, SqL.of eW2, (atI_nat (j := 1) rfl), w1, _, dx, _, _, rfl, gw, T.cl_Watch, T.na_off, rfl, _, rfl, _, rfl, _, _, _, _, rfl, rfl, SqL.of eF2, (atI_nat (j := 1) rfl), rfl, _, rfl, ?_⟩
          refine ite_no (by rw [decide_eq_true rfl]; rfl) ?_
          exact ⟨rfl, _, rfl⟩
      · rintro σ H' ⟨rfl, v9, rfl⟩
        exact ⟨k2, ⟨ls0, hp0⟩, ⟨ls1, hp1⟩, hh2, _, _, _, rfl⟩
    rintro σ H1 ⟨k1, ⟨ls0, hp0⟩, _, hh1, v7, v8, v9, rfl⟩
    have en1 := k1.at fn in_
    have eW1 := k1.at fW iW
    have eO1 := k1.at fO iO
    -- the forty
    dsimp only
    refine seq_cut (fun σ' H' => HeldAt K N H' hd its.length ∧ ∃ v7 v8 v9 : Option V, σ' = [some (.ref l), some (.int f), some (.ref pn), some (.ref pF), some (.ref pW), some (.ref pO), some (.ref hd), v7, v8, v9, none, none]) (fun M hM => ?_) ?_
    · refine ⟨_, rfl, _, rfl, rfl, rfl, _, rfl, ?_⟩
      refine ite_eq (fun _ => ?_) (fun _ => ?_)
      · refine ⟨_, rfl, _, _, _, _, rfl, rfl, SqL.of eW1, atI_nat (j := 0) rfl, _, rfl, _, _, _, _, rfl, rfl, SqL.of eO1, atI_nat (j := 0) rfl, _, rfl, _, rfl, w0, q0, pn, N, o0, f, ls0, nms, rfl, hp0, m3, m1, st15.kpm k1, en1, in_, n42, hnok, k1.tb _ tb15, fun H2 lsB k2 hB => ?_⟩
        refine ⟨_, rfl, ?_⟩
        refine iteF ?_
        exact hM _ _ ⟨hh1.kpm k2 hp0.mu (nin2 hdw0 hdq0) u1, _, _, _, rfl⟩
      · exact hM _ _ ⟨hh1, _, _, _, rfl⟩
    rintro σ' H2 ⟨⟨ts, eh, hts, lts⟩, v7, v8, v9, rfl⟩
    -- what was told
    refine ⟨_, rfl, hd, rfl, ⟨_, SqL.of eh⟩, for_list (K := K) (a := hd) (xs := ts.map V.ref) (fun i σ H' => H2 = H' ∧ ∃ v10 v11 : Option V, σ = [some (.ref l), some (.int f), some (.ref pn), some (.ref pF), some (.ref pW), some (.ref pO), some (.ref hd), v7, v8, v9, v10, v11]) ⟨rfl, none, none, rfl⟩ (fun i σ H' _ z => z.1 ▸ SqL.of eh) ?_ ?_⟩
    · rintro i v σ H' hi ⟨rfl, v10, v11, rfl⟩
      obtain ⟨t, ht, rfl⟩ := List.mem_map.mp (List.mem_of_getElem? hi)
      obtain ⟨fa, ka, d, hT, d1, d2, sh⟩ := (hts t ht).ne
      refine ⟨t, _, rfl, hT, rfl, _, _, rfl, _, _, rfl, rfl, ?_⟩
      refine ⟨_, rfl, _, rfl, _, _, d1, d2, sh, sh, _, rfl, ?_⟩
      refine ite_no (by rw [eqv_self sh]; rfl) ?_
      exact ⟨rfl, _, _, rfl⟩
    rintro σ H' ⟨rfl, v10, v11, rfl⟩
    refine ⟨_, rfl, _, _, rfl, fun r H3 r0 r1 s3 => ?_⟩
    refine ⟨_, _, rfl, rfl, ?_⟩
    refine ⟨_, rfl, _, _, rfl, fun r' H4 r2 r3 s4 => ?_⟩
    refine ⟨_, _, rfl, rfl, (by show 4 ≤ sizeLine; decide), fun p np => ?_⟩
    refine ⟨_, rfl, _, rfl, rfl, ?_⟩
    refine ix_int (fun j => ¬ okOff j) SqL.here (Int.emod_nonneg _ (by decide)) (Int.emod_lt_of_pos _ (by decide)) (allc ⟨_, rfl, by unfold okOff; omega⟩ (allc ⟨_, rfl, by unfold okOff; omega⟩ (allc ⟨_, rfl, by unfold okOff; omega⟩ (all1 ⟨_, rfl, by unfold okOff; omega⟩)))) fun j hj => ?_
    exact ⟨j, rfl, hj, k⟩
end
end Ts.k10
end
namespace Ts.k10
open PySem PySem.Spec PyProof.Rows L2 Ts
/-! ### the end -/
theorem fl_mk {K : PySem.W.Frag} {h : Heap} {mg : Str → Option Value} {x : Str} {st : Stmt} {ps : List Str} {f : Addr} {oc kV doc pm cdv ct : Value} {od an : Option Addr} {osl : Array (Option Value)} (X : K.In h) (G : h.Ns mainGlobals mg)
    (n : PySem.W.nsIn K mainGlobals x = some (some (.ref f))) (l : K.lookup f = some ⟨oc, od, .func (PySem.W.fnOf x x (defArgs st) (defBody st) (defScope st) .none kV doc pm an cdv ct), osl⟩) (c : PySem.W.codeIn K cdv x = true) (k : PySem.W.keepIn K (.ref f) = true)
    (b : ∀ us : List Value, us.length = ps.length → bindArgs (PySem.W.fnOf x x (defArgs st) (defBody st) (defScope st) .none kV doc pm an cdv ct) ⟨us, []⟩ = pure (ps.zip us)) :
    Dfn K mg x st ps f (PySem.W.fnOf x x (defArgs st) (defBody st) (defScope st) .none kV doc pm an cdv ct) :=
  ⟨fun_mk l c k, PySem.W.mg_of X G n, .all b⟩
theorem all_mk {l : PySem.W.OpenLaw} {w : World} {K : PySem.W.Frag} {h : Heap} {mg : Str → Option Value} {fa f_checked f_is_name f_in_order f_check_off f_slack f_brought f_gathered f_common f_parts f_tallies f_sure f_most_wrong f_meets f_check_room f_whole f_cell_at f_mix f_big f_off f_w_slack f_w_brought f_kind f_word f_names f_letter f_w_gathered f_many f_lows f_edges f_parts_right f_due f_sure_right f_put_due f_put f_drop f_ask f_filled f_deed f_forty f_no_watch f_law f_W_init f_W_put f_W_drop f_W_told c_StretchError c_BadName c_BadLetter c_BadOff c_TooEarly c_BadCount c_NoAgreement c_TooWide c_TooMany c_NoClock c_NoText c_Watch T_sure T_W_told k_tab_is_name P_tab_is_name k_tab_meets P_tab_meets : Addr} (X : K.In h) (G : h.Ns mainGlobals mg) (hfa : mg "law" = some (.ref fa)) (tabs_is_name : TabOf K mg h "is_name") {j_e_is_name : Value} {j_d_is_name : Option Addr} {j_vs_is_name : Array Value} {j_sl_is_name : Array (Option Value)} (tabs_meets : TabOf K mg h "meets") {j_e_meets : Value} {j_d_meets : Option Addr} {j_vs_meets : Array Value} {j_sl_meets : Array (Option Value)}
    {od_checked an_checked od_is_name an_is_name od_in_order an_in_order od_check_off an_check_off od_slack an_slack od_brought an_brought od_gathered an_gathered od_common an_common od_parts an_parts od_tallies an_tallies od_sure an_sure od_most_wrong an_most_wrong od_meets an_meets od_check_room an_check_room od_whole an_whole od_cell_at an_cell_at od_mix an_mix od_big an_big od_off an_off od_w_slack an_w_slack od_w_brought an_w_brought od_kind an_kind od_word an_word od_names an_names od_letter an_letter od_w_gathered an_w_gathered od_many an_many od_lows an_lows od_edges an_edges od_parts_right an_parts_right od_due an_due od_sure_right an_sure_right od_put_due an_put_due od_put an_put od_drop an_drop od_ask an_ask od_filled an_filled od_deed an_deed od_forty an_forty od_no_watch an_no_watch od_law an_law od_W_init an_W_init od_W_put an_W_put od_W_drop an_W_drop od_W_told an_W_told : Option Addr} {sl_checked sl_is_name sl_in_order sl_check_off sl_slack sl_brought sl_gathered sl_common sl_parts sl_tallies sl_sure sl_most_wrong sl_meets sl_check_room sl_whole sl_cell_at sl_mix sl_big sl_off sl_w_slack sl_w_brought sl_kind sl_word sl_names sl_letter sl_w_gathered sl_many sl_lows sl_edges sl_parts_right sl_due sl_sure_right sl_put_due sl_put sl_drop sl_ask sl_filled sl_deed sl_forty sl_no_watch sl_law sl_W_init sl_W_put sl_W_drop sl_W_told : Array (Option Value)} {oc_checked kV_checked dc_checked pm_checked cd_checked ct_checked oc_is_name kV_is_name dc_is_name pm_is_name cd_is_name ct_is_name oc_in_order kV_in_order dc_in_order pm_in_order cd_in_order ct_in_order oc_check_off kV_check_off dc_check_off pm_check_off cd_check_off ct_check_off oc_slack kV_slack dc_slack pm_slack cd_slack ct_slack oc_brought kV_brought dc_brought pm_brought cd_brought ct_brought oc_gathered kV_gathered dc_gathered pm_gathered cd_gathered ct_gathered oc_common kV_common dc_common pm_common cd_common ct_common oc_parts kV_parts dc_parts pm_parts cd_parts ct_parts oc_tallies kV_tallies dc_tallies pm_tallies cd_tallies ct_tallies oc_sure kV_sure dc_sure pm_sure cd_sure ct_sure oc_most_wrong kV_most_wrong dc_most_wrong pm_most_wrong cd_most_wrong ct_most_wrong oc_meets kV_meets dc_meets pm_meets cd_meets ct_meets oc_check_room kV_check_room dc_check_room pm_check_room cd_check_room ct_check_room oc_whole kV_whole dc_whole pm_whole cd_whole ct_whole oc_cell_at kV_cell_at dc_cell_at pm_cell_at cd_cell_at ct_cell_at oc_mix kV_mix dc_mix pm_mix cd_mix ct_mix oc_big kV_big dc_big pm_big cd_big ct_big oc_off kV_off dc_off pm_off cd_off ct_off oc_w_slack kV_w_slack dc_w_slack pm_w_slack cd_w_slack ct_w_slack oc_w_brought kV_w_brought dc_w_brought pm_w_brought cd_w_brought ct_w_brought oc_kind kV_kind dc_kind pm_kind cd_kind ct_kind oc_word kV_word dc_word pm_word cd_word ct_word oc_names kV_names dc_names pm_names cd_names ct_names oc_letter kV_letter dc_letter pm_letter cd_letter ct_letter oc_w_gathered kV_w_gathered dc_w_gathered pm_w_gathered cd_w_gathered ct_w_gathered oc_many kV_many dc_many pm_many cd_many ct_many oc_lows kV_lows dc_lows pm_lows cd_lows ct_lows oc_edges kV_edges dc_edges pm_edges cd_edges ct_edges oc_parts_right kV_parts_right dc_parts_right pm_parts_right cd_parts_right ct_parts_right oc_due kV_due dc_due pm_due cd_due ct_due oc_sure_right kV_sure_right dc_sure_right pm_sure_right cd_sure_right ct_sure_right oc_put_due kV_put_due dc_put_due pm_put_due cd_put_due ct_put_due oc_put kV_put dc_put pm_put cd_put ct_put oc_drop kV_drop dc_drop pm_drop cd_drop ct_drop oc_ask kV_ask dc_ask pm_ask cd_ask ct_ask oc_filled kV_filled dc_filled pm_filled cd_filled ct_filled oc_deed kV_deed dc_deed pm_deed cd_deed ct_deed oc_forty kV_forty dc_forty pm_forty cd_forty ct_forty oc_no_watch kV_no_watch dc_no_watch pm_no_watch cd_no_watch ct_no_watch oc_law kV_law dc_law pm_law cd_law ct_law oc_W_init kV_W_init dc_W_init pm_W_init cd_W_init ct_W_init oc_W_put kV_W_put dc_W_put pm_W_put cd_W_put ct_W_put oc_W_drop kV_W_drop dc_W_drop pm_W_drop cd_W_drop ct_W_drop oc_W_told kV_W_told dc_W_told pm_W_told cd_W_told ct_W_told : Value}
    {dc_sure_ : Value} {dd_sure : Option Addr} {dn_sure : Nat} {dl_sure : Array (Option Value)}
    {dc_W_told_ : Value} {dd_W_told : Option Addr} {dn_W_told : Nat} {dl_W_told : Array (Option Value)}
    {t_LONGEST_NAME t_GREATEST_NUMBER t_GREATEST_OFF t_MOST_LETTERS t_MOST_NAMES : Tok}
    (a_checked : PySem.W.nsIn K mainGlobals "checked" = some (some (.ref f_checked))) (l_checked : K.lookup f_checked = some ⟨oc_checked, od_checked, .func (PySem.W.fnOf "checked" "checked" (defArgs s_checked) (defBody s_checked) (defScope s_checked) .none kV_checked dc_checked pm_checked an_checked cd_checked ct_checked), sl_checked⟩) (k_checked : PySem.W.codeIn K cd_checked "checked" = true) (e_checked : PySem.W.keepIn K (.ref f_checked) = true)
    (a_is_name : PySem.W.nsIn K mainGlobals "is_name" = some (some (.ref f_is_name))) (l_is_name : K.lookup f_is_name = some ⟨oc_is_name, od_is_name, .func (PySem.W.fnOf "is_name" "is_name" (defArgs s_is_name) (defBody s_is_name) (defScope s_is_name) .none kV_is_name dc_is_name pm_is_name an_is_name cd_is_name ct_is_name), sl_is_name⟩) (k_is_name : PySem.W.codeIn K cd_is_name "is_name" = true) (e_is_name : PySem.W.keepIn K (.ref f_is_name) = true)
    (a_in_order : PySem.W.nsIn K mainGlobals "in_order" = some (some (.ref f_in_order))) (l_in_order : K.lookup f_in_order = some ⟨oc_in_order, od_in_order, .func (PySem.W.fnOf "in_order" "in_order" (defArgs s_in_order) (defBody s_in_order) (defScope s_in_order) .none kV_in_order dc_in_order pm_in_order an_in_order cd_in_order ct_in_order), sl_in_order⟩) (k_in_order : PySem.W.codeIn K cd_in_order "in_order" = true) (e_in_order : PySem.W.keepIn K (.ref f_in_order) = true)
    (a_check_off : PySem.W.nsIn K mainGlobals "check_off" = some (some (.ref f_check_off))) (l_check_off : K.lookup f_check_off = some ⟨oc_check_off, od_check_off, .func (PySem.W.fnOf "check_off" "check_off" (defArgs s_check_off) (defBody s_check_off) (defScope s_check_off) .none kV_check_off dc_check_off pm_check_off an_check_off cd_check_off ct_check_off), sl_check_off⟩) (k_check_off : PySem.W.codeIn K cd_check_off "check_off" = true) (e_check_off : PySem.W.keepIn K (.ref f_check_off) = true)
    (a_slack : PySem.W.nsIn K mainGlobals "slack" = some (some (.ref f_slack))) (l_slack : K.lookup f_slack = some ⟨oc_slack, od_slack, .func (PySem.W.fnOf "slack" "slack" (defArgs s_slack) (defBody s_slack) (defScope s_slack) .none kV_slack dc_slack pm_slack an_slack cd_slack ct_slack), sl_slack⟩) (k_slack : PySem.W.codeIn K cd_slack "slack" = true) (e_slack : PySem.W.keepIn K (.ref f_slack) = true)
    (a_brought : PySem.W.nsIn K mainGlobals "brought" = some (some (.ref f_brought))) (l_brought : K.lookup f_brought = some ⟨oc_brought, od_brought, .func (PySem.W.fnOf "brought" "brought" (defArgs s_brought) (defBody s_brought) (defScope s_brought) .none kV_brought dc_brought pm_brought an_brought cd_brought ct_brought), sl_brought⟩) (k_brought : PySem.W.codeIn K cd_brought "brought" = true) (e_brought : PySem.W.keepIn K (.ref f_brought) = true)
    (a_gathered : PySem.W.nsIn K mainGlobals "gathered" = some (some (.ref f_gathered))) (l_gathered : K.lookup f_gathered = some ⟨oc_gathered, od_gathered, .func (PySem.W.fnOf "gathered" "gathered" (defArgs s_gathered) (defBody s_gathered) (defScope s_gathered) .none kV_gathered dc_gathered pm_gathered an_gathered cd_gathered ct_gathered), sl_gathered⟩) (k_gathered : PySem.W.codeIn K cd_gathered "gathered" = true) (e_gathered : PySem.W.keepIn K (.ref f_gathered) = true)
    (a_common : PySem.W.nsIn K mainGlobals "common" = some (some (.ref f_common))) (l_common : K.lookup f_common = some ⟨oc_common, od_common, .func (PySem.W.fnOf "common" "common" (defArgs s_common) (defBody s_common) (defScope s_common) .none kV_common dc_common pm_common an_common cd_common ct_common), sl_common⟩) (k_common : PySem.W.codeIn K cd_common "common" = true) (e_common : PySem.W.keepIn K (.ref f_common) = true)
    (a_parts : PySem.W.nsIn K mainGlobals "parts" = some (some (.ref f_parts))) (l_parts : K.lookup f_parts = some ⟨oc_parts, od_parts, .func (PySem.W.fnOf "parts" "parts" (defArgs s_parts) (defBody s_parts) (defScope s_parts) .none kV_parts dc_parts pm_parts an_parts cd_parts ct_parts), sl_parts⟩) (k_parts : PySem.W.codeIn K cd_parts "parts" = true) (e_parts : PySem.W.keepIn K (.ref f_parts) = true)
    (a_tallies : PySem.W.nsIn K mainGlobals "tallies" = some (some (.ref f_tallies))) (l_tallies : K.lookup f_tallies = some ⟨oc_tallies, od_tallies, .func (PySem.W.fnOf "tallies" "tallies" (defArgs s_tallies) (defBody s_tallies) (defScope s_tallies) .none kV_tallies dc_tallies pm_tallies an_tallies cd_tallies ct_tallies), sl_tallies⟩) (k_tallies : PySem.W.codeIn K cd_tallies "tallies" = true) (e_tallies : PySem.W.keepIn K (.ref f_tallies) = true)
    (a_sure : PySem.W.nsIn K mainGlobals "sure" = some (some (.ref f_sure))) (l_sure : K.lookup f_sure = some ⟨oc_sure, od_sure, .func (PySem.W.fnOf "sure" "sure" (defArgs s_sure) (defBody s_sure) (defScope s_sure) (.ref T_sure) kV_sure dc_sure pm_sure an_sure cd_sure ct_sure), sl_sure⟩) (k_sure : PySem.W.codeIn K cd_sure "sure" = true) (e_sure : PySem.W.keepIn K (.ref f_sure) = true)
    (d_sure : K.lookup T_sure = some ⟨dc_sure_, dd_sure, .seq #[.none] dn_sure, dl_sure⟩)
    (a_most_wrong : PySem.W.nsIn K mainGlobals "most_wrong" = some (some (.ref f_most_wrong))) (l_most_wrong : K.lookup f_most_wrong = some ⟨oc_most_wrong, od_most_wrong, .func (PySem.W.fnOf "most_wrong" "most_wrong" (defArgs s_most_wrong) (defBody s_most_wrong) (defScope s_most_wrong) .none kV_most_wrong dc_most_wrong pm_most_wrong an_most_wrong cd_most_wrong ct_most_wrong), sl_most_wrong⟩) (k_most_wrong : PySem.W.codeIn K cd_most_wrong "most_wrong" = true) (e_most_wrong : PySem.W.keepIn K (.ref f_most_wrong) = true)
    (a_meets : PySem.W.nsIn K mainGlobals "meets" = some (some (.ref f_meets))) (l_meets : K.lookup f_meets = some ⟨oc_meets, od_meets, .func (PySem.W.fnOf "meets" "meets" (defArgs s_meets) (defBody s_meets) (defScope s_meets) .none kV_meets dc_meets pm_meets an_meets cd_meets ct_meets), sl_meets⟩) (k_meets : PySem.W.codeIn K cd_meets "meets" = true) (e_meets : PySem.W.keepIn K (.ref f_meets) = true)
    (a_check_room : PySem.W.nsIn K mainGlobals "check_room" = some (some (.ref f_check_room))) (l_check_room : K.lookup f_check_room = some ⟨oc_check_room, od_check_room, .func (PySem.W.fnOf "check_room" "check_room" (defArgs s_check_room) (defBody s_check_room) (defScope s_check_room) .none kV_check_room dc_check_room pm_check_room an_check_room cd_check_room ct_check_room), sl_check_room⟩) (k_check_room : PySem.W.codeIn K cd_check_room "check_room" = true) (e_check_room : PySem.W.keepIn K (.ref f_check_room) = true)
    (a_whole : PySem.W.nsIn K mainGlobals "_law_whole" = some (some (.ref f_whole))) (l_whole : K.lookup f_whole = some ⟨oc_whole, od_whole, .func (PySem.W.fnOf "_law_whole" "_law_whole" (defArgs s_whole) (defBody s_whole) (defScope s_whole) .none kV_whole dc_whole pm_whole an_whole cd_whole ct_whole), sl_whole⟩) (k_whole : PySem.W.codeIn K cd_whole "_law_whole" = true) (e_whole : PySem.W.keepIn K (.ref f_whole) = true)
    (a_cell_at : PySem.W.nsIn K mainGlobals "_law_cell_at" = some (some (.ref f_cell_at))) (l_cell_at : K.lookup f_cell_at = some ⟨oc_cell_at, od_cell_at, .func (PySem.W.fnOf "_law_cell_at" "_law_cell_at" (defArgs s_cell_at) (defBody s_cell_at) (defScope s_cell_at) .none kV_cell_at dc_cell_at pm_cell_at an_cell_at cd_cell_at ct_cell_at), sl_cell_at⟩) (k_cell_at : PySem.W.codeIn K cd_cell_at "_law_cell_at" = true) (e_cell_at : PySem.W.keepIn K (.ref f_cell_at) = true)
    (a_mix : PySem.W.nsIn K mainGlobals "_law_mix" = some (some (.ref f_mix))) (l_mix : K.lookup f_mix = some ⟨oc_mix, od_mix, .func (PySem.W.fnOf "_law_mix" "_law_mix" (defArgs s_mix) (defBody s_mix) (defScope s_mix) .none kV_mix dc_mix pm_mix an_mix cd_mix ct_mix), sl_mix⟩) (k_mix : PySem.W.codeIn K cd_mix "_law_mix" = true) (e_mix : PySem.W.keepIn K (.ref f_mix) = true)
    (a_big : PySem.W.nsIn K mainGlobals "_law_big" = some (some (.ref f_big))) (l_big : K.lookup f_big = some ⟨oc_big, od_big, .func (PySem.W.fnOf "_law_big" "_law_big" (defArgs s_big) (defBody s_big) (defScope s_big) .none kV_big dc_big pm_big an_big cd_big ct_big), sl_big⟩) (k_big : PySem.W.codeIn K cd_big "_law_big" = true) (e_big : PySem.W.keepIn K (.ref f_big) = true)
    (a_off : PySem.W.nsIn K mainGlobals "_law_off" = some (some (.ref f_off))) (l_off : K.lookup f_off = some ⟨oc_off, od_off, .func (PySem.W.fnOf "_law_off" "_law_off" (defArgs s_off) (defBody s_off) (defScope s_off) .none kV_off dc_off pm_off an_off cd_off ct_off), sl_off⟩) (k_off : PySem.W.codeIn K cd_off "_law_off" = true) (e_off : PySem.W.keepIn K (.ref f_off) = true)
    (a_w_slack : PySem.W.nsIn K mainGlobals "_law_slack" = some (some (.ref f_w_slack))) (l_w_slack : K.lookup f_w_slack = some ⟨oc_w_slack, od_w_slack, .func (PySem.W.fnOf "_law_slack" "_law_slack" (defArgs s_w_slack) (defBody s_w_slack) (defScope s_w_slack) .none kV_w_slack dc_w_slack pm_w_slack an_w_slack cd_w_slack ct_w_slack), sl_w_slack⟩) (k_w_slack : PySem.W.codeIn K cd_w_slack "_law_slack" = true) (e_w_slack : PySem.W.keepIn K (.ref f_w_slack) = true)
    (a_w_brought : PySem.W.nsIn K mainGlobals "_law_brought" = some (some (.ref f_w_brought))) (l_w_brought : K.lookup f_w_brought = some ⟨oc_w_brought, od_w_brought, .func (PySem.W.fnOf "_law_brought" "_law_brought" (defArgs s_w_brought) (defBody s_w_brought) (defScope s_w_brought) .none kV_w_brought dc_w_brought pm_w_brought an_w_brought cd_w_brought ct_w_brought), sl_w_brought⟩) (k_w_brought : PySem.W.codeIn K cd_w_brought "_law_brought" = true) (e_w_brought : PySem.W.keepIn K (.ref f_w_brought) = true)
    (a_kind : PySem.W.nsIn K mainGlobals "_law_kind" = some (some (.ref f_kind))) (l_kind : K.lookup f_kind = some ⟨oc_kind, od_kind, .func (PySem.W.fnOf "_law_kind" "_law_kind" (defArgs s_kind) (defBody s_kind) (defScope s_kind) .none kV_kind dc_kind pm_kind an_kind cd_kind ct_kind), sl_kind⟩) (k_kind : PySem.W.codeIn K cd_kind "_law_kind" = true) (e_kind : PySem.W.keepIn K (.ref f_kind) = true)
    (a_word : PySem.W.nsIn K mainGlobals "_law_word" = some (some (.ref f_word))) (l_word : K.lookup f_word = some ⟨oc_word, od_word, .func (PySem.W.fnOf "_law_word" "_law_word" (defArgs s_word) (defBody s_word) (defScope s_word) .none kV_word dc_word pm_word an_word cd_word ct_word), sl_word⟩) (k_word : PySem.W.codeIn K cd_word "_law_word" = true) (e_word : PySem.W.keepIn K (.ref f_word) = true)
    (a_names : PySem.W.nsIn K mainGlobals "_law_names" = some (some (.ref f_names))) (l_names : K.lookup f_names = some ⟨oc_names, od_names, .func (PySem.W.fnOf "_law_names" "_law_names" (defArgs s_names) (defBody s_names) (defScope s_names) .none kV_names dc_names pm_names an_names cd_names ct_names), sl_names⟩) (k_names : PySem.W.codeIn K cd_names "_law_names" = true) (e_names : PySem.W.keepIn K (.ref f_names) = true)
    (a_letter : PySem.W.nsIn K mainGlobals "_law_letter" = some (some (.ref f_letter))) (l_letter : K.lookup f_letter = some ⟨oc_letter, od_letter, .func (PySem.W.fnOf "_law_letter" "_law_letter" (defArgs s_letter) (defBody s_letter) (defScope s_letter) .none kV_letter dc_letter pm_letter an_letter cd_letter ct_letter), sl_letter⟩) (k_letter : PySem.W.codeIn K cd_letter "_law_letter" = true) (e_letter : PySem.W.keepIn K (.ref f_letter) = true)
    (a_w_gathered : PySem.W.nsIn K mainGlobals "_law_gathered" = some (some (.ref f_w_gathered))) (l_w_gathered : K.lookup f_w_gathered = some ⟨oc_w_gathered, od_w_gathered, .func (PySem.W.fnOf "_law_gathered" "_law_gathered" (defArgs s_w_gathered) (defBody s_w_gathered) (defScope s_w_gathered) .none kV_w_gathered dc_w_gathered pm_w_gathered an_w_gathered cd_w_gathered ct_w_gathered), sl_w_gathered⟩) (k_w_gathered : PySem.W.codeIn K cd_w_gathered "_law_gathered" = true) (e_w_gathered : PySem.W.keepIn K (.ref f_w_gathered) = true)
    (a_many : PySem.W.nsIn K mainGlobals "_law_many" = some (some (.ref f_many))) (l_many : K.lookup f_many = some ⟨oc_many, od_many, .func (PySem.W.fnOf "_law_many" "_law_many" (defArgs s_many) (defBody s_many) (defScope s_many) .none kV_many dc_many pm_many an_many cd_many ct_many), sl_many⟩) (k_many : PySem.W.codeIn K cd_many "_law_many" = true) (e_many : PySem.W.keepIn K (.ref f_many) = true)
    (a_lows : PySem.W.nsIn K mainGlobals "_law_lows" = some (some (.ref f_lows))) (l_lows : K.lookup f_lows = some ⟨oc_lows, od_lows, .func (PySem.W.fnOf "_law_lows" "_law_lows" (defArgs s_lows) (defBody s_lows) (defScope s_lows) .none kV_lows dc_lows pm_lows an_lows cd_lows ct_lows), sl_lows⟩) (k_lows : PySem.W.codeIn K cd_lows "_law_lows" = true) (e_lows : PySem.W.keepIn K (.ref f_lows) = true)
    (a_edges : PySem.W.nsIn K mainGlobals "_law_edges" = some (some (.ref f_edges))) (l_edges : K.lookup f_edges = some ⟨oc_edges, od_edges, .func (PySem.W.fnOf "_law_edges" "_law_edges" (defArgs s_edges) (defBody s_edges) (defScope s_edges) .none kV_edges dc_edges pm_edges an_edges cd_edges ct_edges), sl_edges⟩) (k_edges : PySem.W.codeIn K cd_edges "_law_edges" = true) (e_edges : PySem.W.keepIn K (.ref f_edges) = true)
    (a_parts_right : PySem.W.nsIn K mainGlobals "_law_parts_right" = some (some (.ref f_parts_right))) (l_parts_right : K.lookup f_parts_right = some ⟨oc_parts_right, od_parts_right, .func (PySem.W.fnOf "_law_parts_right" "_law_parts_right" (defArgs s_parts_right) (defBody s_parts_right) (defScope s_parts_right) .none kV_parts_right dc_parts_right pm_parts_right an_parts_right cd_parts_right ct_parts_right), sl_parts_right⟩) (k_parts_right : PySem.W.codeIn K cd_parts_right "_law_parts_right" = true) (e_parts_right : PySem.W.keepIn K (.ref f_parts_right) = true)
    (a_due : PySem.W.nsIn K mainGlobals "_law_due" = some (some (.ref f_due))) (l_due : K.lookup f_due = some ⟨oc_due, od_due, .func (PySem.W.fnOf "_law_due" "_law_due" (defArgs s_due) (defBody s_due) (defScope s_due) .none kV_due dc_due pm_due an_due cd_due ct_due), sl_due⟩) (k_due : PySem.W.codeIn K cd_due "_law_due" = true) (e_due : PySem.W.keepIn K (.ref f_due) = true)
    (a_sure_right : PySem.W.nsIn K mainGlobals "_law_sure_right" = some (some (.ref f_sure_right))) (l_sure_right : K.lookup f_sure_right = some ⟨oc_sure_right, od_sure_right, .func (PySem.W.fnOf "_law_sure_right" "_law_sure_right" (defArgs s_sure_right) (defBody s_sure_right) (defScope s_sure_right) .none kV_sure_right dc_sure_right pm_sure_right an_sure_right cd_sure_right ct_sure_right), sl_sure_right⟩) (k_sure_right : PySem.W.codeIn K cd_sure_right "_law_sure_right" = true) (e_sure_right : PySem.W.keepIn K (.ref f_sure_right) = true)
    (a_put_due : PySem.W.nsIn K mainGlobals "_law_put_due" = some (some (.ref f_put_due))) (l_put_due : K.lookup f_put_due = some ⟨oc_put_due, od_put_due, .func (PySem.W.fnOf "_law_put_due" "_law_put_due" (defArgs s_put_due) (defBody s_put_due) (defScope s_put_due) .none kV_put_due dc_put_due pm_put_due an_put_due cd_put_due ct_put_due), sl_put_due⟩) (k_put_due : PySem.W.codeIn K cd_put_due "_law_put_due" = true) (e_put_due : PySem.W.keepIn K (.ref f_put_due) = true)
    (a_put : PySem.W.nsIn K mainGlobals "_law_put" = some (some (.ref f_put))) (l_put : K.lookup f_put = some ⟨oc_put, od_put, .func (PySem.W.fnOf "_law_put" "_law_put" (defArgs s_put) (defBody s_put) (defScope s_put) .none kV_put dc_put pm_put an_put cd_put ct_put), sl_put⟩) (k_put : PySem.W.codeIn K cd_put "_law_put" = true) (e_put : PySem.W.keepIn K (.ref f_put) = true)
    (a_drop : PySem.W.nsIn K mainGlobals "_law_drop" = some (some (.ref f_drop))) (l_drop : K.lookup f_drop = some ⟨oc_drop, od_drop, .func (PySem.W.fnOf "_law_drop" "_law_drop" (defArgs s_drop) (defBody s_drop) (defScope s_drop) .none kV_drop dc_drop pm_drop an_drop cd_drop ct_drop), sl_drop⟩) (k_drop : PySem.W.codeIn K cd_drop "_law_drop" = true) (e_drop : PySem.W.keepIn K (.ref f_drop) = true)
    (a_ask : PySem.W.nsIn K mainGlobals "_law_ask" = some (some (.ref f_ask))) (l_ask : K.lookup f_ask = some ⟨oc_ask, od_ask, .func (PySem.W.fnOf "_law_ask" "_law_ask" (defArgs s_ask) (defBody s_ask) (defScope s_ask) .none kV_ask dc_ask pm_ask an_ask cd_ask ct_ask), sl_ask⟩) (k_ask : PySem.W.codeIn K cd_ask "_law_ask" = true) (e_ask : PySem.W.keepIn K (.ref f_ask) = true)
    (a_filled : PySem.W.nsIn K mainGlobals "_law_filled" = some (some (.ref f_filled))) (l_filled : K.lookup f_filled = some ⟨oc_filled, od_filled, .func (PySem.W.fnOf "_law_filled" "_law_filled" (defArgs s_filled) (defBody s_filled) (defScope s_filled) .none kV_filled dc_filled pm_filled an_filled cd_filled ct_filled), sl_filled⟩) (k_filled : PySem.W.codeIn K cd_filled "_law_filled" = true) (e_filled : PySem.W.keepIn K (.ref f_filled) = true)
    (a_deed : PySem.W.nsIn K mainGlobals "_law_deed" = some (some (.ref f_deed))) (l_deed : K.lookup f_deed = some ⟨oc_deed, od_deed, .func (PySem.W.fnOf "_law_deed" "_law_deed" (defArgs s_deed) (defBody s_deed) (defScope s_deed) .none kV_deed dc_deed pm_deed an_deed cd_deed ct_deed), sl_deed⟩) (k_deed : PySem.W.codeIn K cd_deed "_law_deed" = true) (e_deed : PySem.W.keepIn K (.ref f_deed) = true)
    (a_forty : PySem.W.nsIn K mainGlobals "_law_forty" = some (some (.ref f_forty))) (l_forty : K.lookup f_forty = some ⟨oc_forty, od_forty, .func (PySem.W.fnOf "_law_forty" "_law_forty" (defArgs s_forty) (defBody s_forty) (defScope s_forty) .none kV_forty dc_forty pm_forty an_forty cd_forty ct_forty), sl_forty⟩) (k_forty : PySem.W.codeIn K cd_forty "_law_forty" = true) (e_forty : PySem.W.keepIn K (.ref f_forty) = true)
    (a_no_watch : PySem.W.nsIn K mainGlobals "_law_no_watch" = some (some (.ref f_no_watch))) (l_no_watch : K.lookup f_no_watch = some ⟨oc_no_watch, od_no_watch, .func (PySem.W.fnOf "_law_no_watch" "_law_no_watch" (defArgs s_no_watch) (defBody s_no_watch) (defScope s_no_watch) .none kV_no_watch dc_no_watch pm_no_watch an_no_watch cd_no_watch ct_no_watch), sl_no_watch⟩) (k_no_watch : PySem.W.codeIn K cd_no_watch "_law_no_watch" = true) (e_no_watch : PySem.W.keepIn K (.ref f_no_watch) = true)
    (a_law : PySem.W.nsIn K mainGlobals "law" = some (some (.ref f_law))) (l_law : K.lookup f_law = some ⟨oc_law, od_law, .func (PySem.W.fnOf "law" "law" (defArgs s_law) (defBody s_law) (defScope s_law) .none kV_law dc_law pm_law an_law cd_law ct_law), sl_law⟩) (k_law : PySem.W.codeIn K cd_law "law" = true) (e_law : PySem.W.keepIn K (.ref f_law) = true)
    (a_W_init : PySem.W.findIn K (.ref c_Watch) "__init__" = some (some (.ref f_W_init))) (i_W_init : PySem.W.isFn K (.ref f_W_init) = true)
    (l_W_init : K.lookup f_W_init = some ⟨oc_W_init, od_W_init, .func (PySem.W.fnOf "__init__" "Watch.__init__" (defArgs s_W_init) (defBody s_W_init) (defScope s_W_init) .none kV_W_init dc_W_init pm_W_init an_W_init cd_W_init ct_W_init), sl_W_init⟩) (k_W_init : PySem.W.codeIn K cd_W_init "Watch.__init__" = true) (e_W_init : PySem.W.keepIn K (.ref f_W_init) = true)
    (a_W_put : PySem.W.findIn K (.ref c_Watch) "put" = some (some (.ref f_W_put))) (i_W_put : PySem.W.isFn K (.ref f_W_put) = true)
    (l_W_put : K.lookup f_W_put = some ⟨oc_W_put, od_W_put, .func (PySem.W.fnOf "put" "Watch.put" (defArgs s_W_put) (defBody s_W_put) (defScope s_W_put) .none kV_W_put dc_W_put pm_W_put an_W_put cd_W_put ct_W_put), sl_W_put⟩) (k_W_put : PySem.W.codeIn K cd_W_put "Watch.put" = true) (e_W_put : PySem.W.keepIn K (.ref f_W_put) = true)
    (a_W_drop : PySem.W.findIn K (.ref c_Watch) "drop" = some (some (.ref f_W_drop))) (i_W_drop : PySem.W.isFn K (.ref f_W_drop) = true)
    (l_W_drop : K.lookup f_W_drop = some ⟨oc_W_drop, od_W_drop, .func (PySem.W.fnOf "drop" "Watch.drop" (defArgs s_W_drop) (defBody s_W_drop) (defScope s_W_drop) .none kV_W_drop dc_W_drop pm_W_drop an_W_drop cd_W_drop ct_W_drop), sl_W_drop⟩) (k_W_drop : PySem.W.codeIn K cd_W_drop "Watch.drop" = true) (e_W_drop : PySem.W.keepIn K (.ref f_W_drop) = true)
    (a_W_told : PySem.W.findIn K (.ref c_Watch) "told" = some (some (.ref f_W_told))) (i_W_told : PySem.W.isFn K (.ref f_W_told) = true)
    (l_W_told : K.lookup f_W_told = some ⟨oc_W_told, od_W_told, .func (PySem.W.fnOf "told" "Watch.told" (defArgs s_W_told) (defBody s_W_told) (defScope s_W_told) (.ref T_W_told) kV_W_told dc_W_told pm_W_told an_W_told cd_W_told ct_W_told), sl_W_told⟩) (k_W_told : PySem.W.codeIn K cd_W_told "Watch.told" = true) (e_W_told : PySem.W.keepIn K (.ref f_W_told) = true)
    (d_W_told : K.lookup T_W_told = some ⟨dc_W_told_, dd_W_told, .seq #[.none] dn_W_told, dl_W_told⟩)
    (pg_Watch : PySem.W.plainGet K c_Watch Str.empty = true) (hd_Watch : PySem.W.hasDictIn K c_Watch = true) (po_Watch : PySem.W.plainOver K c_Watch = true) (sa_Watch : PySem.W.findIn K (.ref c_Watch) "__setattr__" = some (some (.builtin "object.__setattr__"))) (mk_Watch : PySem.W.makesIn K c_Watch = true) (kc_Watch : PySem.W.keepIn K (.ref c_Watch) = true) (gc_Watch : PySem.W.nsIn K mainGlobals "Watch" = some (some (.ref c_Watch)))
    (na_letters : PySem.W.findIn K (.ref c_Watch) "letters" = some none)
    (na_off : PySem.W.findIn K (.ref c_Watch) "off" = some none)
    (n_StretchError : PySem.W.nsIn K mainGlobals "StretchError" = some (some (.ref c_StretchError))) (x_StretchError : PySem.W.excIn K c_StretchError [.type "ValueError", .type "Exception", .type "BaseException", .type "object"] "ValueError.__new__" = true) (h_StretchError : PySem.W.keepIn K (.ref c_StretchError) = true) (s_StretchError : PySem.W.subIn K (.ref c_StretchError) (.type "BaseException") = some true) (t_StretchError : PySem.W.typeIn K (.ref c_StretchError) = some (.type "type"))
    (n_BadName : PySem.W.nsIn K mainGlobals "BadName" = some (some (.ref c_BadName))) (x_BadName : PySem.W.excIn K c_BadName [.type "ValueError", .type "Exception", .type "BaseException", .type "object"] "ValueError.__new__" = true) (h_BadName : PySem.W.keepIn K (.ref c_BadName) = true) (s_BadName : PySem.W.subIn K (.ref c_BadName) (.type "BaseException") = some true) (t_BadName : PySem.W.typeIn K (.ref c_BadName) = some (.type "type"))
    (n_BadLetter : PySem.W.nsIn K mainGlobals "BadLetter" = some (some (.ref c_BadLetter))) (x_BadLetter : PySem.W.excIn K c_BadLetter [.type "ValueError", .type "Exception", .type "BaseException", .type "object"] "ValueError.__new__" = true) (h_BadLetter : PySem.W.keepIn K (.ref c_BadLetter) = true) (s_BadLetter : PySem.W.subIn K (.ref c_BadLetter) (.type "BaseException") = some true) (t_BadLetter : PySem.W.typeIn K (.ref c_BadLetter) = some (.type "type"))
    (n_BadOff : PySem.W.nsIn K mainGlobals "BadOff" = some (some (.ref c_BadOff))) (x_BadOff : PySem.W.excIn K c_BadOff [.type "ValueError", .type "Exception", .type "BaseException", .type "object"] "ValueError.__new__" = true) (h_BadOff : PySem.W.keepIn K (.ref c_BadOff) = true) (s_BadOff : PySem.W.subIn K (.ref c_BadOff) (.type "BaseException") = some true) (t_BadOff : PySem.W.typeIn K (.ref c_BadOff) = some (.type "type"))
    (n_TooEarly : PySem.W.nsIn K mainGlobals "TooEarly" = some (some (.ref c_TooEarly))) (x_TooEarly : PySem.W.excIn K c_TooEarly [.type "ValueError", .type "Exception", .type "BaseException", .type "object"] "ValueError.__new__" = true) (h_TooEarly : PySem.W.keepIn K (.ref c_TooEarly) = true) (s_TooEarly : PySem.W.subIn K (.ref c_TooEarly) (.type "BaseException") = some true) (t_TooEarly : PySem.W.typeIn K (.ref c_TooEarly) = some (.type "type"))
    (n_BadCount : PySem.W.nsIn K mainGlobals "BadCount" = some (some (.ref c_BadCount))) (x_BadCount : PySem.W.excIn K c_BadCount [.type "ValueError", .type "Exception", .type "BaseException", .type "object"] "ValueError.__new__" = true) (h_BadCount : PySem.W.keepIn K (.ref c_BadCount) = true) (s_BadCount : PySem.W.subIn K (.ref c_BadCount) (.type "BaseException") = some true) (t_BadCount : PySem.W.typeIn K (.ref c_BadCount) = some (.type "type"))
    (n_NoAgreement : PySem.W.nsIn K mainGlobals "NoAgreement" = some (some (.ref c_NoAgreement))) (x_NoAgreement : PySem.W.excIn K c_NoAgreement [.type "ValueError", .type "Exception", .type "BaseException", .type "object"] "ValueError.__new__" = true) (h_NoAgreement : PySem.W.keepIn K (.ref c_NoAgreement) = true) (s_NoAgreement : PySem.W.subIn K (.ref c_NoAgreement) (.type "BaseException") = some true) (t_NoAgreement : PySem.W.typeIn K (.ref c_NoAgreement) = some (.type "type"))
    (n_TooWide : PySem.W.nsIn K mainGlobals "TooWide" = some (some (.ref c_TooWide))) (x_TooWide : PySem.W.excIn K c_TooWide [.type "ValueError", .type "Exception", .type "BaseException", .type "object"] "ValueError.__new__" = true) (h_TooWide : PySem.W.keepIn K (.ref c_TooWide) = true) (s_TooWide : PySem.W.subIn K (.ref c_TooWide) (.type "BaseException") = some true) (t_TooWide : PySem.W.typeIn K (.ref c_TooWide) = some (.type "type"))
    (n_TooMany : PySem.W.nsIn K mainGlobals "TooMany" = some (some (.ref c_TooMany))) (x_TooMany : PySem.W.excIn K c_TooMany [.type "ValueError", .type "Exception", .type "BaseException", .type "object"] "ValueError.__new__" = true) (h_TooMany : PySem.W.keepIn K (.ref c_TooMany) = true) (s_TooMany : PySem.W.subIn K (.ref c_TooMany) (.type "BaseException") = some true) (t_TooMany : PySem.W.typeIn K (.ref c_TooMany) = some (.type "type"))
    (n_NoClock : PySem.W.nsIn K mainGlobals "NoClock" = some (some (.ref c_NoClock))) (x_NoClock : PySem.W.excIn K c_NoClock [.type "ValueError", .type "Exception", .type "BaseException", .type "object"] "ValueError.__new__" = true) (h_NoClock : PySem.W.keepIn K (.ref c_NoClock) = true) (s_NoClock : PySem.W.subIn K (.ref c_NoClock) (.type "BaseException") = some true) (t_NoClock : PySem.W.typeIn K (.ref c_NoClock) = some (.type "type"))
    (n_NoText : PySem.W.nsIn K mainGlobals "NoText" = some (some (.ref c_NoText))) (x_NoText : PySem.W.excIn K c_NoText [.type "ValueError", .type "Exception", .type "BaseException", .type "object"] "ValueError.__new__" = true) (h_NoText : PySem.W.keepIn K (.ref c_NoText) = true) (s_NoText : PySem.W.subIn K (.ref c_NoText) (.type "BaseException") = some true) (t_NoText : PySem.W.typeIn K (.ref c_NoText) = some (.type "type"))
    (u_BadName : ExcC K c_BadName) (w_BadName : PySem.W.subIn K (.ref c_BadName) (.ref c_StretchError) = some true) (v_BadName : PySem.W.kitOne K (.ref c_BadName) (.type "ValueError") = some true)
    (q_BadName_0 : PySem.W.kitOne K (.ref c_BadName) (.ref c_BadName) = some true)
    (q_BadName_1 : PySem.W.kitOne K (.ref c_BadName) (.ref c_BadLetter) = some false)
    (q_BadName_2 : PySem.W.kitOne K (.ref c_BadName) (.ref c_BadOff) = some false)
    (q_BadName_3 : PySem.W.kitOne K (.ref c_BadName) (.ref c_TooEarly) = some false)
    (q_BadName_4 : PySem.W.kitOne K (.ref c_BadName) (.ref c_BadCount) = some false)
    (q_BadName_5 : PySem.W.kitOne K (.ref c_BadName) (.ref c_NoAgreement) = some false)
    (q_BadName_6 : PySem.W.kitOne K (.ref c_BadName) (.ref c_TooWide) = some false)
    (q_BadName_7 : PySem.W.kitOne K (.ref c_BadName) (.ref c_TooMany) = some false)
    (q_BadName_8 : PySem.W.kitOne K (.ref c_BadName) (.ref c_NoClock) = some false)
    (q_BadName_9 : PySem.W.kitOne K (.ref c_BadName) (.ref c_NoText) = some false)
    (u_BadLetter : ExcC K c_BadLetter) (w_BadLetter : PySem.W.subIn K (.ref c_BadLetter) (.ref c_StretchError) = some true) (v_BadLetter : PySem.W.kitOne K (.ref c_BadLetter) (.type "ValueError") = some true)
    (q_BadLetter_0 : PySem.W.kitOne K (.ref c_BadLetter) (.ref c_BadName) = some false)
    (q_BadLetter_1 : PySem.W.kitOne K (.ref c_BadLetter) (.ref c_BadLetter) = some true)
    (q_BadLetter_2 : PySem.W.kitOne K (.ref c_BadLetter) (.ref c_BadOff) = some false)
    (q_BadLetter_3 : PySem.W.kitOne K (.ref c_BadLetter) (.ref c_TooEarly) = some false)
    (q_BadLetter_4 : PySem.W.kitOne K (.ref c_BadLetter) (.ref c_BadCount) = some false)
    (q_BadLetter_5 : PySem.W.kitOne K (.ref c_BadLetter) (.ref c_NoAgreement) = some false)
    (q_BadLetter_6 : PySem.W.kitOne K (.ref c_BadLetter) (.ref c_TooWide) = some false)
    (q_BadLetter_7 : PySem.W.kitOne K (.ref c_BadLetter) (.ref c_TooMany) = some false)
    (q_BadLetter_8 : PySem.W.kitOne K (.ref c_BadLetter) (.ref c_NoClock) = some false)
    (q_BadLetter_9 : PySem.W.kitOne K (.ref c_BadLetter) (.ref c_NoText) = some false)
    (u_BadOff : ExcC K c_BadOff) (w_BadOff : PySem.W.subIn K (.ref c_BadOff) (.ref c_StretchError) = some true) (v_BadOff : PySem.W.kitOne K (.ref c_BadOff) (.type "ValueError") = some true)
    (q_BadOff_0 : PySem.W.kitOne K (.ref c_BadOff) (.ref c_BadName) = some false)
    (q_BadOff_1 : PySem.W.kitOne K (.ref c_BadOff) (.ref c_BadLetter) = some false)
    (q_BadOff_2 : PySem.W.kitOne K (.ref c_BadOff) (.ref c_BadOff) = some true)
    (q_BadOff_3 : PySem.W.kitOne K (.ref c_BadOff) (.ref c_TooEarly) = some false)
    (q_BadOff_4 : PySem.W.kitOne K (.ref c_BadOff) (.ref c_BadCount) = some false)
    (q_BadOff_5 : PySem.W.kitOne K (.ref c_BadOff) (.ref c_NoAgreement) = some false)
    (q_BadOff_6 : PySem.W.kitOne K (.ref c_BadOff) (.ref c_TooWide) = some false)
    (q_BadOff_7 : PySem.W.kitOne K (.ref c_BadOff) (.ref c_TooMany) = some false)
    (q_BadOff_8 : PySem.W.kitOne K (.ref c_BadOff) (.ref c_NoClock) = some false)
    (q_BadOff_9 : PySem.W.kitOne K (.ref c_BadOff) (.ref c_NoText) = some false)
    (u_TooEarly : ExcC K c_TooEarly) (w_TooEarly : PySem.W.subIn K (.ref c_TooEarly) (.ref c_StretchError) = some true) (v_TooEarly : PySem.W.kitOne K (.ref c_TooEarly) (.type "ValueError") = some true)
    (q_TooEarly_0 : PySem.W.kitOne K (.ref c_TooEarly) (.ref c_BadName) = some false)
    (q_TooEarly_1 : PySem.W.kitOne K (.ref c_TooEarly) (.ref c_BadLetter) = some false)
    (q_TooEarly_2 : PySem.W.kitOne K (.ref c_TooEarly) (.ref c_BadOff) = some false)
    (q_TooEarly_3 : PySem.W.kitOne K (.ref c_TooEarly) (.ref c_TooEarly) = some true)
    (q_TooEarly_4 : PySem.W.kitOne K (.ref c_TooEarly) (.ref c_BadCount) = some false)
    (q_TooEarly_5 : PySem.W.kitOne K (.ref c_TooEarly) (.ref c_NoAgreement) = some false)
    (q_TooEarly_6 : PySem.W.kitOne K (.ref c_TooEarly) (.ref c_TooWide) = some false)
    (q_TooEarly_7 : PySem.W.kitOne K (.ref c_TooEarly) (.ref c_TooMany) = some false)
    (q_TooEarly_8 : PySem.W.kitOne K (.ref c_TooEarly) (.ref c_NoClock) = some false)
    (q_TooEarly_9 : PySem.W.kitOne K (.ref c_TooEarly) (.ref c_NoText) = some false)
    (u_BadCount : ExcC K c_BadCount) (w_BadCount : PySem.W.subIn K (.ref c_BadCount) (.ref c_StretchError) = some true) (v_BadCount : PySem.W.kitOne K (.ref c_BadCount) (.type "ValueError") = some true)
    (q_BadCount_0 : PySem.W.kitOne K (.ref c_BadCount) (.ref c_BadName) = some false)
    (q_BadCount_1 : PySem.W.kitOne K (.ref c_BadCount) (.ref c_BadLetter) = some false)
    (q_BadCount_2 : PySem.W.kitOne K (.ref c_BadCount) (.ref c_BadOff) = some false)
    (q_BadCount_3 : PySem.W.kitOne K (.ref c_BadCount) (.ref c_TooEarly) = some false)
    (q_BadCount_4 : PySem.W.kitOne K (.ref c_BadCount) (.ref c_BadCount) = some true)
    (q_BadCount_5 : PySem.W.kitOne K (.ref c_BadCount) (.ref c_NoAgreement) = some false)
    (q_BadCount_6 : PySem.W.kitOne K (.ref c_BadCount) (.ref c_TooWide) = some false)
    (q_BadCount_7 : PySem.W.kitOne K (.ref c_BadCount) (.ref c_TooMany) = some false)
    (q_BadCount_8 : PySem.W.kitOne K (.ref c_BadCount) (.ref c_NoClock) = some false)
    (q_BadCount_9 : PySem.W.kitOne K (.ref c_BadCount) (.ref c_NoText) = some false)
    (u_NoAgreement : ExcC K c_NoAgreement) (w_NoAgreement : PySem.W.subIn K (.ref c_NoAgreement) (.ref c_StretchError) = some true) (v_NoAgreement : PySem.W.kitOne K (.ref c_NoAgreement) (.type "ValueError") = some true)
    (q_NoAgreement_0 : PySem.W.kitOne K (.ref c_NoAgreement) (.ref c_BadName) = some false)
    (q_NoAgreement_1 : PySem.W.kitOne K (.ref c_NoAgreement) (.ref c_BadLetter) = some false)
    (q_NoAgreement_2 : PySem.W.kitOne K (.ref c_NoAgreement) (.ref c_BadOff) = some false)
    (q_NoAgreement_3 : PySem.W.kitOne K (.ref c_NoAgreement) (.ref c_TooEarly) = some false)
    (q_NoAgreement_4 : PySem.W.kitOne K (.ref c_NoAgreement) (.ref c_BadCount) = some false)
    (q_NoAgreement_5 : PySem.W.kitOne K (.ref c_NoAgreement) (.ref c_NoAgreement) = some true)
    (q_NoAgreement_6 : PySem.W.kitOne K (.ref c_NoAgreement) (.ref c_TooWide) = some false)
    (q_NoAgreement_7 : PySem.W.kitOne K (.ref c_NoAgreement) (.ref c_TooMany) = some false)
    (q_NoAgreement_8 : PySem.W.kitOne K (.ref c_NoAgreement) (.ref c_NoClock) = some false)
    (q_NoAgreement_9 : PySem.W.kitOne K (.ref c_NoAgreement) (.ref c_NoText) = some false)
    (u_TooMany : ExcC K c_TooMany) (w_TooMany : PySem.W.subIn K (.ref c_TooMany) (.ref c_StretchError) = some true) (v_TooMany : PySem.W.kitOne K (.ref c_TooMany) (.type "ValueError") = some true)
    (q_TooMany_0 : PySem.W.kitOne K (.ref c_TooMany) (.ref c_BadName) = some false)
    (q_TooMany_1 : PySem.W.kitOne K (.ref c_TooMany) (.ref c_BadLetter) = some false)
    (q_TooMany_2 : PySem.W.kitOne K (.ref c_TooMany) (.ref c_BadOff) = some false)
    (q_TooMany_3 : PySem.W.kitOne K (.ref c_TooMany) (.ref c_TooEarly) = some false)
    (q_TooMany_4 : PySem.W.kitOne K (.ref c_TooMany) (.ref c_BadCount) = some false)
    (q_TooMany_5 : PySem.W.kitOne K (.ref c_TooMany) (.ref c_NoAgreement) = some false)
    (q_TooMany_6 : PySem.W.kitOne K (.ref c_TooMany) (.ref c_TooWide) = some false)
    (q_TooMany_7 : PySem.W.kitOne K (.ref c_TooMany) (.ref c_TooMany) = some true)
    (q_TooMany_8 : PySem.W.kitOne K (.ref c_TooMany) (.ref c_NoClock) = some false)
    (q_TooMany_9 : PySem.W.kitOne K (.ref c_TooMany) (.ref c_NoText) = some false)
    (u_NoClock : ExcC K c_NoClock) (w_NoClock : PySem.W.subIn K (.ref c_NoClock) (.ref c_StretchError) = some true) (v_NoClock : PySem.W.kitOne K (.ref c_NoClock) (.type "ValueError") = some true)
    (q_NoClock_0 : PySem.W.kitOne K (.ref c_NoClock) (.ref c_BadName) = some false)
    (q_NoClock_1 : PySem.W.kitOne K (.ref c_NoClock) (.ref c_BadLetter) = some false)
    (q_NoClock_2 : PySem.W.kitOne K (.ref c_NoClock) (.ref c_BadOff) = some false)
    (q_NoClock_3 : PySem.W.kitOne K (.ref c_NoClock) (.ref c_TooEarly) = some false)
    (q_NoClock_4 : PySem.W.kitOne K (.ref c_NoClock) (.ref c_BadCount) = some false)
    (q_NoClock_5 : PySem.W.kitOne K (.ref c_NoClock) (.ref c_NoAgreement) = some false)
    (q_NoClock_6 : PySem.W.kitOne K (.ref c_NoClock) (.ref c_TooWide) = some false)
    (q_NoClock_7 : PySem.W.kitOne K (.ref c_NoClock) (.ref c_TooMany) = some false)
    (q_NoClock_8 : PySem.W.kitOne K (.ref c_NoClock) (.ref c_NoClock) = some true)
    (q_NoClock_9 : PySem.W.kitOne K (.ref c_NoClock) (.ref c_NoText) = some false)
    (d_S : PySem.W.hasDictIn K c_StretchError = true)
    (b_all : PySem.W.nsIn K mainGlobals "all" = some none)
    (b_len : PySem.W.nsIn K mainGlobals "len" = some none)
    (b_max : PySem.W.nsIn K mainGlobals "max" = some none)
    (b_min : PySem.W.nsIn K mainGlobals "min" = some none)
    (b_list : PySem.W.nsIn K mainGlobals "list" = some none)
    (b_sorted : PySem.W.nsIn K mainGlobals "sorted" = some none)
    (b_any : PySem.W.nsIn K mainGlobals "any" = some none)
    (b_isinstance : PySem.W.nsIn K mainGlobals "isinstance" = some none)
    (b_bool : PySem.W.nsIn K mainGlobals "bool" = some none)
    (b_int : PySem.W.nsIn K mainGlobals "int" = some none)
    (b_ValueError : PySem.W.nsIn K mainGlobals "ValueError" = some none)
    (b_range : PySem.W.nsIn K mainGlobals "range" = some none)
    (b_tuple : PySem.W.nsIn K mainGlobals "tuple" = some none)
    (b_set : PySem.W.nsIn K mainGlobals "set" = some none)
    (m_LONGEST_NAME : PySem.W.nsIn K mainGlobals "LONGEST_NAME" = some (some (.int 12 t_LONGEST_NAME)))
    (m_GREATEST_NUMBER : PySem.W.nsIn K mainGlobals "GREATEST_NUMBER" = some (some (.int 1000000000000 t_GREATEST_NUMBER)))
    (m_GREATEST_OFF : PySem.W.nsIn K mainGlobals "GREATEST_OFF" = some (some (.int 999 t_GREATEST_OFF)))
    (m_MOST_LETTERS : PySem.W.nsIn K mainGlobals "MOST_LETTERS" = some (some (.int 200 t_MOST_LETTERS)))
    (m_MOST_NAMES : PySem.W.nsIn K mainGlobals "MOST_NAMES" = some (some (.int 40 t_MOST_NAMES)))
    (j_code_is_name : cd_is_name = .ref k_tab_is_name) (j_obj_is_name : K.lookup k_tab_is_name = some ⟨j_e_is_name, j_d_is_name, .fields j_vs_is_name, j_sl_is_name⟩) (j_at_is_name : j_vs_is_name[11]? = some (.ref P_tab_is_name)) (j_none_is_name : K.lookup P_tab_is_name = none)
    (j_code_meets : cd_meets = .ref k_tab_meets) (j_obj_meets : K.lookup k_tab_meets = some ⟨j_e_meets, j_d_meets, .fields j_vs_meets, j_sl_meets⟩) (j_at_meets : j_vs_meets[11]? = some (.ref P_tab_meets)) (j_none_meets : K.lookup P_tab_meets = none)
    : LamX.LawAtS l w K CX0 8 63 "_law_script" mg fa h := by
  have e := hfa.symm.trans (PySem.W.mg_of X G a_law)
  cases e
  cases j_code_is_name
  cases j_code_meets
  have T : Txt K mg (Ad.mk k_tab_is_name P_tab_is_name k_tab_meets P_tab_meets f_checked (PySem.W.fnOf "checked" "checked" (defArgs s_checked) (defBody s_checked) (defScope s_checked) .none kV_checked dc_checked pm_checked an_checked cd_checked ct_checked) f_is_name (PySem.W.fnOf "is_name" "is_name" (defArgs s_is_name) (defBody s_is_name) (defScope s_is_name) .none kV_is_name dc_is_name pm_is_name an_is_name (.ref k_tab_is_name) ct_is_name) f_in_order (PySem.W.fnOf "in_order" "in_order" (defArgs s_in_order) (defBody s_in_order) (defScope s_in_order) .none kV_in_order dc_in_order pm_in_order an_in_order cd_in_order ct_in_order) f_check_off (PySem.W.fnOf "check_off" "check_off" (defArgs s_check_off) (defBody s_check_off) (defScope s_check_off) .none kV_check_off dc_check_off pm_check_off an_check_off cd_check_off ct_check_off) f_slack (PySem.W.fnOf "slack" "slack" (defArgs s_slack) (defBody s_slack) (defScope s_slack) .none kV_slack dc_slack pm_slack an_slack cd_slack ct_slack) f_brought (PySem.W.fnOf "brought" "brought" (defArgs s_brought) (defBody s_brought) (defScope s_brought) .none kV_brought dc_brought pm_brought an_brought cd_brought ct_brought) f_gathered (PySem.W.fnOf "gathered" "gathered" (defArgs s_gathered) (defBody s_gathered) (defScope s_gathered) .none kV_gathered dc_gathered pm_gathered an_gathered cd_gathered ct_gathered) f_common (PySem.W.fnOf "common" "common" (defArgs s_common) (defBody s_common) (defScope s_common) .none kV_common dc_common pm_common an_common cd_common ct_common) f_parts (PySem.W.fnOf "parts" "parts" (defArgs s_parts) (defBody s_parts) (defScope s_parts) .none kV_parts dc_parts pm_parts an_parts cd_parts ct_parts) f_tallies (PySem.W.fnOf "tallies" "tallies" (defArgs s_tallies) (defBody s_tallies) (defScope s_tallies) .none kV_tallies dc_tallies pm_tallies an_tallies cd_tallies ct_tallies) f_sure (PySem.W.fnOf "sure" "sure" (defArgs s_sure) (defBody s_sure) (defScope s_sure) (.ref T_sure) kV_sure dc_sure pm_sure an_sure cd_sure ct_sure) f_most_wrong (PySem.W.fnOf "most_wrong" "most_wrong" (defArgs s_most_wrong) (defBody s_most_wrong) (defScope s_most_wrong) .none kV_most_wrong dc_most_wrong pm_most_wrong an_most_wrong cd_most_wrong ct_most_wrong) f_meets (PySem.W.fnOf "meets" "meets" (defArgs s_meets) (defBody s_meets) (defScope s_meets) .none kV_meets dc_meets pm_meets an_meets (.ref k_tab_meets) ct_meets) f_check_room (PySem.W.fnOf "check_room" "check_room" (defArgs s_check_room) (defBody s_check_room) (defScope s_check_room) .none kV_check_room dc_check_room pm_check_room an_check_room cd_check_room ct_check_room) f_whole (PySem.W.fnOf "_law_whole" "_law_whole" (defArgs s_whole) (defBody s_whole) (defScope s_whole) .none kV_whole dc_whole pm_whole an_whole cd_whole ct_whole) f_cell_at (PySem.W.fnOf "_law_cell_at" "_law_cell_at" (defArgs s_cell_at) (defBody s_cell_at) (defScope s_cell_at) .none kV_cell_at dc_cell_at pm_cell_at an_cell_at cd_cell_at ct_cell_at) f_mix (PySem.W.fnOf "_law_mix" "_law_mix" (defArgs s_mix) (defBody s_mix) (defScope s_mix) .none kV_mix dc_mix pm_mix an_mix cd_mix ct_mix) f_big (PySem.W.fnOf "_law_big" "_law_big" (defArgs s_big) (defBody s_big) (defScope s_big) .none kV_big dc_big pm_big an_big cd_big ct_big) f_off (PySem.W.fnOf "_law_off" "_law_off" (defArgs s_off) (defBody s_off) (defScope s_off) .none kV_off dc_off pm_off an_off cd_off ct_off) f_w_slack (PySem.W.fnOf "_law_slack" "_law_slack" (defArgs s_w_slack) (defBody s_w_slack) (defScope s_w_slack) .none kV_w_slack dc_w_slack pm_w_slack an_w_slack cd_w_slack ct_w_slack) f_w_brought (PySem.W.fnOf "_law_brought" "_law_brought" (defArgs s_w_brought) (defBody s_w_brought) (defScope s_w_brought) .none kV_w_brought dc_w_brought pm_w_brought an_w_brought cd_w_brought ct_w_brought) f_kind (PySem.W.fnOf "_law_kind" "_law_kind" (defArgs s_kind) (defBody s_kind) (defScope s_kind) .none kV_kind dc_kind pm_kind an_kind cd_kind ct_kind) f_word (PySem.W.fnOf "_law_word" "_law_word" (defArgs s_word) (defBody s_word) (defScope s_word) .none kV_word dc_word pm_word an_word cd_word ct_word) f_names (PySem.W.fnOf "_law_names" "_law_names" (defArgs s_names) (defBody s_names) (defScope s_names) .none kV_names dc_names pm_names an_names cd_names ct_names) f_letter (PySem.W.fnOf "_law_letter" "_law_letter" (defArgs s_letter) (defBody s_letter) (defScope s_letter) .none kV_letter dc_letter pm_letter an_letter cd_letter ct_letter) f_w_gathered (PySem.W.fnOf "_law_gathered" "_law_gathered" (defArgs s_w_gathered) (defBody s_w_gathered) (defScope s_w_gathered) .none kV_w_gathered dc_w_gathered pm_w_gathered an_w_gathered cd_w_gathered ct_w_gathered) f_many (PySem.W.fnOf "_law_many" "_law_many" (defArgs s_many) (defBody s_many) (defScope s_many) .none kV_many dc_many pm_many an_many cd_many ct_many) f_lows (PySem.W.fnOf "_law_lows" "_law_lows" (defArgs s_lows) (defBody s_lows) (defScope s_lows) .none kV_lows dc_lows pm_lows an_lows cd_lows ct_lows) f_edges (PySem.W.fnOf "_law_edges" "_law_edges" (defArgs s_edges) (defBody s_edges) (defScope s_edges) .none kV_edges dc_edges pm_edges an_edges cd_edges ct_edges) f_parts_right (PySem.W.fnOf "_law_parts_right" "_law_parts_right" (defArgs s_parts_right) (defBody s_parts_right) (defScope s_parts_right) .none kV_parts_right dc_parts_right pm_parts_right an_parts_right cd_parts_right ct_parts_right) f_due (PySem.W.fnOf "_law_due" "_law_due" (defArgs s_due) (defBody s_due) (defScope s_due) .none kV_due dc_due pm_due an_due cd_due ct_due) f_sure_right (PySem.W.fnOf "_law_sure_right" "_law_sure_right" (defArgs s_sure_right) (defBody s_sure_right) (defScope s_sure_right) .none kV_sure_right dc_sure_right pm_sure_right an_sure_right cd_sure_right ct_sure_right) f_put_due (PySem.W.fnOf "_law_put_due" "_law_put_due" (defArgs s_put_due) (defBody s_put_due) (defScope s_put_due) .none kV_put_due dc_put_due pm_put_due an_put_due cd_put_due ct_put_due) f_put (PySem.W.fnOf "_law_put" "_law_put" (defArgs s_put) (defBody s_put) (defScope s_put) .none kV_put dc_put pm_put an_put cd_put ct_put) f_drop (PySem.W.fnOf "_law_drop" "_law_drop" (defArgs s_drop) (defBody s_drop) (defScope s_drop) .none kV_drop dc_drop pm_drop an_drop cd_drop ct_drop) f_ask (PySem.W.fnOf "_law_ask" "_law_ask" (defArgs s_ask) (defBody s_ask) (defScope s_ask) .none kV_ask dc_ask pm_ask an_ask cd_ask ct_ask) f_filled (PySem.W.fnOf "_law_filled" "_law_filled" (defArgs s_filled) (defBody s_filled) (defScope s_filled) .none kV_filled dc_filled pm_filled an_filled cd_filled ct_filled) f_deed (PySem.W.fnOf "_law_deed" "_law_deed" (defArgs s_deed) (defBody s_deed) (defScope s_deed) .none kV_deed dc_deed pm_deed an_deed cd_deed ct_deed) f_forty (PySem.W.fnOf "_law_forty" "_law_forty" (defArgs s_forty) (defBody s_forty) (defScope s_forty) .none kV_forty dc_forty pm_forty an_forty cd_forty ct_forty) f_no_watch (PySem.W.fnOf "_law_no_watch" "_law_no_watch" (defArgs s_no_watch) (defBody s_no_watch) (defScope s_no_watch) .none kV_no_watch dc_no_watch pm_no_watch an_no_watch cd_no_watch ct_no_watch) fa (PySem.W.fnOf "law" "law" (defArgs s_law) (defBody s_law) (defScope s_law) .none kV_law dc_law pm_law an_law cd_law ct_law) f_W_init (PySem.W.fnOf "__init__" "Watch.__init__" (defArgs s_W_init) (defBody s_W_init) (defScope s_W_init) .none kV_W_init dc_W_init pm_W_init an_W_init cd_W_init ct_W_init) f_W_put (PySem.W.fnOf "put" "Watch.put" (defArgs s_W_put) (defBody s_W_put) (defScope s_W_put) .none kV_W_put dc_W_put pm_W_put an_W_put cd_W_put ct_W_put) f_W_drop (PySem.W.fnOf "drop" "Watch.drop" (defArgs s_W_drop) (defBody s_W_drop) (defScope s_W_drop) .none kV_W_drop dc_W_drop pm_W_drop an_W_drop cd_W_drop ct_W_drop) f_W_told (PySem.W.fnOf "told" "Watch.told" (defArgs s_W_told) (defBody s_W_told) (defScope s_W_told) (.ref T_W_told) kV_W_told dc_W_told pm_W_told an_W_told cd_W_told ct_W_told) c_StretchError c_BadName c_BadLetter c_BadOff c_TooEarly c_BadCount c_NoAgreement c_TooWide c_TooMany c_NoClock c_NoText c_Watch) := {
    checked := fl_mk X G a_checked l_checked k_checked e_checked (fun us hl => match us, hl with | [_], _ => rfl)
    is_name := fl_mk X G a_is_name l_is_name k_is_name e_is_name (fun us hl => match us, hl with | [_], _ => rfl)
    in_order := fl_mk X G a_in_order l_in_order k_in_order e_in_order (fun us hl => match us, hl with | [_, _], _ => rfl)
    check_off := fl_mk X G a_check_off l_check_off k_check_off e_check_off (fun us hl => match us, hl with | [_], _ => rfl)
    slack := fl_mk X G a_slack l_slack k_slack e_slack (fun us hl => match us, hl with | [_, _], _ => rfl)
    brought := fl_mk X G a_brought l_brought k_brought e_brought (fun us hl => match us, hl with | [_, _, _], _ => rfl)
    gathered := fl_mk X G a_gathered l_gathered k_gathered e_gathered (fun us hl => match us, hl with | [_, _, _], _ => rfl)
    common := fl_mk X G a_common l_common k_common e_common (fun us hl => match us, hl with | [_, _], _ => rfl)
    parts := fl_mk X G a_parts l_parts k_parts e_parts (fun us hl => match us, hl with | [_, _], _ => rfl)
    tallies := fl_mk X G a_tallies l_tallies k_tallies e_tallies (fun us hl => match us, hl with | [_], _ => rfl)
    sure := fd_mk X G a_sure l_sure k_sure e_sure d_sure (fun us hl => match us, hl with | [_, _, _, _], _ => ⟨_, rfl, rfl⟩) (fun us hl => match us, hl with | [_, _, _], _ => ⟨_, rfl, rfl⟩) (fun us v hl => match us, hl with | [_, _, _], _ => ⟨_, rfl, rfl⟩)
    most_wrong := fl_mk X G a_most_wrong l_most_wrong k_most_wrong e_most_wrong (fun us hl => match us, hl with | [_, _], _ => rfl)
    meets := fl_mk X G a_meets l_meets k_meets e_meets (fun us hl => match us, hl with | [_, _], _ => rfl)
    check_room := fl_mk X G a_check_room l_check_room k_check_room e_check_room (fun us hl => match us, hl with | [_, _], _ => rfl)
    whole := fl_mk X G a_whole l_whole k_whole e_whole (fun us hl => match us, hl with | [_], _ => rfl)
    cell_at := fl_mk X G a_cell_at l_cell_at k_cell_at e_cell_at (fun us hl => match us, hl with | [_, _], _ => rfl)
    mix := fl_mk X G a_mix l_mix k_mix e_mix (fun us hl => match us, hl with | [_, _], _ => rfl)
    big := fl_mk X G a_big l_big k_big e_big (fun us hl => match us, hl with | [_, _], _ => rfl)
    off := fl_mk X G a_off l_off k_off e_off (fun us hl => match us, hl with | [_], _ => rfl)
    w_slack := fl_mk X G a_w_slack l_w_slack k_w_slack e_w_slack (fun us hl => match us, hl with | [_, _], _ => rfl)
    w_brought := fl_mk X G a_w_brought l_w_brought k_w_brought e_w_brought (fun us hl => match us, hl with | [_, _, _], _ => rfl)
    kind := fl_mk X G a_kind l_kind k_kind e_kind (fun us hl => match us, hl with | [_], _ => rfl)
    word := fl_mk X G a_word l_word k_word e_word (fun us hl => match us, hl with | [_, _], _ => rfl)
    names := fl_mk X G a_names l_names k_names e_names (fun us hl => match us, hl with | [_], _ => rfl)
    letter := fl_mk X G a_letter l_letter k_letter e_letter (fun us hl => match us, hl with | [_, _, _], _ => rfl)
    w_gathered := fl_mk X G a_w_gathered l_w_gathered k_w_gathered e_w_gathered (fun us hl => match us, hl with | [_, _, _], _ => rfl)
    many := fl_mk X G a_many l_many k_many e_many (fun us hl => match us, hl with | [_, _], _ => rfl)
    lows := fl_mk X G a_lows l_lows k_lows e_lows (fun us hl => match us, hl with | [_], _ => rfl)
    edges := fl_mk X G a_edges l_edges k_edges e_edges (fun us hl => match us, hl with | [_], _ => rfl)
    parts_right := fl_mk X G a_parts_right l_parts_right k_parts_right e_parts_right (fun us hl => match us, hl with | [_, _, _], _ => rfl)
    due := fl_mk X G a_due l_due k_due e_due (fun us hl => match us, hl with | [_, _, _, _], _ => rfl)
    sure_right := fl_mk X G a_sure_right l_sure_right k_sure_right e_sure_right (fun us hl => match us, hl with | [_, _, _, _, _], _ => rfl)
    put_due := fl_mk X G a_put_due l_put_due k_put_due e_put_due (fun us hl => match us, hl with | [_, _], _ => rfl)
    put := fl_mk X G a_put l_put k_put e_put (fun us hl => match us, hl with | [_, _, _], _ => rfl)
    drop := fl_mk X G a_drop l_drop k_drop e_drop (fun us hl => match us, hl with | [_, _, _], _ => rfl)
    ask := fl_mk X G a_ask l_ask k_ask e_ask (fun us hl => match us, hl with | [_, _, _, _, _], _ => rfl)
    filled := fl_mk X G a_filled l_filled k_filled e_filled (fun us hl => match us, hl with | [_, _, _, _], _ => rfl)
    deed := fl_mk X G a_deed l_deed k_deed e_deed (fun us hl => match us, hl with | [_, _, _, _, _, _], _ => rfl)
    forty := fl_mk X G a_forty l_forty k_forty e_forty (fun us hl => match us, hl with | [_, _, _, _], _ => rfl)
    no_watch := fl_mk X G a_no_watch l_no_watch k_no_watch e_no_watch (fun us hl => match us, hl with | [_], _ => rfl)
    law := fl_mk X G a_law l_law k_law e_law (fun us hl => match us, hl with | [_], _ => rfl)
    F_W_init := fun_mk l_W_init k_W_init e_W_init
    b_W_init := .all (fun us hl => match us, hl with | [_, _], _ => rfl)
    mk_Watch := ⟨mk_Watch, a_W_init, i_W_init, kc_Watch⟩
    cl_Watch := ⟨pg_Watch, hd_Watch, po_Watch, sa_Watch⟩
    g_Watch := PySem.W.mg_of X G gc_Watch
    na_letters := na_letters
    na_off := na_off
    W_put := ⟨fun_mk l_W_put k_W_put e_W_put, ⟨a_W_put, i_W_put, e_W_put⟩, .all (fun us hl => match us, hl with | [_, _], _ => rfl)⟩
    W_drop := ⟨fun_mk l_W_drop k_W_drop e_W_drop, ⟨a_W_drop, i_W_drop, e_W_drop⟩, .all (fun us hl => match us, hl with | [_, _], _ => rfl)⟩
    W_told := md_mk a_W_told i_W_told l_W_told k_W_told e_W_told d_W_told (fun us hl => match us, hl with | [_, _, _], _ => ⟨_, rfl, rfl⟩) (fun us hl => match us, hl with | [_, _], _ => ⟨_, rfl, rfl⟩) (fun us v hl => match us, hl with | [_, _], _ => ⟨_, rfl, rfl⟩)
    StretchError := ⟨PySem.W.mg_of X G n_StretchError, x_StretchError, h_StretchError, s_StretchError, t_StretchError⟩
    BadName := ⟨PySem.W.mg_of X G n_BadName, x_BadName, h_BadName, s_BadName, t_BadName⟩
    BadLetter := ⟨PySem.W.mg_of X G n_BadLetter, x_BadLetter, h_BadLetter, s_BadLetter, t_BadLetter⟩
    BadOff := ⟨PySem.W.mg_of X G n_BadOff, x_BadOff, h_BadOff, s_BadOff, t_BadOff⟩
    TooEarly := ⟨PySem.W.mg_of X G n_TooEarly, x_TooEarly, h_TooEarly, s_TooEarly, t_TooEarly⟩
    BadCount := ⟨PySem.W.mg_of X G n_BadCount, x_BadCount, h_BadCount, s_BadCount, t_BadCount⟩
    NoAgreement := ⟨PySem.W.mg_of X G n_NoAgreement, x_NoAgreement, h_NoAgreement, s_NoAgreement, t_NoAgreement⟩
    TooWide := ⟨PySem.W.mg_of X G n_TooWide, x_TooWide, h_TooWide, s_TooWide, t_TooWide⟩
    TooMany := ⟨PySem.W.mg_of X G n_TooMany, x_TooMany, h_TooMany, s_TooMany, t_TooMany⟩
    NoClock := ⟨PySem.W.mg_of X G n_NoClock, x_NoClock, h_NoClock, s_NoClock, t_NoClock⟩
    NoText := ⟨PySem.W.mg_of X G n_NoText, x_NoText, h_NoText, s_NoText, t_NoText⟩
    kd_BadName := kd_mk u_BadName (exm_sub s_StretchError d_S t_StretchError w_BadName) v_BadName q_BadName_0 q_BadName_1 q_BadName_2 q_BadName_3 q_BadName_4 q_BadName_5 q_BadName_6 q_BadName_7 q_BadName_8 q_BadName_9
    kd_BadLetter := kd_mk u_BadLetter (exm_sub s_StretchError d_S t_StretchError w_BadLetter) v_BadLetter q_BadLetter_0 q_BadLetter_1 q_BadLetter_2 q_BadLetter_3 q_BadLetter_4 q_BadLetter_5 q_BadLetter_6 q_BadLetter_7 q_BadLetter_8 q_BadLetter_9
    kd_BadOff := kd_mk u_BadOff (exm_sub s_StretchError d_S t_StretchError w_BadOff) v_BadOff q_BadOff_0 q_BadOff_1 q_BadOff_2 q_BadOff_3 q_BadOff_4 q_BadOff_5 q_BadOff_6 q_BadOff_7 q_BadOff_8 q_BadOff_9
    kd_TooEarly := kd_mk u_TooEarly (exm_sub s_StretchError d_S t_StretchError w_TooEarly) v_TooEarly q_TooEarly_0 q_TooEarly_1 q_TooEarly_2 q_TooEarly_3 q_TooEarly_4 q_TooEarly_5 q_TooEarly_6 q_TooEarly_7 q_TooEarly_8 q_TooEarly_9
    kd_BadCount := kd_mk u_BadCount (exm_sub s_StretchError d_S t_StretchError w_BadCount) v_BadCount q_BadCount_0 q_BadCount_1 q_BadCount_2 q_BadCount_3 q_BadCount_4 q_BadCount_5 q_BadCount_6 q_BadCount_7 q_BadCount_8 q_BadCount_9
    kd_NoAgreement := kd_mk u_NoAgreement (exm_sub s_StretchError d_S t_StretchError w_NoAgreement) v_NoAgreement q_NoAgreement_0 q_NoAgreement_1 q_NoAgreement_2 q_NoAgreement_3 q_NoAgreement_4 q_NoAgreement_5 q_NoAgreement_6 q_NoAgreement_7 q_NoAgreement_8 q_NoAgreement_9
    kd_TooMany := kd_mk u_TooMany (exm_sub s_StretchError d_S t_StretchError w_TooMany) v_TooMany q_TooMany_0 q_TooMany_1 q_TooMany_2 q_TooMany_3 q_TooMany_4 q_TooMany_5 q_TooMany_6 q_TooMany_7 q_TooMany_8 q_TooMany_9
    kd_NoClock := kd_mk u_NoClock (exm_sub s_StretchError d_S t_StretchError w_NoClock) v_NoClock q_NoClock_0 q_NoClock_1 q_NoClock_2 q_NoClock_3 q_NoClock_4 q_NoClock_5 q_NoClock_6 q_NoClock_7 q_NoClock_8 q_NoClock_9
    b_all := PySem.W.mg_none_of X G b_all
    b_len := PySem.W.mg_none_of X G b_len
    b_max := PySem.W.mg_none_of X G b_max
    b_min := PySem.W.mg_none_of X G b_min
    b_list := PySem.W.mg_none_of X G b_list
    b_sorted := PySem.W.mg_none_of X G b_sorted
    b_any := PySem.W.mg_none_of X G b_any
    b_isinstance := PySem.W.mg_none_of X G b_isinstance
    b_bool := PySem.W.mg_none_of X G b_bool
    b_int := PySem.W.mg_none_of X G b_int
    b_ValueError := PySem.W.mg_none_of X G b_ValueError
    b_range := PySem.W.mg_none_of X G b_range
    b_tuple := PySem.W.mg_none_of X G b_tuple
    b_set := PySem.W.mg_none_of X G b_set
    c_LONGEST_NAME := ⟨_, PySem.W.mg_of X G m_LONGEST_NAME⟩
    c_GREATEST_NUMBER := ⟨_, PySem.W.mg_of X G m_GREATEST_NUMBER⟩
    c_GREATEST_OFF := ⟨_, PySem.W.mg_of X G m_GREATEST_OFF⟩
    c_MOST_LETTERS := ⟨_, PySem.W.mg_of X G m_MOST_LETTERS⟩
    c_MOST_NAMES := ⟨_, PySem.W.mg_of X G m_MOST_NAMES⟩
    h_tab_is_name := rfl
    h_tab_meets := rfl }
  obtain ⟨e1_is_name, e2_is_name⟩ := tabs_is_name _ _ _ _ _ _ _ _ _ (PySem.W.mg_of X G a_is_name) l_is_name rfl rfl j_obj_is_name j_at_is_name
  obtain ⟨e1_meets, e2_meets⟩ := tabs_meets _ _ _ _ _ _ _ _ _ (PySem.W.mg_of X G a_meets) l_meets rfl rfl j_obj_meets j_at_meets
  refine ⟨_, [(k_tab_is_name, P_tab_is_name), (k_tab_meets, P_tab_meets)], spLawT2 K P_tab_is_name P_tab_meets, fun p hp => ?_, fun p hp => ?_, fun p hp => ?_, fun s v => .of_eq rfl, fun H a ns hl _ hH hS => ⟨a, ns, rfl, hS, hl, tab_nil (hH (k_tab_is_name, P_tab_is_name) (.head _)), tab_nil (hH (k_tab_meets, P_tab_meets) (.tail _ (.head _))), fun _ => rfl⟩, fun base _ _ hT => ok_law T (let t := hT (k_tab_is_name, P_tab_is_name) (.head _); ⟨t.code, t.bm, t.gP⟩) (let t := hT (k_tab_meets, P_tab_meets) (.tail _ (.head _)); ⟨t.code, t.bm, t.gP⟩)⟩
  · rcases List.mem_cons.mp hp with rfl | hp
    · exact e1_is_name
    · rw [List.mem_singleton] at hp; subst hp; exact e1_meets
  · rcases List.mem_cons.mp hp with rfl | hp
    · exact j_none_is_name
    · rw [List.mem_singleton] at hp; subst hp; exact j_none_meets
  · rcases List.mem_cons.mp hp with rfl | hp
    · exact e2_is_name
    · rw [List.mem_singleton] at hp; subst hp; exact e2_meets
theorem walk {l : PySem.W.OpenLaw} {q : Program} {loose : List Str} {XP : (Str → Option Value) → Heap → Prop} {YP : World → Heap → Prop} {d : DefRec} {K : Params → PySem.W.Frag} (hn : l.most = some 63) (hdf : d.params.defaults = [])
    (hrec : ((recsOf q).any fun e => e.name == "is_name") = true) (hrec2 : ((recsOf q).any fun e => e.name == "meets") = true) (hY : ∀ (w : World) (h : Heap), YP w h → (K w.params).In h)
    (F : ∀ (w : World) (mg : Str → Option Value) (fa : Addr) (h : Heap), (K w.params).In h → h.Ns mainGlobals mg → mg d.name = some (.ref fa) → TabOf (K w.params) mg h "is_name" → TabOf (K w.params) mg h "meets" → LamX.LawAtS l w (K w.params) CX0 8 63 "_law_script" mg fa h) :
    PySem.W.WalkO q loose XP YP l.row.toRowW d [] (fun f vs => PySem.call f vs) :=
  walk_tab2 (n := 63) (k := 8) (x := "_law_script") (nm := "is_name") (nm2 := "meets") (CX := fun _ => CX0) hn (by decide) hdf ⟨rfl, by decide, by decide⟩ hrec hrec2 hY F fun _ _ _ _ _ z => z
end Ts.k10
open PySem PySem.W PyProof.Rows
set_option maxRecDepth 100000 in
set_option maxHeartbeats 0 in
theorem PySem.Challenge.cw_timestretch_k10_watches_kept_holds : PySem.Challenge.rw_timestretch_k10_watches_kept.Holds := by
  w_on; o_law; k_head; (case hw => w_witness2)
  k_fill
  refine Ts.k10.walk (l := PySem.Challenge.rw_timestretch_k10_watches_kept) rfl rfl rfl rfl (fun w h Y => PySem.W.kIn_of Y) ?F
  case F =>
    intro w mg fa h KX G hmg tabs_is_name tabs_meets
    refine' Ts.k10.all_mk KX G hmg tabs_is_name tabs_meets ?a_checked ?l_checked ?k_checked ?e_checked ?a_is_name ?l_is_name ?k_is_name ?e_is_name ?a_in_order ?l_in_order ?k_in_order ?e_in_order ?a_check_off ?l_check_off ?k_check_off ?e_check_off ?a_slack ?l_slack ?k_slack ?e_slack ?a_brought ?l_brought ?k_brought ?e_brought ?a_gathered ?l_gathered ?k_gathered ?e_gathered ?a_common ?l_common ?k_common ?e_common ?a_parts ?l_parts ?k_parts ?e_parts ?a_tallies ?l_tallies ?k_tallies ?e_tallies ?a_sure ?l_sure ?k_sure ?e_sure ?d_sure ?a_most_wrong ?l_most_wrong ?k_most_wrong ?e_most_wrong ?a_meets ?l_meets ?k_meets ?e_meets ?a_check_room ?l_check_room ?k_check_room ?e_check_room ?a_whole ?l_whole ?k_whole ?e_whole ?a_cell_at ?l_cell_at ?k_cell_at ?e_cell_at ?a_mix ?l_mix ?k_mix ?e_mix ?a_big ?l_big ?k_big ?e_big ?a_off ?l_off ?k_off ?e_off ?a_w_slack ?l_w_slack ?k_w_slack ?e_w_slack ?a_w_brought ?l_w_brought ?k_w_brought ?e_w_brought ?a_kind ?l_kind ?k_kind ?e_kind ?a_word ?l_word ?k_word ?e_word ?a_names ?l_names ?k_names ?e_names ?a_letter ?l_letter ?k_letter ?e_letter ?a_w_gathered ?l_w_gathered ?k_w_gathered ?e_w_gathered ?a_many ?l_many ?k_many ?e_many ?a_lows ?l_lows ?k_lows ?e_lows ?a_edges ?l_edges ?k_edges ?e_edges ?a_parts_right ?l_parts_right ?k_parts_right ?e_parts_right ?a_due ?l_due ?k_due ?e_due ?a_sure_right ?l_sure_right ?k_sure_right ?e_sure_right ?a_put_due ?l_put_due ?k_put_due ?e_put_due ?a_put ?l_put ?k_put ?e_put ?a_drop ?l_drop ?k_drop ?e_drop ?a_ask ?l_ask ?k_ask ?e_ask ?a_filled ?l_filled ?k_filled ?e_filled ?a_deed ?l_deed ?k_deed ?e_deed ?a_forty ?l_forty ?k_forty ?e_forty ?a_no_watch ?l_no_watch ?k_no_watch ?e_no_watch ?a_law ?l_law ?k_law ?e_law ?a_W_init ?i_W_init ?l_W_init ?k_W_init ?e_W_init ?a_W_put ?i_W_put ?l_W_put ?k_W_put ?e_W_put ?a_W_drop ?i_W_drop ?l_W_drop ?k_W_drop ?e_W_drop ?a_W_told ?i_W_told ?l_W_told ?k_W_told ?e_W_told ?d_W_told ?pg_Watch ?hd_Watch ?po_Watch ?sa_Watch ?mk_Watch ?kc_Watch ?gc_Watch ?na_letters ?na_off ?n_StretchError ?x_StretchError ?h_StretchError ?s_StretchError ?t_StretchError ?n_BadName ?x_BadName ?h_BadName ?s_BadName ?t_BadName ?n_BadLetter ?x_BadLetter ?h_BadLetter ?s_BadLetter ?t_BadLetter ?n_BadOff ?x_BadOff ?h_BadOff ?s_BadOff ?t_BadOff ?n_TooEarly ?x_TooEarly ?h_TooEarly ?s_TooEarly ?t_TooEarly ?n_BadCount ?x_BadCount ?h_BadCount ?s_BadCount ?t_BadCount ?n_NoAgreement ?x_NoAgreement ?h_NoAgreement ?s_NoAgreement ?t_NoAgreement ?n_TooWide ?x_TooWide ?h_TooWide ?s_TooWide ?t_TooWide ?n_TooMany ?x_TooMany ?h_TooMany ?s_TooMany ?t_TooMany ?n_NoClock ?x_NoClock ?h_NoClock ?s_NoClock ?t_NoClock ?n_NoText ?x_NoText ?h_NoText ?s_NoText ?t_NoText ?u_BadName ?w_BadName ?v_BadName ?q_BadName_0 ?q_BadName_1 ?q_BadName_2 ?q_BadName_3 ?q_BadName_4 ?q_BadName_5 ?q_BadName_6 ?q_BadName_7 ?q_BadName_8 ?q_BadName_9 ?u_BadLetter ?w_BadLetter ?v_BadLetter ?q_BadLetter_0 ?q_BadLetter_1 ?q_BadLetter_2 ?q_BadLetter_3 ?q_BadLetter_4 ?q_BadLetter_5 ?q_BadLetter_6 ?q_BadLetter_7 ?q_BadLetter_8 ?q_BadLetter_9 ?u_BadOff ?w_BadOff ?v_BadOff ?q_BadOff_0 ?q_BadOff_1 ?q_BadOff_2 ?q_BadOff_3 ?q_BadOff_4 ?q_BadOff_5 ?q_BadOff_6 ?q_BadOff_7 ?q_BadOff_8 ?q_BadOff_9 ?u_TooEarly ?w_TooEarly ?v_TooEarly ?q_TooEarly_0 ?q_TooEarly_1 ?q_TooEarly_2 ?q_TooEarly_3 ?q_TooEarly_4 ?q_TooEarly_5 ?q_TooEarly_6 ?q_TooEarly_7 ?q_TooEarly_8 ?q_TooEarly_9 ?u_BadCount ?w_BadCount ?v_BadCount ?q_BadCount_0 ?q_BadCount_1 ?q_BadCount_2 ?q_BadCount_3 ?q_BadCount_4 ?q_BadCount_5 ?q_BadCount_6 ?q_BadCount_7 ?q_BadCount_8 ?q_BadCount_9 ?u_NoAgreement ?w_NoAgreement ?v_NoAgreement ?q_NoAgreement_0 ?q_NoAgreement_1 ?q_NoAgreement_2 ?q_NoAgreement_3 ?q_NoAgreement_4 ?q_NoAgreement_5 ?q_NoAgreement_6 ?q_NoAgreement_7 ?q_NoAgreement_8 ?q_NoAgreement_9 ?u_TooMany ?w_TooMany ?v_TooMany ?q_TooMany_0 ?q_TooMany_1 ?q_TooMany_2 ?q_TooMany_3 ?q_TooMany_4 ?q_TooMany_5 ?q_TooMany_6 ?q_TooMany_7 ?q_TooMany_8 ?q_TooMany_9 ?u_NoClock ?w_NoClock ?v_NoClock ?q_NoClock_0 ?q_NoClock_1 ?q_NoClock_2 ?q_NoClock_3 ?q_NoClock_4 ?q_NoClock_5 ?q_NoClock_6 ?q_NoClock_7 ?q_NoClock_8 ?q_NoClock_9 ?d_S ?b_all ?b_len ?b_max ?b_min ?b_list ?b_sorted ?b_any ?b_isinstance ?b_bool ?b_int ?b_ValueError ?b_range ?b_tuple ?b_set ?m_LONGEST_NAME ?m_GREATEST_NUMBER ?m_GREATEST_OFF ?m_MOST_LETTERS ?m_MOST_NAMES ?j_code_is_name ?j_obj_is_name ?j_at_is_name ?j_none_is_name ?j_code_meets ?j_obj_meets ?j_at_meets ?j_none_meets
    (case gc_Watch => k_is)
    (case a_checked => k_is)
    (case l_checked => k_is)
    (case k_checked => k_is)
    (case e_checked => k_is)
    (case a_is_name => k_is)
    (case l_is_name => k_is)
    (case k_is_name => k_is)
    (case e_is_name => k_is)
    (case a_in_order => k_is)
    (case l_in_order => k_is)
    (case k_in_order => k_is)
    (case e_in_order => k_is)
    (case a_check_off => k_is)
    (case l_check_off => k_is)
    (case k_check_off => k_is)
    (case e_check_off => k_is)
    (case a_slack => k_is)
    (case l_slack => k_is)
    (case k_slack => k_is)
    (case e_slack => k_is)
    (case a_brought => k_is)
    (case l_brought => k_is)
    (case k_brought => k_is)
    (case e_brought => k_is)
    (case a_gathered => k_is)
    (case l_gathered => k_is)
    (case k_gathered => k_is)
    (case e_gathered => k_is)
    (case a_common => k_is)
    (case l_common => k_is)
    (case k_common => k_is)
    (case e_common => k_is)
    (case a_parts => k_is)
    (case l_parts => k_is)
    (case k_parts => k_is)
    (case e_parts => k_is)
    (case a_tallies => k_is)
    (case l_tallies => k_is)
    (case k_tallies => k_is)
    (case e_tallies => k_is)
    (case a_sure => k_is)
    (case l_sure => k_is)
    (case k_sure => k_is)
    (case e_sure => k_is)
    (case d_sure => k_is)
    (case a_most_wrong => k_is)
    (case l_most_wrong => k_is)
    (case k_most_wrong => k_is)
    (case e_most_wrong => k_is)
    (case a_meets => k_is)
    (case l_meets => k_is)
    (case k_meets => k_is)
    (case e_meets => k_is)
    (case a_check_room => k_is)
    (case l_check_room => k_is)
    (case k_check_room => k_is)
    (case e_check_room => k_is)
    (case a_whole => k_is)
    (case l_whole => k_is)
    (case k_whole => k_is)
    (case e_whole => k_is)
    (case a_cell_at => k_is)
    (case l_cell_at => k_is)
    (case k_cell_at => k_is)
    (case e_cell_at => k_is)
    (case a_mix => k_is)
    (case l_mix => k_is)
    (case k_mix => k_is)
    (case e_mix => k_is)
    (case a_big => k_is)
    (case l_big => k_is)
    (case k_big => k_is)
    (case e_big => k_is)
    (case a_off => k_is)
    (case l_off => k_is)
    (case k_off => k_is)
    (case e_off => k_is)
    (case a_w_slack => k_is)
    (case l_w_slack => k_is)
    (case k_w_slack => k_is)
    (case e_w_slack => k_is)
    (case a_w_brought => k_is)
    (case l_w_brought => k_is)
    (case k_w_brought => k_is)
    (case e_w_brought => k_is)
    (case a_kind => k_is)
    (case l_kind => k_is)
    (case k_kind => k_is)
    (case e_kind => k_is)
    (case a_word => k_is)
    (case l_word => k_is)
    (case k_word => k_is)
    (case e_word => k_is)
    (case a_names => k_is)
    (case l_names => k_is)
    (case k_names => k_is)
    (case e_names => k_is)
    (case a_letter => k_is)
    (case l_letter => k_is)
    (case k_letter => k_is)
    (case e_letter => k_is)
    (case a_w_gathered => k_is)
    (case l_w_gathered => k_is)
    (case k_w_gathered => k_is)
    (case e_w_gathered => k_is)
    (case a_many => k_is)
    (case l_many => k_is)
    (case k_many => k_is)
    (case e_many => k_is)
    (case a_lows => k_is)
    (case l_lows => k_is)
    (case k_lows => k_is)
    (case e_lows => k_is)
    (case a_edges => k_is)
    (case l_edges => k_is)
    (case k_edges => k_is)
    (case e_edges => k_is)
    (case a_parts_right => k_is)
    (case l_parts_right => k_is)
    (case k_parts_right => k_is)
    (case e_parts_right => k_is)
    (case a_due => k_is)
    (case l_due => k_is)
    (case k_due => k_is)
    (case e_due => k_is)
    (case a_sure_right => k_is)
    (case l_sure_right => k_is)
    (case k_sure_right => k_is)
    (case e_sure_right => k_is)
    (case a_put_due => k_is)
    (case l_put_due => k_is)
    (case k_put_due => k_is)
    (case e_put_due => k_is)
    (case a_put => k_is)
    (case l_put => k_is)
    (case k_put => k_is)
    (case e_put => k_is)
    (case a_drop => k_is)
    (case l_drop => k_is)
    (case k_drop => k_is)
    (case e_drop => k_is)
    (case a_ask => k_is)
    (case l_ask => k_is)
    (case k_ask => k_is)
    (case e_ask => k_is)
    (case a_filled => k_is)
    (case l_filled => k_is)
    (case k_filled => k_is)
    (case e_filled => k_is)
    (case a_deed => k_is)
    (case l_deed => k_is)
    (case k_deed => k_is)
    (case e_deed => k_is)
    (case a_forty => k_is)
    (case l_forty => k_is)
    (case k_forty => k_is)
    (case e_forty => k_is)
    (case a_no_watch => k_is)
    (case l_no_watch => k_is)
    (case k_no_watch => k_is)
    (case e_no_watch => k_is)
    (case a_law => k_is)
    (case l_law => k_is)
    (case k_law => k_is)
    (case e_law => k_is)
    (case a_W_init => k_is)
    (case i_W_init => k_is)
    (case l_W_init => k_is)
    (case k_W_init => k_is)
    (case e_W_init => k_is)
    (case a_W_put => k_is)
    (case i_W_put => k_is)
    (case l_W_put => k_is)
    (case k_W_put => k_is)
    (case e_W_put => k_is)
    (case a_W_drop => k_is)
    (case i_W_drop => k_is)
    (case l_W_drop => k_is)
    (case k_W_drop => k_is)
    (case e_W_drop => k_is)
    (case a_W_told => k_is)
    (case i_W_told => k_is)
    (case l_W_told => k_is)
    (case k_W_told => k_is)
    (case e_W_told => k_is)
    (case d_W_told => k_is)
    (case pg_Watch => k_is)
    (case hd_Watch => k_is)
    (case po_Watch => k_is)
    (case sa_Watch => k_is)
    (case mk_Watch => k_is)
    (case kc_Watch => k_is)
    (case na_letters => k_is)
    (case na_off => k_is)
    (case n_StretchError => k_is)
    (case x_StretchError => k_exc)
    (case h_StretchError => k_is)
    (case s_StretchError => k_is)
    (case t_StretchError => k_is)
    (case n_BadName => k_is)
    (case x_BadName => k_exc)
    (case h_BadName => k_is)
    (case s_BadName => k_is)
    (case t_BadName => k_is)
    (case n_BadLetter => k_is)
    (case x_BadLetter => k_exc)
    (case h_BadLetter => k_is)
    (case s_BadLetter => k_is)
    (case t_BadLetter => k_is)
    (case n_BadOff => k_is)
    (case x_BadOff => k_exc)
    (case h_BadOff => k_is)
    (case s_BadOff => k_is)
    (case t_BadOff => k_is)
    (case n_TooEarly => k_is)
    (case x_TooEarly => k_exc)
    (case h_TooEarly => k_is)
    (case s_TooEarly => k_is)
    (case t_TooEarly => k_is)
    (case n_BadCount => k_is)
    (case x_BadCount => k_exc)
    (case h_BadCount => k_is)
    (case s_BadCount => k_is)
    (case t_BadCount => k_is)
    (case n_NoAgreement => k_is)
    (case x_NoAgreement => k_exc)
    (case h_NoAgreement => k_is)
    (case s_NoAgreement => k_is)
    (case t_NoAgreement => k_is)
    (case n_TooWide => k_is)
    (case x_TooWide => k_exc)
    (case h_TooWide => k_is)
    (case s_TooWide => k_is)
    (case t_TooWide => k_is)
    (case n_TooMany => k_is)
    (case x_TooMany => k_exc)
    (case h_TooMany => k_is)
    (case s_TooMany => k_is)
    (case t_TooMany => k_is)
    (case n_NoClock => k_is)
    (case x_NoClock => k_exc)
    (case h_NoClock => k_is)
    (case s_NoClock => k_is)
    (case t_NoClock => k_is)
    (case n_NoText => k_is)
    (case x_NoText => k_exc)
    (case h_NoText => k_is)
    (case s_NoText => k_is)
    (case t_NoText => k_is)
    (case u_BadName => constructor <;> k_is)
    (case w_BadName => k_is)
    (case v_BadName => kit_is)
    (case q_BadName_0 => kit_is)
    (case q_BadName_1 => kit_is)
    (case q_BadName_2 => kit_is)
    (case q_BadName_3 => kit_is)
    (case q_BadName_4 => kit_is)
    (case q_BadName_5 => kit_is)
    (case q_BadName_6 => kit_is)
    (case q_BadName_7 => kit_is)
    (case q_BadName_8 => kit_is)
    (case q_BadName_9 => kit_is)
    (case u_BadLetter => constructor <;> k_is)
    (case w_BadLetter => k_is)
    (case v_BadLetter => kit_is)
    (case q_BadLetter_0 => kit_is)
    (case q_BadLetter_1 => kit_is)
    (case q_BadLetter_2 => kit_is)
    (case q_BadLetter_3 => kit_is)
    (case q_BadLetter_4 => kit_is)
    (case q_BadLetter_5 => kit_is)
    (case q_BadLetter_6 => kit_is)
    (case q_BadLetter_7 => kit_is)
    (case q_BadLetter_8 => kit_is)
    (case q_BadLetter_9 => kit_is)
    (case u_BadOff => constructor <;> k_is)
    (case w_BadOff => k_is)
    (case v_BadOff => kit_is)
    (case q_BadOff_0 => kit_is)
    (case q_BadOff_1 => kit_is)
    (case q_BadOff_2 => kit_is)
    (case q_BadOff_3 => kit_is)
    (case q_BadOff_4 => kit_is)
    (case q_BadOff_5 => kit_is)
    (case q_BadOff_6 => kit_is)
    (case q_BadOff_7 => kit_is)
    (case q_BadOff_8 => kit_is)
    (case q_BadOff_9 => kit_is)
    (case u_TooEarly => constructor <;> k_is)
    (case w_TooEarly => k_is)
    (case v_TooEarly => kit_is)
    (case q_TooEarly_0 => kit_is)
    (case q_TooEarly_1 => kit_is)
    (case q_TooEarly_2 => kit_is)
    (case q_TooEarly_3 => kit_is)
    (case q_TooEarly_4 => kit_is)
    (case q_TooEarly_5 => kit_is)
    (case q_TooEarly_6 => kit_is)
    (case q_TooEarly_7 => kit_is)
    (case q_TooEarly_8 => kit_is)
    (case q_TooEarly_9 => kit_is)
    (case u_BadCount => constructor <;> k_is)
    (case w_BadCount => k_is)
    (case v_BadCount => kit_is)
    (case q_BadCount_0 => kit_is)
    (case q_BadCount_1 => kit_is)
    (case q_BadCount_2 => kit_is)
    (case q_BadCount_3 => kit_is)
    (case q_BadCount_4 => kit_is)
    (case q_BadCount_5 => kit_is)
    (case q_BadCount_6 => kit_is)
    (case q_BadCount_7 => kit_is)
    (case q_BadCount_8 => kit_is)
    (case q_BadCount_9 => kit_is)
    (case u_NoAgreement => constructor <;> k_is)
    (case w_NoAgreement => k_is)
    (case v_NoAgreement => kit_is)
    (case q_NoAgreement_0 => kit_is)
    (case q_NoAgreement_1 => kit_is)
    (case q_NoAgreement_2 => kit_is)
    (case q_NoAgreement_3 => kit_is)
    (case q_NoAgreement_4 => kit_is)
    (case q_NoAgreement_5 => kit_is)
    (case q_NoAgreement_6 => kit_is)
    (case q_NoAgreement_7 => kit_is)
    (case q_NoAgreement_8 => kit_is)
    (case q_NoAgreement_9 => kit_is)
    (case u_TooMany => constructor <;> k_is)
    (case w_TooMany => k_is)
    (case v_TooMany => kit_is)
    (case q_TooMany_0 => kit_is)
    (case q_TooMany_1 => kit_is)
    (case q_TooMany_2 => kit_is)
    (case q_TooMany_3 => kit_is)
    (case q_TooMany_4 => kit_is)
    (case q_TooMany_5 => kit_is)
    (case q_TooMany_6 => kit_is)
    (case q_TooMany_7 => kit_is)
    (case q_TooMany_8 => kit_is)
    (case q_TooMany_9 => kit_is)
    (case u_NoClock => constructor <;> k_is)
    (case w_NoClock => k_is)
    (case v_NoClock => kit_is)
    (case q_NoClock_0 => kit_is)
    (case q_NoClock_1 => kit_is)
    (case q_NoClock_2 => kit_is)
    (case q_NoClock_3 => kit_is)
    (case q_NoClock_4 => kit_is)
    (case q_NoClock_5 => kit_is)
    (case q_NoClock_6 => kit_is)
    (case q_NoClock_7 => kit_is)
    (case q_NoClock_8 => kit_is)
    (case q_NoClock_9 => kit_is)
    (case d_S => k_is)
    (case b_all => k_is)
    (case b_len => k_is)
    (case b_max => k_is)
    (case b_min => k_is)
    (case b_list => k_is)
    (case b_sorted => k_is)
    (case b_any => k_is)
    (case b_isinstance => k_is)
    (case b_bool => k_is)
    (case b_int => k_is)
    (case b_ValueError => k_is)
    (case b_range => k_is)
    (case b_tuple => k_is)
    (case b_set => k_is)
    (case m_LONGEST_NAME => k_is)
    (case m_GREATEST_NUMBER => k_is)
    (case m_GREATEST_OFF => k_is)
    (case m_MOST_LETTERS => k_is)
    (case m_MOST_NAMES => k_is)
    (case j_code_is_name => rfl)
    (case j_obj_is_name => k_is)
    (case j_at_is_name => rfl)
    (case j_none_is_name => kernel_rfl)
    (case j_code_meets => rfl)
    (case j_obj_meets => k_is)
    (case j_at_meets => rfl)
    (case j_none_meets => kernel_rfl)
