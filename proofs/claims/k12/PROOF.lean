import PyProof.Rows.All
import Wide.All
import OpenK.AllK
import Wide.FinOn
import PyProof.EqAt
import PyProof.EqKinds
import PyProof.TupleCall
import HandS.ForMost
import HandS.ForExc
import HandS.HotCalls
import HandS.ExcIs
import HandS.IsInst
import HandS.NoneIn
import HandS.AnyAll
import HandS.EndTab
import HandS.EndOwn
import HandS.Comp
import PyProof.GenCompD
import HandS.Codes
import HandS.Text
import HandS.List
import HandS.Deep
import HandS.More
import HandS.SortInts
import HandS.ListItems
import HandS.Walk
import HandS.FStr
import HandS.Defaults
import HandS.CallSlots
import PySem.Challenge.RW_timestretch_k12_read
set_option Elab.async false
set_option linter.all false
set_option maxRecDepth 100000
set_option maxHeartbeats 4000000
section
/-! A caught error handed to a def: the def's promise speaks of the error's own class. -/
namespace Ts
open PySem PySem.Spec PyProof.Rows L2
abbrev St := L2.St

/-- a promise about a caught error: its place, its class -/
abbrev SpE := Addr → Value → Sp

/-- the def at f, called within an except suite that holds the error -/
structure FnE (P : Program) (w : World) (K : PySem.W.Frag) (mg : Str → Option Value) (base : Heap) (k : Nat)
    (f : Addr) (fd : FuncData) (ps : List Str) (sp : SpE) : Prop where
  len : ∀ a c vs H Q E, sp a c vs H Q E → vs.length = ps.length
  run : ∀ (A : Around) (outer : List Env) (s : Shared) (H : Hp) (args : Args) (us : List Value) (vs : List V) (Q : VK) (E : XK)
    (p : Addr × Obj) (c : Value),
    L2H.RoomH k A → L2H.PinOk outer H s p → Zc c none p.2 → (∃ v, p.2.data = .fields v) →
    Env0 P w K mg base A outer s H → BindsTo s fd args (ps.zip us) → Vals vs us → sp p.1 c vs H Q E →
    codeAny (model P w) A (.call (.ref f) args) (CR CX0 outer P w H s Q E) s

theorem fnE_of {P : Program} {w : World} {K : PySem.W.Frag} {mg : Str → Option Value} {base : Heap} {k : Nat}
    {x qual : Str} {st : Stmt} {f : Addr} {fd : FuncData} {N ps : List Str} {sp : SpE}
    (F : Fun K x qual st f fd) (S : FnScope N ps (defScope st))
    (len : ∀ a c vs H Q E, sp a c vs H Q E → vs.length = ps.length)
    (body : ∀ (cdv : Value) (A : Around) (outer : List Env) (s : Shared) (H : Hp) (vs : List V) (Q : VK) (E : XK)
      (p : Addr × Obj) (c : Value), Zc c none p.2 → (∃ v, p.2.data = .fields v) →
      L2H.RoomH k (A.deeper (envOfC qual (defScope st) s.heap.objs.size f cdv)) → sp p.1 c vs H Q E →
      ∃ t, PSs (L2H.cxH CX0 P w K mg base N qual (defScope st) f cdv A outer s H E p) (defBody st) t ∧
        t { nx := fun _ H' => Q .non H', rt := Q } (start N vs) H) :
    FnE P w K mg base (k + 1) f fd ps sp := by
  obtain ⟨oc, od, kV, doc, pm, an, cdv, ct, osl, hfd, lk, hcd⟩ := F.ex
  subst hfd
  constructor
  · exact len
  intro A outer s H args us vs Q E p c hr hpin hz hf e0 hb r hsp
  have hl := len _ _ _ _ _ _ hsp
  have old : ∀ b o, base.get? b = some o → s.heap.get? b = some o := fun b o e => (e0.bs b o e).1
  have lim := e0.mod.nolimit.keeps old
  have kinds : ∀ y ∈ ps.zip us, (defScope st).names.lookup y.1 = some .local ∨
      ((defScope st).names.lookup y.1 = some .cell ∧
        ((cellsFrom (s.heap.objs.size + 1) (defScope st).names []).lookup y.1).isSome = true) := by
    rintro ⟨n, v⟩ hy
    cases S.par n (List.of_mem_zip hy).1 with
    | inl q => exact .inl q
    | inr q => exact .inr ⟨q, PySem.W.cellsFrom_some _ _ _ (.inl q)⟩
  refine codeAny_call_function hr.depth ((e0.mod.kin.keeps old) _ _ lk) rfl S.co S.gen rfl
    (PySem.W.codeRec_of (e0.mod.kin.keeps old) hcd) (hb _ _ _ _ ?_)
  refine wpAny_newFunctionEnv_cells S.kind kinds ?_
  intro env he s1 x1
  subst he
  refine ⟨lim.keeps x1.toInCall.keep, codeAny_func ?_⟩
  obtain ⟨t, ht, hq⟩ := body cdv A outer s H vs Q E p c hz hf (hr.deeper _) hsp
  have I := L2H.inv_startH (CX := CX0) (E := E) S hpin e0 hl r x1
  have goal := ht.run [] s1 (start N vs) H _ I hq
  refine wpAny_mono goal ?_ (fun _ _ z => z)
  intro fl s' hs
  have fin : ∀ {σ' : St} {H' : Hp} {v : V} {u : Value},
      Inv (L2H.cxH CX0 P w K mg base N qual (defScope st) f cdv A outer s H E p) [] σ' H' s' → RelV v u → Q v H' →
      CE outer P w H s Q u s' :=
    fun {_ H' v _} J rv q => ⟨v, H', J.os, J.bare, J.base, J.hok, rv, q⟩
  cases fl with
  | ret u => exact match hs with | ⟨_, _, _, J, rv, q⟩ => fin J rv q
  | next => exact match hs with | ⟨_, _, J, q⟩ => fin (v := V.non) (u := Value.none) J rfl q
  | brk => exact match hs with | ⟨_, _, _, q⟩ => q.elim
  | cont => exact match hs with | ⟨_, _, _, q⟩ => q.elim

/-- g(e, ..) in a suite that holds the error p -/
def tCallE (sp : SpE) (a : Addr) (c : Value) (d : Option Addr) (t : TA) : TE := fun σ H Q => t σ H fun vs H1 => d = none ∧ sp a c vs H1 Q E0
theorem pe_callE {X : Cx} {k : Nat} {f : Addr} {fd : FuncData} {ps : List Str} {sp : SpE} {x : Str} {q pos : Pos} {e : Expr} {es : List Expr} {t : TA} {p : Addr × Obj} {c : Value} {d : Option Addr}
    (F : FnE X.prog X.w X.K X.mg X.base k f fd ps sp) (hr : L2H.RoomH k X.A) (hp : p ∈ X.pn) (hz : Zc c d p.2) (hf : ∃ v, p.2.data = .fields v)
    (hm : X.mg x = some (.ref f)) (hk : PySem.W.keepIn X.K (.ref f) = true) (hb : Binds X.K fd ps [])
    (ha : PA X (e :: es) t) (hg : Gl X x := by rfl) (hdb : (x == ("__debug__" : Str)) = false := by decide)
    (he : starEach (e :: es) X.env = (false, eval e X.env) :: starEach es X.env := by rfl) (hpl : (backTo pos (starEach es X.env)).any (·.1) = false := by rfl) :
    PE X (.Call (.Name x q) (e :: es) [] pos) (tCallE sp p.1 c d t) := by
  constructor
  intro pins s σ H Q I h
  refine wpAny_Call_Name_kw (ld_glob I hg hm ?_ hdb)
  refine PySem.W.callWith_K (h₀ := X.base) I.ok.mod.kin hk (thn (ha.run pos pins s σ H _ I h) ?_) he hpl
  rintro us s1 ⟨vs, H1, I1, r, hd, w1⟩
  subst hd
  refine ⟨I1.kIn, ?_⟩
  have n1 : us.length = ps.length := by rw [← r.length]; exact F.len _ _ _ _ _ _ w1
  have b := hb s1 us I1.kIn (by rw [List.append_nil]; exact n1)
  rw [List.append_nil] at b
  have P1 := I1.pin p (List.mem_append_left _ hp)
  have ns : p.1 ∉ frs X.stack := fun hm => by
    cases List.mem_cons.mp (I1.stkSub p.1 hm) with
    | inl z => exact P1.2.2.1 z
    | inr z => exact P1.2.2.2.1 z
  refine wpAny_call (codeAny_mono (F.run X.A X.stack s1 H1 ⟨us, []⟩ us vs Q E0 p c hr ⟨P1.1, P1.2.1, ns, P1.2.2.2.2⟩ hz hf I1.env0 b r w1) ?_)
  intro r' s' hq
  cases r' with
  | error e => exact hq.elim
  | ok fl => cases fl with
    | ret u => exact I1.after hq
    | next => exact hq.elim
    | brk => exact hq.elim
    | cont => exact hq.elim

theorem rm_suite {j k : Nat} {A : Around} {v : Option Value} (hr : Room k A) (h : j ≤ k) : L2H.RoomH j (A.mark v) := L2H.RoomH.mono (k := k) ⟨hr.dp, hr.un⟩ h
/-- isinstance(e, c), e the error that X holds -/
theorem call_isP {X : Cx} {D : Addr} {p : Addr × Obj} (C : ExcC X.K D) (hp : p ∈ X.pn) (hz : Zc (.ref D) none p.2) (hf : ∃ v, p.2.data = .fields v) :
    CallR X (.builtin "isinstance") (rIsE X.K D p.1) := by
  rintro pins s σ H xs us Q I r ⟨c, cv, b, rfl, hcv, e, q⟩
  obtain ⟨a, oe⟩ := p
  match r with
  | .cons rx (.cons rt .nil) =>
    cases rx
    have ec := hcv _ rt
    subst ec
    have hget := (I.pin (a, oe) (List.mem_append_left _ hp)).1
    have J : PySem.W.InstAt s.heap a oe D none := by
      obtain ⟨v, hv⟩ := hf
      obtain ⟨h1, h2⟩ := hz
      obtain ⟨oc, od, oda, osl⟩ := oe
      dsimp only at hv h1 h2
      subst hv h1 h2
      exact ⟨hget, rfl, rfl, trivial⟩
    refine PySem.W.kia_one (PySem.W.handS_kitx_exc C.hg C.hk C.hs C.hd C.ha C.hn C.ht C.hm) I.kIn J e (fun z => nomatch z) ?_
    intro tk
    exact ⟨.bl b, H, I.kept (t' := tk) fun _ _ z => z, rfl, q⟩

/-- xs.count(y), flat items -/
def rCount (K : PySem.W.Frag) : V → List V → Hp → VK → Prop := fun x xs H Q => ∃ (a : Addr) (ys : List V) (y : V), x = .ref a ∧ xs = [y] ∧ SqL K H a ys ∧ flatV y = true ∧ ys.all flatV = true ∧ Q (.int ((ys.countP fun z => eqV z y : Nat) : Int)) H
theorem count_eqU {x : V} : ∀ {xs : List V} {us : List Value}, Vals xs us → xs.all flatV = true → us.countP (eqU x) = xs.countP fun y => eqV y x
  | _, _, .nil, _ => rfl
  | y :: xs, u :: us, .cons r t, f => by
    rw [List.all_cons, Bool.and_eq_true] at f
    rw [List.countP_cons, List.countP_cons, eqU_of r f.1, count_eqU t f.2]
theorem mt_count {X : Cx} : MtR X "list.count" (rCount X.K) := by
  rintro pins s σ H x xs v us Q I rx rxs ⟨a, ys, y, rfl, rfl, hs, fy, fys, q⟩
  cases rx
  match rxs with
  | .cons (b := uy) ry .nil =>
    obtain ⟨its, rv, ⟨⟨cls, dd, data, sl⟩, n, ho, hc, hdn, hd⟩, hlen⟩ := I.list hs
    simp only at hc hd
    subst hc hd
    refine call_meets PySem.F.slot_list_count ⟨_, ho, rfl⟩ PySem.F.entry_list_count (PySem.F.args_list_count_2 _ _) (SeqAt.list_countAt a its.toArray n dd sl uy (eqU y)) ⟨ho, ?_, ?_⟩
    · exact fun u hu => mem_eqAt ry fy rv fys u (by simpa using hu)
    · refine ⟨.int ((ys.countP fun z => eqV z y : Nat) : Int), H, I.tok _, ⟨s.toks, ?_⟩, q⟩
      rw [← count_eqU rv fys]
end Ts
end
section
namespace Ts
open PySem PySem.Spec PyProof.Rows L2

theorem pe_imp {X : Cx} {e : Expr} {t t' : TE} (h : PE X e t) (q : ∀ σ H Q, t' σ H Q → t σ H Q) : PE X e t' :=
  ⟨fun pins s σ H Q I w => h.run pins s σ H Q I (q σ H Q w)⟩
theorem opr_imp {X : Cx} {f : Value → Value → Sem Value} {r r' : R2} (h : OpR X f r) (q : ∀ x y H Q, r' x y H Q → r x y H Q) : OpR X f r' :=
  fun pins s σ H x y v u Q I rx ry w => h pins s σ H x y v u Q I rx ry (q x y H Q w)
theorem ixr_imp {X : Cx} {r r' : R2} (h : IxR X r) (q : ∀ x y H Q, r' x y H Q → r x y H Q) : IxR X r' :=
  fun value slice pins s σ H x y v u Q I rx ry w => h value slice pins s σ H x y v u Q I rx ry (q x y H Q w)

/-- an operation by a written number -/
def rByC (c : Int) (g : Int → V) : R2 := fun x y H Q => ∃ i, x = .int i ∧ y = .int c ∧ Q (g i) H
section
variable {X : Cx} {c : Int}
theorem op_modc (hc : (0 : Int) < c) : OpR X (binaryOp .Mod) (rByC c fun i => .int (i % c)) :=
  opr_imp op_mod fun _ _ _ _ h => match h with | ⟨i, e1, e2, q⟩ => ⟨i, c, e1, e2, hc, q⟩
theorem op_divc (hc : (0 : Int) < c) (h2 : c < 1073741824) : OpR X (binaryOp .FloorDiv) (rByC c fun i => .int (i / c)) :=
  opr_imp op_fdiv fun _ _ _ _ h => match h with | ⟨i, e1, e2, q⟩ => ⟨i, c, e1, e2, ⟨hc, h2⟩, q⟩
theorem op_mulc (hc : -(2 ^ 64) < c ∧ c < 2 ^ 64) : OpR X (binaryOp .Mult) (rByC c fun i => .int (i * c)) :=
  opr_imp op_mul fun _ _ _ _ h => match h with | ⟨i, e1, e2, q⟩ => ⟨i, c, e1, e2, Or.inr hc, q⟩
end
/-- c * e with a written number c -/
def rOfC (c : Int) (g : Int → V) : R2 := fun x y H Q => ∃ i, x = .int c ∧ y = .int i ∧ Q (g i) H
theorem op_cmul {X : Cx} {c : Int} (hc : -(2 ^ 64) < c ∧ c < 2 ^ 64) : OpR X (binaryOp .Mult) (rOfC c fun i => .int (c * i)) :=
  opr_imp op_mul fun _ _ _ _ h => match h with | ⟨i, e1, e2, q⟩ => ⟨c, i, e1, e2, Or.inl hc, q⟩
theorem pe_negc {X : Cx} {c : Int} {k : Nat} {p pos : Pos} : PE X (.UnaryOp .USub (.Constant (.int c) k p) pos) (tC (.int (-c))) :=
  pe_imp (pe_un un_neg pe_int) fun _ _ _ h => ⟨c, rfl, h⟩
theorem pe_powc {X : Cx} {n m : Int} {k k' : Nat} {p p' pos : Pos} (h0 : 0 ≤ m ∧ m ≤ 1000000 ∧ n.natAbs < 2 ^ 64) : PE X (.BinOp (.Constant (.int n) k p) .Pow (.Constant (.int m) k' p') pos) (tC (.int (n ^ m.toNat))) :=
  pe_imp (pe_op op_pow pe_int pe_int) fun _ _ _ h => ⟨n, m, rfl, rfl, h0, h⟩
theorem pe_pow12 {X : Cx} {k k' : Nat} {p p' pos : Pos} : PE X (.BinOp (.Constant (.int 10) k p) .Pow (.Constant (.int 12) k' p') pos) (tC (.int 1000000000000)) := pe_powc (by decide)
theorem pe_pow24 {X : Cx} {k k' : Nat} {p p' pos : Pos} : PE X (.BinOp (.Constant (.int 10) k p) .Pow (.Constant (.int 24) k' p') pos) (tC (.int 1000000000000000000000000)) := pe_powc (by decide)
theorem pe_pow40 {X : Cx} {k k' : Nat} {p p' pos : Pos} : PE X (.BinOp (.Constant (.int 10) k p) .Pow (.Constant (.int 40) k' p') pos) (tC (.int 10000000000000000000000000000000000000000)) := pe_powc (by decide)

theorem pe_gint {X : Cx} {x : Str} {c : Int} {t : Tok} {pos : Pos} (hm : X.mg x = some (.int c t)) (hg : Gl X x := by rfl) (hd : (x == ("__debug__" : Str)) = false := by decide) : PE X (.Name x pos) (tC (.int c)) := pe_glob hg hm ⟨_, rfl⟩ hd
theorem pe_gref {X : Cx} {x : Str} {C : Addr} {pos : Pos} (hm : X.mg x = some (.ref C)) (hg : Gl X x := by rfl) (hd : (x == ("__debug__" : Str)) = false := by decide) : PE X (.Name x pos) (tC (.ref C)) := pe_glob hg hm rfl hd
theorem pe_bty {X : Cx} {x : Str} {n : String} {pos : Pos} (hm : X.mg x = none) (hv : bootBuiltins x = some (.type n)) (hg : Gl X x := by rfl) (hn : x ≠ "__name__" := by decide) (hd : (x == ("__debug__" : Str)) = false := by decide) : PE X (.Name x pos) (tC (.ty n)) := pe_bltn hg hm hv rfl hn hd
/-! ### rules whose reading names K itself (under a binder X's own K is no answer) -/
section
variable {X : Cx} (K : PySem.W.Frag)
theorem ixL (h : X.K = K := by rfl) : IxR X (rIxL K) := h ▸ ix_list
theorem ixT (h : X.K = K := by rfl) : IxR X (rIxT K) := h ▸ ix_tup
theorem slL (h : X.K = K := by rfl) : SlR X (rSlL K) := h ▸ sl_list
theorem slT (h : X.K = K := by rfl) : SlR X (rSlT K) := h ▸ sl_tup
def rLenQ (K : PySem.W.Frag) : List V → Hp → VK → Prop := fun xs H Q => ∃ p ys, xs = [.ref p] ∧ (SqL K H p ys ∨ SqT K H p ys) ∧ Q (.int ys.length) H
theorem lenK (h : X.K = K := by rfl) : CallR X (.builtin "len") (rLenQ K) := h ▸ call_len_seq
def rListQ (K : PySem.W.Frag) : List V → Hp → VK → Prop := fun xs H Q => ∃ p ys, xs = [.ref p] ∧ (SqL K H p ys ∨ SqT K H p ys) ∧ ∀ l, H l = none → Q (.ref l) (upd H l (.lst ys))
theorem listK (h : X.K = K := by rfl) : CallR X (.type "list") (rListQ K) := h ▸ call_list_of
theorem isiK (h : X.K = K := by rfl) : CallR X (.builtin "isinstance") (rIsi K) := h ▸ call_isi
theorem eqDK (hu : X.A.units + 64 < cLine) (h : X.K = K := by rfl) : OpR X (compareOp .Eq) (rEqD K) := h ▸ op_eqD hu
theorem neDK (hu : X.A.units + 64 < cLine) (h : X.K = K := by rfl) : OpR X (compareOp .NotEq) (rNeD K) := h ▸ op_neD hu
theorem inK (h : X.K = K := by rfl) : OpR X (compareOp .In) (rIn K false) := h ▸ op_in_seq
theorem niK (h : X.K = K := by rfl) : OpR X (compareOp .NotIn) (rIn K true) := h ▸ op_notIn_seq
theorem piL {tg l : Expr} {tl : TE} (hl : PE X l tl) (h : X.K = K := by rfl) : PI X tg l (iList K tl) := h ▸ pi_list hl
theorem piT {tg l : Expr} {tl : TE} (hl : PE X l tl) (h : X.K = K := by rfl) : PI X tg l (iTup K tl) := h ▸ pi_tup hl
theorem sortK (h : X.K = K := by rfl) : CallR X (.builtin "sorted") (rSorted K) := h ▸ cr_sorted
theorem maxK (hc : X.calm = true) (h : X.K = K := by rfl) : CallR X (.builtin "max") (rMax K) := h ▸ cr_max hc
theorem minK (hc : X.calm = true) (h : X.K = K := by rfl) : CallR X (.builtin "min") (rMin K) := h ▸ cr_min hc
end
/-! ### an item of a list -/
/-- an item at a place that lies in the list -/
theorem at_in {xs : List V} {i : Int} (h0 : 0 ≤ i) (h1 : i < xs.length) : ∃ v, v ∈ xs ∧ xs[i.toNat]? = some v ∧ atI xs i = some v := by
  have hn : i.toNat < xs.length := by omega
  refine ⟨xs[i.toNat], List.getElem_mem hn, List.getElem?_eq_getElem hn, ?_⟩
  exact at_of (j := i.toNat) (by omega) (List.getElem?_eq_getElem hn)
/-- xs[i], i in bounds: any of them -/
theorem ix_any {K : PySem.W.Frag} {H : Hp} {p : Addr} {xs : List V} {i : Int} {Q : VK} (P : V → Prop) (h : SqL K H p xs) (h0 : 0 ≤ i) (h1 : i < xs.length) (hp : ∀ v ∈ xs, P v) (q : ∀ v, P v → Q v H) : rIxL K (.ref p) (.int i) H Q := by
  obtain ⟨v, hm, _, ha⟩ := at_in h0 h1
  exact ⟨p, xs, i, v, rfl, rfl, h, ha, q v (hp v hm)⟩
/-- the same of numbers -/
theorem ix_int {K : PySem.W.Frag} {H : Hp} {p : Addr} {xs : List V} {i : Int} {Q : VK} (P : Int → Prop) (h : SqL K H p xs) (h0 : 0 ≤ i) (h1 : i < xs.length) (hp : ∀ v ∈ xs, ∃ j, v = .int j ∧ P j) (q : ∀ j, P j → Q (.int j) H) : rIxL K (.ref p) (.int i) H Q :=
  ix_any (fun v => ∃ j, v = .int j ∧ P j) h h0 h1 hp fun _ ⟨j, e, pj⟩ => e ▸ q j pj
theorem all1 {P : V → Prop} {a : V} (ha : P a) : ∀ v ∈ [a], P v := fun v hv => by
  rw [List.mem_singleton] at hv
  exact hv ▸ ha
theorem allc {P : V → Prop} {a : V} {l : List V} (ha : P a) (hl : ∀ v ∈ l, P v) : ∀ v ∈ a :: l, P v := fun v hv => by
  rcases List.mem_cons.mp hv with e | e
  · exact e ▸ ha
  · exact hl v e
theorem SqL.here {K : PySem.W.Frag} {H : Hp} {p : Addr} {xs : List V} : SqL K (upd H p (.lst xs)) p xs := SqL.of upd_same
theorem same_new {H : Hp} {p : Addr} {o : HO} (h : H p = none) : Same H (upd H p o) := fun b u e => by rw [upd_ne (ne_of_none e h)]; exact e
theorem Same.seqT {K : PySem.W.Frag} {H H' : Hp} {a : Addr} {xs : List V} (e : Same H H') (h : SqT K H a xs) : SqT K H' a xs := by
  rcases h with (h | ⟨o, h⟩) | h
  · exact .inl (.inl (e _ _ h))
  · exact .inl (.inr ⟨o, e _ _ h⟩)
  · exact .inr h

/-! ### a def of the text by its name -/
structure Dfn (K : PySem.W.Frag) (mg : Str → Option Value) (x : Str) (st : Stmt) (ps : List Str) (f : Addr) (fd : FuncData) : Prop where
  F : Fun K x x st f fd
  g : mg x = some (.ref f)
  b : Binds K fd ps []
section
variable {X : Cx} {k : Nat} {f : Addr} {fd : FuncData} {ps : List Str} {sp : Sp} {st : Stmt} {x : Str} {p pos : Pos} {e : Expr} {es : List Expr} {t : TA}
/-- a call that raises nothing -/
theorem pe_cl (G : FnOk X.prog X.w X.K X.mg X.base CX0 k f fd ps sp) (D : Dfn X.K X.mg x st ps f fd) (hr : Room k X.A) (ha : PA X (e :: es) t) (hg : Gl X x := by rfl) (hdb : (x == ("__debug__" : Str)) = false := by decide)
    (he : starEach (e :: es) X.env = (false, eval e X.env) :: starEach es X.env := by rfl) (hpl : (backTo pos (starEach es X.env)).any (·.1) = false := by rfl) : PE X (.Call (.Name x p) (e :: es) [] pos) (tCall sp [] E0 t) :=
  pe_call G hr hg D.g D.F.kp D.b .nil pass0 ha hdb he hpl
/-- a call of a def that may raise, in a def that may raise: the error goes on -/
theorem pe_clX {E : XK} (G : FnOk X.prog X.w X.K X.mg X.base (L2.CX X.prog X.w) k f fd ps sp) (D : Dfn X.K X.mg x st ps f fd) (hr : Room k X.A) (tk : Takes X (fun cls d _ H => E cls d H)) (ha : PA X (e :: es) t) (hg : Gl X x := by rfl) (hdb : (x == ("__debug__" : Str)) = false := by decide)
    (he : starEach (e :: es) X.env = (false, eval e X.env) :: starEach es X.env := by rfl) (hpl : (backTo pos (starEach es X.env)).any (·.1) = false := by rfl) : PE X (.Call (.Name x p) (e :: es) [] pos) (tCall sp [] E t) :=
  pe_call G hr hg D.g D.F.kp D.b .nil (passes_call tk fun _ _ _ _ h => h) ha hdb he hpl
/-- a call of a def that may raise, where it does not -/
theorem pe_cl0 (G : FnOk X.prog X.w X.K X.mg X.base (L2.CX X.prog X.w) k f fd ps sp) (D : Dfn X.K X.mg x st ps f fd) (hr : Room k X.A) (ha : PA X (e :: es) t) (hg : Gl X x := by rfl) (hdb : (x == ("__debug__" : Str)) = false := by decide)
    (he : starEach (e :: es) X.env = (false, eval e X.env) :: starEach es X.env := by rfl) (hpl : (backTo pos (starEach es X.env)).any (·.1) = false := by rfl) : PE X (.Call (.Name x p) (e :: es) [] pos) (tCall sp [] E0 t) :=
  pe_call G hr hg D.g D.F.kp D.b .nil passL ha hdb he hpl
/-- a call of a def that may raise, in a try's body -/
theorem pe_clT {W : WX} (G : FnOk X.prog X.w X.K X.mg X.base (L2.CX X.prog X.w) k f fd ps sp) (D : Dfn X.K X.mg x st ps f fd) (hr : Room k X.A) (tk : Takes X W) (ha : PA X (e :: es) t) (hg : Gl X x := by rfl) (hdb : (x == ("__debug__" : Str)) = false := by decide)
    (he : starEach (e :: es) X.env = (false, eval e X.env) :: starEach es X.env := by rfl) (hpl : (backTo pos (starEach es X.env)).any (·.1) = false := by rfl) : PE X (.Call (.Name x p) (e :: es) [] pos) (tCallS sp (WE W) t) :=
  pe_callS G hr hg D.g D.F.kp D.b (fun σ => passAt tk σ) ha hdb he hpl
end
/-! ### an error class of the program -/
structure Err (K : PySem.W.Frag) (mg : Str → Option Value) (x : Str) (C : Addr) : Prop where
  g : mg x = some (.ref C)
  x : PySem.W.excIn K C [.type "ValueError", .type "Exception", .type "BaseException", .type "object"] "ValueError.__new__" = true
  k : PySem.W.keepIn K (.ref C) = true
  s : PySem.W.subIn K (.ref C) (.type "BaseException") = some true
  t : PySem.W.typeIn K (.ref C) = some (.type "type")
theorem ps_rs {X : Cx} {W : WX} {x m : Str} {C : Addr} {j : Nat} {p p2 pos pos2 : Pos} (hc : X.calm = true) (tk : Takes X W) (T : Err X.K X.mg x C) (hg : Gl X x := by rfl) (hdb : (x == ("__debug__" : Str)) = false := by decide) :
    PS X (.Raise (some (.Call (.Name x p) [.Constant (.str m) j p2] [] pos)) none pos2) (fun _ σ H => W (.ref C) none σ H) :=
  ps_raise hc tk (pmk_own PySem.F.excBase_ValueError T.x T.g T.k (raises_own T.s T.t) hg hdb)
theorem gen_new {H H3 : Hp} {p : Addr} {o : HO} (h : upd H p o = H3) (np : H p = none) : Same H H3 ∧ H3 p = some o := by
  subst h
  exact ⟨same_new np, upd_same⟩
theorem perm2 {ns : List Int} {x y : Int} (h : ns.Perm [x, y]) (s : ns.Pairwise (· ≤ ·)) : ∃ a b, ns = [a, b] ∧ a ≤ b ∧ ((a = x ∧ b = y) ∨ (a = y ∧ b = x)) := by
  have hl : ns.length = 2 := h.length_eq
  match ns, hl with
  | [a, b], _ =>
    refine ⟨a, b, rfl, (List.pairwise_cons.mp s).1 b List.mem_cons_self, ?_⟩
    have ha : a = x ∨ a = y := by
      have z := h.mem_iff.mp (List.mem_cons_self (a := a) (l := [b]))
      simpa using z
    rcases ha with rfl | rfl
    · have z := (List.perm_cons a).mp h
      exact Or.inl ⟨rfl, by simpa using z⟩
    · have z : [a, b].Perm [a, x] := h.trans (List.Perm.swap a x [])
      have z2 := (List.perm_cons a).mp z
      exact Or.inr ⟨rfl, by simpa using z2⟩
/-- sorted of a list of two numbers -/
theorem sorted2 {K : PySem.W.Frag} {H : Hp} {p : Addr} {x y : Int} {Q : VK} (h : SqL K H p [.int x, .int y])
    (q : ∀ (a b : Int) (p' : Addr), a ≤ b → ((a = x ∧ b = y) ∨ (a = y ∧ b = x)) → H p' = none → Q (.ref p') (upd H p' (.lst [.int a, .int b]))) : rSorted K [.ref p] H Q := by
  refine ⟨p, [x, y], rfl, h, (by show 2 < 64; decide), fun ns' p' hp hs np => ?_⟩
  obtain ⟨a, b, e, hab, hxy⟩ := perm2 hp hs
  subst e
  exact q a b p' hab hxy np
/-- behind a statement one goes on from what it leaves -/
theorem seq_cut {t u : TS} {D : Ends} {σ : L2.St} {H : Hp} (P : L2.St → Hp → Prop) (h1 : ∀ N : L2.St → Hp → Prop, (∀ σ' H', P σ' H' → N σ' H') → t { D with nx := N } σ H)
    (h2 : ∀ σ' H', P σ' H' → u D σ' H') : tSeq t u D σ H := h1 (u D) h2
theorem bl_true {Q : VK} {H : Hp} {b : Bool} (h : b = true) (q : Q (.bl true) H) : Q (.bl b) H := h.symm ▸ q
theorem bl_false {Q : VK} {H : Hp} {b : Bool} (h : b = false) (q : Q (.bl false) H) : Q (.bl b) H := h.symm ▸ q
/-- a test that is known -/
theorem ite_yes {c : Bool} {A B : Prop} (h : c = true) (q : A) : if c = true then A else B := by
  rw [if_pos h]
  exact q
theorem ite_no {c : Bool} {A B : Prop} (h : c = false) (q : B) : if c = true then A else B := by
  rw [if_neg (by rw [h]; exact Bool.false_ne_true)]
  exact q
theorem dec_int {i j : Int} : decide (V.int i = V.int j) = decide (i = j) := by
  by_cases h : i = j
  · rw [decide_eq_true h, decide_eq_true (by rw [h])]
  · rw [decide_eq_false h, decide_eq_false (fun z => h (V.int.inj z))]
/-- a == b on numbers, as a test: both ways -/
theorem ite_eq {i j : Int} {A B : Prop} (h1 : i = j → A) (h2 : i ≠ j → B) : if decide (V.int i = V.int j) = true then A else B := by
  rw [dec_int]
  exact ite2 (fun z => h1 (of_decide_eq_true z)) (fun z => h2 fun e => z (decide_eq_true e))
/-- a < b and its kin: both ways -/
theorem ite_dec {p : Prop} [Decidable p] {A B : Prop} (h1 : p → A) (h2 : ¬ p → B) : if decide p = true then A else B :=
  ite2 (fun z => h1 (of_decide_eq_true z)) (fun z => h2 fun e => z (decide_eq_true e))
end Ts
end
section
namespace Ts
open PySem PySem.Spec PyProof.Rows L2

/-- what the class at D, the j-th of cs, must say of itself -/
structure Kd (K : PySem.W.Frag) (cs : List Addr) (S D : Addr) (j : Nat) : Prop where
  ex : ExcC K D
  em : PySem.W.exmOne K (.ref D) (.ref S) = some true
  ve : PySem.W.kitOne K (.ref D) (.type "ValueError") = some true
  bit : ∀ (i : Nat) (c : Addr), cs[i]? = some c → PySem.W.kitOne K (.ref D) (.ref c) = some (decide (i = j))
  lt : j < 10
theorem exm_sub {K : PySem.W.Frag} {C D : Addr} (h1 : PySem.W.subIn K (.ref C) (.type "BaseException") = some true) (h2 : PySem.W.hasDictIn K C = true) (h3 : PySem.W.typeIn K (.ref C) = some (.type "type"))
    (h4 : PySem.W.subIn K (.ref D) (.ref C) = some true) : PySem.W.exmOne K (.ref D) (.ref C) = some true := PySem.W.exm_ref h1 h2 h3 h4
theorem kd_mk {K : PySem.W.Frag} {S D c0 c1 c2 c3 c4 c5 c6 c7 c8 c9 : Addr} {j : Nat} {b0 b1 b2 b3 b4 b5 b6 b7 b8 b9 : Bool} (ex : ExcC K D) (em : PySem.W.exmOne K (.ref D) (.ref S) = some true) (ve : PySem.W.kitOne K (.ref D) (.type "ValueError") = some true)
    (q0 : PySem.W.kitOne K (.ref D) (.ref c0) = some b0) (q1 : PySem.W.kitOne K (.ref D) (.ref c1) = some b1) (q2 : PySem.W.kitOne K (.ref D) (.ref c2) = some b2) (q3 : PySem.W.kitOne K (.ref D) (.ref c3) = some b3) (q4 : PySem.W.kitOne K (.ref D) (.ref c4) = some b4)
    (q5 : PySem.W.kitOne K (.ref D) (.ref c5) = some b5) (q6 : PySem.W.kitOne K (.ref D) (.ref c6) = some b6) (q7 : PySem.W.kitOne K (.ref D) (.ref c7) = some b7) (q8 : PySem.W.kitOne K (.ref D) (.ref c8) = some b8) (q9 : PySem.W.kitOne K (.ref D) (.ref c9) = some b9)
    (hj : j < 10 := by decide) (hb : [b0, b1, b2, b3, b4, b5, b6, b7, b8, b9] = (List.range 10).map fun i => decide (i = j) := by decide) : Kd K [c0, c1, c2, c3, c4, c5, c6, c7, c8, c9] S D j where
  ex := ex
  em := em
  ve := ve
  lt := hj
  bit := fun i c h => by
    have e : ∀ {b : Bool}, [b0, b1, b2, b3, b4, b5, b6, b7, b8, b9][i]? = some b → b = decide (i = j) := fun {b} hi => by
      rw [hb, List.getElem?_map] at hi
      cases hr : (List.range 10)[i]? with
      | none => rw [hr] at hi; cases hi
      | some k =>
        rw [hr] at hi
        obtain ⟨_, e1⟩ := List.getElem?_eq_some_iff.mp hr
        rw [List.getElem_range] at e1
        rw [e1]
        exact (Option.some.inj hi).symm
    match i, h with
    | 0, h => cases h; rw [q0, e rfl]
    | 1, h => cases h; rw [q1, e rfl]
    | 2, h => cases h; rw [q2, e rfl]
    | 3, h => cases h; rw [q3, e rfl]
    | 4, h => cases h; rw [q4, e rfl]
    | 5, h => cases h; rw [q5, e rfl]
    | 6, h => cases h; rw [q6, e rfl]
    | 7, h => cases h; rw [q7, e rfl]
    | 8, h => cases h; rw [q8, e rfl]
    | 9, h => cases h; rw [q9, e rfl]
    | i + 10, h => simp at h

def kwords : List Str := ["name", "letter", "off", "early", "count", "none", "wide", "many", "clock", "text"]
def kword (j : Nat) : Str := kwords.getD j "other"
def spKind (K : PySem.W.Frag) (cs : List Addr) (S : Addr) : SpE := fun a c vs H Q _ => ∃ (D : Addr) (j : Nat), c = .ref D ∧ vs = [.ref a] ∧ Kd K cs S D j ∧ ∀ H', Same H H' → Q (.str (kword j)) H'
def kbits (j : Nat) : List V := (List.range 10).map fun i => V.bl (decide (i = j))
theorem kbits_eq (j : Nat) : kbits j = [V.bl (decide (0 = j)), V.bl (decide (1 = j)), V.bl (decide (2 = j)), V.bl (decide (3 = j)), V.bl (decide (4 = j)), V.bl (decide (5 = j)), V.bl (decide (6 = j)), V.bl (decide (7 = j)), V.bl (decide (8 = j)), V.bl (decide (9 = j))] := rfl
theorem k10 {j : Nat} (h : j < 10) {P : Nat → Prop} (p : P 0 ∧ P 1 ∧ P 2 ∧ P 3 ∧ P 4 ∧ P 5 ∧ P 6 ∧ P 7 ∧ P 8 ∧ P 9) : P j := by
  obtain ⟨p0, p1, p2, p3, p4, p5, p6, p7, p8, p9⟩ := p
  match j, h with
  | 0, _ => exact p0
  | 1, _ => exact p1
  | 2, _ => exact p2
  | 3, _ => exact p3
  | 4, _ => exact p4
  | 5, _ => exact p5
  | 6, _ => exact p6
  | 7, _ => exact p7
  | 8, _ => exact p8
  | 9, _ => exact p9
theorem kbits_count {j : Nat} (h : j < 10) : (kbits j).countP (fun z => eqV z (.bl true)) = 1 := k10 (P := fun j => (kbits j).countP (fun z => eqV z (.bl true)) = 1) h (by decide)
theorem kbits_flat (j : Nat) : (kbits j).all flatV = true := by rw [kbits_eq]; rfl
theorem kbits_at {j : Nat} (h : j < 10) : (kbits j)[j]? = some (.bl true) := k10 (P := fun j => (kbits j)[j]? = some (.bl true)) h (by decide)
theorem kbits_no {j : Nat} (h : j < 10) : ∀ (m : Nat) (z : V), m < j → (kbits j)[m]? = some z → eqV z (.bl true) = false := fun m z hm hz => by
  unfold kbits at hz
  rw [List.getElem?_map] at hz
  have e : (List.range 10)[m]? = some m := by rw [List.getElem?_range (by omega)]
  rw [e] at hz
  have e2 : V.bl (decide (m = j)) = z := Option.some.inj hz
  rw [← e2, decide_eq_false (by omega)]
  rfl
theorem kword_at {j : Nat} (h : j < 10) : atI (kwords.map V.str) ((j : Nat) : Int) = some (.str (kword j)) := by
  refine atI_nat ?_
  rw [List.getElem?_map]
  have e : kwords[j]? = some (kword j) := k10 (P := fun j => kwords[j]? = some (kword j)) h (by refine ⟨rfl, rfl, rfl, rfl, rfl, rfl, rfl, rfl, rfl, rfl⟩)
  rw [e]
  rfl
end Ts
end
section
/-! Texts by their codes. -/
namespace Ts
open PySem PySem.Spec PyProof.Rows L2

def mkS (l : List Nat) : Str := ⟨l.toArray⟩
theorem mkS_list (l : List Nat) : (mkS l).cps.toList = l := by simp [mkS]
theorem mkS_len (l : List Nat) : (mkS l).length = l.length := by simp [mkS, Str.length]
theorem mkS_cat (a b : List Nat) : mkS a ++ mkS b = mkS (a ++ b) := by
  show Str.mk (a.toArray ++ b.toArray) = Str.mk (a ++ b).toArray
  congr 1
  simp
theorem mkS_inj {a b : List Nat} (h : mkS a = mkS b) : a = b := by
  have := congrArg (fun z : Str => z.cps.toList) h
  simpa [mkS] using this
theorem cut_to (l : List Nat) (k : Nat) : cutS (mkS l) none (some (k : Int)) = mkS (l.take k) := by
  unfold cutS
  rw [HT.sIx_none, HT.sIx_nat, mkS_list, mkS_len, List.drop_zero, Nat.sub_zero]
  congr 2
  by_cases h : k ≤ l.length
  · rw [Nat.min_eq_left h]
  · rw [Nat.min_eq_right (by omega), List.take_of_length_le (Nat.le_refl _), List.take_of_length_le (by omega)]
theorem cut_from (l : List Nat) (k : Nat) : cutS (mkS l) (some (k : Int)) none = mkS (l.drop k) := by
  unfold cutS
  rw [HT.sIx_none, HT.sIx_nat, mkS_list, mkS_len]
  congr 1
  by_cases h : k ≤ l.length
  · rw [Nat.min_eq_left h, List.take_of_length_le (by rw [List.length_drop]; exact Nat.le_refl _)]
  · rw [Nat.min_eq_right (by omega), Nat.sub_self, List.take_zero, List.drop_eq_nil_of_le (by omega)]
theorem ofS (x : Str) : x = mkS x.cps.toList := by simp [mkS]
theorem alpha_list : ("abcdefghijklmnopqrstuvwxyz" : Str).cps.toList = (List.range 26).map (97 + ·) := by decide +kernel
theorem alpha_at {i : Int} (h0 : 0 ≤ i) (h1 : i < 26) : atI ("abcdefghijklmnopqrstuvwxyz" : Str).cps.toList i = some (97 + i.toNat) := by
  rw [alpha_list]
  obtain ⟨k, rfl⟩ := Int.eq_ofNat_of_zero_le h0
  refine atI_nat ?_
  rw [List.getElem?_map, List.getElem?_range (by omega)]
  rfl
theorem alpha_len : ("abcdefghijklmnopqrstuvwxyz" : Str).length ≤ sizeLine := by decide +kernel
def low (l : List Nat) : Prop := ∀ c ∈ l, 97 ≤ c ∧ c ≤ 122
/-- a name: 1 to 12 small letters -/
def nmOk (l : List Nat) : Prop := 1 ≤ l.length ∧ l.length ≤ 12 ∧ low l
/-- the k-th of the names round a base -/
def nmL (b : List Nat) (j k : Nat) : List Nat := b.take j ++ [97 + k % 26] ++ (if k < 26 then [] else [122]) ++ b.drop j
theorem nmL_ok {b : List Nat} {j k : Nat} (hb : b.length ≤ 10) (hl : low b) (hk : k < 42) : nmOk (nmL b j k) := by
  have e : (nmL b j k).length = b.length + 1 + (if k < 26 then 0 else 1) := by
    unfold nmL
    by_cases h : k < 26
    · simp only [h, if_true, List.length_append, List.length_take, List.length_drop, List.length_cons, List.length_nil]
      omega
    · simp only [h, if_false, List.length_append, List.length_take, List.length_drop, List.length_cons, List.length_nil]
      omega
  refine ⟨?_, ?_, fun c hc => ?_⟩
  · rw [e]; omega
  · rw [e]; split <;> omega
  · unfold nmL at hc
    simp only [List.mem_append] at hc
    rcases hc with ((hc | hc) | hc) | hc
    · exact hl c (List.mem_of_mem_take hc)
    · simp at hc; omega
    · by_cases h : k < 26
      · simp [h] at hc
      · simp [h] at hc; omega
    · exact hl c (List.mem_of_mem_drop hc)
theorem nmL_inj {b : List Nat} {j k k' : Nat} (hk : k < 42) (hk' : k' < 42) (h : nmL b j k = nmL b j k') : k = k' := by
  unfold nmL at h
  have h1 := List.append_cancel_right h
  rw [List.append_assoc, List.append_assoc] at h1
  have h2 := List.append_cancel_left h1
  by_cases a : k < 26 <;> by_cases a' : k' < 26 <;> simp [a, a'] at h2 <;> omega
def nmList (b : List Nat) (j : Nat) : List (List Nat) := (List.range 42).map (nmL b j)
theorem nmList_nodup (b : List Nat) (j : Nat) : (nmList b j).Nodup := by
  unfold nmList
  refine List.pairwise_map.mpr (List.Pairwise.imp_of_mem (fun {x y} hx hy hne h => hne (nmL_inj (List.mem_range.mp hx) (List.mem_range.mp hy) h)) List.nodup_range)
theorem slr_imp {X : Cx} {r r' : V → Option Int → Option Int → Hp → VK → Prop} (h : SlR X r) (q : ∀ x lo hi H Q, r' x lo hi H Q → r x lo hi H Q) : SlR X r' := by
  intro pins s σ H x v vl vu lo hi sl Q I r1 r2 r3 r4 w
  exact h pins s σ H x v vl vu lo hi sl Q I r1 r2 r3 r4 (q _ _ _ _ _ w)
/-- texts by their codes: z[:k], z[k:], x + y, z[i] -/
def rTo : V → Option Int → Option Int → Hp → VK → Prop := fun x lo hi H Q => ∃ (l : List Nat) (k : Nat), x = .str (mkS l) ∧ lo = none ∧ hi = some (k : Int) ∧ l.length ≤ 1000000 ∧ Q (.str (mkS (l.take k))) H
def rFrom : V → Option Int → Option Int → Hp → VK → Prop := fun x lo hi H Q => ∃ (l : List Nat) (k : Nat), x = .str (mkS l) ∧ lo = some (k : Int) ∧ hi = none ∧ l.length ≤ 1000000 ∧ Q (.str (mkS (l.drop k))) H
def rAddS : R2 := fun x y H Q => ∃ a b : List Nat, x = .str (mkS a) ∧ y = .str (mkS b) ∧ a.length + b.length ≤ 1000000 ∧ Q (.str (mkS (a ++ b))) H
def rAtS : R2 := fun x y H Q => ∃ (l : List Nat) (i c : Nat), x = .str (mkS l) ∧ y = .int (i : Int) ∧ l.length ≤ 1000000 ∧ l[i]? = some c ∧ Q (.str (mkS [c])) H
section
variable {X : Cx}
theorem mkS_le0 {l : List Nat} (h : l.length ≤ 1000000) : (mkS l).length ≤ sizeLine := by
  rw [mkS_len]
  exact Nat.le_trans h (by decide)
theorem sl_to : SlR X rTo := slr_imp sl_str fun x lo hi H Q h => by
  obtain ⟨l, k, rfl, rfl, rfl, hl, q⟩ := h
  rw [← cut_to] at q
  exact ⟨_, rfl, mkS_le0 hl, q⟩
theorem sl_from : SlR X rFrom := slr_imp sl_str fun x lo hi H Q h => by
  obtain ⟨l, k, rfl, rfl, rfl, hl, q⟩ := h
  rw [← cut_from] at q
  exact ⟨_, rfl, mkS_le0 hl, q⟩
theorem op_addC : OpR X (binaryOp .Add) rAddS := opr_imp op_add_str fun x y H Q h => by
  obtain ⟨a, b, rfl, rfl, hl, q⟩ := h
  rw [← mkS_cat] at q
  exact ⟨_, _, rfl, rfl, by rw [mkS_len, mkS_len]; exact Nat.le_trans hl (by decide), q⟩
theorem ix_C : IxR X rAtS := ixr_imp ix_str fun x y H Q h => by
  obtain ⟨l, i, c, rfl, rfl, hl, hc, q⟩ := h
  exact ⟨_, _, c, rfl, rfl, mkS_le0 hl, atI_nat (by rw [mkS_list]; exact hc), q⟩
theorem pe_strC {x : Str} {j : Nat} {pos : Pos} {l : List Nat} (h : x = mkS l) : PE X (.Constant (.str x) j pos) (tC (.str (mkS l))) := h ▸ pe_str
end
/-- texts of a list of codes -/
def txs (ls : List (List Nat)) : List V := ls.map fun l => V.str (mkS l)
theorem txs_at {ls : List (List Nat)} {i : Int} (h0 : 0 ≤ i) (h1 : i < ls.length) : ∃ l, l ∈ ls ∧ atI (txs ls) i = some (.str (mkS l)) := by
  have hn : i.toNat < ls.length := by omega
  refine ⟨ls[i.toNat], List.getElem_mem hn, ?_⟩
  refine at_of (j := i.toNat) (by omega) ?_
  unfold txs
  rw [List.getElem?_map, List.getElem?_eq_getElem hn]
  rfl
theorem mkS_le {l : List Nat} (h : l.length ≤ 1000000) : (mkS l).length ≤ sizeLine := by
  rw [mkS_len]
  exact Nat.le_trans h (by decide)
theorem mkS2_le {a b : List Nat} (h : a.length + b.length ≤ 1000000) : (mkS a).length + (mkS b).length ≤ sizeLine := by
  rw [mkS_len, mkS_len]
  exact Nat.le_trans h (by decide)
theorem mkS_one (c : Nat) : (⟨#[c]⟩ : Str) = mkS [c] := rfl
theorem str_nil : ("" : Str) = mkS [] := by decide +kernel
theorem str_z : ("z" : Str) = mkS [122] := by decide +kernel
end Ts
namespace Ts
open PySem PySem.Spec PyProof.Rows L2
theorem alphaL {j : Nat} (h : j < 26) : [97, 98, 99, 100, 101, 102, 103, 104, 105, 106, 107, 108, 109, 110, 111, 112, 113, 114, 115, 116, 117, 118, 119, 120, 121, 122][j]? = some (97 + j) := by
  have e : [97, 98, 99, 100, 101, 102, 103, 104, 105, 106, 107, 108, 109, 110, 111, 112, 113, 114, 115, 116, 117, 118, 119, 120, 121, 122] = (List.range 26).map (97 + ·) := by decide
  rw [e, List.getElem?_map, List.getElem?_range h]
  rfl
/-- an object that H does not know may change -/
theorem Same.mut {H H1 : Hp} {D : Addr} {o : HO} (s : Same H H1) (h : H D = none) : Same H (upd H1 D o) := fun b u e => by
  rw [upd_ne (ne_of_none e h)]
  exact s b u e
end Ts
namespace Ts
open PySem PySem.Spec PyProof.Rows L2
theorem SqT.grow {K : PySem.W.Frag} {H : Hp} {D t : Addr} {xs acc acc' : List V} (h : SqT K H t xs) (hD : H D = some (.lst acc)) : SqT K (upd H D (.lst acc')) t xs := by
  rcases h with (h | ⟨o, h⟩) | h
  · exact .inl (.inl (by rw [upd_ne (ne_of h hD (by intro z; cases z))]; exact h))
  · exact .inl (.inr ⟨o, by rw [upd_ne (ne_of h hD (by intro z; cases z))]; exact h⟩)
  · exact .inr h
theorem cutV_len {xs : List V} (lo hi : Nat) : cutV xs (some (lo : Int)) (some (hi : Int)) = (xs.drop lo).take (hi - lo) := by
  unfold cutV
  rw [HT.sIx_nat, HT.sIx_nat]
  by_cases h1 : lo ≤ xs.length
  · rw [Nat.min_eq_left h1]
    by_cases h2 : hi ≤ xs.length
    · rw [Nat.min_eq_left h2]
    · rw [Nat.min_eq_right (show xs.length ≤ hi by omega)]
      rw [List.take_of_length_le (by rw [List.length_drop]; exact Nat.le_refl _), List.take_of_length_le (by rw [List.length_drop]; omega)]
  · rw [Nat.min_eq_right (show xs.length ≤ lo by omega), List.drop_eq_nil_of_le (Nat.le_refl _), List.drop_eq_nil_of_le (by omega), List.take_nil, List.take_nil]
end Ts
namespace Ts
open PySem PySem.Spec PyProof.Rows L2
theorem tyT {K : PySem.W.Frag} {H : Hp} {t : Addr} {xs : List V} (h : SqT K H t xs) : TyX K H (.ref t) (.type "tuple") := by
  rcases h with (h | ⟨o, h⟩) | ⟨o, its, n, h, c, _⟩
  · exact .base (.tup h)
  · exact .fTuple h
  · exact .kTuple h c
theorem take_snoc {α : Type} {l : List α} {i : Nat} {x : α} (h : l[i]? = some x) : l.take (i + 1) = l.take i ++ [x] := by
  obtain ⟨hi, e⟩ := List.getElem?_eq_some_iff.mp h
  rw [List.take_succ_eq_append_getElem hi, e]
theorem inV_txs (n : List Nat) (ls : List (List Nat)) : inV (.str (mkS n)) (txs ls) = decide (n ∈ ls) := by
  unfold inV txs
  rw [List.any_map]
  have e : ∀ l : List Nat, eqV (.str (mkS l)) (.str (mkS n)) = decide (l = n) := fun l => by
    show (mkS l == mkS n) = decide (l = n)
    by_cases h : l = n
    · rw [decide_eq_true h, h]
      exact beq_self_eq_true _
    · rw [decide_eq_false h]
      exact beq_eq_false_iff_ne.mpr fun z => h (mkS_inj z)
  induction ls with
  | nil => rfl
  | cons l r ih =>
    rw [List.any_cons, ih]
    show (eqV (.str (mkS l)) (.str (mkS n)) || decide (n ∈ r)) = _
    rw [e]
    by_cases h : l = n
    · subst h
      simp
    · have h2 : n ≠ l := fun z => h z.symm
      simp [h, h2]
theorem txs_flat (ls : List (List Nat)) : (txs ls).all flatV = true := by
  unfold txs
  rw [List.all_map]
  exact List.all_eq_true.mpr fun _ _ => rfl
theorem eq_str (a b : List Nat) : decide (V.str (mkS a) = V.str (mkS b)) = decide (a = b) := by
  by_cases h : a = b
  · rw [decide_eq_true h, decide_eq_true (by rw [h])]
  · rw [decide_eq_false h, decide_eq_false fun z => h (mkS_inj (V.str.inj z))]
end Ts
end
section
/-! A chain of three comparisons; all(.. for sign in text); the end where a def holds a generator expression. -/
namespace Ts
open PySem PySem.Spec PyProof.Rows L2

def tChain3 (r1 r2 r3 : R2) (ta tb tc td : TE) : TE := fun σ H Q => ta σ H fun x H1 => tb σ H1 fun y H2 => r1 x y H2 fun z H3 => ∃ k, z = .bl k ∧
  (if k = true then tc σ H3 fun w H4 => r2 y w H4 fun z2 H5 => ∃ k2, z2 = .bl k2 ∧ (if k2 = true then td σ H5 fun u H6 => r3 w u H6 Q else Q (.bl false) H5) else Q (.bl false) H3)
theorem pe_chain3 {X : Cx} {o1 o2 o3 : CmpOp} {r1 r2 r3 : R2} {a b c d : Expr} {ta tb tc td : TE} {pos : Pos} (h1 : OpR X (compareOp o1) r1) (h2 : OpR X (compareOp o2) r2) (h3 : OpR X (compareOp o3) r3)
    (ha : PE X a ta) (hb : PE X b tb) (hc : PE X c tc) (hd : PE X d td) (hm : lastMarks [o1, o2, o3] [b, c, d] = false := by with_unfolding_all rfl) : PE X (.Compare a [o1, o2, o3] [b, c, d] pos) (tChain3 r1 r2 r3 ta tb tc td) := by
  constructor
  intro pins s σ H Q I w
  refine Compare_chain ?_ hm
  refine thn (ha.run pins s σ H _ I w) ?_
  rintro va s1 ⟨x, H1, I1, rx, q1⟩
  refine chain_link ?_
  refine thn (hb.run pins s1 σ H1 _ I1 q1) ?_
  rintro vb s2 ⟨y, H2, I2, ry, q2⟩
  refine thn (h1 pins s2 σ H2 x y va vb _ I2 rx ry q2) ?_
  rintro vz s3 ⟨z, H3, I3, rz, k, ek, q3⟩
  subst ek
  cases rz
  refine wpAny_truthy_bool ?_
  cases k with
  | false => exact ite_ff ⟨.bl false, H3, I3, rfl, q3⟩
  | true =>
    refine ite_tt (chain_link ?_)
    refine thn (hc.run pins s3 σ H3 _ I3 q3) ?_
    rintro vc s4 ⟨w4, H4, I4, rw4, q4⟩
    refine thn (h2 pins s4 σ H4 y w4 vb vc _ I4 ry rw4 q4) ?_
    rintro vy s5 ⟨z2, H5, I5, rz2, k2, ek2, q5⟩
    subst ek2
    cases rz2
    refine wpAny_truthy_bool ?_
    cases k2 with
    | false => exact ite_ff ⟨.bl false, H5, I5, rfl, q5⟩
    | true =>
      refine ite_tt (chain_last ?_)
      refine thn (hd.run pins s5 σ H5 _ I5 q5) ?_
      rintro vd s6 ⟨u, H6, I6, ru, q6⟩
      exact h3 pins s6 σ H6 w4 u vc vd Q I6 rw4 ru q6

/-- 'a' <= x <= 'z' -/
theorem elt_az {prog : Program} {w : World} {scope : Scope} {x : Str} {j1 j2 : Nat} {p1 p2 p3 p4 : Pos} (hk : scope.kind = .function) (hl : scope.names.lookup x = some .local) (hd : (x == ("__debug__" : Str)) = false := by decide) :
    GxR.EltP prog w scope x (.Compare (.Constant (.str "a") j1 p1) [.LtE, .LtE] [.Name x p2, .Constant (.str "z") j2 p3] p4) (fun c => decide (97 ≤ c) && decide (c ≤ 122)) := by
  intro cenv A' E' c t s₂ m₂ hs hn hm
  have hz : cenv.scope.names.lookup x = some .local := by rw [hs]; exact hl
  have le1 : (!decide ([c] < ("a" : Str).cps.toList)) = decide (97 ≤ c) := by
    have e : ("a" : Str).cps.toList = [97] := by decide +kernel
    rw [e]
    by_cases h : 97 ≤ c
    · rw [decide_eq_true h]
      have : ¬ [c] < [97] := fun z => by
        rcases List.cons_lt_cons_iff.mp z with q | ⟨_, q⟩
        · omega
        · exact absurd q (List.not_lt_nil _)
      rw [decide_eq_false this]
      rfl
    · rw [decide_eq_false h]
      have : [c] < [97] := List.cons_lt_cons_iff.mpr (.inl (by omega))
      rw [decide_eq_true this]
      rfl
  have le2 : (!decide (("z" : Str).cps.toList < [c])) = decide (c ≤ 122) := by
    have e : ("z" : Str).cps.toList = [122] := by decide +kernel
    rw [e]
    by_cases h : c ≤ 122
    · rw [decide_eq_true h]
      have : ¬ [122] < [c] := fun z => by
        rcases List.cons_lt_cons_iff.mp z with q | ⟨_, q⟩
        · omega
        · exact absurd q (List.not_lt_nil _)
      rw [decide_eq_false this]
      rfl
    · rw [decide_eq_false h]
      have : [122] < [c] := List.cons_lt_cons_iff.mpr (.inl (by omega))
      rw [decide_eq_true this]
      rfl
  refine Compare_chain ?_
  refine Calls.Constant_str ?_
  refine chain_link ?_
  refine wpAny_Name (wpAny_loadName_local (by rw [hs]; exact hk) hz hn hm ?_) hd
  refine PySem.P.le_str ?_
  refine wpAny_truthy_bool ?_
  show if (!decide (([c] : List Nat) < ("a" : Str).cps.toList)) = true then _ else _
  rw [le1]
  by_cases h : 97 ≤ c
  · rw [decide_eq_true h]
    refine ite_tt (chain_last ?_)
    refine Calls.Constant_str ?_
    refine PySem.P.le_str ?_
    refine ⟨?_, GxR.keeps_tok _ _⟩
    show Value.bool (!decide (("z" : Str).cps.toList < ([c] : List Nat))) = _
    rw [le2]
    show _ = Value.bool (decide (97 ≤ c) && decide (c ≤ 122))
    rw [decide_eq_true h]
    rfl
  · rw [decide_eq_false h]
    refine ite_ff ⟨?_, GxR.keeps_tok _ _⟩
    show _ = Value.bool (decide (97 ≤ c) && decide (c ≤ 122))
    rw [decide_eq_false h]
    rfl
end Ts
end
section
/-! A def that holds a generator expression: its code object's table, from the law's end to its call. -/
namespace Ts
open PySem PySem.Spec PyProof.Rows L2

/-- what stood is kept, but for the table at P -/
def TabS (P : Addr) (H H' : Hp) : Prop := ∀ b o, b ≠ P → H b = some o → H' b = some o
theorem TabS.of {P : Addr} {H H' : Hp} (h : GxR.Tabbed P H H') : TabS P H H' := fun b _ n e => (h.2 b n).trans e
theorem TabS.andThen {P : Addr} {H H' H'' : Hp} (h : TabS P H H') (s : Same H' H'') : TabS P H H'' := fun b o n e => s b o (h b o n e)
theorem TabS.tup {P t : Addr} {H H' : Hp} {xs : List V} (h : TabS P H H') (g : GxR.TabG H P) (e : H t = some (.tup xs)) : H' t = some (.tup xs) :=
  h t _ (fun z => by
    subst z
    obtain ⟨ps, e2, _⟩ := g
    rw [e] at e2
    cases e2) e
theorem tab_same {P : Addr} {H H' : Hp} (s : Same H H') (g : GxR.TabG H P) : GxR.TabG H' P := let ⟨ps, e, k⟩ := g; ⟨ps, s _ _ e, k⟩
theorem tab_upd {P p : Addr} {H : Hp} {xs : List V} {o : HO} (g : GxR.TabG H P) (e : H p = some (.lst xs)) : GxR.TabG (upd H p o) P := by
  obtain ⟨ps, e2, k⟩ := g
  refine ⟨ps, (upd_ne fun z => ?_).trans e2, k⟩
  subst z
  rw [e] at e2
  cases e2
/-- the generator expression's own scope -/
theorem gs_of {env : Env} {scope : Scope} {x : Str} (h1 : scope.kind = .function) (h2 : scope.isCoroutine = false) (h3 : ∀ y ∈ scope.names, y.2 ≠ .cell ∧ y.2 ≠ .free) (h4 : scope.names.lookup (".0" : Str) = some NameKind.local) (h5 : scope.names.lookup x = some .local) : GxR.GenS env scope x :=
  ⟨h1, h2, fun y hy => (h3 y hy).1, h4, h5, fun y hy z => absurd z (h3 y hy).2⟩
/-- a def whose code object's address is known -/
theorem fn_code {Pr : Program} {w : World} {K : PySem.W.Frag} {mg : Str → Option Value} {base : Heap} {x qual : Str} {st : Stmt} {f c : Addr} {fd : FuncData} {N ps : List Str} {k : Nat} {sp : Sp} (D : L2.Fun K x qual st f fd) (hc : fd.code = .ref c) (S : FnScope N ps (defScope st))
    (ln : ∀ vs H Q E, sp vs H Q E → vs.length = ps.length)
    (body : ∀ (A : Around) (outer : List Env) (s : Shared) (H : Hp) (vs : List V) (Q : VK) (E : XK), Room k (A.deeper (envOfC qual (defScope st) s.heap.objs.size f (.ref c))) → sp vs H Q E →
      ∃ t, PSs (cxOf CX0 Pr w K mg base N qual (defScope st) f (.ref c) A outer s H E).nox (defBody st) t ∧ t { nx := fun _ H2 => Q .non H2, rt := Q } (start N vs) H) : FnOk Pr w K mg base CX0 (k + 1) f fd ps sp := by
  obtain ⟨q1, q2, q3, q4, q5, q6, q7, q8, q9, e1, e2, e3⟩ := D.ex
  subst e1
  have e4 : q7 = .ref c := hc
  subst e4
  exact fn_of e2 e3 S ln fun A outer s H vs Q E r h => let ⟨t, b, g⟩ := body A outer s H vs Q E r h; ⟨t, b.nox, g⟩
/-- the table of the def of that name is empty -/
def TabOf (K : PySem.W.Frag) (mg : Str → Option Value) (h : Heap) (nm : Str) : Prop := ∀ (f c P : Addr) (o : Obj) (fd : FuncData) (e : Value) (dd : Option Addr) (vs : Array Value) (sl : Array (Option Value)),
  mg nm = some (.ref f) → K.lookup f = some o → o.data = .func fd → fd.code = .ref c → K.lookup c = some ⟨e, dd, .fields vs, sl⟩ → vs[11]? = some (.ref P) →
  h.get? P = some { cls := .none, data := .fields #[] } ∧ PySem.W.CodeHd h c P
/-- the end of a law, one of whose defs (nm) holds a generator expression -/
theorem walk_tab {l : PySem.W.OpenLaw} {n k : Nat} {q : Program} {loose : List Str} {XP : (Str → Option Value) → Heap → Prop} {YP : World → Heap → Prop} {d : DefRec} {K : Params → PySem.W.Frag} {CX : World → CXT} {x nm : Str}
    (hn : l.most = some n) (hle : n ≤ sizeLine) (hdf : d.params.defaults = []) (room : Room k callerA) (hrec : ((recsOf q).any fun e => e.name == nm) = true) (hY : ∀ (w : World) (h : Heap), YP w h → (K w.params).In h)
    (F : ∀ (w : World) (mg : Str → Option Value) (fa : Addr) (h : Heap), (K w.params).In h → h.Ns mainGlobals mg → mg d.name = some (.ref fa) → TabOf (K w.params) mg h nm → LamX.LawAtS l w (K w.params) (CX w) k n x mg fa h)
    (hCX : ∀ (w : World) (H : Hp) (s : Shared) (e : Value) (s' : Shared), CX w [] H s (fun _ _ _ => False) e s' → False) :
    PySem.W.WalkO q loose XP YP l.row.toRowW d [] (fun f vs => PySem.call f vs) := by
  refine Att.attach_callB hn hdf ?_
  intro w s0 s1 mg mb fa o pm cd doc a vs ns G Y ho hd hcd hmg hobj hints hlen hbits hg
  have inK := hY w _ Y
  have tab : TabOf (K w.params) mg s1.heap nm := by
    intro f c P o1 fd1 e dd us sl z1 z2 z3 z4 z5 z6
    obtain ⟨r, rm, rn⟩ := List.any_eq_true.mp hrec
    obtain ⟨f', o', fd', c', P', y1, y2, y3, y4, y5, y6⟩ := G.T.tab r rm
    rw [beq_iff_eq.mp rn, z1] at y1
    cases y1
    rw [inK _ _ z2] at y2
    cases y2
    rw [z3] at y3
    cases y3
    rw [z4] at y4
    cases y4
    have hd := PySem.W.CodeHd.of y5 y6
    obtain ⟨⟨oc, uc, x1, _, x3, x4⟩, hP⟩ := y6
    rw [inK _ _ z5] at x1
    cases x1
    cases x3
    rw [z6] at x4
    cases x4
    exact ⟨hP, hd⟩
  obtain ⟨fd, cs, sp, b1, b2, b3, b4, b5, b6⟩ := F w mg fa _ inK G.T.g hmg tab
  exact LamX.law_callTs inK G.T.g G.T.b G.T.builtins G.T.nolimit hg b1 b2 b3 G.T.bmain hobj hints (Nat.le_trans hlen hle) room b6 b4 (fun H hH hS => b5 H a ns hlen hbits hH hS) fun H e s' => hCX w H s1 e s'
end Ts
namespace Ts
theorem tab_nil {P : PySem.Addr} {H : L2.Hp} (e : H P = some (.tbl #[])) : GxR.TabG H P := ⟨#[], e, trivial⟩
end Ts
namespace Ts
open L2
theorem place_nat {n j : Nat} (h : j < n) : ixN n (j : Int) = some j := by
  unfold ixN
  rw [if_pos (Int.natCast_nonneg j), if_pos (by omega)]
  simp
end Ts
end
section
/-! A list comprehension whose element may raise: the error leaves through the block to the def that holds it. -/
namespace Ts
open PySem PySem.Spec PyProof.Rows L2 HandSPX

/-! ### an error in the air, held by this frame or not yet -/
/-- kept from (H, h) on the way to the error's ground B; h' is the heap with the error; ch may have changed -/
structure Way (fs ch : List Addr) (H H' : Hp) (h B h' : Heap) : Prop where
  keep : ∀ b o, h.get? b = some o → H b = none → b ∉ fs → b ∉ ch → B.get? b = some o
  slot : ∀ b o, h.get? b = some o → H b = none → b ∈ fs → b ∉ ch → ∃ sl, h'.get? b = some { o with slots := sl }
  free : ∀ b o, h.get? b = some o → H b = none → b ∉ ch → H' b = none
  there : ∀ b o, h.get? b = some o → b ∉ fs → b ∉ ch → ∃ o', B.get? b = some o'
  tups : ∀ b xs, H b = some (.tup xs) → H' b = some (.tup xs)
  frzs : ∀ b o xs, H b = some (.frz o xs) → H' b = some (.frz o xs)
  tbls : ∀ b ps, H b = some (.tbl ps) → ∃ more, H' b = some (.tbl (ps ++ more))
/-- what may have changed is none of the def's own -/
def OffOwn (X : Cx) (pins : List (Addr × Obj)) (ch : List Addr) : Prop := ∀ b ∈ ch, (b ∈ X.ex ∨ X.s_0.heap.objs.size ≤ b) ∧ b ≠ X.env.locals ∧ (∀ x c, X.env.cells.lookup x = some c → c ≠ b) ∧ ∀ p ∈ X.pn ++ pins, p.1 ≠ b

theorem in_air {X : Cx} {pins : List (Addr × Obj)} {σ : St} {H H' : Hp} {s s' : Shared} {ch : List Addr} {B : Heap} {W : WX} {a : Addr} {cls : Value} {d : Option Addr}
    (I : Inv X pins σ H s) (off : OffOwn X pins ch) (way : Way (frs X.stack) ch H H' s.heap B s'.heap) (good : HOk X.prog X.w H' B) (sits : B.StaysIn s'.heap)
    (sky : Sky B X.stack a (Zc cls d) X.env.locals s'.heap) (na : H' a = none) (os : s'.os = s.os) (bare : AllBare s'.gens) (wish : W cls d σ H') : XE X W (.ref a) s' := by
  -- the state without the error: the ground and the frames
  obtain ⟨G, yes, no⟩ := restrict s'.heap fun b => decide (b ∈ frs X.stack) || (B.get? b).isSome
  have fromB : B.StaysIn G := fun b o e => (yes b (by rw [e]; simp)).trans (sits b o e)
  have fromF : ∀ {b}, b ∈ frs X.stack → G.get? b = s'.heap.get? b := fun {b} m => yes b (by simp [m])
  have inG : ∀ {b o}, G.get? b = some o → s'.heap.get? b = some o ∧ (b ∉ frs X.stack → B.get? b = some o) := fun {b o} e => by
    by_cases t : (decide (b ∈ frs X.stack) || (B.get? b).isSome) = true
    · have e' := (yes b t).symm.trans e
      refine ⟨e', fun nm => ?_⟩
      have : (B.get? b).isSome = true := by simpa [nm] using t
      obtain ⟨o', q⟩ := Option.isSome_iff_exists.mp this
      cases (sits b o' q).symm.trans e'
      exact q
    · rw [no b (by simpa using t)] at e
      cases e
  have un : Un (frs X.stack) ch H H' s.heap G :=
    { keep := fun b o e n nm nc => fromB b o (way.keep b o e n nm nc)
      slot := fun b o e n m nc => by rw [fromF m]; exact way.slot b o e n m nc
      free := way.free
      there := fun b o e nc => by
        by_cases m : b ∈ frs X.stack
        · rw [fromF m]
          exact ⟨_, (way.slot b o e (I.stkFree b m) m nc).choose_spec⟩
        · obtain ⟨o', q⟩ := way.there b o e m nc
          exact ⟨o', fromB b o' q⟩
      tups := way.tups
      frzs := way.frzs
      tbls := way.tbls }
  refine ⟨a, B, { heap := G, gens := s'.gens, drawn := s'.drawn, toks := s'.toks, os := s.os }, pins, σ, H', cls, d, rfl, ?_, fun b o e nm => (inG e).2 nm, .of_keeps fun b o e => (inG e).1, sky, na, os, bare, wish⟩
  exact I.call' (ch := ch) rfl un (good.kept fromB) bare off

/-! ### the block's errors -/
/-- what an element's error is: that of a call out of a state of the block -/
def BlkE (Y : Cx) (E : XK) : Value → Shared → Prop := fun u s' => ∃ (pins : List (Addr × Obj)) (σ : St) (H : Hp) (s : Shared), Inv Y pins σ H s ∧ L2.CX Y.prog Y.w Y.stack H s E u s'
/-- the block, its elements may raise -/
abbrev Cx.blkE (X : Cx) (s : Shared) (H : Hp) (scope : Scope) (cenv : Env) (fp : List Addr) (E : XK) : Cx := (X.blk s H scope cenv fp).wish (BlkE (X.blk s H scope cenv fp) E)
theorem passes_blk {X : Cx} {s : Shared} {H : Hp} {scope : Scope} {cenv : Env} {fp : List Addr} {E : XK} : Passes (L2.CX X.prog X.w) (Cx.blkE X s H scope cenv fp E) E :=
  fun pins σ H' s0 e s' I c => ⟨pins, σ, H', s0, I.unwish, c⟩

section
variable {M : Model} {A : Around} {E₁ : Value → Shared → Prop} {env env' : Env} {s : Shared}
theorem note_same (h : env'.frame = env.frame) (x : Value) : noteFrame x env' = noteFrame x env := by
  unfold noteFrame PySem.frameOf
  rw [h]
/-- the object C is taken out of the ground -/
theorem held_off {B h h' : Heap} {l : List Env} {a C L : Addr} {Z : Obj → Prop} {oC : Obj} (x : HeldZ B l a Z L h) (hC : B.get? C = some oC) (sb : Heap.SameBut C h h') : HeldZ (PySem.W.hideAll B [C]) l a Z L h' := by
  obtain ⟨stay, na, fr, oe, vs, T, oT, ts, he, hz, hd, h1, nT, neT, hT, hdT, h3⟩ := x
  have off : ∀ {b o}, (PySem.W.hideAll B [C]).get? b = some o → b ≠ C ∧ B.get? b = some o := fun {b o} e => by
    refine ⟨fun z => ?_, PySem.W.of_hideAll _ e⟩
    rw [z, PySem.W.hideAll_none [C] (by simp)] at e
    cases e
  have none_of : ∀ {b}, B.get? b = none → (PySem.W.hideAll B [C]).get? b = none := fun {b} n => by
    cases q : (PySem.W.hideAll B [C]).get? b with
    | none => rfl
    | some o => rw [(off q).2] at n; cases n
  have ne : ∀ {b}, B.get? b = none → b ≠ C := fun {b} n z => by rw [z, hC] at n; cases n
  refine ⟨fun b o e => (sb.2 b (off e).1).trans (stay b o (off e).2), none_of na, ?_, oe, vs, T, oT, ts, (sb.2 a (ne na)).trans he, hz, hd, h1, none_of nT, neT, (sb.2 T (ne nT)).trans hT, hdT, h3⟩
  have frames : ∀ {l : List Env}, h.FunFrames B l → h'.FunFrames (PySem.W.hideAll B [C]) l := by
    intro l
    induction l with
    | nil => exact fun _ => trivial
    | cons e r ih =>
      rintro ⟨k, ⟨F, o, hf, nF, eF, nd⟩, rest⟩
      exact ⟨k, ⟨F, o, hf, none_of nF, (sb.2 F (ne nF)).trans eF, nd⟩, ih rest⟩
  exact frames fr
/-- the block's variables let go, the error goes on -/
theorem goes_on {B : Heap} {l : List Env} {a L : Addr} {Z : Obj → Prop} {what : String} {Q : Value → Shared → Prop} (hf : env.frame = some L) (x : HeldZ B l a Z L s.heap)
    (h : ∀ h', HeldZ B l a Z L h' → s.heap.UpToSlots h' → E₁ (.ref a) { s with heap := h' }) : wpAny M A (PySem.passOn what (.ref a) env : Sem Value) Q E₁ s := by
  have t := x.2.2.2
  obtain ⟨oe, vs, T, _, _, he, _, hd, h1, _⟩ := t
  unfold PySem.passOn
  rw [hf]
  refine wpAny_bind (wpAny_field he hd h1 ?_)
  rw [if_neg (by simp)]
  exact wpAny_bind (setFlight_onZ x fun h' y up => wpAny_throw (h h' y up))
end

/-! ### the comprehension around its block -/
/-- how a block ends; an error's env is the block's own -/
def BlkEnd (M : Model) (A : Around) (E : Value → Shared → Prop) (use : Option (Value → Sem Unit)) (Q : Value → Shared → Prop) (acc : Value) (be : Env) (r : Result) (s' : Shared) : Prop :=
  match r with
  | .ok f => compPost M A E use Q acc be.locals (.ok f) s'
  | .error x => (∃ m, s'.heap.Ns be.locals m) ∧ ∀ h', Heap.SameBut be.locals s'.heap h' → wpAny M A (PySem.passOn "comprehension.variables-let-go" x be : Sem Value) (fun _ _ => False) E { s' with heap := h' }

section
variable {M : Model} {A : Around} {E : Value → Shared → Prop} {env : Env} {s : Shared}
theorem comp_blk {e : Expr} {scope : Scope} {pos : Pos} {newAcc first : Sem Value} {g : Comprehension} {gs : List Comprehension} {cl : List (Str × Addr)} {use : Option (Value → Sem Unit)} {Q : Value → Shared → Prop}
    (one : clausesOf e = g :: gs) (plain : ∀ x, foldedSetIterable g.iter env x = pure x) (clo : closureFor scope env = pure cl) (knd : scope.kind = .function) (uniq : ∀ y ∈ scope.names, scope.names.lookup y.1 = some y.2)
    (h : wpAny M A first (fun x s1 => wpAny M A (pyIter x) (fun it s2 => wpAny M A newAcc (fun acc s3 => wpAny M A (newFunctionEnv scope env.globals cl [] env.qual none .none (some env)) (fun be s4 =>
      codeAny M A (.compStart e 0 it acc { be with scope := relabel scope env }) (BlkEnd M A E use Q acc { be with scope := relabel scope env }) s4) E s3) E s2) E s1) E s) :
    wpAny M A (comprehension e scope env pos newAcc false first use) Q E s := by
  unfold comprehension
  rw [one, clo]
  refine wpAny_bind (thn h fun x s1 h1 => ?_)
  refine wpAny_bind (wpAny_standAt ?_)
  refine wpAny_bind (wpAny_of_eq (plain x) ?_)
  refine wpAny_bind (wpAny_holding (thn h1 fun it s2 h2 => ?_))
  refine wpAny_standIf ?_
  refine wpAny_bind (thn h2 fun acc s3 h3 => ?_)
  refine wpAny_bind (wpAny_pure ?_)
  refine wpAny_bind (thn h3 fun be s4 h4 => ?_)
  dsimp only
  have here : ∀ {y : Str × NameKind}, y ∈ (scope.names.filter fun (n, k) => (k == .local || k == .cell) && n != (".0" : Str)).reverse → y.2 = .local → Env.kindOf { be with scope := relabel scope env } y.1 = some .local := fun {y} m l => by
    have m' : y ∈ scope.names := (List.mem_filter.mp (List.mem_reverse.mp m)).1
    exact lookup_relabel_local (by rw [uniq y m', l])
  refine wpAny_holding (wpAny_bind (wpAny_attempt (wpAny_holding (wpAny_run (codeAny_mono h4 fun r s' q => ?_)))))
  match r, use, q with
  | .ok f, none, ⟨m, ns, q⟩ =>
    refine wpAny_bind (wpAny_holding (wpAny_comp_letGo (cenv := { be with scope := relabel scope env }) knd _ s' m (fun _ => here) ns fun h' _ _ sb => wpAny_pure (q h' sb)))
  | .error x, none, ⟨⟨m, ns⟩, q⟩ =>
    refine wpAny_bind (wpAny_holding (wpAny_comp_letGo (cenv := { be with scope := relabel scope env }) knd _ s' m (fun _ => here) ns fun h' _ _ sb => wpAny_mono (q h' sb) (fun _ _ z => z.elim) fun _ _ z => z))
  | .error x, some u, ⟨⟨m, ns⟩, q⟩ =>
    refine wpAny_bind (wpAny_holding (wpAny_comp_letGo (cenv := { be with scope := relabel scope env }) knd _ s' m (fun _ => here) ns fun h' _ _ sb => wpAny_mono (q h' sb) (fun _ _ z => z.elim) fun _ _ z => z))
  | .ok f, some u, q =>
    refine wpAny_bind (wpAny_rule (wpAny_bind (wpAny_holding (thn q fun _ s'' q' => ?_))))
    obtain ⟨m, ns, q'⟩ := q'
    refine wpAny_bind (wpAny_comp_letGo (cenv := { be with scope := relabel scope env }) knd _ s'' m (fun y m => here ?_) ns fun h' _ _ sb => wpAny_pure (q' h' sb))
    exact (List.mem_append.mp m).elim List.mem_of_mem_drop List.mem_of_mem_take
end

/-! ### an element's error, noted -/
section
variable {X : Cx} {pins : List (Addr × Obj)} {σ : St} {H3 : Hp} {s3 : Shared} {E : XK}
theorem blk_noted {scope : Scope} {be : Env} {fp : List Addr} {use : Option (Value → Sem Unit)} {Qf : Value → Shared → Prop} {acc u : Value} {s' : Shared}
    (I3 : Inv X pins σ H3 s3) (stk : X.stack = X.env :: X.outer) (own : X.env.frame = some X.env.locals) (tk : Takes X fun cls d _ H => E cls d H) (off : OffOwn X pins fp)
    (bf : be.frame = X.env.frame) (bl : be.locals = s3.heap.objs.size) (x : BlkE (X.blk s3 H3 scope be fp) E u s') :
    notedBy (model X.prog X.w) X.A be (fun e s'' => BlkEnd (model X.prog X.w) X.A X.xe use Qf acc be (.error e) s'') u s' := by
  obtain ⟨pins', σ', H0, s0, I, a, B, H2, cls, d, rfl, fl, good, ub, na, os, bare, wish⟩ := x
  have base : Un (frs X.stack) fp H3 H0 s3.heap s0.heap := I.base
  have fl : FlyingZ B (X.env :: X.outer) a (Zc cls d) s'.heap := stk ▸ fl
  have old : ∀ {b o}, s3.heap.get? b = some o → b ≠ be.locals := fun {b o} e z => by
    rw [bl] at z
    exact Nat.lt_irrefl _ (z ▸ Heap.lt_size e)
  have frame : ∀ {b}, b ∈ frs X.stack → ∃ o, s3.heap.get? b = some o ∧ ∀ vs, o.data ≠ .fields vs := fun {b} m => (I3.stack.mem m).2
  obtain ⟨m, ⟨oC, es, ep, eC, rest⟩, _⟩ := I.loc
  have noF : be.locals ∉ frs X.stack := fun m => by
    obtain ⟨o, e, _⟩ := frame m
    exact old e rfl
  have inB : B.get? be.locals = some oC := ub.keep _ _ eC I.free noF
  have noC : H2 be.locals = none := ub.free _ _ eC I.free
  show wpAny _ _ (noteFrame (.ref a) be) _ _ _
  rw [note_same bf]
  refine looks_onZ Zc.steady (by rw [I3.ok.frames, stk]) own fl fun h1 held up => ?_
  refine ⟨⟨m, oC, es, ep, held.1 _ _ inB, rest⟩, fun h' sb => ?_⟩
  refine goes_on (bf.trans own) (held_off held inB sb) fun h2 held2 up2 => ?_
  refine tk _ _ (in_air I3 off (B := PySem.W.hideAll B [be.locals]) (H' := H2) ?_ ?_ held2.1 (.inr (.inr (stk ▸ held2))) na (os.trans I.os) bare wish)
  · have offC : ∀ {b o}, B.get? b = some o → b ≠ be.locals → (PySem.W.hideAll B [be.locals]).get? b = some o := fun {b o} e ne => PySem.W.hideAll_get _ e (by simpa using ne)
    exact
      { keep := fun b o e n nm nc => offC (ub.keep b o (base.keep b o e n nm nc) (base.free b o e n nc) nm) (old e)
        slot := fun b o e n mm nc => by
          obtain ⟨o', e', nd⟩ := frame mm
          cases e.symm.trans e'
          obtain ⟨sl, e1⟩ := base.slot b o e n mm nc
          obtain ⟨sl2, e2⟩ := ub.slot b _ e1 mm
          obtain ⟨sl3, e3⟩ := up b _ e2 nd
          obtain ⟨sl4, e4⟩ := up2 b _ ((sb.2 b (old e)).trans e3) nd
          exact ⟨sl4, e4⟩
        free := fun b o e n nc => by
          obtain ⟨o', e'⟩ := base.there b o e nc
          exact ub.free b o' e' (base.free b o e n nc)
        there := fun b o e nm nc => by
          obtain ⟨o', e'⟩ := base.there b o e nc
          obtain ⟨o'', e''⟩ := ub.there b o' e' nm
          exact ⟨o'', offC e'' (old e)⟩
        tups := fun b xs e => ub.tups b xs (base.tups b xs e)
        frzs := fun b o xs e => ub.frzs b o xs (base.frzs b o xs e)
        tbls := fun b ps e => by
          obtain ⟨more, e'⟩ := base.tbls b ps e
          obtain ⟨more', e''⟩ := ub.tbls b _ e'
          exact ⟨more ++ more', by rw [e'', Array.append_assoc]⟩ }
  · refine fun b o q => (good b o q).stay (fun c v mine e => PySem.W.hideAll_get _ e ?_) (fun _ z => z) fun _ _ z => z
    rw [List.mem_singleton]
    rintro rfl
    rcases mine with z | z
    · rw [z, q] at noC; cases noC
    · rw [z] at noC; cases noC
end

/-! ### the comprehension -/
section
variable {X : Cx} {E : XK} {elt tg iter : Expr} {scope : Scope} {own : List (Str × Nat)} {pos : Pos} {wi : TI} {g : TG} {te : TE}
/-- all that is asked of the block's parts -/
structure BlkP (X : Cx) (E : XK) (elt tg iter : Expr) (scope : Scope) (own : List (Str × Nat)) (wi : TI) (g : TG) (te : TE) : Prop where
  calm : X.calm = true
  stk : X.stack = X.env :: X.outer
  fr : X.env.frame = some X.env.locals
  tk : Takes X fun cls d _ H => E cls d H
  nd : X.N.Nodup
  it : PI X tg iter wi
  ok : BlkOk X.N X.env.scope scope own
  tg : ∀ (s : Shared) (H : Hp) (C : Addr) (cl : List (Str × Addr)) (fp : List Addr), PG (Cx.blkE X s H scope (compEnvC scope cl C X.env) fp E) tg g
  el : ∀ (s : Shared) (H : Hp) (C : Addr) (cl : List (Str × Addr)) (fp : List Addr), PE (Cx.blkE X s H scope (compEnvC scope cl C X.env) fp E) elt te
  pl : ∀ x, foldedSetIterable iter X.env x = pure x

theorem lce_core {pins : List (Addr × Obj)} {s : Shared} {σ : St} {H : Hp} {Q : VK} {pos' : Pos} {use : Option (Value → Sem Unit)} {Qf : Value → Shared → Prop} (P : BlkP X E elt tg iter scope own wi g te) (I : Inv X pins σ H s)
    (h : tLc wi g tYes te (own.map (·.2)) σ H Q)
    (fin : ∀ D C s' m H', Inv X pins σ H' s' → Q (.ref D) H' → s'.heap.Ns C m → FpOk X pins H' C → compPost (model X.prog X.w) X.A X.xe use Qf (.ref D) C (.ok .next) s') :
    wpAny (model X.prog X.w) X.A (comprehension (.ListComp elt [⟨tg, iter, [], 0⟩] scope pos) scope X.env pos' (newList []) false (eval iter X.env) use) Qf X.xe s := by
  have caught : ∀ y ∈ scope.names, y.2 = .free → ∃ c, X.env.cells.lookup y.1 = some c := fun y m f => I.ok.has _ (P.ok.free y m f)
  refine comp_blk (use := use) rfl P.pl (closure_ok caught) P.ok.kind P.ok.uniq (thn (P.it.run pins s σ H _ I h) fun _ _ z => thn z ?_)
  rintro _ s2 ⟨it, fp, tn, J, H2, rfl, I2, T, t2, off2, want⟩
  -- a new list, then the block's own variables
  refine wpAny_newObj_type (newEnv_comp ?_) (Nat.zero_le _)
  have new : H2 s2.heap.objs.size = none := I2.hok.fresh (Nat.le_refl _)
  obtain ⟨W, ⟨m0, w0⟩, turn⟩ := want _ new
  generalize hD : s2.heap.objs.size = D at *
  have J3 : ∀ t, Inv X pins σ (upd H2 D (.lst [])) { s2 with heap := s2.heap.push { cls := .type "list", data := .seq #[] }, toks := t } := fun t =>
    I2.laid (fun b o e => Heap.get?_push_of_some _ e) (Nat.le_of_eq hD) ⟨Nat.zero_le _, [], 0, .nil, hD ▸ Heap.get?_push_size _ rfl⟩
  have I3 := J3 s2.toks
  generalize hH3 : upd H2 D (.lst []) = H3 at *
  have h3 : ∀ b o, s2.heap.get? b = some o → (s2.heap.push { cls := .type "list", data := .seq #[] }).get? b = some o := fun b o e => Heap.get?_push_of_some _ e
  have size3 : (s2.heap.push { cls := .type "list", data := .seq #[] }).objs.size = D + 1 := by rw [Heap.size_push, hD]
  have in2 : ∀ b ∈ fp, b < D := fun b m => by
    obtain ⟨o, e, _⟩ := T.obj _ _ t2 b m
    exact hD ▸ Heap.lt_size e
  have off3 : ∀ b ∈ fp, FpOk X pins H3 b ∧ b < (s2.heap.push { cls := .type "list", data := .seq #[] }).objs.size := fun b m => by
    refine ⟨⟨?_, (off2 b m).2⟩, by rw [size3]; exact Nat.lt_succ_of_lt (in2 b m)⟩
    rw [← hH3, upd_ne (Nat.ne_of_lt (in2 b m))]
    exact (off2 b m).1
  have t3 : tn 0 (s2.heap.push { cls := .type "list", data := .seq #[] }) := T.keep _ _ _ t2 fun b _ o e => h3 b o e
  have off : OffOwn X pins fp := fun b m => let ⟨_, a1, _, a2, a3, a4⟩ := (off3 b m).1; ⟨a2, a1, a3, a4⟩
  have hop : s2.heap.push { cls := .type "list", data := .seq #[] } = ({ s2 with heap := s2.heap.push { cls := .type "list", data := .seq #[] } } : Shared).heap := rfl
  rw [hop] at off3 t3
  show codeAny _ _ (.compStart (.ListComp elt [⟨tg, iter, [], 0⟩] scope pos) 0 (.ref it) (.ref D) (compEnvC scope (cellsFrom (({ s2 with heap := s2.heap.push { cls := .type "list", data := .seq #[] } } : Shared).heap.objs.size + 1) scope.names (cloFrom X.env.cells scope.names [])) ({ s2 with heap := s2.heap.push { cls := .type "list", data := .seq #[] } } : Shared).heap.objs.size X.env))
    (BlkEnd (model X.prog X.w) X.A X.xe use Qf (.ref D) (compEnvC scope (cellsFrom (({ s2 with heap := s2.heap.push { cls := .type "list", data := .seq #[] } } : Shared).heap.objs.size + 1) scope.names (cloFrom X.env.cells scope.names [])) ({ s2 with heap := s2.heap.push { cls := .type "list", data := .seq #[] } } : Shared).heap.objs.size X.env))
    { ({ s2 with heap := s2.heap.push { cls := .type "list", data := .seq #[] } } : Shared) with heap := pushCells (({ s2 with heap := s2.heap.push { cls := .type "list", data := .seq #[] } } : Shared).heap.push { cls := .type "dict", data := .dict #[] }) scope.names }
  generalize hs3 : ({ s2 with heap := s2.heap.push { cls := .type "list", data := .seq #[] } } : Shared) = s3 at I3 off3 t3 ⊢
  have I4 := (block_start I3 P.ok P.nd off3).wish (BlkE (X.blk s3 H3 scope (compEnvC scope (cellsFrom (s3.heap.objs.size + 1) scope.names (cloFrom X.env.cells scope.names [])) s3.heap.objs.size X.env) fp) E)
  have t4 : tn 0 (pushCells (s3.heap.push { cls := .type "dict", data := .dict #[] }) scope.names) := T.keep _ _ _ t3 fun b _ o e => pushCells_keeps _ _ _ _ (Heap.get?_push_of_some _ e)
  have ptg := P.tg s3 H3 s3.heap.objs.size (cellsFrom (s3.heap.objs.size + 1) scope.names (cloFrom X.env.cells scope.names [])) fp
  have pel := P.el s3 H3 s3.heap.objs.size (cellsFrom (s3.heap.objs.size + 1) scope.names (cloFrom X.env.cells scope.names [])) fp
  generalize hbe : compEnvC scope (cellsFrom (s3.heap.objs.size + 1) scope.names (cloFrom X.env.cells scope.names [])) s3.heap.objs.size X.env = be at I4 ptg pel ⊢
  have bl : be.locals = s3.heap.objs.size := by subst hbe; rfl
  have bf : be.frame = X.env.frame := by subst hbe; rfl
  have clear : ∀ b ∈ fp, H3 b = none := fun b m => (off3 b m).1.1
  -- what the iterator's objects are in any state of the block
  have apart : ∀ {σ' : St} {H' : Hp} {s' : Shared}, Inv (Cx.blkE X s3 H3 scope be fp E) [] σ' H' s' → (∀ b ∈ fp, H' b = none) → ∀ b ∈ fp, FpOk (Cx.blkE X s3 H3 scope be fp E) [] H' b := fun {σ' H' s'} I' n b m =>
    ⟨n b m, (I'.ok.exf b m).1, I'.ok.exfs b m, .inl m, fun y c e => (I'.ok.exf b m).2 y c e, fun p mp => absurd (show p ∈ ([] : List (Addr × Obj)) ++ [] from mp) (by simp)⟩
  have noted : ∀ u s', BlkE (X.blk s3 H3 scope be fp) E u s' → notedBy (model X.prog X.w) X.A be (fun e s'' => BlkEnd (model X.prog X.w) X.A X.xe use Qf (.ref D) be (.error e) s'') u s' := fun u s' => blk_noted I3 P.stk P.fr P.tk off bf bl
  have loop : codeAny (model X.prog X.w) X.A (.compLoop (.ListComp elt [⟨tg, iter, [], 0⟩] scope pos) 0 (.ref it) (.ref D) be) (BlkEnd (model X.prog X.w) X.A X.xe use Qf (.ref D) be) { s3 with heap := pushCells (s3.heap.push { cls := .type "dict", data := .dict #[] }) scope.names } := by
    refine compLoop_any (fun n s' => ∃ i H', Inv (Cx.blkE X s3 H3 scope be fp E) [] (wipe σ (own.map (·.2))) H' s' ∧ tn i s'.heap ∧ (∀ b ∈ fp, H' b = none) ∧ W i n H') ?_ m0 ⟨0, H3, I4, t4, clear, hH3 ▸ w0⟩
    rintro n s5 ⟨i, H5, I5, t5, c5, w5⟩
    rcases turn i n H5 w5 with ⟨stop, done⟩ | ⟨go, Nx, back, step⟩
    · -- the end: back to the def
      refine thn (T.done (Cx.blkE X s3 H3 scope be fp E) rfl rfl rfl P.calm i [] s5 _ H5 _ I5 (apart I5 c5) t5 stop) ?_
      rintro _ s6 ⟨rfl, I6⟩
      have I7 : Inv X pins σ H5 s6 := I3.call' (ch := fp) I6.os I6.base I6.hok I6.bare off
      have cn : H5 be.locals = none := I6.free
      obtain ⟨m, ns, _⟩ := I6.loc
      exact fin D be.locals s6 m H5 I7 done ns (I3.fpOk (Nat.le_of_eq bl.symm) cn)
    · -- an item
      refine thn (T.item (Cx.blkE X s3 H3 scope be fp E) rfl rfl rfl P.calm i [] s5 _ H5 _ I5 (apart I5 c5) t5 go) ?_
      rintro _ s6 ⟨u, rfl, z6⟩
      refine thn z6 fun _ s7 ⟨y, H7, I7, r7, y7, t7, c7⟩ => ?_
      have held := I7.pinned (apart I7 c7) (T.obj _ _ t7)
      refine wpAny_mono (ptg.run _ s7 _ H7 y u _ held r7 (step y H7 y7)) (fun _ s8 ⟨σ8, H8, I8, same8, q8⟩ => ?_) noted
      refine wpAny_tests_nil ?_
      have q8 : te σ8 H8 _ := q8
      refine wpAny_mono (pel.run _ s8 σ8 H8 _ I8 q8) (fun v s9 ⟨yv, H9, I9, r9, acc, at_D, room, nx⟩ => ?_) noted
      refine app_ok (X := Cx.blkE X s3 H3 scope be fp E) I9 at_D room r9 fun s10 I10 => ?_
      obtain ⟨m', less, w'⟩ := back _ nx
      have kept : ∀ b ∈ fp, ∀ o, s7.heap.get? b = some o → s10.heap.get? b = some o ∧ upd H9 D (.lst (acc ++ [yv])) b = none := fun b m o e =>
        let z := I10.pin (b, o) (List.mem_append_right _ (List.mem_append_right _ (mem_pinsAt m e)))
        ⟨z.1, z.2.1⟩
      refine ⟨m', less, i + 1, _, (I10.unpinned (pins := [])).weak (by rw [← same8, wipe_length]) (fun j v e => ?_), T.keep _ _ _ t7 fun b m o e => (kept b m o e).1, fun b m => ?_, w'⟩
      · rw [← same8] at e
        exact (wipe_some e).1
      · obtain ⟨o, e, _⟩ := T.obj _ _ t7 b m
        exact (kept b m o e).2
  exact codeAny_compStart_list loop (T.self X.A 0 _ _ _ t4 loop)
/-- as a value -/
theorem pe_lcE (P : BlkP X E elt tg iter scope own wi g te) : PE X (.ListComp elt [⟨tg, iter, [], 0⟩] scope pos) (tLc wi g tYes te (own.map (·.2))) where
  run pins s σ H Q I h := by
    rw [eval_ListComp]
    refine lce_core P I h fun D C s' m H' I' q ns clear => ⟨m, ns, fun h' sb => ?_⟩
    obtain ⟨a0, a1, _, a2, a3, a4⟩ := clear
    exact ⟨.ref D, H', I'.turned (t' := s'.toks) (fun b o ne e => (sb.2 b ne).trans e) a0 a1 a2 a3 a4, rfl, q⟩
/-- name = [..], the name a local -/
theorem ps_setLcE {i : Nat} {y : Str} {py spos : Pos} (P : BlkP X E elt tg iter scope own wi g te) (hy : X.N[i]? = some y) (loc : X.env.scope.names.lookup y = some .local)
    (sw : swapsWith (.ListComp elt [⟨tg, iter, [], 0⟩] scope pos) (some (.Name y py)) spos.line X.env = pure true) :
    PS X (.Assign [.Name y py] (.ListComp elt [⟨tg, iter, [], 0⟩] scope pos) spos) (tAsg (tLc wi g tYes te (own.map (·.2))) (gName i)) where
  run pins s σ H D I h := by
    have h : tLc wi g tYes te (own.map (·.2)) σ H (fun x H1 => gName i x σ H1 D.nx) := h
    rw [exec_Assign_Name_used _ _ _ _ sw]
    refine wpAny_bind (wpAny_standAt (wpAny_bind ?_))
    refine wpAny_bind (m := comprehension _ scope X.env _ (newList []) false (eval iter X.env) (some (assign (.Name y py) X.env))) (thn (lce_core (Qf := fun _ s' => SP X pins D .next s') P I h ?_) fun _ _ q => wpAny_pure (wpAny_pure q))
    intro L C s' m H' I' q ns clear
    obtain ⟨a0, a1, _, a2, a3, a4⟩ := clear
    refine wpAny_assign_Name (store_ok2 (v := V.ref L) I' P.nd hy (.inl loc) rfl (fun s2 I2 ⟨a, sb, which⟩ => ?_) (.inr loc))
    have ne : C ≠ a := fun z => which.elim (fun w => a1 (z.trans w)) fun w => a3 y a w z.symm
    exact ⟨m, ns.sameBut sb ne, fun h' sb' => ⟨_, H', I2.turned (t' := s2.toks) (fun b o e1 e => (sb'.2 b e1).trans e) a0 a1 a2 a3 a4, q⟩⟩
end
/-- a call that may raise, as an element -/
theorem pe_clB {X : Cx} {s : Shared} {H : Hp} {scope : Scope} {be : Env} {fp : List Addr} {E : XK} {k : Nat} {f : Addr} {fd : FuncData} {ps : List Str} {sp : Sp} {st : Stmt} {x : Str} {p pos : Pos} {e : Expr} {es : List Expr} {t : TA}
    (G : FnOk X.prog X.w X.K X.mg X.base (L2.CX X.prog X.w) k f fd ps sp) (D : Dfn X.K X.mg x st ps f fd) (hr : Room k X.A) (ha : PA (Cx.blkE X s H scope be fp E) (e :: es) t) (hg : Gl (Cx.blkE X s H scope be fp E) x := by rfl) (hdb : (x == ("__debug__" : Str)) = false := by decide)
    (he : starEach (e :: es) be = (false, eval e be) :: starEach es be := by rfl) (hpl : (backTo pos (starEach es be)).any (·.1) = false := by rfl) : PE (Cx.blkE X s H scope be fp E) (.Call (.Name x p) (e :: es) [] pos) (tCall sp [] E t) :=
  pe_call (X := Cx.blkE X s H scope be fp E) G hr hg D.g D.F.kp D.b .nil passes_blk ha hdb he hpl
end Ts
end
section
/-! any(test for x in list): the test may call a def, if that call changes nothing. -/
namespace Ts
open PySem PySem.Spec PyProof.Rows L2 GxR

/-- at the i-th item the test gives pb i, wherever what stood in s1 stands still (the table at P may have grown) -/
def EltL (X : Cx) (P : Addr) (scope : Scope) (x : Str) (elt : Expr) (σ : L2.St) (H1 : Hp) (xs : List V) (pb : Nat → Bool) : Prop :=
  ∀ (pins : List (Addr × Obj)) (s1 : Shared), Inv X pins σ H1 s1 → ∀ (cenv : Env) (A' : Around) (E' : Value → Shared → Prop) (i : Nat) (y : V) (v : Value) (t : Shared) (m₂ : Str → Option Value),
    xs[i]? = some y → RelV y v → cenv.scope = scope → cenv.globals = X.env.globals → cenv.builtins = builtinsNs → cenv.cells = cloFrom X.env.cells scope.names [] → A'.handled = none → A'.depth ≤ X.A.depth + 1 → A'.units ≤ X.A.units + 8 →
    t.heap.Ns cenv.locals m₂ → m₂ x = some v → (∀ b o, b ≠ P → s1.heap.get? b = some o → t.heap.get? b = some o) →
    wpAny (model X.prog X.w) A' (eval elt cenv) (fun z s₃ => z = .bool (pb i) ∧ Keeps t s₃) E' t

/-- a code object's table, as it lies -/
abbrev TblIs (h : Heap) (P : Addr) (rows : Array Value) : Prop := h.get? P = some { cls := .none, data := .fields rows }
/-- the generator expression's own code: found in the table, or made and put behind it -/
theorem code_grown {prog : Program} {w : World} {A : Around} {E : Value → Shared → Prop} {s : Shared} {env : Env} {scope : Scope} {gpos : Pos} {nm : Str} {c P : Addr} {rows : Array Value} {Q : Value → Shared → Prop}
    (at_c : env.code = .ref c) (head : PySem.W.CodeHd s.heap c P) (tbl : TblIs s.heap P rows) (ok : TriplesOk rows.toList)
    (q : ∀ (cv : Value) (h : Heap) (tk : Nat) (more : Array Value), Heap.ExtBut P s.heap h → s.heap.objs.size ≤ h.objs.size → TblIs h P (rows ++ more) → TriplesOk (rows ++ more).toList → Q cv { s with heap := h, toks := tk }) :
    wpAny (model prog w) A (genexprCode env gpos nm scope) Q E s := by
  match found : codeAmong gpos rows.toList with
  | some cv =>
    refine wpAny_genexprCode_hit at_c (head.code tbl ok) found (q cv s.heap s.toks #[] (.refl _ _) (Nat.le_refl _) ?_ ?_)
    · simpa using tbl
    · simpa using ok
  | none =>
    refine wpAny_genexprCodeX at_c (head.code tbl ok) (head.tab tbl) found fun c2 h2 tk2 ext le lt rec _ now _ => ?_
    refine q _ h2 tk2 _ ext (Nat.le_trans le (Nat.le_of_lt lt)) now.2 ?_
    obtain ⟨_, _, _, _, _, _, _, _, _, _, _, _, _, _, _, _, _, _, _, good, _⟩ := rec
    exact good
section
variable {X : Cx} {pins : List (Addr × Obj)} {σ : L2.St} {H : Hp} {s : Shared}
/-- behind the generator's turns: only the table has grown -/
theorem inv_behind {P : Addr} {rows more : Array Value} {wr : List Addr} {G : Array GenState → Array GenState → Prop} {s5 s' : Shared} (I : Inv X pins σ H s) (tbl : H P = some (.tbl rows)) (mv : Moved wr G s5 s') (same_os : s5.os = s.os) (bare : AllBare s'.gens)
    (stands : ∀ b u, b ≠ P → s.heap.get? b = some u → s5.heap.get? b = some u) (off : ∀ b u, s.heap.get? b = some u → b ∉ wr) (grown : TblIs s5.heap P (rows ++ more)) (ok : TriplesOk (rows ++ more).toList) :
    ∃ H2, Tabbed P H H2 ∧ Inv X pins σ H2 s' := by
  have was : TblIs s.heap P rows := I.hok P _ tbl
  have J := inv_tab (h' := s'.heap) (g' := s'.gens) (d' := s'.drawn) (t' := s'.toks) (more := more) I tbl (fun b u ne e => mv.heap b u (off b u e) (stands b u ne e)) (mv.heap P _ (off P _ was) grown) bare
  rw [sh_eta s s' (mv.os.trans same_os)] at J
  exact ⟨_, ⟨⟨_, upd_same, ok⟩, fun b ne => upd_ne ne⟩, J⟩
/-- what any() is handed: a generator whose j-th item is pb j, n of them; however far it is walked, only the table has grown -/
structure Handed (X : Cx) (pins : List (Addr × Obj)) (σ : L2.St) (H1 : Hp) (P : Addr) (n : Nat) (pb : Nat → Bool) (g : Addr) (s5 : Shared) : Prop where
  go : ∃ fp wr G F St, WalksS X.prog X.w X.A.in1 g fp wr G n F St ∧ St 0 s5 ∧ TruthOf X.prog X.w X.A.in1 F pb ∧ ∀ s', Moved wr G s5 s' → ∃ H2, Tabbed P H1 H2 ∧ Inv X pins σ H2 s'
theorem gen_list {c P : Addr} {elt iter : Expr} {x : Str} {px gpos : Pos} {scope : Scope} {te : TE} {k : Nat} {Q' : Value → Shared → Prop} {R : Nat → (Nat → Bool) → Hp → Prop}
    (hr : Room k X.A) (TB : TabB X.base X.mg c P) (at_c : X.env.code = .ref c) (S : GenS X.env scope x) (hi : PE X iter te) (plain : ∀ v, genFold iter X.env v = pure v) (I : Inv X pins σ H s)
    (h : te σ H fun v H1 => ∃ (a : Addr) (xs : List V) (pb : Nat → Bool), v = .ref a ∧ SqL X.K H1 a xs ∧ TabG H1 P ∧ EltL X P scope x elt σ H1 xs pb ∧ R xs.length pb H1)
    (hQ : ∀ n pb H1 g s5, R n pb H1 → Handed X pins σ H1 P n pb g s5 → Q' (.ref g) s5) :
    wpAny (model X.prog X.w) X.A (eval (.GeneratorExp elt [⟨.Name x px, iter, [], 0⟩] scope gpos) X.env) Q' X.xe s := by
  have deep : X.A.depth < recursionLimit := by have := hr.dp; omega
  refine wpAny_GeneratorExp_walksQD hr.hd S.co (closure_ok S.free) S.cell S.dot S.loc S.kind deep (thn (hi.run pins s σ H _ I h) ?_) plain
  rintro _ sV ⟨_, H1, IV, rel, a, xs, pb, rfl, sq, ⟨rows, tbl, ok⟩, test, want⟩
  cases rel
  -- the list that is walked
  obtain ⟨its, vals, lies, _⟩ := IV.list sq
  have isL : sV.heap.IsList a its.toArray := lies.isList
  have cnt : its.toArray.size = xs.length := (List.size_toArray ..).trans vals.length.symm
  have a_in : a < sV.heap.objs.size := let ⟨_, e, _⟩ := isL; Heap.lt_size e
  have tblV : TblIs sV.heap P rows := IV.hok P _ tbl
  have P_in : P < sV.heap.objs.size := Heap.lt_size tblV
  have a_ne : a ≠ P := by
    rintro rfl
    obtain ⟨_, e, isl, _⟩ := isL
    cases tblV.symm.trans e
    cases isl
  -- its iterator, anew
  refine wpAny_pyIter_list isL ⟨IV.nolimit.push _, ?_⟩
  have stays : ∀ {o : Obj} b u, sV.heap.get? b = some u → (sV.heap.push o).get? b = some u := fun b u e => Heap.get?_push_of_some _ e
  refine code_grown at_c (TB.code.keeps fun b u e => stays b u (IV.bk b u e)) (stays P _ tblV) ok fun cv hC tk more ext big tblC okC => ?_
  rw [Heap.size_push] at big
  have big' : sV.heap.objs.size < hC.objs.size := big
  have keepC : ∀ b u, b ≠ P → sV.heap.get? b = some u → hC.get? b = some u := fun b u ne e => ext b u ne (stays b u e)
  have itC := ext sV.heap.objs.size _ (fun z => Nat.ne_of_lt P_in z.symm) (Heap.get?_push_size sV.heap (o := { cls := .type "list_iterator", data := .fields #[.ref a, .int 0 0] }) rfl)
  -- the built-in names
  obtain ⟨bm, om, n1, n2, _, n4, n5, n6, n7, n8⟩ := TB.bm
  refine wpAny_builtinsFor (m := X.mg) ?_ n1 n2 (keepC _ _ n4 (IV.bk _ _ n5)) n6 n7 n8 ?_
  · rw [IV.ok.glob]
    exact ((IV.mod.glob.keeps IV.bk).push _).extBut ext TB.gP
  have lim := IV.nolimit
  have st_ne : cStatics ≠ P := by
    rintro rfl
    obtain ⟨_, ⟨_, _, _, e, isd, _⟩, _⟩ := lim
    cases tblV.symm.trans e
    cases isd
  have st_in : cStatics < sV.heap.objs.size := let ⟨_, ns, _⟩ := lim; ns.lt
  refine ⟨sV.heap.objs.size, [sV.heap.objs.size, a], [sV.heap.objs.size], its.toArray.size, _, _, fun _ => true, fun i z => i < its.toArray.size ∧ z = .bool (pb i), rfl, fun A' hA => Walks.list hA _ _ (Nat.ne_of_lt a_in) its.toArray,
    ⟨⟨_, itC, rfl, rfl⟩, isL.at fun u e => keepC _ _ a_ne e⟩, ?_, (IV.nolimit.push _).extBut ext st_ne, fun m => ?_, fun href up => ?_, fun g h5 tk5 gs gbare _ _ keep5 W5 start => ?_⟩
  · simp only [List.mem_cons, List.not_mem_nil, or_false]
    rintro b (rfl | rfl)
    · exact big'
    · exact Nat.lt_trans a_in big'
  · exact Nat.ne_of_lt st_in (List.mem_singleton.mp m)
  · -- the test at an item
    refine ⟨fun _ _ _ _ _ _ _ _ _ _ _ _ _ => ?_, fun A' E' i v t m₂ hA hD hU at_i _ ns here held => ?_⟩
    · simp only [List.forIn_nil]
      refine wpAny_pure ?_
      exact .intro rfl (keeps_refl _)
    · have i_in : i < its.toArray.size := (Array.getElem?_eq_some_iff.mp at_i).1
      obtain ⟨u, eu, ru⟩ := vals.get (List.getElem?_eq_getElem (show i < xs.length by omega))
      cases (show some u = some v from eu.symm.trans (by simpa using at_i))
      refine wpAny_mono (test pins sV IV _ A' E' i _ _ t m₂ (List.getElem?_eq_getElem (by omega)) ru rfl rfl rfl rfl hA hD hU ns here fun b o ne e => ?_) (fun _ _ r => ⟨⟨i_in, r.1⟩, r.2⟩) fun _ _ e => e
      have b_in := Heap.lt_size e
      exact held b (List.mem_range.mpr (Nat.lt_trans b_in big')) (fun m => Nat.ne_of_lt b_in (List.mem_singleton.mp m)) o (up b o (keepC b o ne e))
  · -- the generator
    simp only [GxR.passing_true, List.length_range] at W5
    refine hQ its.toArray.size pb H1 g _ (by rw [cnt]; exact want) ⟨⟨_, _, _, _, _, W5.in4_1, start, ?_, fun s' mv => ?_⟩⟩
    · rintro j _ t Qj Ej ⟨i, at_j, _, rfl⟩ qj
      obtain ⟨lt, e⟩ := List.getElem?_eq_some_iff.mp at_j
      rw [List.getElem_range] at e
      exact wpAny_truthy_bool (e ▸ qj)
    · refine inv_behind (more := more) IV tbl mv rfl (AllBare.movedS (IV.bare.push gbare) mv) (fun b u ne e => keep5 b u (keepC b u ne e)) (fun b u e m => ?_) (keep5 P _ tblC) okC
      have b_in : (b : Nat) < sV.heap.objs.size := Heap.lt_size e
      simp only [List.mem_cons, List.not_mem_nil, or_false] at m
      rcases m with m | m
      · exact Nat.lt_irrefl _ (Nat.lt_trans big' (m ▸ b_in))
      · exact Nat.ne_of_lt b_in m

/-- any(test for x in e), e a list; behind it the def's table may have grown -/
def tAnyL (X : Cx) (P : Addr) (scope : Scope) (x : Str) (elt : Expr) (te : TE) : TE := fun σ H Q => te σ H fun v H1 => ∃ (a : Addr) (xs : List V) (pb : Nat → Bool), v = .ref a ∧ SqL X.K H1 a xs ∧ TabG H1 P ∧ EltL X P scope x elt σ H1 xs pb ∧
  ∀ H2, Tabbed P H1 H2 → Q (.bl ((List.range xs.length).any pb)) H2
theorem pe_anyL {c P : Addr} {elt iter : Expr} {x : Str} {px p pos gpos : Pos} {scope : Scope} {te : TE} {k : Nat}
    (hr : Room k X.A) (hg : Gl X "any") (hm : X.mg "any" = none) (TB : TabB X.base X.mg c P) (at_c : X.env.code = .ref c) (S : GenS X.env scope x) (hi : PE X iter te) (plain : ∀ v, genFold iter X.env v = pure v) :
    PE X (.Call (.Name "any" p) [.GeneratorExp elt [⟨.Name x px, iter, [], 0⟩] scope gpos] [] pos) (tAnyL X P scope x elt te) where
  run pins s σ H Q I h := by
    refine wpAny_Call_Name_kw (ld_blt I hg hm boot_any (PyProof.Rows.callWith_builtin1 (e := .GeneratorExp elt [⟨.Name x px, iter, [], 0⟩] scope gpos) (rest := []) ?_ rfl rfl))
    show wpAny _ _ (spliced [(false, _)]) _ _ _
    refine Calls.spliced_cons (gen_list (R := fun n pb H1 => ∀ H2, Tabbed P H1 H2 → Q (.bl ((List.range n).any pb)) H2) hr TB at_c S hi plain I h fun n pb H1 g s5 want hand => Calls.spliced_nil ?_)
    obtain ⟨fp, wr, G, F, St, W, start, truth, back⟩ := hand.go
    refine call_any_walkS (W.self 0 _ _ _ start ⟨g, fp, wr, G, _, F, St, _, rfl, W, start, truth, fun s' mv => ?_⟩)
    obtain ⟨H2, tabbed, J⟩ := back s' mv
    exact ⟨.bl _, H2, J, rfl, want H2 tabbed⟩
end
end Ts
namespace Ts
open PySem PySem.Spec PyProof.Rows L2 GxR
/-- what stood is kept, but tables may have grown -/
def NoTbl (o : HO) : Prop := ∀ ps, o ≠ .tbl ps
structure Kp (H H' : Hp) : Prop where
  ob : ∀ b o, NoTbl o → H b = some o → H' b = some o
  tb : ∀ b, TabG H b → TabG H' b
  th : ∀ b, H' b = none → H b = none
theorem Kp.of {H H' : Hp} (s : Same H H') : Kp H H' := ⟨fun b o _ e => s b o e, fun b g => tab_same s g, fun b e => s.free e⟩
theorem Kp.refl (H : Hp) : Kp H H := Kp.of (Same.refl H)
theorem Kp.trans {H H' H'' : Hp} (s : Kp H H') (t : Kp H' H'') : Kp H H'' := ⟨fun b o n e => t.ob b o n (s.ob b o n e), fun b g => t.tb b (s.tb b g), fun b e => s.th b (t.th b e)⟩
theorem Kp.tab {P : Addr} {H H' : Hp} (h : Tabbed P H H') (g : TabG H P) : Kp H H' where
  ob := fun b o n e => by
    refine (h.2 b fun z => ?_).trans e
    obtain ⟨ps, e2, _⟩ := g
    rw [z, e2] at e
    exact n ps (Option.some.inj e).symm
  tb := fun b gb => by
    by_cases z : b = P
    · rw [z]; exact h.1
    · obtain ⟨ps, e2, k⟩ := gb
      exact ⟨ps, (h.2 b z).trans e2, k⟩
  th := fun b e => by
    by_cases z : b = P
    · obtain ⟨ps, e2, _⟩ := h.1
      rw [z, e2] at e
      cases e
    · exact (h.2 b z).symm.trans e
theorem Kp.at {H H' : Hp} (k : Kp H H') {b : Addr} {o : HO} (e : H b = some o) (h : NoTbl o := by intro _ z; cases z) : H' b = some o := k.ob b o h e
theorem Kp.free {H H' : Hp} (k : Kp H H') {b : Addr} (e : H' b = none) : H b = none := k.th b e
theorem Kp.seq {K : PySem.W.Frag} {H H' : Hp} {a : Addr} {xs : List V} (k : Kp H H') (h : SqL K H a xs) : SqL K H' a xs := by
  obtain (h | ⟨o, h⟩) | h := h
  · exact .inl (.inl (k.at h))
  · exact .inl (.inr ⟨o, k.at h⟩)
  · exact .inr h
theorem Kp.seqT {K : PySem.W.Frag} {H H' : Hp} {a : Addr} {xs : List V} (k : Kp H H') (h : SqT K H a xs) : SqT K H' a xs := by
  obtain (h | ⟨o, h⟩) | h := h
  · exact .inl (.inl (k.at h))
  · exact .inl (.inr ⟨o, k.at h⟩)
  · exact .inr h
/-- what is new to H may change -/
theorem Kp.mut {H H1 : Hp} {D : Addr} {o o0 : HO} (s : Kp H H1) (h : H D = none) (h1 : H1 D = some o0) (n : NoTbl o0 := by intro _ z; cases z) : Kp H (upd H1 D o) where
  ob := fun b u q e => by
    rw [upd_ne (ne_of_none e h)]
    exact s.ob b u q e
  tb := fun b g => by
    obtain ⟨ps, e, k⟩ := g
    obtain ⟨ps', e', k'⟩ := s.tb b ⟨ps, e, k⟩
    exact ⟨ps', (upd_ne (ne_of_none e h)).trans e', k'⟩
  th := fun b e => by
    by_cases z : b = D
    · rw [z]; exact h
    · exact s.th b ((upd_ne z).symm.trans e)
theorem gs_free {env : Env} {scope : Scope} {x y : Str} {c : Addr} (h1 : scope.kind = .function) (h2 : scope.isCoroutine = false) (h3 : ∀ z ∈ scope.names, z.2 ≠ .cell ∧ (z.2 = .free → z.1 = y)) (h4 : scope.names.lookup (".0" : Str) = some NameKind.local) (h5 : scope.names.lookup x = some .local) (h6 : env.cells.lookup y = some c) : GenS env scope x :=
  ⟨h1, h2, fun z hz => (h3 z hz).1, h4, h5, fun z hz f => ⟨c, by rw [(h3 z hz).2 f]; exact h6⟩⟩
def atF {α : Type} (l : List α) (f : α → Bool) (i : Nat) : Bool := match l[i]? with
  | some t => f t
  | none => false
theorem atF_some {α : Type} {l : List α} {f : α → Bool} {i : Nat} {t : α} (h : l[i]? = some t) : atF l f i = f t := by
  unfold atF
  rw [h]
theorem any_range {α : Type} (l : List α) (f : α → Bool) : (List.range l.length).any (atF l f) = l.any f := by
  rw [Bool.eq_iff_iff, List.any_eq_true, List.any_eq_true]
  constructor
  · rintro ⟨i, hi, h⟩
    have hi' := List.mem_range.mp hi
    rw [atF_some (List.getElem?_eq_getElem hi')] at h
    exact ⟨l[i], List.getElem_mem hi', h⟩
  · rintro ⟨t, ht, h⟩
    obtain ⟨i, hi⟩ := List.getElem?_of_mem ht
    exact ⟨i, List.mem_range.mpr (List.getElem?_eq_some_iff.mp hi).1, by rw [atF_some hi]; exact h⟩
/-! ### a call that changes nothing, at the library's level -/
section
variable {P : Program} {w : World} {K : PySem.W.Frag} {mg : Str → Option Value} {base : Heap} {A : Around} {E : Value → Shared → Prop} {s : Shared}
theorem quiet_call {x : Str} {st : Stmt} {ps : List Str} {f : Addr} {fd : FuncData} {Q : Value → Shared → Prop} (D : Dfn K mg x st ps f fd) (M : Mod K mg base) (hroom : A.depth < recursionLimit) (hk : ∀ b o, base.get? b = some o → s.heap.get? b = some o) {us : List Value} (hl : us.length = ps.length)
    (hcell : ∀ y ∈ (defScope st).names, y.2 ≠ .cell) (hloc : ∀ y ∈ ps, (defScope st).names.lookup y = some .local) (hco : (defScope st).isCoroutine = false) (hgen : (defScope st).isGenerator = false) (hkd : (defScope st).kind = .function)
    (h : ∀ h₀ cd, Fr s.heap s.heap.objs.size h₀ (fun z => (ps.zip us).reverse.lookup z) → wpAny (model P w) (A.deeper (PySem.W.envX x (defScope st) s.heap.objs.size f cd [])) (execs (defBody st) (PySem.W.envX x (defScope st) s.heap.objs.size f cd []))
      (fun fl s' => Q (match fl with | .ret v => v | _ => .none) s') (fun _ _ => False) { s with heap := h₀, toks := s.toks + (ps.zip us).length }) :
    wpAny (model P w) A (call (.ref f) us) Q E s := by
  obtain ⟨F, g, b⟩ := D
  obtain ⟨oc, od, kV, doc, pm, an, cdv, ct, osl, hfd, lk, hcd⟩ := F.ex
  subst hfd
  have KI := M.kin.keeps hk
  have hb := b s us KI (by rw [List.append_nil]; exact hl)
  rw [List.append_nil] at hb
  refine wpAny_call (codeAny_call_def (fd := PySem.W.fnOf x x (defArgs st) (defBody st) (defScope st) .none kV doc pm an cdv ct) (body := defBody st) (binds := ps.zip us) hroom (KI _ _ lk) rfl (M.nolimit.keeps hk) (PySem.W.codeRec_of KI hcd) rfl hb hcell (fun y hy => hloc _ (List.of_mem_zip hy).1) (fun h₀ hns hk₀ => ?_) hco hgen hkd)
  exact wpAny_mono (h h₀ cdv ⟨hns, hk₀, Nat.le_refl _⟩) (fun _ _ z => z) fun _ _ z => z.elim
variable {n : Str} {sc : Scope} {L f : Addr} {cd : Value} {h₀ : Heap} {m : Str → Option Value}
theorem q_blt {x : Str} {u : Value} {pos : Pos} {Q : Value → Shared → Prop} (M : Mod K mg base) (hk : ∀ b o, base.get? b = some o → s.heap.get? b = some o) (hm : mg x = none) (hv : bootBuiltins x = some u) (h : Q u s)
    (hs : sc.kind = .function := by rfl) (hx : (PySem.W.envX n sc L f cd []).kindOf x = some .globalImplicit := by rfl) (hn : x ≠ "__name__" := by decide) (hd : (x == ("__debug__" : Str)) = false := by decide) :
    wpAny (model P w) A (eval (.Name x pos) (PySem.W.envX n sc L f cd [])) Q E s := by
  obtain ⟨mb, h1, h2⟩ := M.blt
  exact Calls.Name_function_global hs hx (Calls.loadGlobal_builtin (M.glob.keeps hk) hm (h1.keeps hk) ((h2 x hn).trans hv) h) hd
theorem q_item {x : Str} {b : Addr} {items : Array Value} {j : Nat} {val : Value} {p p2 pos : Pos} {k : Nat} {Q : Value → Shared → Prop} (F : Fr h₀ L s.heap m) (hx : m x = some (.ref b)) (ht : IsTup s.heap b items) (hi : items[j]? = some val) (hj : j < 1000)
    (h : Q val { s with toks := s.toks + 1 }) (hs : sc.kind = .function := by rfl) (hl : (PySem.W.envX n sc L f cd []).kindOf x = some .local := by rfl) (hd : (x == ("__debug__" : Str)) = false := by decide) :
    wpAny (model P w) A (eval (.Subscript (.Name x p) (.Constant (.int (j : Int)) k p2) pos) (PySem.W.envX n sc L f cd [])) Q E s := by
  refine Subscript_ (PySem.W.nameX_L F hx (wpAny_Constant_int ?_) hs hl hd)
  have ht2 : IsTup ({ s with toks := s.toks + 1 } : Shared).heap b items := ht
  have hsz : j < items.size := (Array.getElem?_eq_some_iff.mp hi).1
  refine subscriptTail_builtinR (x := val) ht2.typeIs slot_tuple_getitem.lookup (getItem_tuple (j := j) (Q := fun r s' => r = val ∧ Q r s') ht2 (by omega) (by omega) ?_ hi ⟨rfl, h⟩)
  unfold seqIndex?
  simp
  omega
end
end Ts
end
section
/-! Words of a row: slices with a step, figures, runs of figures. -/
namespace Ts
open PySem PySem.Spec PyProof.Rows L2

/-! ### xs[lo::st] -/
def stepV {α : Type} (xs : List α) (lo st : Option Int) : List α := (sliceRange (sliceBounds lo none st xs.length).1 (sliceBounds lo none st xs.length).2.1 (sliceBounds lo none st xs.length).2.2).filterMap (xs[·]?)
theorem vals_pick {xs : List V} {us : List Value} (r : Vals xs us) : ∀ l : List Nat, Vals (l.filterMap (xs[·]?)) (l.filterMap (us[·]?))
  | [] => .nil
  | i :: l => by
    cases e : xs[i]? with
    | none =>
      have n : us[i]? = none := by
        rw [List.getElem?_eq_none_iff] at e ⊢
        rw [← r.length]; exact e
      rw [List.filterMap_cons, List.filterMap_cons]
      simp only [e, n]
      exact vals_pick r l
    | some v =>
      obtain ⟨u, eu, ru⟩ := r.get e
      rw [List.filterMap_cons, List.filterMap_cons]
      simp only [e, eu]
      exact .cons ru (vals_pick r l)
def tSlS (K : PySem.W.Frag) (te : TE) (tl ts : TO) : TE := fun σ H Q => te σ H fun x H1 => tl σ H1 fun lo H2 => ts σ H2 fun st H3 => ∃ (a : Addr) (xs : List V), x = .ref a ∧ SqL K H3 a xs ∧ st ≠ some 0 ∧ ∀ p, H3 p = none → Q (.ref p) (upd H3 p (.lst (stepV xs lo st)))
theorem pe_sliceS {X : Cx} {e : Expr} {lo : Option Expr} {st : Expr} {te : TE} {tl ts : TO} {p2 pos : Pos} (he : PE X e te) (hl : PO X lo tl) (hs : PO X (some st) ts) : PE X (.Subscript e (.Slice lo none (some st) p2) pos) (tSlS X.K te tl ts) := by
  constructor
  intro pins s σ H Q I h
  refine Subscript_ (thn (he.run pins s σ H _ I h) ?_)
  rintro v s1 ⟨x, H1, I1, rx, q1⟩
  refine wpAny_Slice (thn (hl.run pins s1 σ H1 _ I1 q1) ?_)
  rintro vl s2 ⟨l, H2, I2, pl, q2⟩
  rw [evalPart_none]
  refine wpAny_pure (thn (hs.run pins s2 σ H2 _ I2 q2) ?_)
  rintro vs s3 ⟨c, H3, I3, pc, a, xs, rfl, sq, nz, q3⟩
  cases rx
  have stays : ∀ {o : Obj} b u, s3.heap.get? b = some u → (s3.heap.push o).get? b = some u := fun b u e => Heap.get?_push_of_some _ e
  have I4 : Inv X pins σ H3 { s3 with heap := s3.heap.push { cls := .type "slice", data := .fields #[vl, .none, vs] } } := I3.kept (t' := s3.toks) stays
  obtain ⟨its, vals, lies, room⟩ := I4.list sq
  have cnt : its.toArray.size = xs.length := (List.size_toArray ..).trans vals.length.symm
  refine tail_any (ops := [.ref a, .ref s3.heap.objs.size]) (id := "list.__getitem__") (T := "list") lies.isList.typeIs slot_list_getitem.lookup ?_ (by with_unfolding_all rfl)
  refine wpAny_getItem_list_slice lies.isList (Heap.IsSliceOf.new ..) pl .none pc nz ?_ (by rw [cnt]; exact room)
  have size : (stepV xs l c).length ≤ xs.length := by
    have z := slicePick_size_le its.toArray l none c
    unfold slicePick at z
    rw [List.size_toArray, cnt] at z
    have same := (vals_pick vals (sliceRange (sliceBounds l none c xs.length).1 (sliceBounds l none c xs.length).2.1 (sliceBounds l none c xs.length).2.2)).length
    simp only [List.getElem?_toArray] at z
    unfold stepV
    omega
  refine ⟨.ref _, _, I4.laid (t' := s3.toks) (o := .lst (stepV xs l c)) (fun b u e => Heap.get?_push_of_some _ e) (Nat.le_refl _) ⟨Nat.le_trans size room, _, 0, vals_pick vals _, ?_⟩, rfl, q3 _ (I4.hok.fresh (Nat.le_refl _))⟩
  unfold slicePick
  rw [cnt]
  simp only [List.getElem?_toArray]
  exact Heap.get?_push_size _ rfl

/-! ### max of four numbers -/
theorem args_max4 (a b c d : Value) : argsOk "max" ⟨[a, b, c, d], []⟩ := by unfold argsOk; kernel_rfl
theorem max_four {prog : Program} {w : World} {A : Around} {E : Value → Shared → Prop} {s : Shared} {xs : Array (Int × Tok)} {Q : Value → Shared → Prop} (four : xs.size = 4) (hh : A.handled = none)
    (h : ∀ (j : Nat) (t : Tok) (h' : Heap) (tk : Nat), j < 4 → (∀ i, i < 4 → numAt xs i ≤ numAt xs j) → (∀ b o, s.heap.get? b = some o → h'.get? b = some o) → Q (.int (numAt xs j) t) { s with heap := h', toks := tk }) :
    wpAny (model prog w) A (call (.builtin "max") (intItems xs).toList) Q E s := by
  obtain ⟨a, b, c, d, rfl⟩ : ∃ a b c d, xs = #[a, b, c, d] := by
    obtain ⟨l⟩ := xs
    match l, four with
    | [a, b, c, d], _ => exact ⟨a, b, c, d, rfl⟩
  generalize hx : #[a, b, c, d] = xs at *
  have items : (intItems xs).toList = [.int a.1 a.2, .int b.1 b.2, .int c.1 c.2, .int d.1 d.2] := by rw [← hx]; simp [intItems]
  rw [items]
  have loop : (toString "max" ++ toString ".loop" : String) = "max.loop" := by decide
  refine call_function_tree F.kind_max F.plain_max F.entry_max (args_max4 _ _ _ _) ?_
  show wpAny _ A.in1 (Builtin.Builtins.bindParams "max" ["key", "default"] 0 ⟨[], []⟩ >>= _) _ _ s
  refine wpAny_bind (wpAny_of_eq (show Builtin.Builtins.bindParams "max" ["key", "default"] 0 ⟨[], []⟩ = pure [none, none] from rfl) ?_)
  show wpAny _ A.in1 (newTuple _ >>= _) _ _ s
  refine wpAny_bind (wpAny_newObj_type ?_)
  rw [← items]
  -- the tuple, its iterator, the loop's own record
  generalize hT : s.heap.push { cls := .type "tuple", data := .seq (intItems xs).toList.toArray } = hp
  have big : hp.objs.size = s.heap.objs.size + 1 := by rw [← hT, Heap.size_push]
  have tup : hp.IsTuple s.heap.objs.size (intItems xs) := by
    rw [← hT]
    exact ⟨_, Heap.get?_push_size _ rfl, rfl, 0, by simp⟩
  have old : ∀ b o, s.heap.get? b = some o → hp.get? b = some o := fun b o e => by rw [← hT]; exact Heap.get?_push_of_some _ e
  have apart : s.heap.objs.size ≠ hp.objs.size := by omega
  refine wpAny_bind (wpAny_pyIter_tuple tup ?_)
  have W := Walks.tuple (prog := prog) (w := w) (A := A.in1) hh hp.objs.size s.heap.objs.size apart (intItems xs)
  refine wpAny_bind (wpAny_newObj_type ?_)
  rw [loop]
  have size2 : ∀ o : Obj, (hp.push o).objs.size = hp.objs.size + 1 := fun o => Heap.size_push ..
  have n4 : (intItems xs).size = 4 := by rw [← hx]; simp [intItems]
  refine wpAny_pure ⟨plainId_quiet F.plain_max_loop _, codeAny_max_loop_first W _ (CmpOf.ints_gt (numAt xs) fun _ _ => intItems_at) _ ?_ (by rw [n4]; decide) ⟨⟨_, Heap.get?_push_of_some _ (Heap.get?_push_size _ rfl), rfl, rfl⟩, (tup.push _).push _⟩ (Heap.get?_push_size _ rfl) fun v h' tk best keep => ?_⟩
  · intro m
    have size3 := size2 { cls := .type "tuple_iterator", data := .fields #[.ref s.heap.objs.size, .int 0 0] }
    have m : (hp.push { cls := .type "tuple_iterator", data := .fields #[.ref s.heap.objs.size, .int 0 0] }).objs.size ∈ [hp.objs.size, s.heap.objs.size] := m
    rw [size3, big] at m
    rcases List.mem_cons.mp m with m | m
    · exact absurd m (Nat.ne_of_gt (Nat.lt_succ_self _))
    · rw [List.mem_singleton] at m
      exact absurd m (Nat.ne_of_gt (Nat.lt_succ_of_lt (Nat.lt_succ_self _)))
  · have best : (intItems xs)[argBest (fun i j => decide (numAt xs i > numAt xs j)) ((intItems xs).size - 1)]? = some v := best
    rw [n4, show 4 - 1 = 3 from rfl] at best
    obtain ⟨t, rfl⟩ := intItems_at best
    obtain ⟨le, top⟩ := argBest_gt (numAt xs) 3
    refine h _ t h' tk (by omega) (fun i hi => top i (by omega)) fun b o e => ?_
    have lt := Heap.lt_size e
    have lt2 : b < hp.objs.size := by rw [big]; exact Nat.lt_succ_of_lt lt
    refine keep b o (fun m => ?_) ?_ (Heap.get?_push_of_some _ (Heap.get?_push_of_some _ (old b o e)))
    · rw [List.mem_singleton] at m
      exact Nat.ne_of_lt lt2 m
    · show b ≠ (hp.push _).objs.size
      rw [size2]
      exact Nat.ne_of_lt (Nat.lt_succ_of_lt lt2)
theorem call_max4 {X : Cx} (hc : X.calm = true) : CallR X (.builtin "max") (fun vs H Q => ∃ i j k l, vs = [.int i, .int j, .int k, .int l] ∧ ∀ m, (m = i ∨ m = j ∨ m = k ∨ m = l) → i ≤ m → j ≤ m → k ≤ m → l ≤ m → Q (.int m) H) := by
  rintro pins s σ H vs us Q I r ⟨i, j, k, l, rfl, q⟩
  match r with
  | .cons r1 (.cons r2 (.cons r3 (.cons r4 .nil))) =>
    obtain ⟨t1, rfl⟩ := r1
    obtain ⟨t2, rfl⟩ := r2
    obtain ⟨t3, rfl⟩ := r3
    obtain ⟨t4, rfl⟩ := r4
    have e : (intItems #[(i, t1), (j, t2), (k, t3), (l, t4)]).toList = [.int i t1, .int j t2, .int k t3, .int l t4] := by simp [intItems]
    rw [← e]
    refine max_four (xs := #[(i, t1), (j, t2), (k, t3), (l, t4)]) rfl (I.ok.hd hc) fun n t h' tk lt top keep => ⟨.int _, H, I.kept keep, ⟨t, rfl⟩, q _ ?_ (top 0 (by decide)) (top 1 (by decide)) (top 2 (by decide)) (top 3 (by decide))⟩
    match n, lt with
    | 0, _ => exact .inl rfl
    | 1, _ => exact .inr (.inl rfl)
    | 2, _ => exact .inr (.inr (.inl rfl))
    | 3, _ => exact .inr (.inr (.inr rfl))

/-! ### figures -/
abbrev fig (c : Nat) : Bool := decide (48 ≤ c) && decide (c ≤ 57)
/-- '0' <= x <= '9' -/
theorem elt_09 {prog : Program} {w : World} {scope : Scope} {x : Str} {j1 j2 : Nat} {p1 p2 p3 p4 : Pos} (hk : scope.kind = .function) (hl : scope.names.lookup x = some .local) (hd : (x == ("__debug__" : Str)) = false := by decide) :
    GxR.EltP prog w scope x (.Compare (.Constant (.str "0") j1 p1) [.LtE, .LtE] [.Name x p2, .Constant (.str "9") j2 p3] p4) fig := by
  intro cenv A' E' c t s₂ m₂ hs hn hm
  have hz : cenv.scope.names.lookup x = some .local := by rw [hs]; exact hl
  have one : ∀ {a b : Nat}, ([a] < [b]) ↔ a < b := fun {a b} => by
    rw [List.cons_lt_cons_iff]
    exact ⟨fun z => z.elim id fun y => absurd y.2 (List.not_lt_nil _), .inl⟩
  have e0 : ("0" : Str).cps.toList = [48] := by decide +kernel
  have e9 : ("9" : Str).cps.toList = [57] := by decide +kernel
  refine Compare_chain (Calls.Constant_str (chain_link (wpAny_Name (wpAny_loadName_local (by rw [hs]; exact hk) hz hn hm ?_) hd)))
  refine PySem.P.le_str (wpAny_truthy_bool ?_)
  show if (!decide (([c] : List Nat) < ("0" : Str).cps.toList)) = true then _ else _
  rw [e0]
  by_cases lo : 48 ≤ c
  · have n : ¬ ([c] < [48]) := fun z => by have := one.mp z; omega
    rw [decide_eq_false n]
    refine ite_tt (chain_last (Calls.Constant_str (PySem.P.le_str ⟨?_, GxR.keeps_tok _ _⟩)))
    show Value.bool (!decide (("9" : Str).cps.toList < ([c] : List Nat))) = Value.bool (fig c)
    rw [e9]
    unfold fig
    rw [decide_eq_true lo]
    by_cases hi : c ≤ 57
    · have n2 : ¬ ([57] < [c]) := fun z => by have := one.mp z; omega
      rw [decide_eq_false n2, decide_eq_true hi]
      rfl
    · have y2 : [57] < [c] := one.mpr (by omega)
      rw [decide_eq_true y2, decide_eq_false hi]
      rfl
  · have y : [c] < [48] := one.mpr (by omega)
    rw [decide_eq_true y]
    refine ite_ff ⟨?_, GxR.keeps_tok _ _⟩
    unfold fig
    rw [decide_eq_false lo]
    rfl

/-- no run of figures is longer than k -/
def Runs (k : Nat) (l : List Nat) : Prop := ∀ p q r, l = p ++ (q ++ r) → q.all fig = true → q.length ≤ k
theorem Runs.short {k : Nat} {l : List Nat} (h : l.length ≤ k) : Runs k l := fun p q r e _ => by
  have := congrArg List.length e
  simp only [List.length_append] at this
  omega
theorem Runs.mono {j k : Nat} {l : List Nat} (h : Runs j l) (le : j ≤ k) : Runs k l := fun p q r e f => Nat.le_trans (h p q r e f) le
theorem Runs.part {k : Nat} {a b c : List Nat} (h : Runs k (a ++ (b ++ c))) : Runs k b := fun p q r e f => h (a ++ p) q (r ++ c) (by rw [e]; simp) f
theorem Runs.take {k n : Nat} {l : List Nat} (h : Runs k l) : Runs k (l.take n) := Runs.part (a := []) (c := l.drop n) (by simpa using h)
theorem Runs.drop {k n : Nat} {l : List Nat} (h : Runs k l) : Runs k (l.drop n) := Runs.part (a := l.take n) (c := []) (by simpa using h)
theorem Runs.app {j k : Nat} {a b : List Nat} (ha : Runs j a) (hb : Runs k b) : Runs (j + k) (a ++ b) := fun p q r e f => by
  rcases List.append_eq_append_iff.mp e with ⟨x, rfl, e2⟩ | ⟨x, rfl, e2⟩
  · exact Nat.le_trans (hb x q r e2 f) (Nat.le_add_left _ _)
  · rcases List.append_eq_append_iff.mp e2 with ⟨y, rfl, e3⟩ | ⟨y, rfl, e3⟩
    · exact Nat.le_trans (ha p q y (by simp) f) (Nat.le_add_right _ _)
    · rw [List.all_append, Bool.and_eq_true] at f
      have h1 := ha p x [] (by simp) f.1
      have h2 := hb [] y r e3 f.2
      rw [List.length_append]
      omega
theorem Runs.sep {k c : Nat} {a b : List Nat} (ha : Runs k a) (nf : fig c = false) (hb : Runs k b) : Runs k (a ++ c :: b) := fun p q r e f => by
  have over : ∀ y s, c :: b = y ++ (q ++ s) → q.length ≤ k := fun y s e => by
    cases y with
    | nil =>
      cases q with
      | nil => exact Nat.zero_le _
      | cons d q =>
        cases e
        rw [List.all_cons, nf] at f
        cases f
    | cons d y =>
      cases e
      exact hb y q s rfl f
  rcases List.append_eq_append_iff.mp e with ⟨x, rfl, e2⟩ | ⟨x, rfl, e2⟩
  · exact over x r e2
  · rcases List.append_eq_append_iff.mp e2 with ⟨y, rfl, e3⟩ | ⟨y, rfl, e3⟩
    · exact ha p q y (by simp) f
    · cases y with
      | nil =>
        rw [List.append_nil] at f ⊢
        exact ha p x [] (by simp) f
      | cons d y =>
        cases e3
        rw [List.all_append, List.all_cons, nf] at f
        simp at f

/-! ### the parts of a text -/
/-- the parts between the signs c -/
def cuts (c : Nat) (l : List Nat) : List (List Nat) := TL.spl [c] 0 [] l
theorem cut_part (c : Nat) : ∀ (l acc w : List Nat), w ∈ TL.spl [c] 0 acc l → ∃ p r, acc ++ l = p ++ (w ++ r)
  | [], acc, w, m => by
    rw [TL.spl_nil, List.mem_singleton] at m
    exact ⟨[], [], by simp [m]⟩
  | x :: l, acc, w, m => by
    cases h : TL.pre [c] (x :: l) with
    | true =>
      rw [TL.spl_hit h] at m
      rcases List.mem_cons.mp m with rfl | m
      · exact ⟨[], x :: l, rfl⟩
      · obtain ⟨p, r, e⟩ := cut_part c l [] w m
        rw [List.nil_append] at e
        exact ⟨acc ++ x :: p, r, by rw [e]; simp⟩
    | false =>
      rw [TL.spl_miss h] at m
      obtain ⟨p, r, e⟩ := cut_part c l (acc ++ [x]) w m
      exact ⟨p, r, by rw [← e]; simp⟩
theorem cuts_len (c : Nat) : ∀ (l acc : List Nat), (TL.spl [c] 0 acc l).length ≤ l.length + 1
  | [], acc => by rw [TL.spl_nil]; exact Nat.le_refl _
  | x :: l, acc => by
    cases h : TL.pre [c] (x :: l) with
    | true =>
      rw [TL.spl_hit h]
      have : (TL.spl [c] 0 [] l).length ≤ l.length + 1 := cuts_len c l []
      simp only [List.length_cons, List.length_nil]
      exact Nat.succ_le_succ this
    | false =>
      rw [TL.spl_miss h]
      have := cuts_len c l (acc ++ [x])
      rw [List.length_cons]
      omega
theorem cuts_ne (c : Nat) : ∀ (l acc : List Nat), TL.spl [c] 0 acc l ≠ []
  | [], acc => by rw [TL.spl_nil]; simp
  | x :: l, acc => by
    cases h : TL.pre [c] (x :: l) with
    | true => rw [TL.spl_hit h]; simp
    | false => rw [TL.spl_miss h]; exact cuts_ne c l _
/-- a text as it is handed on: not too long, ascii, no long run of figures -/
structure Txl (n k : Nat) (l : List Nat) : Prop where
  len : l.length ≤ n
  asc : ∀ c ∈ l, c < 128
  run : Runs k l
theorem Txl.cut {n k c : Nat} {l w : List Nat} (h : Txl n k l) (m : w ∈ cuts c l) : Txl n k w := by
  obtain ⟨p, r, e⟩ := cut_part c l [] w m
  rw [List.nil_append] at e
  subst e
  refine ⟨Nat.le_trans ?_ h.len, fun c mc => h.asc c (by simp [mc]), h.run.part⟩
  simp only [List.length_append]
  omega
theorem Txl.mono {n n' k k' : Nat} {l : List Nat} (h : Txl n k l) (a : n ≤ n') (b : k ≤ k') : Txl n' k' l := ⟨Nat.le_trans h.len a, h.asc, h.run.mono b⟩
theorem split_at (c : Nat) (hc : c < 256) (l : List Nat) : Txt.split (mkS l) (mkS [c]) = (cuts c l).map mkS := SX.split_S (by simp) (by simpa using hc)

/-! ### small things -/
theorem inDK {X : Cx} (K : PySem.W.Frag) {k : Nat} (hr : Room k X.A) (h : X.K = K := by rfl) : OpR X (compareOp .In) (rInD K) := h ▸ op_inD (by have := hr.un; omega)
/-- the end of a law, two of whose defs hold a generator expression -/
theorem walk_tab2 {l : PySem.W.OpenLaw} {n k : Nat} {q : Program} {loose : List Str} {XP : (Str → Option Value) → Heap → Prop} {YP : World → Heap → Prop} {d : DefRec} {K : Params → PySem.W.Frag} {CX : World → CXT} {x nm nm2 : Str}
    (hn : l.most = some n) (hle : n ≤ sizeLine) (hdf : d.params.defaults = []) (room : Room k callerA) (hrec : ((recsOf q).any fun e => e.name == nm) = true) (hrec2 : ((recsOf q).any fun e => e.name == nm2) = true) (hY : ∀ (w : World) (h : Heap), YP w h → (K w.params).In h)
    (F : ∀ (w : World) (mg : Str → Option Value) (fa : Addr) (h : Heap), (K w.params).In h → h.Ns mainGlobals mg → mg d.name = some (.ref fa) → TabOf (K w.params) mg h nm → TabOf (K w.params) mg h nm2 → LamX.LawAtS l w (K w.params) (CX w) k n x mg fa h)
    (hCX : ∀ (w : World) (H : Hp) (s : Shared) (e : Value) (s' : Shared), CX w [] H s (fun _ _ _ => False) e s' → False) :
    PySem.W.WalkO q loose XP YP l.row.toRowW d [] (fun f vs => PySem.call f vs) := by
  refine Att.attach_callB hn hdf ?_
  intro w s0 s1 mg mb fa o pm cd doc a vs ns G Y ho hd hcd hmg hobj hints hlen hbits hg
  have inK := hY w _ Y
  have tab : ∀ nm : Str, ((recsOf q).any fun e => e.name == nm) = true → TabOf (K w.params) mg s1.heap nm := by
    intro nm hrec f c P o1 fd1 e dd us sl z1 z2 z3 z4 z5 z6
    obtain ⟨r, rm, rn⟩ := List.any_eq_true.mp hrec
    obtain ⟨f', o', fd', c', P', y1, y2, y3, y4, y5, y6⟩ := G.T.tab r rm
    rw [beq_iff_eq.mp rn, z1] at y1
    cases y1
    rw [inK _ _ z2] at y2
    cases y2
    rw [z3] at y3
    cases y3
    rw [z4] at y4
    cases y4
    have hd := PySem.W.CodeHd.of y5 y6
    obtain ⟨⟨oc, uc, x1, _, x3, x4⟩, hP⟩ := y6
    rw [inK _ _ z5] at x1
    cases x1
    cases x3
    rw [z6] at x4
    cases x4
    exact ⟨hP, hd⟩
  obtain ⟨fd, cs, sp, b1, b2, b3, b4, b5, b6⟩ := F w mg fa _ inK G.T.g hmg (tab nm hrec) (tab nm2 hrec2)
  exact LamX.law_callTs inK G.T.g G.T.b G.T.builtins G.T.nolimit hg b1 b2 b3 G.T.bmain hobj hints (Nat.le_trans hlen hle) room b6 b4 (fun H hH hS => b5 H a ns hlen hbits hH hS) fun H e s' => hCX w H s1 e s'
/-- a def that may raise, whose code object's address is known -/
theorem fn_codeX {Pr : Program} {w : World} {K : PySem.W.Frag} {mg : Str → Option Value} {base : Heap} {x qual : Str} {st : Stmt} {f c : Addr} {fd : FuncData} {N ps : List Str} {k : Nat} {sp : Sp} (D : L2.Fun K x qual st f fd) (hc : fd.code = .ref c) (S : FnScope N ps (defScope st))
    (ln : ∀ vs H Q E, sp vs H Q E → vs.length = ps.length)
    (body : ∀ (A : Around) (outer : List Env) (s : Shared) (H : Hp) (vs : List V) (Q : VK) (E : XK), Room k (A.deeper (envOfC qual (defScope st) s.heap.objs.size f (.ref c))) → sp vs H Q E →
      ∃ t, PSs (cxOf (L2.CX Pr w) Pr w K mg base N qual (defScope st) f (.ref c) A outer s H E) (defBody st) t ∧ t { nx := fun _ H2 => Q .non H2, rt := Q } (start N vs) H) : FnOk Pr w K mg base (L2.CX Pr w) (k + 1) f fd ps sp := by
  obtain ⟨q1, q2, q3, q4, q5, q6, q7, q8, q9, e1, e2, e3⟩ := D.ex
  subst e1
  have e4 : q7 = .ref c := hc
  subst e4
  exact fn_of e2 e3 S ln body
end Ts
end
section
/-! sorted(d), d a dict of numbers, however many. -/
namespace Ts
open PySem PySem.Spec PyProof.Rows L2

/-- what is wanted of the keys: they are numbers, they fit a list; then any rising arrangement of them, anew -/
def rSortD : List V → Hp → VK → Prop := fun args H Q => ∃ (d : Addr) (kvs : List (Key × V)) (nums : List Int), args = [.ref d] ∧ H d = some (.dK kvs) ∧ kvs.map Prod.fst = nums.map Sum.inl ∧ nums.length ≤ sizeLine ∧
  ∀ (up : List Int) (fresh : Addr), up.Perm nums → up.Pairwise (· ≤ ·) → H fresh = none → Q (.ref fresh) (upd H fresh (.lst (up.map V.int)))
/-- values that stand for keys which are numbers are those numbers -/
theorem ints_of_keys {nums : List Int} {got : List Value} {keys : List Key} (hk : keys = nums.map Sum.inl) (hl : got.length = nums.length)
    (hv : ∀ (j : Nat) (v : Value), got[j]? = some v → ∃ key, keys[j]? = some key ∧ keyIs key v = true) : IntsAre got nums := by
  subst hk
  refine ints_each hl fun j v hj => ?_
  obtain ⟨key, at_j, same⟩ := hv j v hj
  obtain ⟨n, hn, rfl⟩ : ∃ n, nums[j]? = some n ∧ key = Sum.inl n := by
    rw [List.getElem?_map] at at_j
    cases q : nums[j]? with
    | some n => exact ⟨n, rfl, by rw [q] at at_j; exact (Option.some.inj at_j).symm⟩
    | none => rw [q] at at_j; nomatch at_j
  rcases keyIs_shape same with ⟨i, tk, is, ev⟩ | ⟨_, _, is, _⟩
  · exact ⟨n, tk, hn, by rw [ev, Sum.inl.inj is]⟩
  · nomatch is
/-- a new list of numbers, sorted where it lies -/
theorem sort_fresh {X : Cx} {pins : List (Addr × Obj)} {σ : L2.St} {H : Hp} {s : Shared} {Q : VK} {got : List Value} {nums : List Int} {A : Around} (I : Inv X pins σ H s) (hi : IntsAre got nums) (hn : nums.length ≤ sizeLine) (hl : got.length = nums.length)
    (q : ∀ (up : List Int) (fresh : Addr), up.Perm nums → up.Pairwise (· ≤ ·) → H fresh = none → Q (.ref fresh) (upd H fresh (.lst (up.map V.int)))) :
    wpAny (model X.prog X.w) A (call (.builtin "list.sort") [.ref s.heap.objs.size]) (fun _ z => EP X pins σ Q (.ref s.heap.objs.size) z) X.xe { s with heap := s.heap.push (seqObj "list" got.toArray 0) } := by
  have here : (s.heap.push (seqObj "list" got.toArray 0)).get? s.heap.objs.size = some (seqObj "list" got.toArray 0) := Heap.get?_push_size _ rfl
  refine wpAny_call_entry PyProof.Rows.slot_list_sort ⟨_, here, rfl⟩ PyProof.Rows.entry_list_sort ?_ (PyProof.Rows.args_list_sort _)
  refine SrtO.list_sort_ord (s := { s with heap := s.heap.push (seqObj "list" got.toArray 0) }) SrtO.swo_int here (hl ▸ hn) (SrtO.ints_sortable hi) fun out rising stable => ⟨.none, rfl, ?_⟩
  obtain ⟨whole, perm, le⟩ := SrtO.ints_out hi rising stable
  obtain ⟨ep, there⟩ := PyProof.Rows.sortedHeap_at (vs := got) (out := out.toArray) here
  have fit : ((out.map SrtO.iv).map V.int).length ≤ sizeLine := by rw [List.length_map, perm.length_eq]; exact hn
  have old : ∀ b u, s.heap.get? b = some u → (PyProof.Rows.sortedHeap (s.heap.push (seqObj "list" got.toArray 0)) s.heap.objs.size got out.toArray).get? b = some u := fun b u e =>
    (PyProof.Rows.sortedHeap_old (Nat.ne_of_lt (Heap.lt_size e)) (by rw [size_push']; exact Nat.lt_succ_of_lt (Heap.lt_size e))).trans (Heap.get?_push_of_some _ e)
  exact ⟨.ref s.heap.objs.size, upd H s.heap.objs.size (.lst ((out.map SrtO.iv).map V.int)), I.laid (t' := s.toks) old (Nat.le_refl _) ⟨fit, out, ep, vals_of_ints whole, there⟩, rfl, q _ _ perm le (I.hok.fresh (Nat.le_refl _))⟩
theorem call_sortedDA {X : Cx} (hcalm : X.calm = true) : CallR X (.builtin "sorted") rSortD := by
  rintro pins s σ H args us Q I rel ⟨d, kvs, nums, rfl, hd, hk, hn, q⟩
  rw [Vals.ref1 rel]
  obtain ⟨_, lies, pairs, kv, dd⟩ := dk_rd I.hok (.inl hd)
  obtain ⟨ep, lay⟩ := dd.dictAt
  have same : pairs.map Prod.fst = nums.map Sum.inl := kv.keys.symm.trans hk
  have count : pairs.length = nums.length := by simpa using congrArg List.length same
  refine Calls.call_function_entry kind_sorted plain_sorted entry_sorted (args_sorted1 _) ?_
  unfold Builtin.«sorted»
  refine wpAny_bind (m := checkCount "sorted" 1 1 _) (wpAny_pure (wpAny_bind ?_))
  refine PySem.W.kdu_collect (A := X.A.in1) (PySem.W.kdl_dict (knd := mixKind X.prog X.w) (kvs := pairs) (ep := ep) lies) (I.ok.hd hcalm) lay (count ▸ hn) fun h' tk got kept told => ?_
  have gl : got.toList.length = nums.length := by rw [Array.length_toList, told.1, count]
  have hi : IntsAre got.toList nums := ints_of_keys same gl fun j v e => by
    obtain ⟨key, val, at_j, is⟩ := told.2 j v (by simpa using e)
    exact ⟨key, by rw [List.getElem?_map, at_j]; rfl, is⟩
  refine wpAny_bind (wpAny_newList (wpAny_bind (wpAny_holding ?_)) (gl ▸ hn))
  exact wpAny_mono (sort_fresh (I.kept (t' := tk) kept) hi hn gl q) (fun _ z done => wpAny_pure ⟨_, rfl, done⟩) fun _ _ e => e
end Ts
end
section
/-! A def whose last parameter has the default None: called with it, without it, and by its name. -/
namespace Ts
open PySem PySem.Spec PyProof.Rows L2

structure DfnD (K : PySem.W.Frag) (mg : Str → Option Value) (x : Str) (st : Stmt) (ps : List Str) (kw : Str) (f : Addr) (fd : FuncData) : Prop where
  F : FunD K x x (defArgs st) (defBody st) (defScope st) [.non] [] f fd
  g : mg x = some (.ref f)
  b : Binds K fd ps []
  b3 : Binds K fd ps [.none]
  bk : ∀ (s : Shared) (us ws : List Value), K.In s.heap → us.length + 1 = ps.length → ws.length = 1 → BindsTo s fd ⟨us, [kw].zip ws⟩ (ps.zip (us ++ ws))
theorem fd_mk {K : PySem.W.Frag} {h : Heap} {mg : Str → Option Value} {x kw : Str} {st : Stmt} {ps : List Str} {f T : Addr} {oc kV doc pm cdv ct tc : Value} {od an td : Option Addr} {osl tsl : Array (Option Value)} {n : Nat} (X : K.In h) (G : h.Ns mainGlobals mg)
    (a : PySem.W.nsIn K mainGlobals x = some (some (.ref f))) (l : K.lookup f = some ⟨oc, od, .func (PySem.W.fnOf x x (defArgs st) (defBody st) (defScope st) (.ref T) kV doc pm an cdv ct), osl⟩) (c : PySem.W.codeIn K cdv x = true) (k : PySem.W.keepIn K (.ref f) = true)
    (d : K.lookup T = some ⟨tc, td, .seq #[.none] n, tsl⟩)
    (h4 : ∀ us : List Value, us.length = ps.length → ∃ kk, bindArgs (PySem.W.fnOf x x (defArgs st) (defBody st) (defScope st) (.ref T) kV doc pm an cdv ct) ⟨us, []⟩ = seqItems? (.ref T) >>= kk ∧ kk (some #[.none]) = pure (ps.zip us))
    (h3 : ∀ us : List Value, us.length + 1 = ps.length → ∃ kk, bindArgs (PySem.W.fnOf x x (defArgs st) (defBody st) (defScope st) (.ref T) kV doc pm an cdv ct) ⟨us, []⟩ = seqItems? (.ref T) >>= kk ∧ kk (some #[.none]) = pure (ps.zip (us ++ [.none])))
    (hk : ∀ (us : List Value) (v : Value), us.length + 1 = ps.length → ∃ kk, bindArgs (PySem.W.fnOf x x (defArgs st) (defBody st) (defScope st) (.ref T) kV doc pm an cdv ct) ⟨us, [(kw, v)]⟩ = seqItems? (.ref T) >>= kk ∧ kk (some #[.none]) = pure (ps.zip (us ++ [v]))) :
    DfnD K mg x st ps kw f (PySem.W.fnOf x x (defArgs st) (defBody st) (defScope st) (.ref T) kV doc pm an cdv ct) where
  F := ⟨⟨oc, od, _, kV, doc, pm, an, cdv, ct, osl, rfl, l, c, .inr ⟨by simp, T, _, [.none], n, rfl, d, rfl, .cons rfl .nil⟩, .inl rfl⟩, k⟩
  g := PySem.W.mg_of X G a
  b := fun s us KI hl => by
    rw [List.append_nil] at hl ⊢
    obtain ⟨kk, e1, e2⟩ := h4 us hl
    exact PySem.W.binds_K KI rfl d rfl e1 e2
  b3 := fun s us KI hl => by
    rw [List.length_append] at hl
    obtain ⟨kk, e1, e2⟩ := h3 us hl
    exact PySem.W.binds_K KI rfl d rfl e1 e2
  bk := fun s us ws KI hl hw => by
    match ws, hw with
    | [v], _ =>
      obtain ⟨kk, e1, e2⟩ := hk us v hl
      exact PySem.W.binds_K KI rfl d rfl e1 e2
section
variable {X : Cx} {k : Nat} {f : Addr} {fd : FuncData} {ps : List Str} {sp : Sp} {st : Stmt} {x kw : Str} {p pos : Pos} {e : Expr} {es : List Expr} {t tk' : TA} {W : WX}
/-- the default fills up; in a try's body -/
theorem pe_clT3 (G : FnOk X.prog X.w X.K X.mg X.base (L2.CX X.prog X.w) k f fd ps sp) (D : DfnD X.K X.mg x st ps kw f fd) (hr : Room k X.A) (tk : Takes X W) (ha : PA X (e :: es) t) (hg : Gl X x := by rfl) (hdb : (x == ("__debug__" : Str)) = false := by decide)
    (he : starEach (e :: es) X.env = (false, eval e X.env) :: starEach es X.env := by rfl) (hpl : (backTo pos (starEach es X.env)).any (·.1) = false := by rfl) : PE X (.Call (.Name x p) (e :: es) [] pos) (tCallSD sp [.non] (WE W) t) :=
  pe_callSD G hr hg D.g D.F.kp D.b3 (.cons rfl .nil) (fun σ => passAt tk σ) ha hdb he hpl
/-- all are given; in a try's body -/
theorem pe_clT4 (G : FnOk X.prog X.w X.K X.mg X.base (L2.CX X.prog X.w) k f fd ps sp) (D : DfnD X.K X.mg x st ps kw f fd) (hr : Room k X.A) (tk : Takes X W) (ha : PA X (e :: es) t) (hg : Gl X x := by rfl) (hdb : (x == ("__debug__" : Str)) = false := by decide)
    (he : starEach (e :: es) X.env = (false, eval e X.env) :: starEach es X.env := by rfl) (hpl : (backTo pos (starEach es X.env)).any (·.1) = false := by rfl) : PE X (.Call (.Name x p) (e :: es) [] pos) (tCallS sp (WE W) t) :=
  pe_callS G hr hg D.g D.F.kp D.b (fun σ => passAt tk σ) ha hdb he hpl
/-- all are given; in a def that may raise -/
theorem pe_clX4 {E : XK} (G : FnOk X.prog X.w X.K X.mg X.base (L2.CX X.prog X.w) k f fd ps sp) (D : DfnD X.K X.mg x st ps kw f fd) (hr : Room k X.A) (tk : Takes X (fun cls d _ H => E cls d H)) (ha : PA X (e :: es) t) (hg : Gl X x := by rfl) (hdb : (x == ("__debug__" : Str)) = false := by decide)
    (he : starEach (e :: es) X.env = (false, eval e X.env) :: starEach es X.env := by rfl) (hpl : (backTo pos (starEach es X.env)).any (·.1) = false := by rfl) : PE X (.Call (.Name x p) (e :: es) [] pos) (tCall sp [] E t) :=
  pe_call G hr hg D.g D.F.kp D.b .nil (passes_call tk fun _ _ _ _ h => h) ha hdb he hpl
def tCallNS (n m : Nat) (sp : Sp) (E : L2.St → XK) (t tk : TA) : TE := fun σ H Q => t σ H fun vs H1 => tk σ H1 fun zs H2 => vs.length = n ∧ zs.length = m ∧ sp (vs ++ zs) H2 Q (E σ)
/-- the last one by its name; in a try's body -/
theorem pe_clTK {kws : List Keyword} (G : FnOk X.prog X.w X.K X.mg X.base (L2.CX X.prog X.w) k f fd ps sp) (D : DfnD X.K X.mg x st ps kw f fd) (hr : Room k X.A) (tk : Takes X W) (ha : PA X (e :: es) t) (hkw : PK X kws tk') (hg : Gl X x := by rfl)
    (hall : (backToKw pos (keywordEach kws X.env)).all (·.1.isSome) = true := by rfl) (hks : (backToKw pos (keywordEach kws X.env)).filterMap (·.1) = [kw] := by rfl)
    (hdb : (x == ("__debug__" : Str)) = false := by decide) (he : starEach (e :: es) X.env = (false, eval e X.env) :: starEach es X.env := by rfl)
    (hpl : ((backTo pos (starEach (e :: es) X.env)).any (·.1) || (backToKw pos (keywordEach kws X.env)).any (·.1.isNone)) = false := by rfl) :
    PE X (.Call (.Name x p) (e :: es) kws pos) (tCallNS (ps.length - 1) 1 sp (WE W) t tk') := by
  refine ⟨fun pins s σ H Q I h => ?_⟩
  refine wpAny_Call_Name_kw (ld_glob I hg D.g ?_ hdb)
  refine PySem.W.callWith_KW (h₀ := X.base) I.ok.mod.kin D.F.kp hall (thn (ha.run pos pins s σ H _ I h) fun us s1 ⟨vs, H1, I1, r, q⟩ => ?_) hpl he
  refine thn (hkw.run pos pins s1 σ H1 _ I1 q) fun ws s2 ⟨zs, H2, I2, rz, l1, l2, q2⟩ => ⟨I2.kIn, ?_⟩
  rw [hks]
  have r2 := r.append rz
  have hl : (vs ++ zs).length = ps.length := G.len _ _ _ _ q2
  rw [List.length_append] at hl
  have hb := D.bk s2 us ws I2.kIn (by rw [← r.length]; omega) (by rw [← rz.length]; exact l2)
  refine wpAny_call (codeAny_mono (G.run X.A X.stack s2 H2 ⟨us, [kw].zip ws⟩ (us ++ ws) (vs ++ zs) Q (WE W σ) hr I2.env0 hb r2 q2) fun r s' hq => ?_)
  cases r with
  | error e => exact passAt tk σ pins H2 s2 e s' I2 hq
  | ok fl =>
    cases fl with
    | ret u => exact I2.after hq
    | next => exact False.elim hq
    | brk => exact False.elim hq
    | cont => exact False.elim hq
end
end Ts
end
section
namespace Ts.k12
open PySem PySem.Spec PyProof.Rows L2 Ts
/-! ### promises of the law's own helpers -/
def spMix : Sp := fun vs H Q _ => ∃ c k : Int, vs = [.int c, .int k] ∧ ∀ r : Int, 0 ≤ r → r < 999983 → Q (.int r) H
def spBig : Sp := fun vs H Q _ => ∃ c k : Int, vs = [.int c, .int k] ∧ ∀ (r : Int) (H' : Hp), 0 ≤ r → r ≤ 1000000000000 → Same H H' → Q (.int r) H'
def spOff : Sp := fun vs H Q _ => ∃ c : Int, vs = [.int c] ∧ ∀ (r : Int) (H' : Hp), 0 ≤ r → r ≤ 999 → Same H H' → Q (.int r) H'
/-- the least number not less than p times o by 1000 -/
def slk (p o : Int) : Int := (p * o + 999) / 1000
def spSlack : Sp := fun vs H Q _ => ∃ p o : Int, vs = [.int p, .int o] ∧ -1000000 < o ∧ o < 1000000 ∧ Q (.int (slk p o)) H
def spCellAt (K : PySem.W.Frag) : Sp := fun vs H Q _ => ∃ (l : Addr) (ns : List Int) (j : Nat), vs = [.ref l, .int (j : Int)] ∧ SqL K H l (ns.map V.int) ∧ Q (.int (ns.getD j 0)) H
def spWhole (K : PySem.W.Frag) : Sp := fun vs H Q _ => ∃ i : Int, vs = [.int i] ∧ Q (.bl true) H
def spLaw (K : PySem.W.Frag) : Sp := fun vs H Q _ => ∃ (a : Addr) (ns : List Int), vs = [.ref a] ∧ SqL K H a (ns.map V.int) ∧ ns.length ≤ 63 ∧ ∀ H', Q (.bl true) H'

def okOff (o : Int) : Prop := 0 ≤ o ∧ o ≤ 999
def spCheckOff (C : Addr) : Sp := fun vs H Q E => ∃ o : Int, vs = [.int o] ∧ (okOff o → Q .non H) ∧ (¬ okOff o → E (.ref C) none H)

/-- a letter as a tuple -/
def letV (nm : V) (s b lo hi : Int) : List V := [nm, .int s, .int b, .int lo, .int hi]
def brLo (b lo now o : Int) : Int := lo + (now - b) - slk (now - b) o
def brHi (s hi now o : Int) : Int := hi + (now - s) + slk (now - s) o
def spBrought (K : PySem.W.Frag) (cO cE : Addr) : Sp := fun vs H Q E => ∃ (t : Addr) (nm : V) (s b lo hi now o : Int), vs = [.ref t, .int now, .int o] ∧ SqT K H t (letV nm s b lo hi) ∧
  (¬ okOff o → E (.ref cO) none H) ∧ (okOff o → now < b → E (.ref cE) none H) ∧
  (okOff o → b ≤ now → ∀ u, H u = none → Q (.ref u) (upd H u (.tup [.int (brLo b lo now o), .int (brHi s hi now o)])))
def spLawBrought (K : PySem.W.Frag) : Sp := fun vs H Q _ => ∃ (t : Addr) (nm : V) (s b lo hi now o : Int), vs = [.ref t, .int now, .int o] ∧ SqT K H t (letV nm s b lo hi) ∧ okOff o ∧
  ∀ u, H u = none → Q (.ref u) (upd H u (.tup [.int (brLo b lo now o), .int (brHi s hi now o)]))

def spWord : Sp := fun vs H Q _ => ∃ c n : Int, vs = [.int c, .int n] ∧ 0 ≤ n ∧ n ≤ 1000 ∧ ∀ z : List Nat, (z.length : Int) = n → low z → Q (.str (mkS z)) H
def spNames : Sp := fun vs H Q _ => ∃ c : Int, vs = [.int c] ∧ ∀ (p : Addr) (xs : List (List Nat)) (H' : Hp), xs.length = 42 → xs.Nodup → (∀ z ∈ xs, nmOk z) → Same H H' → H' p = some (.lst (txs xs)) → Q (.ref p) H'

/-- a letter's data -/
structure Let where
  nm : List Nat
  s : Int
  b : Int
  lo : Int
  hi : Int
def Let.vals (x : Let) : List V := letV (.str (mkS x.nm)) x.s x.b x.lo x.hi
structure Let.Ok (x : Let) : Prop where
  nm : nmOk x.nm
  s0 : 0 ≤ x.s
  sb : x.s ≤ x.b
  b1 : x.b ≤ 1000000000000
  l0 : 0 ≤ x.lo
  lh : x.lo ≤ x.hi
  h1 : x.hi ≤ 1000000000000
/-- letters as tuples at addresses -/
def LetsAt (K : PySem.W.Frag) (H : Hp) (as : List Addr) (ls : List Let) : Prop := as.length = ls.length ∧ ∀ (i : Nat) (t : Addr) (x : Let), as[i]? = some t → ls[i]? = some x → SqT K H t x.vals
theorem LetsAt.same {K : PySem.W.Frag} {H H' : Hp} {as : List Addr} {ls : List Let} (h : LetsAt K H as ls) (s : Same H H') : LetsAt K H' as ls := ⟨h.1, fun i t x a b => Ts.Same.seqT s (h.2 i t x a b)⟩
theorem LetsAt.get {K : PySem.W.Frag} {H : Hp} {as : List Addr} {ls : List Let} (h : LetsAt K H as ls) {i : Nat} {v : V} (e : (as.map V.ref)[i]? = some v) : ∃ t x, v = .ref t ∧ as[i]? = some t ∧ ls[i]? = some x ∧ SqT K H t x.vals := by
  rw [List.getElem?_map] at e
  cases ea : as[i]? with
  | none => rw [ea] at e; cases e
  | some t =>
    rw [ea] at e
    have hi : i < ls.length := by rw [← h.1]; exact (List.getElem?_eq_some_iff.mp ea).1
    exact ⟨t, ls[i], (Option.some.inj e).symm, rfl, List.getElem?_eq_getElem hi, h.2 i t _ ea (List.getElem?_eq_getElem hi)⟩
theorem LetsAt.nil {K : PySem.W.Frag} {H : Hp} : LetsAt K H [] [] := ⟨rfl, fun i t x h _ => by simp at h⟩
theorem LetsAt.snoc {K : PySem.W.Frag} {H : Hp} {as : List Addr} {ls : List Let} {t : Addr} {x : Let} (h : LetsAt K H as ls) (hx : SqT K H t x.vals) : LetsAt K H (as ++ [t]) (ls ++ [x]) := by
  refine ⟨by rw [List.length_append, List.length_append, h.1]; rfl, fun i u y a b => ?_⟩
  by_cases hi : i < as.length
  · rw [List.getElem?_append_left hi] at a
    rw [List.getElem?_append_left (by rw [← h.1]; exact hi)] at b
    exact h.2 i u y a b
  · have hl := (List.getElem?_eq_some_iff.mp a).1
    rw [List.length_append] at hl
    have e : i = as.length := by simp at hl; omega
    subst e
    rw [List.getElem?_append_right (Nat.le_refl _), Nat.sub_self] at a
    rw [List.getElem?_append_right (by rw [h.1]; exact Nat.le_refl _), h.1, Nat.sub_self] at b
    cases a
    cases b
    exact hx
theorem LetsAt.grow {K : PySem.W.Frag} {H : Hp} {D : Addr} {acc acc' : List V} {as : List Addr} {ls : List Let} (h : LetsAt K H as ls) (hD : H D = some (.lst acc)) : LetsAt K (upd H D (.lst acc')) as ls := ⟨h.1, fun i t x a b => Ts.SqT.grow (h.2 i t x a b) hD⟩
def spLetter (K : PySem.W.Frag) : Sp := fun vs H Q _ => ∃ (c m : Int) (p : Addr) (xs : List (List Nat)), vs = [.int c, .ref p, .int m] ∧ SqL K H p (txs xs) ∧ xs.length = 42 ∧ (∀ z ∈ xs, nmOk z) ∧ 1 ≤ m ∧ m ≤ 42 ∧
  ∀ (x : Let) (t : Addr) (H' : Hp), x.Ok → x.nm ∈ xs → Same H H' → H' t = some (.tup x.vals) → Q (.ref t) H'
def spLetters (K : PySem.W.Frag) : Sp := fun vs H Q _ => ∃ (l p : Addr) (ns : List Int) (xs : List (List Nat)), vs = [.ref l, .ref p] ∧ SqL K H l (ns.map V.int) ∧ ns.length ≤ 63 ∧ SqL K H p (txs xs) ∧ xs.length = 42 ∧ (∀ z ∈ xs, nmOk z) ∧
  ∀ (as : List Addr) (ls : List Let) (q : Addr) (H' : Hp), ls.length ≤ 200 → (∀ x ∈ ls, x.Ok) → Same H H' → LetsAt K H' as ls → H' q = some (.lst (as.map V.ref)) → H q = none → Q (.ref q) H'
/-- no answer later than now -/
def spNow (K : PySem.W.Frag) : Sp := fun vs H Q _ => ∃ (l p : Addr) (ns : List Int) (as : List Addr) (ls : List Let), vs = [.ref l, .ref p] ∧ SqL K H l (ns.map V.int) ∧ SqL K H p (as.map V.ref) ∧ LetsAt K H as ls ∧ (∀ x ∈ ls, x.Ok) ∧
  ∀ (now : Int) (H' : Hp), 0 ≤ now → now ≤ 1000000010000 → (∀ x ∈ ls, x.b ≤ now) → Same H H' → Q (.int now) H'

/-! ### the clocks of letters -/
abbrev St2 := Int × Int
def brSt (now o : Int) (x : Let) : St2 := (brLo x.b x.lo now o, brHi x.s x.hi now o)
theorem slk_ge0 {p o : Int} (hp : 0 ≤ p) (h : okOff o) : 0 ≤ slk p o := by
  have h1 : 0 ≤ p * o := Int.mul_nonneg hp h.1
  unfold slk
  omega
theorem slk_le {p o : Int} (hp : 0 ≤ p) (h : okOff o) : slk p o ≤ p := by
  have h1 : p * o ≤ p * 999 := Int.mul_le_mul_of_nonneg_left h.2 hp
  unfold slk
  omega
theorem brSt_le {now o : Int} {x : Let} (hx : x.Ok) (h : okOff o) (hb : x.b ≤ now) : (brSt now o x).1 ≤ (brSt now o x).2 := by
  have h1 := slk_le (p := now - x.b) (by omega) h
  have h0 := slk_ge0 (p := now - x.b) (by omega) h
  have h2 := slk_ge0 (p := now - x.s) (by have := hx.sb; omega) h
  have := hx.sb
  have := hx.lh
  show brLo x.b x.lo now o ≤ brHi x.s x.hi now o
  unfold brLo brHi
  omega
def addN (acc : List (List Nat)) (n : List Nat) : List (List Nat) := if n ∈ acc then acc else acc ++ [n]
def namesOf (ls : List Let) : List (List Nat) := ls.foldl (fun acc x => addN acc x.nm) []
theorem namesOf_snoc (ls : List Let) (x : Let) : namesOf (ls ++ [x]) = addN (namesOf ls) x.nm := by
  unfold namesOf
  rw [List.foldl_append]
  rfl
theorem addN_mem {acc : List (List Nat)} {n m : List Nat} : m ∈ addN acc n ↔ m ∈ acc ∨ m = n := by
  unfold addN
  split
  · rename_i h
    exact ⟨.inl, fun z => z.elim id fun e => e ▸ h⟩
  · rw [List.mem_append, List.mem_singleton]
theorem addN_nodup {acc : List (List Nat)} {n : List Nat} (h : acc.Nodup) : (addN acc n).Nodup := by
  unfold addN
  split
  · exact h
  · rename_i hn
    exact nd_snoc h hn
theorem fold_mem {m : List Nat} : ∀ (ls : List Let) (acc : List (List Nat)), m ∈ ls.foldl (fun acc x => addN acc x.nm) acc ↔ m ∈ acc ∨ ∃ x ∈ ls, x.nm = m
  | [], acc => by simp
  | x :: r, acc => by
    rw [List.foldl_cons, fold_mem r, addN_mem]
    constructor
    · rintro ((h | h) | ⟨y, hy, e⟩)
      · exact .inl h
      · exact .inr ⟨x, List.mem_cons_self, h.symm⟩
      · exact .inr ⟨y, List.mem_cons_of_mem _ hy, e⟩
    · rintro (h | ⟨y, hy, e⟩)
      · exact .inl (.inl h)
      · rcases List.mem_cons.mp hy with rfl | hy
        · exact .inl (.inr e.symm)
        · exact .inr ⟨y, hy, e⟩
theorem fold_nodup : ∀ (ls : List Let) (acc : List (List Nat)), acc.Nodup → (ls.foldl (fun acc x => addN acc x.nm) acc).Nodup
  | [], _, h => h
  | x :: r, acc, h => fold_nodup r _ (addN_nodup h)
theorem namesOf_mem {ls : List Let} {m : List Nat} : m ∈ namesOf ls ↔ ∃ x ∈ ls, x.nm = m := by
  unfold namesOf
  rw [fold_mem]
  simp
theorem namesOf_nodup (ls : List Let) : (namesOf ls).Nodup := fold_nodup ls [] List.nodup_nil
theorem namesOf_len (ls : List Let) : (namesOf ls).length ≤ ls.length := by
  have h : ∀ (ls : List Let) (acc : List (List Nat)), (ls.foldl (fun acc x => addN acc x.nm) acc).length ≤ acc.length + ls.length := by
    intro ls
    induction ls with
    | nil => intro acc; simp
    | cons x r ih =>
      intro acc
      rw [List.foldl_cons]
      refine Nat.le_trans (ih _) ?_
      rw [List.length_cons]
      unfold addN
      split
      · omega
      · rw [List.length_append]; simp; omega
  have z := h ls []
  rw [List.length_nil, Nat.zero_add] at z
  exact z
def stsOf (now o : Int) (n : List Nat) (ls : List Let) : List St2 := (ls.filter fun x => decide (x.nm = n)).map (brSt now o)
theorem stsOf_eq (now o : Int) {n : List Nat} (ls : List Let) {x : Let} (h : x.nm = n) : stsOf now o n (ls ++ [x]) = stsOf now o n ls ++ [brSt now o x] := by
  unfold stsOf
  rw [List.filter_append, List.map_append]
  simp [h]
theorem stsOf_ne (now o : Int) {n : List Nat} (ls : List Let) {x : Let} (h : x.nm ≠ n) : stsOf now o n (ls ++ [x]) = stsOf now o n ls := by
  unfold stsOf
  rw [List.filter_append]
  simp [h]
theorem stsOf_nil (now o : Int) {n : List Nat} {ls : List Let} (h : n ∉ namesOf ls) : stsOf now o n ls = [] := by
  unfold stsOf
  rw [List.map_eq_nil_iff, List.filter_eq_nil_iff]
  intro x hx
  simpa using fun e => h (namesOf_mem.mpr ⟨x, hx, e⟩)
theorem stsOf_some (now o : Int) {n : List Nat} {ls : List Let} (h : n ∈ namesOf ls) : stsOf now o n ls ≠ [] := by
  obtain ⟨x, hx, e⟩ := namesOf_mem.mp h
  unfold stsOf
  rw [Ne, List.map_eq_nil_iff, List.filter_eq_nil_iff]
  intro z
  exact absurd e (by simpa using z x hx)
def loOf : List St2 → Int
  | [] => 0
  | s :: r => r.foldl (fun m t => if t.1 > m then t.1 else m) s.1
def hiOf : List St2 → Int
  | [] => 0
  | s :: r => r.foldl (fun m t => if t.2 < m then t.2 else m) s.2
theorem loOf_snoc {l : List St2} (h : l ≠ []) (t : St2) : loOf (l ++ [t]) = if t.1 > loOf l then t.1 else loOf l := by
  cases l with
  | nil => exact absurd rfl h
  | cons s r =>
    show (r ++ [t]).foldl _ _ = _
    rw [List.foldl_append]
    rfl
theorem hiOf_snoc {l : List St2} (h : l ≠ []) (t : St2) : hiOf (l ++ [t]) = if t.2 < hiOf l then t.2 else hiOf l := by
  cases l with
  | nil => exact absurd rfl h
  | cons s r =>
    show (r ++ [t]).foldl _ _ = _
    rw [List.foldl_append]
    rfl
theorem fmax_spec : ∀ (r : List St2) (m : Int), m ≤ r.foldl (fun m t => if t.1 > m then t.1 else m) m ∧ (∀ t ∈ r, t.1 ≤ r.foldl (fun m t => if t.1 > m then t.1 else m) m)
  | [], m => ⟨Int.le_refl _, fun _ h => nomatch h⟩
  | s :: r, m => by
    obtain ⟨h1, h2⟩ := fmax_spec r (if s.1 > m then s.1 else m)
    rw [List.foldl_cons]
    refine ⟨?_, fun t ht => ?_⟩
    · refine Int.le_trans ?_ h1
      split <;> omega
    · rcases List.mem_cons.mp ht with rfl | ht
      · refine Int.le_trans ?_ h1
        split <;> omega
      · exact h2 t ht
theorem fmin_spec : ∀ (r : List St2) (m : Int), r.foldl (fun m t => if t.2 < m then t.2 else m) m ≤ m ∧ (∀ t ∈ r, r.foldl (fun m t => if t.2 < m then t.2 else m) m ≤ t.2)
  | [], m => ⟨Int.le_refl _, fun _ h => nomatch h⟩
  | s :: r, m => by
    obtain ⟨h1, h2⟩ := fmin_spec r (if s.2 < m then s.2 else m)
    rw [List.foldl_cons]
    refine ⟨?_, fun t ht => ?_⟩
    · refine Int.le_trans h1 ?_
      split <;> omega
    · rcases List.mem_cons.mp ht with rfl | ht
      · refine Int.le_trans h1 ?_
        split <;> omega
      · exact h2 t ht
theorem fmax_mem : ∀ (r : List St2) (m : Int), r.foldl (fun m t => if t.1 > m then t.1 else m) m = m ∨ ∃ t ∈ r, t.1 = r.foldl (fun m t => if t.1 > m then t.1 else m) m
  | [], m => .inl rfl
  | s :: r, m => by
    rw [List.foldl_cons]
    rcases fmax_mem r (if s.1 > m then s.1 else m) with h | ⟨t, ht, e⟩
    · rw [h]
      split
      · exact .inr ⟨s, List.mem_cons_self, rfl⟩
      · exact .inl rfl
    · exact .inr ⟨t, List.mem_cons_of_mem _ ht, e⟩
theorem fmin_mem : ∀ (r : List St2) (m : Int), r.foldl (fun m t => if t.2 < m then t.2 else m) m = m ∨ ∃ t ∈ r, t.2 = r.foldl (fun m t => if t.2 < m then t.2 else m) m
  | [], m => .inl rfl
  | s :: r, m => by
    rw [List.foldl_cons]
    rcases fmin_mem r (if s.2 < m then s.2 else m) with h | ⟨t, ht, e⟩
    · rw [h]
      split
      · exact .inr ⟨s, List.mem_cons_self, rfl⟩
      · exact .inl rfl
    · exact .inr ⟨t, List.mem_cons_of_mem _ ht, e⟩
/-- the greatest low, the least high, by what they are -/
theorem loOf_is {l : List St2} {m : Int} (h1 : m ∈ l.map (·.1)) (h2 : ∀ y ∈ l.map (·.1), y ≤ m) : m = loOf l := by
  cases l with
  | nil => cases h1
  | cons s r =>
    have g := fmax_spec r s.1
    have k := fmax_mem r s.1
    have up : m ≤ loOf (s :: r) := by
      obtain ⟨t, ht, e⟩ := List.mem_map.mp h1
      rcases List.mem_cons.mp ht with rfl | ht
      · exact e ▸ g.1
      · exact e ▸ g.2 t ht
    have dn : loOf (s :: r) ≤ m := by
      refine h2 _ ?_
      rcases k with k | ⟨t, ht, e⟩
      · exact List.mem_map.mpr ⟨s, List.mem_cons_self, k.symm⟩
      · exact List.mem_map.mpr ⟨t, List.mem_cons_of_mem _ ht, e⟩
    omega
theorem hiOf_is {l : List St2} {m : Int} (h1 : m ∈ l.map (·.2)) (h2 : ∀ y ∈ l.map (·.2), m ≤ y) : m = hiOf l := by
  cases l with
  | nil => cases h1
  | cons s r =>
    have g := fmin_spec r s.2
    have k := fmin_mem r s.2
    have up : hiOf (s :: r) ≤ m := by
      obtain ⟨t, ht, e⟩ := List.mem_map.mp h1
      rcases List.mem_cons.mp ht with rfl | ht
      · exact e ▸ g.1
      · exact e ▸ g.2 t ht
    have dn : m ≤ hiOf (s :: r) := by
      refine h2 _ ?_
      rcases k with k | ⟨t, ht, e⟩
      · exact List.mem_map.mpr ⟨s, List.mem_cons_self, k.symm⟩
      · exact List.mem_map.mpr ⟨t, List.mem_cons_of_mem _ ht, e⟩
    omega
def comb (l : List St2) : Option St2 := if loOf l ≤ hiOf l then some (loOf l, hiOf l) else none
def joinSt (o : Option St2) (t : St2) : Option St2 := match o with
  | none => none
  | some k => if (if t.1 > k.1 then t.1 else k.1) > (if t.2 < k.2 then t.2 else k.2) then none else some ((if t.1 > k.1 then t.1 else k.1), (if t.2 < k.2 then t.2 else k.2))
theorem comb_one {t : St2} (h : t.1 ≤ t.2) : comb [t] = some t := if_pos h
theorem comb_snoc {l : List St2} (h : l ≠ []) (t : St2) : comb (l ++ [t]) = joinSt (comb l) t := by
  unfold comb
  rw [loOf_snoc h, hiOf_snoc h]
  by_cases c : loOf l ≤ hiOf l
  · rw [if_pos c]
    show _ = if _ then _ else _
    by_cases d : (if t.1 > loOf l then t.1 else loOf l) ≤ (if t.2 < hiOf l then t.2 else hiOf l)
    · rw [if_pos d, if_neg (Int.not_lt.mpr d)]
    · rw [if_neg d, if_pos (Int.not_le.mp d)]
  · rw [if_neg c]
    refine if_neg fun d => c ?_
    have h1 : loOf l ≤ (if t.1 > loOf l then t.1 else loOf l) := by split <;> omega
    have h2 : (if t.2 < hiOf l then t.2 else hiOf l) ≤ hiOf l := by split <;> omega
    omega
abbrev Clk := List Nat × Option St2
def clkOf (now o : Int) (ls : List Let) (n : List Nat) : Option St2 := comb (stsOf now o n ls)
def gath (now o : Int) (ls : List Let) : List Clk := (namesOf ls).map fun n => (n, clkOf now o ls n)
/-- a clock's stretch as a value -/
def ClV (K : PySem.W.Frag) (H : Hp) (v : V) (o : Option St2) : Prop := match o with
  | none => v = .non
  | some t => ∃ b : Addr, v = .ref b ∧ SqT K H b [.int t.1, .int t.2]
theorem ClV.same {K : PySem.W.Frag} {H H' : Hp} {v : V} {o : Option St2} (h : ClV K H v o) (s : Same H H') : ClV K H' v o := by
  cases o with
  | none => exact h
  | some t => exact match h with | ⟨b, e, q⟩ => ⟨b, e, Ts.Same.seqT s q⟩
theorem SqT.off {K : PySem.W.Frag} {H : Hp} {d t : Addr} {xs : List V} {u o : HO} (h : SqT K H t xs) (hd : H d = some u) (n1 : ∀ ys, u ≠ .tup ys) (n2 : ∀ ob ys, u ≠ .frz ob (.tup ys)) : SqT K (upd H d o) t xs := by
  rcases h with (h | ⟨ob, h⟩) | h
  · exact .inl (.inl (by rw [upd_ne (ne_of h hd (fun z => n1 _ z.symm))]; exact h))
  · exact .inl (.inr ⟨ob, by rw [upd_ne (ne_of h hd (fun z => n2 _ _ z.symm))]; exact h⟩)
  · exact .inr h
theorem ClV.off {K : PySem.W.Frag} {H : Hp} {d : Addr} {v : V} {c : Option St2} {u o : HO} (h : ClV K H v c) (hd : H d = some u) (n1 : ∀ ys, u ≠ .tup ys) (n2 : ∀ ob ys, u ≠ .frz ob (.tup ys)) : ClV K (upd H d o) v c := by
  cases c with
  | none => exact h
  | some t => exact match h with | ⟨b, e, q⟩ => ⟨b, e, SqT.off q hd n1 n2⟩
def ClAt (K : PySem.W.Frag) (H : Hp) (v : V) (c : Clk) : Prop := ∃ (t : Addr) (w : V), v = .ref t ∧ SqT K H t [.str (mkS c.1), w] ∧ ClV K H w c.2
theorem ClAt.same {K : PySem.W.Frag} {H H' : Hp} {v : V} {c : Clk} (h : ClAt K H v c) (s : Same H H') : ClAt K H' v c := match h with
  | ⟨t, w, e, q, k⟩ => ⟨t, w, e, Ts.Same.seqT s q, k.same s⟩
theorem ClAt.off {K : PySem.W.Frag} {H : Hp} {d : Addr} {v : V} {c : Clk} {u o : HO} (h : ClAt K H v c) (hd : H d = some u) (n1 : ∀ ys, u ≠ .tup ys) (n2 : ∀ ob ys, u ≠ .frz ob (.tup ys)) : ClAt K (upd H d o) v c := match h with
  | ⟨t, w, e, q, k⟩ => ⟨t, w, e, SqT.off q hd n1 n2, k.off hd n1 n2⟩
def ClksAt (K : PySem.W.Frag) (H : Hp) (xs : List V) (cs : List Clk) : Prop := xs.length = cs.length ∧ ∀ (i : Nat) (v : V) (c : Clk), xs[i]? = some v → cs[i]? = some c → ClAt K H v c
theorem ClksAt.same {K : PySem.W.Frag} {H H' : Hp} {xs : List V} {cs : List Clk} (h : ClksAt K H xs cs) (s : Same H H') : ClksAt K H' xs cs := ⟨h.1, fun i v c a b => (h.2 i v c a b).same s⟩
theorem ClksAt.off {K : PySem.W.Frag} {H : Hp} {d : Addr} {xs : List V} {cs : List Clk} {u o : HO} (h : ClksAt K H xs cs) (hd : H d = some u) (n1 : ∀ ys, u ≠ .tup ys) (n2 : ∀ ob ys, u ≠ .frz ob (.tup ys)) : ClksAt K (upd H d o) xs cs := ⟨h.1, fun i v c a b => (h.2 i v c a b).off hd n1 n2⟩
theorem ClksAt.get {K : PySem.W.Frag} {H : Hp} {xs : List V} {cs : List Clk} (h : ClksAt K H xs cs) {i : Nat} {v : V} (e : xs[i]? = some v) : ∃ c, cs[i]? = some c ∧ ClAt K H v c := by
  have hi : i < cs.length := by rw [← h.1]; exact (List.getElem?_eq_some_iff.mp e).1
  exact ⟨cs[i], List.getElem?_eq_getElem hi, h.2 i v _ e (List.getElem?_eq_getElem hi)⟩
theorem ClksAt.nil {K : PySem.W.Frag} {H : Hp} : ClksAt K H [] [] := ⟨rfl, fun i v c h _ => by simp at h⟩
theorem ClksAt.snoc {K : PySem.W.Frag} {H : Hp} {xs : List V} {cs : List Clk} {v : V} {c : Clk} (h : ClksAt K H xs cs) (hc : ClAt K H v c) : ClksAt K H (xs ++ [v]) (cs ++ [c]) := by
  refine ⟨by rw [List.length_append, List.length_append, h.1]; rfl, fun i u y a b => ?_⟩
  by_cases hi : i < xs.length
  · rw [List.getElem?_append_left hi] at a
    rw [List.getElem?_append_left (by rw [← h.1]; exact hi)] at b
    exact h.2 i u y a b
  · have hl := (List.getElem?_eq_some_iff.mp a).1
    rw [List.length_append] at hl
    have e : i = xs.length := by simp at hl; omega
    subst e
    rw [List.getElem?_append_right (Nat.le_refl _), Nat.sub_self] at a
    rw [List.getElem?_append_right (by rw [h.1]; exact Nat.le_refl _), h.1, Nat.sub_self] at b
    cases a
    cases b
    exact hc
/-- a clock's data -/
def stD : Option St2 → PyData
  | none => .none
  | some t => .tuple [.int t.1, .int t.2]
def clkD (c : Clk) : PyData := .tuple [.str (mkS c.1), stD c.2]
def clksD (cs : List Clk) : PyData := .list (cs.map clkD)
theorem ClV.dp {K : PySem.W.Frag} {H : Hp} {v : V} {o : Option St2} (h : ClV K H v o) : Dp K H v (stD o) := by
  cases o with
  | none => cases (show v = .non from h); exact .non
  | some t =>
    obtain ⟨b, rfl, q⟩ := h
    exact .tup q (.cons (.int _) (.cons (.int _) .nil))
theorem ClAt.dp {K : PySem.W.Frag} {H : Hp} {v : V} {c : Clk} (h : ClAt K H v c) : Dp K H v (clkD c) := by
  obtain ⟨t, w, rfl, q, k⟩ := h
  exact .tup q (.cons (.str _) (.cons k.dp .nil))
theorem dps_of {K : PySem.W.Frag} {H : Hp} {α : Type} {f : α → PyData} : ∀ {xs : List V} {cs : List α}, xs.length = cs.length → (∀ (i : Nat) (v : V) (c : α), xs[i]? = some v → cs[i]? = some c → Dp K H v (f c)) → DpAll K H xs (cs.map f)
  | [], [], _, _ => .nil
  | [], _ :: _, h, _ => by cases h
  | _ :: _, [], h, _ => by cases h
  | v :: xs, c :: cs, h, g => .cons (g 0 v c rfl rfl) (dps_of (Nat.succ.inj h) fun i v' c' a b => g (i + 1) v' c' a b)
theorem ClksAt.dp {K : PySem.W.Frag} {H : Hp} {p : Addr} {xs : List V} {cs : List Clk} (h : ClksAt K H xs cs) (hp : SqL K H p xs) : Dp K H (.ref p) (clksD cs) :=
  .lst hp (dps_of h.1 fun i v c a b => (h.2 i v c a b).dp)
def letD (x : Let) : PyData := .tuple [.str (mkS x.nm), .int x.s, .int x.b, .int x.lo, .int x.hi]
theorem LetsAt.dp {K : PySem.W.Frag} {H : Hp} {p : Addr} {as : List Addr} {ls : List Let} (h : LetsAt K H as ls) (hp : SqL K H p (as.map V.ref)) : Dp K H (.ref p) (.list (ls.map letD)) := by
  refine .lst hp (dps_of (by rw [List.length_map, h.1]) fun i v c a b => ?_)
  obtain ⟨t, x, rfl, _, hx, hT⟩ := h.get a
  rw [hx] at b
  cases b
  exact .tup hT (.cons (.str _) (.cons (.int _) (.cons (.int _) (.cons (.int _) (.cons (.int _) .nil)))))
/-! ### such data may be compared -/
theorem strOk_nm {l : List Nat} (h : low l) : PyData.strOk (mkS l) = true := by
  unfold PyData.strOk mkS
  rw [Array.all_eq_true]
  intro i hi
  have hm : l[i]'(by simpa using hi) ∈ l := List.getElem_mem _
  have := h _ hm
  simp only [List.getElem_toArray, decide_eq_true_eq]
  omega
def Shp (n : Nat) (d : PyData) : Prop := d.canLay0 = true ∧ d.depth ≤ n
theorem Shp.ok {n : Nat} {d : PyData} (h : Shp n d) (hn : n ≤ 64) : SeqAt.shaped d = true := by
  unfold SeqAt.shaped
  rw [h.1, decide_eq_true (Nat.le_trans h.2 hn)]
  rfl
theorem Shp.up {n m : Nat} {d : PyData} (h : Shp n d) (hn : n ≤ m) : Shp m d := ⟨h.1, Nat.le_trans h.2 hn⟩
theorem shp_all {n : Nat} : ∀ {ds : List PyData}, (∀ d ∈ ds, Shp n d) → PyData.canLayAll0 ds = true ∧ PyData.depthAll ds ≤ n
  | [], _ => ⟨rfl, Nat.zero_le _⟩
  | d :: ds, h => by
    obtain ⟨h1, h2⟩ := shp_all fun d hd => h d (List.mem_cons_of_mem _ hd)
    obtain ⟨g1, g2⟩ := h d List.mem_cons_self
    refine ⟨?_, Nat.max_le.mpr ⟨g2, h2⟩⟩
    show (PyData.canLay0 d && PyData.canLayAll0 ds) = true
    rw [g1, h1]
    rfl
theorem shp_list {n : Nat} {ds : List PyData} (h : ∀ d ∈ ds, Shp n d) : Shp (n + 1) (.list ds) := ⟨(shp_all h).1, Nat.succ_le_succ (shp_all h).2⟩
theorem shp_tup {n : Nat} {ds : List PyData} (h : ∀ d ∈ ds, Shp n d) : Shp (n + 1) (.tuple ds) := ⟨(shp_all h).1, Nat.succ_le_succ (shp_all h).2⟩
theorem shp_int {n : Nat} (i : Int) : Shp n (.int i) := ⟨rfl, Nat.zero_le _⟩
theorem shp_str {n : Nat} {l : List Nat} (h : low l) : Shp n (.str (mkS l)) := ⟨strOk_nm h, Nat.zero_le _⟩
theorem shp_st (o : Option St2) : Shp 1 (stD o) := by
  cases o with
  | none => exact ⟨rfl, Nat.zero_le _⟩
  | some t => exact ⟨rfl, Nat.le_refl _⟩
theorem shp_clk {c : Clk} (h : low c.1) : Shp 2 (clkD c) := by
  refine shp_tup fun d hd => ?_
  rcases List.mem_cons.mp hd with rfl | hd
  · exact shp_str h
  · rw [List.mem_singleton] at hd
    exact hd ▸ shp_st _
theorem shp_clks {cs : List Clk} (h : ∀ c ∈ cs, low c.1) : SeqAt.shaped (clksD cs) = true := Shp.ok (n := 3) (shp_list fun d hd => by
  obtain ⟨c, hc, rfl⟩ := List.mem_map.mp hd
  exact shp_clk (h c hc)) (by decide)
theorem shp_let {x : Let} (h : low x.nm) : Shp 1 (letD x) := by
  refine shp_tup fun d hd => ?_
  rcases List.mem_cons.mp hd with rfl | hd
  · exact shp_str h
  · simp only [List.mem_cons, List.not_mem_nil, or_false] at hd
    rcases hd with rfl | rfl | rfl | rfl <;> exact shp_int _
theorem shp_lets {ls : List Let} (h : ∀ x ∈ ls, low x.nm) : SeqAt.shaped (.list (ls.map letD)) = true := Shp.ok (n := 2) (shp_list fun d hd => by
  obtain ⟨c, hc, rfl⟩ := List.mem_map.mp hd
  exact shp_let (h c hc)) (by decide)
theorem eqv_self {d : PyData} (h : SeqAt.shaped d = true) : PyData.eqv d d = true := SeqAt.eqv_refl d (SeqAt.canLay_of_shaped h)
theorem gath_low {now o : Int} {ls : List Let} (h : ∀ x ∈ ls, x.Ok) : ∀ c ∈ gath now o ls, low c.1 := fun c hc => by
  obtain ⟨n, hn, rfl⟩ := List.mem_map.mp hc
  obtain ⟨x, hx, e⟩ := namesOf_mem.mp hn
  exact e ▸ (h x hx).nm.2.2

/-! ### letters written -/
def numS (i : Int) : Str := Str.ofString (toString i)
theorem str_assoc (a b c : Str) : a ++ b ++ c = a ++ (b ++ c) := by
  show Str.mk _ = Str.mk _
  congr 1
  exact Array.append_assoc ..
theorem str_len (a b : Str) : (a ++ b).length = a.length + b.length := Array.size_append ..
theorem numS_len {i : Int} (h0 : 0 ≤ i) (h1 : i ≤ 1000000000000) : (numS i).length ≤ 13 := toString_length_le h0 (by decide) (by omega)
theorem log_small {i : Int} (h0 : 0 ≤ i) (h1 : i ≤ 1000000000000) : i.natAbs.log2 < 1920 := by
  by_cases z : i.natAbs = 0
  · rw [z]; decide
  · exact Nat.lt_trans ((Nat.log2_lt z (k := 40)).mpr (by omega)) (by decide)
def catS (l : List Str) : Str := l.foldl (· ++ ·) Str.empty
theorem catS_snoc (l : List Str) (x : Str) : catS (l ++ [x]) = catS l ++ x := by
  unfold catS
  rw [List.foldl_append]
  rfl
theorem join_nil (l : List Str) : Txt.join ("" : Str) l = catS l := by
  have h : ∀ (r : List Str) (a : Str), (⟨r.foldl (fun acc p => acc ++ ("" : Str).cps ++ p.cps) a.cps⟩ : Str) = r.foldl (· ++ ·) a := by
    intro r
    induction r with
    | nil => intro a; rfl
    | cons x r ih =>
      intro a
      rw [List.foldl_cons, List.foldl_cons]
      have e : a.cps ++ ("" : Str).cps ++ x.cps = (a ++ x).cps := by
        have e0 : ("" : Str).cps = #[] := by decide +kernel
        rw [e0, Array.append_empty]
        rfl
      rw [e]
      exact ih _
  cases l with
  | nil => rfl
  | cons x r =>
    show (⟨r.foldl (fun acc p => acc ++ ("" : Str).cps ++ p.cps) x.cps⟩ : Str) = r.foldl (· ++ ·) (Str.empty ++ x)
    rw [h]
    congr 1
    show x = Str.mk (#[] ++ x.cps)
    rw [Array.empty_append]
def row0 (x : Let) : Str := Str.empty ++ mkS x.nm ++ " sent " ++ numS x.s ++ " back " ++ numS x.b ++ " swears " ++ numS x.lo ++ " to " ++ numS x.hi
def row1 (x : Let) : Str := row0 x ++ "\n"
theorem len_sent : (" sent " : Str).length = 6 := by decide +kernel
theorem len_back : (" back " : Str).length = 6 := by decide +kernel
theorem len_swears : (" swears " : Str).length = 8 := by decide +kernel
theorem len_to : (" to " : Str).length = 4 := by decide +kernel
theorem len_lf : ("\n" : Str).length = 1 := by decide +kernel
theorem len_0 : Str.empty.length = 0 := rfl
theorem row1_len {x : Let} (h : x.Ok) : (row1 x).length ≤ 100 := by
  have h1 := h.nm.2.1
  have := h.s0; have := h.sb; have := h.b1; have := h.l0; have := h.lh; have := h.h1
  have a1 := numS_len (i := x.s) (by omega) (by omega)
  have a2 := numS_len (i := x.b) (by omega) (by omega)
  have a3 := numS_len (i := x.lo) (by omega) (by omega)
  have a4 := numS_len (i := x.hi) (by omega) (by omega)
  unfold row1 row0
  simp only [str_len, len_sent, len_back, len_swears, len_to, len_lf, len_0, mkS_len]
  omega
theorem catS_len {ls : List Let} (h : ∀ x ∈ ls, x.Ok) : (catS (ls.map row1)).length ≤ 100 * ls.length := by
  have g : ∀ (l : List Let) (a : Str), (∀ x ∈ l, x.Ok) → ((l.map row1).foldl (· ++ ·) a).length ≤ a.length + 100 * l.length := by
    intro l
    induction l with
    | nil => intro a _; exact Nat.le_refl _
    | cons x r ih =>
      intro a ho
      rw [List.map_cons, List.foldl_cons]
      refine Nat.le_trans (ih _ fun y hy => ho y (List.mem_cons_of_mem _ hy)) ?_
      have := row1_len (ho x List.mem_cons_self)
      rw [str_len, List.length_cons]
      omega
  have z := g ls Str.empty h
  rw [len_0, Nat.zero_add] at z
  exact z
theorem sum_len {ls : List Let} (h : ∀ x ∈ ls, x.Ok) : ((ls.map row1).map (·.length)).sum ≤ 100 * ls.length := by
  induction ls with
  | nil => exact Nat.le_refl _
  | cons x r ih =>
    have := row1_len (h x List.mem_cons_self)
    have := ih fun y hy => h y (List.mem_cons_of_mem _ hy)
    simp only [List.map_cons, List.sum_cons, List.length_cons]
    omega
theorem line_of {n : Nat} (h : n ≤ 100000) : n ≤ sizeLine := Nat.le_trans h (by decide)
def spRowOf (K : PySem.W.Frag) : Sp := fun vs H Q _ => ∃ (t : Addr) (x : Let), vs = [.ref t] ∧ SqT K H t x.vals ∧ x.Ok ∧ Q (.str (row1 x)) H
def spWritten (K : PySem.W.Frag) : Sp := fun vs H Q _ => ∃ (p : Addr) (as : List Addr) (ls : List Let), vs = [.ref p] ∧ SqL K H p (as.map V.ref) ∧ LetsAt K H as ls ∧ (∀ x ∈ ls, x.Ok) ∧ ls.length ≤ 200 ∧
  ∀ H', Same H H' → Q (.str (catS (ls.map row1))) H'

/-! ### a text of letters, as it is read -/
abbrev kSent : List Nat := [115, 101, 110, 116]
abbrev kBack : List Nat := [98, 97, 99, 107]
abbrev kSwears : List Nat := [115, 119, 101, 97, 114, 115]
abbrev kTo : List Nat := [116, 111]
def asc (z : List Nat) : Prop := ∀ c ∈ z, c < 128
def numsOk (s b lo hi : Int) : Prop := (0 ≤ s ∧ s ≤ b ∧ b ≤ 1000000000000) ∧ 0 ≤ lo ∧ lo ≤ hi ∧ hi ≤ 1000000000000
instance {z : List Nat} : Decidable (low z) := by unfold low; infer_instance
instance {z : List Nat} : Decidable (nmOk z) := by unfold nmOk; infer_instance
instance {s b lo hi : Int} : Decidable (numsOk s b lo hi) := by unfold numsOk; infer_instance
/-- what is told of a letter -/
def told1 (x : Let) : Str := if nmOk x.nm then (if numsOk x.s x.b x.lo x.hi then "" else "letter") else "name"
def numW (w : List Nat) : Option Int := if w = [] ∨ w.all fig = false ∨ (w.head? = some 48 ∧ w ≠ [48]) then none else some ((NumText.digitsVal w : Nat) : Int)
def letW (r : List Nat) : Option Let := match cuts 32 r with
  | [n, w1, a, w3, b, w5, c, w7, d] => if w1 = kSent ∧ w3 = kBack ∧ w5 = kSwears ∧ w7 = kTo then (match numW a, numW b, numW c, numW d with
    | some a, some b, some c, some d => some ⟨n, a, b, c, d⟩
    | _, _, _, _ => none) else none
  | _ => none
def dueR (rows : List (List Nat)) : Option (List Let) := if rows.all (fun r => (letW r).isSome) = true then some (rows.filterMap letW) else none
def dueW (l : List Nat) : Option (List Let) := if (cuts 10 l).getLast? = some [] then dueR (cuts 10 l).dropLast else none
def firstBad (ls : List Let) : Str := match ls.find? fun x => decide (told1 x ≠ "") with
  | some x => told1 x
  | none => ""
def kindW (l : List Nat) : Str := match dueW l with
  | none => "text"
  | some ls => firstBad ls
theorem told_cases (x : Let) : (told1 x = "" ∧ nmOk x.nm ∧ numsOk x.s x.b x.lo x.hi) ∨ (told1 x = "letter" ∧ nmOk x.nm ∧ ¬ numsOk x.s x.b x.lo x.hi) ∨ (told1 x = "name" ∧ ¬ nmOk x.nm) := by
  unfold told1
  by_cases h : nmOk x.nm
  · by_cases g : numsOk x.s x.b x.lo x.hi
    · rw [if_pos h, if_pos g]; exact .inl ⟨rfl, h, g⟩
    · rw [if_pos h, if_neg g]; exact .inr (.inl ⟨rfl, h, g⟩)
  · rw [if_neg h]; exact .inr (.inr ⟨rfl, h⟩)
theorem firstBad_none {ls : List Let} (h : ∀ x ∈ ls, told1 x = "") : firstBad ls = "" := by
  unfold firstBad
  rw [List.find?_eq_none.mpr fun x m => by simp [h x m]]
theorem firstBad_at : ∀ {ls : List Let} {i : Nat} {x : Let}, (∀ y ∈ ls.take i, told1 y = "") → ls[i]? = some x → told1 x ≠ "" → firstBad ls = told1 x
  | y :: ls, 0, x, _, e, n => by
    cases (Option.some.inj e)
    unfold firstBad
    rw [List.find?_cons_of_pos (by simpa using n)]
  | y :: ls, i + 1, x, h, e, n => by
    have h0 := h y (by simp)
    have z := firstBad_at (ls := ls) (i := i) (x := x) (fun q m => h q (by simp [m])) e n
    unfold firstBad at z ⊢
    rw [List.find?_cons_of_neg (by simpa using h0)]
    exact z
theorem dueR_none {rows : List (List Nat)} {r : List Nat} (m : r ∈ rows) (h : letW r = none) : dueR rows = none := by
  unfold dueR
  rw [if_neg]
  intro z
  have := List.all_eq_true.mp z r m
  rw [h] at this
  cases this
theorem dueR_some {rows : List (List Nat)} {ls : List Let} (h : rows.map letW = ls.map some) : dueR rows = some ls := by
  have g : ∀ (rows : List (List Nat)) (ls : List Let), rows.map letW = ls.map some → rows.all (fun r => (letW r).isSome) = true ∧ rows.filterMap letW = ls := by
    intro rows
    induction rows with
    | nil => intro ls h; cases ls with
      | nil => exact ⟨rfl, rfl⟩
      | cons _ _ => cases h
    | cons r rs ih => intro ls h; cases ls with
      | nil => cases h
      | cons x xs =>
        rw [List.map_cons, List.map_cons] at h
        obtain ⟨e1, e2⟩ := List.cons.inj h
        obtain ⟨h1, h2⟩ := ih xs e2
        refine ⟨?_, ?_⟩
        · rw [List.all_cons, e1, h1]; rfl
        · rw [List.filterMap_cons, e1]
          show x :: rs.filterMap letW = _
          rw [h2]
  obtain ⟨h1, h2⟩ := g rows ls h
  unfold dueR
  rw [if_pos h1, h2]
def spIsName (P : Addr) : Sp := fun vs H Q _ => ∃ z : List Nat, vs = [.str (mkS z)] ∧ z.length ≤ 100000 ∧ GxR.TabG H P ∧ ∀ (b : Bool) (H' : Hp), (b = true ↔ nmOk z) → Kp H H' → Q (.bl b) H'
def spInOrder : Sp := fun vs H Q _ => ∃ x y : Int, vs = [.int x, .int y] ∧ ∀ b : Bool, (b = true ↔ (0 ≤ x ∧ x ≤ y ∧ y ≤ 1000000000000)) → Q (.bl b) H
def spChecked (K : PySem.W.Frag) (P cN cL : Addr) : Sp := fun vs H Q E => ∃ (t : Addr) (x : Let), vs = [.ref t] ∧ SqT K H t x.vals ∧ x.nm.length ≤ 100000 ∧ GxR.TabG H P ∧
  (told1 x = "name" → ∀ H', E (.ref cN) none H') ∧ (told1 x = "letter" → ∀ H', E (.ref cL) none H') ∧ (told1 x = "" → ∀ H', Kp H H' → Q (.ref t) H')
def spNumberOf (P c : Addr) : Sp := fun vs H Q E => ∃ w : List Nat, vs = [.str (mkS w)] ∧ Txl 100000 600 w ∧ GxR.TabG H P ∧ (numW w = none → ∀ H', E (.ref c) none H') ∧ ∀ n, numW w = some n → ∀ H', Kp H H' → Q (.int n) H'
def spLetterOf (P c : Addr) : Sp := fun vs H Q E => ∃ r : List Nat, vs = [.str (mkS r)] ∧ Txl 100000 600 r ∧ GxR.TabG H P ∧ (letW r = none → ∀ H', E (.ref c) none H') ∧ ∀ x, letW r = some x → ∀ (t : Addr) (H' : Hp), Kp H H' → H' t = some (.tup x.vals) → Q (.ref t) H'
def spRead (K : PySem.W.Frag) (P1 P2 cT cN cL : Addr) : Sp := fun vs H Q E => ∃ l : List Nat, vs = [.str (mkS l)] ∧ Txl 90000 600 l ∧ GxR.TabG H P1 ∧ GxR.TabG H P2 ∧ (kindW l = "text" → ∀ H', E (.ref cT) none H') ∧ (kindW l = "name" → ∀ H', E (.ref cN) none H') ∧ (kindW l = "letter" → ∀ H', E (.ref cL) none H') ∧
  (kindW l = "" → ∀ (ls : List Let) (as : List Addr) (p : Addr) (H' : Hp), dueW l = some ls → ls.length ≤ 100000 → Kp H H' → LetsAt K H' as ls → H' p = some (.lst (as.map V.ref)) → H p = none → Q (.ref p) H')
def spLawT2 (K : PySem.W.Frag) (P P2 : Addr) : Sp := fun vs H Q _ => ∃ (a : Addr) (ns : List Int), vs = [.ref a] ∧ SqL K H a (ns.map V.int) ∧ ns.length ≤ 63 ∧ GxR.TabG H P ∧ GxR.TabG H P2 ∧ ∀ H', Q (.bl true) H'
theorem strV {w c : List Nat} {x : Str} (h : x = mkS c) : (V.str (mkS w) = V.str x) ↔ w = c := by
  rw [h]
  exact ⟨fun e => mkS_inj (V.str.inj e), fun e => by rw [e]⟩
theorem starts0 (w : List Nat) : Txt.startswith (mkS w) ("0" : Str) = decide (w.head? = some 48) := by
  have y0 : TL.tl ("0" : Str) = [48] := by decide +kernel
  have h := TL.at_iff (x := mkS w) (y := ("0" : Str)) (by rw [y0]; simp) 0
  have l : TL.tl (mkS w) = w := mkS_list w
  rw [l, y0, List.drop_zero] at h
  have e : (Txt.startswith (mkS w) ("0" : Str) = true) ↔ PySem.StrLaws.At (mkS w) ("0" : Str) (mkS w).length 0 := by
    unfold Txt.startswith PySem.StrLaws.At
    rw [Bool.and_eq_true, decide_eq_true_eq]
  have p : TL.pre [48] w = true ↔ w.head? = some 48 := by
    unfold TL.pre
    cases w with
    | nil => simp
    | cons c r => simp
  rw [Bool.eq_iff_iff, e, h, p, decide_eq_true_eq]
theorem mk_beq (x y : List Nat) : (mkS x == mkS y) = decide (x = y) := SX.S_beq_eq
theorem eqv4 {x y z u x' y' z' u' : List Nat} : PyData.eqv (.list [.str (mkS x), .str (mkS y), .str (mkS z), .str (mkS u)]) (.list [.str (mkS x'), .str (mkS y'), .str (mkS z'), .str (mkS u')]) = decide (x = x' ∧ y = y' ∧ z = z' ∧ u = u') := by
  simp only [PyData.eqv, PyData.eqvAll, mk_beq, Bool.and_true]
  rw [Bool.eq_iff_iff]
  simp only [Bool.and_eq_true, decide_eq_true_eq]
theorem strOk_asc {l : List Nat} (h : ∀ c ∈ l, c < 128) : PyData.strOk (mkS l) = true := by
  unfold PyData.strOk mkS
  rw [Array.all_eq_true]
  intro i hi
  have hm : l[i]'(by simpa using hi) ∈ l := List.getElem_mem _
  have := h _ hm
  simp only [List.getElem_toArray, decide_eq_true_eq]
  omega
theorem shp4 {x y z u : List Nat} (hx : ∀ c ∈ x, c < 128) (hy : ∀ c ∈ y, c < 128) (hz : ∀ c ∈ z, c < 128) (hu : ∀ c ∈ u, c < 128) : SeqAt.shaped (.list [.str (mkS x), .str (mkS y), .str (mkS z), .str (mkS u)]) = true := by
  unfold SeqAt.shaped
  have e : (PyData.list [.str (mkS x), .str (mkS y), .str (mkS z), .str (mkS u)]).canLay0 = true := by
    show (PyData.strOk (mkS x) && (PyData.strOk (mkS y) && (PyData.strOk (mkS z) && (PyData.strOk (mkS u) && true)))) = true
    rw [strOk_asc hx, strOk_asc hy, strOk_asc hz, strOk_asc hu]
    rfl
  rw [e]
  rfl
theorem step_odd {α : Type} (a b c d e f g h i : α) : stepV [a, b, c, d, e, f, g, h, i] (some 1) (some 2) = [b, d, f, h] := by
  show (sliceRange (sliceBounds (some 1) none (some 2) 9).1 (sliceBounds (some 1) none (some 2) 9).2.1 (sliceBounds (some 1) none (some 2) 9).2.2).filterMap _ = _
  rw [show sliceRange (sliceBounds (some 1) none (some 2) 9).1 (sliceBounds (some 1) none (some 2) 9).2.1 (sliceBounds (some 1) none (some 2) 9).2.2 = [1, 3, 5, 7] by decide +kernel]
  rfl
theorem step_even {α : Type} (a b c d e f g h i : α) : stepV [a, b, c, d, e, f, g, h, i] (some 0) (some 2) = [a, c, e, g, i] := by
  show (sliceRange (sliceBounds (some 0) none (some 2) 9).1 (sliceBounds (some 0) none (some 2) 9).2.1 (sliceBounds (some 0) none (some 2) 9).2.2).filterMap _ = _
  rw [show sliceRange (sliceBounds (some 0) none (some 2) 9).1 (sliceBounds (some 0) none (some 2) 9).2.1 (sliceBounds (some 0) none (some 2) 9).2.2 = [0, 2, 4, 6, 8] by decide +kernel]
  rfl
theorem eSent : ("sent" : Str) = mkS kSent := by decide +kernel
theorem eBack : ("back" : Str) = mkS kBack := by decide +kernel
theorem eSwears : ("swears" : Str) = mkS kSwears := by decide +kernel
theorem eTo : ("to" : Str) = mkS kTo := by decide +kernel
theorem split32 (r : List Nat) : (Txt.split (mkS r) (" " : Str)).map V.str = txs (cuts 32 r) := by
  rw [show (" " : Str) = mkS [32] by decide +kernel, split_at 32 (by decide), List.map_map]
  rfl
theorem split10 (r : List Nat) : (Txt.split (mkS r) ("\n" : Str)).map V.str = txs (cuts 10 r) := by
  rw [show ("\n" : Str) = mkS [10] by decide +kernel, split_at 10 (by decide), List.map_map]
  rfl
theorem txs_len (l : List (List Nat)) : (txs l).length = l.length := List.length_map ..
theorem nine {α : Type} {l : List α} (h : l.length = 9) : ∃ a b c d e f g i j, l = [a, b, c, d, e, f, g, i, j] := by
  match l, h with
  | [a, b, c, d, e, f, g, i, j], _ => exact ⟨a, b, c, d, e, f, g, i, j, rfl⟩
theorem letW_not9 {r : List Nat} (h : (cuts 32 r).length ≠ 9) : letW r = none := by
  unfold letW
  split
  · next e => rw [e] at h; exact absurd rfl h
  · rfl
theorem letW_9 {r n w1 x w3 y w5 z w7 u : List Nat} (h : cuts 32 r = [n, w1, x, w3, y, w5, z, w7, u]) : letW r = if w1 = kSent ∧ w3 = kBack ∧ w5 = kSwears ∧ w7 = kTo then (match numW x, numW y, numW z, numW u with
    | some a, some b, some c, some d => some ⟨n, a, b, c, d⟩
    | _, _, _, _ => none) else none := by
  unfold letW
  rw [h]
theorem line_of2 {n : Nat} (h : n ≤ 200000) : n ≤ sizeLine := Nat.le_trans h (by decide)
theorem cuts_ends (l : List Nat) : ∃ init last, cuts 10 l = init ++ [last] := ⟨_, _, (List.dropLast_concat_getLast (cuts_ne 10 l [])).symm⟩
theorem dueW_of {l last : List Nat} {init : List (List Nat)} (e : cuts 10 l = init ++ [last]) : dueW l = if last = [] then dueR init else none := by
  unfold dueW
  rw [e, List.getLast?_concat, List.dropLast_concat]
  by_cases h : last = []
  · rw [if_pos h, h, if_pos rfl]
  · rw [if_neg h, if_neg fun z => h (Option.some.inj z)]
theorem kindW_none {l : List Nat} (h : dueW l = none) : kindW l = "text" := by
  unfold kindW
  rw [h]
theorem kindW_some {l : List Nat} {ls : List Let} (h : dueW l = some ls) : kindW l = firstBad ls := by
  unfold kindW
  rw [h]
theorem letW_nm {r : List Nat} {x : Let} (h : letW r = some x) : x.nm ∈ cuts 32 r := by
  by_cases h9 : (cuts 32 r).length = 9
  · obtain ⟨n, w1, a, w3, b, w5, c, w7, d, e⟩ := nine h9
    rw [letW_9 e] at h
    split at h
    · split at h
      · cases Option.some.inj h
        rw [e]
        simp
      · cases h
    · cases h
  · rw [letW_not9 h9] at h
    cases h
theorem txs_snoc (l : List (List Nat)) (x : List Nat) : txs (l ++ [x]) = txs l ++ [.str (mkS x)] := List.map_append ..
theorem txs_get {l : List (List Nat)} {i : Nat} {v : V} (h : (txs l)[i]? = some v) : ∃ z, l[i]? = some z ∧ v = .str (mkS z) := by
  unfold txs at h
  rw [List.getElem?_map] at h
  cases e : l[i]? with
  | none => rw [e] at h; cases h
  | some z => rw [e] at h; exact ⟨z, rfl, (Option.some.inj h).symm⟩
theorem LetsAt.kp {K : PySem.W.Frag} {H H' : Hp} {as : List Addr} {ls : List Let} (h : LetsAt K H as ls) (s : Kp H H') : LetsAt K H' as ls := ⟨h.1, fun i t x a b => s.seqT (h.2 i t x a b)⟩
theorem line_lt {n : Nat} (h : n ≤ 200000) : n < sizeLine := Nat.lt_of_le_of_lt h (by decide)
def spSign : Sp := fun vs H Q _ => ∃ c : Int, vs = [.int c] ∧ ∀ d : Nat, d < 128 → Q (.str (mkS [d])) H
/-- an odd row; a row of odd data; a row -/
def spOdd : Sp := fun vs H Q _ => ∃ c : Int, vs = [.int c] ∧ ∀ (r : List Nat) (H' : Hp), Txl 400 60 r → Same H H' → Q (.str (mkS r)) H'
def okS (x : Str) : Bool := decide (x.cps.toList.length ≤ 60) && x.cps.toList.all fun d => decide (d < 128)
theorem okS_txl {x : Str} (h : okS x = true) : Txl 400 60 x.cps.toList := by
  unfold okS at h
  rw [Bool.and_eq_true, decide_eq_true_eq] at h
  exact ⟨by omega, fun c m => by simpa using List.all_eq_true.mp h.2 c m, Runs.short h.1⟩
theorem okL2 {H : Hp} {p : Addr} {x y : Str} (e : H p = some (.lst [.str x, .str y])) (h : ([x, y] : List Str).all okS = true := by decide +kernel) : ∃ L : List Str, H p = some (.lst (L.map V.str)) ∧ L.all okS = true ∧ L.length = 2 := ⟨[x, y], e, h, rfl⟩
theorem okL3 {H : Hp} {p : Addr} {x y z : Str} (e : H p = some (.lst [.str x, .str y, .str z])) (h : ([x, y, z] : List Str).all okS = true := by decide +kernel) : ∃ L : List Str, H p = some (.lst (L.map V.str)) ∧ L.all okS = true ∧ L.length = 3 := ⟨[x, y, z], e, h, rfl⟩
theorem okL5 {H : Hp} {p : Addr} {x y z u v : Str} (e : H p = some (.lst [.str x, .str y, .str z, .str u, .str v])) (h : ([x, y, z, u, v] : List Str).all okS = true := by decide +kernel) : ∃ L : List Str, H p = some (.lst (L.map V.str)) ∧ L.all okS = true ∧ L.length = 5 := ⟨[x, y, z, u, v], e, h, rfl⟩
/-- data that may be no letter's -/
structure Let.Odd (x : Let) : Prop where
  nm : x.nm.length ≤ 60
  asc : ∀ c ∈ x.nm, c < 128
  s0 : 0 ≤ x.s
  s1 : x.s ≤ 10 ^ 50
  b0 : 0 ≤ x.b
  b1 : x.b ≤ 10 ^ 50
  l0 : 0 ≤ x.lo
  l1 : x.lo ≤ 10 ^ 50
  h0 : 0 ≤ x.hi
  h1 : x.hi ≤ 10 ^ 50
theorem Let.Ok.odd {x : Let} (h : x.Ok) : x.Odd := by
  have := h.nm.2.1
  have := h.s0; have := h.sb; have := h.b1; have := h.l0; have := h.lh; have := h.h1
  refine ⟨by omega, fun c m => ?_, by omega, ?_, by omega, ?_, by omega, ?_, by omega, ?_⟩
  · have := h.nm.2.2 c m
    omega
  all_goals exact Int.le_trans (show _ ≤ (1000000000000 : Int) by omega) (by decide)
theorem oddT {H : Hp} {t : Addr} {z : Str} {s b lo hi : Int} (e : H t = some (.tup [.str z, .int s, .int b, .int lo, .int hi])) (s0 : 0 ≤ s ∧ s ≤ 10 ^ 50) (b0 : 0 ≤ b ∧ b ≤ 10 ^ 50) (l0 : 0 ≤ lo ∧ lo ≤ 10 ^ 50) (h0 : 0 ≤ hi ∧ hi ≤ 10 ^ 50) (h : okS z = true := by decide +kernel) :
    ∃ x : Let, x.Odd ∧ H t = some (.tup x.vals) := by
  have g := okS_txl h
  have l : z.cps.toList.length ≤ 60 := by
    unfold okS at h
    rw [Bool.and_eq_true, decide_eq_true_eq] at h
    exact h.1
  refine ⟨⟨z.cps.toList, s, b, lo, hi⟩, ⟨l, g.asc, s0.1, s0.2, b0.1, b0.2, l0.1, l0.2, h0.1, h0.2⟩, ?_⟩
  rw [e]
  show _ = some (HO.tup [.str (mkS z.cps.toList), _, _, _, _])
  rw [← ofS z]
def OddsAt (H : Hp) (vs : List V) : Prop := ∀ v ∈ vs, ∃ (t : Addr) (x : Let), v = .ref t ∧ H t = some (.tup x.vals) ∧ x.Odd
theorem OddsAt.same {H H' : Hp} {vs : List V} (h : OddsAt H vs) (s : Same H H') : OddsAt H' vs := fun v m => let ⟨t, x, e, a, o⟩ := h v m; ⟨t, x, e, s _ _ a, o⟩
theorem OddsAt.nil {H : Hp} : OddsAt H [] := fun _ m => nomatch m
theorem OddsAt.cons {H : Hp} {vs : List V} {t : Addr} {x : Let} (a : H t = some (.tup x.vals)) (o : x.Odd) (h : OddsAt H vs) : OddsAt H (.ref t :: vs) := fun v m => by
  rcases List.mem_cons.mp m with rfl | m
  · exact ⟨t, x, rfl, a, o⟩
  · exact h v m
theorem OddsAt.app {H : Hp} {vs us : List V} (h : OddsAt H vs) (g : OddsAt H us) : OddsAt H (vs ++ us) := fun v m => (List.mem_append.mp m).elim (h v) (g v)
def spNone : Sp := fun vs H Q _ => ∃ c : Int, vs = [.int c] ∧ ∀ (x : Let) (t : Addr) (H' : Hp), x.Odd → Same H H' → H' t = some (.tup x.vals) → Q (.ref t) H'
def spRow (K : PySem.W.Frag) : Sp := fun vs H Q _ => ∃ (t : Addr) (x : Let), vs = [.ref t] ∧ SqT K H t x.vals ∧ x.Odd ∧ ∀ r : List Nat, Txl 400 60 r → Q (.str (mkS r)) H
theorem numB {i : Int} (h0 : 0 ≤ i) (h1 : i ≤ 10 ^ 50) : (numS i).length ≤ 51 := toString_length_le h0 (by decide) (Int.lt_of_le_of_lt h1 (by decide))
theorem logB {i : Int} (h0 : 0 ≤ i) (h1 : i ≤ 10 ^ 50) : i.natAbs.log2 < 1920 := by
  by_cases z : i.natAbs = 0
  · rw [z]; decide
  · have h2 : i.natAbs < 2 ^ 167 := Nat.lt_of_le_of_lt (show i.natAbs ≤ 10 ^ 50 by omega) (by decide)
    exact Nat.lt_trans ((Nat.log2_lt z (k := 167)).mpr h2) (by decide)
/-- the signs of a row -/
def row0L (x : Let) : List Nat := x.nm ++ 32 :: ([115, 101, 110, 116] ++ 32 :: ((numS x.s).cps.toList ++ 32 :: ([98, 97, 99, 107] ++ 32 :: ((numS x.b).cps.toList ++ 32 :: ([115, 119, 101, 97, 114, 115] ++ 32 :: ((numS x.lo).cps.toList ++ 32 :: ([116, 111] ++ 32 :: (numS x.hi).cps.toList)))))))
theorem row0_list (x : Let) : row0 x = mkS (row0L x) := by
  have e1 : (" sent " : Str) = mkS (32 :: [115, 101, 110, 116] ++ [32]) := by decide +kernel
  have e2 : (" back " : Str) = mkS (32 :: [98, 97, 99, 107] ++ [32]) := by decide +kernel
  have e3 : (" swears " : Str) = mkS (32 :: [115, 119, 101, 97, 114, 115] ++ [32]) := by decide +kernel
  have e4 : (" to " : Str) = mkS (32 :: [116, 111] ++ [32]) := by decide +kernel
  have e0 : Str.empty = mkS [] := rfl
  unfold row0 row0L
  rw [e0, e1, e2, e3, e4, ofS (numS x.s), ofS (numS x.b), ofS (numS x.lo), ofS (numS x.hi)]
  simp only [mkS_cat, mkS_list]
  congr 1
  simp
theorem numS_fig {i : Int} (h0 : 0 ≤ i) : ∀ c ∈ (numS i).cps.toList, c < 128 := fun c m => by
  obtain ⟨n, rfl⟩ := Int.eq_ofNat_of_zero_le h0
  have e : (numS (n : Int)).cps.toList = TL.numL n := TL.tl_num n
  rw [e] at m
  have := TL.numL_digits n c m
  omega
theorem row_txl {x : Let} (h : x.Odd) : Txl 400 60 (row0L x) := by
  have n0 := h.nm
  have a1 := numB h.s0 h.s1
  have a2 := numB h.b0 h.b1
  have a3 := numB h.l0 h.l1
  have a4 := numB h.h0 h.h1
  have len : ∀ i, (numS i).cps.toList.length = (numS i).length := fun _ => rfl
  refine ⟨?_, fun c m => ?_, ?_⟩
  · unfold row0L
    simp only [List.length_append, List.length_cons, List.length_nil, len]
    omega
  · unfold row0L at m
    simp only [List.mem_append, List.mem_cons, List.not_mem_nil, or_false] at m
    have b1 := numS_fig h.s0 c
    have b2 := numS_fig h.b0 c
    have b3 := numS_fig h.l0 c
    have b4 := numS_fig h.h0 c
    have b0 := h.asc c
    rcases m with m | m | m | m | m | m | m | m | m | m | m | m | m | m | m | m | m <;> first | omega | exact b0 m | exact b1 m | exact b2 m | exact b3 m | exact b4 m | skip
  · have sp : fig 32 = false := rfl
    have sh : ∀ {l : List Nat}, l.length ≤ 60 → Runs 60 l := fun h => Runs.short h
    unfold row0L
    exact (sh n0).sep sp ((sh (by decide)).sep sp ((sh (by rw [len]; omega)).sep sp ((sh (by decide)).sep sp ((sh (by rw [len]; omega)).sep sp ((sh (by decide)).sep sp ((sh (by rw [len]; omega)).sep sp ((sh (by decide)).sep sp (sh (by rw [len]; omega)))))))))
def numN (w : List Nat) : Int := match numW w with
  | some n => n
  | none => -1
def spNumber : Sp := fun vs H Q _ => ∃ w : List Nat, vs = [.str (mkS w)] ∧ Txl 100000 600 w ∧ Q (.int (numN w)) H
theorem numN_none {w : List Nat} (h : numW w = none) : numN w = -1 := by
  unfold numN
  rw [h]
theorem numN_some {w : List Nat} {n : Int} (h : numW w = some n) : numN w = n := by
  unfold numN
  rw [h]
theorem numW_nn {w : List Nat} {n : Int} (h : numW w = some n) : 0 ≤ n := by
  unfold numW at h
  split at h
  · cases h
  · cases h
    exact Int.natCast_nonneg _
theorem fig_list : ("0123456789" : Str).cps.toList = (List.range 10).map (48 + ·) := by decide +kernel
theorem fig_mem {c : Nat} : decide (c ∈ ("0123456789" : Str).cps.toList) = fig c := by
  rw [fig_list, Bool.eq_iff_iff, decide_eq_true_eq, List.mem_map, Bool.and_eq_true, decide_eq_true_eq, decide_eq_true_eq]
  constructor
  · rintro ⟨j, hj, rfl⟩
    have := List.mem_range.mp hj
    omega
  · intro h
    exact ⟨c - 48, List.mem_range.mpr (by omega), by omega⟩
def spLawLetterOf : Sp := fun vs H Q _ => ∃ r : List Nat, vs = [.str (mkS r)] ∧ Txl 100000 600 r ∧ (letW r = none → ∀ H', Same H H' → Q .non H') ∧ ∀ x, letW r = some x → ∀ (t : Addr) (H' : Hp), Same H H' → H' t = some (.tup x.vals) → Q (.ref t) H'
abbrev kAll : List Nat := [115, 101, 110, 116, 98, 97, 99, 107, 115, 119, 101, 97, 114, 115, 116, 111]
theorem eAll : ("sentbackswearsto" : Str) = mkS kAll := by decide +kernel
theorem four_to {w7 : List Nat} (h : kSent ++ kBack ++ kSwears ++ w7 = kAll) : w7 = kTo := List.append_cancel_left (h.trans (show kAll = kSent ++ kBack ++ kSwears ++ kTo from rfl))
theorem numN_neg {w : List Nat} (h : numN w < 0) : numW w = none := by
  cases e : numW w with
  | none => rfl
  | some n =>
    rw [numN_some e] at h
    have := numW_nn e
    omega
theorem numN_pos {w : List Nat} (h : 0 ≤ numN w) : numW w = some (numN w) := by
  cases e : numW w with
  | none =>
    rw [numN_none e] at h
    omega
  | some n => rw [numN_some e]
theorem line4 {n : Nat} (h : n ≤ 400000) : n ≤ sizeLine := Nat.le_trans h (by decide)
def spDue (K : PySem.W.Frag) : Sp := fun vs H Q _ => ∃ l : List Nat, vs = [.str (mkS l)] ∧ Txl 90000 600 l ∧
  (kindW l ≠ "" → ∀ (t p : Addr) (H' : Hp), Same H H' → H' p = some (.lst []) → H' t = some (.tup [.ref p, .str (kindW l)]) → Q (.ref t) H') ∧
  (kindW l = "" → ∀ (ls : List Let) (as : List Addr) (t p : Addr) (H' : Hp), dueW l = some ls → Same H H' → LetsAt K H' as ls → H' p = some (.lst (as.map V.ref)) → H' t = some (.tup [.ref p, .str ""]) → Q (.ref t) H')
def OptAt (K : PySem.W.Frag) (H : Hp) (v : V) : Option Let → Prop
  | none => v = .non
  | some x => ∃ t, v = .ref t ∧ SqT K H t x.vals
def datO : Option Let → PyData
  | none => .none
  | some x => letD x
theorem OptAt.dp {K : PySem.W.Frag} {H : Hp} {v : V} {o : Option Let} (h : OptAt K H v o) : Dp K H v (datO o) := by
  cases o with
  | none => cases (show v = .non from h); exact .non
  | some x =>
    obtain ⟨t, rfl, hT⟩ := h
    exact .tup hT (.cons (.str _) (.cons (.int _) (.cons (.int _) (.cons (.int _) (.cons (.int _) .nil)))))
theorem OptAt.same {K : PySem.W.Frag} {H H' : Hp} {v : V} {o : Option Let} (h : OptAt K H v o) (s : Same H H') : OptAt K H' v o := by
  cases o with
  | none => exact h
  | some x => obtain ⟨t, e, hT⟩ := h; exact ⟨t, e, Ts.Same.seqT s hT⟩
theorem OptAt.grow {K : PySem.W.Frag} {H : Hp} {D : Addr} {acc acc' : List V} {v : V} {o : Option Let} (h : OptAt K H v o) (hD : H D = some (.lst acc)) : OptAt K (upd H D (.lst acc')) v o := by
  cases o with
  | none => exact h
  | some x => obtain ⟨t, e, hT⟩ := h; exact ⟨t, e, Ts.SqT.grow hT hD⟩
theorem shp_letA {x : Let} (h : ∀ c ∈ x.nm, c < 128) : Shp 1 (letD x) := by
  refine shp_tup fun d hd => ?_
  simp only [List.mem_cons, List.not_mem_nil, or_false] at hd
  rcases hd with rfl | rfl | rfl | rfl | rfl
  · exact ⟨strOk_asc h, Nat.zero_le _⟩
  all_goals exact shp_int _
theorem shp_datO {o : Option Let} (h : ∀ x, o = some x → ∀ c ∈ x.nm, c < 128) : Shp 1 (datO o) := by
  cases o with
  | none => exact ⟨rfl, Nat.zero_le _⟩
  | some x => exact shp_letA (h x rfl)
theorem any_none (init : List (List Nat)) : ((init.map fun r => datO (letW r)).any fun z => PyData.eqv z .none) = init.any fun r => (letW r).isNone := by
  rw [List.any_map]
  congr 1
  funext r
  show PyData.eqv (datO (letW r)) .none = _
  cases letW r with
  | none => rfl
  | some x =>
    show PyData.eqv (letD x) .none = false
    unfold letD
    simp only [PyData.eqv]
theorem letW_nn {r : List Nat} {x : Let} (h : letW r = some x) : 0 ≤ x.s ∧ 0 ≤ x.b ∧ 0 ≤ x.lo ∧ 0 ≤ x.hi := by
  by_cases h9 : (cuts 32 r).length = 9
  · obtain ⟨n, w1, a, w3, b, w5, c, w7, d, e⟩ := nine h9
    rw [letW_9 e] at h
    split at h
    · split at h
      · next e1 e2 e3 e4 =>
        cases Option.some.inj h
        exact ⟨numW_nn e1, numW_nn e2, numW_nn e3, numW_nn e4⟩
      · cases h
    · cases h
  · rw [letW_not9 h9] at h
    cases h
theorem cut_init {xs : List V} {v : V} : cutV (xs ++ [v]) none (some (-1)) = xs := by
  unfold cutV
  have e : HT.sIx (xs ++ [v]).length (xs ++ [v]).length (some (-1)) = xs.length := by
    show (if (-1 : Int) < 0 then ((-1 : Int) + ((xs ++ [v]).length : Int)).toNat else min (-1 : Int).toNat (xs ++ [v]).length) = _
    rw [if_pos (by decide), List.length_append]
    simp only [List.length_cons, List.length_nil]
    omega
  rw [e, HT.sIx_none, List.drop_zero, Nat.sub_zero]
  exact List.take_left
def oneV (c : Nat) : V := .str (mkS [c])
def oneD (c : Nat) : PyData := .str (mkS [c])
theorem dp_ones {K : PySem.W.Frag} {H : Hp} : ∀ l : List Nat, DpAll K H (l.map oneV) (l.map oneD)
  | [] => .nil
  | _ :: l => .cons (.str _) (dp_ones l)
theorem shp_ones {l : List Nat} (h : ∀ c ∈ l, c < 128) : SeqAt.shaped (.list (l.map oneD)) = true := Shp.ok (n := 1) (shp_list fun d hd => by
  obtain ⟨c, m, rfl⟩ := List.mem_map.mp hd
  exact ⟨strOk_asc fun x hx => by rw [List.mem_singleton] at hx; exact hx ▸ h c m, Nat.zero_le _⟩) (by decide)
theorem all_lets {K : PySem.W.Frag} {H : Hp} : ∀ {vs : List V} {init : List (List Nat)}, vs.length = init.length → (∀ (j : Nat) (v : V) (r : List Nat), vs[j]? = some v → init[j]? = some r → OptAt K H v (letW r)) → (∀ r ∈ init, letW r ≠ none) →
    ∃ (ls : List Let) (as : List Addr), init.map letW = ls.map some ∧ vs = as.map V.ref ∧ LetsAt K H as ls
  | [], [], _, _, _ => ⟨[], [], rfl, rfl, LetsAt.nil⟩
  | [], _ :: _, h, _, _ => by cases h
  | _ :: _, [], h, _, _ => by cases h
  | v :: vs, r :: rs, h, g, n => by
    obtain ⟨ls, as, h1, h2, h3⟩ := all_lets (vs := vs) (init := rs) (Nat.succ.inj h) (fun j v' r' a b => g (j + 1) v' r' a b) fun r' m => n r' (List.mem_cons_of_mem _ m)
    have z := g 0 v r rfl rfl
    cases e : letW r with
    | none => exact absurd e (n r List.mem_cons_self)
    | some x =>
      rw [e] at z
      obtain ⟨t, rfl, hT⟩ := z
      refine ⟨x :: ls, t :: as, by rw [List.map_cons, List.map_cons, e, h1], by rw [List.map_cons, h2], by rw [List.length_cons, List.length_cons, h3.1], fun i t' y a b => ?_⟩
      cases i with
      | zero => cases a; cases b; exact hT
      | succ i => exact h3.2 i t' y a b
def spTold (K : PySem.W.Frag) (P1 P2 : Addr) : Sp := fun vs H Q _ => ∃ l : List Nat, vs = [.str (mkS l)] ∧ Txl 90000 600 l ∧ GxR.TabG H P1 ∧ GxR.TabG H P2 ∧
  (kindW l ≠ "" → ∀ (t p : Addr) (H' : Hp), H' p = some (.lst []) → H' t = some (.tup [.ref p, .str (kindW l)]) → Q (.ref t) H') ∧
  (kindW l = "" → ∀ (ls : List Let) (as : List Addr) (t p : Addr) (H' : Hp), dueW l = some ls → ls.length ≤ 100000 → Kp H H' → LetsAt K H' as ls → H' p = some (.lst (as.map V.ref)) → H p = none → H' t = some (.tup [.ref p, .str ""]) → Q (.ref t) H')
def spKinds (K : PySem.W.Frag) : Sp := fun vs H Q _ => ∃ (p : Addr) (as : List Addr) (ls : List Let), vs = [.ref p] ∧ SqL K H p (as.map V.ref) ∧ LetsAt K H as ls ∧ ∀ H', Same H H' → Q (.bl true) H'
def lineL (rows : List (List Nat)) : List Nat := (rows.map (· ++ [10])).flatten
def spSpoilt : Sp := fun vs H Q _ => ∃ (p : Addr) (c : Int) (rows : List (List Nat)), vs = [.ref p, .int c] ∧ H p = some (.lst (txs rows)) ∧ rows.length ≤ 30 ∧ (∀ r ∈ rows, Txl 400 60 r) ∧ ∀ (l : List Nat) (H' : Hp), Txl 90000 600 l → TabS p H H' → Q (.str (mkS l)) H'
theorem txs_map (L : List (List Nat)) : txs L = (L.map mkS).map V.str := by
  unfold txs
  rw [List.map_map]
  rfl
abbrev rAddL : R2 := fun x y H Q => ∃ i j : Str, x = V.str i ∧ y = V.str j ∧ i.length + j.length ≤ sizeLine ∧ Q (V.str (i ++ j)) H
theorem lines_ok {K : PySem.W.Frag} {p : Addr} {rows : List (List Nat)} {s1 s2 s3 s4 s5 s6 : Option V} {H : Hp} {Q : VK} (hL : SqL K H p (txs rows)) (hn : rows.length ≤ 1000) (hr : ∀ r ∈ rows, r.length ≤ 1000)
    (q : ∀ D H', Same H H' → H' D = some (.lst (txs (rows.map (· ++ [10])))) → Q (.ref D) H') :
    tLc (iList K (tVar 0)) (gName 6) tYes (tOp rAddL (tVar 6) (tC (.str ("\n" : Str)))) [6] [some (.ref p), s1, s2, s3, s4, s5, s6] H Q := by
  have elf : ("\n" : Str) = mkS [10] := by decide +kernel
  refine ⟨_, rfl, p, rfl, ⟨_, hL⟩, fun D nD => lc_list (K := K) (a := p) (xs := txs rows) (fun i H' => Same H H' ∧ H' D = some (.lst (txs ((rows.take i).map (· ++ [10]))))) ⟨same_new nD, upd_same⟩ (fun i H' _ h => h.1.seq hL) ?_ ?_⟩
  · rintro i v H' hi ⟨s, eD⟩
    obtain ⟨r, hri, rfl⟩ := txs_get hi
    refine ⟨rfl, ?_⟩
    refine ⟨_, rfl, _, _, rfl, rfl, line_of2 (by have := hr r (List.mem_of_getElem? hri); rw [mkS_len, elf, mkS_len]; simp only [List.length_cons, List.length_nil]; omega), ?_⟩
    refine ⟨_, eD, line_lt (by unfold txs; rw [List.length_map, List.length_map, List.length_take]; omega), Same.mut s nD, ?_⟩
    rw [upd_same, take_snoc hri, List.map_append, List.map_cons, List.map_nil, txs_snoc, elf, mkS_cat]
  · rintro H' ⟨s, eD⟩
    rw [txs_len, List.take_length] at eD
    exact q D H' s eD
theorem catS_mk : ∀ (L : List (List Nat)) (l : List Nat), (L.map mkS).foldl (· ++ ·) (mkS l) = mkS (l ++ L.flatten)
  | [], l => by simp
  | x :: L, l => by
    rw [List.map_cons, List.foldl_cons, mkS_cat, catS_mk L (l ++ x), List.flatten_cons, List.append_assoc]
theorem join_lines (rows : List (List Nat)) : Txt.join ("" : Str) ((rows.map (· ++ [10])).map mkS) = mkS (lineL rows) := by
  rw [join_nil]
  exact (catS_mk (rows.map (· ++ [10])) []).trans (by unfold lineL; rw [List.nil_append])
theorem sum_lines : ∀ {rows : List (List Nat)}, (∀ r ∈ rows, r.length ≤ 400) → (((rows.map (· ++ [10])).map mkS).map (·.length)).sum ≤ 401 * rows.length
  | [], _ => Nat.le_refl _
  | r :: rows, h => by
    have := h r List.mem_cons_self
    have := sum_lines (rows := rows) fun x m => h x (List.mem_cons_of_mem _ m)
    simp only [List.map_cons, List.sum_cons, List.length_cons, mkS_len, List.length_append, List.length_nil]
    omega
theorem lines_txl : ∀ {rows : List (List Nat)}, (∀ r ∈ rows, Txl 400 60 r) → Txl (401 * rows.length) 60 (lineL rows)
  | [], _ => ⟨Nat.zero_le _, fun _ m => (nomatch m), Runs.short (Nat.zero_le _)⟩
  | r :: rows, h => by
    have a := h r List.mem_cons_self
    have b := lines_txl (rows := rows) fun x m => h x (List.mem_cons_of_mem _ m)
    have e : lineL (r :: rows) = r ++ 10 :: lineL rows := by
      unfold lineL
      rw [List.map_cons, List.flatten_cons, List.append_assoc]
      rfl
    rw [e]
    refine ⟨?_, fun c m => ?_, a.run.sep rfl b.run⟩
    · have := a.len
      have := b.len
      simp only [List.length_append, List.length_cons]
      omega
    · rcases List.mem_append.mp m with m | m
      · exact a.asc c m
      · rcases List.mem_cons.mp m with rfl | m
        · decide
        · exact b.asc c m
theorem txs_ins (rows : List (List Nat)) (r : List Nat) (i : Nat) : (txs rows).take i ++ [.str (mkS r)] ++ (txs rows).drop i = txs (rows.take i ++ [r] ++ rows.drop i) := by
  unfold txs
  rw [List.map_append, List.map_append, List.map_take, List.map_drop]
  rfl
theorem tabs_mut {p : Addr} {H H' : Hp} {o : HO} (s : TabS p H H') : TabS p H (upd H' p o) := fun b u ne e => (upd_ne ne).trans (s b u ne e)
theorem tabs_same {p : Addr} {H H' : Hp} (s : Same H H') : TabS p H H' := fun b u _ e => s b u e
theorem spoil3 {n k j : Nat} {L r : List Nat} (h : Txl n 60 L) (rl : r.length ≤ 2) (ra : ∀ c ∈ r, c < 128) (hn : n ≤ 40000) : Txl 90000 600 (L.take k ++ r ++ L.drop j) := by
  have hl := h.len
  refine ⟨?_, fun c m => ?_, ((h.run.take.app (Runs.short rl)).app h.run.drop).mono (by decide)⟩
  · simp only [List.length_append, List.length_take, List.length_drop]
    omega
  · rcases List.mem_append.mp m with m | m
    · rcases List.mem_append.mp m with m | m
      · exact h.asc c (List.mem_of_mem_take m)
      · exact ra c m
    · exact h.asc c (List.mem_of_mem_drop m)
theorem cut_last (L : List Nat) : cutS (mkS L) none (some ((L.length : Int) - 1)) = mkS (L.take (L.length - 1)) := by
  cases L with
  | nil =>
    have h := cutS_length (mkS []) none (some (((([] : List Nat).length : Nat) : Int) - 1))
    have z : (cutS (mkS []) none (some (((([] : List Nat).length : Nat) : Int) - 1))).length = 0 := by
      rw [mkS_len] at h
      exact Nat.le_zero.mp h
    exact TL.ext_tl ((TL.len0_tl _).mp z)
  | cons x r =>
    rw [show (((x :: r).length : Nat) : Int) - 1 = (((x :: r).length - 1 : Nat) : Int) by rw [List.length_cons]; omega, cut_to]
theorem ins_ok {rows : List (List Nat)} {r : List Nat} {i m : Nat} (hl : rows.length ≤ m) (hR : ∀ r ∈ rows, Txl 400 60 r) (tr : Txl 400 60 r) : (rows.take i ++ [r] ++ rows.drop i).length ≤ m + 1 ∧ ∀ z ∈ rows.take i ++ [r] ++ rows.drop i, Txl 400 60 z := by
  refine ⟨?_, fun z mz => ?_⟩
  · simp only [List.length_append, List.length_take, List.length_drop, List.length_cons, List.length_nil]
    omega
  · rcases List.mem_append.mp mz with mz | mz
    · rcases List.mem_append.mp mz with mz | mz
      · exact hR z (List.mem_of_mem_take mz)
      · rw [List.mem_singleton] at mz
        exact mz ▸ tr
    · exact hR z (List.mem_of_mem_drop mz)
theorem firstBad_all {ls : List Let} (h : firstBad ls = "") : ∀ x ∈ ls, told1 x = "" := fun x m => by
  unfold firstBad at h
  cases e : ls.find? fun x => decide (told1 x ≠ "") with
  | none =>
    have := List.find?_eq_none.mp e x m
    simpa using this
  | some y =>
    rw [e] at h
    have := List.find?_some e
    have h : told1 y = "" := h
    simp [h] at this
theorem shp_letsT {ls : List Let} (h : ∀ x ∈ ls, told1 x = "") : SeqAt.shaped (.list (ls.map letD)) = true := Shp.ok (n := 2) (shp_list fun d hd => by
  obtain ⟨x, m, rfl⟩ := List.mem_map.mp hd
  refine shp_letA fun c mc => ?_
  rcases told_cases x with ⟨_, ok, _⟩ | ⟨e, _⟩ | ⟨e, _⟩
  · have := ok.2.2 c mc
    omega
  · rw [h x m] at e; exact absurd e (by decide +kernel)
  · rw [h x m] at e; exact absurd e (by decide +kernel)) (by decide)
theorem tabg_but {P D : Addr} {H H' : Hp} {o : HO} (g : GxR.TabG H P) (t : TabS D H H') (e : H D = some o) (n : NoTbl o) : GxR.TabG H' P := by
  obtain ⟨ps, e2, k⟩ := g
  refine ⟨ps, t P _ (fun z => ?_) e2, k⟩
  rw [z, e] at e2
  exact n ps (Option.some.inj e2)

/-! ### the text by places -/
def top (i : Nat) : Stmt := PySem.Challenge.pw_timestretch_k12_read.main.body.getD i (.Pass ⟨0, 0, 0, 0⟩)
abbrev s_checked : Stmt := top 15
abbrev s_is_name : Stmt := top 16
abbrev s_in_order : Stmt := top 17
abbrev s_read : Stmt := top 21
abbrev s_letter_of : Stmt := top 22
abbrev s_number_of : Stmt := top 23
abbrev s_whole : Stmt := top 25
abbrev s_cell_at : Stmt := top 26
abbrev s_mix : Stmt := top 27
abbrev s_big : Stmt := top 28
abbrev s_kind : Stmt := top 29
abbrev s_word : Stmt := top 30
abbrev s_names : Stmt := top 31
abbrev s_letter : Stmt := top 32
abbrev s_sign : Stmt := top 33
abbrev s_odd : Stmt := top 34
abbrev s_w_none : Stmt := top 35
abbrev s_row : Stmt := top 36
abbrev s_number : Stmt := top 37
abbrev s_w_letter_of : Stmt := top 38
abbrev s_due : Stmt := top 39
abbrev s_told : Stmt := top 40
abbrev s_spoilt : Stmt := top 41
abbrev s_kinds : Stmt := top 42
abbrev s_law : Stmt := top 43
/-! ### where things stand, and what the top has written -/
structure Ad where
  k_tab_is_name : Addr
  P_tab_is_name : Addr
  k_tab_number_of : Addr
  P_tab_number_of : Addr
  f_checked : Addr
  d_checked : FuncData
  f_is_name : Addr
  d_is_name : FuncData
  f_in_order : Addr
  d_in_order : FuncData
  f_read : Addr
  d_read : FuncData
  f_letter_of : Addr
  d_letter_of : FuncData
  f_number_of : Addr
  d_number_of : FuncData
  f_whole : Addr
  d_whole : FuncData
  f_cell_at : Addr
  d_cell_at : FuncData
  f_mix : Addr
  d_mix : FuncData
  f_big : Addr
  d_big : FuncData
  f_kind : Addr
  d_kind : FuncData
  f_word : Addr
  d_word : FuncData
  f_names : Addr
  d_names : FuncData
  f_letter : Addr
  d_letter : FuncData
  f_sign : Addr
  d_sign : FuncData
  f_odd : Addr
  d_odd : FuncData
  f_w_none : Addr
  d_w_none : FuncData
  f_row : Addr
  d_row : FuncData
  f_number : Addr
  d_number : FuncData
  f_w_letter_of : Addr
  d_w_letter_of : FuncData
  f_due : Addr
  d_due : FuncData
  f_told : Addr
  d_told : FuncData
  f_spoilt : Addr
  d_spoilt : FuncData
  f_kinds : Addr
  d_kinds : FuncData
  f_law : Addr
  d_law : FuncData
  c_StretchError : Addr
  c_BadName : Addr
  c_BadLetter : Addr
  c_BadOff : Addr
  c_TooEarly : Addr
  c_BadCount : Addr
  c_NoAgreement : Addr
  c_TooWide : Addr
  c_TooMany : Addr
  c_NoClock : Addr
  c_NoText : Addr
  w_WORDS_BETWEEN : Addr
def Ad.cs (a : Ad) : List Addr := [a.c_BadName, a.c_BadLetter, a.c_BadOff, a.c_TooEarly, a.c_BadCount, a.c_NoAgreement, a.c_TooWide, a.c_TooMany, a.c_NoClock, a.c_NoText]
structure Txt (K : PySem.W.Frag) (mg : Str → Option Value) (a : Ad) : Prop where
  checked : Dfn K mg "checked" s_checked ["letter"] a.f_checked a.d_checked
  is_name : Dfn K mg "is_name" s_is_name ["name"] a.f_is_name a.d_is_name
  in_order : Dfn K mg "in_order" s_in_order ["first", "last"] a.f_in_order a.d_in_order
  read : Dfn K mg "read" s_read ["text"] a.f_read a.d_read
  letter_of : Dfn K mg "letter_of" s_letter_of ["row"] a.f_letter_of a.d_letter_of
  number_of : Dfn K mg "number_of" s_number_of ["word"] a.f_number_of a.d_number_of
  whole : Dfn K mg "_law_whole" s_whole ["_law_found"] a.f_whole a.d_whole
  cell_at : Dfn K mg "_law_cell_at" s_cell_at ["_law_script", "_law_k"] a.f_cell_at a.d_cell_at
  mix : Dfn K mg "_law_mix" s_mix ["_law_cell", "_law_k"] a.f_mix a.d_mix
  big : Dfn K mg "_law_big" s_big ["_law_cell", "_law_k"] a.f_big a.d_big
  kind : Dfn K mg "_law_kind" s_kind ["_law_e"] a.f_kind a.d_kind
  word : Dfn K mg "_law_word" s_word ["_law_cell", "_law_size"] a.f_word a.d_word
  names : Dfn K mg "_law_names" s_names ["_law_cell"] a.f_names a.d_names
  letter : Dfn K mg "_law_letter" s_letter ["_law_cell", "_law_names_here", "_law_many"] a.f_letter a.d_letter
  sign : Dfn K mg "_law_sign" s_sign ["_law_cell"] a.f_sign a.d_sign
  odd : Dfn K mg "_law_odd" s_odd ["_law_cell"] a.f_odd a.d_odd
  w_none : Dfn K mg "_law_none" s_w_none ["_law_cell"] a.f_w_none a.d_w_none
  row : Dfn K mg "_law_row" s_row ["_law_letter_here"] a.f_row a.d_row
  number : Dfn K mg "_law_number" s_number ["_law_word_here"] a.f_number a.d_number
  w_letter_of : Dfn K mg "_law_letter_of" s_w_letter_of ["_law_row_here"] a.f_w_letter_of a.d_w_letter_of
  due : Dfn K mg "_law_due" s_due ["_law_text"] a.f_due a.d_due
  told : Dfn K mg "_law_told" s_told ["_law_text"] a.f_told a.d_told
  spoilt : Dfn K mg "_law_spoilt" s_spoilt ["_law_rows", "_law_cell"] a.f_spoilt a.d_spoilt
  kinds : Dfn K mg "_law_kinds" s_kinds ["_law_found"] a.f_kinds a.d_kinds
  law : Dfn K mg "law" s_law ["_law_script"] a.f_law a.d_law
  StretchError : Err K mg "StretchError" a.c_StretchError
  BadName : Err K mg "BadName" a.c_BadName
  BadLetter : Err K mg "BadLetter" a.c_BadLetter
  BadOff : Err K mg "BadOff" a.c_BadOff
  TooEarly : Err K mg "TooEarly" a.c_TooEarly
  BadCount : Err K mg "BadCount" a.c_BadCount
  NoAgreement : Err K mg "NoAgreement" a.c_NoAgreement
  TooWide : Err K mg "TooWide" a.c_TooWide
  TooMany : Err K mg "TooMany" a.c_TooMany
  NoClock : Err K mg "NoClock" a.c_NoClock
  NoText : Err K mg "NoText" a.c_NoText
  kd_BadName : Kd K a.cs a.c_StretchError a.c_BadName 0
  kd_BadLetter : Kd K a.cs a.c_StretchError a.c_BadLetter 1
  kd_NoText : Kd K a.cs a.c_StretchError a.c_NoText 9
  b_all : mg "all" = none
  b_len : mg "len" = none
  b_int : mg "int" = none
  b_list : mg "list" = none
  b_isinstance : mg "isinstance" = none
  b_bool : mg "bool" = none
  b_ValueError : mg "ValueError" = none
  b_range : mg "range" = none
  b_sorted : mg "sorted" = none
  b_min : mg "min" = none
  b_max : mg "max" = none
  b_str : mg "str" = none
  b_tuple : mg "tuple" = none
  h_tab_is_name : a.d_is_name.code = .ref a.k_tab_is_name
  h_tab_number_of : a.d_number_of.code = .ref a.k_tab_number_of
  g_WORDS_BETWEEN : mg "WORDS_BETWEEN" = some (.ref a.w_WORDS_BETWEEN)
  t_WORDS_BETWEEN : ∀ H, SqT K H a.w_WORDS_BETWEEN [.str "sent", .str "back", .str "swears", .str "to"]
  c_LONGEST_NAME : ∃ t, mg "LONGEST_NAME" = some (.int 12 t)
  c_GREATEST_NUMBER : ∃ t, mg "GREATEST_NUMBER" = some (.int 1000000000000 t)
  c_WORDS_IN_A_ROW : ∃ t, mg "WORDS_IN_A_ROW" = some (.int 9 t)
section
variable {P : Program} {w : World} {K : PySem.W.Frag} {mg : Str → Option Value} {base : Heap} {a : Ad}
/-! ### is_name -/
abbrev n_is_name : List Str := ["name"]
theorem sc_is_name : FnScope ["name"] ["name"] (defScope s_is_name) := ⟨rfl, rfl, rfl, by decide +kernel, rfl, by decide +kernel, by decide +kernel⟩
--own
theorem ok_is_name (T : Txt K mg a) (TB_is_name : GxR.TabB base mg a.k_tab_is_name a.P_tab_is_name) : FnOk P w K mg base CX0 1 a.f_is_name a.d_is_name ["name"] (spIsName a.P_tab_is_name) := by
  refine fn_code T.is_name.F T.h_tab_is_name sc_is_name (fun vs H Q E h => ?_) (fun A outer s H vs Q E hr h => ?_)
  · obtain ⟨z, rfl, _⟩ := h
    rfl
  · obtain ⟨z, rfl, zl, hT, q⟩ := h
    obtain ⟨tk_LONGEST_NAME, hc_LONGEST_NAME⟩ := T.c_LONGEST_NAME
    refine ⟨_, (pss_one (ps_ret (pe_and (pe_chain op_le op_le pe_int (pe_callB call_len_str (by rfl) T.b_len boot_len (pa_cons (pv 0) pa_nil)) (pe_gint hc_LONGEST_NAME)) (pe_one (GxR.pe_allS hr (by rfl) T.b_all (by decide +kernel) TB_is_name rfl (gs_of rfl rfl (by decide +kernel) rfl rfl) (pv 0) (elt_az rfl rfl) (fun _ => rfl)))))), ?_⟩
    refine ⟨_, rfl, mkS z, rfl, line_of (by rw [mkS_len]; exact zl), _, _, rfl, rfl, _, rfl, ?_⟩
    rw [mkS_len]
    refine ite_dec (fun h1 => ?_) (fun h1 => ?_)
    · refine ⟨_, _, rfl, rfl, _, rfl, ?_⟩
      refine ite_dec (fun h2 => ?_) (fun h2 => ?_)
      · refine ⟨_, rfl, mkS z, rfl, hT, fun H2 hH => q _ H2 ?_ (Kp.tab hH hT)⟩
        rw [mkS_list, List.all_eq_true]
        refine ⟨fun h => ⟨by omega, by omega, fun c hc => ?_⟩, fun h c hc => ?_⟩
        · have := h c hc
          simpa using this
        · have := h.2.2 c hc
          simpa using this
      · exact q false H ⟨fun h => (nomatch h), fun h => absurd h.2.1 (by omega)⟩ (Kp.refl H)
    · refine ⟨_, rfl, iteF ?_⟩
      exact q false H ⟨fun h => (nomatch h), fun h => absurd h.1 (by omega)⟩ (Kp.refl H)

/-! ### in_order -/
abbrev n_in_order : List Str := ["first", "last"]
theorem sc_in_order : FnScope ["first", "last"] ["first", "last"] (defScope s_in_order) := ⟨rfl, rfl, rfl, by decide +kernel, rfl, by decide +kernel, by decide +kernel⟩
theorem ok_in_order (T : Txt K mg a) : FnOk P w K mg base CX0 1 a.f_in_order a.d_in_order ["first", "last"] (spInOrder) := by
  refine T.in_order.F.ok sc_in_order (fun vs H Q E h => ?_) (fun cdv A outer s H vs Q E hr h => ?_)
  · obtain ⟨x, y, rfl, q⟩ := h
    rfl
  · obtain ⟨x, y, rfl, q⟩ := h
    have hu := hu_of hr
    obtain ⟨tk_GREATEST_NUMBER, hc_GREATEST_NUMBER⟩ := T.c_GREATEST_NUMBER
    refine ⟨_, (pss_one (ps_ret (pe_chain3 op_le op_le op_le pe_int (pv 0) (pv 1) (pe_gint hc_GREATEST_NUMBER)))), ?_⟩
    refine ⟨_, rfl, _, _, rfl, rfl, _, rfl, ?_⟩
    refine ite_dec (fun h1 => ?_) (fun h1 => ?_)
    · refine ⟨_, rfl, _, _, rfl, rfl, _, rfl, ?_⟩
      refine ite_dec (fun h2 => ?_) (fun h2 => ?_)
      · refine ⟨_, _, rfl, rfl, ?_⟩
        exact q _ ⟨fun h => ⟨h1, h2, of_decide_eq_true h⟩, fun h => decide_eq_true h.2.2⟩
      · exact q false ⟨fun h => (nomatch h), fun h => absurd h.2.1 h2⟩
    · exact q false ⟨fun h => (nomatch h), fun h => absurd h.1 h1⟩
/-! ### checked -/
abbrev n_checked : List Str := ["letter", "name", "sent", "back", "low", "high"]
theorem sc_checked : FnScope ["letter", "name", "sent", "back", "low", "high"] ["letter"] (defScope s_checked) := ⟨rfl, rfl, rfl, by decide +kernel, rfl, by decide +kernel, by decide +kernel⟩
theorem ok_checked (T : Txt K mg a) (TB_is_name : GxR.TabB base mg a.k_tab_is_name a.P_tab_is_name) : FnOk P w K mg base (L2.CX P w) 2 a.f_checked a.d_checked ["letter"] (spChecked K a.P_tab_is_name a.c_BadName a.c_BadLetter) := by
  refine T.checked.F.okX sc_checked (fun vs H Q E h => ?_) (fun cdv A outer s H vs Q E hr h => ?_)
  · obtain ⟨t, x, rfl, hT, xl, hP, eN, eL, q⟩ := h
    rfl
  · obtain ⟨t, x, rfl, hT, xl, hP, eN, eL, q⟩ := h
    have hu := hu_of hr
    refine ⟨_, (pss_cons (ps_asg (pv 0) (pg_tup (by rfl) (pgs_cons (pg_name (i := 1) sc_checked.nd rfl (Or.inl rfl)) (pgs_cons (pg_name (i := 2) sc_checked.nd rfl (Or.inl rfl)) (pgs_cons (pg_name (i := 3) sc_checked.nd rfl (Or.inl rfl)) (pgs_cons (pg_name (i := 4) sc_checked.nd rfl (Or.inl rfl)) (pgs_cons (pg_name (i := 5) sc_checked.nd rfl (Or.inl rfl)) pgs_nil)))))))
      (pss_cons (ps_if (pt_not (pt_val (pe_cl (ok_is_name T TB_is_name) T.is_name (hr.mono (by decide)) (pa_cons (pv 1) pa_nil)))) (pss_one (ps_rs rfl (takes_of rfl rfl rfl rfl) T.BadName)) pss_nil)
      (pss_cons (ps_if (pt_not (PW.pt (pw_and (pt_val (pe_cl (ok_in_order T) T.in_order (hr.mono (by decide)) (pa_cons (pv 2) (pa_cons (pv 3) pa_nil)))) (pw_and1 (pt_val (pe_cl (ok_in_order T) T.in_order (hr.mono (by decide)) (pa_cons (pv 4) (pa_cons (pv 5) pa_nil)))))))) (pss_one (ps_rs rfl (takes_of rfl rfl rfl rfl) T.BadLetter)) pss_nil)
      (pss_one (ps_ret (pv 0)))))), ?_⟩
    refine ⟨_, rfl, t, _, rfl, hT, rfl, _, _, rfl, _, _, rfl, _, _, rfl, _, _, rfl, _, _, rfl, rfl, ?_⟩
    refine ⟨_, rfl, x.nm, rfl, xl, hP, fun r H1 hr1 s1 => ?_⟩
    refine ⟨_, rfl, ?_⟩
    cases r with
    | false =>
      refine iteT ?_
      exact eN (if_neg fun h => nomatch (hr1.mpr h)) H1
    | true =>
      have ok := hr1.mp rfl
      refine iteF ?_
      have bad : ¬ numsOk x.s x.b x.lo x.hi → told1 x = "letter" := fun h => (if_pos ok).trans (if_neg h)
      refine ⟨_, rfl, _, rfl, x.s, x.b, rfl, fun r1 h1 => ?_⟩
      refine ⟨_, rfl, ?_⟩
      cases r1 with
      | false =>
        refine iteF ?_
        refine iteT ?_
        exact eL (bad fun h => nomatch (h1.mpr h.1)) H1
      | true =>
        refine iteT ?_
        refine ⟨_, rfl, _, rfl, x.lo, x.hi, rfl, fun r2 h2 => ?_⟩
        refine ⟨_, rfl, ?_⟩
        cases r2 with
        | false =>
          refine iteT ?_
          exact eL (bad fun h => nomatch (h2.mpr h.2)) H1
        | true =>
          refine iteF ?_
          exact ⟨_, rfl, q ((if_pos ok).trans (if_pos ⟨h1.mp rfl, h2.mp rfl⟩)) H1 s1⟩
/-! ### number_of -/
abbrev n_number_of : List Str := ["word"]
theorem sc_number_of : FnScope ["word"] ["word"] (defScope s_number_of) := ⟨rfl, rfl, rfl, by decide +kernel, rfl, by decide +kernel, by decide +kernel⟩
--own
theorem ok_number_of (T : Txt K mg a) (TB_number_of : GxR.TabB base mg a.k_tab_number_of a.P_tab_number_of) : FnOk P w K mg base (L2.CX P w) 1 a.f_number_of a.d_number_of ["word"] (spNumberOf a.P_tab_number_of a.c_NoText) := by
  refine fn_codeX T.number_of.F T.h_tab_number_of sc_number_of (fun vs H Q E h => ?_) (fun A outer s H vs Q E hr h => ?_)
  · obtain ⟨z, rfl, _⟩ := h
    rfl
  · obtain ⟨w', rfl, hx, hT, bad, q⟩ := h
    have e0 : ("" : Str) = mkS [] := by decide +kernel
    have e48 : ("0" : Str) = mkS [48] := by decide +kernel
    refine ⟨_, (pss_cons (ps_if (PW.pt (pw_or (pt_cmpR op_eq (pv 0) pe_str (nomark _)) (pw_or1 (pt_not (pt_val (GxR.pe_allS hr (by rfl) T.b_all (by decide +kernel) TB_number_of rfl (gs_of rfl rfl (by decide +kernel) rfl rfl) (pv 0) (elt_09 rfl rfl) (fun _ => rfl))))))) (pss_one (ps_rs rfl (takes_of rfl rfl rfl rfl) T.NoText)) pss_nil)
      (pss_cons (ps_if (PW.pt (pw_and (pt_val (pe_m1 PySem.F.slot_str_startswith PySem.F.type_str_startswith mt_startswith (pv 0) pe_str)) (pw_and1 (pt_cmpR op_ne (pv 0) pe_str (nomark _))))) (pss_one (ps_rs rfl (takes_of rfl rfl rfl rfl) T.NoText)) pss_nil)
      (pss_one (ps_ret (pe_callTy call_int_str (by rfl) T.b_int (by decide +kernel) (pa_cons (pv 0) pa_nil)))))), ?_⟩
    refine ⟨_, rfl, rfl, _, rfl, ?_⟩
    refine ite_dec (fun h1 => ?_) (fun h1 => ?_)
    · exact bad (if_pos (.inl ((strV e0).mp h1))) H
    refine ⟨_, rfl, mkS w', rfl, hT, fun H1 tb => ?_⟩
    have k1 := Kp.tab tb hT
    refine ⟨_, rfl, ?_⟩
    rw [mkS_list]
    cases hf : w'.all fig with
    | false => exact bad (if_pos (.inr (.inl hf))) H1
    | true =>
      dsimp only
      refine iteF ?_
      have good : ¬ (w'.head? = some 48 ∧ w' ≠ [48]) → Q (.int ((NumText.digitsVal w' : Nat) : Int)) H1 := fun g => q _ (if_neg (by
        rintro (z | z | z)
        · exact h1 ((strV e0).mpr z)
        · rw [hf] at z; cases z
        · exact g z)) H1 k1
      refine ⟨_, rfl, ⟨_, rfl⟩, _, _, rfl, rfl, ?_⟩
      refine ⟨_, rfl, ?_⟩
      rw [starts0]
      have last : ¬ (w'.head? = some 48 ∧ w' ≠ [48]) → ∃ x, x = V.str (mkS w') ∧ ∃ b n, [x] = [V.str b] ∧ intText? b = some n ∧ b.length ≤ 640 ∧ Q (.int n) H1 := fun g => by
        have ne : w' ≠ [] := fun z => h1 ((strV e0).mpr z)
        have short : w'.length ≤ 600 := hx.run [] w' [] (by simp) hf
        exact ⟨_, rfl, mkS w', _, rfl, SX.int_S hf ne (by omega), by rw [mkS_len]; omega, good g⟩
      refine ite_dec (fun h2 => ?_) (fun h2 => ?_)
      · refine ⟨_, rfl, rfl, _, rfl, ?_⟩
        by_cases h3 : w' = [48]
        · refine ite_no (by rw [decide_eq_true ((strV e48).mpr h3)]; rfl) ?_
          obtain ⟨x, rfl, r⟩ := last fun z => z.2 h3
          exact ⟨_, rfl, r⟩
        · refine ite_yes (by rw [decide_eq_false fun z => h3 ((strV e48).mp z)]; rfl) ?_
          exact bad (if_pos (.inr (.inr ⟨h2, h3⟩))) H1
      · refine iteF ?_
        obtain ⟨x, rfl, r⟩ := last fun z => h2 z.1
        exact ⟨_, rfl, r⟩

/-! ### letter_of -/
abbrev n_letter_of : List Str := ["row", "words", "name", "sent", "back", "low", "high"]
theorem sc_letter_of : FnScope ["row", "words", "name", "sent", "back", "low", "high"] ["row"] (defScope s_letter_of) := ⟨rfl, rfl, rfl, by decide +kernel, rfl, by decide +kernel, by decide +kernel⟩
theorem ok_letter_of (T : Txt K mg a) (TB_number_of : GxR.TabB base mg a.k_tab_number_of a.P_tab_number_of) : FnOk P w K mg base (L2.CX P w) 2 a.f_letter_of a.d_letter_of ["row"] (spLetterOf a.P_tab_number_of a.c_NoText) := by
  refine T.letter_of.F.okX sc_letter_of (fun vs H Q E h => ?_) (fun cdv A outer s H vs Q E hr h => ?_)
  · obtain ⟨r, rfl, hx, hT, bad, q⟩ := h
    rfl
  · obtain ⟨r, rfl, hx, hT, bad, q⟩ := h
    have hu := hu_of hr
    obtain ⟨tk_WORDS_IN_A_ROW, hc_WORDS_IN_A_ROW⟩ := T.c_WORDS_IN_A_ROW
    refine ⟨_, (pss_cons (ps_set (i := 1) sc_letter_of.nd rfl (Or.inl rfl) (pe_split (pv 0) pe_str))
      (pss_cons (ps_if (PW.pt (pw_or (pt_cmpR op_ne (pe_callB (lenK K) (by rfl) T.b_len boot_len (pa_cons (pv 1) pa_nil)) (pe_gint hc_WORDS_IN_A_ROW) (nomark _)) (pw_or1 (pt_cmpR (neDK K hr.units) (pe_sliceS (pv 1) (po_some pe_int) (po_some pe_int)) (pe_callTy (listK K) (by rfl) T.b_list (by decide +kernel) (pa_cons (pe_gref T.g_WORDS_BETWEEN) pa_nil)) (nomark _))))) (pss_one (ps_rs rfl (takes_of rfl rfl rfl rfl) T.NoText)) pss_nil)
      (pss_cons (ps_asg (pe_sliceS (pv 1) (po_some pe_int) (po_some pe_int)) (pg_unl (by rfl) (pgs_cons (pg_name (i := 2) sc_letter_of.nd rfl (Or.inl rfl)) (pgs_cons (pg_name (i := 3) sc_letter_of.nd rfl (Or.inl rfl)) (pgs_cons (pg_name (i := 4) sc_letter_of.nd rfl (Or.inl rfl)) (pgs_cons (pg_name (i := 5) sc_letter_of.nd rfl (Or.inl rfl)) (pgs_cons (pg_name (i := 6) sc_letter_of.nd rfl (Or.inl rfl)) pgs_nil)))))))
      (pss_one (ps_ret (pe_tup (pa_cons (pv 2) (pa_cons (pe_clX (ok_number_of T TB_number_of) T.number_of (hr.mono (by decide)) (takes_of rfl rfl rfl rfl) (pa_cons (pv 3) pa_nil)) (pa_cons (pe_clX (ok_number_of T TB_number_of) T.number_of (hr.mono (by decide)) (takes_of rfl rfl rfl rfl) (pa_cons (pv 4) pa_nil)) (pa_cons (pe_clX (ok_number_of T TB_number_of) T.number_of (hr.mono (by decide)) (takes_of rfl rfl rfl rfl) (pa_cons (pv 5) pa_nil)) (pa_cons (pe_clX (ok_number_of T TB_number_of) T.number_of (hr.mono (by decide)) (takes_of rfl rfl rfl rfl) (pa_cons (pv 6) pa_nil)) pa_nil))))))))))), ?_⟩
    have rl := hx.len
    refine ⟨_, rfl, ⟨_, rfl⟩, mkS r, (" " : Str), rfl, rfl, (by decide +kernel), line_of2 (by rw [mkS_len]; omega), ?_⟩
    unfold rNewStrs
    rw [split32]
    intro pw nw
    generalize hH1 : upd _ pw _ = H1
    obtain ⟨s1, e1⟩ := gen_new hH1 nw
    clear hH1
    dsimp only [gName]
    refine ⟨_, rfl, _, _, rfl, .inl (SqL.of e1), rfl, _, rfl, ?_⟩
    rw [txs_len]
    by_cases h9 : (cuts 32 r).length = 9
    case neg =>
      refine ite_yes (by rw [decide_eq_false (fun z => h9 (by have := V.int.inj z; omega))]; rfl) ?_
      exact bad (letW_not9 h9) H1
    case pos =>
    refine ite_no (by rw [h9]; rfl) ?_
    obtain ⟨n, w1, x, w3, y, w5, z, w7, u, ew⟩ := nine h9
    have part : ∀ {v : List Nat}, v ∈ [n, w1, x, w3, y, w5, z, w7, u] → Txl 100000 600 v := fun {v} m => hx.cut (c := 32) (by rw [ew]; exact m)
    rw [ew] at e1
    refine ⟨_, rfl, _, rfl, _, rfl, pw, _, rfl, SqL.of e1, (by decide), fun p2 n2 => ?_⟩
    rw [show stepV (txs [n, w1, x, w3, y, w5, z, w7, u]) (some 1) (some 2) = txs [w1, w3, w5, w7] from step_odd ..]
    generalize hH2 : upd _ p2 _ = H2
    obtain ⟨s2, e2⟩ := gen_new hH2 n2
    clear hH2
    have tw := T.t_WORDS_BETWEEN H2
    rw [eSent, eBack, eSwears, eTo] at tw
    refine ⟨_, _, rfl, .inr tw, fun p3 n3 => ?_⟩
    generalize hH3 : upd _ p3 _ = H3
    obtain ⟨s3, e3⟩ := gen_new hH3 n3
    clear hH3
    have lits : ∀ k : List Nat, k.all (· < 128) = true → ∀ c ∈ k, c < 128 := fun k h c m => by simpa using List.all_eq_true.mp h c m
    refine ⟨.list [.str (mkS w1), .str (mkS w3), .str (mkS w5), .str (mkS w7)], .list [.str (mkS kSent), .str (mkS kBack), .str (mkS kSwears), .str (mkS kTo)], .lst (SqL.of (s3 _ _ e2)) (.cons (.str _) (.cons (.str _) (.cons (.str _) (.cons (.str _) .nil)))), .lst (SqL.of e3) (.cons (.str _) (.cons (.str _) (.cons (.str _) (.cons (.str _) .nil)))),
      shp4 (part (by simp)).asc (part (by simp)).asc (part (by simp)).asc (part (by simp)).asc, shp4 (lits _ rfl) (lits _ rfl) (lits _ rfl) (lits _ rfl), _, rfl, ?_⟩
    rw [eqv4]
    have lw := letW_9 ew
    by_cases hw : w1 = kSent ∧ w3 = kBack ∧ w5 = kSwears ∧ w7 = kTo
    case neg =>
      refine ite_yes (by rw [decide_eq_false hw]; rfl) ?_
      exact bad (lw.trans (if_neg hw)) H3
    case pos =>
    refine ite_no (by rw [decide_eq_true hw]; rfl) ?_
    rw [if_pos hw] at lw
    have e1' := s3 _ _ (s2 _ _ e1)
    refine ⟨_, rfl, _, rfl, _, rfl, pw, _, rfl, SqL.of e1', (by decide), fun p4 n4 => ?_⟩
    rw [show stepV (txs [n, w1, x, w3, y, w5, z, w7, u]) (some 0) (some 2) = txs [n, x, y, z, u] from step_even ..]
    generalize hH4 : upd _ p4 _ = H4
    obtain ⟨s4, e4⟩ := gen_new hH4 n4
    clear hH4
    have s04 : Same H H4 := s1.trans (s2.trans (s3.trans s4))
    have k04 := Kp.of s04
    refine ⟨p4, _, rfl, SqL.of e4, rfl, _, _, rfl, _, _, rfl, _, _, rfl, _, _, rfl, _, _, rfl, rfl, ?_⟩
    refine ⟨_, rfl, _, rfl, x, rfl, part (by simp), k04.tb _ hT, fun no H5 => bad (by rw [lw, no]) H5, fun a1 ea H5 k5 => ?_⟩
    refine ⟨_, rfl, y, rfl, part (by simp), (k04.trans k5).tb _ hT, fun no H6 => bad (by rw [lw, ea, no]) H6, fun a2 eb H6 k6 => ?_⟩
    refine ⟨_, rfl, z, rfl, part (by simp), ((k04.trans k5).trans k6).tb _ hT, fun no H7 => bad (by rw [lw, ea, eb, no]) H7, fun a3 ec H7 k7 => ?_⟩
    refine ⟨_, rfl, u, rfl, part (by simp), (((k04.trans k5).trans k6).trans k7).tb _ hT, fun no H8 => bad (by rw [lw, ea, eb, ec, no]) H8, fun a4 ed H8 k8 => ?_⟩
    refine ⟨(by show 5 ≤ sizeLine; decide), fun p9 n9 => ?_⟩
    rw [ea, eb, ec, ed] at lw
    exact q ⟨n, a1, a2, a3, a4⟩ lw p9 _ (((((k04.trans k5).trans k6).trans k7).trans k8).trans (Kp.of (same_new n9))) upd_same
/-! ### read -/
abbrev n_read : List Str := ["text", "rows", "letters", "row", "letter"]
theorem sc_read : FnScope ["text", "rows", "letters", "row", "letter"] ["text"] (defScope s_read) := ⟨rfl, rfl, rfl, by decide +kernel, rfl, by decide +kernel, by decide +kernel⟩
theorem ok_read (T : Txt K mg a) (TB_is_name : GxR.TabB base mg a.k_tab_is_name a.P_tab_is_name) (TB_number_of : GxR.TabB base mg a.k_tab_number_of a.P_tab_number_of) : FnOk P w K mg base (L2.CX P w) 3 a.f_read a.d_read ["text"] (spRead K a.P_tab_is_name a.P_tab_number_of a.c_NoText a.c_BadName a.c_BadLetter) := by
  refine T.read.F.okX sc_read (fun vs H Q E h => ?_) (fun cdv A outer s H vs Q E hr h => ?_)
  · obtain ⟨l, rfl, hx, hP, hN, eT, eN, eL, q⟩ := h
    rfl
  · obtain ⟨l, rfl, hx, hP, hN, eT, eN, eL, q⟩ := h
    have hu := hu_of hr
    refine ⟨_, (pss_cons (ps_set (i := 1) sc_read.nd rfl (Or.inl rfl) (pe_split (pv 0) pe_str))
      (pss_cons (ps_if (pt_cmpR op_ne (pe_bm0 PySem.F.plainAttrs_list PySem.F.slot_list_pop PySem.F.type_list_pop mt_pop (pv 1)) pe_str (nomark _)) (pss_one (ps_rs rfl (takes_of rfl rfl rfl rfl) T.NoText)) pss_nil)
      (pss_cons (ps_setLcE (i := 2) (own := [("row", 3)]) (g := gName 3) ⟨rfl, rfl, rfl, takes_of rfl rfl rfl rfl, sc_read.nd, (piL K (pv 1)), (blkOk_by (N := n_read) (sc := defScope s_read) (by decide +kernel)), fun _ _ _ _ _ => pg_name (i := 3) sc_read.nd rfl (Or.inl rfl), fun _ _ _ _ _ => (pe_clB (ok_letter_of T TB_number_of) T.letter_of (hr.mono (by decide)) (pa_cons (pv 3) pa_nil)), fun _ => rfl⟩ rfl rfl (sw_true rfl rfl rfl (by decide +kernel)))
      (pss_one (ps_ret (pe_lcE (own := [("letter", 4)]) (g := gName 4) ⟨rfl, rfl, rfl, takes_of rfl rfl rfl rfl, sc_read.nd, (piL K (pv 2)), (blkOk_by (N := n_read) (sc := defScope s_read) (by decide +kernel)), fun _ _ _ _ _ => pg_name (i := 4) sc_read.nd rfl (Or.inl rfl), fun _ _ _ _ _ => (pe_clB (ok_checked T TB_is_name) T.checked (hr.mono (by decide)) (pa_cons (pv 4) pa_nil)), fun _ => rfl⟩)))))), ?_⟩
    have rl := hx.len
    refine ⟨_, rfl, ⟨_, rfl⟩, mkS l, ("\n" : Str), rfl, rfl, (by decide +kernel), line_of2 (by rw [mkS_len]; omega), ?_⟩
    unfold rNewStrs
    rw [split10]
    intro pw nw
    generalize hH1 : upd _ pw _ = H1
    obtain ⟨s1, e1⟩ := gen_new hH1 nw
    clear hH1
    dsimp only [gName]
    obtain ⟨init, last, er⟩ := cuts_ends l
    have part : ∀ {v : List Nat}, v ∈ init → Txl 100000 600 v := fun {v} m => (hx.cut (c := 10) (by rw [er]; simp [m])).mono (by decide) (Nat.le_refl _)
    have many : init.length ≤ 100000 := by
      have z := cuts_len 10 l []
      rw [show TL.spl [10] 0 [] l = init ++ [last] from er, List.length_append] at z
      omega
    rw [er, txs_snoc] at e1
    have dw := dueW_of er
    refine ⟨_, rfl, .inl ⟨rfl, _, SqL.of e1⟩, pw, _, .str (mkS last), rfl, rfl, e1, by simp, ?_⟩
    rw [List.dropLast_concat]
    have k1 : Kp H (upd H1 pw (.lst (txs init))) := (Kp.of s1).mut nw e1
    have e2 : (upd H1 pw (.lst (txs init))) pw = some (.lst (txs init)) := upd_same
    generalize upd H1 pw (.lst (txs init)) = H2 at k1 e2 ⊢
    refine ⟨rfl, _, rfl, ?_⟩
    have e0 : ("" : Str) = mkS [] := by decide +kernel
    by_cases hl : last = []
    case neg =>
      refine ite_yes (by rw [decide_eq_false fun z => hl ((strV e0).mp z)]; rfl) ?_
      exact eT (kindW_none (dw.trans (if_neg hl))) H2
    case pos =>
    refine ite_no (by rw [decide_eq_true ((strV e0).mpr hl)]; rfl) ?_
    rw [if_pos hl] at dw
    -- the letters, one by one
    refine ⟨_, rfl, pw, rfl, ⟨_, SqL.of e2⟩, fun D nD => lc_list (K := K) (a := pw) (xs := txs init) (fun i H' => Kp H2 H' ∧ ∃ (as : List Addr) (ls : List Let), ls.length = i ∧ LetsAt K H' as ls ∧ (init.take i).map letW = ls.map some ∧ (∀ x ∈ ls, x.nm.length ≤ 100000) ∧ H' D = some (.lst (as.map V.ref)))
      ⟨Kp.of (same_new nD), [], [], rfl, LetsAt.nil, rfl, fun _ h => (nomatch h), upd_same⟩ (fun i H' _ h => SqL.of (h.1.at e2)) ?_ ?_⟩
    · rintro i v H' hi ⟨k2, as, ls, hli, hA, hm, hn, eD⟩
      obtain ⟨r, hr, rfl⟩ := txs_get hi
      have mr := List.mem_of_getElem? hr
      refine ⟨rfl, ?_⟩
      refine ⟨_, rfl, r, rfl, part mr, (k1.trans k2).tb _ hN, fun no H3 => eT (kindW_none (dw.trans (dueR_none mr no))) H3, fun x ex t H3 k3 eX => ?_⟩
      have eD3 := k3.at eD
      have il := (List.getElem?_eq_some_iff.mp hr).1
      refine ⟨_, eD3, line_lt (by rw [List.length_map, hA.1, hli]; omega), Kp.mut (k2.trans k3) nD eD3, as ++ [t], ls ++ [x], by rw [List.length_append, hli]; rfl, ((hA.kp k3).snoc (SqT.of eX)).grow eD3, ?_, ?_, ?_⟩
      · rw [take_snoc hr, List.map_append, List.map_append, hm]
        simp [ex]
      · intro y hy
        rcases List.mem_append.mp hy with h | h
        · exact hn y h
        · rw [List.mem_singleton] at h
          exact h ▸ ((part mr).cut (letW_nm ex)).len
      · rw [upd_same, List.map_append]
        rfl
    rintro H3 ⟨k2, as, ls, hli, hA, hm, hn, eD⟩
    rw [txs_len] at hli
    rw [txs_len, List.take_length] at hm
    have ds : dueW l = some ls := dw.trans (dueR_some hm)
    have kd := kindW_some ds
    dsimp only [gName]
    -- each checked
    refine ⟨_, rfl, D, rfl, ⟨_, SqL.of eD⟩, fun D2 nD2 => lc_list (K := K) (a := D) (xs := as.map V.ref) (fun i H' => Kp H3 H' ∧ (∀ y ∈ ls.take i, told1 y = "") ∧ H' D2 = some (.lst ((as.take i).map V.ref)))
      ⟨Kp.of (same_new nD2), fun _ h => (nomatch h), upd_same⟩ (fun i H' _ h => SqL.of (h.1.at eD)) ?_ ?_⟩
    · rintro i v H' hi ⟨k3, ok, eD2⟩
      obtain ⟨t, x, rfl, ha, hxl, hT⟩ := (hA.kp k3).get hi
      have il := (List.getElem?_eq_some_iff.mp hxl).1
      refine ⟨rfl, ?_⟩
      refine ⟨_, rfl, t, x, rfl, hT, hn x (List.mem_of_getElem? hxl), ((k1.trans k2).trans k3).tb _ hP, fun e H4 => eN ?_ H4, fun e H4 => eL ?_ H4, fun e H4 k4 => ?_⟩
      · rw [kd, firstBad_at ok hxl (by rw [e]; decide +kernel), e]
      · rw [kd, firstBad_at ok hxl (by rw [e]; decide +kernel), e]
      · have eD4 := k4.at eD2
        refine ⟨_, eD4, line_lt (by rw [List.length_map, List.length_take, hA.1]; omega), Kp.mut (k3.trans k4) nD2 eD4, fun y hy => ?_, ?_⟩
        · rw [take_snoc hxl] at hy
          rcases List.mem_append.mp hy with h | h
          · exact ok y h
          · rw [List.mem_singleton] at h
            exact h ▸ e
        · rw [upd_same, take_snoc ha, List.map_append]
          rfl
    rintro H4 ⟨k3, ok, eD2⟩
    rw [List.length_map, hA.1, List.take_length] at ok
    rw [List.length_map, List.take_length] at eD2
    have kall : Kp H H4 := (k1.trans k2).trans k3
    exact q (by rw [kd]; exact firstBad_none ok) ls as D2 H4 ds (by omega) kall (hA.kp k3) eD2 ((k1.trans k2).free nD2)
/-! ### _law_whole -/
abbrev n_whole : List Str := ["_law_found"]
theorem sc_whole : FnScope ["_law_found"] ["_law_found"] (defScope s_whole) := ⟨rfl, rfl, rfl, by decide +kernel, rfl, by decide +kernel, by decide +kernel⟩
theorem ok_whole (T : Txt K mg a) : FnOk P w K mg base CX0 1 a.f_whole a.d_whole ["_law_found"] (spWhole K) := by
  refine T.whole.F.ok sc_whole (fun vs H Q E h => ?_) (fun cdv A outer s H vs Q E hr h => ?_)
  · obtain ⟨i, rfl, q⟩ := h
    rfl
  · obtain ⟨i, rfl, q⟩ := h
    have hu := hu_of hr
    refine ⟨_, (pss_one (ps_ret (pe_and (pe_callB (isiK K) (by rfl) T.b_isinstance (by decide +kernel) (pa_cons (pv 0) (pa_cons (pe_bty (n := "int") T.b_int (by decide +kernel)) pa_nil))) (pe_one (pe_not (pe_callB (isiK K) (by rfl) T.b_isinstance (by decide +kernel) (pa_cons (pv 0) (pa_cons (pe_bty (n := "bool") T.b_bool (by decide +kernel)) pa_nil)))))))), ?_⟩
    refine ⟨_, rfl, _, _, _, _, true, rfl, .ty _, .base (.int i), kit_ty (by decide +kernel), _, rfl, ?_⟩
    refine iteT ?_
    refine ⟨_, rfl, _, _, _, _, false, rfl, .ty _, .base (.int i), kit_ty (by decide +kernel), _, rfl, ?_⟩
    exact q
/-! ### _law_cell_at -/
abbrev n_cell_at : List Str := ["_law_script", "_law_k"]
theorem sc_cell_at : FnScope ["_law_script", "_law_k"] ["_law_script", "_law_k"] (defScope s_cell_at) := ⟨rfl, rfl, rfl, by decide +kernel, rfl, by decide +kernel, by decide +kernel⟩
theorem ok_cell_at (T : Txt K mg a) : FnOk P w K mg base CX0 1 a.f_cell_at a.d_cell_at ["_law_script", "_law_k"] (spCellAt K) := by
  refine T.cell_at.F.ok sc_cell_at (fun vs H Q E h => ?_) (fun cdv A outer s H vs Q E hr h => ?_)
  · obtain ⟨l, ns, j, rfl, hS, q⟩ := h
    rfl
  · obtain ⟨l, ns, j, rfl, hS, q⟩ := h
    have hu := hu_of hr
    refine ⟨_, (pss_cons (ps_if (pt_cmpR op_lt (pv 1) (pe_callB (lenK K) (by rfl) T.b_len boot_len (pa_cons (pv 0) pa_nil)) (nomark _)) (pss_one (ps_ret (pe_ix (ixL K) (pv 0) (pv 1) (fun _ _ => rfl)))) pss_nil)
      (pss_one (ps_ret pe_int))), ?_⟩
    refine ⟨_, rfl, _, rfl, _, _, rfl, .inl hS, _, _, rfl, rfl, _, rfl, ?_⟩
    have el : (ns.map V.int).length = ns.length := List.length_map ..
    refine ite2 (fun z => ?_) (fun z => ?_)
    · have z' : j < ns.length := by have := of_decide_eq_true z; omega
      have e : (ns.map V.int)[j]? = some (.int (ns.getD j 0)) := by rw [List.getElem?_map, List.getD_eq_getElem?_getD, List.getElem?_eq_getElem z']; rfl
      exact ⟨_, rfl, _, rfl, _, _, _, _, rfl, rfl, hS, atI_nat e, q⟩
    · have z' : ¬ (j < ns.length) := fun y => z (decide_eq_true (by omega))
      have e : ns.getD j 0 = 0 := by rw [List.getD_eq_getElem?_getD, List.getElem?_eq_none (by omega)]; rfl
      rw [e] at q
      exact q
/-! ### _law_mix -/
abbrev n_mix : List Str := ["_law_cell", "_law_k", "_law_number_here"]
theorem sc_mix : FnScope ["_law_cell", "_law_k", "_law_number_here"] ["_law_cell", "_law_k"] (defScope s_mix) := ⟨rfl, rfl, rfl, by decide +kernel, rfl, by decide +kernel, by decide +kernel⟩
theorem ok_mix (T : Txt K mg a) : FnOk P w K mg base CX0 1 a.f_mix a.d_mix ["_law_cell", "_law_k"] (spMix) := by
  refine T.mix.F.ok sc_mix (fun vs H Q E h => ?_) (fun cdv A outer s H vs Q E hr h => ?_)
  · obtain ⟨c, k, rfl, q⟩ := h
    rfl
  · obtain ⟨c, k, rfl, q⟩ := h
    have hu := hu_of hr
    refine ⟨_, (pss_cons (ps_set (i := 2) sc_mix.nd rfl (Or.inl rfl) (pe_op (op_modc (c := 1000003) (by decide)) (pe_op (op_mulc (c := 48271) (by decide)) (pe_op op_add (pe_op op_add (pv 0) (pe_op (op_cmul (c := 7919) (by decide)) pe_int (pv 1))) pe_int) pe_int) pe_int))
      (pss_one (ps_ret (pe_op (op_modc (c := 999983) (by decide)) (pe_op op_mul (pv 2) (pv 2)) pe_int)))), ?_⟩
    refine ⟨_, rfl, _, rfl, _, rfl, rfl, _, _, rfl, rfl, _, _, rfl, rfl, _, rfl, rfl, _, rfl, rfl, _, rfl, _, rfl, _, _, rfl, rfl, .inl ⟨by omega, by omega⟩, _, rfl, rfl, ?_⟩
    exact q _ (Int.emod_nonneg _ (by decide)) (Int.emod_lt_of_pos _ (by decide))
/-! ### _law_big -/
abbrev n_big : List Str := ["_law_cell", "_law_k", "_law_number_here"]
theorem sc_big : FnScope ["_law_cell", "_law_k", "_law_number_here"] ["_law_cell", "_law_k"] (defScope s_big) := ⟨rfl, rfl, rfl, by decide +kernel, rfl, by decide +kernel, by decide +kernel⟩
theorem ok_big (T : Txt K mg a) : FnOk P w K mg base CX0 2 a.f_big a.d_big ["_law_cell", "_law_k"] (spBig) := by
  refine T.big.F.ok sc_big (fun vs H Q E h => ?_) (fun cdv A outer s H vs Q E hr h => ?_)
  · obtain ⟨c, k, rfl, q⟩ := h
    rfl
  · obtain ⟨c, k, rfl, q⟩ := h
    have hu := hu_of hr
    refine ⟨_, (pss_cons (ps_set (i := 2) sc_big.nd rfl (Or.inl rfl) (pe_cl (ok_mix T) T.mix (hr.mono (by decide)) (pa_cons (pv 0) (pa_cons (pv 1) pa_nil))))
      (pss_cons (ps_if (pt_cmpR op_eq (pe_op (op_modc (c := 4) (by decide)) (pe_cl (ok_mix T) T.mix (hr.mono (by decide)) (pa_cons (pv 0) (pa_cons (pe_op op_add (pv 1) pe_int) pa_nil))) pe_int) pe_int (nomark _)) (pss_one (ps_ret (pe_op (op_modc (c := 30) (by decide)) (pv 2) pe_int))) pss_nil)
      (pss_cons (ps_if (pt_cmpR op_eq (pe_op (op_modc (c := 4) (by decide)) (pe_cl (ok_mix T) T.mix (hr.mono (by decide)) (pa_cons (pv 0) (pa_cons (pe_op op_add (pv 1) pe_int) pa_nil))) pe_int) pe_int (nomark _)) (pss_one (ps_ret (pe_op (op_modc (c := 3000) (by decide)) (pv 2) pe_int))) pss_nil)
      (pss_cons (ps_if (pt_cmpR op_eq (pe_op (op_modc (c := 4) (by decide)) (pe_cl (ok_mix T) T.mix (hr.mono (by decide)) (pa_cons (pv 0) (pa_cons (pe_op op_add (pv 1) pe_int) pa_nil))) pe_int) pe_int (nomark _)) (pss_one (ps_ret (pe_ix (ixL K) (pe_lst (pa_cons pe_int (pa_cons pe_int (pa_cons pe_pow12 (pa_cons (pe_op op_sub pe_pow12 pe_int) pa_nil))))) (pe_op (op_modc (c := 4) (by decide)) (pv 2) pe_int) (fun _ _ => rfl)))) pss_nil)
      (pss_one (ps_ret (pe_op op_mod (pe_op op_add (pe_op (op_mulc (c := 1000003) (by decide)) (pv 2) pe_int) (pe_cl (ok_mix T) T.mix (hr.mono (by decide)) (pa_cons (pv 0) (pa_cons (pe_op op_add (pv 1) pe_int) pa_nil)))) (pe_op op_add pe_pow12 pe_int)))))))), ?_⟩
    refine ⟨_, rfl, _, rfl, _, _, rfl, fun m m0 m1 => ?_⟩
    refine ⟨_, rfl, _, rfl, _, _, rfl, rfl, _, _, rfl, fun x x0 x1 => ?_⟩
    refine ⟨_, rfl, rfl, rfl, _, rfl, ?_⟩
    refine ite2 (fun z => ?_) (fun z => ?_)
    · refine ⟨_, rfl, _, rfl, rfl, ?_⟩
      exact q _ H (by omega) (by omega) (Same.refl H)
    refine ⟨_, rfl, _, rfl, _, _, rfl, rfl, _, _, rfl, fun y y0 y1 => ?_⟩
    refine ⟨_, rfl, rfl, rfl, _, rfl, ?_⟩
    refine ite2 (fun z => ?_) (fun z => ?_)
    · refine ⟨_, rfl, _, rfl, rfl, ?_⟩
      exact q _ H (by omega) (by omega) (Same.refl H)
    refine ⟨_, rfl, _, rfl, _, _, rfl, rfl, _, _, rfl, fun u u0 u1 => ?_⟩
    refine ⟨_, rfl, rfl, rfl, _, rfl, ?_⟩
    refine ite2 (fun z => ?_) (fun z => ?_)
    · refine ⟨_, _, rfl, rfl, (by show 4 ≤ sizeLine; decide), fun p np => ?_⟩
      refine ⟨_, rfl, _, rfl, rfl, ?_⟩
      refine ix_int (fun j => 0 ≤ j ∧ j ≤ 1000000000000) SqL.here (Int.emod_nonneg _ (by decide)) (Int.emod_lt_of_pos _ (by decide)) (allc ⟨_, rfl, by decide⟩ (allc ⟨_, rfl, by decide⟩ (allc ⟨_, rfl, by decide⟩ (all1 ⟨_, rfl, by decide⟩)))) fun j hj => ?_
      exact q j _ hj.1 hj.2 (same_new np)
    refine ⟨_, rfl, _, rfl, rfl, _, rfl, _, rfl, _, _, rfl, rfl, _, _, rfl, fun v v0 v1 => ?_⟩
    refine ⟨_, _, rfl, rfl, _, _, rfl, rfl, _, _, rfl, rfl, (by show (0 : Int) < 1000000000000 + 1; decide), ?_⟩
    exact q _ H (Int.emod_nonneg _ (by decide)) (Int.le_of_lt_add_one (Int.emod_lt_of_pos _ (by decide))) (Same.refl H)
/-! ### _law_kind -/
abbrev n_kind : List Str := ["_law_e", "_law_kinds_here", "_law_words"]
theorem sc_kind : FnScope ["_law_e", "_law_kinds_here", "_law_words"] ["_law_e"] (defScope s_kind) := ⟨rfl, rfl, rfl, by decide +kernel, rfl, by decide +kernel, by decide +kernel⟩
--own
theorem ok_kind (T : Txt K mg a) : FnE P w K mg base 1 a.f_kind a.d_kind ["_law_e"] (spKind K a.cs a.c_StretchError) := by
  refine fnE_of T.kind.F sc_kind (fun a c vs H Q E h => ?_) (fun cdv A outer s H vs Q E p c hz hf hr h => ?_)
  · obtain ⟨D, j, _, rfl, _⟩ := h
    rfl
  · obtain ⟨D, j, rfl, rfl, C, q⟩ := h
    refine ⟨_, (pss_cons (ps_set (i := 1) sc_kind.nd rfl (Or.inl rfl) (pe_lst (pa_cons (pe_callB (call_isP C.ex List.mem_cons_self hz hf) (by rfl) T.b_isinstance (by decide +kernel) (pa_cons (pv 0) (pa_cons (pe_gref T.BadName.g) pa_nil))) (pa_cons (pe_callB (call_isP C.ex List.mem_cons_self hz hf) (by rfl) T.b_isinstance (by decide +kernel) (pa_cons (pv 0) (pa_cons (pe_gref T.BadLetter.g) pa_nil))) (pa_cons (pe_callB (call_isP C.ex List.mem_cons_self hz hf) (by rfl) T.b_isinstance (by decide +kernel) (pa_cons (pv 0) (pa_cons (pe_gref T.BadOff.g) pa_nil))) (pa_cons (pe_callB (call_isP C.ex List.mem_cons_self hz hf) (by rfl) T.b_isinstance (by decide +kernel) (pa_cons (pv 0) (pa_cons (pe_gref T.TooEarly.g) pa_nil))) pa_nil))))))
      (pss_cons (ps_set (i := 1) sc_kind.nd rfl (Or.inl rfl) (pe_op op_cat (pv 1) (pe_lst (pa_cons (pe_callB (call_isP C.ex List.mem_cons_self hz hf) (by rfl) T.b_isinstance (by decide +kernel) (pa_cons (pv 0) (pa_cons (pe_gref T.BadCount.g) pa_nil))) (pa_cons (pe_callB (call_isP C.ex List.mem_cons_self hz hf) (by rfl) T.b_isinstance (by decide +kernel) (pa_cons (pv 0) (pa_cons (pe_gref T.NoAgreement.g) pa_nil))) (pa_cons (pe_callB (call_isP C.ex List.mem_cons_self hz hf) (by rfl) T.b_isinstance (by decide +kernel) (pa_cons (pv 0) (pa_cons (pe_gref T.TooWide.g) pa_nil))) pa_nil))))))
      (pss_cons (ps_set (i := 1) sc_kind.nd rfl (Or.inl rfl) (pe_op op_cat (pv 1) (pe_lst (pa_cons (pe_callB (call_isP C.ex List.mem_cons_self hz hf) (by rfl) T.b_isinstance (by decide +kernel) (pa_cons (pv 0) (pa_cons (pe_gref T.TooMany.g) pa_nil))) (pa_cons (pe_callB (call_isP C.ex List.mem_cons_self hz hf) (by rfl) T.b_isinstance (by decide +kernel) (pa_cons (pv 0) (pa_cons (pe_gref T.NoClock.g) pa_nil))) (pa_cons (pe_callB (call_isP C.ex List.mem_cons_self hz hf) (by rfl) T.b_isinstance (by decide +kernel) (pa_cons (pv 0) (pa_cons (pe_gref T.NoText.g) pa_nil))) pa_nil))))))
      (pss_cons (ps_if (PW.pt (pw_or (pt_cmpR op_ne (pe_bm PySem.F.plainAttrs_list PySem.F.slot_list_count PySem.F.type_list_count mt_count (pv 1) (pa_cons pe_bl pa_nil)) pe_int (nomark _)) (pw_or1 (pt_not (pt_val (pe_callB (call_isP C.ex List.mem_cons_self hz hf) (by rfl) T.b_isinstance (by decide +kernel) (pa_cons (pv 0) (pa_cons (pe_bty (n := "ValueError") T.b_ValueError (by decide +kernel)) pa_nil)))))))) (pss_one (ps_ret pe_str)) pss_nil)
      (pss_cons (ps_set (i := 2) sc_kind.nd rfl (Or.inl rfl) (pe_lst (pa_cons pe_str (pa_cons pe_str (pa_cons pe_str (pa_cons pe_str (pa_cons pe_str (pa_cons pe_str (pa_cons pe_str (pa_cons pe_str (pa_cons pe_str (pa_cons pe_str pa_nil))))))))))))
      (pss_one (ps_ret (pe_ix (ixL K) (pv 2) (pe_bm PySem.F.plainAttrs_list PySem.F.slot_list_index PySem.F.type_list_index mt_index (pv 1) (pa_cons pe_bl pa_nil)) (fun _ _ => rfl))))))))), ?_⟩
    refine ⟨_, rfl, _, _, _, rfl, (fun _ z => z), C.bit 0 _ rfl, _, rfl, _, _, _, rfl, (fun _ z => z), C.bit 1 _ rfl, _, rfl, _, _, _, rfl, (fun _ z => z), C.bit 2 _ rfl, _, rfl, _, _, _, rfl, (fun _ z => z), C.bit 3 _ rfl, (by show 4 ≤ sizeLine; decide), fun p1 n1 => ?_⟩
    refine ⟨_, rfl, _, rfl, _, _, _, rfl, (fun _ z => z), C.bit 4 _ rfl, _, rfl, _, _, _, rfl, (fun _ z => z), C.bit 5 _ rfl, _, rfl, _, _, _, rfl, (fun _ z => z), C.bit 6 _ rfl, (by show 3 ≤ sizeLine; decide), fun p2 n2 => ?_⟩
    refine ⟨_, _, _, _, rfl, rfl, (upd_ne (ne_of_none upd_same n2)).trans upd_same, upd_same, (by show 7 ≤ sizeLine; decide), fun p3 n3 => ?_⟩
    refine ⟨_, rfl, _, rfl, _, _, _, rfl, (fun _ z => z), C.bit 7 _ rfl, _, rfl, _, _, _, rfl, (fun _ z => z), C.bit 8 _ rfl, _, rfl, _, _, _, rfl, (fun _ z => z), C.bit 9 _ rfl, (by show 3 ≤ sizeLine; decide), fun p4 n4 => ?_⟩
    refine ⟨_, _, _, _, rfl, rfl, (upd_ne (ne_of_none upd_same n4)).trans upd_same, upd_same, (by show 10 ≤ sizeLine; decide), fun p5 n5 => ?_⟩
    refine ⟨_, rfl, .inl ⟨rfl, _, SqL.here⟩, _, kbits j, _, rfl, rfl, SqL.here, rfl, kbits_flat j, rfl, _, rfl, ?_⟩
    refine iteNS (by rw [kbits_count C.lt]; rfl) ?_
    refine ⟨_, rfl, _, _, _, rfl, (fun _ z => z), C.ve, _, rfl, ?_⟩
    refine iteF ?_
    refine ⟨(by show 10 ≤ sizeLine; decide), fun p6 n6 => ?_⟩
    refine ⟨_, rfl, _, rfl, ?_⟩
    have ne56 : p5 ≠ p6 := ne_of_none upd_same n6
    refine ⟨.inl ⟨rfl, _, SqL.of ((upd_ne ne56).trans upd_same)⟩, _, kbits j, _, j, _, rfl, rfl, SqL.of ((upd_ne ne56).trans upd_same), rfl, kbits_flat j, kbits_at C.lt, rfl, kbits_no C.lt, ?_⟩
    refine ⟨_, kwords.map V.str, _, _, rfl, rfl, SqL.here, kword_at C.lt, ?_⟩
    refine q _ ?_
    exact ((((((same_new n1).trans (same_new n2)).trans (same_new n3)).trans (same_new n4)).trans (same_new n5)).trans (same_new n6))

/-! ### _law_word -/
abbrev n_word : List Str := ["_law_cell", "_law_size", "_law_word_here", "_law_k"]
theorem sc_word : FnScope ["_law_cell", "_law_size", "_law_word_here", "_law_k"] ["_law_cell", "_law_size"] (defScope s_word) := ⟨rfl, rfl, rfl, by decide +kernel, rfl, by decide +kernel, by decide +kernel⟩
theorem ok_word (T : Txt K mg a) : FnOk P w K mg base CX0 2 a.f_word a.d_word ["_law_cell", "_law_size"] (spWord) := by
  refine T.word.F.ok sc_word (fun vs H Q E h => ?_) (fun cdv A outer s H vs Q E hr h => ?_)
  · obtain ⟨c, n, rfl, n0, n1, q⟩ := h
    rfl
  · obtain ⟨c, n, rfl, n0, n1, q⟩ := h
    have hu := hu_of hr
    refine ⟨_, (pss_cons (ps_set (i := 2) sc_word.nd rfl (Or.inl rfl) (pe_strC (l := []) (by decide +kernel)))
      (pss_cons (ps_for PassesOwn.never rfl (pi_range1 rfl T.b_range (pa_cons (pv 1) pa_nil)) (pg_name (i := 3) sc_word.nd rfl (Or.inl rfl)) (pss_one (ps_set (i := 2) sc_word.nd rfl (Or.inl rfl) (pe_op op_addC (pv 2) (pe_ix ix_C (pe_strC (l := [97, 98, 99, 100, 101, 102, 103, 104, 105, 106, 107, 108, 109, 110, 111, 112, 113, 114, 115, 116, 117, 118, 119, 120, 121, 122]) (by decide +kernel)) (pe_op (op_modc (c := 26) (by decide)) (pe_cl (ok_mix T) T.mix (hr.mono (by decide)) (pa_cons (pv 0) (pa_cons (pe_op op_add (pv 3) pe_int) pa_nil))) pe_int) (fun _ _ => rfl))))))
      (pss_one (ps_ret (pv 2))))), ?_⟩
    refine ⟨_, rfl, n, rfl, by omega, by omega, for_range (lo := 0) (n := n.toNat) (fun i σ H' => H = H' ∧ ∃ (z : List Nat) (v : Option V), σ = [some (.int c), some (.int n), some (.str (mkS z)), v] ∧ z.length = i ∧ low z)
      ⟨rfl, [], none, rfl, rfl, fun _ h => nomatch h⟩ ?_ ?_⟩
    · rintro i σ H' hi ⟨rfl, z, v, rfl, hz, lz⟩
      refine ⟨_, rfl, _, rfl, _, rfl, _, _, rfl, rfl, _, _, rfl, fun m m0 m1 => ?_⟩
      obtain ⟨j, hj⟩ := Int.eq_ofNat_of_zero_le (Int.emod_nonneg m (by decide : (26 : Int) ≠ 0))
      have hj26 : j < 26 := by omega
      refine ⟨_, rfl, rfl, _, j, 97 + j, rfl, by dsimp only; rw [hj], by decide, alphaL hj26, ?_⟩
      refine ⟨_, _, rfl, rfl, by rw [hz]; show i + 1 ≤ 1000000; omega, ?_⟩
      refine ⟨rfl, z ++ [97 + j], some (.int (0 + (i : Int))), rfl, by rw [List.length_append, hz]; rfl, fun ch hc => ?_⟩
      rcases List.mem_append.mp hc with h | h
      · exact lz ch h
      · rw [List.mem_singleton] at h
        omega
    · rintro σ H' ⟨rfl, z, v, rfl, hz, lz⟩
      exact ⟨_, rfl, q z (by omega) lz⟩
/-! ### _law_names -/
abbrev n_names : List Str := ["_law_cell", "_law_base", "_law_at", "_law_signs", "_law_k"]
theorem sc_names : FnScope ["_law_cell", "_law_base", "_law_at", "_law_signs", "_law_k"] ["_law_cell"] (defScope s_names) := ⟨rfl, rfl, rfl, by decide +kernel, rfl, by decide +kernel, by decide +kernel⟩
theorem ok_names (T : Txt K mg a) : FnOk P w K mg base CX0 3 a.f_names a.d_names ["_law_cell"] (spNames) := by
  refine T.names.F.ok sc_names (fun vs H Q E h => ?_) (fun cdv A outer s H vs Q E hr h => ?_)
  · obtain ⟨c, rfl, q⟩ := h
    rfl
  · obtain ⟨c, rfl, q⟩ := h
    have hu := hu_of hr
    refine ⟨_, (pss_cons (ps_set (i := 1) sc_names.nd rfl (Or.inr rfl) (pe_cl (ok_word T) T.word (hr.mono (by decide)) (pa_cons (pv 0) (pa_cons (pe_op (op_modc (c := 11) (by decide)) (pv 0) pe_int) pa_nil))))
      (pss_cons (ps_set (i := 2) sc_names.nd rfl (Or.inr rfl) (pe_op (op_modc (c := 11) (by decide)) (pe_cl (ok_mix T) T.mix (hr.mono (by decide)) (pa_cons (pv 0) (pa_cons pe_int pa_nil))) pe_int))
      (pss_cons (ps_set (i := 3) sc_names.nd rfl (Or.inr rfl) (pe_strC (l := [97, 98, 99, 100, 101, 102, 103, 104, 105, 106, 107, 108, 109, 110, 111, 112, 113, 114, 115, 116, 117, 118, 119, 120, 121, 122]) (by decide +kernel)))
      (pss_one (ps_ret (pe_lc (own := [("_law_k", 4)]) (g := gName 4) (tt := tYes) rfl sc_names.nd (pi_range1 rfl T.b_range (pa_cons pe_int pa_nil)) (blkOk_by (N := n_names) (sc := defScope s_names) (by decide +kernel)) (fun _ _ _ _ _ => pg_name (i := 4) sc_names.nd rfl (Or.inl rfl)) (fun _ _ _ _ _ => pts_nil) (fun _ _ _ _ _ => (pe_op op_addC (pe_op op_addC (pe_op op_addC (pe_slice sl_to (pv 1) po_none (po_some (pv 2))) (pe_ix ix_C (pv 3) (pe_op (op_modc (c := 26) (by decide)) (pv 4) pe_int) (fun _ _ => rfl))) (pe_ix (ixL K) (pe_lst (pa_cons (pe_strC (l := []) (by decide +kernel)) (pa_cons (pe_strC (l := [122]) (by decide +kernel)) pa_nil))) (pe_op (op_divc (c := 26) (by decide) (by decide)) (pv 4) pe_int) (fun _ _ => rfl))) (pe_slice sl_from (pv 1) (po_some (pv 2)) po_none))))))))), ?_⟩
    refine ⟨_, rfl, _, rfl, _, rfl, rfl, _, _, rfl, Int.emod_nonneg _ (by decide), by omega, fun b hb lb => ?_⟩
    refine ⟨_, rfl, _, _, rfl, fun m m0 m1 => ?_⟩
    refine ⟨_, rfl, rfl, ?_⟩
    have hb10 : b.length ≤ 10 := by omega
    obtain ⟨j, hj⟩ := Int.eq_ofNat_of_zero_le (Int.emod_nonneg m (by decide : (11 : Int) ≠ 0))
    dsimp only [gName]
    rw [hj]
    have hj10 : j ≤ 10 := by omega
    refine ⟨42, rfl, by decide, by decide, fun D nD => lc_range (lo := 0) (n := 42) (fun i H' => Same H H' ∧ H' D = some (.lst (txs ((List.range i).map (nmL b j))))) ⟨same_new nD, upd_same⟩ ?_ ?_⟩
    · rintro i H' hi ⟨s1, eD⟩
      refine ⟨rfl, ?_⟩
      refine ⟨_, rfl, _, rfl, _, rfl, b, j, rfl, rfl, rfl, by omega, ?_⟩
      have e1 : (0 + (i : Int)) % 26 = ((i % 26 : Nat) : Int) := by omega
      refine ⟨_, rfl, _, rfl, _, rfl, rfl, _, i % 26, 97 + i % 26, rfl, by dsimp only; rw [e1], by decide, alphaL (Nat.mod_lt _ (by decide)), ?_⟩
      refine ⟨_, _, rfl, rfl, by rw [List.length_take]; show min j b.length + 1 ≤ 1000000; omega, ?_⟩
      refine ⟨(by show 2 ≤ sizeLine; decide), fun p np => ?_⟩
      refine ⟨_, rfl, _, rfl, rfl, ?_⟩
      have nDp : D ≠ p := ne_of_none eD np
      have e2 : atI [V.str (mkS []), V.str (mkS [122])] ((0 + (i : Int)) / 26) = some (.str (mkS (if i < 26 then [] else [122]))) := by
        by_cases h : i < 26
        · have e3 : (0 + (i : Int)) / 26 = ((0 : Nat) : Int) := by omega
          rw [e3, if_pos h]
          exact atI_nat (j := 0) rfl
        · have e3 : (0 + (i : Int)) / 26 = ((1 : Nat) : Int) := by omega
          rw [e3, if_neg h]
          exact atI_nat (j := 1) rfl
      refine ⟨p, _, _, _, rfl, rfl, SqL.here, e2, ?_⟩
      refine ⟨_, _, rfl, rfl, by rw [List.length_append, List.length_take]; split <;> simp <;> omega, ?_⟩
      refine ⟨_, rfl, _, rfl, _, rfl, b, j, rfl, rfl, rfl, by omega, ?_⟩
      refine ⟨_, _, rfl, rfl, by rw [List.length_append, List.length_append, List.length_take, List.length_drop]; split <;> simp <;> omega, ?_⟩
      refine ⟨_, (upd_ne nDp).trans eD, by unfold txs; rw [List.length_map, List.length_map, List.length_range]; exact Nat.lt_trans hi (by decide), Same.mut (s1.trans (same_new np)) nD, upd_same.trans ?_⟩
      rw [List.range_succ, List.map_append]
      unfold txs
      rw [List.map_append]
      rfl
    · rintro H' ⟨s1, eD⟩
      refine q D _ H' ?_ (nmList_nodup b j) (fun z hz => ?_) s1 eD
      · unfold nmList; rw [List.length_map, List.length_range]
      · obtain ⟨k, hk, rfl⟩ := List.mem_map.mp hz
        exact nmL_ok hb10 lb (List.mem_range.mp hk)
/-! ### _law_letter -/
abbrev n_letter : List Str := ["_law_cell", "_law_names_here", "_law_many", "_law_place", "_law_sent", "_law_back", "_law_near", "_law_low", "_law_high"]
theorem sc_letter : FnScope ["_law_cell", "_law_names_here", "_law_many", "_law_place", "_law_sent", "_law_back", "_law_near", "_law_low", "_law_high"] ["_law_cell", "_law_names_here", "_law_many"] (defScope s_letter) := ⟨rfl, rfl, rfl, by decide +kernel, rfl, by decide +kernel, by decide +kernel⟩
theorem ok_letter (T : Txt K mg a) : FnOk P w K mg base CX0 3 a.f_letter a.d_letter ["_law_cell", "_law_names_here", "_law_many"] (spLetter K) := by
  refine T.letter.F.ok sc_letter (fun vs H Q E h => ?_) (fun cdv A outer s H vs Q E hr h => ?_)
  · obtain ⟨c, m, np', xs, rfl, hN, hl, hok, m0, m1, q⟩ := h
    rfl
  · obtain ⟨c, m, np', xs, rfl, hN, hl, hok, m0, m1, q⟩ := h
    have hu := hu_of hr
    refine ⟨_, (pss_cons (ps_set (i := 3) sc_letter.nd rfl (Or.inl rfl) (pe_op op_mod (pe_cl (ok_mix T) T.mix (hr.mono (by decide)) (pa_cons (pv 0) (pa_cons pe_int pa_nil))) (pv 2)))
      (pss_cons (ps_set (i := 4) sc_letter.nd rfl (Or.inl rfl) (pe_op (op_modc (c := 1000) (by decide)) (pe_cl (ok_mix T) T.mix (hr.mono (by decide)) (pa_cons (pv 0) (pa_cons pe_int pa_nil))) pe_int))
      (pss_cons (ps_set (i := 5) sc_letter.nd rfl (Or.inl rfl) (pe_op op_add (pv 4) (pe_op op_mod (pe_cl (ok_mix T) T.mix (hr.mono (by decide)) (pa_cons (pv 0) (pa_cons pe_int pa_nil))) (pe_ix (ixL K) (pe_lst (pa_cons pe_int (pa_cons pe_int (pa_cons pe_int pa_nil)))) (pe_op (op_modc (c := 3) (by decide)) (pe_cl (ok_mix T) T.mix (hr.mono (by decide)) (pa_cons (pv 0) (pa_cons pe_int pa_nil))) pe_int) (fun _ _ => rfl)))))
      (pss_cons (ps_set (i := 6) sc_letter.nd rfl (Or.inl rfl) (pe_op op_add (pe_op op_add pe_int (pv 4)) (pe_ix (ixL K) (pe_lst (pa_cons pe_int (pa_cons pe_int (pa_cons pe_int (pa_cons pe_int (pa_cons pe_int (pa_cons pe_int (pa_cons pe_int pa_nil)))))))) (pe_op (op_modc (c := 7) (by decide)) (pv 3) pe_int) (fun _ _ => rfl))))
      (pss_cons (ps_set (i := 7) sc_letter.nd rfl (Or.inl rfl) (pe_op op_sub (pe_op op_add (pv 6) (pe_op (op_modc (c := 80) (by decide)) (pe_cl (ok_mix T) T.mix (hr.mono (by decide)) (pa_cons (pv 0) (pa_cons pe_int pa_nil))) pe_int)) pe_int))
      (pss_cons (ps_set (i := 8) sc_letter.nd rfl (Or.inl rfl) (pe_op op_add (pv 6) (pe_op (op_modc (c := 100) (by decide)) (pe_cl (ok_mix T) T.mix (hr.mono (by decide)) (pa_cons (pv 0) (pa_cons pe_int pa_nil))) pe_int)))
      (pss_cons (ps_if (pt_cmpR op_eq (pe_op (op_modc (c := 2) (by decide)) (pe_cl (ok_mix T) T.mix (hr.mono (by decide)) (pa_cons (pv 0) (pa_cons pe_int pa_nil))) pe_int) pe_int (nomark _)) (pss_cons (ps_set (i := 5) sc_letter.nd rfl (Or.inl rfl) (pv 4))
      (pss_cons (ps_set (i := 7) sc_letter.nd rfl (Or.inl rfl) (pe_op op_add (pv 6) (pe_op (op_mulc (c := 10) (by decide)) (pe_op (op_modc (c := 6) (by decide)) (pe_cl (ok_mix T) T.mix (hr.mono (by decide)) (pa_cons (pv 0) (pa_cons pe_int pa_nil))) pe_int) pe_int)))
      (pss_one (ps_set (i := 8) sc_letter.nd rfl (Or.inl rfl) (pe_op op_add (pv 7) (pe_op (op_mulc (c := 10) (by decide)) (pe_op (op_modc (c := 4) (by decide)) (pe_cl (ok_mix T) T.mix (hr.mono (by decide)) (pa_cons (pv 0) (pa_cons pe_int pa_nil))) pe_int) pe_int)))))) pss_nil)
      (pss_cons (ps_asg (pe_callB (sortK K) (by rfl) T.b_sorted (by decide +kernel) (pa_cons (pe_lst (pa_cons (pv 7) (pa_cons (pv 8) pa_nil))) pa_nil)) (pg_unl (by rfl) (pgs_cons (pg_name (i := 7) sc_letter.nd rfl (Or.inl rfl)) (pgs_cons (pg_name (i := 8) sc_letter.nd rfl (Or.inl rfl)) pgs_nil))))
      (pss_cons (ps_if (pt_cmpR op_eq (pe_op (op_modc (c := 9) (by decide)) (pe_cl (ok_mix T) T.mix (hr.mono (by decide)) (pa_cons (pv 0) (pa_cons pe_int pa_nil))) pe_int) pe_int (nomark _)) (pss_one (ps_asg (pe_callB (sortK K) (by rfl) T.b_sorted (by decide +kernel) (pa_cons (pe_lst (pa_cons (pe_cl (ok_big T) T.big (hr.mono (by decide)) (pa_cons (pv 0) (pa_cons pe_int pa_nil))) (pa_cons (pe_cl (ok_big T) T.big (hr.mono (by decide)) (pa_cons (pv 0) (pa_cons pe_int pa_nil))) pa_nil))) pa_nil)) (pg_unl (by rfl) (pgs_cons (pg_name (i := 7) sc_letter.nd rfl (Or.inl rfl)) (pgs_cons (pg_name (i := 8) sc_letter.nd rfl (Or.inl rfl)) pgs_nil))))) pss_nil)
      (pss_cons (ps_if (pt_cmpR op_eq (pe_op (op_modc (c := 9) (by decide)) (pe_cl (ok_mix T) T.mix (hr.mono (by decide)) (pa_cons (pv 0) (pa_cons pe_int pa_nil))) pe_int) pe_int (nomark _)) (pss_one (ps_asg (pe_callB (sortK K) (by rfl) T.b_sorted (by decide +kernel) (pa_cons (pe_lst (pa_cons (pe_cl (ok_big T) T.big (hr.mono (by decide)) (pa_cons (pv 0) (pa_cons pe_int pa_nil))) (pa_cons (pe_cl (ok_big T) T.big (hr.mono (by decide)) (pa_cons (pv 0) (pa_cons pe_int pa_nil))) pa_nil))) pa_nil)) (pg_unl (by rfl) (pgs_cons (pg_name (i := 4) sc_letter.nd rfl (Or.inl rfl)) (pgs_cons (pg_name (i := 5) sc_letter.nd rfl (Or.inl rfl)) pgs_nil))))) pss_nil)
      (pss_one (ps_ret (pe_tup (pa_cons (pe_ix (ixL K) (pv 1) (pv 3) (fun _ _ => rfl)) (pa_cons (pv 4) (pa_cons (pv 5) (pa_cons (pv 7) (pa_cons (pv 8) pa_nil)))))))))))))))))), ?_⟩
    refine ⟨_, rfl, _, _, rfl, fun a a0 a1 => ?_⟩
    refine ⟨_, rfl, _, _, rfl, rfl, (by show 0 < m; omega), ?_⟩
    have pl0 := Int.emod_nonneg a (show m ≠ 0 by omega)
    have pl1 := Int.emod_lt_of_pos a (show 0 < m by omega)
    dsimp only [gName]
    generalize a % m = pl at pl0 pl1 ⊢
    refine ⟨_, rfl, _, _, rfl, fun b b0 b1 => ?_⟩
    refine ⟨_, rfl, rfl, ?_⟩
    dsimp only [gName]
    have sn0 : 0 ≤ b % 1000 := by omega
    have sn1 : b % 1000 < 1000 := by omega
    generalize b % 1000 = sn at sn0 sn1 ⊢
    -- back
    refine ⟨_, rfl, _, rfl, _, _, rfl, fun d d0 d1 => ?_⟩
    refine ⟨(by show 3 ≤ sizeLine; decide), fun p1 n1 => ?_⟩
    refine ⟨_, rfl, _, _, rfl, fun e e0 e1 => ?_⟩
    refine ⟨_, rfl, rfl, ?_⟩
    refine ix_int (fun j => 1 ≤ j ∧ j ≤ 60) SqL.here (Int.emod_nonneg _ (by decide)) (Int.emod_lt_of_pos _ (by decide)) (allc ⟨_, rfl, by decide⟩ (allc ⟨_, rfl, by decide⟩ (all1 ⟨_, rfl, by decide⟩))) fun w hw => ?_
    refine ⟨_, _, rfl, rfl, (by show 0 < w; omega), ?_⟩
    have dw0 := Int.emod_nonneg d (show w ≠ 0 by omega)
    have dw1 := Int.emod_lt_of_pos d (show 0 < w by omega)
    refine ⟨_, _, rfl, rfl, ?_⟩
    dsimp only [gName]
    generalize d % w = dw at dw0 dw1 ⊢
    -- near
    refine ⟨_, rfl, _, _, rfl, rfl, (by show 7 ≤ sizeLine; decide), fun p2 n2 => ?_⟩
    refine ⟨_, rfl, _, rfl, rfl, ?_⟩
    refine ix_int (fun j => 0 ≤ j ∧ j ≤ 600) SqL.here (Int.emod_nonneg _ (by decide)) (Int.emod_lt_of_pos _ (by decide)) (allc ⟨_, rfl, by decide⟩ (allc ⟨_, rfl, by decide⟩ (allc ⟨_, rfl, by decide⟩ (allc ⟨_, rfl, by decide⟩ (allc ⟨_, rfl, by decide⟩ (allc ⟨_, rfl, by decide⟩ (all1 ⟨_, rfl, by decide⟩))))))) fun nr hnr => ?_
    refine ⟨_, _, rfl, rfl, ?_⟩
    dsimp only [gName]
    have nb0 : 500000 ≤ 500000 + sn + nr := by omega
    have nb1 : 500000 + sn + nr ≤ 502000 := by omega
    generalize 500000 + sn + nr = near at nb0 nb1 ⊢
    generalize hHb : upd _ p2 _ = Hb
    obtain ⟨sb', _⟩ := gen_new hHb n2
    clear hHb
    have sHb : Same H Hb := (same_new n1).trans sb'
    -- low, high
    refine ⟨_, rfl, _, rfl, _, _, rfl, fun f f0 f1 => ?_⟩
    refine ⟨_, rfl, rfl, _, _, rfl, rfl, _, _, rfl, rfl, ?_⟩
    refine ⟨_, rfl, _, rfl, _, _, rfl, fun g g0 g1 => ?_⟩
    refine ⟨_, rfl, rfl, _, _, rfl, rfl, ?_⟩
    dsimp only [gName]
    have lw0 : 0 ≤ near + f % 80 - 40 ∧ near + f % 80 - 40 ≤ 1000000 := by omega
    have hw0 : 0 ≤ near + g % 100 ∧ near + g % 100 ≤ 1000000 := by omega
    generalize near + f % 80 - 40 = lw at lw0 ⊢
    generalize near + g % 100 = hw at hw0 ⊢
    -- sworn at once
    refine seq_cut (fun σ' H' => ∃ (bk lo hi : Int), sn ≤ bk ∧ bk ≤ 1100 ∧ 0 ≤ lo ∧ lo ≤ 1000000 ∧ 0 ≤ hi ∧ hi ≤ 1000000 ∧ Hb = H' ∧ σ' = [some (.int c), some (.ref np'), some (.int m), some (.int pl), some (.int sn), some (.int bk), some (.int near), some (.int lo), some (.int hi)]) (fun N hN => ?_) ?_
    · refine ⟨_, rfl, _, _, rfl, fun h h0 h1 => ?_⟩
      refine ⟨_, rfl, rfl, rfl, _, rfl, ?_⟩
      refine ite_eq (fun z => ?_) (fun z => ?_)
      · refine ⟨_, rfl, ?_⟩
        refine ⟨_, rfl, _, rfl, _, _, rfl, fun i i0 i1 => ?_⟩
        refine ⟨_, rfl, rfl, _, rfl, rfl, _, _, rfl, rfl, ?_⟩
        refine ⟨_, rfl, _, rfl, _, _, rfl, fun j j0 j1 => ?_⟩
        refine ⟨_, rfl, rfl, _, rfl, rfl, _, _, rfl, rfl, ?_⟩
        exact hN _ _ ⟨sn, near + i % 6 * 10, near + i % 6 * 10 + j % 4 * 10, by omega, by omega, by omega, by omega, by omega, by omega, rfl, rfl⟩
      · exact hN _ _ ⟨sn + dw, lw, hw, by omega, by omega, by omega, by omega, by omega, by omega, rfl, rfl⟩
    rintro σ' H1 ⟨bk, lo0, hi0, hb0, hb1, l0, l1, h0, h1, rfl, rfl⟩
    refine ⟨_, rfl, _, rfl, (by show 2 ≤ sizeLine; decide), fun p3 n3 => ?_⟩
    refine ⟨_, [lo0, hi0], rfl, SqL.here, (by show 2 < 64; decide), fun ns1 p4 hp1 hs1 n4 => ?_⟩
    obtain ⟨lo1, hi1, rfl, lh, lhx⟩ := perm2 hp1 hs1
    refine ⟨p4, _, rfl, SqL.here, rfl, _, _, rfl, _, _, rfl, rfl, ?_⟩
    dsimp only [gName]
    generalize hHc : upd _ p4 _ = Hc
    obtain ⟨sc', _⟩ := gen_new hHc n4
    clear hHc
    have sHc : Same H Hc := (sHb.trans (same_new n3)).trans sc'
    -- far times
    refine seq_cut (fun σ' H' => ∃ (lo hi : Int), 0 ≤ lo ∧ lo ≤ hi ∧ hi ≤ 1000000000000 ∧ Same Hc H' ∧ σ' = [some (.int c), some (.ref np'), some (.int m), some (.int pl), some (.int sn), some (.int bk), some (.int near), some (.int lo), some (.int hi)]) (fun N hN => ?_) ?_
    · refine ⟨_, rfl, _, _, rfl, fun h h0 h1 => ?_⟩
      refine ⟨_, rfl, rfl, rfl, _, rfl, ?_⟩
      refine ite_eq (fun z => ?_) (fun z => ?_)
      · refine ⟨_, rfl, _, _, rfl, fun i Hd i0 i1 sd => ?_⟩
        refine ⟨_, rfl, _, _, rfl, fun j He j0 j1 se => ?_⟩
        refine ⟨(by show 2 ≤ sizeLine; decide), fun p5 n5 => ?_⟩
        refine ⟨_, [i, j], rfl, SqL.here, (by show 2 < 64; decide), fun ns2 p6 hp2 hs2 n6 => ?_⟩
        obtain ⟨lo2, hi2, rfl, lh2, lhx2⟩ := perm2 hp2 hs2
        refine ⟨p6, _, rfl, SqL.here, rfl, _, _, rfl, _, _, rfl, rfl, ?_⟩
        exact hN _ _ ⟨lo2, hi2, by omega, by omega, by omega, ((sd.trans se).trans (same_new n5)).trans (same_new n6), rfl⟩
      · exact hN _ _ ⟨lo1, hi1, by omega, by omega, by omega, Same.refl _, rfl⟩
    rintro σ' H2 ⟨lo, hi, l2, l3, l4, s2, rfl⟩
    -- far counts
    refine seq_cut (fun σ' H' => ∃ (s' b' : Int), 0 ≤ s' ∧ s' ≤ b' ∧ b' ≤ 1000000000000 ∧ Same H2 H' ∧ σ' = [some (.int c), some (.ref np'), some (.int m), some (.int pl), some (.int s'), some (.int b'), some (.int near), some (.int lo), some (.int hi)]) (fun N hN => ?_) ?_
    · refine ⟨_, rfl, _, _, rfl, fun h h0 h1 => ?_⟩
      refine ⟨_, rfl, rfl, rfl, _, rfl, ?_⟩
      refine ite_eq (fun z => ?_) (fun z => ?_)
      · refine ⟨_, rfl, _, _, rfl, fun i Hd i0 i1 sd => ?_⟩
        refine ⟨_, rfl, _, _, rfl, fun j He j0 j1 se => ?_⟩
        refine ⟨(by show 2 ≤ sizeLine; decide), fun p5 n5 => ?_⟩
        refine ⟨_, [i, j], rfl, SqL.here, (by show 2 < 64; decide), fun ns2 p6 hp2 hs2 n6 => ?_⟩
        obtain ⟨lo2, hi2, rfl, lh2, lhx2⟩ := perm2 hp2 hs2
        refine ⟨p6, _, rfl, SqL.here, rfl, _, _, rfl, _, _, rfl, rfl, ?_⟩
        exact hN _ _ ⟨lo2, hi2, by omega, by omega, by omega, ((sd.trans se).trans (same_new n5)).trans (same_new n6), rfl⟩
      · exact hN _ _ ⟨sn, bk, by omega, by omega, by omega, Same.refl _, rfl⟩
    rintro σ' H3 ⟨sf, bf, s4, s5, s6, s7, rfl⟩
    have sH3 : Same H H3 := (sHc.trans s2).trans s7
    obtain ⟨nm, hnm, hat⟩ := txs_at (ls := xs) pl0 (by rw [hl]; omega)
    refine ⟨_, rfl, _, rfl, _, _, _, _, rfl, rfl, sH3.seq hN, hat, ?_⟩
    refine ⟨_, rfl, _, rfl, _, rfl, _, rfl, (by show 5 ≤ sizeLine; decide), fun t nt => ?_⟩
    exact q ⟨nm, sf, bf, lo, hi⟩ t _ ⟨hok nm hnm, s4, s5, s6, l2, l3, l4⟩ hnm (sH3.trans (same_new nt)) upd_same
/-! ### _law_sign -/
abbrev n_sign : List Str := ["_law_cell", "_law_signs"]
theorem sc_sign : FnScope ["_law_cell", "_law_signs"] ["_law_cell"] (defScope s_sign) := ⟨rfl, rfl, rfl, by decide +kernel, rfl, by decide +kernel, by decide +kernel⟩
theorem ok_sign (T : Txt K mg a) : FnOk P w K mg base CX0 1 a.f_sign a.d_sign ["_law_cell"] (spSign) := by
  refine T.sign.F.ok sc_sign (fun vs H Q E h => ?_) (fun cdv A outer s H vs Q E hr h => ?_)
  · obtain ⟨c, rfl, q⟩ := h
    rfl
  · obtain ⟨c, rfl, q⟩ := h
    have hu := hu_of hr
    refine ⟨_, (pss_cons (ps_set (i := 1) sc_sign.nd rfl (Or.inl rfl) pe_str)
      (pss_cons (ps_set (i := 1) sc_sign.nd rfl (Or.inl rfl) (pe_op op_add_str (pv 1) pe_str))
      (pss_one (ps_ret (pe_ix ix_str (pv 1) (pe_op op_mod (pv 0) (pe_callB call_len_str (by rfl) T.b_len boot_len (pa_cons (pv 1) pa_nil))) (fun _ _ => rfl)))))), ?_⟩
    refine ⟨_, rfl, _, _, rfl, rfl, (by decide +kernel), ?_⟩
    have al : (Str.ofString " !\"#$&'()*+,-./0123456789:;<=>?@ABCDEFGHIJKLMNOPQRSTUVWXYZ[\\]^_`{|}~\n\t" ++ Str.ofString "abcdefghijklmnopqrstuvwxyz").cps.toList.all (fun d => decide (d < 128)) = true := by decide +kernel
    have l0 : 0 < (Str.ofString " !\"#$&'()*+,-./0123456789:;<=>?@ABCDEFGHIJKLMNOPQRSTUVWXYZ[\\]^_`{|}~\n\t" ++ Str.ofString "abcdefghijklmnopqrstuvwxyz").length := by decide +kernel
    have l1 : (Str.ofString " !\"#$&'()*+,-./0123456789:;<=>?@ABCDEFGHIJKLMNOPQRSTUVWXYZ[\\]^_`{|}~\n\t" ++ Str.ofString "abcdefghijklmnopqrstuvwxyz").length ≤ 1000 := by decide +kernel
    generalize (Str.ofString " !\"#$&'()*+,-./0123456789:;<=>?@ABCDEFGHIJKLMNOPQRSTUVWXYZ[\\]^_`{|}~\n\t" ++ Str.ofString "abcdefghijklmnopqrstuvwxyz") = X at al l0 l1 ⊢
    dsimp only [gName]
    have m0 : 0 ≤ c % (X.length : Int) := Int.emod_nonneg _ (by omega)
    have m1 : c % (X.length : Int) < X.length := Int.emod_lt_of_pos _ (by omega)
    have inl : (c % (X.length : Int)).toNat < X.cps.toList.length := by
      have : X.cps.toList.length = X.length := rfl
      omega
    obtain ⟨d, hd⟩ : ∃ d, X.cps.toList[(c % (X.length : Int)).toNat]? = some d := ⟨_, List.getElem?_eq_getElem inl⟩
    have ha := atI_nat hd
    rw [Int.toNat_of_nonneg m0] at ha
    refine ⟨_, rfl, _, rfl, _, rfl, X, rfl, line_of2 (by omega), _, _, rfl, rfl, (by omega), X, _, d, rfl, rfl, line_of2 (by omega), ha, ?_⟩
    exact q _ (by simpa using List.all_eq_true.mp al _ (List.mem_of_getElem? hd))
/-! ### _law_odd -/
abbrev n_odd : List Str := ["_law_cell", "_law_some"]
theorem sc_odd : FnScope ["_law_cell", "_law_some"] ["_law_cell"] (defScope s_odd) := ⟨rfl, rfl, rfl, by decide +kernel, rfl, by decide +kernel, by decide +kernel⟩
theorem ok_odd (T : Txt K mg a) : FnOk P w K mg base CX0 1 a.f_odd a.d_odd ["_law_cell"] (spOdd) := by
  refine T.odd.F.ok sc_odd (fun vs H Q E h => ?_) (fun cdv A outer s H vs Q E hr h => ?_)
  · obtain ⟨c, rfl, q⟩ := h
    rfl
  · obtain ⟨c, rfl, q⟩ := h
    have hu := hu_of hr
    refine ⟨_, (pss_cons (ps_set (i := 1) sc_odd.nd rfl (Or.inl rfl) (pe_lst (pa_cons pe_str (pa_cons pe_str (pa_cons pe_str (pa_cons pe_str (pa_cons pe_str pa_nil)))))))
      (pss_cons (ps_set (i := 1) sc_odd.nd rfl (Or.inl rfl) (pe_op op_cat (pv 1) (pe_lst (pa_cons pe_str (pa_cons pe_str pa_nil)))))
      (pss_cons (ps_set (i := 1) sc_odd.nd rfl (Or.inl rfl) (pe_op op_cat (pv 1) (pe_lst (pa_cons pe_str (pa_cons pe_str pa_nil)))))
      (pss_cons (ps_set (i := 1) sc_odd.nd rfl (Or.inl rfl) (pe_op op_cat (pv 1) (pe_lst (pa_cons pe_str (pa_cons pe_str (pa_cons pe_str pa_nil))))))
      (pss_cons (ps_set (i := 1) sc_odd.nd rfl (Or.inl rfl) (pe_op op_cat (pv 1) (pe_lst (pa_cons pe_str (pa_cons pe_str pa_nil)))))
      (pss_cons (ps_set (i := 1) sc_odd.nd rfl (Or.inl rfl) (pe_op op_cat (pv 1) (pe_lst (pa_cons pe_str (pa_cons pe_str pa_nil)))))
      (pss_cons (ps_set (i := 1) sc_odd.nd rfl (Or.inl rfl) (pe_op op_cat (pv 1) (pe_lst (pa_cons pe_str (pa_cons pe_str pa_nil)))))
      (pss_cons (ps_set (i := 1) sc_odd.nd rfl (Or.inl rfl) (pe_op op_cat (pv 1) (pe_lst (pa_cons pe_str (pa_cons pe_str pa_nil)))))
      (pss_one (ps_ret (pe_ix (ixL K) (pv 1) (pe_op (op_modc (c := 20) (by decide)) (pv 0) pe_int) (fun _ _ => rfl)))))))))))), ?_⟩
    refine ⟨(by show 5 ≤ sizeLine; decide), fun p0 n0 => ?_⟩
    dsimp only [gName]
    generalize hH1 : upd _ p0 _ = H0
    obtain ⟨s0, e0⟩ := gen_new hH1 n0
    clear hH1
    obtain ⟨L0, eL0, gL0, cL0⟩ := okL5 e0
    clear e0
    refine ⟨_, rfl, (by show 2 ≤ sizeLine; decide), fun p1 n1 => ?_⟩
    generalize hA : upd _ p1 _ = HA
    obtain ⟨sA, eA⟩ := gen_new hA n1
    clear hA
    obtain ⟨LA, eLA, gLA, cLA⟩ := okL2 eA
    clear eA
    refine ⟨_, _, _, _, rfl, rfl, sA _ _ eL0, eLA, (by rw [List.length_map, List.length_map, cL0, cLA]; decide), fun q1 m1 => ?_⟩
    rw [← List.map_append]
    dsimp only [gName]
    generalize hB : upd _ q1 _ = H1
    obtain ⟨sB, eL1⟩ := gen_new hB m1
    clear hB
    have s1 := s0.trans (sA.trans sB)
    have cL1 : (L0 ++ LA).length = 5 + 2 := by rw [List.length_append, cL0, cLA]
    have gL1 : (L0 ++ LA).all okS = true := by rw [List.all_append, gL0, gLA]; rfl
    clear sA sB eLA gLA cLA
    generalize L0 ++ LA = L1 at eL1 cL1 gL1 ⊢
    refine ⟨_, rfl, (by show 2 ≤ sizeLine; decide), fun p2 n2 => ?_⟩
    generalize hA : upd _ p2 _ = HA
    obtain ⟨sA, eA⟩ := gen_new hA n2
    clear hA
    obtain ⟨LA, eLA, gLA, cLA⟩ := okL2 eA
    clear eA
    refine ⟨_, _, _, _, rfl, rfl, sA _ _ eL1, eLA, (by rw [List.length_map, List.length_map, cL1, cLA]; decide), fun q2 m2 => ?_⟩
    rw [← List.map_append]
    dsimp only [gName]
    generalize hB : upd _ q2 _ = H2
    obtain ⟨sB, eL2⟩ := gen_new hB m2
    clear hB
    have s2 := s1.trans (sA.trans sB)
    have cL2 : (L1 ++ LA).length = 7 + 2 := by rw [List.length_append, cL1, cLA]
    have gL2 : (L1 ++ LA).all okS = true := by rw [List.all_append, gL1, gLA]; rfl
    clear sA sB eLA gLA cLA
    generalize L1 ++ LA = L2 at eL2 cL2 gL2 ⊢
    refine ⟨_, rfl, (by show 3 ≤ sizeLine; decide), fun p3 n3 => ?_⟩
    generalize hA : upd _ p3 _ = HA
    obtain ⟨sA, eA⟩ := gen_new hA n3
    clear hA
    obtain ⟨LA, eLA, gLA, cLA⟩ := okL3 eA
    clear eA
    refine ⟨_, _, _, _, rfl, rfl, sA _ _ eL2, eLA, (by rw [List.length_map, List.length_map, cL2, cLA]; decide), fun q3 m3 => ?_⟩
    rw [← List.map_append]
    dsimp only [gName]
    generalize hB : upd _ q3 _ = H3
    obtain ⟨sB, eL3⟩ := gen_new hB m3
    clear hB
    have s3 := s2.trans (sA.trans sB)
    have cL3 : (L2 ++ LA).length = 9 + 3 := by rw [List.length_append, cL2, cLA]
    have gL3 : (L2 ++ LA).all okS = true := by rw [List.all_append, gL2, gLA]; rfl
    clear sA sB eLA gLA cLA
    generalize L2 ++ LA = L3 at eL3 cL3 gL3 ⊢
    refine ⟨_, rfl, (by show 2 ≤ sizeLine; decide), fun p4 n4 => ?_⟩
    generalize hA : upd _ p4 _ = HA
    obtain ⟨sA, eA⟩ := gen_new hA n4
    clear hA
    obtain ⟨LA, eLA, gLA, cLA⟩ := okL2 eA
    clear eA
    refine ⟨_, _, _, _, rfl, rfl, sA _ _ eL3, eLA, (by rw [List.length_map, List.length_map, cL3, cLA]; decide), fun q4 m4 => ?_⟩
    rw [← List.map_append]
    dsimp only [gName]
    generalize hB : upd _ q4 _ = H4
    obtain ⟨sB, eL4⟩ := gen_new hB m4
    clear hB
    have s4 := s3.trans (sA.trans sB)
    have cL4 : (L3 ++ LA).length = 12 + 2 := by rw [List.length_append, cL3, cLA]
    have gL4 : (L3 ++ LA).all okS = true := by rw [List.all_append, gL3, gLA]; rfl
    clear sA sB eLA gLA cLA
    generalize L3 ++ LA = L4 at eL4 cL4 gL4 ⊢
    refine ⟨_, rfl, (by show 2 ≤ sizeLine; decide), fun p5 n5 => ?_⟩
    generalize hA : upd _ p5 _ = HA
    obtain ⟨sA, eA⟩ := gen_new hA n5
    clear hA
    obtain ⟨LA, eLA, gLA, cLA⟩ := okL2 eA
    clear eA
    refine ⟨_, _, _, _, rfl, rfl, sA _ _ eL4, eLA, (by rw [List.length_map, List.length_map, cL4, cLA]; decide), fun q5 m5 => ?_⟩
    rw [← List.map_append]
    dsimp only [gName]
    generalize hB : upd _ q5 _ = H5
    obtain ⟨sB, eL5⟩ := gen_new hB m5
    clear hB
    have s5 := s4.trans (sA.trans sB)
    have cL5 : (L4 ++ LA).length = 14 + 2 := by rw [List.length_append, cL4, cLA]
    have gL5 : (L4 ++ LA).all okS = true := by rw [List.all_append, gL4, gLA]; rfl
    clear sA sB eLA gLA cLA
    generalize L4 ++ LA = L5 at eL5 cL5 gL5 ⊢
    refine ⟨_, rfl, (by show 2 ≤ sizeLine; decide), fun p6 n6 => ?_⟩
    generalize hA : upd _ p6 _ = HA
    obtain ⟨sA, eA⟩ := gen_new hA n6
    clear hA
    obtain ⟨LA, eLA, gLA, cLA⟩ := okL2 eA
    clear eA
    refine ⟨_, _, _, _, rfl, rfl, sA _ _ eL5, eLA, (by rw [List.length_map, List.length_map, cL5, cLA]; decide), fun q6 m6 => ?_⟩
    rw [← List.map_append]
    dsimp only [gName]
    generalize hB : upd _ q6 _ = H6
    obtain ⟨sB, eL6⟩ := gen_new hB m6
    clear hB
    have s6 := s5.trans (sA.trans sB)
    have cL6 : (L5 ++ LA).length = 16 + 2 := by rw [List.length_append, cL5, cLA]
    have gL6 : (L5 ++ LA).all okS = true := by rw [List.all_append, gL5, gLA]; rfl
    clear sA sB eLA gLA cLA
    generalize L5 ++ LA = L6 at eL6 cL6 gL6 ⊢
    refine ⟨_, rfl, (by show 2 ≤ sizeLine; decide), fun p7 n7 => ?_⟩
    generalize hA : upd _ p7 _ = HA
    obtain ⟨sA, eA⟩ := gen_new hA n7
    clear hA
    obtain ⟨LA, eLA, gLA, cLA⟩ := okL2 eA
    clear eA
    refine ⟨_, _, _, _, rfl, rfl, sA _ _ eL6, eLA, (by rw [List.length_map, List.length_map, cL6, cLA]; decide), fun q7 m7 => ?_⟩
    rw [← List.map_append]
    dsimp only [gName]
    generalize hB : upd _ q7 _ = H7
    obtain ⟨sB, eL7⟩ := gen_new hB m7
    clear hB
    have s7 := s6.trans (sA.trans sB)
    have cL7 : (L6 ++ LA).length = 18 + 2 := by rw [List.length_append, cL6, cLA]
    have gL7 : (L6 ++ LA).all okS = true := by rw [List.all_append, gL6, gLA]; rfl
    clear sA sB eLA gLA cLA
    generalize L6 ++ LA = L7 at eL7 cL7 gL7 ⊢
    have m0 : 0 ≤ c % 20 := Int.emod_nonneg _ (by decide)
    have m1 : c % 20 < 20 := Int.emod_lt_of_pos _ (by decide)
    obtain ⟨x, hx⟩ : ∃ x, L7[(c % 20).toNat]? = some x := ⟨_, List.getElem?_eq_getElem (by rw [cL7]; omega)⟩
    have ha : atI (L7.map V.str) ((c % 20).toNat : Int) = some (.str x) := atI_nat (by rw [List.getElem?_map, hx]; rfl)
    rw [Int.toNat_of_nonneg m0] at ha
    refine ⟨_, rfl, _, rfl, _, rfl, rfl, _, _, _, _, rfl, rfl, SqL.of eL7, ha, ?_⟩
    have g := List.all_eq_true.mp gL7 x (List.mem_of_getElem? hx)
    rw [ofS x]
    exact q _ _ (okS_txl g) s7
/-! ### _law_none -/
abbrev n_w_none : List Str := ["_law_cell", "_law_far", "_law_some"]
theorem sc_w_none : FnScope ["_law_cell", "_law_far", "_law_some"] ["_law_cell"] (defScope s_w_none) := ⟨rfl, rfl, rfl, by decide +kernel, rfl, by decide +kernel, by decide +kernel⟩
theorem ok_w_none (T : Txt K mg a) : FnOk P w K mg base CX0 2 a.f_w_none a.d_w_none ["_law_cell"] (spNone) := by
  refine T.w_none.F.ok sc_w_none (fun vs H Q E h => ?_) (fun cdv A outer s H vs Q E hr h => ?_)
  · obtain ⟨c, rfl, q⟩ := h
    rfl
  · obtain ⟨c, rfl, q⟩ := h
    have hu := hu_of hr
    refine ⟨_, (pss_cons (ps_set (i := 1) sc_w_none.nd rfl (Or.inl rfl) (pe_op op_add (pe_op op_add pe_pow12 pe_int) (pe_op op_mul (pe_cl (ok_mix T) T.mix (hr.mono (by decide)) (pa_cons (pv 0) (pa_cons pe_int pa_nil))) pe_pow40)))
      (pss_cons (ps_set (i := 2) sc_w_none.nd rfl (Or.inl rfl) (pe_lst (pa_cons (pe_tup (pa_cons pe_str (pa_cons pe_int (pa_cons pe_int (pa_cons pe_int (pa_cons pe_int pa_nil)))))) (pa_cons (pe_tup (pa_cons pe_str (pa_cons pe_int (pa_cons pe_int (pa_cons pe_int (pa_cons pe_int pa_nil)))))) (pa_cons (pe_tup (pa_cons pe_str (pa_cons pe_int (pa_cons pe_int (pa_cons pe_int (pa_cons pe_int pa_nil)))))) (pa_cons (pe_tup (pa_cons pe_str (pa_cons pe_int (pa_cons pe_int (pa_cons pe_int (pa_cons pe_int pa_nil)))))) (pa_cons (pe_tup (pa_cons pe_str (pa_cons pe_int (pa_cons pe_int (pa_cons pe_int (pa_cons pe_int pa_nil)))))) pa_nil)))))))
      (pss_cons (ps_set (i := 2) sc_w_none.nd rfl (Or.inl rfl) (pe_op op_cat (pv 2) (pe_lst (pa_cons (pe_tup (pa_cons pe_str (pa_cons pe_int (pa_cons pe_int (pa_cons pe_int (pa_cons pe_int pa_nil)))))) (pa_cons (pe_tup (pa_cons pe_str (pa_cons pe_int (pa_cons (pe_op op_add pe_pow12 pe_int) (pa_cons pe_int (pa_cons pe_int pa_nil)))))) (pa_cons (pe_tup (pa_cons pe_str (pa_cons pe_int (pa_cons pe_int (pa_cons pe_int (pa_cons (pv 1) pa_nil)))))) (pa_cons (pe_tup (pa_cons pe_str (pa_cons pe_int (pa_cons pe_int (pa_cons pe_int (pa_cons (pv 1) pa_nil)))))) pa_nil)))))))
      (pss_one (ps_ret (pe_ix (ixL K) (pv 2) (pe_op (op_modc (c := 9) (by decide)) (pv 0) pe_int) (fun _ _ => rfl))))))), ?_⟩
    refine ⟨_, _, rfl, rfl, _, rfl, c, 1, rfl, fun mx m0 m1 => ?_⟩
    refine ⟨_, _, rfl, rfl, .inl ⟨by omega, by omega⟩, _, _, rfl, rfl, ?_⟩
    dsimp only [gName]
    have f0 : 0 ≤ (1000000000000 : Int) + 1 + mx * 10000000000000000000000000000000000000000 := by omega
    have f1 : (1000000000000 : Int) + 1 + mx * 10000000000000000000000000000000000000000 ≤ 10 ^ 50 := by omega
    generalize (1000000000000 : Int) + 1 + mx * 10000000000000000000000000000000000000000 = far at f0 f1 ⊢
    refine ⟨(by show 5 ≤ sizeLine; decide), fun p1 n1 => ?_⟩
    generalize hA : upd _ p1 _ = H1
    obtain ⟨s1, e1⟩ := gen_new hA n1
    clear hA
    obtain ⟨x1, o1, e1⟩ := oddT e1 ⟨by decide, by decide⟩ ⟨by decide, by decide⟩ ⟨by decide, by decide⟩ ⟨by decide, by decide⟩
    refine ⟨(by show 5 ≤ sizeLine; decide), fun p2 n2 => ?_⟩
    generalize hA : upd _ p2 _ = H2
    obtain ⟨s2, e2⟩ := gen_new hA n2
    clear hA
    obtain ⟨x2, o2, e2⟩ := oddT e2 ⟨by decide, by decide⟩ ⟨by decide, by decide⟩ ⟨by decide, by decide⟩ ⟨by decide, by decide⟩
    refine ⟨(by show 5 ≤ sizeLine; decide), fun p3 n3 => ?_⟩
    generalize hA : upd _ p3 _ = H3
    obtain ⟨s3, e3⟩ := gen_new hA n3
    clear hA
    obtain ⟨x3, o3, e3⟩ := oddT e3 ⟨by decide, by decide⟩ ⟨by decide, by decide⟩ ⟨by decide, by decide⟩ ⟨by decide, by decide⟩
    refine ⟨(by show 5 ≤ sizeLine; decide), fun p4 n4 => ?_⟩
    generalize hA : upd _ p4 _ = H4
    obtain ⟨s4, e4⟩ := gen_new hA n4
    clear hA
    obtain ⟨x4, o4, e4⟩ := oddT e4 ⟨by decide, by decide⟩ ⟨by decide, by decide⟩ ⟨by decide, by decide⟩ ⟨by decide, by decide⟩
    refine ⟨(by show 5 ≤ sizeLine; decide), fun p5 n5 => ?_⟩
    generalize hA : upd _ p5 _ = H5
    obtain ⟨s5, e5⟩ := gen_new hA n5
    clear hA
    obtain ⟨x5, o5, e5⟩ := oddT e5 ⟨by decide, by decide⟩ ⟨by decide, by decide⟩ ⟨by decide, by decide⟩ ⟨by decide, by decide⟩
    refine ⟨(by show 5 ≤ sizeLine; decide), fun p6 n6 => ?_⟩
    generalize hA : upd _ p6 _ = H6
    obtain ⟨s6, e6⟩ := gen_new hA n6
    clear hA
    dsimp only [gName]
    have od1 : OddsAt H6 [.ref p1, .ref p2, .ref p3, .ref p4, .ref p5] := .cons (s6 _ _ (s5 _ _ (s4 _ _ (s3 _ _ (s2 _ _ e1))))) o1 (.cons (s6 _ _ (s5 _ _ (s4 _ _ (s3 _ _ e2)))) o2 (.cons (s6 _ _ (s5 _ _ (s4 _ _ e3))) o3 (.cons (s6 _ _ (s5 _ _ e4)) o4 (.cons (s6 _ _ e5) o5 .nil))))
    have sA : Same H H6 := s1.trans (s2.trans (s3.trans (s4.trans (s5.trans s6))))
    refine ⟨_, rfl, (by show 5 ≤ sizeLine; decide), fun p7 n7 => ?_⟩
    generalize hA : upd _ p7 _ = H7
    obtain ⟨s7, e7⟩ := gen_new hA n7
    clear hA
    obtain ⟨x7, o7, e7⟩ := oddT e7 ⟨by decide, by decide⟩ ⟨by decide, by decide⟩ ⟨by decide, by decide⟩ ⟨by decide, by decide⟩
    refine ⟨_, _, rfl, rfl, (by show 5 ≤ sizeLine; decide), fun p8 n8 => ?_⟩
    generalize hA : upd _ p8 _ = H8
    obtain ⟨s8, e8⟩ := gen_new hA n8
    clear hA
    obtain ⟨x8, o8, e8⟩ := oddT e8 ⟨by decide, by decide⟩ ⟨by decide, by decide⟩ ⟨by decide, by decide⟩ ⟨by decide, by decide⟩
    refine ⟨_, rfl, (by show 5 ≤ sizeLine; decide), fun p9 n9 => ?_⟩
    generalize hA : upd _ p9 _ = H9
    obtain ⟨s9, e9⟩ := gen_new hA n9
    clear hA
    obtain ⟨x9, o9, e9⟩ := oddT e9 ⟨by decide, by decide⟩ ⟨by decide, by decide⟩ ⟨by decide, by decide⟩ ⟨f0, f1⟩
    refine ⟨_, rfl, (by show 5 ≤ sizeLine; decide), fun p10 n10 => ?_⟩
    generalize hA : upd _ p10 _ = H10
    obtain ⟨s10, e10⟩ := gen_new hA n10
    clear hA
    obtain ⟨x10, o10, e10⟩ := oddT e10 ⟨by decide, by decide⟩ ⟨by decide, by decide⟩ ⟨by decide, by decide⟩ ⟨f0, f1⟩
    refine ⟨(by show 4 ≤ sizeLine; decide), fun p11 n11 => ?_⟩
    generalize hA : upd _ p11 _ = H11
    obtain ⟨s11, e11⟩ := gen_new hA n11
    clear hA
    have od2 : OddsAt H11 [.ref p7, .ref p8, .ref p9, .ref p10] := .cons (s11 _ _ (s10 _ _ (s9 _ _ (s8 _ _ e7)))) o7 (.cons (s11 _ _ (s10 _ _ (s9 _ _ e8))) o8 (.cons (s11 _ _ (s10 _ _ e9)) o9 (.cons (s11 _ _ e10) o10 .nil)))
    have sB : Same H6 H11 := s7.trans (s8.trans (s9.trans (s10.trans s11)))
    refine ⟨_, _, _, _, rfl, rfl, sB _ _ e6, e11, (by show 5 + 4 ≤ sizeLine; decide), fun p12 n12 => ?_⟩
    generalize hA : upd _ p12 _ = H12
    obtain ⟨s12, e12⟩ := gen_new hA n12
    clear hA
    dsimp only [gName]
    have od := ((od1.same sB).app od2).same s12
    have c0 : 0 ≤ c % 9 := Int.emod_nonneg _ (by decide)
    have c1 : c % 9 < 9 := Int.emod_lt_of_pos _ (by decide)
    refine ⟨_, rfl, _, rfl, _, rfl, rfl, ?_⟩
    refine ix_any (fun v => ∃ (t : Addr) (x : Let), v = .ref t ∧ H12 t = some (.tup x.vals) ∧ x.Odd) (SqL.of e12) c0 (by show c % 9 < ((5 + 4 : Nat) : Int); omega) od ?_
    rintro v ⟨t, x, rfl, eX, o⟩
    exact q x t H12 o (sA.trans (sB.trans s12)) eX
/-! ### _law_row -/
abbrev n_row : List Str := ["_law_letter_here", "_law_name", "_law_sent", "_law_back", "_law_low", "_law_high"]
theorem sc_row : FnScope ["_law_letter_here", "_law_name", "_law_sent", "_law_back", "_law_low", "_law_high"] ["_law_letter_here"] (defScope s_row) := ⟨rfl, rfl, rfl, by decide +kernel, rfl, by decide +kernel, by decide +kernel⟩
theorem ok_row (T : Txt K mg a) : FnOk P w K mg base CX0 1 a.f_row a.d_row ["_law_letter_here"] (spRow K) := by
  refine T.row.F.ok sc_row (fun vs H Q E h => ?_) (fun cdv A outer s H vs Q E hr h => ?_)
  · obtain ⟨t, x, rfl, hT, ho, q⟩ := h
    rfl
  · obtain ⟨t, x, rfl, hT, ho, q⟩ := h
    have hu := hu_of hr
    refine ⟨_, (pss_cons (ps_asg (pv 0) (pg_tup (by rfl) (pgs_cons (pg_name (i := 1) sc_row.nd rfl (Or.inl rfl)) (pgs_cons (pg_name (i := 2) sc_row.nd rfl (Or.inl rfl)) (pgs_cons (pg_name (i := 3) sc_row.nd rfl (Or.inl rfl)) (pgs_cons (pg_name (i := 4) sc_row.nd rfl (Or.inl rfl)) (pgs_cons (pg_name (i := 5) sc_row.nd rfl (Or.inl rfl)) pgs_nil)))))))
      (pss_one (ps_ret (pe_joined (.cons (pe_fmt (pv 1)) (.cons pe_str (.cons (pe_fmt (pv 2)) (.cons pe_str (.cons (pe_fmt (pv 3)) (.cons pe_str (.cons (pe_fmt (pv 4)) (.cons pe_str (.cons (pe_fmt (pv 5)) .nil))))))))))))), ?_⟩
    have h1 := ho.nm
    have a1 := numB ho.s0 ho.s1
    have a2 := numB ho.b0 ho.b1
    have a3 := numB ho.l0 ho.l1
    have a4 := numB ho.h0 ho.h1
    refine ⟨_, rfl, t, _, rfl, hT, rfl, _, _, rfl, _, _, rfl, _, _, rfl, _, _, rfl, _, _, rfl, rfl, ?_⟩
    dsimp only [gName]
    refine ⟨_, rfl, .inl ⟨_, rfl, by rw [mkS_len]; exact line_of (by omega), _, rfl, line_of (by simp only [str_len, len_0, mkS_len]; omega), ?_⟩⟩
    refine ⟨_, rfl, line_of (by simp only [str_len, len_0, len_sent, mkS_len]; omega), ?_⟩
    refine ⟨_, rfl, .inr ⟨_, rfl, logB ho.s0 ho.s1, numS x.s, rfl, line_of (by simp only [str_len, len_0, len_sent, mkS_len]; omega), ?_⟩⟩
    refine ⟨_, rfl, line_of (by simp only [str_len, len_0, len_sent, len_back, mkS_len]; omega), ?_⟩
    refine ⟨_, rfl, .inr ⟨_, rfl, logB ho.b0 ho.b1, numS x.b, rfl, line_of (by simp only [str_len, len_0, len_sent, len_back, mkS_len]; omega), ?_⟩⟩
    refine ⟨_, rfl, line_of (by simp only [str_len, len_0, len_sent, len_back, len_swears, mkS_len]; omega), ?_⟩
    refine ⟨_, rfl, .inr ⟨_, rfl, logB ho.l0 ho.l1, numS x.lo, rfl, line_of (by simp only [str_len, len_0, len_sent, len_back, len_swears, mkS_len]; omega), ?_⟩⟩
    refine ⟨_, rfl, line_of (by simp only [str_len, len_0, len_sent, len_back, len_swears, len_to, mkS_len]; omega), ?_⟩
    refine ⟨_, rfl, .inr ⟨_, rfl, logB ho.h0 ho.h1, numS x.hi, rfl, line_of (by simp only [str_len, len_0, len_sent, len_back, len_swears, len_to, mkS_len]; omega), ?_⟩⟩
    have z := q _ (row_txl ho)
    rw [← row0_list x] at z
    exact z
/-! ### _law_number -/
abbrev n_number : List Str := ["_law_word_here", "_law_sign_here"]
theorem sc_number : FnScope ["_law_word_here", "_law_sign_here"] ["_law_word_here"] (defScope s_number) := ⟨rfl, rfl, rfl, by decide +kernel, rfl, by decide +kernel, by decide +kernel⟩
theorem ok_number (T : Txt K mg a) : FnOk P w K mg base CX0 1 a.f_number a.d_number ["_law_word_here"] (spNumber) := by
  refine T.number.F.ok sc_number (fun vs H Q E h => ?_) (fun cdv A outer s H vs Q E hr h => ?_)
  · obtain ⟨w', rfl, hx, q⟩ := h
    rfl
  · obtain ⟨w', rfl, hx, q⟩ := h
    have hu := hu_of hr
    refine ⟨_, (pss_cons (ps_if (PW.pt (pw_or (pt_cmpR op_eq (pv 0) pe_str (nomark _)) (pw_or1 (PW.pt (pw_and (pt_cmpR op_gt (pe_callB call_len_str (by rfl) T.b_len boot_len (pa_cons (pv 0) pa_nil)) pe_int (nomark _)) (pw_and1 (pt_cmpR op_eq (pe_ix ix_str (pv 0) pe_int (fun _ _ => rfl)) pe_str (nomark _)))))))) (pss_one (ps_ret pe_negc)) pss_nil)
      (pss_cons (ps_for PassesOwn.never rfl (pi_str (pv 0)) (pg_name (i := 1) sc_number.nd rfl (Or.inl rfl)) (pss_one (ps_if (pt_cmpR op_notIn_sign (pv 1) pe_str rfl) (pss_one (ps_ret pe_negc)) pss_nil)))
      (pss_one (ps_ret (pe_callTy call_int_str (by rfl) T.b_int (by decide +kernel) (pa_cons (pv 0) pa_nil)))))), ?_⟩
    have e0 : ("" : Str) = mkS [] := by decide +kernel
    have e48 : ("0" : Str) = mkS [48] := by decide +kernel
    have wl := hx.len
    have no : numW w' = none → Q (.int (-1)) H := fun h => numN_none h ▸ q
    refine seq_cut (fun σ' H' => H = H' ∧ σ' = [some (.str (mkS w')), none] ∧ w' ≠ [] ∧ ¬ (w'.head? = some 48 ∧ w' ≠ [48])) (fun N hN => ?_) ?_
    · refine ⟨_, rfl, rfl, _, rfl, ?_⟩
      refine ite_dec (fun h1 => ?_) (fun h1 => ?_)
      · exact no (if_pos (.inl ((strV e0).mp h1)))
      have ne : w' ≠ [] := fun z => h1 ((strV e0).mpr z)
      refine ⟨_, rfl, mkS w', rfl, line_of2 (by rw [mkS_len]; omega), _, _, rfl, rfl, _, rfl, ?_⟩
      rw [mkS_len]
      obtain ⟨c0, r, rfl⟩ := List.exists_cons_of_ne_nil ne
      refine ite_dec (fun h2 => ?_) (fun h2 => ?_)
      · refine ⟨_, rfl, mkS (c0 :: r), _, c0, rfl, rfl, line_of2 (by rw [mkS_len]; omega), atI_nat (j := 0) (by rw [mkS_list]; rfl), rfl, _, rfl, ?_⟩
        by_cases h3 : c0 = 48
        · refine ite_yes (decide_eq_true ((strV (w := [c0]) e48).mpr (by rw [h3]))) ?_
          exact no (if_pos (.inr (.inr ⟨by rw [h3]; rfl, fun z => by rw [z] at h2; exact absurd h2 (by decide)⟩)))
        · refine ite_no (decide_eq_false fun z => h3 (List.cons.inj ((strV (w := [c0]) e48).mp z)).1) ?_
          exact hN _ _ ⟨rfl, rfl, ne, fun z => h3 (Option.some.inj z.1)⟩
      · refine hN _ _ ⟨rfl, rfl, ne, fun z => z.2 ?_⟩
        have l1 : r = [] := by
          rw [List.length_cons] at h2
          exact List.length_eq_zero_iff.mp (by omega)
        rw [l1, Option.some.inj z.1]
    rintro σ' _ ⟨rfl, rfl, ne, hz⟩
    refine ⟨_, rfl, mkS w', rfl, for_it walk_str (fun i σ H' => H' = H ∧ (∀ c ∈ w'.take i, fig c = true) ∧ ∃ v, σ = [some (.str (mkS w')), v]) ⟨rfl, fun _ h => (nomatch h), none, rfl⟩ (fun _ _ _ _ _ => trivial) ?_ ?_⟩
    · rintro i x σ H1 H' hi ⟨rfl, ok, v, rfl⟩ ⟨rfl, c, hc, rfl⟩
      have hcw : w'[i]? = some c := by simpa [mkS] using hc
      refine ⟨_, rfl, c, _, rfl, rfl, _, rfl, ?_⟩
      rw [fig_mem]
      cases hf : fig c with
      | false =>
        refine ite_yes rfl ?_
        refine no (if_pos (.inr (.inl ?_)))
        rw [Bool.eq_false_iff]
        intro z
        rw [List.all_eq_true.mp z c (List.mem_of_getElem? hcw)] at hf
        cases hf
      | true =>
        refine ite_no rfl ?_
        refine ⟨rfl, fun y hy => ?_, _, rfl⟩
        rw [take_snoc hcw] at hy
        rcases List.mem_append.mp hy with h | h
        · exact ok y h
        · rw [List.mem_singleton] at h
          exact h ▸ hf
    · rintro σ H' ⟨rfl, ok, v, rfl⟩
      have zz : w'.take (mkS w').cps.size = w' := List.take_of_length_le (by simp [mkS])
      rw [zz] at ok
      have hf : w'.all fig = true := List.all_eq_true.mpr ok
      have sh : w'.length ≤ 600 := hx.run [] w' [] (by simp) hf
      refine ⟨_, rfl, mkS w', _, rfl, SX.int_S hf ne (by omega), by rw [mkS_len]; omega, ?_⟩
      rw [numN_some (if_neg (by
        rintro (z | z | z)
        · exact ne z
        · rw [hf] at z; cases z
        · exact hz z))] at q
      exact q
/-! ### _law_letter_of -/
abbrev n_w_letter_of : List Str := ["_law_row_here", "_law_words", "_law_numbers", "_law_k"]
theorem sc_w_letter_of : FnScope ["_law_row_here", "_law_words", "_law_numbers", "_law_k"] ["_law_row_here"] (defScope s_w_letter_of) := ⟨rfl, rfl, rfl, by decide +kernel, rfl, by decide +kernel, by decide +kernel⟩
theorem ok_w_letter_of (T : Txt K mg a) : FnOk P w K mg base CX0 2 a.f_w_letter_of a.d_w_letter_of ["_law_row_here"] (spLawLetterOf) := by
  refine T.w_letter_of.F.ok sc_w_letter_of (fun vs H Q E h => ?_) (fun cdv A outer s H vs Q E hr h => ?_)
  · obtain ⟨r, rfl, hx, qN, q⟩ := h
    rfl
  · obtain ⟨r, rfl, hx, qN, q⟩ := h
    have hu := hu_of hr
    refine ⟨_, (pss_cons (ps_set (i := 1) sc_w_letter_of.nd rfl (Or.inr rfl) (pe_split (pv 0) pe_str))
      (pss_cons (ps_if (PW.pt (pw_or (pt_cmpR op_ne (pe_callB (lenK K) (by rfl) T.b_len boot_len (pa_cons (pv 1) pa_nil)) pe_int (nomark _)) (pw_or1 (pt_cmpR op_ne (pe_op op_add_str (pe_op op_add_str (pe_op op_add_str (pe_ix (ixL K) (pv 1) pe_int (fun _ _ => rfl)) (pe_ix (ixL K) (pv 1) pe_int (fun _ _ => rfl))) (pe_ix (ixL K) (pv 1) pe_int (fun _ _ => rfl))) (pe_ix (ixL K) (pv 1) pe_int (fun _ _ => rfl))) pe_str (nomark _))))) (pss_one (ps_ret pe_non)) pss_nil)
      (pss_cons (ps_setLc (i := 2) (own := [("_law_k", 3)]) (g := gName 3) (tt := tYes) rfl sc_w_letter_of.nd rfl rfl (sw_true rfl rfl rfl (by decide +kernel)) (piT K (pe_tup (pa_cons pe_int (pa_cons pe_int (pa_cons pe_int (pa_cons pe_int pa_nil)))))) (blkOk_by (N := n_w_letter_of) (sc := defScope s_w_letter_of) (by decide +kernel)) (fun _ _ _ _ _ => pg_name (i := 3) sc_w_letter_of.nd rfl (Or.inl rfl)) (fun _ _ _ _ _ => pts_nil) (fun _ _ _ _ _ => (pe_cl (ok_number T) T.number (hr.mono (by decide)) (pa_cons (pe_ix (ixL K) (pv 1) (pv 3) (fun _ _ => rfl)) pa_nil))))
      (pss_cons (ps_if (PW.pt (pw_or (pt_cmpR op_lt (pe_callB (minK K rfl) (by rfl) T.b_min (by decide +kernel) (pa_cons (pv 2) pa_nil)) pe_int (nomark _)) (pw_or (pt_cmpR op_ne (pe_ix (ixL K) (pv 1) pe_int (fun _ _ => rfl)) pe_str (nomark _)) (pw_or (pt_cmpR op_ne (pe_ix (ixL K) (pv 1) pe_int (fun _ _ => rfl)) pe_str (nomark _)) (pw_or1 (pt_cmpR op_ne (pe_ix (ixL K) (pv 1) pe_int (fun _ _ => rfl)) pe_str (nomark _))))))) (pss_one (ps_ret pe_non)) pss_nil)
      (pss_one (ps_ret (pe_tup (pa_cons (pe_ix (ixL K) (pv 1) pe_int (fun _ _ => rfl)) (pa_cons (pe_ix (ixL K) (pv 2) pe_int (fun _ _ => rfl)) (pa_cons (pe_ix (ixL K) (pv 2) pe_int (fun _ _ => rfl)) (pa_cons (pe_ix (ixL K) (pv 2) pe_int (fun _ _ => rfl)) (pa_cons (pe_ix (ixL K) (pv 2) pe_int (fun _ _ => rfl)) pa_nil)))))))))))), ?_⟩
    have rl := hx.len
    refine ⟨_, rfl, ⟨_, rfl⟩, mkS r, (" " : Str), rfl, rfl, (by decide +kernel), line_of2 (by rw [mkS_len]; omega), ?_⟩
    unfold rNewStrs
    rw [split32]
    intro pw nw
    generalize hH1 : upd _ pw _ = H1
    obtain ⟨s1, e1⟩ := gen_new hH1 nw
    clear hH1
    dsimp only [gName]
    refine ⟨_, rfl, _, _, rfl, .inl (SqL.of e1), rfl, _, rfl, ?_⟩
    rw [txs_len]
    by_cases h9 : (cuts 32 r).length = 9
    case neg =>
      refine ite_yes (by rw [decide_eq_false (fun z => h9 (by have := V.int.inj z; omega))]; rfl) ?_
      exact qN (letW_not9 h9) H1 s1
    case pos =>
    refine ite_no (by rw [h9]; rfl) ?_
    obtain ⟨n, w1, x, w3, y, w5, z, w7, u, ew⟩ := nine h9
    have part : ∀ {v : List Nat}, v ∈ [n, w1, x, w3, y, w5, z, w7, u] → Txl 100000 600 v := fun {v} m => hx.cut (c := 32) (by rw [ew]; exact m)
    rw [ew] at e1
    have lw := letW_9 ew
    have l1 := (part (v := w1) (by simp)).len
    have l3 := (part (v := w3) (by simp)).len
    have l5 := (part (v := w5) (by simp)).len
    have l7 := (part (v := w7) (by simp)).len
    have at_ : ∀ (j : Nat) (v : List Nat), [n, w1, x, w3, y, w5, z, w7, u][j]? = some v → atI (txs [n, w1, x, w3, y, w5, z, w7, u]) (j : Int) = some (.str (mkS v)) := fun j v h => atI_nat (by unfold txs; rw [List.getElem?_map, h]; rfl)
    refine ⟨_, rfl, _, _, _, _, rfl, rfl, SqL.of e1, at_ 1 w1 rfl, _, rfl, _, _, _, _, rfl, rfl, SqL.of e1, at_ 3 w3 rfl, _, _, rfl, rfl, line4 (by rw [mkS_len, mkS_len]; omega), ?_⟩
    rw [mkS_cat]
    refine ⟨_, rfl, _, _, _, _, rfl, rfl, SqL.of e1, at_ 5 w5 rfl, _, _, rfl, rfl, line4 (by rw [mkS_len, mkS_len, List.length_append]; omega), ?_⟩
    rw [mkS_cat]
    refine ⟨_, rfl, _, _, _, _, rfl, rfl, SqL.of e1, at_ 7 w7 rfl, _, _, rfl, rfl, line4 (by rw [mkS_len, mkS_len, List.length_append, List.length_append]; omega), ?_⟩
    rw [mkS_cat]
    refine ⟨rfl, _, rfl, ?_⟩
    by_cases hc : w1 ++ w3 ++ w5 ++ w7 = kAll
    case neg =>
      refine ite_yes (by rw [decide_eq_false fun z => hc ((strV eAll).mp z)]; rfl) ?_
      refine qN (lw.trans (if_neg ?_)) H1 s1
      rintro ⟨rfl, rfl, rfl, rfl⟩
      exact hc rfl
    case pos =>
    refine ite_no (by rw [decide_eq_true ((strV eAll).mpr hc)]; rfl) ?_
    refine ⟨(by show 4 ≤ sizeLine; decide), fun p2 n2 => ?_⟩
    generalize hH2 : upd _ p2 _ = H2
    obtain ⟨s2, e2⟩ := gen_new hH2 n2
    clear hH2
    have s02 := s1.trans s2
    have e1' := s2 _ _ e1
    refine ⟨p2, rfl, ⟨_, SqT.of e2⟩, fun D nD => lc_tup (K := K) (a := p2) (xs := [.int 2, .int 4, .int 6, .int 8]) (fun i H' => Same H2 H' ∧ H' D = some (.lst (([numN x, numN y, numN z, numN u].take i).map V.int))) ⟨same_new nD, upd_same⟩ (fun i H' _ h => SqT.of (h.1 _ _ e2)) ?_ ?_⟩
    · rintro i v H' hi ⟨s3, eD⟩
      obtain ⟨j, t, ht, hn, rfl⟩ : ∃ (j : Nat) (t : List Nat), [n, w1, x, w3, y, w5, z, w7, u][j]? = some t ∧ [numN x, numN y, numN z, numN u][i]? = some (numN t) ∧ v = .int (j : Int) := by
        match i, hi with
        | 0, hi => exact ⟨2, x, rfl, rfl, (Option.some.inj hi).symm⟩
        | 1, hi => exact ⟨4, y, rfl, rfl, (Option.some.inj hi).symm⟩
        | 2, hi => exact ⟨6, z, rfl, rfl, (Option.some.inj hi).symm⟩
        | 3, hi => exact ⟨8, u, rfl, rfl, (Option.some.inj hi).symm⟩
      have il := (List.getElem?_eq_some_iff.mp hn).1
      refine ⟨rfl, ?_⟩
      refine ⟨_, rfl, _, rfl, _, _, _, _, rfl, rfl, SqL.of (s3 _ _ e1'), at_ j t ht, t, rfl, part (List.mem_of_getElem? ht), ?_⟩
      refine ⟨_, eD, line_lt (by rw [List.length_map, List.length_take]; exact Nat.le_trans (Nat.min_le_right _ _) (show 4 ≤ 200000 by decide)), Same.mut s3 nD, ?_⟩
      rw [upd_same, take_snoc hn, List.map_append]
      rfl
    rintro H3 ⟨s3, eD⟩
    rw [show ([numN x, numN y, numN z, numN u].take ([.int 2, .int 4, .int 6, .int 8] : List V).length) = [numN x, numN y, numN z, numN u] from rfl] at eD
    have e1'' := s3 _ _ e1'
    have s03 := s02.trans s3
    dsimp only [gName]
    refine ⟨_, rfl, D, _, rfl, SqL.of eD, (show 0 < 4 by decide), fun m hm hle => ?_⟩
    refine ⟨_, _, rfl, rfl, _, rfl, ?_⟩
    refine ite_dec (fun g1 => ?_) (fun g1 => ?_)
    · refine iteT ?_
      refine qN (lw.trans ?_) H3 s03
      by_cases hw : w1 = kSent ∧ w3 = kBack ∧ w5 = kSwears ∧ w7 = kTo
      · rw [if_pos hw]
        simp only [List.mem_cons, List.not_mem_nil, or_false] at hm
        rcases hm with rfl | rfl | rfl | rfl
        · rw [numN_neg g1]
        · rw [numN_neg g1]; cases numW x <;> rfl
        · rw [numN_neg g1]; cases numW x <;> cases numW y <;> rfl
        · rw [numN_neg g1]; cases numW x <;> cases numW y <;> cases numW z <;> rfl
      · rw [if_neg hw]
    have nn : ∀ {v : List Nat}, numN v ∈ [numN x, numN y, numN z, numN u] → 0 ≤ numN v := fun {v} h => by
      have := hle _ h
      omega
    have px := numN_pos (nn (v := x) (by simp))
    have py := numN_pos (nn (v := y) (by simp))
    have pz := numN_pos (nn (v := z) (by simp))
    have pu := numN_pos (nn (v := u) (by simp))
    rw [px, py, pz, pu] at lw
    have wrong : ¬ (w1 = kSent ∧ w3 = kBack ∧ w5 = kSwears ∧ w7 = kTo) → Q .non H3 := fun h => qN (lw.trans (if_neg h)) H3 s03
    refine ⟨_, rfl, _, _, _, _, rfl, rfl, SqL.of e1'', at_ 1 w1 rfl, rfl, _, rfl, ?_⟩
    by_cases q1 : w1 = kSent
    case neg =>
      refine ite_yes (by rw [decide_eq_false fun z => q1 ((strV eSent).mp z)]; rfl) ?_
      have r := wrong fun h => q1 h.1
      first | exact r | exact iteT r
    case pos =>
    refine ite_no (by rw [decide_eq_true ((strV eSent).mpr q1)]; rfl) ?_
    refine ⟨_, rfl, _, _, _, _, rfl, rfl, SqL.of e1'', at_ 3 w3 rfl, rfl, _, rfl, ?_⟩
    by_cases q3 : w3 = kBack
    case neg =>
      refine ite_yes (by rw [decide_eq_false fun z => q3 ((strV eBack).mp z)]; rfl) ?_
      have r := wrong fun h => q3 h.2.1
      first | exact r | exact iteT r
    case pos =>
    refine ite_no (by rw [decide_eq_true ((strV eBack).mpr q3)]; rfl) ?_
    refine ⟨_, rfl, _, _, _, _, rfl, rfl, SqL.of e1'', at_ 5 w5 rfl, rfl, _, rfl, ?_⟩
    by_cases q5 : w5 = kSwears
    case neg =>
      refine ite_yes (by rw [decide_eq_false fun z => q5 ((strV eSwears).mp z)]; rfl) ?_
      have r := wrong fun h => q5 h.2.2.1
      first | exact r | exact iteT r
    case pos =>
    refine ite_no (by rw [decide_eq_true ((strV eSwears).mpr q5)]; rfl) ?_
    have hw : w1 = kSent ∧ w3 = kBack ∧ w5 = kSwears ∧ w7 = kTo := ⟨q1, q3, q5, four_to (by rw [← hc, q1, q3, q5])⟩
    rw [if_pos hw] at lw
    have nat_ : ∀ (j : Nat) (i : Int), [numN x, numN y, numN z, numN u][j]? = some i → atI ([numN x, numN y, numN z, numN u].map V.int) (j : Int) = some (.int i) := fun j i h => atI_nat (by rw [List.getElem?_map, h]; rfl)
    refine ⟨_, rfl, _, _, _, _, rfl, rfl, SqL.of e1'', at_ 0 n rfl, _, rfl, _, _, _, _, rfl, rfl, SqL.of eD, nat_ 0 _ rfl, _, rfl, _, _, _, _, rfl, rfl, SqL.of eD, nat_ 1 _ rfl, _, rfl, _, _, _, _, rfl, rfl, SqL.of eD, nat_ 2 _ rfl, _, rfl, _, _, _, _, rfl, rfl, SqL.of eD, nat_ 3 _ rfl, (by show 5 ≤ sizeLine; decide), fun p9 n9 => ?_⟩
    exact q ⟨n, numN x, numN y, numN z, numN u⟩ lw p9 _ (s03.trans (same_new n9)) upd_same
/-! ### _law_due -/
abbrev n_due : List Str := ["_law_text", "_law_rows", "_law_letters", "_law_name", "_law_sent", "_law_back", "_law_low", "_law_high", "_law_wrong", "_law_row_here", "_law_sign_here"]
theorem sc_due : FnScope ["_law_text", "_law_rows", "_law_letters", "_law_name", "_law_sent", "_law_back", "_law_low", "_law_high", "_law_wrong", "_law_row_here", "_law_sign_here"] ["_law_text"] (defScope s_due) := ⟨rfl, rfl, rfl, by decide +kernel, rfl, by decide +kernel, by decide +kernel⟩
theorem ok_due (T : Txt K mg a) : FnOk P w K mg base CX0 3 a.f_due a.d_due ["_law_text"] (spDue K) := by
  refine T.due.F.ok sc_due (fun vs H Q E h => ?_) (fun cdv A outer s H vs Q E hr h => ?_)
  · obtain ⟨l, rfl, hx, qB, q⟩ := h
    rfl
  · obtain ⟨l, rfl, hx, qB, q⟩ := h
    have hu := hu_of hr
    refine ⟨_, (pss_cons (ps_set (i := 1) sc_due.nd rfl (Or.inl rfl) (pe_split (pv 0) pe_str))
      (pss_cons (ps_setLc (i := 2) (own := [("_law_row_here", 9)]) (g := gName 9) (tt := tYes) rfl sc_due.nd rfl rfl (sw_true rfl rfl rfl (by decide +kernel)) (piL K (pe_slice (slL K) (pv 1) po_none (po_some pe_negc))) (blkOk_by (N := n_due) (sc := defScope s_due) (by decide +kernel)) (fun _ _ _ _ _ => pg_name (i := 9) sc_due.nd rfl (Or.inl rfl)) (fun _ _ _ _ _ => pts_nil) (fun _ _ _ _ _ => (pe_cl (ok_w_letter_of T) T.w_letter_of (hr.mono (by decide)) (pa_cons (pv 9) pa_nil))))
      (pss_cons (ps_if (PW.pt (pw_or (pt_cmpR op_ne (pe_ix (ixL K) (pv 1) pe_negc (fun _ _ => rfl)) pe_str (nomark _)) (pw_or1 (pt_cmpR (inDK K hr) pe_non (pv 2) rfl)))) (pss_one (ps_ret (pe_tup (pa_cons (pe_lst pa_nil) (pa_cons pe_str pa_nil))))) pss_nil)
      (pss_cons (ps_for PassesOwn.never rfl (piL K (pv 2)) (pg_tup (by rfl) (pgs_cons (pg_name (i := 3) sc_due.nd rfl (Or.inl rfl)) (pgs_cons (pg_name (i := 4) sc_due.nd rfl (Or.inl rfl)) (pgs_cons (pg_name (i := 5) sc_due.nd rfl (Or.inl rfl)) (pgs_cons (pg_name (i := 6) sc_due.nd rfl (Or.inl rfl)) (pgs_cons (pg_name (i := 7) sc_due.nd rfl (Or.inl rfl)) pgs_nil)))))) (pss_cons (ps_setLc (i := 8) (own := [("_law_sign_here", 10)]) (g := gName 10) rfl sc_due.nd rfl rfl (sw_true rfl rfl rfl (by decide +kernel)) (pi_str (pv 3)) (blkOk_by (N := n_due) (sc := defScope s_due) (by decide +kernel)) (fun _ _ _ _ _ => pg_name (i := 10) sc_due.nd rfl (Or.inl rfl)) (fun _ _ _ _ _ => pts_one (pt_cmpR op_notIn_sign (pv 10) pe_str rfl)) (fun _ _ _ _ _ => (pv 10)))
      (pss_cons (ps_if (PW.pt (pw_or (pt_cmpR op_lt (pe_callB call_len_str (by rfl) T.b_len boot_len (pa_cons (pv 3) pa_nil)) pe_int (nomark _)) (pw_or (pt_cmpR op_gt (pe_callB call_len_str (by rfl) T.b_len boot_len (pa_cons (pv 3) pa_nil)) pe_int (nomark _)) (pw_or1 (pt_cmpR (neDK K hr.units) (pv 8) (pe_lst pa_nil) (nomark _)))))) (pss_one (ps_ret (pe_tup (pa_cons (pe_lst pa_nil) (pa_cons pe_str pa_nil))))) pss_nil)
      (pss_one (ps_if (PW.pt (pw_or (pt_cmpR op_gt (pe_callB (call_max4 rfl) (by rfl) T.b_max (by decide +kernel) (pa_cons (pv 4) (pa_cons (pv 5) (pa_cons (pv 6) (pa_cons (pv 7) pa_nil))))) pe_pow12 (nomark _)) (pw_or (pt_cmpR op_gt (pv 4) (pv 5) (nomark _)) (pw_or1 (pt_cmpR op_gt (pv 6) (pv 7) (nomark _)))))) (pss_one (ps_ret (pe_tup (pa_cons (pe_lst pa_nil) (pa_cons pe_str pa_nil))))) pss_nil)))))
      (pss_one (ps_ret (pe_tup (pa_cons (pv 2) (pa_cons pe_str pa_nil))))))))), ?_⟩
    have rl := hx.len
    have out : kindW l ≠ "" → ∀ H', Same H H' → ∀ p t, H' p = none → (upd H' p (.lst [])) t = none → Q (.ref t) (upd (upd H' p (.lst [])) t (.tup [.ref p, .str (kindW l)])) := fun ne H' s p t np nt =>
      qB ne t p _ (s.trans ((same_new np).trans (same_new nt))) (same_new nt _ _ upd_same) upd_same
    refine ⟨_, rfl, ⟨_, rfl⟩, mkS l, ("\n" : Str), rfl, rfl, (by decide +kernel), line_of2 (by rw [mkS_len]; omega), ?_⟩
    unfold rNewStrs
    rw [split10]
    intro pw nw
    generalize hH1 : upd _ pw _ = H1
    obtain ⟨s1, e1⟩ := gen_new hH1 nw
    clear hH1
    dsimp only [gName]
    obtain ⟨init, last, er⟩ := cuts_ends l
    have part : ∀ {v : List Nat}, v ∈ init → Txl 100000 600 v := fun {v} m => (hx.cut (c := 10) (by rw [er]; simp [m])).mono (by decide) (Nat.le_refl _)
    have many : init.length ≤ 100000 := by
      have z := cuts_len 10 l []
      rw [show TL.spl [10] 0 [] l = init ++ [last] from er, List.length_append] at z
      omega
    rw [er, txs_snoc] at e1
    have dw := dueW_of er
    refine ⟨_, rfl, _, rfl, pw, _, rfl, SqL.of e1, fun p2 n2 => ?_⟩
    rw [cut_init]
    generalize hH2 : upd _ p2 _ = H2
    obtain ⟨s2, e2⟩ := gen_new hH2 n2
    clear hH2
    have e0 : ("" : Str) = mkS [] := by decide +kernel
    have s02 := s1.trans s2
    refine ⟨p2, rfl, ⟨_, SqL.of e2⟩, fun D nD => lc_list (K := K) (a := p2) (xs := txs init) (fun i H' => Same H2 H' ∧ ∃ vs : List V, vs.length = i ∧ (∀ (j : Nat) (v : V) (r : List Nat), vs[j]? = some v → init[j]? = some r → OptAt K H' v (letW r)) ∧ H' D = some (.lst vs))
      ⟨same_new nD, [], rfl, fun j v r h => (nomatch h), upd_same⟩ (fun i H' _ h => SqL.of (h.1 _ _ e2)) ?_ ?_⟩
    · rintro i v H' hi ⟨s3, vs, hv, hA, eD⟩
      obtain ⟨r, hr, rfl⟩ := txs_get hi
      have il := (List.getElem?_eq_some_iff.mp hr).1
      have fin : ∀ (v : V) (H3 : Hp), Same H' H3 → OptAt K H3 v (letW r) → ∃ acc, H3 D = some (.lst acc) ∧ acc.length < sizeLine ∧ Same H2 (upd H3 D (.lst (acc ++ [v]))) ∧ ∃ us : List V, us.length = i + 1 ∧ (∀ (j : Nat) (v' : V) (r' : List Nat), us[j]? = some v' → init[j]? = some r' → OptAt K (upd H3 D (.lst (acc ++ [v]))) v' (letW r')) ∧ (upd H3 D (.lst (acc ++ [v]))) D = some (.lst us) := fun v H3 s4 hO => by
        have eD3 := s4 _ _ eD
        refine ⟨vs, eD3, line_lt (by omega), Same.mut (s3.trans s4) nD, vs ++ [v], by rw [List.length_append, hv]; rfl, fun j v' r' a b => ?_, upd_same⟩
        by_cases hj : j < vs.length
        · rw [List.getElem?_append_left hj] at a
          exact ((hA j v' r' a b).same s4).grow eD3
        · have hl := (List.getElem?_eq_some_iff.mp a).1
          rw [List.length_append] at hl
          have ej : j = vs.length := by simp at hl; omega
          subst ej
          rw [List.getElem?_append_right (Nat.le_refl _), Nat.sub_self] at a
          cases a
          rw [hv, hr] at b
          cases b
          exact hO.grow eD3
      refine ⟨rfl, ?_⟩
      refine ⟨_, rfl, r, rfl, part (List.mem_of_getElem? hr), fun no H3 s4 => fin .non H3 s4 (by rw [no]; rfl), fun x ex t H3 s4 eX => fin (.ref t) H3 s4 (by rw [ex]; exact ⟨t, rfl, SqT.of eX⟩)⟩
    rintro H3 ⟨s3, vs, hv, hA, eD⟩
    rw [txs_len] at hv
    have s03 := s02.trans s3
    have e1' := s3 _ _ (s2 _ _ e1)
    dsimp only [gName]
    refine seq_cut (fun σ' H' => H3 = H' ∧ last = [] ∧ (∃ (ls : List Let) (as : List Addr), init.map letW = ls.map some ∧ vs = as.map V.ref ∧ LetsAt K H3 as ls) ∧
      σ' = [some (.str (mkS l)), some (.ref pw), some (.ref D), none, none, none, none, none, none, none, none]) (fun N hN => ?_) ?_
    · refine ⟨_, rfl, _, _, _, _, rfl, rfl, SqL.of e1', atI_last _ _, rfl, _, rfl, ?_⟩
      by_cases hl : last = []
      case neg =>
        refine ite_yes (by rw [decide_eq_false fun z => hl ((strV e0).mp z)]; rfl) ?_
        have kd : kindW l = "text" := kindW_none (dw.trans (if_neg hl))
        refine ⟨(by show 0 ≤ sizeLine; decide), fun p3 n3 => ⟨(by show 2 ≤ sizeLine; decide), fun p4 n4 => ?_⟩⟩
        have z := out (by rw [kd]; decide +kernel) H3 s03 p3 p4 n3 n4
        rw [kd] at z
        exact z
      case pos =>
      refine ite_no (by rw [decide_eq_true ((strV e0).mpr hl)]; rfl) ?_
      refine ⟨_, rfl, .none, init.map fun r => datO (letW r), .non, .lst (SqL.of eD) (dps_of hv fun j v r a b => (hA j v r a b).dp), rfl, ?_, _, rfl, ?_⟩
      · refine Shp.ok (n := 2) (shp_list fun d hd => ?_) (by decide)
        obtain ⟨r, mr, rfl⟩ := List.mem_map.mp hd
        exact shp_datO fun x ex => ((part mr).cut (letW_nm ex)).asc
      rw [any_none]
      by_cases hn : ∃ r ∈ init, letW r = none
      · obtain ⟨r, mr, no⟩ := hn
        refine ite_yes (List.any_eq_true.mpr ⟨r, mr, by rw [no]; rfl⟩) ?_
        have kd : kindW l = "text" := kindW_none (dw.trans ((if_pos hl).trans (dueR_none mr no)))
        refine ⟨(by show 0 ≤ sizeLine; decide), fun p3 n3 => ⟨(by show 2 ≤ sizeLine; decide), fun p4 n4 => ?_⟩⟩
        have z := out (by rw [kd]; decide +kernel) H3 s03 p3 p4 n3 n4
        rw [kd] at z
        exact z
      · refine ite_no (by
          rw [Bool.eq_false_iff]
          intro z
          obtain ⟨r, mr, no⟩ := List.any_eq_true.mp z
          exact hn ⟨r, mr, Option.isNone_iff_eq_none.mp no⟩) ?_
        obtain ⟨ls, as, h1, h2, h3⟩ := all_lets hv hA fun r mr no => hn ⟨r, mr, no⟩
        exact hN _ _ ⟨rfl, hl, ⟨ls, as, h1, h2, h3⟩, rfl⟩
    rintro σ' _ ⟨rfl, hl, ⟨ls, as, hm, rfl, hA3⟩, rfl⟩
    rw [if_pos hl] at dw
    have ds : dueW l = some ls := dw.trans (dueR_some hm)
    have kd := kindW_some ds
    refine ⟨_, rfl, D, rfl, ⟨_, SqL.of eD⟩, for_list (K := K) (a := D) (xs := as.map V.ref) (fun i σ H' => Same H3 H' ∧ (∀ y ∈ ls.take i, told1 y = "") ∧ ∃ v3 v4 v5 v6 v7 v8 : Option V,
        σ = [some (.str (mkS l)), some (.ref pw), some (.ref D), v3, v4, v5, v6, v7, v8, none, none]) ⟨Same.refl H3, fun _ h => (nomatch h), none, none, none, none, none, none, rfl⟩ (fun i σ H' _ h => SqL.of (h.1 _ _ eD)) ?_ ?_⟩
    · rintro i v σ H4 hi ⟨s4, ok, v3, v4, v5, v6, v7, v8, rfl⟩
      obtain ⟨t, x, rfl, ha, hxl, hT⟩ := (hA3.same s4).get hi
      have mx := List.mem_of_getElem? hxl
      obtain ⟨r, mr, ex⟩ : ∃ r ∈ init, letW r = some x := by
        have : some x ∈ init.map letW := by rw [hm]; exact List.mem_map.mpr ⟨x, mx, rfl⟩
        exact List.mem_map.mp this
      have tx := (part mr).cut (letW_nm ex)
      have xl := tx.len
      obtain ⟨n0, n1, n2', n3'⟩ := letW_nn ex
      have s04 := s03.trans s4
      -- refused
      have bad : ∀ (k : Str), told1 x = k → k ≠ "" → ∀ H', Same H4 H' → ∀ p t, H' p = none → (upd H' p (.lst [])) t = none → Q (.ref t) (upd (upd H' p (.lst [])) t (.tup [.ref p, .str k])) := fun k hk ne H' s5 p t np nt => by
        have e : kindW l = k := by rw [kd, firstBad_at ok hxl (by rw [hk]; exact ne), hk]
        have z := out (by rw [e]; exact ne) H' (s04.trans s5) p t np nt
        rw [e] at z
        exact z
      have qN : ¬ nmOk x.nm → ∀ H', Same H4 H' → ∀ p t, H' p = none → (upd H' p (.lst [])) t = none → Q (.ref t) (upd (upd H' p (.lst [])) t (.tup [.ref p, .str "name"])) := fun h => bad "name" (if_neg h) (by decide +kernel)
      have qL : nmOk x.nm → ¬ numsOk x.s x.b x.lo x.hi → ∀ H', Same H4 H' → ∀ p t, H' p = none → (upd H' p (.lst [])) t = none → Q (.ref t) (upd (upd H' p (.lst [])) t (.tup [.ref p, .str "letter"])) := fun h g => bad "letter" ((if_pos h).trans (if_neg g)) (by decide +kernel)
      refine ⟨t, _, rfl, hT, rfl, _, _, rfl, _, _, rfl, _, _, rfl, _, _, rfl, _, _, rfl, rfl, ?_⟩
      refine ⟨_, rfl, mkS x.nm, rfl, fun D2 nD2 => lc_it walk_str (fun i H' => Same H4 H' ∧ ∃ acc : List Nat, H' D2 = some (.lst (acc.map oneV)) ∧ acc.length ≤ i ∧ asc acc ∧ (acc = [] ↔ low (x.nm.take i))) ⟨same_new nD2, [], upd_same, Nat.le_refl _, fun _ h => (nomatch h), fun _ _ h => (nomatch h), fun _ => rfl⟩ (fun _ _ _ _ => trivial) ?_ ?_⟩
      · rintro j y H5 H' hj ⟨s5, acc, eA, hl', aa, hacc⟩ ⟨rfl, c, hc, rfl⟩
        have hz : x.nm[j]? = some c := by simpa [mkS] using hc
        have il : j < x.nm.length := (List.getElem?_eq_some_iff.mp hz).1
        refine ⟨rfl, ?_⟩
        refine ⟨_, rfl, c, _, rfl, rfl, _, rfl, ?_⟩
        rw [alpha_list]
        have mem : c ∈ (List.range 26).map (97 + ·) ↔ 97 ≤ c ∧ c ≤ 122 := by
          rw [List.mem_map]
          constructor
          · rintro ⟨k, hk, rfl⟩
            have := List.mem_range.mp hk
            omega
          · intro h
            exact ⟨c - 97, List.mem_range.mpr (by omega), by omega⟩
        by_cases hlow : 97 ≤ c ∧ c ≤ 122
        · refine ite_no (by rw [decide_eq_true (mem.mpr hlow)]; rfl) ?_
          refine ⟨s5, acc, eA, by omega, aa, ?_⟩
          rw [take_snoc hz, hacc]
          refine ⟨fun h y hy => ?_, fun h y hy => h y (List.mem_append_left _ hy)⟩
          rcases List.mem_append.mp hy with hy | hy
          · exact h y hy
          · rw [List.mem_singleton] at hy
            exact hy ▸ hlow
        · refine ite_yes (by rw [decide_eq_false fun h => hlow (mem.mp h)]; rfl) ?_
          refine ⟨_, rfl, acc.map oneV, eA, line_lt (by rw [List.length_map]; omega), Same.mut s5 nD2, acc ++ [c], upd_same.trans (by rw [List.map_append]; rfl), by rw [List.length_append]; show acc.length + 1 ≤ j + 1; omega, fun y hy => ?_, fun h => ?_, fun h => ?_⟩
          · rcases List.mem_append.mp hy with hy | hy
            · exact aa y hy
            · rw [List.mem_singleton] at hy
              exact hy ▸ tx.asc c (List.mem_of_getElem? hz)
          · simp at h
          · rw [take_snoc hz] at h
            exact absurd (h c (List.mem_append_right _ List.mem_cons_self)) hlow
      · rintro H5 ⟨s5, acc, eA, hl', aa, hacc⟩
        have zz : x.nm.take (mkS x.nm).cps.size = x.nm := List.take_of_length_le (by simp [mkS])
        rw [zz] at hacc
        dsimp only [gName]
        refine ⟨_, rfl, mkS x.nm, rfl, line_of2 (by rw [mkS_len]; omega), _, _, rfl, rfl, _, rfl, ?_⟩
        rw [mkS_len]
        refine ite_dec (fun g1 => ?_) (fun g1 => ?_)
        · refine ⟨(by show 0 ≤ sizeLine; decide), fun p5 n5 => ⟨(by show 2 ≤ sizeLine; decide), fun p6 n6 => ?_⟩⟩
          exact qN (fun h => absurd h.1 (by omega)) H5 s5 p5 p6 n5 n6
        refine ⟨_, rfl, mkS x.nm, rfl, line_of2 (by rw [mkS_len]; omega), _, _, rfl, rfl, _, rfl, ?_⟩
        rw [mkS_len]
        refine ite_dec (fun g2 => ?_) (fun g2 => ?_)
        · refine ⟨(by show 0 ≤ sizeLine; decide), fun p5 n5 => ⟨(by show 2 ≤ sizeLine; decide), fun p6 n6 => ?_⟩⟩
          exact qN (fun h => absurd h.2.1 (by omega)) H5 s5 p5 p6 n5 n6
        refine ⟨_, rfl, (by show 0 ≤ sizeLine; decide), fun p5 n5 => ?_⟩
        refine ⟨.list (acc.map oneD), .list [], .lst (SqL.of ((upd_ne (ne_of_none eA n5)).trans eA)) (dp_ones acc), .lst SqL.here .nil, shp_ones aa, rfl, _, rfl, ?_⟩
        have s6 : Same H4 _ := s5.trans (same_new n5 (o := .lst []))
        generalize upd H5 p5 (.lst []) = H6 at s6 ⊢
        cases acc with
        | cons y ys =>
          refine ite_yes rfl ?_
          refine ⟨(by show 0 ≤ sizeLine; decide), fun p7 n7 => ⟨(by show 2 ≤ sizeLine; decide), fun p8 n8 => ?_⟩⟩
          exact qN (fun h => nomatch (hacc.mpr h.2.2)) H6 s6 p7 p8 n7 n8
        | nil =>
          refine ite_no rfl ?_
          have ok' : nmOk x.nm := ⟨by omega, by omega, hacc.mp rfl⟩
          refine ⟨_, rfl, _, rfl, _, rfl, _, rfl, x.s, x.b, x.lo, x.hi, rfl, fun m hm1 m1 m2 m3 m4 => ?_⟩
          refine ⟨_, _, rfl, rfl, _, rfl, ?_⟩
          refine ite_dec (fun g3 => ?_) (fun g3 => ?_)
          · refine ⟨(by show 0 ≤ sizeLine; decide), fun p7 n7 => ⟨(by show 2 ≤ sizeLine; decide), fun p8 n8 => ?_⟩⟩
            exact qL ok' (fun h => by
              obtain ⟨⟨a1, a2, a3⟩, a4, a5, a6⟩ := h
              rcases hm1 with rfl | rfl | rfl | rfl <;> omega) H6 s6 p7 p8 n7 n8
          refine ⟨_, rfl, _, rfl, _, _, rfl, rfl, _, rfl, ?_⟩
          refine ite_dec (fun g4 => ?_) (fun g4 => ?_)
          · refine ⟨(by show 0 ≤ sizeLine; decide), fun p7 n7 => ⟨(by show 2 ≤ sizeLine; decide), fun p8 n8 => ?_⟩⟩
            exact qL ok' (fun h => by have := h.1.2.1; omega) H6 s6 p7 p8 n7 n8
          refine ⟨_, rfl, _, rfl, _, _, rfl, rfl, _, rfl, ?_⟩
          refine ite_dec (fun g5 => ?_) (fun g5 => ?_)
          · refine ⟨(by show 0 ≤ sizeLine; decide), fun p7 n7 => ⟨(by show 2 ≤ sizeLine; decide), fun p8 n8 => ?_⟩⟩
            exact qL ok' (fun h => by have := h.2.2.1; omega) H6 s6 p7 p8 n7 n8
          refine ⟨s4.trans s6, fun y hy => ?_, _, _, _, _, _, _, rfl⟩
          rw [take_snoc hxl] at hy
          rcases List.mem_append.mp hy with h | h
          · exact ok y h
          · rw [List.mem_singleton] at h
            exact h ▸ (if_pos ok').trans (if_pos ⟨⟨n0, by omega, by omega⟩, n2', by omega, by omega⟩)
    · rintro σ H4 ⟨s4, ok, v3, v4, v5, v6, v7, v8, rfl⟩
      rw [List.length_map, hA3.1, List.take_length] at ok
      refine ⟨_, rfl, (by show 2 ≤ sizeLine; decide), fun t nt => ?_⟩
      have s5 : Same H4 _ := same_new nt (o := .tup [.ref D, .str ""])
      exact q (by rw [kd]; exact firstBad_none ok) ls as t D _ ds ((s03.trans s4).trans s5) ((hA3.same s4).same s5) (s5 _ _ (s4 _ _ eD)) upd_same
/-! ### _law_told -/
abbrev n_told : List Str := ["_law_text", "_law_e"]
theorem sc_told : FnScope ["_law_text", "_law_e"] ["_law_text"] (defScope s_told) := ⟨rfl, rfl, rfl, by decide +kernel, rfl, by decide +kernel, by decide +kernel⟩
theorem ok_told (T : Txt K mg a) (TB_is_name : GxR.TabB base mg a.k_tab_is_name a.P_tab_is_name) (TB_number_of : GxR.TabB base mg a.k_tab_number_of a.P_tab_number_of) : FnOk P w K mg base CX0 4 a.f_told a.d_told ["_law_text"] (spTold K a.P_tab_is_name a.P_tab_number_of) := by
  refine T.told.F.ok sc_told (fun vs H Q E h => ?_) (fun cdv A outer s H vs Q E hr h => ?_)
  · obtain ⟨l, rfl, hx, hP, hN, qB, q⟩ := h
    rfl
  · obtain ⟨l, rfl, hx, hP, hN, qB, q⟩ := h
    have hu := hu_of hr
    refine ⟨_, (pss_one (ps_try_as (ts := fun x cls d => tRet (tTup (tCons (tLst tNil) (tCons (tCallE (spKind K a.cs a.c_StretchError) x cls d (tCons (tVar 1) tNil)) tNil)))) (i := 1) rfl rfl sc_told.nd rfl rfl ⟨rfl, by decide, .inl T.StretchError.g⟩ takes0 (fun W pn xe tk _ => (pss_one (ps_ret (pe_tup (pa_cons (pe_clT (ok_read T TB_is_name TB_number_of) T.read (hr.mono (by decide)) tk (pa_cons (pv 0) pa_nil)) (pa_cons pe_str pa_nil)))))) (fun a oe cls d pn hz hf => (pss_one (ps_ret (pe_tup (pa_cons (pe_lst pa_nil) (pa_cons (pe_callE (p := (a, oe)) (ok_kind T) (rm_suite hr (by decide)) List.mem_cons_self hz hf T.kind.g T.kind.F.kp T.kind.b (pa_cons (pv 1) pa_nil)) pa_nil)))))))), ?_⟩
    have out : ∀ k : Str, kindW l = k → k ≠ "" → ∀ H' p t, H' p = none → ∀ H'', Same (upd H' p (.lst [])) H'' → H'' t = none → Q (.ref t) (upd H'' t (.tup [.ref p, .str k])) := fun k hk ne H' p t np H'' s nt => by
      have z := qB (by rw [hk]; exact ne) t p (upd H'' t (.tup [.ref p, .str k])) (same_new nt _ _ (s _ _ upd_same))
      rw [hk] at z
      exact z upd_same
    refine ⟨_, rfl, l, rfl, hx, hP, hN, fun kd H1 => ?_, fun kd H1 => ?_, fun kd H1 => ?_, fun kd ls as p H1 ds ln k1 hA eL np => ?_⟩
    · refine ⟨true, T.kd_NoText.em, fun _ x nx => ?_, fun z => nomatch z⟩
      refine ⟨(by show 0 ≤ sizeLine; decide), fun p2 n2 => ?_⟩
      refine ⟨_, rfl, rfl, _, 9, rfl, rfl, T.kd_NoText, fun H' s' => ?_⟩
      refine ⟨(by show 2 ≤ sizeLine; decide), fun t nt => ?_⟩
      exact out "text" kd (by decide +kernel) _ p2 t n2 H' s' nt
    · refine ⟨true, T.kd_BadName.em, fun _ x nx => ?_, fun z => nomatch z⟩
      refine ⟨(by show 0 ≤ sizeLine; decide), fun p2 n2 => ?_⟩
      refine ⟨_, rfl, rfl, _, 0, rfl, rfl, T.kd_BadName, fun H' s' => ?_⟩
      refine ⟨(by show 2 ≤ sizeLine; decide), fun t nt => ?_⟩
      exact out "name" kd (by decide +kernel) _ p2 t n2 H' s' nt
    · refine ⟨true, T.kd_BadLetter.em, fun _ x nx => ?_, fun z => nomatch z⟩
      refine ⟨(by show 0 ≤ sizeLine; decide), fun p2 n2 => ?_⟩
      refine ⟨_, rfl, rfl, _, 1, rfl, rfl, T.kd_BadLetter, fun H' s' => ?_⟩
      refine ⟨(by show 2 ≤ sizeLine; decide), fun t nt => ?_⟩
      exact out "letter" kd (by decide +kernel) _ p2 t n2 H' s' nt
    · refine ⟨(by show 2 ≤ sizeLine; decide), fun t nt => ?_⟩
      have s2 : Same H1 _ := same_new nt (o := .tup [.ref p, .str ""])
      exact q kd ls as t p _ ds ln (k1.trans (Kp.of s2)) (hA.same s2) (s2 _ _ eL) np upd_same
/-! ### _law_spoilt -/
abbrev n_spoilt : List Str := ["_law_rows", "_law_cell", "_law_text", "_law_at", "_law_odd_here", "_law_sign_here", "_law_row_here"]
theorem sc_spoilt : FnScope ["_law_rows", "_law_cell", "_law_text", "_law_at", "_law_odd_here", "_law_sign_here", "_law_row_here"] ["_law_rows", "_law_cell"] (defScope s_spoilt) := ⟨rfl, rfl, rfl, by decide +kernel, rfl, by decide +kernel, by decide +kernel⟩
theorem ok_spoilt (T : Txt K mg a) : FnOk P w K mg base CX0 3 a.f_spoilt a.d_spoilt ["_law_rows", "_law_cell"] (spSpoilt) := by
  refine T.spoilt.F.ok sc_spoilt (fun vs H Q E h => ?_) (fun cdv A outer s H vs Q E hr h => ?_)
  · obtain ⟨p, c, rows, rfl, hL, hl, hR, q⟩ := h
    rfl
  · obtain ⟨p, c, rows, rfl, hL, hl, hR, q⟩ := h
    have hu := hu_of hr
    refine ⟨_, (pss_cons (ps_set (i := 2) sc_spoilt.nd rfl (Or.inl rfl) (pe_join pe_str (pe_lc (own := [("_law_row_here", 6)]) (g := gName 6) (tt := tYes) rfl sc_spoilt.nd (piL K (pv 0)) (blkOk_by (N := n_spoilt) (sc := defScope s_spoilt) (by decide +kernel)) (fun _ _ _ _ _ => pg_name (i := 6) sc_spoilt.nd rfl (Or.inl rfl)) (fun _ _ _ _ _ => pts_nil) (fun _ _ _ _ _ => (pe_op op_add_str (pv 6) pe_str)))))
      (pss_cons (ps_set (i := 3) sc_spoilt.nd rfl (Or.inl rfl) (pe_op op_mod (pe_cl (ok_mix T) T.mix (hr.mono (by decide)) (pa_cons (pv 1) (pa_cons pe_int pa_nil))) (pe_callB (call_max2 rfl) (by rfl) T.b_max (by decide +kernel) (pa_cons pe_int (pa_cons (pe_callB call_len_str (by rfl) T.b_len boot_len (pa_cons (pv 2) pa_nil)) pa_nil)))))
      (pss_cons (ps_if (pt_cmpR op_eq (pe_op (op_modc (c := 6) (by decide)) (pv 1) pe_int) pe_int (nomark _)) (pss_cons (ps_set (i := 4) sc_spoilt.nd rfl (Or.inl rfl) (pe_ix (ixL K) (pe_lst (pa_cons (pe_cl (ok_odd T) T.odd (hr.mono (by decide)) (pa_cons (pe_op (op_divc (c := 6) (by decide) (by decide)) (pv 1) pe_int) pa_nil)) (pa_cons (pe_cl (ok_row T) T.row (hr.mono (by decide)) (pa_cons (pe_cl (ok_w_none T) T.w_none (hr.mono (by decide)) (pa_cons (pe_op (op_divc (c := 6) (by decide) (by decide)) (pv 1) pe_int) pa_nil)) pa_nil)) pa_nil))) (pe_op (op_modc (c := 2) (by decide)) (pe_op (op_divc (c := 120) (by decide) (by decide)) (pv 1) pe_int) pe_int) (fun _ _ => rfl)))
      (pss_cons (ps_expr (pe_bm PySem.F.plainAttrs_list PySem.F.slot_list_insert PySem.F.type_list_insert mt_insert (pv 0) (pa_cons (pe_op op_mod (pe_cl (ok_mix T) T.mix (hr.mono (by decide)) (pa_cons (pv 1) (pa_cons pe_int pa_nil))) (pe_op op_add (pe_callB (lenK K) (by rfl) T.b_len boot_len (pa_cons (pv 0) pa_nil)) pe_int)) (pa_cons (pv 4) pa_nil))))
      (pss_one (ps_ret (pe_join pe_str (pe_lc (own := [("_law_row_here", 6)]) (g := gName 6) (tt := tYes) rfl sc_spoilt.nd (piL K (pv 0)) (blkOk_by (N := n_spoilt) (sc := defScope s_spoilt) (by decide +kernel)) (fun _ _ _ _ _ => pg_name (i := 6) sc_spoilt.nd rfl (Or.inl rfl)) (fun _ _ _ _ _ => pts_nil) (fun _ _ _ _ _ => (pe_op op_add_str (pv 6) pe_str)))))))) pss_nil)
      (pss_cons (ps_if (PW.pt (pw_and (pt_cmpR op_eq (pe_op (op_modc (c := 6) (by decide)) (pv 1) pe_int) pe_int (nomark _)) (pw_and1 (pt_cmpR op_ne (pv 2) pe_str (nomark _))))) (pss_cons (ps_set (i := 5) sc_spoilt.nd rfl (Or.inl rfl) (pe_ix (ixL K) (pe_lst (pa_cons (pe_cl (ok_sign T) T.sign (hr.mono (by decide)) (pa_cons (pe_op (op_divc (c := 18) (by decide) (by decide)) (pv 1) pe_int) pa_nil)) (pa_cons pe_str (pa_cons (pe_op op_add_str (pe_ix ix_str (pv 2) (pv 3) (fun _ _ => rfl)) (pe_ix ix_str (pv 2) (pv 3) (fun _ _ => rfl))) pa_nil)))) (pe_op (op_modc (c := 3) (by decide)) (pe_op (op_divc (c := 6) (by decide) (by decide)) (pv 1) pe_int) pe_int) (fun _ _ => rfl)))
      (pss_one (ps_ret (pe_op op_add_str (pe_op op_add_str (pe_slice sl_str (pv 2) po_none (po_some (pv 3))) (pv 5)) (pe_slice sl_str (pv 2) (po_some (pe_op op_add (pv 3) pe_int)) po_none))))) pss_nil)
      (pss_cons (ps_if (PW.pt (pw_and (pt_cmpR op_eq (pe_op (op_modc (c := 6) (by decide)) (pv 1) pe_int) pe_int (nomark _)) (pw_and (pt_cmpR op_ne (pv 2) pe_str (nomark _)) (pw_and1 (pt_cmpR op_in_sign (pe_ix ix_str (pv 2) (pv 3) (fun _ _ => rfl)) pe_str rfl))))) (pss_one (ps_ret (pe_op op_add_str (pe_op op_add_str (pe_slice sl_str (pv 2) po_none (po_some (pv 3))) pe_str) (pe_slice sl_str (pv 2) (po_some (pv 3)) po_none)))) pss_nil)
      (pss_cons (ps_if (pt_cmpR op_eq (pe_op (op_modc (c := 6) (by decide)) (pv 1) pe_int) pe_int (nomark _)) (pss_one (ps_ret (pe_slice sl_str (pv 2) po_none (po_some (pe_op op_sub (pe_callB call_len_str (by rfl) T.b_len boot_len (pa_cons (pv 2) pa_nil)) pe_int))))) pss_nil)
      (pss_cons (ps_if (pt_cmpR op_eq (pe_op (op_modc (c := 6) (by decide)) (pv 1) pe_int) pe_int (nomark _)) (pss_cons (ps_expr (pe_bm PySem.F.plainAttrs_list PySem.F.slot_list_insert PySem.F.type_list_insert mt_insert (pv 0) (pa_cons (pe_op op_mod (pe_cl (ok_mix T) T.mix (hr.mono (by decide)) (pa_cons (pv 1) (pa_cons pe_int pa_nil))) (pe_op op_add (pe_callB (lenK K) (by rfl) T.b_len boot_len (pa_cons (pv 0) pa_nil)) pe_int)) (pa_cons (pe_cl (ok_row T) T.row (hr.mono (by decide)) (pa_cons (pe_cl (ok_w_none T) T.w_none (hr.mono (by decide)) (pa_cons (pe_op (op_divc (c := 6) (by decide) (by decide)) (pv 1) pe_int) pa_nil)) pa_nil)) pa_nil))))
      (pss_cons (ps_set (i := 4) sc_spoilt.nd rfl (Or.inl rfl) (pe_ix (ixL K) (pe_lst (pa_cons (pe_cl (ok_odd T) T.odd (hr.mono (by decide)) (pa_cons (pe_op (op_divc (c := 54) (by decide) (by decide)) (pv 1) pe_int) pa_nil)) (pa_cons (pe_cl (ok_row T) T.row (hr.mono (by decide)) (pa_cons (pe_cl (ok_w_none T) T.w_none (hr.mono (by decide)) (pa_cons (pe_op (op_divc (c := 54) (by decide) (by decide)) (pv 1) pe_int) pa_nil)) pa_nil)) pa_nil))) (pe_op (op_modc (c := 2) (by decide)) (pe_op (op_divc (c := 12) (by decide) (by decide)) (pv 1) pe_int) pe_int) (fun _ _ => rfl)))
      (pss_cons (ps_expr (pe_bm PySem.F.plainAttrs_list PySem.F.slot_list_insert PySem.F.type_list_insert mt_insert (pv 0) (pa_cons (pe_op op_mod (pe_cl (ok_mix T) T.mix (hr.mono (by decide)) (pa_cons (pv 1) (pa_cons pe_int pa_nil))) (pe_op op_add (pe_callB (lenK K) (by rfl) T.b_len boot_len (pa_cons (pv 0) pa_nil)) pe_int)) (pa_cons (pv 4) pa_nil))))
      (pss_one (ps_ret (pe_join pe_str (pe_lc (own := [("_law_row_here", 6)]) (g := gName 6) (tt := tYes) rfl sc_spoilt.nd (piL K (pv 0)) (blkOk_by (N := n_spoilt) (sc := defScope s_spoilt) (by decide +kernel)) (fun _ _ _ _ _ => pg_name (i := 6) sc_spoilt.nd rfl (Or.inl rfl)) (fun _ _ _ _ _ => pts_nil) (fun _ _ _ _ _ => (pe_op op_add_str (pv 6) pe_str))))))))) pss_nil)
      (pss_one (ps_ret (pv 2)))))))))), ?_⟩
    refine ⟨⟨_, rfl⟩, lines_ok (K := K) (SqL.of hL) (by omega) (fun r m => by have := (hR r m).len; omega) fun D H1 s1 eD => ?_⟩
    rw [txs_map] at eD
    refine ⟨_, _, _, rfl, rfl, .inl (SqL.of eD), ?_, ?_⟩
    · have := sum_lines fun r m => (hR r m).len
      have e0 : ("" : Str).length = 0 := by decide +kernel
      rw [e0]
      omega
    rw [join_lines]
    dsimp only [gName]
    have tx := lines_txl hR
    have tl := tx.len
    have hL1 := s1 _ _ hL
    generalize lineL rows = L at tx tl ⊢
    refine ⟨_, rfl, c, 2, rfl, fun mx m0 m1 => ?_⟩
    refine ⟨_, rfl, mkS L, rfl, line_of2 (by rw [mkS_len]; omega), _, _, rfl, ?_⟩
    rw [mkS_len]
    refine ⟨_, _, rfl, rfl, (by show 0 < (if (L.length : Int) > 1 then (L.length : Int) else 1); split <;> omega), ?_⟩
    obtain ⟨k, hk, hk1, hk2⟩ : ∃ k : Nat, mx % (if (L.length : Int) > 1 then (L.length : Int) else 1) = (k : Int) ∧ (L ≠ [] → k < L.length) ∧ k ≤ L.length := by
      generalize hb : (if (L.length : Int) > 1 then (L.length : Int) else 1) = b
      have b1 : 1 ≤ b := by rw [← hb]; split <;> omega
      have r0 : 0 ≤ mx % b := Int.emod_nonneg _ (by omega)
      have r1 : mx % b < b := Int.emod_lt_of_pos _ (by omega)
      have b2 : b ≤ (L.length : Int) ∨ b = 1 := by rw [← hb]; split <;> omega
      refine ⟨(mx % b).toNat, (Int.toNat_of_nonneg r0).symm, fun ne => ?_, ?_⟩
      · have : 1 ≤ L.length := by
          cases L with
          | nil => exact absurd rfl ne
          | cons _ _ => rw [List.length_cons]; omega
        omega
      · omega
    dsimp only [gName]
    rw [hk]
    -- rows laid, joined
    have done : ∀ (rows' : List (List Nat)) (s2 s3 s4 s5 s6 : Option V) (H5 : Hp), H5 p = some (.lst (txs rows')) → rows'.length ≤ 40 → (∀ r ∈ rows', Txl 400 60 r) → TabS p H H5 → True := fun _ _ _ _ _ _ _ _ _ _ _ => trivial
    refine seq_cut (fun σ' H' => H1 = H' ∧ σ' = [some (.ref p), some (.int c), some (.str (mkS L)), some (.int (k : Int)), none, none, none]) (fun N hN => ?_) ?_
    · refine ⟨_, rfl, _, rfl, rfl, rfl, _, rfl, ?_⟩
      refine ite_eq (fun z => ?_) (fun z => ?_)
      · refine ⟨_, rfl, _, rfl, rfl, _, rfl, fun r1 H2 t1 s2 => ?_⟩
        refine ⟨_, rfl, _, rfl, rfl, _, rfl, fun x t H3 o3 s3 e3 => ?_⟩
        refine ⟨t, x, rfl, SqT.of e3, o3, fun r2 t2 => ?_⟩
        refine ⟨(by show 2 ≤ sizeLine; decide), fun p4 n4 => ?_⟩
        refine ⟨_, rfl, _, rfl, rfl, _, rfl, rfl, ?_⟩
        refine ix_any (fun v => ∃ r, v = .str (mkS r) ∧ Txl 400 60 r) SqL.here (Int.emod_nonneg _ (by decide)) (Int.emod_lt_of_pos _ (by decide)) (allc ⟨r1, rfl, t1⟩ (all1 ⟨r2, rfl, t2⟩)) ?_
        rintro _ ⟨r, rfl, tr⟩
        have s4 := same_new n4 (o := .lst [.str (mkS r1), .str (mkS r2)])
        generalize upd H3 p4 _ = H4 at s4 ⊢
        have s14 := s2.trans (s3.trans s4)
        have eR := s14 _ _ hL1
        dsimp only [gName]
        refine ⟨_, rfl, .inl ⟨rfl, _, SqL.of eR⟩, _, rfl, c, 3, rfl, fun m' q0 q1 => ?_⟩
        refine ⟨_, rfl, _, _, rfl, .inl (SqL.of eR), _, _, rfl, rfl, ?_⟩
        rw [txs_len]
        have i0 : 0 ≤ m' % ((rows.length : Int) + 1) := Int.emod_nonneg _ (by omega)
        have i1 : m' % ((rows.length : Int) + 1) < (rows.length : Int) + 1 := Int.emod_lt_of_pos _ (by omega)
        refine ⟨_, _, rfl, rfl, (by show (0 : Int) < (rows.length : Int) + 1; omega), _, rfl, p, _, _, _, rfl, rfl, eR, line_lt (by rw [txs_len]; omega), i0, (by show m' % ((rows.length : Int) + 1) < 2 ^ 63; omega), ?_⟩
        rw [txs_ins]
        have n5 : (rows.take (m' % ((rows.length : Int) + 1)).toNat ++ [r] ++ rows.drop (m' % ((rows.length : Int) + 1)).toNat).length ≤ 40 := by
          simp only [List.length_append, List.length_take, List.length_drop, List.length_cons, List.length_nil]
          omega
        have a5 : ∀ z ∈ rows.take (m' % ((rows.length : Int) + 1)).toNat ++ [r] ++ rows.drop (m' % ((rows.length : Int) + 1)).toNat, Txl 400 60 z := fun z mz => by
          rcases List.mem_append.mp mz with mz | mz
          · rcases List.mem_append.mp mz with mz | mz
            · exact hR z (List.mem_of_mem_take mz)
            · rw [List.mem_singleton] at mz
              exact mz ▸ tr
          · exact hR z (List.mem_of_mem_drop mz)
        generalize rows.take (m' % ((rows.length : Int) + 1)).toNat ++ [r] ++ rows.drop (m' % ((rows.length : Int) + 1)).toNat = rows5 at n5 a5 ⊢
        have e5 : (upd H4 p (.lst (txs rows5))) p = some (.lst (txs rows5)) := upd_same
        have t5 : TabS p H (upd H4 p (.lst (txs rows5))) := tabs_mut (tabs_same (s1.trans s14))
        generalize upd H4 p (.lst (txs rows5)) = H5 at e5 t5 ⊢
        refine ⟨⟨_, rfl⟩, lines_ok (K := K) (SqL.of e5) (by omega) (fun r m => by have := (a5 r m).len; omega) fun D2 H6 s6 eD6 => ?_⟩
        rw [txs_map] at eD6
        refine ⟨_, _, _, rfl, rfl, .inl (SqL.of eD6), ?_, ?_⟩
        · have := sum_lines fun r m => (a5 r m).len
          have e0 : ("" : Str).length = 0 := by decide +kernel
          rw [e0]
          omega
        rw [join_lines]
        exact q _ _ ((lines_txl a5).mono (by omega) (by decide)) (t5.andThen s6)
      · exact hN _ _ ⟨rfl, rfl⟩
    rintro σ' _ ⟨rfl, rfl⟩
    have hq : ∀ (l : List Nat) (H' : Hp), Txl 90000 600 l → Same H1 H' → Q (.str (mkS l)) H' := fun l H' t s => q l H' t (tabs_same (s1.trans s))
    have asc_at : ∀ d, L[k]? = some d → d < 128 := fun d h => tx.asc d (List.mem_of_getElem? h)
    have e0 : ("" : Str) = mkS [] := by decide +kernel
    -- one sign exchanged, left out, told twice
    refine seq_cut (fun σ' H' => H1 = H' ∧ σ' = [some (.ref p), some (.int c), some (.str (mkS L)), some (.int (k : Int)), none, none, none]) (fun N hN => ?_) ?_
    · refine ⟨_, rfl, _, rfl, rfl, rfl, _, rfl, ?_⟩
      refine ite_eq (fun z => ?_) (fun z => ?_)
      · refine ⟨_, rfl, rfl, _, rfl, ?_⟩
        by_cases hl0 : L = []
        · refine ite_no (by rw [decide_eq_true ((strV e0).mpr hl0)]; rfl) ?_
          exact hN _ _ ⟨rfl, rfl⟩
        refine ite_yes (by rw [decide_eq_false fun z => hl0 ((strV e0).mp z)]; rfl) ?_
        obtain ⟨d0, hd0⟩ : ∃ d, L[k]? = some d := ⟨_, List.getElem?_eq_getElem (hk1 hl0)⟩
        have at0 : atI (mkS L).cps.toList (k : Int) = some d0 := atI_nat (by rw [mkS_list]; exact hd0)
        refine ⟨_, rfl, _, rfl, rfl, _, rfl, fun d hd => ?_⟩
        refine ⟨_, rfl, _, rfl, mkS L, _, d0, rfl, rfl, line_of2 (by rw [mkS_len]; omega), at0, _, rfl, _, rfl, mkS L, _, d0, rfl, rfl, line_of2 (by rw [mkS_len]; omega), at0, _, _, rfl, rfl, (by show 1 + 1 ≤ sizeLine; decide), ?_⟩
        refine ⟨(by show 3 ≤ sizeLine; decide), fun p4 n4 => ?_⟩
        generalize hA : upd _ p4 _ = H4
        obtain ⟨s4, e4⟩ := gen_new hA n4
        clear hA
        refine ⟨_, rfl, _, rfl, rfl, _, rfl, rfl, ?_⟩
        refine ix_any (fun v => ∃ r : List Nat, v = .str (mkS r) ∧ r.length ≤ 2 ∧ ∀ c ∈ r, c < 128) (SqL.of e4) (Int.emod_nonneg _ (by decide)) (Int.emod_lt_of_pos _ (by decide)) (allc ⟨[d], rfl, (show 1 ≤ 2 by decide), fun c m => by rw [List.mem_singleton] at m; exact m ▸ hd⟩ (allc ⟨[], by rw [e0], by decide, fun _ m => (nomatch m)⟩ (all1 ⟨[d0, d0], congrArg V.str (mkS_cat [d0] [d0]), (show 2 ≤ 2 by decide), fun c m => by
          have : c = d0 := by simpa using m
          exact this ▸ asc_at d0 hd0⟩))) ?_
        rintro _ ⟨r, rfl, rl, ra⟩
        dsimp only [gName]
        refine ⟨_, rfl, _, rfl, _, rfl, mkS L, rfl, line_of2 (by rw [mkS_len]; omega), ?_⟩
        rw [cut_to]
        refine ⟨_, rfl, _, _, rfl, rfl, line_of2 (by rw [mkS_len, mkS_len, List.length_take]; omega), ?_⟩
        rw [mkS_cat]
        refine ⟨_, rfl, _, rfl, _, _, rfl, rfl, _, rfl, mkS L, rfl, line_of2 (by rw [mkS_len]; omega), ?_⟩
        rw [show ((k : Int) + 1) = ((k + 1 : Nat) : Int) from rfl, cut_from]
        refine ⟨_, _, rfl, rfl, line_of2 (by rw [mkS_len, mkS_len, List.length_append, List.length_take, List.length_drop]; omega), ?_⟩
        rw [mkS_cat]
        exact hq _ H4 (spoil3 tx rl ra (by omega)) s4
      · exact hN _ _ ⟨rfl, rfl⟩
    rintro σ' _ ⟨rfl, rfl⟩
    -- a nought put ahead of a number
    refine seq_cut (fun σ' H' => H1 = H' ∧ σ' = [some (.ref p), some (.int c), some (.str (mkS L)), some (.int (k : Int)), none, none, none]) (fun N hN => ?_) ?_
    · refine ⟨_, rfl, _, rfl, rfl, rfl, _, rfl, ?_⟩
      refine ite_eq (fun z => ?_) (fun z => ?_)
      · refine ⟨_, rfl, rfl, _, rfl, ?_⟩
        by_cases hl0 : L = []
        · refine ite_no (by rw [decide_eq_true ((strV e0).mpr hl0)]; rfl) ?_
          exact hN _ _ ⟨rfl, rfl⟩
        refine ite_yes (by rw [decide_eq_false fun z => hl0 ((strV e0).mp z)]; rfl) ?_
        obtain ⟨d0, hd0⟩ : ∃ d, L[k]? = some d := ⟨_, List.getElem?_eq_getElem (hk1 hl0)⟩
        have at0 : atI (mkS L).cps.toList (k : Int) = some d0 := atI_nat (by rw [mkS_list]; exact hd0)
        refine ⟨_, rfl, _, rfl, mkS L, _, d0, rfl, rfl, line_of2 (by rw [mkS_len]; omega), at0, d0, _, rfl, rfl, _, rfl, ?_⟩
        refine ite_dec (fun _ => ?_) (fun _ => ?_)
        · refine ⟨_, rfl, _, rfl, _, rfl, mkS L, rfl, line_of2 (by rw [mkS_len]; omega), ?_⟩
          rw [cut_to]
          have e48 : ("0" : Str) = mkS [48] := by decide +kernel
          refine ⟨_, _, rfl, rfl, line_of2 (by rw [e48, mkS_len, mkS_len, List.length_take]; simp only [List.length_cons, List.length_nil]; omega), ?_⟩
          rw [e48, mkS_cat]
          refine ⟨_, rfl, _, rfl, _, rfl, mkS L, rfl, line_of2 (by rw [mkS_len]; omega), ?_⟩
          rw [cut_from]
          refine ⟨_, _, rfl, rfl, line_of2 (by rw [mkS_len, mkS_len, List.length_append, List.length_take, List.length_drop]; simp only [List.length_cons, List.length_nil]; omega), ?_⟩
          rw [mkS_cat]
          exact hq _ H1 (spoil3 tx (show 1 ≤ 2 by decide) (fun c m => by rw [List.mem_singleton] at m; exact m ▸ (by decide)) (by omega)) (Same.refl H1)
        · exact hN _ _ ⟨rfl, rfl⟩
      · exact hN _ _ ⟨rfl, rfl⟩
    rintro σ' _ ⟨rfl, rfl⟩
    -- the last sign left out
    refine seq_cut (fun σ' H' => H1 = H' ∧ σ' = [some (.ref p), some (.int c), some (.str (mkS L)), some (.int (k : Int)), none, none, none]) (fun N hN => ?_) ?_
    · refine ⟨_, rfl, _, rfl, rfl, rfl, _, rfl, ?_⟩
      refine ite_eq (fun z => ?_) (fun z => ?_)
      · refine ⟨_, rfl, _, rfl, mkS L, rfl, line_of2 (by rw [mkS_len]; omega), _, _, rfl, rfl, _, rfl, mkS L, rfl, line_of2 (by rw [mkS_len]; omega), ?_⟩
        rw [mkS_len, cut_last]
        refine hq _ H1 ⟨?_, fun c m => tx.asc c (List.mem_of_mem_take m), (tx.run.take).mono (by decide)⟩ (Same.refl H1)
        rw [List.length_take]
        omega
      · exact hN _ _ ⟨rfl, rfl⟩
    rintro σ' _ ⟨rfl, rfl⟩
    -- two odd rows
    refine seq_cut (fun σ' H' => H1 = H' ∧ σ' = [some (.ref p), some (.int c), some (.str (mkS L)), some (.int (k : Int)), none, none, none]) (fun N hN => ?_) ?_
    · refine ⟨_, rfl, _, rfl, rfl, rfl, _, rfl, ?_⟩
      refine ite_eq (fun z => ?_) (fun z => ?_)
      · refine ⟨_, rfl, .inl ⟨rfl, _, SqL.of hL1⟩, _, rfl, c, 3, rfl, fun m' q0 q1 => ?_⟩
        refine ⟨_, rfl, _, _, rfl, .inl (SqL.of hL1), _, _, rfl, rfl, ?_⟩
        rw [txs_len]
        have i0 : 0 ≤ m' % ((rows.length : Int) + 1) := Int.emod_nonneg _ (by omega)
        have i1 : m' % ((rows.length : Int) + 1) < (rows.length : Int) + 1 := Int.emod_lt_of_pos _ (by omega)
        refine ⟨_, _, rfl, rfl, (by show (0 : Int) < (rows.length : Int) + 1; omega), _, rfl, _, rfl, rfl, _, rfl, fun x t H3 o3 s3 e3 => ?_⟩
        refine ⟨t, x, rfl, SqT.of e3, o3, fun r tr => ?_⟩
        have eR := s3 _ _ hL1
        refine ⟨p, _, _, _, rfl, rfl, eR, line_lt (by rw [txs_len]; omega), i0, (by show m' % ((rows.length : Int) + 1) < 2 ^ 63; omega), ?_⟩
        rw [txs_ins]
        obtain ⟨n5, a5⟩ := ins_ok (i := (m' % ((rows.length : Int) + 1)).toNat) hl hR tr
        generalize rows.take (m' % ((rows.length : Int) + 1)).toNat ++ [r] ++ rows.drop (m' % ((rows.length : Int) + 1)).toNat = rows5 at n5 a5 ⊢
        have e5 : (upd H3 p (.lst (txs rows5))) p = some (.lst (txs rows5)) := upd_same
        have t5 : TabS p H (upd H3 p (.lst (txs rows5))) := tabs_mut (tabs_same (s1.trans s3))
        generalize upd H3 p (.lst (txs rows5)) = H5 at e5 t5 ⊢
        refine ⟨_, rfl, _, rfl, rfl, _, rfl, fun r1 H6 u1 s6 => ?_⟩
        refine ⟨_, rfl, _, rfl, rfl, _, rfl, fun x6 t6 H7 o7 s7 e7 => ?_⟩
        refine ⟨t6, x6, rfl, SqT.of e7, o7, fun r2 u2 => ?_⟩
        refine ⟨(by show 2 ≤ sizeLine; decide), fun p4 n4 => ?_⟩
        generalize hA : upd _ p4 _ = H8
        obtain ⟨s8, e8⟩ := gen_new hA n4
        clear hA
        refine ⟨_, rfl, _, rfl, rfl, _, rfl, rfl, ?_⟩
        refine ix_any (fun v => ∃ r, v = .str (mkS r) ∧ Txl 400 60 r) (SqL.of e8) (Int.emod_nonneg _ (by decide)) (Int.emod_lt_of_pos _ (by decide)) (allc ⟨r1, rfl, u1⟩ (all1 ⟨r2, rfl, u2⟩)) ?_
        rintro _ ⟨r3, rfl, u3⟩
        have s58 := s6.trans (s7.trans s8)
        have eS := s58 _ _ e5
        dsimp only [gName]
        refine ⟨_, rfl, .inl ⟨rfl, _, SqL.of eS⟩, _, rfl, c, 4, rfl, fun m2 q2 q3 => ?_⟩
        refine ⟨_, rfl, _, _, rfl, .inl (SqL.of eS), _, _, rfl, rfl, ?_⟩
        rw [txs_len]
        have j0 : 0 ≤ m2 % ((rows5.length : Int) + 1) := Int.emod_nonneg _ (by omega)
        have j1 : m2 % ((rows5.length : Int) + 1) < (rows5.length : Int) + 1 := Int.emod_lt_of_pos _ (by omega)
        refine ⟨_, _, rfl, rfl, (by show (0 : Int) < (rows5.length : Int) + 1; omega), _, rfl, p, _, _, _, rfl, rfl, eS, line_lt (by rw [txs_len]; omega), j0, (by show m2 % ((rows5.length : Int) + 1) < 2 ^ 63; omega), ?_⟩
        rw [txs_ins]
        obtain ⟨n9, a9⟩ := ins_ok (i := (m2 % ((rows5.length : Int) + 1)).toNat) n5 a5 u3
        generalize rows5.take (m2 % ((rows5.length : Int) + 1)).toNat ++ [r3] ++ rows5.drop (m2 % ((rows5.length : Int) + 1)).toNat = rows9 at n9 a9 ⊢
        have e9 : (upd H8 p (.lst (txs rows9))) p = some (.lst (txs rows9)) := upd_same
        have t9 : TabS p H (upd H8 p (.lst (txs rows9))) := tabs_mut (t5.andThen s58)
        generalize upd H8 p (.lst (txs rows9)) = H9 at e9 t9 ⊢
        refine ⟨⟨_, rfl⟩, lines_ok (K := K) (SqL.of e9) (by omega) (fun r m => by have := (a9 r m).len; omega) fun D2 H6 s6 eD6 => ?_⟩
        rw [txs_map] at eD6
        refine ⟨_, _, _, rfl, rfl, .inl (SqL.of eD6), ?_, ?_⟩
        · have := sum_lines fun r m => (a9 r m).len
          have e0 : ("" : Str).length = 0 := by decide +kernel
          rw [e0]
          omega
        rw [join_lines]
        exact q _ _ ((lines_txl a9).mono (by omega) (by decide)) (t9.andThen s6)
      · exact hN _ _ ⟨rfl, rfl⟩
    rintro σ' _ ⟨rfl, rfl⟩
    exact ⟨_, rfl, hq _ H1 (tx.mono (by omega) (by decide)) (Same.refl H1)⟩
/-! ### _law_kinds -/
abbrev n_kinds : List Str := ["_law_found", "_law_letter_here", "_law_number_here"]
theorem sc_kinds : FnScope ["_law_found", "_law_letter_here", "_law_number_here"] ["_law_found"] (defScope s_kinds) := ⟨rfl, rfl, rfl, by decide +kernel, rfl, by decide +kernel, by decide +kernel⟩
theorem ok_kinds (T : Txt K mg a) : FnOk P w K mg base CX0 2 a.f_kinds a.d_kinds ["_law_found"] (spKinds K) := by
  refine T.kinds.F.ok sc_kinds (fun vs H Q E h => ?_) (fun cdv A outer s H vs Q E hr h => ?_)
  · obtain ⟨p, as, ls, rfl, hL, hA, q⟩ := h
    rfl
  · obtain ⟨p, as, ls, rfl, hL, hA, q⟩ := h
    have hu := hu_of hr
    refine ⟨_, (pss_cons (ps_for PassesOwn.never rfl (piL K (pv 0)) (pg_name (i := 1) sc_kinds.nd rfl (Or.inl rfl)) (pss_cons (ps_if (PW.pt (pw_or (pt_not (pt_val (pe_callB (isiK K) (by rfl) T.b_isinstance (by decide +kernel) (pa_cons (pv 1) (pa_cons (pe_bty (n := "tuple") T.b_tuple (by decide +kernel)) pa_nil))))) (pw_or (pt_cmpR op_ne (pe_callB (lenK K) (by rfl) T.b_len boot_len (pa_cons (pv 1) pa_nil)) pe_int (nomark _)) (pw_or1 (pt_not (pt_val (pe_callB (isiK K) (by rfl) T.b_isinstance (by decide +kernel) (pa_cons (pe_ix (ixT K) (pv 1) pe_int (fun _ _ => rfl)) (pa_cons (pe_bty (n := "str") T.b_str (by decide +kernel)) pa_nil))))))))) (pss_one (ps_ret pe_bl)) pss_nil)
      (pss_one (ps_if (pt_cmpR (neDK K hr.units) (pe_lc (own := [("_law_number_here", 2)]) (g := gName 2) rfl sc_kinds.nd (piT K (pe_slice (slT K) (pv 1) (po_some pe_int) po_none)) (blkOk_by (N := n_kinds) (sc := defScope s_kinds) (by decide +kernel)) (fun _ _ _ _ _ => pg_name (i := 2) sc_kinds.nd rfl (Or.inl rfl)) (fun _ _ _ _ _ => pts_one (pt_not (pt_val (pe_cl (ok_whole T) T.whole (hr.mono (by decide)) (pa_cons (pv 2) pa_nil))))) (fun _ _ _ _ _ => (pv 2))) (pe_lst pa_nil) (nomark _)) (pss_one (ps_ret pe_bl)) pss_nil))))
      (pss_one (ps_ret pe_bl))), ?_⟩
    refine ⟨_, rfl, p, rfl, ⟨_, hL⟩, for_list (K := K) (a := p) (xs := as.map V.ref) (fun i σ H' => Same H H' ∧ ∃ v1 : Option V, σ = [some (.ref p), v1, none]) ⟨Same.refl H, none, rfl⟩ (fun i σ H' _ h => h.1.seq hL) ?_ ?_⟩
    · rintro i v σ H1 hi ⟨s1, v1, rfl⟩
      obtain ⟨t, x, rfl, ha, hx, hT⟩ := (hA.same s1).get hi
      refine ⟨_, rfl, _, _, _, _, true, rfl, .ty _, tyT hT, kit_ty (by decide +kernel), _, rfl, ?_⟩
      refine iteF ?_
      refine ⟨_, rfl, _, _, rfl, .inr hT, rfl, _, rfl, ?_⟩
      refine iteNS rfl ?_
      refine ⟨_, rfl, _, _, _, _, rfl, rfl, hT, atI_nat (j := 0) rfl, _, _, _, _, true, rfl, .ty _, .base (.str _), kit_ty (by decide +kernel), _, rfl, ?_⟩
      refine iteF ?_
      dsimp only [gName, tNext]
      refine ⟨_, rfl, _, rfl, t, _, rfl, hT, (fun h => absurd h.1 (by show ¬ HT.sIx 5 0 (some 1) = 0; decide)), fun p3 n3 => ?_⟩
      have e3 : (upd H1 p3 (.tup (cutV x.vals (some 1) none))) p3 = some (.tup [.int x.s, .int x.b, .int x.lo, .int x.hi]) := upd_same
      have s3 : Same H1 (upd H1 p3 (.tup (cutV x.vals (some 1) none))) := same_new n3
      generalize upd H1 p3 (.tup (cutV x.vals (some 1) none)) = H2 at e3 s3 ⊢
      refine ⟨p3, rfl, ⟨_, SqT.of e3⟩, fun D nD => lc_tup (K := K) (a := p3) (xs := [.int x.s, .int x.b, .int x.lo, .int x.hi]) (fun i H' => Same H2 H' ∧ H' D = some (.lst [])) ⟨same_new nD, upd_same⟩ (fun i H' _ h => SqT.of (h.1 _ _ e3)) ?_ ?_⟩
      · rintro j y H' hj ⟨s4, eD⟩
        obtain ⟨z, rfl⟩ : ∃ z, y = V.int z := by
          match j, hj with
          | 0, hj => exact ⟨_, (Option.some.inj hj).symm⟩
          | 1, hj => exact ⟨_, (Option.some.inj hj).symm⟩
          | 2, hj => exact ⟨_, (Option.some.inj hj).symm⟩
          | 3, hj => exact ⟨_, (Option.some.inj hj).symm⟩
        refine ⟨rfl, ?_⟩
        refine ⟨_, rfl, z, rfl, _, rfl, ?_⟩
        refine iteF ?_
        exact ⟨s4, eD⟩
      · rintro H' ⟨s4, eD⟩
        refine ⟨(by show 0 ≤ sizeLine; decide), fun p5 n5 => ?_⟩
        refine ⟨.list [], .list [], .lst (SqL.of ((upd_ne (ne_of_none eD n5)).trans eD)) .nil, .lst SqL.here .nil, rfl, rfl, _, rfl, ?_⟩
        refine ite_no rfl ?_
        exact ⟨s1.trans (s3.trans (s4.trans (same_new n5))), _, rfl⟩
    · rintro σ H1 ⟨s1, v1, rfl⟩
      exact q H1 s1
/-! ### law -/
abbrev n_law : List Str := ["_law_script", "_law_names_here", "_law_rows", "_law_text", "_law_letters", "_law_word_here", "_law_found", "_law_refused", "_law_again", "_law_cell"]
theorem sc_law : FnScope ["_law_script", "_law_names_here", "_law_rows", "_law_text", "_law_letters", "_law_word_here", "_law_found", "_law_refused", "_law_again", "_law_cell"] ["_law_script"] (defScope s_law) := ⟨rfl, rfl, rfl, by decide +kernel, rfl, by decide +kernel, by decide +kernel⟩
theorem ok_law (T : Txt K mg a) (TB_is_name : GxR.TabB base mg a.k_tab_is_name a.P_tab_is_name) (TB_number_of : GxR.TabB base mg a.k_tab_number_of a.P_tab_number_of) : FnOk P w K mg base CX0 5 a.f_law a.d_law ["_law_script"] (spLawT2 K a.P_tab_is_name a.P_tab_number_of) := by
  refine T.law.F.ok sc_law (fun vs H Q E h => ?_) (fun cdv A outer s H vs Q E hr h => ?_)
  · obtain ⟨l, ns, rfl, hS, hlen, hP, hN, k⟩ := h
    rfl
  · obtain ⟨l, ns, rfl, hS, hlen, hP, hN, k⟩ := h
    have hu := hu_of hr
    refine ⟨_, (pss_cons (ps_set (i := 1) sc_law.nd rfl (Or.inr rfl) (pe_cl (ok_names T) T.names (hr.mono (by decide)) (pa_cons (pe_cl (ok_cell_at T) T.cell_at (hr.mono (by decide)) (pa_cons (pv 0) (pa_cons pe_int pa_nil))) pa_nil)))
      (pss_cons (ps_setLc (i := 2) (own := [("_law_cell", 9)]) (g := gName 9) (tt := tYes) rfl sc_law.nd rfl rfl (sw_true rfl rfl rfl (by decide +kernel)) (piL K (pe_slice (slL K) (pv 0) (po_some pe_int) (po_some pe_int))) (blkOk_by (N := n_law) (sc := defScope s_law) (by decide +kernel)) (fun _ _ _ _ _ => pg_name (i := 9) sc_law.nd rfl (Or.inl rfl)) (fun _ _ _ _ _ => pts_nil) (fun _ _ _ _ _ => (pe_cl (ok_row T) T.row (hr.mono (by decide)) (pa_cons (pe_cl (ok_letter T) T.letter (hr.mono (by decide)) (pa_cons (pv 9) (pa_cons (pv 1) (pa_cons pe_int pa_nil)))) pa_nil))))
      (pss_cons (ps_set (i := 3) sc_law.nd rfl (Or.inl rfl) (pe_cl (ok_spoilt T) T.spoilt (hr.mono (by decide)) (pa_cons (pv 2) (pa_cons (pe_cl (ok_cell_at T) T.cell_at (hr.mono (by decide)) (pa_cons (pv 0) (pa_cons pe_int pa_nil))) pa_nil))))
      (pss_cons (ps_asg (pe_cl (ok_due T) T.due (hr.mono (by decide)) (pa_cons (pv 3) pa_nil)) (pg_tup (by rfl) (pgs_cons (pg_name (i := 4) sc_law.nd rfl (Or.inl rfl)) (pgs_cons (pg_name (i := 5) sc_law.nd rfl (Or.inl rfl)) pgs_nil))))
      (pss_cons (ps_asg (pe_cl (ok_told T TB_is_name TB_number_of) T.told (hr.mono (by decide)) (pa_cons (pv 3) pa_nil)) (pg_tup (by rfl) (pgs_cons (pg_name (i := 6) sc_law.nd rfl (Or.inl rfl)) (pgs_cons (pg_name (i := 7) sc_law.nd rfl (Or.inl rfl)) pgs_nil))))
      (pss_cons (ps_if (PW.pt (pw_or (pt_cmpR op_ne (pv 7) (pv 5) (nomark _)) (pw_or1 (pt_cmpR op_ne (pv 5) pe_str (nomark _))))) (pss_one (ps_ret (pe_cmpR op_eq (pv 7) (pv 5) (nomark _)))) pss_nil)
      (pss_cons (ps_if (PW.pt (pw_or (pt_not (pt_val (pe_callB (isiK K) (by rfl) T.b_isinstance (by decide +kernel) (pa_cons (pv 6) (pa_cons (pe_bty (n := "list") T.b_list (by decide +kernel)) pa_nil))))) (pw_or (pt_cmpR (neDK K hr.units) (pv 6) (pv 4) (nomark _)) (pw_or1 (pt_not (pt_val (pe_cl (ok_kinds T) T.kinds (hr.mono (by decide)) (pa_cons (pv 6) pa_nil)))))))) (pss_one (ps_ret pe_bl)) pss_nil)
      (pss_cons (ps_set (i := 8) sc_law.nd rfl (Or.inl rfl) (pe_cl0 (ok_read T TB_is_name TB_number_of) T.read (hr.mono (by decide)) (pa_cons (pv 3) pa_nil)))
      (pss_cons (ps_expr (pe_bm0 PySem.F.plainAttrs_list PySem.F.slot_list_clear PySem.F.type_list_clear mt_clear (pv 6)))
      (pss_one (ps_ret (pe_and (pe_cmpR (eqDK K hr.units) (pv 8) (pv 4) (nomark _)) (pe_one (pe_cmpR (eqDK K hr.units) (pe_cl0 (ok_read T TB_is_name TB_number_of) T.read (hr.mono (by decide)) (pa_cons (pv 3) pa_nil)) (pv 4) (nomark _))))))))))))))), ?_⟩
    refine ⟨_, rfl, _, _, 0, rfl, hS, _, rfl, fun pn xs H1 hxl _ hxo s1 eN => ?_⟩
    dsimp only [gName]
    refine ⟨_, rfl, _, rfl, _, rfl, l, _, rfl, s1.seq hS, fun p2 n2 => ?_⟩
    have e0 : cutV (ns.map V.int) (some 2) (some 32) = ((ns.drop 2).take 30).map V.int := by
      rw [show (2 : Int) = ((2 : Nat) : Int) from rfl, show (32 : Int) = ((32 : Nat) : Int) from rfl, cutV_len, ← List.map_drop, ← List.map_take]
    rw [e0]
    generalize hns : (ns.drop 2).take 30 = ms
    have hms : ms.length ≤ 30 := by rw [← hns]; exact List.length_take_le _ _
    generalize hH2 : upd _ p2 _ = H2
    obtain ⟨s2', e2⟩ := gen_new hH2 n2
    clear hH2
    have s2 := s1.trans s2'
    have eN2 := s2' _ _ eN
    refine ⟨p2, rfl, ⟨_, SqL.of e2⟩, fun D nD => lc_list (K := K) (a := p2) (xs := ms.map V.int) (fun i H' => Same H2 H' ∧ ∃ rows : List (List Nat), rows.length = i ∧ (∀ r ∈ rows, Txl 400 60 r) ∧ H' D = some (.lst (txs rows)))
      ⟨same_new nD, [], rfl, fun _ h => (nomatch h), upd_same⟩ (fun i H' _ h => SqL.of (h.1 _ _ e2)) ?_ ?_⟩
    · rintro i v H' hi ⟨s3, rows, hri, hR, eD⟩
      have hil := (List.getElem?_eq_some_iff.mp hi).1
      rw [List.length_map] at hil
      obtain ⟨z, rfl⟩ : ∃ z, v = V.int z := by
        rw [List.getElem?_map, List.getElem?_eq_getElem hil] at hi
        exact ⟨_, (Option.some.inj hi).symm⟩
      refine ⟨rfl, ?_⟩
      refine ⟨_, rfl, _, rfl, _, _, _, xs, rfl, SqL.of (s3 _ _ eN2), hxl, hxo, by omega, by omega, fun x t H3 xo xn s4 eT => ?_⟩
      refine ⟨t, x, rfl, SqT.of eT, xo.odd, fun r tr => ?_⟩
      have eD2 := s4 _ _ eD
      refine ⟨_, eD2, line_lt (by rw [txs_len]; omega), Same.mut (s3.trans s4) nD, rows ++ [r], by rw [List.length_append, hri]; rfl, fun y hy => ?_, ?_⟩
      · rcases List.mem_append.mp hy with h | h
        · exact hR y h
        · rw [List.mem_singleton] at h
          exact h ▸ tr
      · rw [upd_same, txs_snoc]
    rintro H3 ⟨s3, rows, hri, hR, eD⟩
    rw [List.length_map] at hri
    dsimp only [gName]
    have s03 := s2.trans s3
    refine ⟨_, rfl, _, rfl, _, _, 1, rfl, s03.seq hS, ?_⟩
    refine ⟨D, _, rows, rfl, eD, by omega, hR, fun L H4 tx t4 => ?_⟩
    dsimp only [gName]
    have hP4 := tabg_but (tab_same s03 hP) t4 eD (by intro _ z; cases z)
    have hN4 := tabg_but (tab_same s03 hN) t4 eD (by intro _ z; cases z)
    refine ⟨_, rfl, L, rfl, tx, fun bad t p H5 s5 eP eT => ?_, fun kd ls as t p H5 ds s5 hA eP eT => ?_⟩
    · refine ⟨t, _, rfl, SqT.of eT, rfl, _, _, rfl, _, _, rfl, rfl, ?_⟩
      refine ⟨_, rfl, L, rfl, tx, tab_same s5 hP4, tab_same s5 hN4, fun _ t' p' H6 eP' eT' => ?_, fun kd => absurd kd bad⟩
      refine ⟨t', _, rfl, SqT.of eT', rfl, _, _, rfl, _, _, rfl, rfl, ?_⟩
      refine ⟨_, rfl, _, rfl, rfl, _, rfl, ?_⟩
      refine ite_no (by rw [decide_eq_true rfl]; rfl) ?_
      refine ⟨_, rfl, rfl, _, rfl, ?_⟩
      refine ite_yes (by rw [decide_eq_false fun z => bad (V.str.inj z)]; rfl) ?_
      refine ⟨_, rfl, _, rfl, rfl, ?_⟩
      rw [decide_eq_true rfl]
      exact k H6
    · refine ⟨t, _, rfl, SqT.of eT, rfl, _, _, rfl, _, _, rfl, rfl, ?_⟩
      refine ⟨_, rfl, L, rfl, tx, tab_same s5 hP4, tab_same s5 hN4, fun bad => absurd kd bad, fun _ ls' as' t' p' H6 ds' ln k6 hA' eP' np' eT' => ?_⟩
      cases Option.some.inj (ds.symm.trans ds')
      have kf := (kindW_some ds).symm.trans kd
      have sh := shp_letsT (firstBad_all kf)
      have refl_ := SeqAt.eqv_refl _ (SeqAt.canLay_of_shaped sh)
      have hA6 := hA.kp k6
      have eP6 := k6.at eP
      refine ⟨t', _, rfl, SqT.of eT', rfl, _, _, rfl, _, _, rfl, rfl, ?_⟩
      refine ⟨_, rfl, _, rfl, rfl, _, rfl, ?_⟩
      refine ite_no (by rw [decide_eq_true rfl]; rfl) ?_
      refine ⟨_, rfl, rfl, _, rfl, ?_⟩
      refine ite_no (by rw [decide_eq_true rfl]; rfl) ?_
      refine ⟨_, rfl, _, _, _, _, true, rfl, .ty _, .base (.lst eP'), kit_ty (by decide +kernel), _, rfl, ?_⟩
      refine iteF ?_
      refine ⟨_, rfl, _, rfl, _, _, hA'.dp (SqL.of eP'), hA6.dp (SqL.of eP6), sh, sh, _, rfl, ?_⟩
      rw [refl_]
      refine ite_no rfl ?_
      refine ⟨_, rfl, p', as', ls, rfl, SqL.of eP', hA', fun H7 s7 => ?_⟩
      refine ⟨_, rfl, ?_⟩
      refine iteF ?_
      have k7 : Kp H5 H7 := k6.trans (Kp.of s7)
      have eP7' := s7 _ _ eP'
      have pne : p ≠ p' := fun z => by rw [z, np'] at eP; cases eP
      refine ⟨_, rfl, L, rfl, tx, k7.tb _ (tab_same s5 hP4), k7.tb _ (tab_same s5 hN4), fun e => absurd (kd.symm.trans e) (by decide +kernel), fun e => absurd (kd.symm.trans e) (by decide +kernel), fun e => absurd (kd.symm.trans e) (by decide +kernel), fun _ ls2 as2 q2 H8 ds2 ln2 k8 hA2 eQ2 nQ2 => ?_⟩
      cases Option.some.inj (ds.symm.trans ds2)
      have k58 := k7.trans k8
      have eP8' := k8.at eP7'
      have qne : q2 ≠ p' := fun z => by rw [z, eP7'] at nQ2; cases nQ2
      dsimp only [gName]
      refine ⟨_, rfl, .inl ⟨rfl, _, SqL.of eP8'⟩, p', _, rfl, rfl, eP8', ?_⟩
      have eP9 : (upd H8 p' (.lst [])) p = some (.lst (as.map V.ref)) := (upd_ne pne).trans (k58.at eP)
      have eQ9 : (upd H8 p' (.lst [])) q2 = some (.lst (as2.map V.ref)) := (upd_ne qne).trans eQ2
      have hA9 : LetsAt K (upd H8 p' (.lst [])) as ls := (hA.kp k58).grow eP8'
      have hB9 : LetsAt K (upd H8 p' (.lst [])) as2 ls := hA2.grow eP8'
      have tab9 : ∀ P, GxR.TabG H5 P → GxR.TabG (upd H8 p' (.lst [])) P := fun P g => tab_upd (k58.tb P g) eP8'
      generalize upd H8 p' (.lst []) = H9 at eP9 eQ9 hA9 hB9 tab9 ⊢
      refine ⟨_, rfl, _, rfl, _, _, hB9.dp (SqL.of eQ9), hA9.dp (SqL.of eP9), sh, sh, ?_⟩
      rw [refl_]
      refine ⟨_, rfl, ?_⟩
      refine iteT ?_
      refine ⟨_, rfl, L, rfl, tx, tab9 _ (tab_same s5 hP4), tab9 _ (tab_same s5 hN4), fun e => absurd (kd.symm.trans e) (by decide +kernel), fun e => absurd (kd.symm.trans e) (by decide +kernel), fun e => absurd (kd.symm.trans e) (by decide +kernel), fun _ ls3 as3 q3 H10 ds3 ln3 k10 hA3 eQ3 nQ3 => ?_⟩
      cases Option.some.inj (ds.symm.trans ds3)
      refine ⟨_, rfl, _, _, hA3.dp (SqL.of eQ3), (hA9.kp k10).dp (SqL.of (k10.at eP9)), sh, sh, ?_⟩
      rw [refl_]
      exact k H10
end
end Ts.k12
end
namespace Ts.k12
open PySem PySem.Spec PyProof.Rows L2 Ts
/-! ### the end -/
theorem fl_mk {K : PySem.W.Frag} {h : Heap} {mg : Str → Option Value} {x : Str} {st : Stmt} {ps : List Str} {f : Addr} {oc kV doc pm cdv ct : Value} {od an : Option Addr} {osl : Array (Option Value)} (X : K.In h) (G : h.Ns mainGlobals mg)
    (n : PySem.W.nsIn K mainGlobals x = some (some (.ref f))) (l : K.lookup f = some ⟨oc, od, .func (PySem.W.fnOf x x (defArgs st) (defBody st) (defScope st) .none kV doc pm an cdv ct), osl⟩) (c : PySem.W.codeIn K cdv x = true) (k : PySem.W.keepIn K (.ref f) = true)
    (b : ∀ us : List Value, us.length = ps.length → bindArgs (PySem.W.fnOf x x (defArgs st) (defBody st) (defScope st) .none kV doc pm an cdv ct) ⟨us, []⟩ = pure (ps.zip us)) :
    Dfn K mg x st ps f (PySem.W.fnOf x x (defArgs st) (defBody st) (defScope st) .none kV doc pm an cdv ct) :=
  ⟨fun_mk l c k, PySem.W.mg_of X G n, .all b⟩
theorem all_mk {l : PySem.W.OpenLaw} {w : World} {K : PySem.W.Frag} {h : Heap} {mg : Str → Option Value} {fa f_checked f_is_name f_in_order f_read f_letter_of f_number_of f_whole f_cell_at f_mix f_big f_kind f_word f_names f_letter f_sign f_odd f_w_none f_row f_number f_w_letter_of f_due f_told f_spoilt f_kinds f_law c_StretchError c_BadName c_BadLetter c_BadOff c_TooEarly c_BadCount c_NoAgreement c_TooWide c_TooMany c_NoClock c_NoText k_tab_is_name P_tab_is_name k_tab_number_of P_tab_number_of w_WORDS_BETWEEN : Addr} (X : K.In h) (G : h.Ns mainGlobals mg) (hfa : mg "law" = some (.ref fa)) (tabs_is_name : TabOf K mg h "is_name") {j_e_is_name : Value} {j_d_is_name : Option Addr} {j_vs_is_name : Array Value} {j_sl_is_name : Array (Option Value)} (tabs_number_of : TabOf K mg h "number_of") {j_e_number_of : Value} {j_d_number_of : Option Addr} {j_vs_number_of : Array Value} {j_sl_number_of : Array (Option Value)}
    {od_WORDS_BETWEEN : Option Addr} {on_WORDS_BETWEEN : Nat} {os_WORDS_BETWEEN : Array (Option Value)} {tk_WORDS_BETWEEN_0 tk_WORDS_BETWEEN_1 tk_WORDS_BETWEEN_2 tk_WORDS_BETWEEN_3 : Tok}
    {od_checked an_checked od_is_name an_is_name od_in_order an_in_order od_read an_read od_letter_of an_letter_of od_number_of an_number_of od_whole an_whole od_cell_at an_cell_at od_mix an_mix od_big an_big od_kind an_kind od_word an_word od_names an_names od_letter an_letter od_sign an_sign od_odd an_odd od_w_none an_w_none od_row an_row od_number an_number od_w_letter_of an_w_letter_of od_due an_due od_told an_told od_spoilt an_spoilt od_kinds an_kinds od_law an_law : Option Addr} {sl_checked sl_is_name sl_in_order sl_read sl_letter_of sl_number_of sl_whole sl_cell_at sl_mix sl_big sl_kind sl_word sl_names sl_letter sl_sign sl_odd sl_w_none sl_row sl_number sl_w_letter_of sl_due sl_told sl_spoilt sl_kinds sl_law : Array (Option Value)} {oc_checked kV_checked dc_checked pm_checked cd_checked ct_checked oc_is_name kV_is_name dc_is_name pm_is_name cd_is_name ct_is_name oc_in_order kV_in_order dc_in_order pm_in_order cd_in_order ct_in_order oc_read kV_read dc_read pm_read cd_read ct_read oc_letter_of kV_letter_of dc_letter_of pm_letter_of cd_letter_of ct_letter_of oc_number_of kV_number_of dc_number_of pm_number_of cd_number_of ct_number_of oc_whole kV_whole dc_whole pm_whole cd_whole ct_whole oc_cell_at kV_cell_at dc_cell_at pm_cell_at cd_cell_at ct_cell_at oc_mix kV_mix dc_mix pm_mix cd_mix ct_mix oc_big kV_big dc_big pm_big cd_big ct_big oc_kind kV_kind dc_kind pm_kind cd_kind ct_kind oc_word kV_word dc_word pm_word cd_word ct_word oc_names kV_names dc_names pm_names cd_names ct_names oc_letter kV_letter dc_letter pm_letter cd_letter ct_letter oc_sign kV_sign dc_sign pm_sign cd_sign ct_sign oc_odd kV_odd dc_odd pm_odd cd_odd ct_odd oc_w_none kV_w_none dc_w_none pm_w_none cd_w_none ct_w_none oc_row kV_row dc_row pm_row cd_row ct_row oc_number kV_number dc_number pm_number cd_number ct_number oc_w_letter_of kV_w_letter_of dc_w_letter_of pm_w_letter_of cd_w_letter_of ct_w_letter_of oc_due kV_due dc_due pm_due cd_due ct_due oc_told kV_told dc_told pm_told cd_told ct_told oc_spoilt kV_spoilt dc_spoilt pm_spoilt cd_spoilt ct_spoilt oc_kinds kV_kinds dc_kinds pm_kinds cd_kinds ct_kinds oc_law kV_law dc_law pm_law cd_law ct_law : Value}
    {t_LONGEST_NAME t_GREATEST_NUMBER t_WORDS_IN_A_ROW : Tok}
    (a_checked : PySem.W.nsIn K mainGlobals "checked" = some (some (.ref f_checked))) (l_checked : K.lookup f_checked = some ⟨oc_checked, od_checked, .func (PySem.W.fnOf "checked" "checked" (defArgs s_checked) (defBody s_checked) (defScope s_checked) .none kV_checked dc_checked pm_checked an_checked cd_checked ct_checked), sl_checked⟩) (k_checked : PySem.W.codeIn K cd_checked "checked" = true) (e_checked : PySem.W.keepIn K (.ref f_checked) = true)
    (a_is_name : PySem.W.nsIn K mainGlobals "is_name" = some (some (.ref f_is_name))) (l_is_name : K.lookup f_is_name = some ⟨oc_is_name, od_is_name, .func (PySem.W.fnOf "is_name" "is_name" (defArgs s_is_name) (defBody s_is_name) (defScope s_is_name) .none kV_is_name dc_is_name pm_is_name an_is_name cd_is_name ct_is_name), sl_is_name⟩) (k_is_name : PySem.W.codeIn K cd_is_name "is_name" = true) (e_is_name : PySem.W.keepIn K (.ref f_is_name) = true)
    (a_in_order : PySem.W.nsIn K mainGlobals "in_order" = some (some (.ref f_in_order))) (l_in_order : K.lookup f_in_order = some ⟨oc_in_order, od_in_order, .func (PySem.W.fnOf "in_order" "in_order" (defArgs s_in_order) (defBody s_in_order) (defScope s_in_order) .none kV_in_order dc_in_order pm_in_order an_in_order cd_in_order ct_in_order), sl_in_order⟩) (k_in_order : PySem.W.codeIn K cd_in_order "in_order" = true) (e_in_order : PySem.W.keepIn K (.ref f_in_order) = true)
    (a_read : PySem.W.nsIn K mainGlobals "read" = some (some (.ref f_read))) (l_read : K.lookup f_read = some ⟨oc_read, od_read, .func (PySem.W.fnOf "read" "read" (defArgs s_read) (defBody s_read) (defScope s_read) .none kV_read dc_read pm_read an_read cd_read ct_read), sl_read⟩) (k_read : PySem.W.codeIn K cd_read "read" = true) (e_read : PySem.W.keepIn K (.ref f_read) = true)
    (a_letter_of : PySem.W.nsIn K mainGlobals "letter_of" = some (some (.ref f_letter_of))) (l_letter_of : K.lookup f_letter_of = some ⟨oc_letter_of, od_letter_of, .func (PySem.W.fnOf "letter_of" "letter_of" (defArgs s_letter_of) (defBody s_letter_of) (defScope s_letter_of) .none kV_letter_of dc_letter_of pm_letter_of an_letter_of cd_letter_of ct_letter_of), sl_letter_of⟩) (k_letter_of : PySem.W.codeIn K cd_letter_of "letter_of" = true) (e_letter_of : PySem.W.keepIn K (.ref f_letter_of) = true)
    (a_number_of : PySem.W.nsIn K mainGlobals "number_of" = some (some (.ref f_number_of))) (l_number_of : K.lookup f_number_of = some ⟨oc_number_of, od_number_of, .func (PySem.W.fnOf "number_of" "number_of" (defArgs s_number_of) (defBody s_number_of) (defScope s_number_of) .none kV_number_of dc_number_of pm_number_of an_number_of cd_number_of ct_number_of), sl_number_of⟩) (k_number_of : PySem.W.codeIn K cd_number_of "number_of" = true) (e_number_of : PySem.W.keepIn K (.ref f_number_of) = true)
    (a_whole : PySem.W.nsIn K mainGlobals "_law_whole" = some (some (.ref f_whole))) (l_whole : K.lookup f_whole = some ⟨oc_whole, od_whole, .func (PySem.W.fnOf "_law_whole" "_law_whole" (defArgs s_whole) (defBody s_whole) (defScope s_whole) .none kV_whole dc_whole pm_whole an_whole cd_whole ct_whole), sl_whole⟩) (k_whole : PySem.W.codeIn K cd_whole "_law_whole" = true) (e_whole : PySem.W.keepIn K (.ref f_whole) = true)
    (a_cell_at : PySem.W.nsIn K mainGlobals "_law_cell_at" = some (some (.ref f_cell_at))) (l_cell_at : K.lookup f_cell_at = some ⟨oc_cell_at, od_cell_at, .func (PySem.W.fnOf "_law_cell_at" "_law_cell_at" (defArgs s_cell_at) (defBody s_cell_at) (defScope s_cell_at) .none kV_cell_at dc_cell_at pm_cell_at an_cell_at cd_cell_at ct_cell_at), sl_cell_at⟩) (k_cell_at : PySem.W.codeIn K cd_cell_at "_law_cell_at" = true) (e_cell_at : PySem.W.keepIn K (.ref f_cell_at) = true)
    (a_mix : PySem.W.nsIn K mainGlobals "_law_mix" = some (some (.ref f_mix))) (l_mix : K.lookup f_mix = some ⟨oc_mix, od_mix, .func (PySem.W.fnOf "_law_mix" "_law_mix" (defArgs s_mix) (defBody s_mix) (defScope s_mix) .none kV_mix dc_mix pm_mix an_mix cd_mix ct_mix), sl_mix⟩) (k_mix : PySem.W.codeIn K cd_mix "_law_mix" = true) (e_mix : PySem.W.keepIn K (.ref f_mix) = true)
    (a_big : PySem.W.nsIn K mainGlobals "_law_big" = some (some (.ref f_big))) (l_big : K.lookup f_big = some ⟨oc_big, od_big, .func (PySem.W.fnOf "_law_big" "_law_big" (defArgs s_big) (defBody s_big) (defScope s_big) .none kV_big dc_big pm_big an_big cd_big ct_big), sl_big⟩) (k_big : PySem.W.codeIn K cd_big "_law_big" = true) (e_big : PySem.W.keepIn K (.ref f_big) = true)
    (a_kind : PySem.W.nsIn K mainGlobals "_law_kind" = some (some (.ref f_kind))) (l_kind : K.lookup f_kind = some ⟨oc_kind, od_kind, .func (PySem.W.fnOf "_law_kind" "_law_kind" (defArgs s_kind) (defBody s_kind) (defScope s_kind) .none kV_kind dc_kind pm_kind an_kind cd_kind ct_kind), sl_kind⟩) (k_kind : PySem.W.codeIn K cd_kind "_law_kind" = true) (e_kind : PySem.W.keepIn K (.ref f_kind) = true)
    (a_word : PySem.W.nsIn K mainGlobals "_law_word" = some (some (.ref f_word))) (l_word : K.lookup f_word = some ⟨oc_word, od_word, .func (PySem.W.fnOf "_law_word" "_law_word" (defArgs s_word) (defBody s_word) (defScope s_word) .none kV_word dc_word pm_word an_word cd_word ct_word), sl_word⟩) (k_word : PySem.W.codeIn K cd_word "_law_word" = true) (e_word : PySem.W.keepIn K (.ref f_word) = true)
    (a_names : PySem.W.nsIn K mainGlobals "_law_names" = some (some (.ref f_names))) (l_names : K.lookup f_names = some ⟨oc_names, od_names, .func (PySem.W.fnOf "_law_names" "_law_names" (defArgs s_names) (defBody s_names) (defScope s_names) .none kV_names dc_names pm_names an_names cd_names ct_names), sl_names⟩) (k_names : PySem.W.codeIn K cd_names "_law_names" = true) (e_names : PySem.W.keepIn K (.ref f_names) = true)
    (a_letter : PySem.W.nsIn K mainGlobals "_law_letter" = some (some (.ref f_letter))) (l_letter : K.lookup f_letter = some ⟨oc_letter, od_letter, .func (PySem.W.fnOf "_law_letter" "_law_letter" (defArgs s_letter) (defBody s_letter) (defScope s_letter) .none kV_letter dc_letter pm_letter an_letter cd_letter ct_letter), sl_letter⟩) (k_letter : PySem.W.codeIn K cd_letter "_law_letter" = true) (e_letter : PySem.W.keepIn K (.ref f_letter) = true)
    (a_sign : PySem.W.nsIn K mainGlobals "_law_sign" = some (some (.ref f_sign))) (l_sign : K.lookup f_sign = some ⟨oc_sign, od_sign, .func (PySem.W.fnOf "_law_sign" "_law_sign" (defArgs s_sign) (defBody s_sign) (defScope s_sign) .none kV_sign dc_sign pm_sign an_sign cd_sign ct_sign), sl_sign⟩) (k_sign : PySem.W.codeIn K cd_sign "_law_sign" = true) (e_sign : PySem.W.keepIn K (.ref f_sign) = true)
    (a_odd : PySem.W.nsIn K mainGlobals "_law_odd" = some (some (.ref f_odd))) (l_odd : K.lookup f_odd = some ⟨oc_odd, od_odd, .func (PySem.W.fnOf "_law_odd" "_law_odd" (defArgs s_odd) (defBody s_odd) (defScope s_odd) .none kV_odd dc_odd pm_odd an_odd cd_odd ct_odd), sl_odd⟩) (k_odd : PySem.W.codeIn K cd_odd "_law_odd" = true) (e_odd : PySem.W.keepIn K (.ref f_odd) = true)
    (a_w_none : PySem.W.nsIn K mainGlobals "_law_none" = some (some (.ref f_w_none))) (l_w_none : K.lookup f_w_none = some ⟨oc_w_none, od_w_none, .func (PySem.W.fnOf "_law_none" "_law_none" (defArgs s_w_none) (defBody s_w_none) (defScope s_w_none) .none kV_w_none dc_w_none pm_w_none an_w_none cd_w_none ct_w_none), sl_w_none⟩) (k_w_none : PySem.W.codeIn K cd_w_none "_law_none" = true) (e_w_none : PySem.W.keepIn K (.ref f_w_none) = true)
    (a_row : PySem.W.nsIn K mainGlobals "_law_row" = some (some (.ref f_row))) (l_row : K.lookup f_row = some ⟨oc_row, od_row, .func (PySem.W.fnOf "_law_row" "_law_row" (defArgs s_row) (defBody s_row) (defScope s_row) .none kV_row dc_row pm_row an_row cd_row ct_row), sl_row⟩) (k_row : PySem.W.codeIn K cd_row "_law_row" = true) (e_row : PySem.W.keepIn K (.ref f_row) = true)
    (a_number : PySem.W.nsIn K mainGlobals "_law_number" = some (some (.ref f_number))) (l_number : K.lookup f_number = some ⟨oc_number, od_number, .func (PySem.W.fnOf "_law_number" "_law_number" (defArgs s_number) (defBody s_number) (defScope s_number) .none kV_number dc_number pm_number an_number cd_number ct_number), sl_number⟩) (k_number : PySem.W.codeIn K cd_number "_law_number" = true) (e_number : PySem.W.keepIn K (.ref f_number) = true)
    (a_w_letter_of : PySem.W.nsIn K mainGlobals "_law_letter_of" = some (some (.ref f_w_letter_of))) (l_w_letter_of : K.lookup f_w_letter_of = some ⟨oc_w_letter_of, od_w_letter_of, .func (PySem.W.fnOf "_law_letter_of" "_law_letter_of" (defArgs s_w_letter_of) (defBody s_w_letter_of) (defScope s_w_letter_of) .none kV_w_letter_of dc_w_letter_of pm_w_letter_of an_w_letter_of cd_w_letter_of ct_w_letter_of), sl_w_letter_of⟩) (k_w_letter_of : PySem.W.codeIn K cd_w_letter_of "_law_letter_of" = true) (e_w_letter_of : PySem.W.keepIn K (.ref f_w_letter_of) = true)
    (a_due : PySem.W.nsIn K mainGlobals "_law_due" = some (some (.ref f_due))) (l_due : K.lookup f_due = some ⟨oc_due, od_due, .func (PySem.W.fnOf "_law_due" "_law_due" (defArgs s_due) (defBody s_due) (defScope s_due) .none kV_due dc_due pm_due an_due cd_due ct_due), sl_due⟩) (k_due : PySem.W.codeIn K cd_due "_law_due" = true) (e_due : PySem.W.keepIn K (.ref f_due) = true)
    (a_told : PySem.W.nsIn K mainGlobals "_law_told" = some (some (.ref f_told))) (l_told : K.lookup f_told = some ⟨oc_told, od_told, .func (PySem.W.fnOf "_law_told" "_law_told" (defArgs s_told) (defBody s_told) (defScope s_told) .none kV_told dc_told pm_told an_told cd_told ct_told), sl_told⟩) (k_told : PySem.W.codeIn K cd_told "_law_told" = true) (e_told : PySem.W.keepIn K (.ref f_told) = true)
    (a_spoilt : PySem.W.nsIn K mainGlobals "_law_spoilt" = some (some (.ref f_spoilt))) (l_spoilt : K.lookup f_spoilt = some ⟨oc_spoilt, od_spoilt, .func (PySem.W.fnOf "_law_spoilt" "_law_spoilt" (defArgs s_spoilt) (defBody s_spoilt) (defScope s_spoilt) .none kV_spoilt dc_spoilt pm_spoilt an_spoilt cd_spoilt ct_spoilt), sl_spoilt⟩) (k_spoilt : PySem.W.codeIn K cd_spoilt "_law_spoilt" = true) (e_spoilt : PySem.W.keepIn K (.ref f_spoilt) = true)
    (a_kinds : PySem.W.nsIn K mainGlobals "_law_kinds" = some (some (.ref f_kinds))) (l_kinds : K.lookup f_kinds = some ⟨oc_kinds, od_kinds, .func (PySem.W.fnOf "_law_kinds" "_law_kinds" (defArgs s_kinds) (defBody s_kinds) (defScope s_kinds) .none kV_kinds dc_kinds pm_kinds an_kinds cd_kinds ct_kinds), sl_kinds⟩) (k_kinds : PySem.W.codeIn K cd_kinds "_law_kinds" = true) (e_kinds : PySem.W.keepIn K (.ref f_kinds) = true)
    (a_law : PySem.W.nsIn K mainGlobals "law" = some (some (.ref f_law))) (l_law : K.lookup f_law = some ⟨oc_law, od_law, .func (PySem.W.fnOf "law" "law" (defArgs s_law) (defBody s_law) (defScope s_law) .none kV_law dc_law pm_law an_law cd_law ct_law), sl_law⟩) (k_law : PySem.W.codeIn K cd_law "law" = true) (e_law : PySem.W.keepIn K (.ref f_law) = true)
    (n_StretchError : PySem.W.nsIn K mainGlobals "StretchError" = some (some (.ref c_StretchError))) (x_StretchError : PySem.W.excIn K c_StretchError [.type "ValueError", .type "Exception", .type "BaseException", .type "object"] "ValueError.__new__" = true) (h_StretchError : PySem.W.keepIn K (.ref c_StretchError) = true) (s_StretchError : PySem.W.subIn K (.ref c_StretchError) (.type "BaseException") = some true) (t_StretchError : PySem.W.typeIn K (.ref c_StretchError) = some (.type "type"))
    (n_BadName : PySem.W.nsIn K mainGlobals "BadName" = some (some (.ref c_BadName))) (x_BadName : PySem.W.excIn K c_BadName [.type "ValueError", .type "Exception", .type "BaseException", .type "object"] "ValueError.__new__" = true) (h_BadName : PySem.W.keepIn K (.ref c_BadName) = true) (s_BadName : PySem.W.subIn K (.ref c_BadName) (.type "BaseException") = some true) (t_BadName : PySem.W.typeIn K (.ref c_BadName) = some (.type "type"))
    (n_BadLetter : PySem.W.nsIn K mainGlobals "BadLetter" = some (some (.ref c_BadLetter))) (x_BadLetter : PySem.W.excIn K c_BadLetter [.type "ValueError", .type "Exception", .type "BaseException", .type "object"] "ValueError.__new__" = true) (h_BadLetter : PySem.W.keepIn K (.ref c_BadLetter) = true) (s_BadLetter : PySem.W.subIn K (.ref c_BadLetter) (.type "BaseException") = some true) (t_BadLetter : PySem.W.typeIn K (.ref c_BadLetter) = some (.type "type"))
    (n_BadOff : PySem.W.nsIn K mainGlobals "BadOff" = some (some (.ref c_BadOff))) (x_BadOff : PySem.W.excIn K c_BadOff [.type "ValueError", .type "Exception", .type "BaseException", .type "object"] "ValueError.__new__" = true) (h_BadOff : PySem.W.keepIn K (.ref c_BadOff) = true) (s_BadOff : PySem.W.subIn K (.ref c_BadOff) (.type "BaseException") = some true) (t_BadOff : PySem.W.typeIn K (.ref c_BadOff) = some (.type "type"))
    (n_TooEarly : PySem.W.nsIn K mainGlobals "TooEarly" = some (some (.ref c_TooEarly))) (x_TooEarly : PySem.W.excIn K c_TooEarly [.type "ValueError", .type "Exception", .type "BaseException", .type "object"] "ValueError.__new__" = true) (h_TooEarly : PySem.W.keepIn K (.ref c_TooEarly) = true) (s_TooEarly : PySem.W.subIn K (.ref c_TooEarly) (.type "BaseException") = some true) (t_TooEarly : PySem.W.typeIn K (.ref c_TooEarly) = some (.type "type"))
    (n_BadCount : PySem.W.nsIn K mainGlobals "BadCount" = some (some (.ref c_BadCount))) (x_BadCount : PySem.W.excIn K c_BadCount [.type "ValueError", .type "Exception", .type "BaseException", .type "object"] "ValueError.__new__" = true) (h_BadCount : PySem.W.keepIn K (.ref c_BadCount) = true) (s_BadCount : PySem.W.subIn K (.ref c_BadCount) (.type "BaseException") = some true) (t_BadCount : PySem.W.typeIn K (.ref c_BadCount) = some (.type "type"))
    (n_NoAgreement : PySem.W.nsIn K mainGlobals "NoAgreement" = some (some (.ref c_NoAgreement))) (x_NoAgreement : PySem.W.excIn K c_NoAgreement [.type "ValueError", .type "Exception", .type "BaseException", .type "object"] "ValueError.__new__" = true) (h_NoAgreement : PySem.W.keepIn K (.ref c_NoAgreement) = true) (s_NoAgreement : PySem.W.subIn K (.ref c_NoAgreement) (.type "BaseException") = some true) (t_NoAgreement : PySem.W.typeIn K (.ref c_NoAgreement) = some (.type "type"))
    (n_TooWide : PySem.W.nsIn K mainGlobals "TooWide" = some (some (.ref c_TooWide))) (x_TooWide : PySem.W.excIn K c_TooWide [.type "ValueError", .type "Exception", .type "BaseException", .type "object"] "ValueError.__new__" = true) (h_TooWide : PySem.W.keepIn K (.ref c_TooWide) = true) (s_TooWide : PySem.W.subIn K (.ref c_TooWide) (.type "BaseException") = some true) (t_TooWide : PySem.W.typeIn K (.ref c_TooWide) = some (.type "type"))
    (n_TooMany : PySem.W.nsIn K mainGlobals "TooMany" = some (some (.ref c_TooMany))) (x_TooMany : PySem.W.excIn K c_TooMany [.type "ValueError", .type "Exception", .type "BaseException", .type "object"] "ValueError.__new__" = true) (h_TooMany : PySem.W.keepIn K (.ref c_TooMany) = true) (s_TooMany : PySem.W.subIn K (.ref c_TooMany) (.type "BaseException") = some true) (t_TooMany : PySem.W.typeIn K (.ref c_TooMany) = some (.type "type"))
    (n_NoClock : PySem.W.nsIn K mainGlobals "NoClock" = some (some (.ref c_NoClock))) (x_NoClock : PySem.W.excIn K c_NoClock [.type "ValueError", .type "Exception", .type "BaseException", .type "object"] "ValueError.__new__" = true) (h_NoClock : PySem.W.keepIn K (.ref c_NoClock) = true) (s_NoClock : PySem.W.subIn K (.ref c_NoClock) (.type "BaseException") = some true) (t_NoClock : PySem.W.typeIn K (.ref c_NoClock) = some (.type "type"))
    (n_NoText : PySem.W.nsIn K mainGlobals "NoText" = some (some (.ref c_NoText))) (x_NoText : PySem.W.excIn K c_NoText [.type "ValueError", .type "Exception", .type "BaseException", .type "object"] "ValueError.__new__" = true) (h_NoText : PySem.W.keepIn K (.ref c_NoText) = true) (s_NoText : PySem.W.subIn K (.ref c_NoText) (.type "BaseException") = some true) (t_NoText : PySem.W.typeIn K (.ref c_NoText) = some (.type "type"))
    (u_BadName : ExcC K c_BadName) (w_BadName : PySem.W.subIn K (.ref c_BadName) (.ref c_StretchError) = some true) (v_BadName : PySem.W.kitOne K (.ref c_BadName) (.type "ValueError") = some true)
    (q_BadName_0 : PySem.W.kitOne K (.ref c_BadName) (.ref c_BadName) = some true)
    (q_BadName_1 : PySem.W.kitOne K (.ref c_BadName) (.ref c_BadLetter) = some false)
    (q_BadName_2 : PySem.W.kitOne K (.ref c_BadName) (.ref c_BadOff) = some false)
    (q_BadName_3 : PySem.W.kitOne K (.ref c_BadName) (.ref c_TooEarly) = some false)
    (q_BadName_4 : PySem.W.kitOne K (.ref c_BadName) (.ref c_BadCount) = some false)
    (q_BadName_5 : PySem.W.kitOne K (.ref c_BadName) (.ref c_NoAgreement) = some false)
    (q_BadName_6 : PySem.W.kitOne K (.ref c_BadName) (.ref c_TooWide) = some false)
    (q_BadName_7 : PySem.W.kitOne K (.ref c_BadName) (.ref c_TooMany) = some false)
    (q_BadName_8 : PySem.W.kitOne K (.ref c_BadName) (.ref c_NoClock) = some false)
    (q_BadName_9 : PySem.W.kitOne K (.ref c_BadName) (.ref c_NoText) = some false)
    (u_BadLetter : ExcC K c_BadLetter) (w_BadLetter : PySem.W.subIn K (.ref c_BadLetter) (.ref c_StretchError) = some true) (v_BadLetter : PySem.W.kitOne K (.ref c_BadLetter) (.type "ValueError") = some true)
    (q_BadLetter_0 : PySem.W.kitOne K (.ref c_BadLetter) (.ref c_BadName) = some false)
    (q_BadLetter_1 : PySem.W.kitOne K (.ref c_BadLetter) (.ref c_BadLetter) = some true)
    (q_BadLetter_2 : PySem.W.kitOne K (.ref c_BadLetter) (.ref c_BadOff) = some false)
    (q_BadLetter_3 : PySem.W.kitOne K (.ref c_BadLetter) (.ref c_TooEarly) = some false)
    (q_BadLetter_4 : PySem.W.kitOne K (.ref c_BadLetter) (.ref c_BadCount) = some false)
    (q_BadLetter_5 : PySem.W.kitOne K (.ref c_BadLetter) (.ref c_NoAgreement) = some false)
    (q_BadLetter_6 : PySem.W.kitOne K (.ref c_BadLetter) (.ref c_TooWide) = some false)
    (q_BadLetter_7 : PySem.W.kitOne K (.ref c_BadLetter) (.ref c_TooMany) = some false)
    (q_BadLetter_8 : PySem.W.kitOne K (.ref c_BadLetter) (.ref c_NoClock) = some false)
    (q_BadLetter_9 : PySem.W.kitOne K (.ref c_BadLetter) (.ref c_NoText) = some false)
    (u_NoText : ExcC K c_NoText) (w_NoText : PySem.W.subIn K (.ref c_NoText) (.ref c_StretchError) = some true) (v_NoText : PySem.W.kitOne K (.ref c_NoText) (.type "ValueError") = some true)
    (q_NoText_0 : PySem.W.kitOne K (.ref c_NoText) (.ref c_BadName) = some false)
    (q_NoText_1 : PySem.W.kitOne K (.ref c_NoText) (.ref c_BadLetter) = some false)
    (q_NoText_2 : PySem.W.kitOne K (.ref c_NoText) (.ref c_BadOff) = some false)
    (q_NoText_3 : PySem.W.kitOne K (.ref c_NoText) (.ref c_TooEarly) = some false)
    (q_NoText_4 : PySem.W.kitOne K (.ref c_NoText) (.ref c_BadCount) = some false)
    (q_NoText_5 : PySem.W.kitOne K (.ref c_NoText) (.ref c_NoAgreement) = some false)
    (q_NoText_6 : PySem.W.kitOne K (.ref c_NoText) (.ref c_TooWide) = some false)
    (q_NoText_7 : PySem.W.kitOne K (.ref c_NoText) (.ref c_TooMany) = some false)
    (q_NoText_8 : PySem.W.kitOne K (.ref c_NoText) (.ref c_NoClock) = some false)
    (q_NoText_9 : PySem.W.kitOne K (.ref c_NoText) (.ref c_NoText) = some true)
    (d_S : PySem.W.hasDictIn K c_StretchError = true)
    (b_all : PySem.W.nsIn K mainGlobals "all" = some none)
    (b_len : PySem.W.nsIn K mainGlobals "len" = some none)
    (b_int : PySem.W.nsIn K mainGlobals "int" = some none)
    (b_list : PySem.W.nsIn K mainGlobals "list" = some none)
    (b_isinstance : PySem.W.nsIn K mainGlobals "isinstance" = some none)
    (b_bool : PySem.W.nsIn K mainGlobals "bool" = some none)
    (b_ValueError : PySem.W.nsIn K mainGlobals "ValueError" = some none)
    (b_range : PySem.W.nsIn K mainGlobals "range" = some none)
    (b_sorted : PySem.W.nsIn K mainGlobals "sorted" = some none)
    (b_min : PySem.W.nsIn K mainGlobals "min" = some none)
    (b_max : PySem.W.nsIn K mainGlobals "max" = some none)
    (b_str : PySem.W.nsIn K mainGlobals "str" = some none)
    (b_tuple : PySem.W.nsIn K mainGlobals "tuple" = some none)
    (m_LONGEST_NAME : PySem.W.nsIn K mainGlobals "LONGEST_NAME" = some (some (.int 12 t_LONGEST_NAME)))
    (m_GREATEST_NUMBER : PySem.W.nsIn K mainGlobals "GREATEST_NUMBER" = some (some (.int 1000000000000 t_GREATEST_NUMBER)))
    (m_WORDS_IN_A_ROW : PySem.W.nsIn K mainGlobals "WORDS_IN_A_ROW" = some (some (.int 9 t_WORDS_IN_A_ROW)))
    (j_code_is_name : cd_is_name = .ref k_tab_is_name) (j_obj_is_name : K.lookup k_tab_is_name = some ⟨j_e_is_name, j_d_is_name, .fields j_vs_is_name, j_sl_is_name⟩) (j_at_is_name : j_vs_is_name[11]? = some (.ref P_tab_is_name)) (j_none_is_name : K.lookup P_tab_is_name = none)
    (j_code_number_of : cd_number_of = .ref k_tab_number_of) (j_obj_number_of : K.lookup k_tab_number_of = some ⟨j_e_number_of, j_d_number_of, .fields j_vs_number_of, j_sl_number_of⟩) (j_at_number_of : j_vs_number_of[11]? = some (.ref P_tab_number_of)) (j_none_number_of : K.lookup P_tab_number_of = none)
    (mt_WORDS_BETWEEN : PySem.W.nsIn K mainGlobals "WORDS_BETWEEN" = some (some (.ref w_WORDS_BETWEEN))) (ot_WORDS_BETWEEN : K.lookup w_WORDS_BETWEEN = some ⟨.type "tuple", od_WORDS_BETWEEN, .seq #[.str "sent" tk_WORDS_BETWEEN_0, .str "back" tk_WORDS_BETWEEN_1, .str "swears" tk_WORDS_BETWEEN_2, .str "to" tk_WORDS_BETWEEN_3] on_WORDS_BETWEEN, os_WORDS_BETWEEN⟩)
    : LamX.LawAtS l w K CX0 5 63 "_law_script" mg fa h := by
  have e := hfa.symm.trans (PySem.W.mg_of X G a_law)
  cases e
  cases j_code_is_name
  cases j_code_number_of
  have T : Txt K mg (Ad.mk k_tab_is_name P_tab_is_name k_tab_number_of P_tab_number_of f_checked (PySem.W.fnOf "checked" "checked" (defArgs s_checked) (defBody s_checked) (defScope s_checked) .none kV_checked dc_checked pm_checked an_checked cd_checked ct_checked) f_is_name (PySem.W.fnOf "is_name" "is_name" (defArgs s_is_name) (defBody s_is_name) (defScope s_is_name) .none kV_is_name dc_is_name pm_is_name an_is_name (.ref k_tab_is_name) ct_is_name) f_in_order (PySem.W.fnOf "in_order" "in_order" (defArgs s_in_order) (defBody s_in_order) (defScope s_in_order) .none kV_in_order dc_in_order pm_in_order an_in_order cd_in_order ct_in_order) f_read (PySem.W.fnOf "read" "read" (defArgs s_read) (defBody s_read) (defScope s_read) .none kV_read dc_read pm_read an_read cd_read ct_read) f_letter_of (PySem.W.fnOf "letter_of" "letter_of" (defArgs s_letter_of) (defBody s_letter_of) (defScope s_letter_of) .none kV_letter_of dc_letter_of pm_letter_of an_letter_of cd_letter_of ct_letter_of) f_number_of (PySem.W.fnOf "number_of" "number_of" (defArgs s_number_of) (defBody s_number_of) (defScope s_number_of) .none kV_number_of dc_number_of pm_number_of an_number_of (.ref k_tab_number_of) ct_number_of) f_whole (PySem.W.fnOf "_law_whole" "_law_whole" (defArgs s_whole) (defBody s_whole) (defScope s_whole) .none kV_whole dc_whole pm_whole an_whole cd_whole ct_whole) f_cell_at (PySem.W.fnOf "_law_cell_at" "_law_cell_at" (defArgs s_cell_at) (defBody s_cell_at) (defScope s_cell_at) .none kV_cell_at dc_cell_at pm_cell_at an_cell_at cd_cell_at ct_cell_at) f_mix (PySem.W.fnOf "_law_mix" "_law_mix" (defArgs s_mix) (defBody s_mix) (defScope s_mix) .none kV_mix dc_mix pm_mix an_mix cd_mix ct_mix) f_big (PySem.W.fnOf "_law_big" "_law_big" (defArgs s_big) (defBody s_big) (defScope s_big) .none kV_big dc_big pm_big an_big cd_big ct_big) f_kind (PySem.W.fnOf "_law_kind" "_law_kind" (defArgs s_kind) (defBody s_kind) (defScope s_kind) .none kV_kind dc_kind pm_kind an_kind cd_kind ct_kind) f_word (PySem.W.fnOf "_law_word" "_law_word" (defArgs s_word) (defBody s_word) (defScope s_word) .none kV_word dc_word pm_word an_word cd_word ct_word) f_names (PySem.W.fnOf "_law_names" "_law_names" (defArgs s_names) (defBody s_names) (defScope s_names) .none kV_names dc_names pm_names an_names cd_names ct_names) f_letter (PySem.W.fnOf "_law_letter" "_law_letter" (defArgs s_letter) (defBody s_letter) (defScope s_letter) .none kV_letter dc_letter pm_letter an_letter cd_letter ct_letter) f_sign (PySem.W.fnOf "_law_sign" "_law_sign" (defArgs s_sign) (defBody s_sign) (defScope s_sign) .none kV_sign dc_sign pm_sign an_sign cd_sign ct_sign) f_odd (PySem.W.fnOf "_law_odd" "_law_odd" (defArgs s_odd) (defBody s_odd) (defScope s_odd) .none kV_odd dc_odd pm_odd an_odd cd_odd ct_odd) f_w_none (PySem.W.fnOf "_law_none" "_law_none" (defArgs s_w_none) (defBody s_w_none) (defScope s_w_none) .none kV_w_none dc_w_none pm_w_none an_w_none cd_w_none ct_w_none) f_row (PySem.W.fnOf "_law_row" "_law_row" (defArgs s_row) (defBody s_row) (defScope s_row) .none kV_row dc_row pm_row an_row cd_row ct_row) f_number (PySem.W.fnOf "_law_number" "_law_number" (defArgs s_number) (defBody s_number) (defScope s_number) .none kV_number dc_number pm_number an_number cd_number ct_number) f_w_letter_of (PySem.W.fnOf "_law_letter_of" "_law_letter_of" (defArgs s_w_letter_of) (defBody s_w_letter_of) (defScope s_w_letter_of) .none kV_w_letter_of dc_w_letter_of pm_w_letter_of an_w_letter_of cd_w_letter_of ct_w_letter_of) f_due (PySem.W.fnOf "_law_due" "_law_due" (defArgs s_due) (defBody s_due) (defScope s_due) .none kV_due dc_due pm_due an_due cd_due ct_due) f_told (PySem.W.fnOf "_law_told" "_law_told" (defArgs s_told) (defBody s_told) (defScope s_told) .none kV_told dc_told pm_told an_told cd_told ct_told) f_spoilt (PySem.W.fnOf "_law_spoilt" "_law_spoilt" (defArgs s_spoilt) (defBody s_spoilt) (defScope s_spoilt) .none kV_spoilt dc_spoilt pm_spoilt an_spoilt cd_spoilt ct_spoilt) f_kinds (PySem.W.fnOf "_law_kinds" "_law_kinds" (defArgs s_kinds) (defBody s_kinds) (defScope s_kinds) .none kV_kinds dc_kinds pm_kinds an_kinds cd_kinds ct_kinds) fa (PySem.W.fnOf "law" "law" (defArgs s_law) (defBody s_law) (defScope s_law) .none kV_law dc_law pm_law an_law cd_law ct_law) c_StretchError c_BadName c_BadLetter c_BadOff c_TooEarly c_BadCount c_NoAgreement c_TooWide c_TooMany c_NoClock c_NoText w_WORDS_BETWEEN) := {
    checked := fl_mk X G a_checked l_checked k_checked e_checked (fun us hl => match us, hl with | [_], _ => rfl)
    is_name := fl_mk X G a_is_name l_is_name k_is_name e_is_name (fun us hl => match us, hl with | [_], _ => rfl)
    in_order := fl_mk X G a_in_order l_in_order k_in_order e_in_order (fun us hl => match us, hl with | [_, _], _ => rfl)
    read := fl_mk X G a_read l_read k_read e_read (fun us hl => match us, hl with | [_], _ => rfl)
    letter_of := fl_mk X G a_letter_of l_letter_of k_letter_of e_letter_of (fun us hl => match us, hl with | [_], _ => rfl)
    number_of := fl_mk X G a_number_of l_number_of k_number_of e_number_of (fun us hl => match us, hl with | [_], _ => rfl)
    whole := fl_mk X G a_whole l_whole k_whole e_whole (fun us hl => match us, hl with | [_], _ => rfl)
    cell_at := fl_mk X G a_cell_at l_cell_at k_cell_at e_cell_at (fun us hl => match us, hl with | [_, _], _ => rfl)
    mix := fl_mk X G a_mix l_mix k_mix e_mix (fun us hl => match us, hl with | [_, _], _ => rfl)
    big := fl_mk X G a_big l_big k_big e_big (fun us hl => match us, hl with | [_, _], _ => rfl)
    kind := fl_mk X G a_kind l_kind k_kind e_kind (fun us hl => match us, hl with | [_], _ => rfl)
    word := fl_mk X G a_word l_word k_word e_word (fun us hl => match us, hl with | [_, _], _ => rfl)
    names := fl_mk X G a_names l_names k_names e_names (fun us hl => match us, hl with | [_], _ => rfl)
    letter := fl_mk X G a_letter l_letter k_letter e_letter (fun us hl => match us, hl with | [_, _, _], _ => rfl)
    sign := fl_mk X G a_sign l_sign k_sign e_sign (fun us hl => match us, hl with | [_], _ => rfl)
    odd := fl_mk X G a_odd l_odd k_odd e_odd (fun us hl => match us, hl with | [_], _ => rfl)
    w_none := fl_mk X G a_w_none l_w_none k_w_none e_w_none (fun us hl => match us, hl with | [_], _ => rfl)
    row := fl_mk X G a_row l_row k_row e_row (fun us hl => match us, hl with | [_], _ => rfl)
    number := fl_mk X G a_number l_number k_number e_number (fun us hl => match us, hl with | [_], _ => rfl)
    w_letter_of := fl_mk X G a_w_letter_of l_w_letter_of k_w_letter_of e_w_letter_of (fun us hl => match us, hl with | [_], _ => rfl)
    due := fl_mk X G a_due l_due k_due e_due (fun us hl => match us, hl with | [_], _ => rfl)
    told := fl_mk X G a_told l_told k_told e_told (fun us hl => match us, hl with | [_], _ => rfl)
    spoilt := fl_mk X G a_spoilt l_spoilt k_spoilt e_spoilt (fun us hl => match us, hl with | [_, _], _ => rfl)
    kinds := fl_mk X G a_kinds l_kinds k_kinds e_kinds (fun us hl => match us, hl with | [_], _ => rfl)
    law := fl_mk X G a_law l_law k_law e_law (fun us hl => match us, hl with | [_], _ => rfl)
    StretchError := ⟨PySem.W.mg_of X G n_StretchError, x_StretchError, h_StretchError, s_StretchError, t_StretchError⟩
    BadName := ⟨PySem.W.mg_of X G n_BadName, x_BadName, h_BadName, s_BadName, t_BadName⟩
    BadLetter := ⟨PySem.W.mg_of X G n_BadLetter, x_BadLetter, h_BadLetter, s_BadLetter, t_BadLetter⟩
    BadOff := ⟨PySem.W.mg_of X G n_BadOff, x_BadOff, h_BadOff, s_BadOff, t_BadOff⟩
    TooEarly := ⟨PySem.W.mg_of X G n_TooEarly, x_TooEarly, h_TooEarly, s_TooEarly, t_TooEarly⟩
    BadCount := ⟨PySem.W.mg_of X G n_BadCount, x_BadCount, h_BadCount, s_BadCount, t_BadCount⟩
    NoAgreement := ⟨PySem.W.mg_of X G n_NoAgreement, x_NoAgreement, h_NoAgreement, s_NoAgreement, t_NoAgreement⟩
    TooWide := ⟨PySem.W.mg_of X G n_TooWide, x_TooWide, h_TooWide, s_TooWide, t_TooWide⟩
    TooMany := ⟨PySem.W.mg_of X G n_TooMany, x_TooMany, h_TooMany, s_TooMany, t_TooMany⟩
    NoClock := ⟨PySem.W.mg_of X G n_NoClock, x_NoClock, h_NoClock, s_NoClock, t_NoClock⟩
    NoText := ⟨PySem.W.mg_of X G n_NoText, x_NoText, h_NoText, s_NoText, t_NoText⟩
    kd_BadName := kd_mk u_BadName (exm_sub s_StretchError d_S t_StretchError w_BadName) v_BadName q_BadName_0 q_BadName_1 q_BadName_2 q_BadName_3 q_BadName_4 q_BadName_5 q_BadName_6 q_BadName_7 q_BadName_8 q_BadName_9
    kd_BadLetter := kd_mk u_BadLetter (exm_sub s_StretchError d_S t_StretchError w_BadLetter) v_BadLetter q_BadLetter_0 q_BadLetter_1 q_BadLetter_2 q_BadLetter_3 q_BadLetter_4 q_BadLetter_5 q_BadLetter_6 q_BadLetter_7 q_BadLetter_8 q_BadLetter_9
    kd_NoText := kd_mk u_NoText (exm_sub s_StretchError d_S t_StretchError w_NoText) v_NoText q_NoText_0 q_NoText_1 q_NoText_2 q_NoText_3 q_NoText_4 q_NoText_5 q_NoText_6 q_NoText_7 q_NoText_8 q_NoText_9
    b_all := PySem.W.mg_none_of X G b_all
    b_len := PySem.W.mg_none_of X G b_len
    b_int := PySem.W.mg_none_of X G b_int
    b_list := PySem.W.mg_none_of X G b_list
    b_isinstance := PySem.W.mg_none_of X G b_isinstance
    b_bool := PySem.W.mg_none_of X G b_bool
    b_ValueError := PySem.W.mg_none_of X G b_ValueError
    b_range := PySem.W.mg_none_of X G b_range
    b_sorted := PySem.W.mg_none_of X G b_sorted
    b_min := PySem.W.mg_none_of X G b_min
    b_max := PySem.W.mg_none_of X G b_max
    b_str := PySem.W.mg_none_of X G b_str
    b_tuple := PySem.W.mg_none_of X G b_tuple
    c_LONGEST_NAME := ⟨_, PySem.W.mg_of X G m_LONGEST_NAME⟩
    c_GREATEST_NUMBER := ⟨_, PySem.W.mg_of X G m_GREATEST_NUMBER⟩
    c_WORDS_IN_A_ROW := ⟨_, PySem.W.mg_of X G m_WORDS_IN_A_ROW⟩
    h_tab_is_name := rfl
    h_tab_number_of := rfl
    g_WORDS_BETWEEN := PySem.W.mg_of X G mt_WORDS_BETWEEN
    t_WORDS_BETWEEN := fun H => .inr ⟨_, _, _, ot_WORDS_BETWEEN, rfl, rfl, (by show 4 ≤ sizeLine; decide), (.cons ⟨_, rfl⟩ <| .cons ⟨_, rfl⟩ <| .cons ⟨_, rfl⟩ <| .cons ⟨_, rfl⟩ <| .nil)⟩ }
  obtain ⟨e1_is_name, e2_is_name⟩ := tabs_is_name _ _ _ _ _ _ _ _ _ (PySem.W.mg_of X G a_is_name) l_is_name rfl rfl j_obj_is_name j_at_is_name
  obtain ⟨e1_number_of, e2_number_of⟩ := tabs_number_of _ _ _ _ _ _ _ _ _ (PySem.W.mg_of X G a_number_of) l_number_of rfl rfl j_obj_number_of j_at_number_of
  refine ⟨_, [(k_tab_is_name, P_tab_is_name), (k_tab_number_of, P_tab_number_of)], spLawT2 K P_tab_is_name P_tab_number_of, fun p hp => ?_, fun p hp => ?_, fun p hp => ?_, fun s v => .of_eq rfl, fun H a ns hl _ hH hS => ⟨a, ns, rfl, hS, hl, tab_nil (hH (k_tab_is_name, P_tab_is_name) (.head _)), tab_nil (hH (k_tab_number_of, P_tab_number_of) (.tail _ (.head _))), fun _ => rfl⟩, fun base _ _ hT => ok_law T (let t := hT (k_tab_is_name, P_tab_is_name) (.head _); ⟨t.code, t.bm, t.gP⟩) (let t := hT (k_tab_number_of, P_tab_number_of) (.tail _ (.head _)); ⟨t.code, t.bm, t.gP⟩)⟩
  · rcases List.mem_cons.mp hp with rfl | hp
    · exact e1_is_name
    · rw [List.mem_singleton] at hp; subst hp; exact e1_number_of
  · rcases List.mem_cons.mp hp with rfl | hp
    · exact j_none_is_name
    · rw [List.mem_singleton] at hp; subst hp; exact j_none_number_of
  · rcases List.mem_cons.mp hp with rfl | hp
    · exact e2_is_name
    · rw [List.mem_singleton] at hp; subst hp; exact e2_number_of
theorem walk {l : PySem.W.OpenLaw} {q : Program} {loose : List Str} {XP : (Str → Option Value) → Heap → Prop} {YP : World → Heap → Prop} {d : DefRec} {K : Params → PySem.W.Frag} (hn : l.most = some 63) (hdf : d.params.defaults = [])
    (hrec : ((recsOf q).any fun e => e.name == "is_name") = true) (hrec2 : ((recsOf q).any fun e => e.name == "number_of") = true) (hY : ∀ (w : World) (h : Heap), YP w h → (K w.params).In h)
    (F : ∀ (w : World) (mg : Str → Option Value) (fa : Addr) (h : Heap), (K w.params).In h → h.Ns mainGlobals mg → mg d.name = some (.ref fa) → TabOf (K w.params) mg h "is_name" → TabOf (K w.params) mg h "number_of" → LamX.LawAtS l w (K w.params) CX0 5 63 "_law_script" mg fa h) :
    PySem.W.WalkO q loose XP YP l.row.toRowW d [] (fun f vs => PySem.call f vs) :=
  walk_tab2 (n := 63) (k := 5) (x := "_law_script") (nm := "is_name") (nm2 := "number_of") (CX := fun _ => CX0) hn (by decide) hdf ⟨rfl, by decide, by decide⟩ hrec hrec2 hY F fun _ _ _ _ _ z => z
end Ts.k12
open PySem PySem.W PyProof.Rows
set_option maxRecDepth 100000 in
set_option maxHeartbeats 0 in
theorem PySem.Challenge.cw_timestretch_k12_read_holds : PySem.Challenge.rw_timestretch_k12_read.Holds := by
  w_on; o_law; k_head; (case hw => w_witness2)
  k_fill
  refine Ts.k12.walk (l := PySem.Challenge.rw_timestretch_k12_read) rfl rfl rfl rfl (fun w h Y => PySem.W.kIn_of Y) ?F
  case F =>
    intro w mg fa h KX G hmg tabs_is_name tabs_number_of
    refine' Ts.k12.all_mk KX G hmg tabs_is_name tabs_number_of ?a_checked ?l_checked ?k_checked ?e_checked ?a_is_name ?l_is_name ?k_is_name ?e_is_name ?a_in_order ?l_in_order ?k_in_order ?e_in_order ?a_read ?l_read ?k_read ?e_read ?a_letter_of ?l_letter_of ?k_letter_of ?e_letter_of ?a_number_of ?l_number_of ?k_number_of ?e_number_of ?a_whole ?l_whole ?k_whole ?e_whole ?a_cell_at ?l_cell_at ?k_cell_at ?e_cell_at ?a_mix ?l_mix ?k_mix ?e_mix ?a_big ?l_big ?k_big ?e_big ?a_kind ?l_kind ?k_kind ?e_kind ?a_word ?l_word ?k_word ?e_word ?a_names ?l_names ?k_names ?e_names ?a_letter ?l_letter ?k_letter ?e_letter ?a_sign ?l_sign ?k_sign ?e_sign ?a_odd ?l_odd ?k_odd ?e_odd ?a_w_none ?l_w_none ?k_w_none ?e_w_none ?a_row ?l_row ?k_row ?e_row ?a_number ?l_number ?k_number ?e_number ?a_w_letter_of ?l_w_letter_of ?k_w_letter_of ?e_w_letter_of ?a_due ?l_due ?k_due ?e_due ?a_told ?l_told ?k_told ?e_told ?a_spoilt ?l_spoilt ?k_spoilt ?e_spoilt ?a_kinds ?l_kinds ?k_kinds ?e_kinds ?a_law ?l_law ?k_law ?e_law ?n_StretchError ?x_StretchError ?h_StretchError ?s_StretchError ?t_StretchError ?n_BadName ?x_BadName ?h_BadName ?s_BadName ?t_BadName ?n_BadLetter ?x_BadLetter ?h_BadLetter ?s_BadLetter ?t_BadLetter ?n_BadOff ?x_BadOff ?h_BadOff ?s_BadOff ?t_BadOff ?n_TooEarly ?x_TooEarly ?h_TooEarly ?s_TooEarly ?t_TooEarly ?n_BadCount ?x_BadCount ?h_BadCount ?s_BadCount ?t_BadCount ?n_NoAgreement ?x_NoAgreement ?h_NoAgreement ?s_NoAgreement ?t_NoAgreement ?n_TooWide ?x_TooWide ?h_TooWide ?s_TooWide ?t_TooWide ?n_TooMany ?x_TooMany ?h_TooMany ?s_TooMany ?t_TooMany ?n_NoClock ?x_NoClock ?h_NoClock ?s_NoClock ?t_NoClock ?n_NoText ?x_NoText ?h_NoText ?s_NoText ?t_NoText ?u_BadName ?w_BadName ?v_BadName ?q_BadName_0 ?q_BadName_1 ?q_BadName_2 ?q_BadName_3 ?q_BadName_4 ?q_BadName_5 ?q_BadName_6 ?q_BadName_7 ?q_BadName_8 ?q_BadName_9 ?u_BadLetter ?w_BadLetter ?v_BadLetter ?q_BadLetter_0 ?q_BadLetter_1 ?q_BadLetter_2 ?q_BadLetter_3 ?q_BadLetter_4 ?q_BadLetter_5 ?q_BadLetter_6 ?q_BadLetter_7 ?q_BadLetter_8 ?q_BadLetter_9 ?u_NoText ?w_NoText ?v_NoText ?q_NoText_0 ?q_NoText_1 ?q_NoText_2 ?q_NoText_3 ?q_NoText_4 ?q_NoText_5 ?q_NoText_6 ?q_NoText_7 ?q_NoText_8 ?q_NoText_9 ?d_S ?b_all ?b_len ?b_int ?b_list ?b_isinstance ?b_bool ?b_ValueError ?b_range ?b_sorted ?b_min ?b_max ?b_str ?b_tuple ?m_LONGEST_NAME ?m_GREATEST_NUMBER ?m_WORDS_IN_A_ROW ?j_code_is_name ?j_obj_is_name ?j_at_is_name ?j_none_is_name ?j_code_number_of ?j_obj_number_of ?j_at_number_of ?j_none_number_of ?mt_WORDS_BETWEEN ?ot_WORDS_BETWEEN
    (case a_checked => k_is)
    (case l_checked => k_is)
    (case k_checked => k_is)
    (case e_checked => k_is)
    (case a_is_name => k_is)
    (case l_is_name => k_is)
    (case k_is_name => k_is)
    (case e_is_name => k_is)
    (case a_in_order => k_is)
    (case l_in_order => k_is)
    (case k_in_order => k_is)
    (case e_in_order => k_is)
    (case a_read => k_is)
    (case l_read => k_is)
    (case k_read => k_is)
    (case e_read => k_is)
    (case a_letter_of => k_is)
    (case l_letter_of => k_is)
    (case k_letter_of => k_is)
    (case e_letter_of => k_is)
    (case a_number_of => k_is)
    (case l_number_of => k_is)
    (case k_number_of => k_is)
    (case e_number_of => k_is)
    (case a_whole => k_is)
    (case l_whole => k_is)
    (case k_whole => k_is)
    (case e_whole => k_is)
    (case a_cell_at => k_is)
    (case l_cell_at => k_is)
    (case k_cell_at => k_is)
    (case e_cell_at => k_is)
    (case a_mix => k_is)
    (case l_mix => k_is)
    (case k_mix => k_is)
    (case e_mix => k_is)
    (case a_big => k_is)
    (case l_big => k_is)
    (case k_big => k_is)
    (case e_big => k_is)
    (case a_kind => k_is)
    (case l_kind => k_is)
    (case k_kind => k_is)
    (case e_kind => k_is)
    (case a_word => k_is)
    (case l_word => k_is)
    (case k_word => k_is)
    (case e_word => k_is)
    (case a_names => k_is)
    (case l_names => k_is)
    (case k_names => k_is)
    (case e_names => k_is)
    (case a_letter => k_is)
    (case l_letter => k_is)
    (case k_letter => k_is)
    (case e_letter => k_is)
    (case a_sign => k_is)
    (case l_sign => k_is)
    (case k_sign => k_is)
    (case e_sign => k_is)
    (case a_odd => k_is)
    (case l_odd => k_is)
    (case k_odd => k_is)
    (case e_odd => k_is)
    (case a_w_none => k_is)
    (case l_w_none => k_is)
    (case k_w_none => k_is)
    (case e_w_none => k_is)
    (case a_row => k_is)
    (case l_row => k_is)
    (case k_row => k_is)
    (case e_row => k_is)
    (case a_number => k_is)
    (case l_number => k_is)
    (case k_number => k_is)
    (case e_number => k_is)
    (case a_w_letter_of => k_is)
    (case l_w_letter_of => k_is)
    (case k_w_letter_of => k_is)
    (case e_w_letter_of => k_is)
    (case a_due => k_is)
    (case l_due => k_is)
    (case k_due => k_is)
    (case e_due => k_is)
    (case a_told => k_is)
    (case l_told => k_is)
    (case k_told => k_is)
    (case e_told => k_is)
    (case a_spoilt => k_is)
    (case l_spoilt => k_is)
    (case k_spoilt => k_is)
    (case e_spoilt => k_is)
    (case a_kinds => k_is)
    (case l_kinds => k_is)
    (case k_kinds => k_is)
    (case e_kinds => k_is)
    (case a_law => k_is)
    (case l_law => k_is)
    (case k_law => k_is)
    (case e_law => k_is)
    (case n_StretchError => k_is)
    (case x_StretchError => k_exc)
    (case h_StretchError => k_is)
    (case s_StretchError => k_is)
    (case t_StretchError => k_is)
    (case n_BadName => k_is)
    (case x_BadName => k_exc)
    (case h_BadName => k_is)
    (case s_BadName => k_is)
    (case t_BadName => k_is)
    (case n_BadLetter => k_is)
    (case x_BadLetter => k_exc)
    (case h_BadLetter => k_is)
    (case s_BadLetter => k_is)
    (case t_BadLetter => k_is)
    (case n_BadOff => k_is)
    (case x_BadOff => k_exc)
    (case h_BadOff => k_is)
    (case s_BadOff => k_is)
    (case t_BadOff => k_is)
    (case n_TooEarly => k_is)
    (case x_TooEarly => k_exc)
    (case h_TooEarly => k_is)
    (case s_TooEarly => k_is)
    (case t_TooEarly => k_is)
    (case n_BadCount => k_is)
    (case x_BadCount => k_exc)
    (case h_BadCount => k_is)
    (case s_BadCount => k_is)
    (case t_BadCount => k_is)
    (case n_NoAgreement => k_is)
    (case x_NoAgreement => k_exc)
    (case h_NoAgreement => k_is)
    (case s_NoAgreement => k_is)
    (case t_NoAgreement => k_is)
    (case n_TooWide => k_is)
    (case x_TooWide => k_exc)
    (case h_TooWide => k_is)
    (case s_TooWide => k_is)
    (case t_TooWide => k_is)
    (case n_TooMany => k_is)
    (case x_TooMany => k_exc)
    (case h_TooMany => k_is)
    (case s_TooMany => k_is)
    (case t_TooMany => k_is)
    (case n_NoClock => k_is)
    (case x_NoClock => k_exc)
    (case h_NoClock => k_is)
    (case s_NoClock => k_is)
    (case t_NoClock => k_is)
    (case n_NoText => k_is)
    (case x_NoText => k_exc)
    (case h_NoText => k_is)
    (case s_NoText => k_is)
    (case t_NoText => k_is)
    (case u_BadName => constructor <;> k_is)
    (case w_BadName => k_is)
    (case v_BadName => kit_is)
    (case q_BadName_0 => kit_is)
    (case q_BadName_1 => kit_is)
    (case q_BadName_2 => kit_is)
    (case q_BadName_3 => kit_is)
    (case q_BadName_4 => kit_is)
    (case q_BadName_5 => kit_is)
    (case q_BadName_6 => kit_is)
    (case q_BadName_7 => kit_is)
    (case q_BadName_8 => kit_is)
    (case q_BadName_9 => kit_is)
    (case u_BadLetter => constructor <;> k_is)
    (case w_BadLetter => k_is)
    (case v_BadLetter => kit_is)
    (case q_BadLetter_0 => kit_is)
    (case q_BadLetter_1 => kit_is)
    (case q_BadLetter_2 => kit_is)
    (case q_BadLetter_3 => kit_is)
    (case q_BadLetter_4 => kit_is)
    (case q_BadLetter_5 => kit_is)
    (case q_BadLetter_6 => kit_is)
    (case q_BadLetter_7 => kit_is)
    (case q_BadLetter_8 => kit_is)
    (case q_BadLetter_9 => kit_is)
    (case u_NoText => constructor <;> k_is)
    (case w_NoText => k_is)
    (case v_NoText => kit_is)
    (case q_NoText_0 => kit_is)
    (case q_NoText_1 => kit_is)
    (case q_NoText_2 => kit_is)
    (case q_NoText_3 => kit_is)
    (case q_NoText_4 => kit_is)
    (case q_NoText_5 => kit_is)
    (case q_NoText_6 => kit_is)
    (case q_NoText_7 => kit_is)
    (case q_NoText_8 => kit_is)
    (case q_NoText_9 => kit_is)
    (case d_S => k_is)
    (case b_all => k_is)
    (case b_len => k_is)
    (case b_int => k_is)
    (case b_list => k_is)
    (case b_isinstance => k_is)
    (case b_bool => k_is)
    (case b_ValueError => k_is)
    (case b_range => k_is)
    (case b_sorted => k_is)
    (case b_min => k_is)
    (case b_max => k_is)
    (case b_str => k_is)
    (case b_tuple => k_is)
    (case m_LONGEST_NAME => k_is)
    (case m_GREATEST_NUMBER => k_is)
    (case m_WORDS_IN_A_ROW => k_is)
    (case j_code_is_name => rfl)
    (case j_obj_is_name => k_is)
    (case j_at_is_name => rfl)
    (case j_none_is_name => kernel_rfl)
    (case j_code_number_of => rfl)
    (case j_obj_number_of => k_is)
    (case j_at_number_of => rfl)
    (case j_none_number_of => kernel_rfl)
    (case mt_WORDS_BETWEEN => k_is)
    (case ot_WORDS_BETWEEN => k_is)
