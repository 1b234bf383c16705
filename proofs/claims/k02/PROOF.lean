import PyProof.Rows.All
import Wide.All
import OpenK.AllK
import Wide.FinOn
import PyProof.EqAt
import PyProof.EqKinds
import PyProof.TupleCall
import HandS.ForMost
import HandS.ForExc
import HandS.HotCalls
import HandS.ExcIs
import HandS.IsInst
import HandS.NoneIn
import HandS.AnyAll
import HandS.EndTab
import HandS.EndOwn
import HandS.ListItems
import HandS.Walk
import PySem.Challenge.RW_timestretch_k02_letters_checked
set_option Elab.async false
set_option linter.all false
set_option maxRecDepth 100000
set_option maxHeartbeats 4000000
section
/-! A caught error handed to a def: the def's promise speaks of the error's own class. -/
namespace Ts
open PySem PySem.Spec PyProof.Rows L2
abbrev St := L2.St

/-- a promise about a caught error: its place, its class -/
abbrev SpE := Addr → Value → Sp

/-- the def at f, called within an except suite that holds the error -/
structure FnE (P : Program) (w : World) (K : PySem.W.Frag) (mg : Str → Option Value) (base : Heap) (k : Nat)
    (f : Addr) (fd : FuncData) (ps : List Str) (sp : SpE) : Prop where
  len : ∀ a c vs H Q E, sp a c vs H Q E → vs.length = ps.length
  run : ∀ (A : Around) (outer : List Env) (s : Shared) (H : Hp) (args : Args) (us : List Value) (vs : List V) (Q : VK) (E : XK)
    (p : Addr × Obj) (c : Value),
    L2H.RoomH k A → L2H.PinOk outer H s p → Zc c none p.2 → (∃ v, p.2.data = .fields v) →
    Env0 P w K mg base A outer s H → BindsTo s fd args (ps.zip us) → Vals vs us → sp p.1 c vs H Q E →
    codeAny (model P w) A (.call (.ref f) args) (CR CX0 outer P w H s Q E) s

theorem fnE_of {P : Program} {w : World} {K : PySem.W.Frag} {mg : Str → Option Value} {base : Heap} {k : Nat}
    {x qual : Str} {st : Stmt} {f : Addr} {fd : FuncData} {N ps : List Str} {sp : SpE}
    (F : Fun K x qual st f fd) (S : FnScope N ps (defScope st))
    (len : ∀ a c vs H Q E, sp a c vs H Q E → vs.length = ps.length)
    (body : ∀ (cdv : Value) (A : Around) (outer : List Env) (s : Shared) (H : Hp) (vs : List V) (Q : VK) (E : XK)
      (p : Addr × Obj) (c : Value), Zc c none p.2 → (∃ v, p.2.data = .fields v) →
      L2H.RoomH k (A.deeper (envOfC qual (defScope st) s.heap.objs.size f cdv)) → sp p.1 c vs H Q E →
      ∃ t, PSs (L2H.cxH CX0 P w K mg base N qual (defScope st) f cdv A outer s H E p) (defBody st) t ∧
        t { nx := fun _ H' => Q .non H', rt := Q } (start N vs) H) :
    FnE P w K mg base (k + 1) f fd ps sp := by
  obtain ⟨oc, od, kV, doc, pm, an, cdv, ct, osl, hfd, lk, hcd⟩ := F.ex
  subst hfd
  constructor
  · exact len
  intro A outer s H args us vs Q E p c hr hpin hz hf e0 hb r hsp
  have hl := len _ _ _ _ _ _ hsp
  have old : ∀ b o, base.get? b = some o → s.heap.get? b = some o := fun b o e => (e0.bs b o e).1
  have lim := e0.mod.nolimit.keeps old
  have kinds : ∀ y ∈ ps.zip us, (defScope st).names.lookup y.1 = some .local ∨
      ((defScope st).names.lookup y.1 = some .cell ∧
        ((cellsFrom (s.heap.objs.size + 1) (defScope st).names []).lookup y.1).isSome = true) := by
    rintro ⟨n, v⟩ hy
    cases S.par n (List.of_mem_zip hy).1 with
    | inl q => exact .inl q
    | inr q => exact .inr ⟨q, PySem.W.cellsFrom_some _ _ _ (.inl q)⟩
  refine codeAny_call_function hr.depth ((e0.mod.kin.keeps old) _ _ lk) rfl S.co S.gen rfl
    (PySem.W.codeRec_of (e0.mod.kin.keeps old) hcd) (hb _ _ _ _ ?_)
  refine wpAny_newFunctionEnv_cells S.kind kinds ?_
  intro env he s1 x1
  subst he
  refine ⟨lim.keeps x1.toInCall.keep, codeAny_func ?_⟩
  obtain ⟨t, ht, hq⟩ := body cdv A outer s H vs Q E p c hz hf (hr.deeper _) hsp
  have I := L2H.inv_startH (CX := CX0) (E := E) S hpin e0 hl r x1
  have goal := ht.run [] s1 (start N vs) H _ I hq
  refine wpAny_mono goal ?_ (fun _ _ z => z)
  intro fl s' hs
  have fin : ∀ {σ' : St} {H' : Hp} {v : V} {u : Value},
      Inv (L2H.cxH CX0 P w K mg base N qual (defScope st) f cdv A outer s H E p) [] σ' H' s' → RelV v u → Q v H' →
      CE outer P w H s Q u s' :=
    fun {_ H' v _} J rv q => ⟨v, H', J.os, J.bare, J.base, J.hok, rv, q⟩
  cases fl with
  | ret u => exact match hs with | ⟨_, _, _, J, rv, q⟩ => fin J rv q
  | next => exact match hs with | ⟨_, _, J, q⟩ => fin (v := V.non) (u := Value.none) J rfl q
  | brk => exact match hs with | ⟨_, _, _, q⟩ => q.elim
  | cont => exact match hs with | ⟨_, _, _, q⟩ => q.elim

/-- g(e, ..) in a suite that holds the error p -/
def tCallE (sp : SpE) (a : Addr) (c : Value) (d : Option Addr) (t : TA) : TE := fun σ H Q => t σ H fun vs H1 => d = none ∧ sp a c vs H1 Q E0
theorem pe_callE {X : Cx} {k : Nat} {f : Addr} {fd : FuncData} {ps : List Str} {sp : SpE} {x : Str} {q pos : Pos} {e : Expr} {es : List Expr} {t : TA} {p : Addr × Obj} {c : Value} {d : Option Addr}
    (F : FnE X.prog X.w X.K X.mg X.base k f fd ps sp) (hr : L2H.RoomH k X.A) (hp : p ∈ X.pn) (hz : Zc c d p.2) (hf : ∃ v, p.2.data = .fields v)
    (hm : X.mg x = some (.ref f)) (hk : PySem.W.keepIn X.K (.ref f) = true) (hb : Binds X.K fd ps [])
    (ha : PA X (e :: es) t) (hg : Gl X x := by rfl) (hdb : (x == ("__debug__" : Str)) = false := by decide)
    (he : starEach (e :: es) X.env = (false, eval e X.env) :: starEach es X.env := by rfl) (hpl : (backTo pos (starEach es X.env)).any (·.1) = false := by rfl) :
    PE X (.Call (.Name x q) (e :: es) [] pos) (tCallE sp p.1 c d t) := by
  constructor
  intro pins s σ H Q I h
  refine wpAny_Call_Name_kw (ld_glob I hg hm ?_ hdb)
  refine PySem.W.callWith_K (h₀ := X.base) I.ok.mod.kin hk (thn (ha.run pos pins s σ H _ I h) ?_) he hpl
  rintro us s1 ⟨vs, H1, I1, r, hd, w1⟩
  subst hd
  refine ⟨I1.kIn, ?_⟩
  have n1 : us.length = ps.length := by rw [← r.length]; exact F.len _ _ _ _ _ _ w1
  have b := hb s1 us I1.kIn (by rw [List.append_nil]; exact n1)
  rw [List.append_nil] at b
  have P1 := I1.pin p (List.mem_append_left _ hp)
  have ns : p.1 ∉ frs X.stack := fun hm => by
    cases List.mem_cons.mp (I1.stkSub p.1 hm) with
    | inl z => exact P1.2.2.1 z
    | inr z => exact P1.2.2.2.1 z
  refine wpAny_call (codeAny_mono (F.run X.A X.stack s1 H1 ⟨us, []⟩ us vs Q E0 p c hr ⟨P1.1, P1.2.1, ns, P1.2.2.2.2⟩ hz hf I1.env0 b r w1) ?_)
  intro r' s' hq
  cases r' with
  | error e => exact hq.elim
  | ok fl => cases fl with
    | ret u => exact I1.after hq
    | next => exact hq.elim
    | brk => exact hq.elim
    | cont => exact hq.elim

theorem rm_suite {j k : Nat} {A : Around} {v : Option Value} (hr : Room k A) (h : j ≤ k) : L2H.RoomH j (A.mark v) := L2H.RoomH.mono (k := k) ⟨hr.dp, hr.un⟩ h
/-- isinstance(e, c), e the error that X holds -/
theorem call_isP {X : Cx} {D : Addr} {p : Addr × Obj} (C : ExcC X.K D) (hp : p ∈ X.pn) (hz : Zc (.ref D) none p.2) (hf : ∃ v, p.2.data = .fields v) :
    CallR X (.builtin "isinstance") (rIsE X.K D p.1) := by
  rintro pins s σ H xs us Q I r ⟨c, cv, b, rfl, hcv, e, q⟩
  obtain ⟨a, oe⟩ := p
  match r with
  | .cons rx (.cons rt .nil) =>
    cases rx
    have ec := hcv _ rt
    subst ec
    have hget := (I.pin (a, oe) (List.mem_append_left _ hp)).1
    have J : PySem.W.InstAt s.heap a oe D none := by
      obtain ⟨v, hv⟩ := hf
      obtain ⟨h1, h2⟩ := hz
      obtain ⟨oc, od, oda, osl⟩ := oe
      dsimp only at hv h1 h2
      subst hv h1 h2
      exact ⟨hget, rfl, rfl, trivial⟩
    refine PySem.W.kia_one (PySem.W.handS_kitx_exc C.hg C.hk C.hs C.hd C.ha C.hn C.ht C.hm) I.kIn J e (fun z => nomatch z) ?_
    intro tk
    exact ⟨.bl b, H, I.kept (t' := tk) fun _ _ z => z, rfl, q⟩

/-- xs.count(y), flat items -/
def rCount (K : PySem.W.Frag) : V → List V → Hp → VK → Prop := fun x xs H Q => ∃ (a : Addr) (ys : List V) (y : V), x = .ref a ∧ xs = [y] ∧ SqL K H a ys ∧ flatV y = true ∧ ys.all flatV = true ∧ Q (.int ((ys.countP fun z => eqV z y : Nat) : Int)) H
theorem count_eqU {x : V} : ∀ {xs : List V} {us : List Value}, Vals xs us → xs.all flatV = true → us.countP (eqU x) = xs.countP fun y => eqV y x
  | _, _, .nil, _ => rfl
  | y :: xs, u :: us, .cons r t, f => by
    rw [List.all_cons, Bool.and_eq_true] at f
    rw [List.countP_cons, List.countP_cons, eqU_of r f.1, count_eqU t f.2]
theorem mt_count {X : Cx} : MtR X "list.count" (rCount X.K) := by
  rintro pins s σ H x xs v us Q I rx rxs ⟨a, ys, y, rfl, rfl, hs, fy, fys, q⟩
  cases rx
  match rxs with
  | .cons (b := uy) ry .nil =>
    obtain ⟨its, rv, ⟨⟨cls, dd, data, sl⟩, n, ho, hc, hdn, hd⟩, hlen⟩ := I.list hs
    simp only at hc hd
    subst hc hd
    refine call_meets PySem.F.slot_list_count ⟨_, ho, rfl⟩ PySem.F.entry_list_count (PySem.F.args_list_count_2 _ _) (SeqAt.list_countAt a its.toArray n dd sl uy (eqU y)) ⟨ho, ?_, ?_⟩
    · exact fun u hu => mem_eqAt ry fy rv fys u (by simpa using hu)
    · refine ⟨.int ((ys.countP fun z => eqV z y : Nat) : Int), H, I.tok _, ⟨s.toks, ?_⟩, q⟩
      rw [← count_eqU rv fys]
end Ts
end
section
namespace Ts
open PySem PySem.Spec PyProof.Rows L2

theorem pe_imp {X : Cx} {e : Expr} {t t' : TE} (h : PE X e t) (q : ∀ σ H Q, t' σ H Q → t σ H Q) : PE X e t' :=
  ⟨fun pins s σ H Q I w => h.run pins s σ H Q I (q σ H Q w)⟩
theorem opr_imp {X : Cx} {f : Value → Value → Sem Value} {r r' : R2} (h : OpR X f r) (q : ∀ x y H Q, r' x y H Q → r x y H Q) : OpR X f r' :=
  fun pins s σ H x y v u Q I rx ry w => h pins s σ H x y v u Q I rx ry (q x y H Q w)
theorem ixr_imp {X : Cx} {r r' : R2} (h : IxR X r) (q : ∀ x y H Q, r' x y H Q → r x y H Q) : IxR X r' :=
  fun value slice pins s σ H x y v u Q I rx ry w => h value slice pins s σ H x y v u Q I rx ry (q x y H Q w)

/-- an operation by a written number -/
def rByC (c : Int) (g : Int → V) : R2 := fun x y H Q => ∃ i, x = .int i ∧ y = .int c ∧ Q (g i) H
section
variable {X : Cx} {c : Int}
theorem op_modc (hc : (0 : Int) < c) : OpR X (binaryOp .Mod) (rByC c fun i => .int (i % c)) :=
  opr_imp op_mod fun _ _ _ _ h => match h with | ⟨i, e1, e2, q⟩ => ⟨i, c, e1, e2, hc, q⟩
theorem op_divc (hc : (0 : Int) < c) (h2 : c < 1073741824) : OpR X (binaryOp .FloorDiv) (rByC c fun i => .int (i / c)) :=
  opr_imp op_fdiv fun _ _ _ _ h => match h with | ⟨i, e1, e2, q⟩ => ⟨i, c, e1, e2, ⟨hc, h2⟩, q⟩
theorem op_mulc (hc : -(2 ^ 64) < c ∧ c < 2 ^ 64) : OpR X (binaryOp .Mult) (rByC c fun i => .int (i * c)) :=
  opr_imp op_mul fun _ _ _ _ h => match h with | ⟨i, e1, e2, q⟩ => ⟨i, c, e1, e2, Or.inr hc, q⟩
end
/-- c * e with a written number c -/
def rOfC (c : Int) (g : Int → V) : R2 := fun x y H Q => ∃ i, x = .int c ∧ y = .int i ∧ Q (g i) H
theorem op_cmul {X : Cx} {c : Int} (hc : -(2 ^ 64) < c ∧ c < 2 ^ 64) : OpR X (binaryOp .Mult) (rOfC c fun i => .int (c * i)) :=
  opr_imp op_mul fun _ _ _ _ h => match h with | ⟨i, e1, e2, q⟩ => ⟨c, i, e1, e2, Or.inl hc, q⟩
theorem pe_negc {X : Cx} {c : Int} {k : Nat} {p pos : Pos} : PE X (.UnaryOp .USub (.Constant (.int c) k p) pos) (tC (.int (-c))) :=
  pe_imp (pe_un un_neg pe_int) fun _ _ _ h => ⟨c, rfl, h⟩
theorem pe_powc {X : Cx} {n m : Int} {k k' : Nat} {p p' pos : Pos} (h0 : 0 ≤ m ∧ m ≤ 1000000 ∧ n.natAbs < 2 ^ 64) : PE X (.BinOp (.Constant (.int n) k p) .Pow (.Constant (.int m) k' p') pos) (tC (.int (n ^ m.toNat))) :=
  pe_imp (pe_op op_pow pe_int pe_int) fun _ _ _ h => ⟨n, m, rfl, rfl, h0, h⟩
theorem pe_pow12 {X : Cx} {k k' : Nat} {p p' pos : Pos} : PE X (.BinOp (.Constant (.int 10) k p) .Pow (.Constant (.int 12) k' p') pos) (tC (.int 1000000000000)) := pe_powc (by decide)
theorem pe_pow24 {X : Cx} {k k' : Nat} {p p' pos : Pos} : PE X (.BinOp (.Constant (.int 10) k p) .Pow (.Constant (.int 24) k' p') pos) (tC (.int 1000000000000000000000000)) := pe_powc (by decide)
theorem pe_pow40 {X : Cx} {k k' : Nat} {p p' pos : Pos} : PE X (.BinOp (.Constant (.int 10) k p) .Pow (.Constant (.int 40) k' p') pos) (tC (.int 10000000000000000000000000000000000000000)) := pe_powc (by decide)

theorem pe_gint {X : Cx} {x : Str} {c : Int} {t : Tok} {pos : Pos} (hm : X.mg x = some (.int c t)) (hg : Gl X x := by rfl) (hd : (x == ("__debug__" : Str)) = false := by decide) : PE X (.Name x pos) (tC (.int c)) := pe_glob hg hm ⟨_, rfl⟩ hd
theorem pe_gref {X : Cx} {x : Str} {C : Addr} {pos : Pos} (hm : X.mg x = some (.ref C)) (hg : Gl X x := by rfl) (hd : (x == ("__debug__" : Str)) = false := by decide) : PE X (.Name x pos) (tC (.ref C)) := pe_glob hg hm rfl hd
theorem pe_bty {X : Cx} {x : Str} {n : String} {pos : Pos} (hm : X.mg x = none) (hv : bootBuiltins x = some (.type n)) (hg : Gl X x := by rfl) (hn : x ≠ "__name__" := by decide) (hd : (x == ("__debug__" : Str)) = false := by decide) : PE X (.Name x pos) (tC (.ty n)) := pe_bltn hg hm hv rfl hn hd
/-! ### rules whose reading names K itself (under a binder X's own K is no answer) -/
section
variable {X : Cx} (K : PySem.W.Frag)
theorem ixL (h : X.K = K := by rfl) : IxR X (rIxL K) := h ▸ ix_list
theorem ixT (h : X.K = K := by rfl) : IxR X (rIxT K) := h ▸ ix_tup
theorem slL (h : X.K = K := by rfl) : SlR X (rSlL K) := h ▸ sl_list
theorem slT (h : X.K = K := by rfl) : SlR X (rSlT K) := h ▸ sl_tup
def rLenQ (K : PySem.W.Frag) : List V → Hp → VK → Prop := fun xs H Q => ∃ p ys, xs = [.ref p] ∧ (SqL K H p ys ∨ SqT K H p ys) ∧ Q (.int ys.length) H
theorem lenK (h : X.K = K := by rfl) : CallR X (.builtin "len") (rLenQ K) := h ▸ call_len_seq
def rListQ (K : PySem.W.Frag) : List V → Hp → VK → Prop := fun xs H Q => ∃ p ys, xs = [.ref p] ∧ (SqL K H p ys ∨ SqT K H p ys) ∧ ∀ l, H l = none → Q (.ref l) (upd H l (.lst ys))
theorem listK (h : X.K = K := by rfl) : CallR X (.type "list") (rListQ K) := h ▸ call_list_of
theorem isiK (h : X.K = K := by rfl) : CallR X (.builtin "isinstance") (rIsi K) := h ▸ call_isi
theorem eqDK (hu : X.A.units + 64 < cLine) (h : X.K = K := by rfl) : OpR X (compareOp .Eq) (rEqD K) := h ▸ op_eqD hu
theorem neDK (hu : X.A.units + 64 < cLine) (h : X.K = K := by rfl) : OpR X (compareOp .NotEq) (rNeD K) := h ▸ op_neD hu
theorem inK (h : X.K = K := by rfl) : OpR X (compareOp .In) (rIn K false) := h ▸ op_in_seq
theorem niK (h : X.K = K := by rfl) : OpR X (compareOp .NotIn) (rIn K true) := h ▸ op_notIn_seq
theorem piL {tg l : Expr} {tl : TE} (hl : PE X l tl) (h : X.K = K := by rfl) : PI X tg l (iList K tl) := h ▸ pi_list hl
theorem piT {tg l : Expr} {tl : TE} (hl : PE X l tl) (h : X.K = K := by rfl) : PI X tg l (iTup K tl) := h ▸ pi_tup hl
theorem sortK (h : X.K = K := by rfl) : CallR X (.builtin "sorted") (rSorted K) := h ▸ cr_sorted
theorem maxK (hc : X.calm = true) (h : X.K = K := by rfl) : CallR X (.builtin "max") (rMax K) := h ▸ cr_max hc
theorem minK (hc : X.calm = true) (h : X.K = K := by rfl) : CallR X (.builtin "min") (rMin K) := h ▸ cr_min hc
end
/-! ### an item of a list -/
/-- an item at a place that lies in the list -/
theorem at_in {xs : List V} {i : Int} (h0 : 0 ≤ i) (h1 : i < xs.length) : ∃ v, v ∈ xs ∧ xs[i.toNat]? = some v ∧ atI xs i = some v := by
  have hn : i.toNat < xs.length := by omega
  refine ⟨xs[i.toNat], List.getElem_mem hn, List.getElem?_eq_getElem hn, ?_⟩
  exact at_of (j := i.toNat) (by omega) (List.getElem?_eq_getElem hn)
/-- xs[i], i in bounds: any of them -/
theorem ix_any {K : PySem.W.Frag} {H : Hp} {p : Addr} {xs : List V} {i : Int} {Q : VK} (P : V → Prop) (h : SqL K H p xs) (h0 : 0 ≤ i) (h1 : i < xs.length) (hp : ∀ v ∈ xs, P v) (q : ∀ v, P v → Q v H) : rIxL K (.ref p) (.int i) H Q := by
  obtain ⟨v, hm, _, ha⟩ := at_in h0 h1
  exact ⟨p, xs, i, v, rfl, rfl, h, ha, q v (hp v hm)⟩
/-- the same of numbers -/
theorem ix_int {K : PySem.W.Frag} {H : Hp} {p : Addr} {xs : List V} {i : Int} {Q : VK} (P : Int → Prop) (h : SqL K H p xs) (h0 : 0 ≤ i) (h1 : i < xs.length) (hp : ∀ v ∈ xs, ∃ j, v = .int j ∧ P j) (q : ∀ j, P j → Q (.int j) H) : rIxL K (.ref p) (.int i) H Q :=
  ix_any (fun v => ∃ j, v = .int j ∧ P j) h h0 h1 hp fun _ ⟨j, e, pj⟩ => e ▸ q j pj
theorem all1 {P : V → Prop} {a : V} (ha : P a) : ∀ v ∈ [a], P v := fun v hv => by
  rw [List.mem_singleton] at hv
  exact hv ▸ ha
theorem allc {P : V → Prop} {a : V} {l : List V} (ha : P a) (hl : ∀ v ∈ l, P v) : ∀ v ∈ a :: l, P v := fun v hv => by
  rcases List.mem_cons.mp hv with e | e
  · exact e ▸ ha
  · exact hl v e
theorem SqL.here {K : PySem.W.Frag} {H : Hp} {p : Addr} {xs : List V} : SqL K (upd H p (.lst xs)) p xs := SqL.of upd_same
theorem same_new {H : Hp} {p : Addr} {o : HO} (h : H p = none) : Same H (upd H p o) := fun b u e => by rw [upd_ne (ne_of_none e h)]; exact e
theorem Same.seqT {K : PySem.W.Frag} {H H' : Hp} {a : Addr} {xs : List V} (e : Same H H') (h : SqT K H a xs) : SqT K H' a xs := by
  rcases h with (h | ⟨o, h⟩) | h
  · exact .inl (.inl (e _ _ h))
  · exact .inl (.inr ⟨o, e _ _ h⟩)
  · exact .inr h

/-! ### a def of the text by its name -/
structure Dfn (K : PySem.W.Frag) (mg : Str → Option Value) (x : Str) (st : Stmt) (ps : List Str) (f : Addr) (fd : FuncData) : Prop where
  F : Fun K x x st f fd
  g : mg x = some (.ref f)
  b : Binds K fd ps []
section
variable {X : Cx} {k : Nat} {f : Addr} {fd : FuncData} {ps : List Str} {sp : Sp} {st : Stmt} {x : Str} {p pos : Pos} {e : Expr} {es : List Expr} {t : TA}
/-- a call that raises nothing -/
theorem pe_cl (G : FnOk X.prog X.w X.K X.mg X.base CX0 k f fd ps sp) (D : Dfn X.K X.mg x st ps f fd) (hr : Room k X.A) (ha : PA X (e :: es) t) (hg : Gl X x := by rfl) (hdb : (x == ("__debug__" : Str)) = false := by decide)
    (he : starEach (e :: es) X.env = (false, eval e X.env) :: starEach es X.env := by rfl) (hpl : (backTo pos (starEach es X.env)).any (·.1) = false := by rfl) : PE X (.Call (.Name x p) (e :: es) [] pos) (tCall sp [] E0 t) :=
  pe_call G hr hg D.g D.F.kp D.b .nil pass0 ha hdb he hpl
/-- a call of a def that may raise, in a def that may raise: the error goes on -/
theorem pe_clX {E : XK} (G : FnOk X.prog X.w X.K X.mg X.base (L2.CX X.prog X.w) k f fd ps sp) (D : Dfn X.K X.mg x st ps f fd) (hr : Room k X.A) (tk : Takes X (fun cls d _ H => E cls d H)) (ha : PA X (e :: es) t) (hg : Gl X x := by rfl) (hdb : (x == ("__debug__" : Str)) = false := by decide)
    (he : starEach (e :: es) X.env = (false, eval e X.env) :: starEach es X.env := by rfl) (hpl : (backTo pos (starEach es X.env)).any (·.1) = false := by rfl) : PE X (.Call (.Name x p) (e :: es) [] pos) (tCall sp [] E t) :=
  pe_call G hr hg D.g D.F.kp D.b .nil (passes_call tk fun _ _ _ _ h => h) ha hdb he hpl
/-- a call of a def that may raise, where it does not -/
theorem pe_cl0 (G : FnOk X.prog X.w X.K X.mg X.base (L2.CX X.prog X.w) k f fd ps sp) (D : Dfn X.K X.mg x st ps f fd) (hr : Room k X.A) (ha : PA X (e :: es) t) (hg : Gl X x := by rfl) (hdb : (x == ("__debug__" : Str)) = false := by decide)
    (he : starEach (e :: es) X.env = (false, eval e X.env) :: starEach es X.env := by rfl) (hpl : (backTo pos (starEach es X.env)).any (·.1) = false := by rfl) : PE X (.Call (.Name x p) (e :: es) [] pos) (tCall sp [] E0 t) :=
  pe_call G hr hg D.g D.F.kp D.b .nil passL ha hdb he hpl
/-- a call of a def that may raise, in a try's body -/
theorem pe_clT {W : WX} (G : FnOk X.prog X.w X.K X.mg X.base (L2.CX X.prog X.w) k f fd ps sp) (D : Dfn X.K X.mg x st ps f fd) (hr : Room k X.A) (tk : Takes X W) (ha : PA X (e :: es) t) (hg : Gl X x := by rfl) (hdb : (x == ("__debug__" : Str)) = false := by decide)
    (he : starEach (e :: es) X.env = (false, eval e X.env) :: starEach es X.env := by rfl) (hpl : (backTo pos (starEach es X.env)).any (·.1) = false := by rfl) : PE X (.Call (.Name x p) (e :: es) [] pos) (tCallS sp (WE W) t) :=
  pe_callS G hr hg D.g D.F.kp D.b (fun σ => passAt tk σ) ha hdb he hpl
end
/-! ### an error class of the program -/
structure Err (K : PySem.W.Frag) (mg : Str → Option Value) (x : Str) (C : Addr) : Prop where
  g : mg x = some (.ref C)
  x : PySem.W.excIn K C [.type "ValueError", .type "Exception", .type "BaseException", .type "object"] "ValueError.__new__" = true
  k : PySem.W.keepIn K (.ref C) = true
  s : PySem.W.subIn K (.ref C) (.type "BaseException") = some true
  t : PySem.W.typeIn K (.ref C) = some (.type "type")
theorem ps_rs {X : Cx} {W : WX} {x m : Str} {C : Addr} {j : Nat} {p p2 pos pos2 : Pos} (hc : X.calm = true) (tk : Takes X W) (T : Err X.K X.mg x C) (hg : Gl X x := by rfl) (hdb : (x == ("__debug__" : Str)) = false := by decide) :
    PS X (.Raise (some (.Call (.Name x p) [.Constant (.str m) j p2] [] pos)) none pos2) (fun _ σ H => W (.ref C) none σ H) :=
  ps_raise hc tk (pmk_own PySem.F.excBase_ValueError T.x T.g T.k (raises_own T.s T.t) hg hdb)
theorem gen_new {H H3 : Hp} {p : Addr} {o : HO} (h : upd H p o = H3) (np : H p = none) : Same H H3 ∧ H3 p = some o := by
  subst h
  exact ⟨same_new np, upd_same⟩
theorem perm2 {ns : List Int} {x y : Int} (h : ns.Perm [x, y]) (s : ns.Pairwise (· ≤ ·)) : ∃ a b, ns = [a, b] ∧ a ≤ b ∧ ((a = x ∧ b = y) ∨ (a = y ∧ b = x)) := by
  have hl : ns.length = 2 := h.length_eq
  match ns, hl with
  | [a, b], _ =>
    refine ⟨a, b, rfl, (List.pairwise_cons.mp s).1 b List.mem_cons_self, ?_⟩
    have ha : a = x ∨ a = y := by
      have z := h.mem_iff.mp (List.mem_cons_self (a := a) (l := [b]))
      simpa using z
    rcases ha with rfl | rfl
    · have z := (List.perm_cons a).mp h
      exact Or.inl ⟨rfl, by simpa using z⟩
    · have z : [a, b].Perm [a, x] := h.trans (List.Perm.swap a x [])
      have z2 := (List.perm_cons a).mp z
      exact Or.inr ⟨rfl, by simpa using z2⟩
/-- sorted of a list of two numbers -/
theorem sorted2 {K : PySem.W.Frag} {H : Hp} {p : Addr} {x y : Int} {Q : VK} (h : SqL K H p [.int x, .int y])
    (q : ∀ (a b : Int) (p' : Addr), a ≤ b → ((a = x ∧ b = y) ∨ (a = y ∧ b = x)) → H p' = none → Q (.ref p') (upd H p' (.lst [.int a, .int b]))) : rSorted K [.ref p] H Q := by
  refine ⟨p, [x, y], rfl, h, (by show 2 < 64; decide), fun ns' p' hp hs np => ?_⟩
  obtain ⟨a, b, e, hab, hxy⟩ := perm2 hp hs
  subst e
  exact q a b p' hab hxy np
/-- behind a statement one goes on from what it leaves -/
theorem seq_cut {t u : TS} {D : Ends} {σ : L2.St} {H : Hp} (P : L2.St → Hp → Prop) (h1 : ∀ N : L2.St → Hp → Prop, (∀ σ' H', P σ' H' → N σ' H') → t { D with nx := N } σ H)
    (h2 : ∀ σ' H', P σ' H' → u D σ' H') : tSeq t u D σ H := h1 (u D) h2
theorem bl_true {Q : VK} {H : Hp} {b : Bool} (h : b = true) (q : Q (.bl true) H) : Q (.bl b) H := h.symm ▸ q
theorem bl_false {Q : VK} {H : Hp} {b : Bool} (h : b = false) (q : Q (.bl false) H) : Q (.bl b) H := h.symm ▸ q
/-- a test that is known -/
theorem ite_yes {c : Bool} {A B : Prop} (h : c = true) (q : A) : if c = true then A else B := by
  rw [if_pos h]
  exact q
theorem ite_no {c : Bool} {A B : Prop} (h : c = false) (q : B) : if c = true then A else B := by
  rw [if_neg (by rw [h]; exact Bool.false_ne_true)]
  exact q
theorem dec_int {i j : Int} : decide (V.int i = V.int j) = decide (i = j) := by
  by_cases h : i = j
  · rw [decide_eq_true h, decide_eq_true (by rw [h])]
  · rw [decide_eq_false h, decide_eq_false (fun z => h (V.int.inj z))]
/-- a == b on numbers, as a test: both ways -/
theorem ite_eq {i j : Int} {A B : Prop} (h1 : i = j → A) (h2 : i ≠ j → B) : if decide (V.int i = V.int j) = true then A else B := by
  rw [dec_int]
  exact ite2 (fun z => h1 (of_decide_eq_true z)) (fun z => h2 fun e => z (decide_eq_true e))
/-- a < b and its kin: both ways -/
theorem ite_dec {p : Prop} [Decidable p] {A B : Prop} (h1 : p → A) (h2 : ¬ p → B) : if decide p = true then A else B :=
  ite2 (fun z => h1 (of_decide_eq_true z)) (fun z => h2 fun e => z (decide_eq_true e))
end Ts
end
section
namespace Ts
open PySem PySem.Spec PyProof.Rows L2

/-- what the class at D, the j-th of cs, must say of itself -/
structure Kd (K : PySem.W.Frag) (cs : List Addr) (S D : Addr) (j : Nat) : Prop where
  ex : ExcC K D
  em : PySem.W.exmOne K (.ref D) (.ref S) = some true
  ve : PySem.W.kitOne K (.ref D) (.type "ValueError") = some true
  bit : ∀ (i : Nat) (c : Addr), cs[i]? = some c → PySem.W.kitOne K (.ref D) (.ref c) = some (decide (i = j))
  lt : j < 10
theorem exm_sub {K : PySem.W.Frag} {C D : Addr} (h1 : PySem.W.subIn K (.ref C) (.type "BaseException") = some true) (h2 : PySem.W.hasDictIn K C = true) (h3 : PySem.W.typeIn K (.ref C) = some (.type "type"))
    (h4 : PySem.W.subIn K (.ref D) (.ref C) = some true) : PySem.W.exmOne K (.ref D) (.ref C) = some true := PySem.W.exm_ref h1 h2 h3 h4
theorem kd_mk {K : PySem.W.Frag} {S D c0 c1 c2 c3 c4 c5 c6 c7 c8 c9 : Addr} {j : Nat} {b0 b1 b2 b3 b4 b5 b6 b7 b8 b9 : Bool} (ex : ExcC K D) (em : PySem.W.exmOne K (.ref D) (.ref S) = some true) (ve : PySem.W.kitOne K (.ref D) (.type "ValueError") = some true)
    (q0 : PySem.W.kitOne K (.ref D) (.ref c0) = some b0) (q1 : PySem.W.kitOne K (.ref D) (.ref c1) = some b1) (q2 : PySem.W.kitOne K (.ref D) (.ref c2) = some b2) (q3 : PySem.W.kitOne K (.ref D) (.ref c3) = some b3) (q4 : PySem.W.kitOne K (.ref D) (.ref c4) = some b4)
    (q5 : PySem.W.kitOne K (.ref D) (.ref c5) = some b5) (q6 : PySem.W.kitOne K (.ref D) (.ref c6) = some b6) (q7 : PySem.W.kitOne K (.ref D) (.ref c7) = some b7) (q8 : PySem.W.kitOne K (.ref D) (.ref c8) = some b8) (q9 : PySem.W.kitOne K (.ref D) (.ref c9) = some b9)
    (hj : j < 10 := by decide) (hb : [b0, b1, b2, b3, b4, b5, b6, b7, b8, b9] = (List.range 10).map fun i => decide (i = j) := by decide) : Kd K [c0, c1, c2, c3, c4, c5, c6, c7, c8, c9] S D j where
  ex := ex
  em := em
  ve := ve
  lt := hj
  bit := fun i c h => by
    have e : ∀ {b : Bool}, [b0, b1, b2, b3, b4, b5, b6, b7, b8, b9][i]? = some b → b = decide (i = j) := fun {b} hi => by
      rw [hb, List.getElem?_map] at hi
      cases hr : (List.range 10)[i]? with
      | none => rw [hr] at hi; cases hi
      | some k =>
        rw [hr] at hi
        obtain ⟨_, e1⟩ := List.getElem?_eq_some_iff.mp hr
        rw [List.getElem_range] at e1
        rw [e1]
        exact (Option.some.inj hi).symm
    match i, h with
    | 0, h => cases h; rw [q0, e rfl]
    | 1, h => cases h; rw [q1, e rfl]
    | 2, h => cases h; rw [q2, e rfl]
    | 3, h => cases h; rw [q3, e rfl]
    | 4, h => cases h; rw [q4, e rfl]
    | 5, h => cases h; rw [q5, e rfl]
    | 6, h => cases h; rw [q6, e rfl]
    | 7, h => cases h; rw [q7, e rfl]
    | 8, h => cases h; rw [q8, e rfl]
    | 9, h => cases h; rw [q9, e rfl]
    | i + 10, h => simp at h

def kwords : List Str := ["name", "letter", "off", "early", "count", "none", "wide", "many", "clock", "text"]
def kword (j : Nat) : Str := kwords.getD j "other"
def spKind (K : PySem.W.Frag) (cs : List Addr) (S : Addr) : SpE := fun a c vs H Q _ => ∃ (D : Addr) (j : Nat), c = .ref D ∧ vs = [.ref a] ∧ Kd K cs S D j ∧ ∀ H', Same H H' → Q (.str (kword j)) H'
def kbits (j : Nat) : List V := (List.range 10).map fun i => V.bl (decide (i = j))
theorem kbits_eq (j : Nat) : kbits j = [V.bl (decide (0 = j)), V.bl (decide (1 = j)), V.bl (decide (2 = j)), V.bl (decide (3 = j)), V.bl (decide (4 = j)), V.bl (decide (5 = j)), V.bl (decide (6 = j)), V.bl (decide (7 = j)), V.bl (decide (8 = j)), V.bl (decide (9 = j))] := rfl
theorem k10 {j : Nat} (h : j < 10) {P : Nat → Prop} (p : P 0 ∧ P 1 ∧ P 2 ∧ P 3 ∧ P 4 ∧ P 5 ∧ P 6 ∧ P 7 ∧ P 8 ∧ P 9) : P j := by
  obtain ⟨p0, p1, p2, p3, p4, p5, p6, p7, p8, p9⟩ := p
  match j, h with
  | 0, _ => exact p0
  | 1, _ => exact p1
  | 2, _ => exact p2
  | 3, _ => exact p3
  | 4, _ => exact p4
  | 5, _ => exact p5
  | 6, _ => exact p6
  | 7, _ => exact p7
  | 8, _ => exact p8
  | 9, _ => exact p9
theorem kbits_count {j : Nat} (h : j < 10) : (kbits j).countP (fun z => eqV z (.bl true)) = 1 := k10 (P := fun j => (kbits j).countP (fun z => eqV z (.bl true)) = 1) h (by decide)
theorem kbits_flat (j : Nat) : (kbits j).all flatV = true := by rw [kbits_eq]; rfl
theorem kbits_at {j : Nat} (h : j < 10) : (kbits j)[j]? = some (.bl true) := k10 (P := fun j => (kbits j)[j]? = some (.bl true)) h (by decide)
theorem kbits_no {j : Nat} (h : j < 10) : ∀ (m : Nat) (z : V), m < j → (kbits j)[m]? = some z → eqV z (.bl true) = false := fun m z hm hz => by
  unfold kbits at hz
  rw [List.getElem?_map] at hz
  have e : (List.range 10)[m]? = some m := by rw [List.getElem?_range (by omega)]
  rw [e] at hz
  have e2 : V.bl (decide (m = j)) = z := Option.some.inj hz
  rw [← e2, decide_eq_false (by omega)]
  rfl
theorem kword_at {j : Nat} (h : j < 10) : atI (kwords.map V.str) ((j : Nat) : Int) = some (.str (kword j)) := by
  refine atI_nat ?_
  rw [List.getElem?_map]
  have e : kwords[j]? = some (kword j) := k10 (P := fun j => kwords[j]? = some (kword j)) h (by refine ⟨rfl, rfl, rfl, rfl, rfl, rfl, rfl, rfl, rfl, rfl⟩)
  rw [e]
  rfl
end Ts
end
section
/-! Texts by their codes. -/
namespace Ts
open PySem PySem.Spec PyProof.Rows L2

def mkS (l : List Nat) : Str := ⟨l.toArray⟩
theorem mkS_list (l : List Nat) : (mkS l).cps.toList = l := by simp [mkS]
theorem mkS_len (l : List Nat) : (mkS l).length = l.length := by simp [mkS, Str.length]
theorem mkS_cat (a b : List Nat) : mkS a ++ mkS b = mkS (a ++ b) := by
  show Str.mk (a.toArray ++ b.toArray) = Str.mk (a ++ b).toArray
  congr 1
  simp
theorem mkS_inj {a b : List Nat} (h : mkS a = mkS b) : a = b := by
  have := congrArg (fun z : Str => z.cps.toList) h
  simpa [mkS] using this
theorem cut_to (l : List Nat) (k : Nat) : cutS (mkS l) none (some (k : Int)) = mkS (l.take k) := by
  unfold cutS
  rw [HT.sIx_none, HT.sIx_nat, mkS_list, mkS_len, List.drop_zero, Nat.sub_zero]
  congr 2
  by_cases h : k ≤ l.length
  · rw [Nat.min_eq_left h]
  · rw [Nat.min_eq_right (by omega), List.take_of_length_le (Nat.le_refl _), List.take_of_length_le (by omega)]
theorem cut_from (l : List Nat) (k : Nat) : cutS (mkS l) (some (k : Int)) none = mkS (l.drop k) := by
  unfold cutS
  rw [HT.sIx_none, HT.sIx_nat, mkS_list, mkS_len]
  congr 1
  by_cases h : k ≤ l.length
  · rw [Nat.min_eq_left h, List.take_of_length_le (by rw [List.length_drop]; exact Nat.le_refl _)]
  · rw [Nat.min_eq_right (by omega), Nat.sub_self, List.take_zero, List.drop_eq_nil_of_le (by omega)]
theorem ofS (x : Str) : x = mkS x.cps.toList := by simp [mkS]
theorem alpha_list : ("abcdefghijklmnopqrstuvwxyz" : Str).cps.toList = (List.range 26).map (97 + ·) := by decide +kernel
theorem alpha_at {i : Int} (h0 : 0 ≤ i) (h1 : i < 26) : atI ("abcdefghijklmnopqrstuvwxyz" : Str).cps.toList i = some (97 + i.toNat) := by
  rw [alpha_list]
  obtain ⟨k, rfl⟩ := Int.eq_ofNat_of_zero_le h0
  refine atI_nat ?_
  rw [List.getElem?_map, List.getElem?_range (by omega)]
  rfl
theorem alpha_len : ("abcdefghijklmnopqrstuvwxyz" : Str).length ≤ sizeLine := by decide +kernel
def low (l : List Nat) : Prop := ∀ c ∈ l, 97 ≤ c ∧ c ≤ 122
/-- a name: 1 to 12 small letters -/
def nmOk (l : List Nat) : Prop := 1 ≤ l.length ∧ l.length ≤ 12 ∧ low l
/-- the k-th of the names round a base -/
def nmL (b : List Nat) (j k : Nat) : List Nat := b.take j ++ [97 + k % 26] ++ (if k < 26 then [] else [122]) ++ b.drop j
theorem nmL_ok {b : List Nat} {j k : Nat} (hb : b.length ≤ 10) (hl : low b) (hk : k < 42) : nmOk (nmL b j k) := by
  have e : (nmL b j k).length = b.length + 1 + (if k < 26 then 0 else 1) := by
    unfold nmL
    by_cases h : k < 26
    · simp only [h, if_true, List.length_append, List.length_take, List.length_drop, List.length_cons, List.length_nil]
      omega
    · simp only [h, if_false, List.length_append, List.length_take, List.length_drop, List.length_cons, List.length_nil]
      omega
  refine ⟨?_, ?_, fun c hc => ?_⟩
  · rw [e]; omega
  · rw [e]; split <;> omega
  · unfold nmL at hc
    simp only [List.mem_append] at hc
    rcases hc with ((hc | hc) | hc) | hc
    · exact hl c (List.mem_of_mem_take hc)
    · simp at hc; omega
    · by_cases h : k < 26
      · simp [h] at hc
      · simp [h] at hc; omega
    · exact hl c (List.mem_of_mem_drop hc)
theorem nmL_inj {b : List Nat} {j k k' : Nat} (hk : k < 42) (hk' : k' < 42) (h : nmL b j k = nmL b j k') : k = k' := by
  unfold nmL at h
  have h1 := List.append_cancel_right h
  rw [List.append_assoc, List.append_assoc] at h1
  have h2 := List.append_cancel_left h1
  by_cases a : k < 26 <;> by_cases a' : k' < 26 <;> simp [a, a'] at h2 <;> omega
def nmList (b : List Nat) (j : Nat) : List (List Nat) := (List.range 42).map (nmL b j)
theorem nmList_nodup (b : List Nat) (j : Nat) : (nmList b j).Nodup := by
  unfold nmList
  refine List.pairwise_map.mpr (List.Pairwise.imp_of_mem (fun {x y} hx hy hne h => hne (nmL_inj (List.mem_range.mp hx) (List.mem_range.mp hy) h)) List.nodup_range)
theorem slr_imp {X : Cx} {r r' : V → Option Int → Option Int → Hp → VK → Prop} (h : SlR X r) (q : ∀ x lo hi H Q, r' x lo hi H Q → r x lo hi H Q) : SlR X r' := by
  intro pins s σ H x v vl vu lo hi sl Q I r1 r2 r3 r4 w
  exact h pins s σ H x v vl vu lo hi sl Q I r1 r2 r3 r4 (q _ _ _ _ _ w)
/-- texts by their codes: z[:k], z[k:], x + y, z[i] -/
def rTo : V → Option Int → Option Int → Hp → VK → Prop := fun x lo hi H Q => ∃ (l : List Nat) (k : Nat), x = .str (mkS l) ∧ lo = none ∧ hi = some (k : Int) ∧ l.length ≤ 1000000 ∧ Q (.str (mkS (l.take k))) H
def rFrom : V → Option Int → Option Int → Hp → VK → Prop := fun x lo hi H Q => ∃ (l : List Nat) (k : Nat), x = .str (mkS l) ∧ lo = some (k : Int) ∧ hi = none ∧ l.length ≤ 1000000 ∧ Q (.str (mkS (l.drop k))) H
def rAddS : R2 := fun x y H Q => ∃ a b : List Nat, x = .str (mkS a) ∧ y = .str (mkS b) ∧ a.length + b.length ≤ 1000000 ∧ Q (.str (mkS (a ++ b))) H
def rAtS : R2 := fun x y H Q => ∃ (l : List Nat) (i c : Nat), x = .str (mkS l) ∧ y = .int (i : Int) ∧ l.length ≤ 1000000 ∧ l[i]? = some c ∧ Q (.str (mkS [c])) H
section
variable {X : Cx}
theorem mkS_le0 {l : List Nat} (h : l.length ≤ 1000000) : (mkS l).length ≤ sizeLine := by
  rw [mkS_len]
  exact Nat.le_trans h (by decide)
theorem sl_to : SlR X rTo := slr_imp sl_str fun x lo hi H Q h => by
  obtain ⟨l, k, rfl, rfl, rfl, hl, q⟩ := h
  rw [← cut_to] at q
  exact ⟨_, rfl, mkS_le0 hl, q⟩
theorem sl_from : SlR X rFrom := slr_imp sl_str fun x lo hi H Q h => by
  obtain ⟨l, k, rfl, rfl, rfl, hl, q⟩ := h
  rw [← cut_from] at q
  exact ⟨_, rfl, mkS_le0 hl, q⟩
theorem op_addC : OpR X (binaryOp .Add) rAddS := opr_imp op_add_str fun x y H Q h => by
  obtain ⟨a, b, rfl, rfl, hl, q⟩ := h
  rw [← mkS_cat] at q
  exact ⟨_, _, rfl, rfl, by rw [mkS_len, mkS_len]; exact Nat.le_trans hl (by decide), q⟩
theorem ix_C : IxR X rAtS := ixr_imp ix_str fun x y H Q h => by
  obtain ⟨l, i, c, rfl, rfl, hl, hc, q⟩ := h
  exact ⟨_, _, c, rfl, rfl, mkS_le0 hl, atI_nat (by rw [mkS_list]; exact hc), q⟩
theorem pe_strC {x : Str} {j : Nat} {pos : Pos} {l : List Nat} (h : x = mkS l) : PE X (.Constant (.str x) j pos) (tC (.str (mkS l))) := h ▸ pe_str
end
/-- texts of a list of codes -/
def txs (ls : List (List Nat)) : List V := ls.map fun l => V.str (mkS l)
theorem txs_at {ls : List (List Nat)} {i : Int} (h0 : 0 ≤ i) (h1 : i < ls.length) : ∃ l, l ∈ ls ∧ atI (txs ls) i = some (.str (mkS l)) := by
  have hn : i.toNat < ls.length := by omega
  refine ⟨ls[i.toNat], List.getElem_mem hn, ?_⟩
  refine at_of (j := i.toNat) (by omega) ?_
  unfold txs
  rw [List.getElem?_map, List.getElem?_eq_getElem hn]
  rfl
theorem mkS_le {l : List Nat} (h : l.length ≤ 1000000) : (mkS l).length ≤ sizeLine := by
  rw [mkS_len]
  exact Nat.le_trans h (by decide)
theorem mkS2_le {a b : List Nat} (h : a.length + b.length ≤ 1000000) : (mkS a).length + (mkS b).length ≤ sizeLine := by
  rw [mkS_len, mkS_len]
  exact Nat.le_trans h (by decide)
theorem mkS_one (c : Nat) : (⟨#[c]⟩ : Str) = mkS [c] := rfl
theorem str_nil : ("" : Str) = mkS [] := by decide +kernel
theorem str_z : ("z" : Str) = mkS [122] := by decide +kernel
end Ts
namespace Ts
open PySem PySem.Spec PyProof.Rows L2
theorem alphaL {j : Nat} (h : j < 26) : [97, 98, 99, 100, 101, 102, 103, 104, 105, 106, 107, 108, 109, 110, 111, 112, 113, 114, 115, 116, 117, 118, 119, 120, 121, 122][j]? = some (97 + j) := by
  have e : [97, 98, 99, 100, 101, 102, 103, 104, 105, 106, 107, 108, 109, 110, 111, 112, 113, 114, 115, 116, 117, 118, 119, 120, 121, 122] = (List.range 26).map (97 + ·) := by decide
  rw [e, List.getElem?_map, List.getElem?_range h]
  rfl
/-- an object that H does not know may change -/
theorem Same.mut {H H1 : Hp} {D : Addr} {o : HO} (s : Same H H1) (h : H D = none) : Same H (upd H1 D o) := fun b u e => by
  rw [upd_ne (ne_of_none e h)]
  exact s b u e
end Ts
namespace Ts
open PySem PySem.Spec PyProof.Rows L2
theorem SqT.grow {K : PySem.W.Frag} {H : Hp} {D t : Addr} {xs acc acc' : List V} (h : SqT K H t xs) (hD : H D = some (.lst acc)) : SqT K (upd H D (.lst acc')) t xs := by
  rcases h with (h | ⟨o, h⟩) | h
  · exact .inl (.inl (by rw [upd_ne (ne_of h hD (by intro z; cases z))]; exact h))
  · exact .inl (.inr ⟨o, by rw [upd_ne (ne_of h hD (by intro z; cases z))]; exact h⟩)
  · exact .inr h
theorem cutV_len {xs : List V} (lo hi : Nat) : cutV xs (some (lo : Int)) (some (hi : Int)) = (xs.drop lo).take (hi - lo) := by
  unfold cutV
  rw [HT.sIx_nat, HT.sIx_nat]
  by_cases h1 : lo ≤ xs.length
  · rw [Nat.min_eq_left h1]
    by_cases h2 : hi ≤ xs.length
    · rw [Nat.min_eq_left h2]
    · rw [Nat.min_eq_right (show xs.length ≤ hi by omega)]
      rw [List.take_of_length_le (by rw [List.length_drop]; exact Nat.le_refl _), List.take_of_length_le (by rw [List.length_drop]; omega)]
  · rw [Nat.min_eq_right (show xs.length ≤ lo by omega), List.drop_eq_nil_of_le (Nat.le_refl _), List.drop_eq_nil_of_le (by omega), List.take_nil, List.take_nil]
end Ts
namespace Ts
open PySem PySem.Spec PyProof.Rows L2
theorem tyT {K : PySem.W.Frag} {H : Hp} {t : Addr} {xs : List V} (h : SqT K H t xs) : TyX K H (.ref t) (.type "tuple") := by
  rcases h with (h | ⟨o, h⟩) | ⟨o, its, n, h, c, _⟩
  · exact .base (.tup h)
  · exact .fTuple h
  · exact .kTuple h c
theorem take_snoc {α : Type} {l : List α} {i : Nat} {x : α} (h : l[i]? = some x) : l.take (i + 1) = l.take i ++ [x] := by
  obtain ⟨hi, e⟩ := List.getElem?_eq_some_iff.mp h
  rw [List.take_succ_eq_append_getElem hi, e]
theorem inV_txs (n : List Nat) (ls : List (List Nat)) : inV (.str (mkS n)) (txs ls) = decide (n ∈ ls) := by
  unfold inV txs
  rw [List.any_map]
  have e : ∀ l : List Nat, eqV (.str (mkS l)) (.str (mkS n)) = decide (l = n) := fun l => by
    show (mkS l == mkS n) = decide (l = n)
    by_cases h : l = n
    · rw [decide_eq_true h, h]
      exact beq_self_eq_true _
    · rw [decide_eq_false h]
      exact beq_eq_false_iff_ne.mpr fun z => h (mkS_inj z)
  induction ls with
  | nil => rfl
  | cons l r ih =>
    rw [List.any_cons, ih]
    show (eqV (.str (mkS l)) (.str (mkS n)) || decide (n ∈ r)) = _
    rw [e]
    by_cases h : l = n
    · subst h
      simp
    · have h2 : n ≠ l := fun z => h z.symm
      simp [h, h2]
theorem txs_flat (ls : List (List Nat)) : (txs ls).all flatV = true := by
  unfold txs
  rw [List.all_map]
  exact List.all_eq_true.mpr fun _ _ => rfl
theorem eq_str (a b : List Nat) : decide (V.str (mkS a) = V.str (mkS b)) = decide (a = b) := by
  by_cases h : a = b
  · rw [decide_eq_true h, decide_eq_true (by rw [h])]
  · rw [decide_eq_false h, decide_eq_false fun z => h (mkS_inj (V.str.inj z))]
end Ts
end
section
/-! A chain of three comparisons; all(.. for sign in text); the end where a def holds a generator expression. -/
namespace Ts
open PySem PySem.Spec PyProof.Rows L2

def tChain3 (r1 r2 r3 : R2) (ta tb tc td : TE) : TE := fun σ H Q => ta σ H fun x H1 => tb σ H1 fun y H2 => r1 x y H2 fun z H3 => ∃ k, z = .bl k ∧
  (if k = true then tc σ H3 fun w H4 => r2 y w H4 fun z2 H5 => ∃ k2, z2 = .bl k2 ∧ (if k2 = true then td σ H5 fun u H6 => r3 w u H6 Q else Q (.bl false) H5) else Q (.bl false) H3)
theorem pe_chain3 {X : Cx} {o1 o2 o3 : CmpOp} {r1 r2 r3 : R2} {a b c d : Expr} {ta tb tc td : TE} {pos : Pos} (h1 : OpR X (compareOp o1) r1) (h2 : OpR X (compareOp o2) r2) (h3 : OpR X (compareOp o3) r3)
    (ha : PE X a ta) (hb : PE X b tb) (hc : PE X c tc) (hd : PE X d td) (hm : lastMarks [o1, o2, o3] [b, c, d] = false := by with_unfolding_all rfl) : PE X (.Compare a [o1, o2, o3] [b, c, d] pos) (tChain3 r1 r2 r3 ta tb tc td) := by
  constructor
  intro pins s σ H Q I w
  refine Compare_chain ?_ hm
  refine thn (ha.run pins s σ H _ I w) ?_
  rintro va s1 ⟨x, H1, I1, rx, q1⟩
  refine chain_link ?_
  refine thn (hb.run pins s1 σ H1 _ I1 q1) ?_
  rintro vb s2 ⟨y, H2, I2, ry, q2⟩
  refine thn (h1 pins s2 σ H2 x y va vb _ I2 rx ry q2) ?_
  rintro vz s3 ⟨z, H3, I3, rz, k, ek, q3⟩
  subst ek
  cases rz
  refine wpAny_truthy_bool ?_
  cases k with
  | false => exact ite_ff ⟨.bl false, H3, I3, rfl, q3⟩
  | true =>
    refine ite_tt (chain_link ?_)
    refine thn (hc.run pins s3 σ H3 _ I3 q3) ?_
    rintro vc s4 ⟨w4, H4, I4, rw4, q4⟩
    refine thn (h2 pins s4 σ H4 y w4 vb vc _ I4 ry rw4 q4) ?_
    rintro vy s5 ⟨z2, H5, I5, rz2, k2, ek2, q5⟩
    subst ek2
    cases rz2
    refine wpAny_truthy_bool ?_
    cases k2 with
    | false => exact ite_ff ⟨.bl false, H5, I5, rfl, q5⟩
    | true =>
      refine ite_tt (chain_last ?_)
      refine thn (hd.run pins s5 σ H5 _ I5 q5) ?_
      rintro vd s6 ⟨u, H6, I6, ru, q6⟩
      exact h3 pins s6 σ H6 w4 u vc vd Q I6 rw4 ru q6

/-- 'a' <= x <= 'z' -/
theorem elt_az {prog : Program} {w : World} {scope : Scope} {x : Str} {j1 j2 : Nat} {p1 p2 p3 p4 : Pos} (hk : scope.kind = .function) (hl : scope.names.lookup x = some .local) (hd : (x == ("__debug__" : Str)) = false := by decide) :
    GxR.EltP prog w scope x (.Compare (.Constant (.str "a") j1 p1) [.LtE, .LtE] [.Name x p2, .Constant (.str "z") j2 p3] p4) (fun c => decide (97 ≤ c) && decide (c ≤ 122)) := by
  intro cenv A' E' c t s₂ m₂ hs hn hm
  have hz : cenv.scope.names.lookup x = some .local := by rw [hs]; exact hl
  have le1 : (!decide ([c] < ("a" : Str).cps.toList)) = decide (97 ≤ c) := by
    have e : ("a" : Str).cps.toList = [97] := by decide +kernel
    rw [e]
    by_cases h : 97 ≤ c
    · rw [decide_eq_true h]
      have : ¬ [c] < [97] := fun z => by
        rcases List.cons_lt_cons_iff.mp z with q | ⟨_, q⟩
        · omega
        · exact absurd q (List.not_lt_nil _)
      rw [decide_eq_false this]
      rfl
    · rw [decide_eq_false h]
      have : [c] < [97] := List.cons_lt_cons_iff.mpr (.inl (by omega))
      rw [decide_eq_true this]
      rfl
  have le2 : (!decide (("z" : Str).cps.toList < [c])) = decide (c ≤ 122) := by
    have e : ("z" : Str).cps.toList = [122] := by decide +kernel
    rw [e]
    by_cases h : c ≤ 122
    · rw [decide_eq_true h]
      have : ¬ [122] < [c] := fun z => by
        rcases List.cons_lt_cons_iff.mp z with q | ⟨_, q⟩
        · omega
        · exact absurd q (List.not_lt_nil _)
      rw [decide_eq_false this]
      rfl
    · rw [decide_eq_false h]
      have : [122] < [c] := List.cons_lt_cons_iff.mpr (.inl (by omega))
      rw [decide_eq_true this]
      rfl
  refine Compare_chain ?_
  refine Calls.Constant_str ?_
  refine chain_link ?_
  refine wpAny_Name (wpAny_loadName_local (by rw [hs]; exact hk) hz hn hm ?_) hd
  refine PySem.P.le_str ?_
  refine wpAny_truthy_bool ?_
  show if (!decide (([c] : List Nat) < ("a" : Str).cps.toList)) = true then _ else _
  rw [le1]
  by_cases h : 97 ≤ c
  · rw [decide_eq_true h]
    refine ite_tt (chain_last ?_)
    refine Calls.Constant_str ?_
    refine PySem.P.le_str ?_
    refine ⟨?_, GxR.keeps_tok _ _⟩
    show Value.bool (!decide (("z" : Str).cps.toList < ([c] : List Nat))) = _
    rw [le2]
    show _ = Value.bool (decide (97 ≤ c) && decide (c ≤ 122))
    rw [decide_eq_true h]
    rfl
  · rw [decide_eq_false h]
    refine ite_ff ⟨?_, GxR.keeps_tok _ _⟩
    show _ = Value.bool (decide (97 ≤ c) && decide (c ≤ 122))
    rw [decide_eq_false h]
    rfl
end Ts
end
section
/-! A def that holds a generator expression: its code object's table, from the law's end to its call. -/
namespace Ts
open PySem PySem.Spec PyProof.Rows L2

/-- what stood is kept, but for the table at P -/
def TabS (P : Addr) (H H' : Hp) : Prop := ∀ b o, b ≠ P → H b = some o → H' b = some o
theorem TabS.of {P : Addr} {H H' : Hp} (h : GxR.Tabbed P H H') : TabS P H H' := fun b _ n e => (h.2 b n).trans e
theorem TabS.andThen {P : Addr} {H H' H'' : Hp} (h : TabS P H H') (s : Same H' H'') : TabS P H H'' := fun b o n e => s b o (h b o n e)
theorem TabS.tup {P t : Addr} {H H' : Hp} {xs : List V} (h : TabS P H H') (g : GxR.TabG H P) (e : H t = some (.tup xs)) : H' t = some (.tup xs) :=
  h t _ (fun z => by
    subst z
    obtain ⟨ps, e2, _⟩ := g
    rw [e] at e2
    cases e2) e
theorem tab_same {P : Addr} {H H' : Hp} (s : Same H H') (g : GxR.TabG H P) : GxR.TabG H' P := let ⟨ps, e, k⟩ := g; ⟨ps, s _ _ e, k⟩
theorem tab_upd {P p : Addr} {H : Hp} {xs : List V} {o : HO} (g : GxR.TabG H P) (e : H p = some (.lst xs)) : GxR.TabG (upd H p o) P := by
  obtain ⟨ps, e2, k⟩ := g
  refine ⟨ps, (upd_ne fun z => ?_).trans e2, k⟩
  subst z
  rw [e] at e2
  cases e2
/-- the generator expression's own scope -/
theorem gs_of {env : Env} {scope : Scope} {x : Str} (h1 : scope.kind = .function) (h2 : scope.isCoroutine = false) (h3 : ∀ y ∈ scope.names, y.2 ≠ .cell ∧ y.2 ≠ .free) (h4 : scope.names.lookup (".0" : Str) = some NameKind.local) (h5 : scope.names.lookup x = some .local) : GxR.GenS env scope x :=
  ⟨h1, h2, fun y hy => (h3 y hy).1, h4, h5, fun y hy z => absurd z (h3 y hy).2⟩
/-- a def whose code object's address is known -/
theorem fn_code {Pr : Program} {w : World} {K : PySem.W.Frag} {mg : Str → Option Value} {base : Heap} {x qual : Str} {st : Stmt} {f c : Addr} {fd : FuncData} {N ps : List Str} {k : Nat} {sp : Sp} (D : L2.Fun K x qual st f fd) (hc : fd.code = .ref c) (S : FnScope N ps (defScope st))
    (ln : ∀ vs H Q E, sp vs H Q E → vs.length = ps.length)
    (body : ∀ (A : Around) (outer : List Env) (s : Shared) (H : Hp) (vs : List V) (Q : VK) (E : XK), Room k (A.deeper (envOfC qual (defScope st) s.heap.objs.size f (.ref c))) → sp vs H Q E →
      ∃ t, PSs (cxOf CX0 Pr w K mg base N qual (defScope st) f (.ref c) A outer s H E).nox (defBody st) t ∧ t { nx := fun _ H2 => Q .non H2, rt := Q } (start N vs) H) : FnOk Pr w K mg base CX0 (k + 1) f fd ps sp := by
  obtain ⟨q1, q2, q3, q4, q5, q6, q7, q8, q9, e1, e2, e3⟩ := D.ex
  subst e1
  have e4 : q7 = .ref c := hc
  subst e4
  exact fn_of e2 e3 S ln fun A outer s H vs Q E r h => let ⟨t, b, g⟩ := body A outer s H vs Q E r h; ⟨t, b.nox, g⟩
/-- the table of the def of that name is empty -/
def TabOf (K : PySem.W.Frag) (mg : Str → Option Value) (h : Heap) (nm : Str) : Prop := ∀ (f c P : Addr) (o : Obj) (fd : FuncData) (e : Value) (dd : Option Addr) (vs : Array Value) (sl : Array (Option Value)),
  mg nm = some (.ref f) → K.lookup f = some o → o.data = .func fd → fd.code = .ref c → K.lookup c = some ⟨e, dd, .fields vs, sl⟩ → vs[11]? = some (.ref P) →
  h.get? P = some { cls := .none, data := .fields #[] } ∧ PySem.W.CodeHd h c P
/-- the end of a law, one of whose defs (nm) holds a generator expression -/
theorem walk_tab {l : PySem.W.OpenLaw} {n k : Nat} {q : Program} {loose : List Str} {XP : (Str → Option Value) → Heap → Prop} {YP : World → Heap → Prop} {d : DefRec} {K : Params → PySem.W.Frag} {CX : World → CXT} {x nm : Str}
    (hn : l.most = some n) (hle : n ≤ sizeLine) (hdf : d.params.defaults = []) (room : Room k callerA) (hrec : ((recsOf q).any fun e => e.name == nm) = true) (hY : ∀ (w : World) (h : Heap), YP w h → (K w.params).In h)
    (F : ∀ (w : World) (mg : Str → Option Value) (fa : Addr) (h : Heap), (K w.params).In h → h.Ns mainGlobals mg → mg d.name = some (.ref fa) → TabOf (K w.params) mg h nm → LamX.LawAtS l w (K w.params) (CX w) k n x mg fa h)
    (hCX : ∀ (w : World) (H : Hp) (s : Shared) (e : Value) (s' : Shared), CX w [] H s (fun _ _ _ => False) e s' → False) :
    PySem.W.WalkO q loose XP YP l.row.toRowW d [] (fun f vs => PySem.call f vs) := by
  refine Att.attach_callB hn hdf ?_
  intro w s0 s1 mg mb fa o pm cd doc a vs ns G Y ho hd hcd hmg hobj hints hlen hbits hg
  have inK := hY w _ Y
  have tab : TabOf (K w.params) mg s1.heap nm := by
    intro f c P o1 fd1 e dd us sl z1 z2 z3 z4 z5 z6
    obtain ⟨r, rm, rn⟩ := List.any_eq_true.mp hrec
    obtain ⟨f', o', fd', c', P', y1, y2, y3, y4, y5, y6⟩ := G.T.tab r rm
    rw [beq_iff_eq.mp rn, z1] at y1
    cases y1
    rw [inK _ _ z2] at y2
    cases y2
    rw [z3] at y3
    cases y3
    rw [z4] at y4
    cases y4
    have hd := PySem.W.CodeHd.of y5 y6
    obtain ⟨⟨oc, uc, x1, _, x3, x4⟩, hP⟩ := y6
    rw [inK _ _ z5] at x1
    cases x1
    cases x3
    rw [z6] at x4
    cases x4
    exact ⟨hP, hd⟩
  obtain ⟨fd, cs, sp, b1, b2, b3, b4, b5, b6⟩ := F w mg fa _ inK G.T.g hmg tab
  exact LamX.law_callTs inK G.T.g G.T.b G.T.builtins G.T.nolimit hg b1 b2 b3 G.T.bmain hobj hints (Nat.le_trans hlen hle) room b6 b4 (fun H hH hS => b5 H a ns hlen hbits hH hS) fun H e s' => hCX w H s1 e s'
end Ts
namespace Ts
theorem tab_nil {P : PySem.Addr} {H : L2.Hp} (e : H P = some (.tbl #[])) : GxR.TabG H P := ⟨#[], e, trivial⟩
end Ts
namespace Ts
open L2
theorem place_nat {n j : Nat} (h : j < n) : ixN n (j : Int) = some j := by
  unfold ixN
  rw [if_pos (Int.natCast_nonneg j), if_pos (by omega)]
  simp
end Ts
end
section
namespace Ts.k02
open PySem PySem.Spec PyProof.Rows L2 Ts
/-! ### promises of the law's own helpers -/
def spMix : Sp := fun vs H Q _ => ∃ c k : Int, vs = [.int c, .int k] ∧ ∀ r : Int, 0 ≤ r → r < 999983 → Q (.int r) H
def spBig : Sp := fun vs H Q _ => ∃ c k : Int, vs = [.int c, .int k] ∧ ∀ (r : Int) (H' : Hp), 0 ≤ r → r ≤ 1000000000000 → Same H H' → Q (.int r) H'
def spOff : Sp := fun vs H Q _ => ∃ c : Int, vs = [.int c] ∧ ∀ (r : Int) (H' : Hp), 0 ≤ r → r ≤ 999 → Same H H' → Q (.int r) H'
/-- the least number not less than p times o by 1000 -/
def slk (p o : Int) : Int := (p * o + 999) / 1000
def spSlack : Sp := fun vs H Q _ => ∃ p o : Int, vs = [.int p, .int o] ∧ -1000000 < o ∧ o < 1000000 ∧ Q (.int (slk p o)) H
def spCellAt (K : PySem.W.Frag) : Sp := fun vs H Q _ => ∃ (l : Addr) (ns : List Int) (j : Nat), vs = [.ref l, .int (j : Int)] ∧ SqL K H l (ns.map V.int) ∧ Q (.int (ns.getD j 0)) H
def spWhole (K : PySem.W.Frag) : Sp := fun vs H Q _ => ∃ i : Int, vs = [.int i] ∧ Q (.bl true) H
def spLaw (K : PySem.W.Frag) : Sp := fun vs H Q _ => ∃ (a : Addr) (ns : List Int), vs = [.ref a] ∧ SqL K H a (ns.map V.int) ∧ ns.length ≤ 63 ∧ ∀ H', Q (.bl true) H'

def okOff (o : Int) : Prop := 0 ≤ o ∧ o ≤ 999
def spCheckOff (C : Addr) : Sp := fun vs H Q E => ∃ o : Int, vs = [.int o] ∧ (okOff o → Q .non H) ∧ (¬ okOff o → E (.ref C) none H)

/-- a letter as a tuple -/
def letV (nm : V) (s b lo hi : Int) : List V := [nm, .int s, .int b, .int lo, .int hi]
def brLo (b lo now o : Int) : Int := lo + (now - b) - slk (now - b) o
def brHi (s hi now o : Int) : Int := hi + (now - s) + slk (now - s) o
def spBrought (K : PySem.W.Frag) (cO cE : Addr) : Sp := fun vs H Q E => ∃ (t : Addr) (nm : V) (s b lo hi now o : Int), vs = [.ref t, .int now, .int o] ∧ SqT K H t (letV nm s b lo hi) ∧
  (¬ okOff o → E (.ref cO) none H) ∧ (okOff o → now < b → E (.ref cE) none H) ∧
  (okOff o → b ≤ now → ∀ u, H u = none → Q (.ref u) (upd H u (.tup [.int (brLo b lo now o), .int (brHi s hi now o)])))
def spLawBrought (K : PySem.W.Frag) : Sp := fun vs H Q _ => ∃ (t : Addr) (nm : V) (s b lo hi now o : Int), vs = [.ref t, .int now, .int o] ∧ SqT K H t (letV nm s b lo hi) ∧ okOff o ∧
  ∀ u, H u = none → Q (.ref u) (upd H u (.tup [.int (brLo b lo now o), .int (brHi s hi now o)]))

def spWord : Sp := fun vs H Q _ => ∃ c n : Int, vs = [.int c, .int n] ∧ 0 ≤ n ∧ n ≤ 1000 ∧ ∀ z : List Nat, (z.length : Int) = n → low z → Q (.str (mkS z)) H
def spNames : Sp := fun vs H Q _ => ∃ c : Int, vs = [.int c] ∧ ∀ (p : Addr) (xs : List (List Nat)) (H' : Hp), xs.length = 42 → xs.Nodup → (∀ z ∈ xs, nmOk z) → Same H H' → H' p = some (.lst (txs xs)) → Q (.ref p) H'

/-- the numbers of a letter as they must be -/
def numsOk (s b lo hi : Int) : Prop := (0 ≤ s ∧ s ≤ b ∧ b ≤ 1000000000000) ∧ 0 ≤ lo ∧ lo ≤ hi ∧ hi ≤ 1000000000000
instance {z : List Nat} : Decidable (low z) := by unfold low; infer_instance
instance {z : List Nat} : Decidable (nmOk z) := by unfold nmOk; infer_instance
instance {s b lo hi : Int} : Decidable (numsOk s b lo hi) := by unfold numsOk; infer_instance
/-- what is told of a letter -/
def verdict (z : List Nat) (s b lo hi : Int) : Str := if nmOk z then (if numsOk s b lo hi then "" else "letter") else "name"
def asc (z : List Nat) : Prop := ∀ c ∈ z, c < 128
/-! ### such data may be compared -/
theorem strOk_asc {l : List Nat} (h : asc l) : PyData.strOk (mkS l) = true := by
  unfold PyData.strOk mkS
  rw [Array.all_eq_true]
  intro i hi
  have hm : l[i]'(by simpa using hi) ∈ l := List.getElem_mem _
  have := h _ hm
  simp only [List.getElem_toArray, decide_eq_true_eq]
  omega
theorem shp_ltr {z : List Nat} {s b lo hi : Int} (h : asc z) : SeqAt.shaped (.tuple [.str (mkS z), .int s, .int b, .int lo, .int hi]) = true := by
  unfold SeqAt.shaped
  have e : (PyData.tuple [.str (mkS z), .int s, .int b, .int lo, .int hi]).canLay0 = true := by
    show (PyData.strOk (mkS z) && true) = true
    rw [strOk_asc h]
    rfl
  rw [e]
  rfl
def oneV (c : Nat) : V := .str (mkS [c])
def oneD (c : Nat) : PyData := .str (mkS [c])
theorem dp_ones {K : PySem.W.Frag} {H : Hp} : ∀ l : List Nat, DpAll K H (l.map oneV) (l.map oneD)
  | [] => .nil
  | _ :: l => .cons (.str _) (dp_ones l)
theorem ones_lay : ∀ {l : List Nat}, asc l → PyData.canLayAll0 (l.map oneD) = true ∧ PyData.depthAll (l.map oneD) ≤ 1
  | [], _ => ⟨rfl, Nat.zero_le _⟩
  | c :: l, h => by
    obtain ⟨h1, h2⟩ := ones_lay (l := l) fun x hx => h x (List.mem_cons_of_mem _ hx)
    refine ⟨?_, Nat.max_le.mpr ⟨Nat.zero_le _, h2⟩⟩
    show (PyData.strOk (mkS [c]) && PyData.canLayAll0 (l.map oneD)) = true
    rw [h1, strOk_asc fun x hx => by
      rw [List.mem_singleton] at hx
      exact hx ▸ h c List.mem_cons_self]
    rfl
theorem shp_ones {l : List Nat} (h : asc l) : SeqAt.shaped (.list (l.map oneD)) = true := by
  obtain ⟨h1, h2⟩ := ones_lay h
  unfold SeqAt.shaped
  have e : (PyData.list (l.map oneD)).canLay0 = true := h1
  have e2 : (PyData.list (l.map oneD)).depth ≤ 64 := Nat.le_trans (Nat.succ_le_succ h2) (by decide)
  rw [e, decide_eq_true e2]
  rfl
def spIsName (P : Addr) : Sp := fun vs H Q _ => ∃ z : List Nat, vs = [.str (mkS z)] ∧ z.length ≤ 1000 ∧ asc z ∧ GxR.TabG H P ∧ ∀ (b : Bool) (H' : Hp), (b = true ↔ nmOk z) → TabS P H H' → Q (.bl b) H'
def spInOrder : Sp := fun vs H Q _ => ∃ x y : Int, vs = [.int x, .int y] ∧ ∀ b : Bool, (b = true ↔ (0 ≤ x ∧ x ≤ y ∧ y ≤ 1000000000000)) → Q (.bl b) H
def spChecked (P cN cL : Addr) : Sp := fun vs H Q E => ∃ (t : Addr) (z : List Nat) (s b lo hi : Int), vs = [.ref t] ∧ H t = some (.tup (letV (.str (mkS z)) s b lo hi)) ∧ z.length ≤ 1000 ∧ asc z ∧ GxR.TabG H P ∧
  (¬ nmOk z → ∀ H', TabS P H H' → E (.ref cN) none H') ∧ (nmOk z → ¬ numsOk s b lo hi → ∀ H', TabS P H H' → E (.ref cL) none H') ∧ (nmOk z → numsOk s b lo hi → ∀ H', TabS P H H' → Q (.ref t) H')
def spTold (P : Addr) : Sp := fun vs H Q _ => ∃ (t : Addr) (z : List Nat) (s b lo hi : Int), vs = [.ref t] ∧ H t = some (.tup (letV (.str (mkS z)) s b lo hi)) ∧ z.length ≤ 1000 ∧ asc z ∧ GxR.TabG H P ∧ ∀ H', TabS P H H' → Q (.str (verdict z s b lo hi)) H'
def spDue : Sp := fun vs H Q _ => ∃ (t : Addr) (z : List Nat) (s b lo hi : Int), vs = [.ref t] ∧ H t = some (.tup (letV (.str (mkS z)) s b lo hi)) ∧ z.length ≤ 1000 ∧ asc z ∧ ∀ H', Same H H' → Q (.str (verdict z s b lo hi)) H'
def spOther : Sp := fun vs H Q _ => ∃ c : Int, vs = [.int c] ∧ ∀ (r : Int) (H' : Hp), Same H H' → Q (.int r) H'
def spName : Sp := fun vs H Q _ => ∃ c : Int, vs = [.int c] ∧ ∀ (z : List Nat) (H' : Hp), z.length ≤ 1000 → asc z → Same H H' → Q (.str (mkS z)) H'
def spLawT (K : PySem.W.Frag) (P : Addr) : Sp := fun vs H Q _ => ∃ (a : Addr) (ns : List Int), vs = [.ref a] ∧ SqL K H a (ns.map V.int) ∧ ns.length ≤ 63 ∧ GxR.TabG H P ∧ ∀ H', Q (.bl true) H'

/-! ### the text by places -/
def top (i : Nat) : Stmt := PySem.Challenge.pw_timestretch_k02_letters_checked.main.body.getD i (.Pass ⟨0, 0, 0, 0⟩)
abbrev s_checked : Stmt := top 15
abbrev s_is_name : Stmt := top 16
abbrev s_in_order : Stmt := top 17
abbrev s_cell_at : Stmt := top 19
abbrev s_mix : Stmt := top 20
abbrev s_big : Stmt := top 21
abbrev s_kind : Stmt := top 22
abbrev s_word : Stmt := top 23
abbrev s_other : Stmt := top 24
abbrev s_name : Stmt := top 25
abbrev s_due : Stmt := top 26
abbrev s_told : Stmt := top 27
abbrev s_law : Stmt := top 28
/-! ### where things stand, and what the top has written -/
structure Ad where
  k_tab : Addr
  P_tab : Addr
  f_checked : Addr
  d_checked : FuncData
  f_is_name : Addr
  d_is_name : FuncData
  f_in_order : Addr
  d_in_order : FuncData
  f_cell_at : Addr
  d_cell_at : FuncData
  f_mix : Addr
  d_mix : FuncData
  f_big : Addr
  d_big : FuncData
  f_kind : Addr
  d_kind : FuncData
  f_word : Addr
  d_word : FuncData
  f_other : Addr
  d_other : FuncData
  f_name : Addr
  d_name : FuncData
  f_due : Addr
  d_due : FuncData
  f_told : Addr
  d_told : FuncData
  f_law : Addr
  d_law : FuncData
  c_StretchError : Addr
  c_BadName : Addr
  c_BadLetter : Addr
  c_BadOff : Addr
  c_TooEarly : Addr
  c_BadCount : Addr
  c_NoAgreement : Addr
  c_TooWide : Addr
  c_TooMany : Addr
  c_NoClock : Addr
  c_NoText : Addr
def Ad.cs (a : Ad) : List Addr := [a.c_BadName, a.c_BadLetter, a.c_BadOff, a.c_TooEarly, a.c_BadCount, a.c_NoAgreement, a.c_TooWide, a.c_TooMany, a.c_NoClock, a.c_NoText]
structure Txt (K : PySem.W.Frag) (mg : Str → Option Value) (a : Ad) : Prop where
  checked : Dfn K mg "checked" s_checked ["letter"] a.f_checked a.d_checked
  is_name : Dfn K mg "is_name" s_is_name ["name"] a.f_is_name a.d_is_name
  in_order : Dfn K mg "in_order" s_in_order ["first", "last"] a.f_in_order a.d_in_order
  cell_at : Dfn K mg "_law_cell_at" s_cell_at ["_law_script", "_law_k"] a.f_cell_at a.d_cell_at
  mix : Dfn K mg "_law_mix" s_mix ["_law_cell", "_law_k"] a.f_mix a.d_mix
  big : Dfn K mg "_law_big" s_big ["_law_cell", "_law_k"] a.f_big a.d_big
  kind : Dfn K mg "_law_kind" s_kind ["_law_e"] a.f_kind a.d_kind
  word : Dfn K mg "_law_word" s_word ["_law_cell", "_law_size"] a.f_word a.d_word
  other : Dfn K mg "_law_other" s_other ["_law_cell"] a.f_other a.d_other
  name : Dfn K mg "_law_name" s_name ["_law_cell"] a.f_name a.d_name
  due : Dfn K mg "_law_due" s_due ["_law_letter"] a.f_due a.d_due
  told : Dfn K mg "_law_told" s_told ["_law_letter"] a.f_told a.d_told
  law : Dfn K mg "law" s_law ["_law_script"] a.f_law a.d_law
  StretchError : Err K mg "StretchError" a.c_StretchError
  BadName : Err K mg "BadName" a.c_BadName
  BadLetter : Err K mg "BadLetter" a.c_BadLetter
  BadOff : Err K mg "BadOff" a.c_BadOff
  TooEarly : Err K mg "TooEarly" a.c_TooEarly
  BadCount : Err K mg "BadCount" a.c_BadCount
  NoAgreement : Err K mg "NoAgreement" a.c_NoAgreement
  TooWide : Err K mg "TooWide" a.c_TooWide
  TooMany : Err K mg "TooMany" a.c_TooMany
  NoClock : Err K mg "NoClock" a.c_NoClock
  NoText : Err K mg "NoText" a.c_NoText
  kd_BadName : Kd K a.cs a.c_StretchError a.c_BadName 0
  kd_BadLetter : Kd K a.cs a.c_StretchError a.c_BadLetter 1
  b_all : mg "all" = none
  b_len : mg "len" = none
  b_isinstance : mg "isinstance" = none
  b_ValueError : mg "ValueError" = none
  b_range : mg "range" = none
  b_tuple : mg "tuple" = none
  b_sorted : mg "sorted" = none
  h_tab : a.d_is_name.code = .ref a.k_tab
  c_LONGEST_NAME : ∃ t, mg "LONGEST_NAME" = some (.int 12 t)
  c_GREATEST_NUMBER : ∃ t, mg "GREATEST_NUMBER" = some (.int 1000000000000 t)
section
variable {P : Program} {w : World} {K : PySem.W.Frag} {mg : Str → Option Value} {base : Heap} {a : Ad}
/-! ### is_name -/
abbrev n_is_name : List Str := ["name"]
theorem sc_is_name : FnScope ["name"] ["name"] (defScope s_is_name) := ⟨rfl, rfl, rfl, by decide +kernel, rfl, by decide +kernel, by decide +kernel⟩
--own
theorem ok_is_name (T : Txt K mg a) (TB : GxR.TabB base mg a.k_tab a.P_tab) : FnOk P w K mg base CX0 1 a.f_is_name a.d_is_name ["name"] (spIsName a.P_tab) := by
  refine fn_code T.is_name.F T.h_tab sc_is_name (fun vs H Q E h => ?_) (fun A outer s H vs Q E hr h => ?_)
  · obtain ⟨z, rfl, _⟩ := h
    rfl
  · obtain ⟨z, rfl, zl, za, hT, q⟩ := h
    obtain ⟨tk_LONGEST_NAME, hc_LONGEST_NAME⟩ := T.c_LONGEST_NAME
    refine ⟨_, (pss_one (ps_ret (pe_and (pe_chain op_le op_le pe_int (pe_callB call_len_str (by rfl) T.b_len boot_len (pa_cons (pv 0) pa_nil)) (pe_gint hc_LONGEST_NAME)) (pe_one (GxR.pe_allS hr (by rfl) T.b_all (by decide +kernel) TB rfl (gs_of rfl rfl (by decide +kernel) rfl rfl) (pv 0) (elt_az rfl rfl) (fun _ => rfl)))))), ?_⟩
    refine ⟨_, rfl, mkS z, rfl, mkS_le (by omega), _, _, rfl, rfl, _, rfl, ?_⟩
    rw [mkS_len]
    refine ite_dec (fun h1 => ?_) (fun h1 => ?_)
    · refine ⟨_, _, rfl, rfl, _, rfl, ?_⟩
      refine ite_dec (fun h2 => ?_) (fun h2 => ?_)
      · refine ⟨_, rfl, mkS z, rfl, hT, fun H2 hH => q _ H2 ?_ (TabS.of hH)⟩
        rw [mkS_list, List.all_eq_true]
        refine ⟨fun h => ⟨by omega, by omega, fun c hc => ?_⟩, fun h c hc => ?_⟩
        · have := h c hc
          simpa using this
        · have := h.2.2 c hc
          simpa using this
      · exact q false H ⟨fun h => (nomatch h), fun h => absurd h.2.1 (by omega)⟩ (fun _ _ _ e => e)
    · refine ⟨_, rfl, iteF ?_⟩
      exact q false H ⟨fun h => (nomatch h), fun h => absurd h.1 (by omega)⟩ (fun _ _ _ e => e)

/-! ### in_order -/
abbrev n_in_order : List Str := ["first", "last"]
theorem sc_in_order : FnScope ["first", "last"] ["first", "last"] (defScope s_in_order) := ⟨rfl, rfl, rfl, by decide +kernel, rfl, by decide +kernel, by decide +kernel⟩
theorem ok_in_order (T : Txt K mg a) : FnOk P w K mg base CX0 1 a.f_in_order a.d_in_order ["first", "last"] (spInOrder) := by
  refine T.in_order.F.ok sc_in_order (fun vs H Q E h => ?_) (fun cdv A outer s H vs Q E hr h => ?_)
  · obtain ⟨x, y, rfl, q⟩ := h
    rfl
  · obtain ⟨x, y, rfl, q⟩ := h
    have hu := hu_of hr
    obtain ⟨tk_GREATEST_NUMBER, hc_GREATEST_NUMBER⟩ := T.c_GREATEST_NUMBER
    refine ⟨_, (pss_one (ps_ret (pe_chain3 op_le op_le op_le pe_int (pv 0) (pv 1) (pe_gint hc_GREATEST_NUMBER)))), ?_⟩
    refine ⟨_, rfl, _, _, rfl, rfl, _, rfl, ?_⟩
    refine ite_dec (fun h1 => ?_) (fun h1 => ?_)
    · refine ⟨_, rfl, _, _, rfl, rfl, _, rfl, ?_⟩
      refine ite_dec (fun h2 => ?_) (fun h2 => ?_)
      · refine ⟨_, _, rfl, rfl, ?_⟩
        exact q _ ⟨fun h => ⟨h1, h2, of_decide_eq_true h⟩, fun h => decide_eq_true h.2.2⟩
      · exact q false ⟨fun h => (nomatch h), fun h => absurd h.2.1 h2⟩
    · exact q false ⟨fun h => (nomatch h), fun h => absurd h.1 h1⟩
/-! ### checked -/
abbrev n_checked : List Str := ["letter", "name", "sent", "back", "low", "high"]
theorem sc_checked : FnScope ["letter", "name", "sent", "back", "low", "high"] ["letter"] (defScope s_checked) := ⟨rfl, rfl, rfl, by decide +kernel, rfl, by decide +kernel, by decide +kernel⟩
theorem ok_checked (T : Txt K mg a) (TB : GxR.TabB base mg a.k_tab a.P_tab) : FnOk P w K mg base (L2.CX P w) 2 a.f_checked a.d_checked ["letter"] (spChecked a.P_tab a.c_BadName a.c_BadLetter) := by
  refine T.checked.F.okX sc_checked (fun vs H Q E h => ?_) (fun cdv A outer s H vs Q E hr h => ?_)
  · obtain ⟨t, z, s', b, lo, hi, rfl, hT, zl, za, hP, eN, eL, q⟩ := h
    rfl
  · obtain ⟨t, z, s', b, lo, hi, rfl, hT, zl, za, hP, eN, eL, q⟩ := h
    have hu := hu_of hr
    refine ⟨_, (pss_cons (ps_asg (pv 0) (pg_tup (by rfl) (pgs_cons (pg_name (i := 1) sc_checked.nd rfl (Or.inl rfl)) (pgs_cons (pg_name (i := 2) sc_checked.nd rfl (Or.inl rfl)) (pgs_cons (pg_name (i := 3) sc_checked.nd rfl (Or.inl rfl)) (pgs_cons (pg_name (i := 4) sc_checked.nd rfl (Or.inl rfl)) (pgs_cons (pg_name (i := 5) sc_checked.nd rfl (Or.inl rfl)) pgs_nil)))))))
      (pss_cons (ps_if (pt_not (pt_val (pe_cl (ok_is_name T TB) T.is_name (hr.mono (by decide)) (pa_cons (pv 1) pa_nil)))) (pss_one (ps_rs rfl (takes_of rfl rfl rfl rfl) T.BadName)) pss_nil)
      (pss_cons (ps_if (pt_not (PW.pt (pw_and (pt_val (pe_cl (ok_in_order T) T.in_order (hr.mono (by decide)) (pa_cons (pv 2) (pa_cons (pv 3) pa_nil)))) (pw_and1 (pt_val (pe_cl (ok_in_order T) T.in_order (hr.mono (by decide)) (pa_cons (pv 4) (pa_cons (pv 5) pa_nil)))))))) (pss_one (ps_rs rfl (takes_of rfl rfl rfl rfl) T.BadLetter)) pss_nil)
      (pss_one (ps_ret (pv 0)))))), ?_⟩
    refine ⟨_, rfl, t, _, rfl, SqT.of (K := K) hT, rfl, _, _, rfl, _, _, rfl, _, _, rfl, _, _, rfl, _, _, rfl, rfl, ?_⟩
    refine ⟨_, rfl, z, rfl, zl, za, hP, fun r H1 hr1 s1 => ?_⟩
    refine ⟨_, rfl, ?_⟩
    cases r with
    | false =>
      refine iteT ?_
      exact eN (fun h => nomatch (hr1.mpr h)) H1 s1
    | true =>
      have ok := hr1.mp rfl
      refine iteF ?_
      refine ⟨_, rfl, _, rfl, s', b, rfl, fun r1 h1 => ?_⟩
      refine ⟨_, rfl, ?_⟩
      cases r1 with
      | false =>
        refine iteF ?_
        refine iteT ?_
        exact eL ok (fun h => nomatch (h1.mpr h.1)) H1 s1
      | true =>
        refine iteT ?_
        refine ⟨_, rfl, _, rfl, lo, hi, rfl, fun r2 h2 => ?_⟩
        refine ⟨_, rfl, ?_⟩
        cases r2 with
        | false =>
          refine iteT ?_
          exact eL ok (fun h => nomatch (h2.mpr h.2)) H1 s1
        | true =>
          refine iteF ?_
          exact ⟨_, rfl, q ok ⟨h1.mp rfl, h2.mp rfl⟩ H1 s1⟩
/-! ### _law_cell_at -/
abbrev n_cell_at : List Str := ["_law_script", "_law_k"]
theorem sc_cell_at : FnScope ["_law_script", "_law_k"] ["_law_script", "_law_k"] (defScope s_cell_at) := ⟨rfl, rfl, rfl, by decide +kernel, rfl, by decide +kernel, by decide +kernel⟩
theorem ok_cell_at (T : Txt K mg a) : FnOk P w K mg base CX0 1 a.f_cell_at a.d_cell_at ["_law_script", "_law_k"] (spCellAt K) := by
  refine T.cell_at.F.ok sc_cell_at (fun vs H Q E h => ?_) (fun cdv A outer s H vs Q E hr h => ?_)
  · obtain ⟨l, ns, j, rfl, hS, q⟩ := h
    rfl
  · obtain ⟨l, ns, j, rfl, hS, q⟩ := h
    have hu := hu_of hr
    refine ⟨_, (pss_cons (ps_if (pt_cmpR op_lt (pv 1) (pe_callB (lenK K) (by rfl) T.b_len boot_len (pa_cons (pv 0) pa_nil)) (nomark _)) (pss_one (ps_ret (pe_ix (ixL K) (pv 0) (pv 1) (fun _ _ => rfl)))) pss_nil)
      (pss_one (ps_ret pe_int))), ?_⟩
    refine ⟨_, rfl, _, rfl, _, _, rfl, .inl hS, _, _, rfl, rfl, _, rfl, ?_⟩
    have el : (ns.map V.int).length = ns.length := List.length_map ..
    refine ite2 (fun z => ?_) (fun z => ?_)
    · have z' : j < ns.length := by have := of_decide_eq_true z; omega
      have e : (ns.map V.int)[j]? = some (.int (ns.getD j 0)) := by rw [List.getElem?_map, List.getD_eq_getElem?_getD, List.getElem?_eq_getElem z']; rfl
      exact ⟨_, rfl, _, rfl, _, _, _, _, rfl, rfl, hS, atI_nat e, q⟩
    · have z' : ¬ (j < ns.length) := fun y => z (decide_eq_true (by omega))
      have e : ns.getD j 0 = 0 := by rw [List.getD_eq_getElem?_getD, List.getElem?_eq_none (by omega)]; rfl
      rw [e] at q
      exact q
/-! ### _law_mix -/
abbrev n_mix : List Str := ["_law_cell", "_law_k", "_law_number"]
theorem sc_mix : FnScope ["_law_cell", "_law_k", "_law_number"] ["_law_cell", "_law_k"] (defScope s_mix) := ⟨rfl, rfl, rfl, by decide +kernel, rfl, by decide +kernel, by decide +kernel⟩
theorem ok_mix (T : Txt K mg a) : FnOk P w K mg base CX0 1 a.f_mix a.d_mix ["_law_cell", "_law_k"] (spMix) := by
  refine T.mix.F.ok sc_mix (fun vs H Q E h => ?_) (fun cdv A outer s H vs Q E hr h => ?_)
  · obtain ⟨c, k, rfl, q⟩ := h
    rfl
  · obtain ⟨c, k, rfl, q⟩ := h
    have hu := hu_of hr
    refine ⟨_, (pss_cons (ps_set (i := 2) sc_mix.nd rfl (Or.inl rfl) (pe_op (op_modc (c := 1000003) (by decide)) (pe_op (op_mulc (c := 48271) (by decide)) (pe_op op_add (pe_op op_add (pv 0) (pe_op (op_cmul (c := 7919) (by decide)) pe_int (pv 1))) pe_int) pe_int) pe_int))
      (pss_one (ps_ret (pe_op (op_modc (c := 999983) (by decide)) (pe_op op_mul (pv 2) (pv 2)) pe_int)))), ?_⟩
    refine ⟨_, rfl, _, rfl, _, rfl, rfl, _, _, rfl, rfl, _, _, rfl, rfl, _, rfl, rfl, _, rfl, rfl, _, rfl, _, rfl, _, _, rfl, rfl, .inl ⟨by omega, by omega⟩, _, rfl, rfl, ?_⟩
    exact q _ (Int.emod_nonneg _ (by decide)) (Int.emod_lt_of_pos _ (by decide))
/-! ### _law_big -/
abbrev n_big : List Str := ["_law_cell", "_law_k", "_law_number"]
theorem sc_big : FnScope ["_law_cell", "_law_k", "_law_number"] ["_law_cell", "_law_k"] (defScope s_big) := ⟨rfl, rfl, rfl, by decide +kernel, rfl, by decide +kernel, by decide +kernel⟩
theorem ok_big (T : Txt K mg a) : FnOk P w K mg base CX0 2 a.f_big a.d_big ["_law_cell", "_law_k"] (spBig) := by
  refine T.big.F.ok sc_big (fun vs H Q E h => ?_) (fun cdv A outer s H vs Q E hr h => ?_)
  · obtain ⟨c, k, rfl, q⟩ := h
    rfl
  · obtain ⟨c, k, rfl, q⟩ := h
    have hu := hu_of hr
    refine ⟨_, (pss_cons (ps_set (i := 2) sc_big.nd rfl (Or.inl rfl) (pe_cl (ok_mix T) T.mix (hr.mono (by decide)) (pa_cons (pv 0) (pa_cons (pv 1) pa_nil))))
      (pss_cons (ps_if (pt_cmpR op_eq (pe_op (op_modc (c := 4) (by decide)) (pe_cl (ok_mix T) T.mix (hr.mono (by decide)) (pa_cons (pv 0) (pa_cons (pe_op op_add (pv 1) pe_int) pa_nil))) pe_int) pe_int (nomark _)) (pss_one (ps_ret (pe_op (op_modc (c := 30) (by decide)) (pv 2) pe_int))) pss_nil)
      (pss_cons (ps_if (pt_cmpR op_eq (pe_op (op_modc (c := 4) (by decide)) (pe_cl (ok_mix T) T.mix (hr.mono (by decide)) (pa_cons (pv 0) (pa_cons (pe_op op_add (pv 1) pe_int) pa_nil))) pe_int) pe_int (nomark _)) (pss_one (ps_ret (pe_op (op_modc (c := 3000) (by decide)) (pv 2) pe_int))) pss_nil)
      (pss_cons (ps_if (pt_cmpR op_eq (pe_op (op_modc (c := 4) (by decide)) (pe_cl (ok_mix T) T.mix (hr.mono (by decide)) (pa_cons (pv 0) (pa_cons (pe_op op_add (pv 1) pe_int) pa_nil))) pe_int) pe_int (nomark _)) (pss_one (ps_ret (pe_ix (ixL K) (pe_lst (pa_cons pe_int (pa_cons pe_int (pa_cons pe_pow12 (pa_cons (pe_op op_sub pe_pow12 pe_int) pa_nil))))) (pe_op (op_modc (c := 4) (by decide)) (pv 2) pe_int) (fun _ _ => rfl)))) pss_nil)
      (pss_one (ps_ret (pe_op op_mod (pe_op op_add (pe_op (op_mulc (c := 1000003) (by decide)) (pv 2) pe_int) (pe_cl (ok_mix T) T.mix (hr.mono (by decide)) (pa_cons (pv 0) (pa_cons (pe_op op_add (pv 1) pe_int) pa_nil)))) (pe_op op_add pe_pow12 pe_int)))))))), ?_⟩
    refine ⟨_, rfl, _, rfl, _, _, rfl, fun m m0 m1 => ?_⟩
    refine ⟨_, rfl, _, rfl, _, _, rfl, rfl, _, _, rfl, fun x x0 x1 => ?_⟩
    refine ⟨_, rfl, rfl, rfl, _, rfl, ?_⟩
    refine ite2 (fun z => ?_) (fun z => ?_)
    · refine ⟨_, rfl, _, rfl, rfl, ?_⟩
      exact q _ H (by omega) (by omega) (Same.refl H)
    refine ⟨_, rfl, _, rfl, _, _, rfl, rfl, _, _, rfl, fun y y0 y1 => ?_⟩
    refine ⟨_, rfl, rfl, rfl, _, rfl, ?_⟩
    refine ite2 (fun z => ?_) (fun z => ?_)
    · refine ⟨_, rfl, _, rfl, rfl, ?_⟩
      exact q _ H (by omega) (by omega) (Same.refl H)
    refine ⟨_, rfl, _, rfl, _, _, rfl, rfl, _, _, rfl, fun u u0 u1 => ?_⟩
    refine ⟨_, rfl, rfl, rfl, _, rfl, ?_⟩
    refine ite2 (fun z => ?_) (fun z => ?_)
    · refine ⟨_, _, rfl, rfl, (by show 4 ≤ sizeLine; decide), fun p np => ?_⟩
      refine ⟨_, rfl, _, rfl, rfl, ?_⟩
      refine ix_int (fun j => 0 ≤ j ∧ j ≤ 1000000000000) SqL.here (Int.emod_nonneg _ (by decide)) (Int.emod_lt_of_pos _ (by decide)) (allc ⟨_, rfl, by decide⟩ (allc ⟨_, rfl, by decide⟩ (allc ⟨_, rfl, by decide⟩ (all1 ⟨_, rfl, by decide⟩)))) fun j hj => ?_
      exact q j _ hj.1 hj.2 (same_new np)
    refine ⟨_, rfl, _, rfl, rfl, _, rfl, _, rfl, _, _, rfl, rfl, _, _, rfl, fun v v0 v1 => ?_⟩
    refine ⟨_, _, rfl, rfl, _, _, rfl, rfl, _, _, rfl, rfl, (by show (0 : Int) < 1000000000000 + 1; decide), ?_⟩
    exact q _ H (Int.emod_nonneg _ (by decide)) (Int.le_of_lt_add_one (Int.emod_lt_of_pos _ (by decide))) (Same.refl H)
/-! ### _law_kind -/
abbrev n_kind : List Str := ["_law_e", "_law_kinds", "_law_words"]
theorem sc_kind : FnScope ["_law_e", "_law_kinds", "_law_words"] ["_law_e"] (defScope s_kind) := ⟨rfl, rfl, rfl, by decide +kernel, rfl, by decide +kernel, by decide +kernel⟩
--own
theorem ok_kind (T : Txt K mg a) : FnE P w K mg base 1 a.f_kind a.d_kind ["_law_e"] (spKind K a.cs a.c_StretchError) := by
  refine fnE_of T.kind.F sc_kind (fun a c vs H Q E h => ?_) (fun cdv A outer s H vs Q E p c hz hf hr h => ?_)
  · obtain ⟨D, j, _, rfl, _⟩ := h
    rfl
  · obtain ⟨D, j, rfl, rfl, C, q⟩ := h
    refine ⟨_, (pss_cons (ps_set (i := 1) sc_kind.nd rfl (Or.inl rfl) (pe_lst (pa_cons (pe_callB (call_isP C.ex List.mem_cons_self hz hf) (by rfl) T.b_isinstance (by decide +kernel) (pa_cons (pv 0) (pa_cons (pe_gref T.BadName.g) pa_nil))) (pa_cons (pe_callB (call_isP C.ex List.mem_cons_self hz hf) (by rfl) T.b_isinstance (by decide +kernel) (pa_cons (pv 0) (pa_cons (pe_gref T.BadLetter.g) pa_nil))) (pa_cons (pe_callB (call_isP C.ex List.mem_cons_self hz hf) (by rfl) T.b_isinstance (by decide +kernel) (pa_cons (pv 0) (pa_cons (pe_gref T.BadOff.g) pa_nil))) (pa_cons (pe_callB (call_isP C.ex List.mem_cons_self hz hf) (by rfl) T.b_isinstance (by decide +kernel) (pa_cons (pv 0) (pa_cons (pe_gref T.TooEarly.g) pa_nil))) pa_nil))))))
      (pss_cons (ps_set (i := 1) sc_kind.nd rfl (Or.inl rfl) (pe_op op_cat (pv 1) (pe_lst (pa_cons (pe_callB (call_isP C.ex List.mem_cons_self hz hf) (by rfl) T.b_isinstance (by decide +kernel) (pa_cons (pv 0) (pa_cons (pe_gref T.BadCount.g) pa_nil))) (pa_cons (pe_callB (call_isP C.ex List.mem_cons_self hz hf) (by rfl) T.b_isinstance (by decide +kernel) (pa_cons (pv 0) (pa_cons (pe_gref T.NoAgreement.g) pa_nil))) (pa_cons (pe_callB (call_isP C.ex List.mem_cons_self hz hf) (by rfl) T.b_isinstance (by decide +kernel) (pa_cons (pv 0) (pa_cons (pe_gref T.TooWide.g) pa_nil))) pa_nil))))))
      (pss_cons (ps_set (i := 1) sc_kind.nd rfl (Or.inl rfl) (pe_op op_cat (pv 1) (pe_lst (pa_cons (pe_callB (call_isP C.ex List.mem_cons_self hz hf) (by rfl) T.b_isinstance (by decide +kernel) (pa_cons (pv 0) (pa_cons (pe_gref T.TooMany.g) pa_nil))) (pa_cons (pe_callB (call_isP C.ex List.mem_cons_self hz hf) (by rfl) T.b_isinstance (by decide +kernel) (pa_cons (pv 0) (pa_cons (pe_gref T.NoClock.g) pa_nil))) (pa_cons (pe_callB (call_isP C.ex List.mem_cons_self hz hf) (by rfl) T.b_isinstance (by decide +kernel) (pa_cons (pv 0) (pa_cons (pe_gref T.NoText.g) pa_nil))) pa_nil))))))
      (pss_cons (ps_if (PW.pt (pw_or (pt_cmpR op_ne (pe_bm PySem.F.plainAttrs_list PySem.F.slot_list_count PySem.F.type_list_count mt_count (pv 1) (pa_cons pe_bl pa_nil)) pe_int (nomark _)) (pw_or1 (pt_not (pt_val (pe_callB (call_isP C.ex List.mem_cons_self hz hf) (by rfl) T.b_isinstance (by decide +kernel) (pa_cons (pv 0) (pa_cons (pe_bty (n := "ValueError") T.b_ValueError (by decide +kernel)) pa_nil)))))))) (pss_one (ps_ret pe_str)) pss_nil)
      (pss_cons (ps_set (i := 2) sc_kind.nd rfl (Or.inl rfl) (pe_lst (pa_cons pe_str (pa_cons pe_str (pa_cons pe_str (pa_cons pe_str (pa_cons pe_str (pa_cons pe_str (pa_cons pe_str (pa_cons pe_str (pa_cons pe_str (pa_cons pe_str pa_nil))))))))))))
      (pss_one (ps_ret (pe_ix (ixL K) (pv 2) (pe_bm PySem.F.plainAttrs_list PySem.F.slot_list_index PySem.F.type_list_index mt_index (pv 1) (pa_cons pe_bl pa_nil)) (fun _ _ => rfl))))))))), ?_⟩
    refine ⟨_, rfl, _, _, _, rfl, (fun _ z => z), C.bit 0 _ rfl, _, rfl, _, _, _, rfl, (fun _ z => z), C.bit 1 _ rfl, _, rfl, _, _, _, rfl, (fun _ z => z), C.bit 2 _ rfl, _, rfl, _, _, _, rfl, (fun _ z => z), C.bit 3 _ rfl, (by show 4 ≤ sizeLine; decide), fun p1 n1 => ?_⟩
    refine ⟨_, rfl, _, rfl, _, _, _, rfl, (fun _ z => z), C.bit 4 _ rfl, _, rfl, _, _, _, rfl, (fun _ z => z), C.bit 5 _ rfl, _, rfl, _, _, _, rfl, (fun _ z => z), C.bit 6 _ rfl, (by show 3 ≤ sizeLine; decide), fun p2 n2 => ?_⟩
    refine ⟨_, _, _, _, rfl, rfl, (upd_ne (ne_of_none upd_same n2)).trans upd_same, upd_same, (by show 7 ≤ sizeLine; decide), fun p3 n3 => ?_⟩
    refine ⟨_, rfl, _, rfl, _, _, _, rfl, (fun _ z => z), C.bit 7 _ rfl, _, rfl, _, _, _, rfl, (fun _ z => z), C.bit 8 _ rfl, _, rfl, _, _, _, rfl, (fun _ z => z), C.bit 9 _ rfl, (by show 3 ≤ sizeLine; decide), fun p4 n4 => ?_⟩
    refine ⟨_, _, _, _, rfl, rfl, (upd_ne (ne_of_none upd_same n4)).trans upd_same, upd_same, (by show 10 ≤ sizeLine; decide), fun p5 n5 => ?_⟩
    refine ⟨_, rfl, .inl ⟨rfl, _, SqL.here⟩, _, kbits j, _, rfl, rfl, SqL.here, rfl, kbits_flat j, rfl, _, rfl, ?_⟩
    refine iteNS (by rw [kbits_count C.lt]; rfl) ?_
    refine ⟨_, rfl, _, _, _, rfl, (fun _ z => z), C.ve, _, rfl, ?_⟩
    refine iteF ?_
    refine ⟨(by show 10 ≤ sizeLine; decide), fun p6 n6 => ?_⟩
    refine ⟨_, rfl, _, rfl, ?_⟩
    have ne56 : p5 ≠ p6 := ne_of_none upd_same n6
    refine ⟨.inl ⟨rfl, _, SqL.of ((upd_ne ne56).trans upd_same)⟩, _, kbits j, _, j, _, rfl, rfl, SqL.of ((upd_ne ne56).trans upd_same), rfl, kbits_flat j, kbits_at C.lt, rfl, kbits_no C.lt, ?_⟩
    refine ⟨_, kwords.map V.str, _, _, rfl, rfl, SqL.here, kword_at C.lt, ?_⟩
    refine q _ ?_
    exact ((((((same_new n1).trans (same_new n2)).trans (same_new n3)).trans (same_new n4)).trans (same_new n5)).trans (same_new n6))

/-! ### _law_word -/
abbrev n_word : List Str := ["_law_cell", "_law_size", "_law_word_here", "_law_k"]
theorem sc_word : FnScope ["_law_cell", "_law_size", "_law_word_here", "_law_k"] ["_law_cell", "_law_size"] (defScope s_word) := ⟨rfl, rfl, rfl, by decide +kernel, rfl, by decide +kernel, by decide +kernel⟩
theorem ok_word (T : Txt K mg a) : FnOk P w K mg base CX0 2 a.f_word a.d_word ["_law_cell", "_law_size"] (spWord) := by
  refine T.word.F.ok sc_word (fun vs H Q E h => ?_) (fun cdv A outer s H vs Q E hr h => ?_)
  · obtain ⟨c, n, rfl, n0, n1, q⟩ := h
    rfl
  · obtain ⟨c, n, rfl, n0, n1, q⟩ := h
    have hu := hu_of hr
    refine ⟨_, (pss_cons (ps_set (i := 2) sc_word.nd rfl (Or.inl rfl) (pe_strC (l := []) (by decide +kernel)))
      (pss_cons (ps_for PassesOwn.never rfl (pi_range1 rfl T.b_range (pa_cons (pv 1) pa_nil)) (pg_name (i := 3) sc_word.nd rfl (Or.inl rfl)) (pss_one (ps_set (i := 2) sc_word.nd rfl (Or.inl rfl) (pe_op op_addC (pv 2) (pe_ix ix_C (pe_strC (l := [97, 98, 99, 100, 101, 102, 103, 104, 105, 106, 107, 108, 109, 110, 111, 112, 113, 114, 115, 116, 117, 118, 119, 120, 121, 122]) (by decide +kernel)) (pe_op (op_modc (c := 26) (by decide)) (pe_cl (ok_mix T) T.mix (hr.mono (by decide)) (pa_cons (pv 0) (pa_cons (pe_op op_add (pv 3) pe_int) pa_nil))) pe_int) (fun _ _ => rfl))))))
      (pss_one (ps_ret (pv 2))))), ?_⟩
    refine ⟨_, rfl, n, rfl, by omega, by omega, for_range (lo := 0) (n := n.toNat) (fun i σ H' => H = H' ∧ ∃ (z : List Nat) (v : Option V), σ = [some (.int c), some (.int n), some (.str (mkS z)), v] ∧ z.length = i ∧ low z)
      ⟨rfl, [], none, rfl, rfl, fun _ h => nomatch h⟩ ?_ ?_⟩
    · rintro i σ H' hi ⟨rfl, z, v, rfl, hz, lz⟩
      refine ⟨_, rfl, _, rfl, _, rfl, _, _, rfl, rfl, _, _, rfl, fun m m0 m1 => ?_⟩
      obtain ⟨j, hj⟩ := Int.eq_ofNat_of_zero_le (Int.emod_nonneg m (by decide : (26 : Int) ≠ 0))
      have hj26 : j < 26 := by omega
      refine ⟨_, rfl, rfl, _, j, 97 + j, rfl, by dsimp only; rw [hj], by decide, alphaL hj26, ?_⟩
      refine ⟨_, _, rfl, rfl, by rw [hz]; show i + 1 ≤ 1000000; omega, ?_⟩
      refine ⟨rfl, z ++ [97 + j], some (.int (0 + (i : Int))), rfl, by rw [List.length_append, hz]; rfl, fun ch hc => ?_⟩
      rcases List.mem_append.mp hc with h | h
      · exact lz ch h
      · rw [List.mem_singleton] at h
        omega
    · rintro σ H' ⟨rfl, z, v, rfl, hz, lz⟩
      exact ⟨_, rfl, q z (by omega) lz⟩
/-! ### _law_other -/
abbrev n_other : List Str := ["_law_cell", "_law_far"]
theorem sc_other : FnScope ["_law_cell", "_law_far"] ["_law_cell"] (defScope s_other) := ⟨rfl, rfl, rfl, by decide +kernel, rfl, by decide +kernel, by decide +kernel⟩
theorem ok_other (T : Txt K mg a) : FnOk P w K mg base CX0 3 a.f_other a.d_other ["_law_cell"] (spOther) := by
  refine T.other.F.ok sc_other (fun vs H Q E h => ?_) (fun cdv A outer s H vs Q E hr h => ?_)
  · obtain ⟨c, rfl, q⟩ := h
    rfl
  · obtain ⟨c, rfl, q⟩ := h
    have hu := hu_of hr
    refine ⟨_, (pss_cons (ps_set (i := 1) sc_other.nd rfl (Or.inl rfl) (pe_op op_add (pe_op op_mul (pe_cl (ok_mix T) T.mix (hr.mono (by decide)) (pa_cons (pv 0) (pa_cons pe_int pa_nil))) pe_pow24) (pe_cl (ok_mix T) T.mix (hr.mono (by decide)) (pa_cons (pv 0) (pa_cons pe_int pa_nil)))))
      (pss_one (ps_ret (pe_ix (ixL K) (pe_lst (pa_cons pe_negc (pa_cons (pe_op op_sub pe_negc (pv 1)) (pa_cons pe_pow12 (pa_cons (pe_op op_add pe_pow12 pe_int) (pa_cons (pe_op op_add (pe_op op_add pe_pow12 pe_int) (pv 1)) (pa_cons pe_int (pa_cons (pe_cl (ok_big T) T.big (hr.mono (by decide)) (pa_cons (pv 0) (pa_cons pe_int pa_nil))) pa_nil)))))))) (pe_op (op_modc (c := 7) (by decide)) (pv 0) pe_int) (fun _ _ => rfl))))), ?_⟩
    refine ⟨_, rfl, _, _, rfl, fun m m0 m1 => ?_⟩
    refine ⟨_, _, rfl, rfl, .inl ⟨by omega, by omega⟩, _, rfl, _, _, rfl, fun m' _ _ => ?_⟩
    refine ⟨_, _, rfl, rfl, ?_⟩
    dsimp only [gName]
    refine ⟨_, rfl, _, _, rfl, rfl, _, _, rfl, rfl, _, _, rfl, rfl, _, rfl, _, _, rfl, rfl, _, rfl, c, 32, rfl, fun g H1 g0 g1 s1 => ?_⟩
    refine ⟨(by show 7 ≤ sizeLine; decide), fun p np => ?_⟩
    refine ⟨_, rfl, _, rfl, rfl, ?_⟩
    exact ix_int (fun _ => True) SqL.here (Int.emod_nonneg _ (by decide)) (Int.emod_lt_of_pos _ (by decide)) (allc ⟨_, rfl, trivial⟩ (allc ⟨_, rfl, trivial⟩ (allc ⟨_, rfl, trivial⟩ (allc ⟨_, rfl, trivial⟩ (allc ⟨_, rfl, trivial⟩ (allc ⟨_, rfl, trivial⟩ (all1 ⟨_, rfl, trivial⟩))))))) fun j _ => q j _ (s1.trans (same_new np))
/-! ### _law_name -/
abbrev n_name : List Str := ["_law_cell", "_law_word_here", "_law_signs", "_law_at"]
theorem sc_name : FnScope ["_law_cell", "_law_word_here", "_law_signs", "_law_at"] ["_law_cell"] (defScope s_name) := ⟨rfl, rfl, rfl, by decide +kernel, rfl, by decide +kernel, by decide +kernel⟩
theorem ok_name (T : Txt K mg a) : FnOk P w K mg base CX0 3 a.f_name a.d_name ["_law_cell"] (spName) := by
  refine T.name.F.ok sc_name (fun vs H Q E h => ?_) (fun cdv A outer s H vs Q E hr h => ?_)
  · obtain ⟨c, rfl, q⟩ := h
    rfl
  · obtain ⟨c, rfl, q⟩ := h
    have hu := hu_of hr
    refine ⟨_, (pss_cons (ps_set (i := 1) sc_name.nd rfl (Or.inl rfl) (pe_cl (ok_word T) T.word (hr.mono (by decide)) (pa_cons (pv 0) (pa_cons (pe_op op_add pe_int (pe_op (op_modc (c := 12) (by decide)) (pv 0) pe_int)) pa_nil))))
      (pss_cons (ps_set (i := 2) sc_name.nd rfl (Or.inl rfl) (pe_strC (l := [32, 33, 34, 35, 36, 38, 39, 40, 41, 42, 43, 44, 45, 46, 47, 48, 49, 50, 51, 52, 53, 54, 55, 56, 57, 58, 59, 60, 61, 62, 63, 64, 65, 66, 67, 68, 69, 70, 71, 72, 73, 74, 75, 76, 77, 78, 79, 80, 81, 82, 83, 84, 85, 86, 87, 88, 89, 90, 91, 92, 93, 94, 95, 96, 123, 124, 125, 126, 10, 9]) (by decide +kernel)))
      (pss_cons (ps_set (i := 3) sc_name.nd rfl (Or.inl rfl) (pe_op op_mod (pe_cl (ok_mix T) T.mix (hr.mono (by decide)) (pa_cons (pv 0) (pa_cons pe_int pa_nil))) (pe_op op_add (pe_callB call_len_str (by rfl) T.b_len boot_len (pa_cons (pv 1) pa_nil)) pe_int)))
      (pss_cons (ps_if (pt_cmpR op_eq (pe_op (op_modc (c := 6) (by decide)) (pe_cl (ok_mix T) T.mix (hr.mono (by decide)) (pa_cons (pv 0) (pa_cons pe_int pa_nil))) pe_int) pe_int (nomark _)) (pss_one (ps_ret (pe_op op_addC (pe_op op_addC (pe_slice sl_to (pv 1) po_none (po_some (pv 3))) (pe_ix ix_C (pv 2) (pe_op op_mod (pe_cl (ok_mix T) T.mix (hr.mono (by decide)) (pa_cons (pv 0) (pa_cons pe_int pa_nil))) (pe_callB call_len_str (by rfl) T.b_len boot_len (pa_cons (pv 2) pa_nil))) (fun _ _ => rfl))) (pe_slice sl_from (pv 1) (po_some (pe_op op_add (pv 3) (pe_op (op_modc (c := 2) (by decide)) (pe_cl (ok_mix T) T.mix (hr.mono (by decide)) (pa_cons (pv 0) (pa_cons pe_int pa_nil))) pe_int))) po_none)))) pss_nil)
      (pss_cons (ps_if (pt_cmpR op_eq (pe_op (op_modc (c := 6) (by decide)) (pe_cl (ok_mix T) T.mix (hr.mono (by decide)) (pa_cons (pv 0) (pa_cons pe_int pa_nil))) pe_int) pe_int (nomark _)) (pss_one (ps_ret (pe_ix (ixL K) (pe_lst (pa_cons (pe_strC (l := []) (by decide +kernel)) (pa_cons (pe_cl (ok_word T) T.word (hr.mono (by decide)) (pa_cons (pv 0) (pa_cons pe_int pa_nil))) (pa_cons (pe_cl (ok_word T) T.word (hr.mono (by decide)) (pa_cons (pv 0) (pa_cons pe_int pa_nil))) (pa_cons (pe_op op_addC (pv 1) (pv 1)) pa_nil))))) (pe_op (op_modc (c := 4) (by decide)) (pe_cl (ok_mix T) T.mix (hr.mono (by decide)) (pa_cons (pv 0) (pa_cons pe_int pa_nil))) pe_int) (fun _ _ => rfl)))) pss_nil)
      (pss_one (ps_ret (pv 1)))))))), ?_⟩
    refine ⟨_, rfl, _, rfl, _, rfl, rfl, _, _, rfl, rfl, _, _, rfl, by omega, by omega, fun w hw lw => ?_⟩
    dsimp only [gName]
    have aw : asc w := fun x hx => by have := lw x hx; omega
    have wl : w.length ≤ 12 := by omega
    generalize hsg : ([32, 33, 34, 35, 36, 38, 39, 40, 41, 42, 43, 44, 45, 46, 47, 48, 49, 50, 51, 52, 53, 54, 55, 56, 57, 58, 59, 60, 61, 62, 63, 64, 65, 66, 67, 68, 69, 70, 71, 72, 73, 74, 75, 76, 77, 78, 79, 80, 81, 82, 83, 84, 85, 86, 87, 88, 89, 90, 91, 92, 93, 94, 95, 96, 123, 124, 125, 126, 10, 9] : List Nat) = sg
    have hsl : sg.length = 70 := by rw [← hsg]; rfl
    have hsa : asc sg := by rw [← hsg]; unfold asc; decide
    refine ⟨_, rfl, _, _, rfl, fun m m0 m1 => ?_⟩
    refine ⟨_, rfl, mkS w, rfl, mkS_le (by omega), _, _, rfl, rfl, _, _, rfl, rfl, (by omega), ?_⟩
    rw [mkS_len]
    obtain ⟨k, hk⟩ := Int.eq_ofNat_of_zero_le (Int.emod_nonneg m (show (w.length : Int) + 1 ≠ 0 by omega))
    dsimp only [gName]
    rw [hk]
    refine ⟨_, rfl, _, _, rfl, fun u u0 u1 => ?_⟩
    refine ⟨_, rfl, rfl, rfl, _, rfl, ?_⟩
    refine ite_eq (fun _ => ?_) (fun _ => ?_)
    · refine ⟨_, rfl, _, rfl, _, rfl, w, k, rfl, rfl, rfl, by omega, ?_⟩
      refine ⟨_, rfl, _, rfl, _, _, rfl, fun v v0 v1 => ?_⟩
      refine ⟨_, rfl, mkS sg, rfl, mkS_le (by omega), _, _, rfl, rfl, (by rw [mkS_len, hsl]; show (0 : Int) < ((70 : Nat) : Int); decide), ?_⟩
      rw [mkS_len, hsl]
      obtain ⟨i, hi⟩ := Int.eq_ofNat_of_zero_le (Int.emod_nonneg v (show ((70 : Nat) : Int) ≠ 0 by decide))
      have hi2 : i < sg.length := by
        have := Int.emod_lt_of_pos v (show (0 : Int) < ((70 : Nat) : Int) by decide)
        omega
      refine ⟨sg, i, sg[i], rfl, by dsimp only; rw [hi], by omega, List.getElem?_eq_getElem hi2, ?_⟩
      have hs1 : sg[i] < 128 := hsa _ (List.getElem_mem hi2)
      refine ⟨_, _, rfl, rfl, by rw [List.length_take]; show min k w.length + 1 ≤ 1000000; omega, ?_⟩
      refine ⟨_, rfl, _, rfl, _, rfl, _, _, rfl, fun x x0 x1 => ?_⟩
      obtain ⟨k2, hk2⟩ := Int.eq_ofNat_of_zero_le (show 0 ≤ (k : Int) + x % 2 by have := Int.emod_nonneg x (show (2 : Int) ≠ 0 by decide); omega)
      refine ⟨_, rfl, rfl, _, _, rfl, rfl, _, rfl, w, k2, rfl, by rw [hk2], rfl, by omega, ?_⟩
      have l1 : (w.take k ++ [sg[i]]).length ≤ 13 := by rw [List.length_append, List.length_take]; show min k w.length + 1 ≤ 13; omega
      have l2 : (w.drop k2).length ≤ 12 := by rw [List.length_drop]; omega
      refine ⟨_, _, rfl, rfl, by omega, ?_⟩
      refine q _ H (by rw [List.length_append]; omega) (fun y hy => ?_) (Same.refl H)
      rcases List.mem_append.mp hy with hy | hy
      · rcases List.mem_append.mp hy with hy | hy
        · exact aw y (List.mem_of_mem_take hy)
        · rw [List.mem_singleton] at hy
          exact hy ▸ hs1
      · exact aw y (List.mem_of_mem_drop hy)
    refine ⟨_, rfl, _, _, rfl, fun u' u0' u1' => ?_⟩
    refine ⟨_, rfl, rfl, rfl, _, rfl, ?_⟩
    refine ite_eq (fun _ => ?_) (fun _ => ?_)
    · refine ⟨_, rfl, c, 13, rfl, by decide, by decide, fun w1 h1 l1 => ?_⟩
      refine ⟨_, rfl, c, 12, rfl, by decide, by decide, fun w2 h2 l2 => ?_⟩
      refine ⟨_, rfl, _, rfl, _, _, rfl, rfl, by omega, ?_⟩
      refine ⟨(by show 4 ≤ sizeLine; decide), fun p np => ?_⟩
      refine ⟨_, rfl, _, _, rfl, fun m' _ _ => ?_⟩
      refine ⟨_, rfl, rfl, ?_⟩
      refine ix_any (fun v => ∃ y : List Nat, v = .str (mkS y) ∧ y.length ≤ 1000 ∧ asc y) SqL.here (Int.emod_nonneg _ (by decide)) (Int.emod_lt_of_pos _ (by decide))
        (allc ⟨[], rfl, by decide, fun _ h => nomatch h⟩ (allc ⟨w1, rfl, by omega, fun x hx => by have := l1 x hx; omega⟩ (allc ⟨w2, rfl, by omega, fun x hx => by have := l2 x hx; omega⟩ (all1 ⟨w ++ w, rfl, by rw [List.length_append]; omega, fun x hx => by
          rcases List.mem_append.mp hx with hx | hx <;> exact aw x hx⟩)))) fun v hv => ?_
      obtain ⟨y, rfl, y1, y2⟩ := hv
      exact q y _ y1 y2 (same_new np)
    exact ⟨_, rfl, q w H (by omega) aw (Same.refl H)⟩
/-! ### _law_due -/
abbrev n_due : List Str := ["_law_letter", "_law_name_here", "_law_sent", "_law_back", "_law_low", "_law_high", "_law_number", "_law_sign"]
theorem sc_due : FnScope ["_law_letter", "_law_name_here", "_law_sent", "_law_back", "_law_low", "_law_high", "_law_number", "_law_sign"] ["_law_letter"] (defScope s_due) := ⟨rfl, rfl, rfl, by decide +kernel, rfl, by decide +kernel, by decide +kernel⟩
theorem ok_due (T : Txt K mg a) : FnOk P w K mg base CX0 1 a.f_due a.d_due ["_law_letter"] (spDue) := by
  refine T.due.F.ok sc_due (fun vs H Q E h => ?_) (fun cdv A outer s H vs Q E hr h => ?_)
  · obtain ⟨t, z, s', b, lo, hi, rfl, hT, zl, za, q⟩ := h
    rfl
  · obtain ⟨t, z, s', b, lo, hi, rfl, hT, zl, za, q⟩ := h
    have hu := hu_of hr
    refine ⟨_, (pss_cons (ps_asg (pv 0) (pg_tup (by rfl) (pgs_cons (pg_name (i := 1) sc_due.nd rfl (Or.inl rfl)) (pgs_cons (pg_name (i := 2) sc_due.nd rfl (Or.inl rfl)) (pgs_cons (pg_name (i := 3) sc_due.nd rfl (Or.inl rfl)) (pgs_cons (pg_name (i := 4) sc_due.nd rfl (Or.inl rfl)) (pgs_cons (pg_name (i := 5) sc_due.nd rfl (Or.inl rfl)) pgs_nil)))))))
      (pss_cons (ps_if (PW.pt (pw_or (pt_cmpR op_lt (pe_callB call_len_str (by rfl) T.b_len boot_len (pa_cons (pv 1) pa_nil)) pe_int (nomark _)) (pw_or (pt_cmpR op_gt (pe_callB call_len_str (by rfl) T.b_len boot_len (pa_cons (pv 1) pa_nil)) pe_int (nomark _)) (pw_or1 (pt_cmpR (neDK K hr.units) (pe_lc (own := [("_law_sign", 7)]) (g := gName 7) rfl sc_due.nd (pi_str (pv 1)) (blkOk_by (N := n_due) (sc := defScope s_due) (by decide +kernel)) (fun _ _ _ _ _ => pg_name (i := 7) sc_due.nd rfl (Or.inl rfl)) (fun _ _ _ _ _ => pts_one (pt_cmpR op_notIn_sign (pv 7) pe_str rfl)) (fun _ _ _ _ _ => (pv 7))) (pe_lst pa_nil) (nomark _)))))) (pss_one (ps_ret pe_str)) pss_nil)
      (pss_cons (ps_for PassesOwn.never rfl (piT K (pe_slice (slT K) (pv 0) (po_some pe_int) po_none)) (pg_name (i := 6) sc_due.nd rfl (Or.inl rfl)) (pss_one (ps_if (PW.pt (pw_or (pt_cmpR op_lt (pv 6) pe_int (nomark _)) (pw_or1 (pt_cmpR op_gt (pv 6) pe_pow12 (nomark _))))) (pss_one (ps_ret pe_str)) pss_nil)))
      (pss_cons (ps_if (PW.pt (pw_or (pt_cmpR op_gt (pv 2) (pv 3) (nomark _)) (pw_or1 (pt_cmpR op_gt (pv 4) (pv 5) (nomark _))))) (pss_one (ps_ret pe_str)) pss_nil)
      (pss_one (ps_ret pe_str)))))), ?_⟩
    have qN : ¬ nmOk z → ∀ H', Same H H' → Q (.str "name") H' := fun bad H' s1 => by
      have q' := q H' s1
      rw [show verdict z s' b lo hi = "name" from if_neg bad] at q'
      exact q'
    refine ⟨_, rfl, t, _, rfl, SqT.of (K := K) hT, rfl, _, _, rfl, _, _, rfl, _, _, rfl, _, _, rfl, _, _, rfl, rfl, ?_⟩
    refine ⟨_, rfl, mkS z, rfl, mkS_le (by omega), _, _, rfl, rfl, _, rfl, ?_⟩
    rw [mkS_len]
    refine ite_dec (fun h1 => ?_) (fun h1 => ?_)
    · refine iteT ?_
      exact qN (fun h => absurd h.1 (by omega)) H (Same.refl H)
    refine ⟨_, rfl, mkS z, rfl, mkS_le (by omega), _, _, rfl, rfl, _, rfl, ?_⟩
    rw [mkS_len]
    refine ite_dec (fun h2 => ?_) (fun h2 => ?_)
    · refine iteT ?_
      exact qN (fun h => absurd h.2.1 (by omega)) H (Same.refl H)
    refine ⟨_, rfl, mkS z, rfl, fun D nD => lc_it walk_str (fun i H' => Same H H' ∧ ∃ acc : List Nat, H' D = some (.lst (acc.map oneV)) ∧ acc.length ≤ i ∧ asc acc ∧ (acc = [] ↔ low (z.take i))) ⟨same_new nD, [], upd_same, Nat.le_refl _, fun _ h => (nomatch h), fun _ _ h => (nomatch h), fun _ => rfl⟩ (fun _ _ _ _ => trivial) ?_ ?_⟩
    · rintro i x H1 H' hi ⟨s1, acc, eD, hl, aa, hacc⟩ ⟨rfl, c, hc, rfl⟩
      have hz : z[i]? = some c := by simpa [mkS] using hc
      have il : i < z.length := (List.getElem?_eq_some_iff.mp hz).1
      refine ⟨rfl, ?_⟩
      refine ⟨_, rfl, c, _, rfl, rfl, _, rfl, ?_⟩
      rw [alpha_list]
      have mem : c ∈ (List.range 26).map (97 + ·) ↔ 97 ≤ c ∧ c ≤ 122 := by
        rw [List.mem_map]
        constructor
        · rintro ⟨j, hj, rfl⟩
          have := List.mem_range.mp hj
          omega
        · intro h
          exact ⟨c - 97, List.mem_range.mpr (by omega), by omega⟩
      by_cases hlow : 97 ≤ c ∧ c ≤ 122
      · refine ite_no (by rw [decide_eq_true (mem.mpr hlow)]; rfl) ?_
        refine ⟨s1, acc, eD, by omega, aa, ?_⟩
        rw [take_snoc hz, hacc]
        refine ⟨fun h y hy => ?_, fun h y hy => h y (List.mem_append_left _ hy)⟩
        rcases List.mem_append.mp hy with hy | hy
        · exact h y hy
        · rw [List.mem_singleton] at hy
          exact hy ▸ hlow
      · refine ite_yes (by rw [decide_eq_false fun h => hlow (mem.mp h)]; rfl) ?_
        refine ⟨_, rfl, acc.map oneV, eD, by rw [List.length_map]; exact Nat.lt_of_le_of_lt (show acc.length ≤ 1000 by omega) (by decide), Same.mut s1 nD, acc ++ [c], upd_same.trans (by rw [List.map_append]; rfl), by rw [List.length_append]; show acc.length + 1 ≤ i + 1; omega, fun y hy => ?_, fun h => ?_, fun h => ?_⟩
        · rcases List.mem_append.mp hy with hy | hy
          · exact aa y hy
          · rw [List.mem_singleton] at hy
            exact hy ▸ za c (List.mem_of_getElem? hz)
        · simp at h
        · rw [take_snoc hz] at h
          exact absurd (h c (List.mem_append_right _ List.mem_cons_self)) hlow
    · rintro H' ⟨s1, acc, eD, hl, aa, hacc⟩
      have zz : z.take (mkS z).cps.size = z := List.take_of_length_le (by simp [mkS])
      rw [zz] at hacc
      refine ⟨(by show 0 ≤ sizeLine; decide), fun p2 n2 => ?_⟩
      refine ⟨.list (acc.map oneD), .list [], .lst (SqL.of ((upd_ne (ne_of_none eD n2)).trans eD)) (dp_ones acc), .lst SqL.here .nil, shp_ones aa, rfl, _, rfl, ?_⟩
      have s2 : Same H _ := s1.trans (same_new n2 (o := .lst []))
      cases acc with
      | cons y ys =>
        refine ite_yes rfl ?_
        exact qN (fun h => nomatch (hacc.mpr h.2.2)) _ s2
      | nil =>
        refine ite_no rfl ?_
        have ok : nmOk z := ⟨by omega, by omega, hacc.mp rfl⟩
        generalize upd H' p2 (.lst []) = H2 at s2 ⊢
        have qL : ¬ numsOk s' b lo hi → ∀ H', Same H H' → Q (.str "letter") H' := fun bad H' s1 => by
          have q' := q H' s1
          rw [show verdict z s' b lo hi = "letter" from (if_pos ok).trans (if_neg bad)] at q'
          exact q'
        refine ⟨_, rfl, _, rfl, t, _, rfl, SqT.of (K := K) (s2 _ _ hT), (fun h => absurd h.1 (by show ¬ HT.sIx 5 0 (some 1) = 0; decide)), fun p3 n3 => ?_⟩
        refine ⟨p3, rfl, ⟨[.int s', .int b, .int lo, .int hi], SqT.of upd_same⟩, for_tup (K := K) (a := p3) (xs := [.int s', .int b, .int lo, .int hi]) (fun i σ H' => Same H2 H' ∧ SqT K H' p3 [.int s', .int b, .int lo, .int hi] ∧ (∀ (j : Nat) (v : Int), j < i → ([s', b, lo, hi] : List Int)[j]? = some v → 0 ≤ v ∧ v ≤ 1000000000000) ∧
          ∃ v : Option V, σ = [some (.ref t), some (.str (mkS z)), some (.int s'), some (.int b), some (.int lo), some (.int hi), v, none]) ⟨same_new n3, SqT.of upd_same, fun j v h => (nomatch h), none, rfl⟩ (fun i σ H' _ h => h.2.1) ?_ ?_⟩
        · rintro i x σ H' hx ⟨s3, e3, hv, v, rfl⟩
          obtain ⟨y, hy, rfl⟩ : ∃ y, ([s', b, lo, hi] : List Int)[i]? = some y ∧ x = .int y := by
            match i, hx with
            | 0, hx => exact ⟨_, rfl, (Option.some.inj hx).symm⟩
            | 1, hx => exact ⟨_, rfl, (Option.some.inj hx).symm⟩
            | 2, hx => exact ⟨_, rfl, (Option.some.inj hx).symm⟩
            | 3, hx => exact ⟨_, rfl, (Option.some.inj hx).symm⟩
          have out : ¬ (0 ≤ y ∧ y ≤ 1000000000000) → Q (.str "letter") H' := fun bad => qL (fun h => bad (by
            have hm := List.mem_of_getElem? hy
            simp only [List.mem_cons, List.not_mem_nil, or_false] at hm
            obtain ⟨⟨a1, a2, a3⟩, a4, a5, a6⟩ := h
            rcases hm with rfl | rfl | rfl | rfl <;> omega)) H' (s2.trans s3)
          refine ⟨_, rfl, _, _, rfl, rfl, _, rfl, ?_⟩
          refine ite_dec (fun g1 => ?_) (fun g1 => ?_)
          · refine iteT ?_
            exact out (by omega)
          refine ⟨_, rfl, _, _, rfl, rfl, _, rfl, ?_⟩
          refine ite_dec (fun g2 => ?_) (fun g2 => ?_)
          · exact out (by omega)
          refine ⟨s3, e3, fun j u hj hu => ?_, some (.int y), rfl⟩
          by_cases hji : j = i
          · subst hji
            rw [hy] at hu
            cases hu
            omega
          · exact hv j u (by omega) hu
        · rintro σ H' ⟨s3, e3, hv, v, rfl⟩
          have b0 := hv 0 s' (by show 0 < 4; decide) rfl
          have b1 := hv 1 b (by show 1 < 4; decide) rfl
          have b2 := hv 2 lo (by show 2 < 4; decide) rfl
          have b3 := hv 3 hi (by show 3 < 4; decide) rfl
          refine ⟨_, rfl, _, rfl, _, _, rfl, rfl, _, rfl, ?_⟩
          refine ite_dec (fun g1 => ?_) (fun g1 => ?_)
          · refine iteT ?_
            exact qL (fun h => by have := h.1.2.1; omega) H' (s2.trans s3)
          refine ⟨_, rfl, _, rfl, _, _, rfl, rfl, _, rfl, ?_⟩
          refine ite_dec (fun g2 => ?_) (fun g2 => ?_)
          · exact qL (fun h => by have := h.2.2.1; omega) H' (s2.trans s3)
          have q' := q H' (s2.trans s3)
          rw [show verdict z s' b lo hi = "" from (if_pos ok).trans (if_pos ⟨⟨b0.1, by omega, b1.2⟩, b2.1, by omega, b3.2⟩)] at q'
          exact q'
/-! ### _law_told -/
abbrev n_told : List Str := ["_law_letter", "_law_found", "_law_e"]
theorem sc_told : FnScope ["_law_letter", "_law_found", "_law_e"] ["_law_letter"] (defScope s_told) := ⟨rfl, rfl, rfl, by decide +kernel, rfl, by decide +kernel, by decide +kernel⟩
theorem ok_told (T : Txt K mg a) (TB : GxR.TabB base mg a.k_tab a.P_tab) : FnOk P w K mg base CX0 3 a.f_told a.d_told ["_law_letter"] (spTold a.P_tab) := by
  refine T.told.F.ok sc_told (fun vs H Q E h => ?_) (fun cdv A outer s H vs Q E hr h => ?_)
  · obtain ⟨t, z, s', b, lo, hi, rfl, hT, zl, za, hP, q⟩ := h
    rfl
  · obtain ⟨t, z, s', b, lo, hi, rfl, hT, zl, za, hP, q⟩ := h
    have hu := hu_of hr
    refine ⟨_, (pss_cons (ps_try_as (ts := fun x cls d => tRet (tCallE (spKind K a.cs a.c_StretchError) x cls d (tCons (tVar 2) tNil))) (i := 2) rfl rfl sc_told.nd rfl rfl ⟨rfl, by decide, .inl T.StretchError.g⟩ takes0 (fun W pn xe tk _ => (pss_one (ps_set (i := 1) sc_told.nd rfl (Or.inl rfl) (pe_clT (ok_checked T TB) T.checked (hr.mono (by decide)) tk (pa_cons (pv 0) pa_nil))))) (fun a oe cls d pn hz hf => (pss_one (ps_ret (pe_callE (p := (a, oe)) (ok_kind T) (rm_suite hr (by decide)) List.mem_cons_self hz hf T.kind.g T.kind.F.kp T.kind.b (pa_cons (pv 2) pa_nil))))))
      (pss_one (ps_ret (pe_ifExp (PW.pt (pw_and (pt_val (pe_callB (isiK K) (by rfl) T.b_isinstance (by decide +kernel) (pa_cons (pv 1) (pa_cons (pe_bty (n := "tuple") T.b_tuple (by decide +kernel)) pa_nil)))) (pw_and1 (pt_cmpR (eqDK K hr.units) (pv 1) (pv 0) (nomark _))))) pe_str pe_str)))), ?_⟩
    refine ⟨_, rfl, t, z, s', b, lo, hi, rfl, hT, zl, za, hP, fun bad H1 s1 => ?_, fun ok bad H1 s1 => ?_, fun ok good H1 s1 => ?_⟩
    · refine ⟨true, T.kd_BadName.em, fun _ x nx => ?_, fun z => nomatch z⟩
      refine ⟨_, rfl, rfl, _, 0, rfl, rfl, T.kd_BadName, fun H' s' => ?_⟩
      have q' := q H' (s1.andThen s')
      rw [show verdict z _ b lo hi = "name" from if_neg bad] at q'
      exact q'
    · refine ⟨true, T.kd_BadLetter.em, fun _ x nx => ?_, fun z => nomatch z⟩
      refine ⟨_, rfl, rfl, _, 1, rfl, rfl, T.kd_BadLetter, fun H' s' => ?_⟩
      have q' := q H' (s1.andThen s')
      rw [show verdict z _ b lo hi = "letter" from (if_pos ok).trans (if_neg bad)] at q'
      exact q'
    · have hT1 := s1.tup hP hT
      refine ⟨_, rfl, _, _, _, _, true, rfl, .ty _, .base (.tup hT1), kit_ty (by decide +kernel), _, rfl, ?_⟩
      refine iteT ?_
      refine ⟨_, rfl, _, rfl, .tuple [.str (mkS z), .int s', .int b, .int lo, .int hi], .tuple [.str (mkS z), .int s', .int b, .int lo, .int hi], .tup (SqT.of hT1) (.cons (.str _) (.cons (.int _) (.cons (.int _) (.cons (.int _) (.cons (.int _) .nil))))), .tup (SqT.of hT1) (.cons (.str _) (.cons (.int _) (.cons (.int _) (.cons (.int _) (.cons (.int _) .nil))))), shp_ltr za, shp_ltr za, ?_⟩
      rw [SeqAt.eqv_refl _ (SeqAt.canLay_of_shaped (shp_ltr za))]
      refine ⟨_, rfl, ?_⟩
      refine iteT ?_
      have q' := q H1 s1
      rw [show verdict z s' b lo hi = "" from (if_pos ok).trans (if_pos good)] at q'
      exact q'
/-! ### law -/
abbrev n_law : List Str := ["_law_script", "_law_counts", "_law_times", "_law_numbers", "_law_k", "_law_cell", "_law_name_here", "_law_letter"]
theorem sc_law : FnScope ["_law_script", "_law_counts", "_law_times", "_law_numbers", "_law_k", "_law_cell", "_law_name_here", "_law_letter"] ["_law_script"] (defScope s_law) := ⟨rfl, rfl, rfl, by decide +kernel, rfl, by decide +kernel, by decide +kernel⟩
theorem ok_law (T : Txt K mg a) (TB : GxR.TabB base mg a.k_tab a.P_tab) : FnOk P w K mg base CX0 4 a.f_law a.d_law ["_law_script"] (spLawT K a.P_tab) := by
  refine T.law.F.ok sc_law (fun vs H Q E h => ?_) (fun cdv A outer s H vs Q E hr h => ?_)
  · obtain ⟨l, ns, rfl, hS, hlen, hP, k⟩ := h
    rfl
  · obtain ⟨l, ns, rfl, hS, hlen, hP, k⟩ := h
    have hu := hu_of hr
    refine ⟨_, (pss_cons (ps_set (i := 1) sc_law.nd rfl (Or.inl rfl) (pe_callB (sortK K) (by rfl) T.b_sorted (by decide +kernel) (pa_cons (pe_lc (own := [("_law_k", 4)]) (g := gName 4) (tt := tYes) rfl sc_law.nd (pi_range1 rfl T.b_range (pa_cons pe_int pa_nil)) (blkOk_by (N := n_law) (sc := defScope s_law) (by decide +kernel)) (fun _ _ _ _ _ => pg_name (i := 4) sc_law.nd rfl (Or.inl rfl)) (fun _ _ _ _ _ => pts_nil) (fun _ _ _ _ _ => (pe_cl (ok_big T) T.big (hr.mono (by decide)) (pa_cons (pe_cl (ok_cell_at T) T.cell_at (hr.mono (by decide)) (pa_cons (pv 0) (pa_cons pe_int pa_nil))) (pa_cons (pv 4) pa_nil))))) pa_nil)))
      (pss_cons (ps_set (i := 2) sc_law.nd rfl (Or.inl rfl) (pe_callB (sortK K) (by rfl) T.b_sorted (by decide +kernel) (pa_cons (pe_lc (own := [("_law_k", 4)]) (g := gName 4) (tt := tYes) rfl sc_law.nd (pi_range1 rfl T.b_range (pa_cons pe_int pa_nil)) (blkOk_by (N := n_law) (sc := defScope s_law) (by decide +kernel)) (fun _ _ _ _ _ => pg_name (i := 4) sc_law.nd rfl (Or.inl rfl)) (fun _ _ _ _ _ => pts_nil) (fun _ _ _ _ _ => (pe_cl (ok_big T) T.big (hr.mono (by decide)) (pa_cons (pe_cl (ok_cell_at T) T.cell_at (hr.mono (by decide)) (pa_cons (pv 0) (pa_cons pe_int pa_nil))) (pa_cons (pv 4) pa_nil))))) pa_nil)))
      (pss_cons (ps_set (i := 3) sc_law.nd rfl (Or.inl rfl) (pe_op op_cat (pv 1) (pe_ix (ixL K) (pe_lst (pa_cons (pe_lst (pa_cons (pe_ix (ixL K) (pv 2) pe_int (fun _ _ => rfl)) (pa_cons (pe_ix (ixL K) (pv 2) pe_int (fun _ _ => rfl)) pa_nil))) (pa_cons (pe_lst (pa_cons (pe_ix (ixL K) (pv 2) pe_int (fun _ _ => rfl)) (pa_cons (pe_ix (ixL K) (pv 2) pe_int (fun _ _ => rfl)) pa_nil))) pa_nil))) (pe_op (op_modc (c := 2) (by decide)) (pe_cl (ok_cell_at T) T.cell_at (hr.mono (by decide)) (pa_cons (pv 0) (pa_cons pe_int pa_nil))) pe_int) (fun _ _ => rfl))))
      (pss_cons (ps_for PassesOwn.never rfl (pi_range1 rfl T.b_range (pa_cons (pe_op (op_modc (c := 3) (by decide)) (pe_cl (ok_cell_at T) T.cell_at (hr.mono (by decide)) (pa_cons (pv 0) (pa_cons pe_int pa_nil))) pe_int) pa_nil)) (pg_name (i := 4) sc_law.nd rfl (Or.inl rfl)) (pss_cons (ps_set (i := 5) sc_law.nd rfl (Or.inl rfl) (pe_cl (ok_cell_at T) T.cell_at (hr.mono (by decide)) (pa_cons (pv 0) (pa_cons (pe_op op_add pe_int (pv 4)) pa_nil))))
      (pss_one (ps_asg (pe_cl (ok_other T) T.other (hr.mono (by decide)) (pa_cons (pv 5) pa_nil)) (pg_sub (pv 3) (pe_op (op_modc (c := 4) (by decide)) (pe_cl (ok_mix T) T.mix (hr.mono (by decide)) (pa_cons (pv 5) (pa_cons pe_int pa_nil))) pe_int) set_list)))))
      (pss_cons (ps_set (i := 6) sc_law.nd rfl (Or.inl rfl) (pe_cl (ok_name T) T.name (hr.mono (by decide)) (pa_cons (pe_cl (ok_cell_at T) T.cell_at (hr.mono (by decide)) (pa_cons (pv 0) (pa_cons pe_int pa_nil))) pa_nil)))
      (pss_cons (ps_set (i := 7) sc_law.nd rfl (Or.inl rfl) (pe_tup (pa_cons (pv 6) (pa_cons (pe_ix (ixL K) (pv 3) pe_int (fun _ _ => rfl)) (pa_cons (pe_ix (ixL K) (pv 3) pe_int (fun _ _ => rfl)) (pa_cons (pe_ix (ixL K) (pv 3) pe_int (fun _ _ => rfl)) (pa_cons (pe_ix (ixL K) (pv 3) pe_int (fun _ _ => rfl)) pa_nil)))))))
      (pss_one (ps_ret (pe_cmpR op_eq (pe_cl (ok_told T TB) T.told (hr.mono (by decide)) (pa_cons (pv 7) pa_nil)) (pe_cl (ok_due T) T.due (hr.mono (by decide)) (pa_cons (pv 7) pa_nil)) (nomark _)))))))))), ?_⟩
    -- counts
    refine ⟨2, rfl, by decide, by decide, fun D nD => lc_range (lo := 0) (n := 2) (fun i H' => Same H H' ∧ ∃ zs : List Int, zs.length = i ∧ H' D = some (.lst (zs.map V.int))) ⟨same_new nD, [], rfl, upd_same⟩ ?_ ?_⟩
    · rintro i H' hi ⟨s1, zs, hz, eD⟩
      refine ⟨rfl, ?_⟩
      refine ⟨_, rfl, _, _, 0, rfl, s1.seq hS, _, rfl, _, _, rfl, fun r H2 r0 r1 s2 => ?_⟩
      exact ⟨_, s2 _ _ eD, by rw [List.length_map, hz]; exact Nat.lt_trans hi (by decide), Same.mut (s1.trans s2) nD, zs ++ [r], by rw [List.length_append, hz]; rfl, upd_same.trans (by rw [List.map_append]; rfl)⟩
    rintro H1 ⟨s1, zs, hz, eD⟩
    obtain ⟨x, y, rfl⟩ : ∃ x y, zs = [x, y] := by
      match zs, hz with
      | [x, y], _ => exact ⟨x, y, rfl⟩
    refine ⟨D, [x, y], rfl, SqL.of eD, (by show 2 < 64; decide), fun nsA p1 hpA hsA np1 => ?_⟩
    obtain ⟨c0, c1, rfl, _, _⟩ := perm2 hpA hsA
    generalize hHa : upd _ p1 _ = Ha
    obtain ⟨sa', e1⟩ := gen_new hHa np1
    clear hHa
    have sa : Same H Ha := s1.trans sa'
    dsimp only [gName]
    -- times
    refine ⟨2, rfl, by decide, by decide, fun D2 nD2 => lc_range (lo := 0) (n := 2) (fun i H' => Same Ha H' ∧ ∃ zs : List Int, zs.length = i ∧ H' D2 = some (.lst (zs.map V.int))) ⟨same_new nD2, [], rfl, upd_same⟩ ?_ ?_⟩
    · rintro i H' hi ⟨s1, zs, hz, eD⟩
      refine ⟨rfl, ?_⟩
      refine ⟨_, rfl, _, _, 1, rfl, (sa.trans s1).seq hS, _, rfl, _, _, rfl, fun r H2 r0 r1 s2 => ?_⟩
      exact ⟨_, s2 _ _ eD, by rw [List.length_map, hz]; exact Nat.lt_trans hi (by decide), Same.mut (s1.trans s2) nD2, zs ++ [r], by rw [List.length_append, hz]; rfl, upd_same.trans (by rw [List.map_append]; rfl)⟩
    rintro H2 ⟨s2, zs, hz, eD2⟩
    obtain ⟨x', y', rfl⟩ : ∃ x y, zs = [x, y] := by
      match zs, hz with
      | [x, y], _ => exact ⟨x, y, rfl⟩
    refine ⟨D2, [x', y'], rfl, SqL.of eD2, (by show 2 < 64; decide), fun nsB p2 hpB hsB np2 => ?_⟩
    obtain ⟨t0, t1, rfl, _, _⟩ := perm2 hpB hsB
    generalize hHb : upd _ p2 _ = Hb
    obtain ⟨sb', e2⟩ := gen_new hHb np2
    clear hHb
    have sab : Same Ha Hb := s2.trans sb'
    have sb : Same H Hb := sa.trans sab
    have e1b := sab _ _ e1
    dsimp only [gName]
    -- numbers
    refine ⟨_, rfl, _, rfl, _, _, _, _, rfl, rfl, SqL.of e2, atI_nat (j := 0) rfl, _, rfl, _, _, _, _, rfl, rfl, SqL.of e2, atI_nat (j := 1) rfl, (by show 2 ≤ sizeLine; decide), fun p3 n3 => ?_⟩
    have e2c := same_new n3 (o := .lst [.int t0, .int t1]) _ _ e2
    refine ⟨_, rfl, _, _, _, _, rfl, rfl, SqL.of e2c, atI_nat (j := 1) rfl, _, rfl, _, _, _, _, rfl, rfl, SqL.of e2c, atI_nat (j := 1) rfl, (by show 2 ≤ sizeLine; decide), fun p4 n4 => ?_⟩
    refine ⟨(by show 2 ≤ sizeLine; decide), fun p5 n5 => ?_⟩
    have e3 := same_new n5 (o := .lst [.ref p3, .ref p4]) _ _ (same_new n4 (o := .lst [.int t1, .int t1]) _ _ (upd_same (H := Hb) (a := p3) (o := .lst [.int t0, .int t1])))
    have e4 := same_new n5 (o := .lst [.ref p3, .ref p4]) _ _ (upd_same (H := upd Hb p3 (.lst [.int t0, .int t1])) (a := p4) (o := .lst [.int t1, .int t1]))
    have sc := ((same_new n3 (o := .lst [.int t0, .int t1])).trans (same_new n4 (o := .lst [.int t1, .int t1]))).trans (same_new n5 (o := .lst [.ref p3, .ref p4]))
    have hS5 := (sb.trans sc).seq hS
    have e1c := sc _ _ e1b
    refine ⟨_, rfl, _, _, 1, rfl, hS5, _, rfl, rfl, ?_⟩
    refine ix_any (fun v => ∃ p x y, v = .ref p ∧ upd (upd (upd Hb p3 (.lst [.int t0, .int t1])) p4 (.lst [.int t1, .int t1])) p5 (.lst [.ref p3, .ref p4]) p = some (.lst [.int x, .int y])) SqL.here (Int.emod_nonneg _ (by decide)) (Int.emod_lt_of_pos _ (by decide)) (allc ⟨_, _, _, rfl, e3⟩ (all1 ⟨_, _, _, rfl, e4⟩)) fun v hv => ?_
    obtain ⟨p, x3, y3, rfl, ep⟩ := hv
    generalize upd _ p5 _ = Hc at sc e1c ep hS5 ⊢
    refine ⟨_, _, _, _, rfl, rfl, e1c, ep, (by show 4 ≤ sizeLine; decide), fun p6 n6 => ?_⟩
    have sbc : Same H Hc := sb.trans sc
    dsimp only [gName]
    -- the loop
    refine ⟨_, rfl, _, _, 2, rfl, Same.seq (same_new n6) hS5, _, rfl, rfl, ?_⟩
    have w0 := Int.emod_nonneg (ns.getD 2 0) (show (3 : Int) ≠ 0 by decide)
    have w1 := Int.emod_lt_of_pos (ns.getD 2 0) (show (0 : Int) < 3 by decide)
    refine ⟨ns.getD 2 0 % 3, rfl, by omega, by omega, for_range (lo := 0) (n := (ns.getD 2 0 % 3).toNat) (fun i σ H' => Same Hc H' ∧ ∃ (xs : List Int) (u v : Option V), xs.length = 4 ∧ H' p6 = some (.lst (xs.map V.int)) ∧ σ = [some (.ref l), some (.ref p1), some (.ref p2), some (.ref p6), u, v, none, none])
      ⟨same_new n6, [c0, c1, x3, y3], none, none, rfl, upd_same, rfl⟩ ?_ ?_⟩
    · rintro i σ H' hi ⟨s7, xs, u, v, hx, eX, rfl⟩
      have ej : (3 : Int) + (0 + (i : Int)) = ((3 + i : Nat) : Int) := by omega
      refine ⟨_, rfl, _, rfl, _, _, rfl, rfl, l, ns, 3 + i, by dsimp only; rw [ej]; rfl, s7.seq hS5, ?_⟩
      refine ⟨_, rfl, _, rfl, fun r H8 s8 => ?_⟩
      refine ⟨_, rfl, _, rfl, _, _, rfl, fun m m0 m1 => ?_⟩
      obtain ⟨j, hj⟩ := Int.eq_ofNat_of_zero_le (Int.emod_nonneg m (show (4 : Int) ≠ 0 by decide))
      have j4 : j < 4 := by
        have := Int.emod_lt_of_pos m (show (0 : Int) < 4 by decide)
        omega
      refine ⟨_, rfl, rfl, p6, _, m % 4, j, rfl, rfl, s8 _ _ eX, by rw [hj, List.length_map, hx]; exact place_nat j4, ?_⟩
      exact ⟨Same.mut (s7.trans s8) n6, xs.set j r, _, _, by rw [List.length_set]; exact hx, upd_same.trans (by rw [List.map_set]), rfl⟩
    rintro σ H7 ⟨s7, xs, u, v, hx, eX, rfl⟩
    obtain ⟨y0, y1, y2, y3', rfl⟩ : ∃ y0 y1 y2 y3, xs = [y0, y1, y2, y3] := by
      match xs, hx with
      | [y0, y1, y2, y3], _ => exact ⟨y0, y1, y2, y3, rfl⟩
    refine ⟨_, rfl, _, _, 5, rfl, s7.seq hS5, _, rfl, fun z H8 zl za s8 => ?_⟩
    have e8 := s8 _ _ eX
    refine ⟨_, rfl, _, rfl, _, _, _, _, rfl, rfl, SqL.of e8, atI_nat (j := 0) rfl, _, rfl, _, _, _, _, rfl, rfl, SqL.of e8, atI_nat (j := 1) rfl, _, rfl, _, _, _, _, rfl, rfl, SqL.of e8, atI_nat (j := 2) rfl, _, rfl, _, _, _, _, rfl, rfl, SqL.of e8, atI_nat (j := 3) rfl, (by show 5 ≤ sizeLine; decide), fun t nt => ?_⟩
    have hP9 : GxR.TabG _ a.P_tab := tab_same (((sbc.trans s7).trans s8).trans (same_new nt (o := .tup (letV (.str (mkS z)) y0 y1 y2 y3')))) hP
    refine ⟨_, rfl, t, z, y0, y1, y2, y3', rfl, upd_same, zl, za, hP9, fun H10 s10 => ?_⟩
    refine ⟨_, rfl, t, z, y0, y1, y2, y3', rfl, s10.tup hP9 upd_same, zl, za, fun H11 s11 => ?_⟩
    exact ⟨rfl, bl_true (decide_eq_true rfl) (k _)⟩
end
end Ts.k02
end
namespace Ts.k02
open PySem PySem.Spec PyProof.Rows L2 Ts
/-! ### the end -/
theorem fl_mk {K : PySem.W.Frag} {h : Heap} {mg : Str → Option Value} {x : Str} {st : Stmt} {ps : List Str} {f : Addr} {oc kV doc pm cdv ct : Value} {od an : Option Addr} {osl : Array (Option Value)} (X : K.In h) (G : h.Ns mainGlobals mg)
    (n : PySem.W.nsIn K mainGlobals x = some (some (.ref f))) (l : K.lookup f = some ⟨oc, od, .func (PySem.W.fnOf x x (defArgs st) (defBody st) (defScope st) .none kV doc pm an cdv ct), osl⟩) (c : PySem.W.codeIn K cdv x = true) (k : PySem.W.keepIn K (.ref f) = true)
    (b : ∀ us : List Value, us.length = ps.length → bindArgs (PySem.W.fnOf x x (defArgs st) (defBody st) (defScope st) .none kV doc pm an cdv ct) ⟨us, []⟩ = pure (ps.zip us)) :
    Dfn K mg x st ps f (PySem.W.fnOf x x (defArgs st) (defBody st) (defScope st) .none kV doc pm an cdv ct) :=
  ⟨fun_mk l c k, PySem.W.mg_of X G n, .all b⟩
theorem all_mk {l : PySem.W.OpenLaw} {w : World} {K : PySem.W.Frag} {h : Heap} {mg : Str → Option Value} {fa f_checked f_is_name f_in_order f_cell_at f_mix f_big f_kind f_word f_other f_name f_due f_told f_law c_StretchError c_BadName c_BadLetter c_BadOff c_TooEarly c_BadCount c_NoAgreement c_TooWide c_TooMany c_NoClock c_NoText k_tab P_tab : Addr} (X : K.In h) (G : h.Ns mainGlobals mg) (hfa : mg "law" = some (.ref fa)) (tabs : TabOf K mg h "is_name") {j_e : Value} {j_d : Option Addr} {j_vs : Array Value} {j_sl : Array (Option Value)}
    {od_checked an_checked od_is_name an_is_name od_in_order an_in_order od_cell_at an_cell_at od_mix an_mix od_big an_big od_kind an_kind od_word an_word od_other an_other od_name an_name od_due an_due od_told an_told od_law an_law : Option Addr} {sl_checked sl_is_name sl_in_order sl_cell_at sl_mix sl_big sl_kind sl_word sl_other sl_name sl_due sl_told sl_law : Array (Option Value)} {oc_checked kV_checked dc_checked pm_checked cd_checked ct_checked oc_is_name kV_is_name dc_is_name pm_is_name cd_is_name ct_is_name oc_in_order kV_in_order dc_in_order pm_in_order cd_in_order ct_in_order oc_cell_at kV_cell_at dc_cell_at pm_cell_at cd_cell_at ct_cell_at oc_mix kV_mix dc_mix pm_mix cd_mix ct_mix oc_big kV_big dc_big pm_big cd_big ct_big oc_kind kV_kind dc_kind pm_kind cd_kind ct_kind oc_word kV_word dc_word pm_word cd_word ct_word oc_other kV_other dc_other pm_other cd_other ct_other oc_name kV_name dc_name pm_name cd_name ct_name oc_due kV_due dc_due pm_due cd_due ct_due oc_told kV_told dc_told pm_told cd_told ct_told oc_law kV_law dc_law pm_law cd_law ct_law : Value}
    {t_LONGEST_NAME t_GREATEST_NUMBER : Tok}
    (a_checked : PySem.W.nsIn K mainGlobals "checked" = some (some (.ref f_checked))) (l_checked : K.lookup f_checked = some ⟨oc_checked, od_checked, .func (PySem.W.fnOf "checked" "checked" (defArgs s_checked) (defBody s_checked) (defScope s_checked) .none kV_checked dc_checked pm_checked an_checked cd_checked ct_checked), sl_checked⟩) (k_checked : PySem.W.codeIn K cd_checked "checked" = true) (e_checked : PySem.W.keepIn K (.ref f_checked) = true)
    (a_is_name : PySem.W.nsIn K mainGlobals "is_name" = some (some (.ref f_is_name))) (l_is_name : K.lookup f_is_name = some ⟨oc_is_name, od_is_name, .func (PySem.W.fnOf "is_name" "is_name" (defArgs s_is_name) (defBody s_is_name) (defScope s_is_name) .none kV_is_name dc_is_name pm_is_name an_is_name cd_is_name ct_is_name), sl_is_name⟩) (k_is_name : PySem.W.codeIn K cd_is_name "is_name" = true) (e_is_name : PySem.W.keepIn K (.ref f_is_name) = true)
    (a_in_order : PySem.W.nsIn K mainGlobals "in_order" = some (some (.ref f_in_order))) (l_in_order : K.lookup f_in_order = some ⟨oc_in_order, od_in_order, .func (PySem.W.fnOf "in_order" "in_order" (defArgs s_in_order) (defBody s_in_order) (defScope s_in_order) .none kV_in_order dc_in_order pm_in_order an_in_order cd_in_order ct_in_order), sl_in_order⟩) (k_in_order : PySem.W.codeIn K cd_in_order "in_order" = true) (e_in_order : PySem.W.keepIn K (.ref f_in_order) = true)
    (a_cell_at : PySem.W.nsIn K mainGlobals "_law_cell_at" = some (some (.ref f_cell_at))) (l_cell_at : K.lookup f_cell_at = some ⟨oc_cell_at, od_cell_at, .func (PySem.W.fnOf "_law_cell_at" "_law_cell_at" (defArgs s_cell_at) (defBody s_cell_at) (defScope s_cell_at) .none kV_cell_at dc_cell_at pm_cell_at an_cell_at cd_cell_at ct_cell_at), sl_cell_at⟩) (k_cell_at : PySem.W.codeIn K cd_cell_at "_law_cell_at" = true) (e_cell_at : PySem.W.keepIn K (.ref f_cell_at) = true)
    (a_mix : PySem.W.nsIn K mainGlobals "_law_mix" = some (some (.ref f_mix))) (l_mix : K.lookup f_mix = some ⟨oc_mix, od_mix, .func (PySem.W.fnOf "_law_mix" "_law_mix" (defArgs s_mix) (defBody s_mix) (defScope s_mix) .none kV_mix dc_mix pm_mix an_mix cd_mix ct_mix), sl_mix⟩) (k_mix : PySem.W.codeIn K cd_mix "_law_mix" = true) (e_mix : PySem.W.keepIn K (.ref f_mix) = true)
    (a_big : PySem.W.nsIn K mainGlobals "_law_big" = some (some (.ref f_big))) (l_big : K.lookup f_big = some ⟨oc_big, od_big, .func (PySem.W.fnOf "_law_big" "_law_big" (defArgs s_big) (defBody s_big) (defScope s_big) .none kV_big dc_big pm_big an_big cd_big ct_big), sl_big⟩) (k_big : PySem.W.codeIn K cd_big "_law_big" = true) (e_big : PySem.W.keepIn K (.ref f_big) = true)
    (a_kind : PySem.W.nsIn K mainGlobals "_law_kind" = some (some (.ref f_kind))) (l_kind : K.lookup f_kind = some ⟨oc_kind, od_kind, .func (PySem.W.fnOf "_law_kind" "_law_kind" (defArgs s_kind) (defBody s_kind) (defScope s_kind) .none kV_kind dc_kind pm_kind an_kind cd_kind ct_kind), sl_kind⟩) (k_kind : PySem.W.codeIn K cd_kind "_law_kind" = true) (e_kind : PySem.W.keepIn K (.ref f_kind) = true)
    (a_word : PySem.W.nsIn K mainGlobals "_law_word" = some (some (.ref f_word))) (l_word : K.lookup f_word = some ⟨oc_word, od_word, .func (PySem.W.fnOf "_law_word" "_law_word" (defArgs s_word) (defBody s_word) (defScope s_word) .none kV_word dc_word pm_word an_word cd_word ct_word), sl_word⟩) (k_word : PySem.W.codeIn K cd_word "_law_word" = true) (e_word : PySem.W.keepIn K (.ref f_word) = true)
    (a_other : PySem.W.nsIn K mainGlobals "_law_other" = some (some (.ref f_other))) (l_other : K.lookup f_other = some ⟨oc_other, od_other, .func (PySem.W.fnOf "_law_other" "_law_other" (defArgs s_other) (defBody s_other) (defScope s_other) .none kV_other dc_other pm_other an_other cd_other ct_other), sl_other⟩) (k_other : PySem.W.codeIn K cd_other "_law_other" = true) (e_other : PySem.W.keepIn K (.ref f_other) = true)
    (a_name : PySem.W.nsIn K mainGlobals "_law_name" = some (some (.ref f_name))) (l_name : K.lookup f_name = some ⟨oc_name, od_name, .func (PySem.W.fnOf "_law_name" "_law_name" (defArgs s_name) (defBody s_name) (defScope s_name) .none kV_name dc_name pm_name an_name cd_name ct_name), sl_name⟩) (k_name : PySem.W.codeIn K cd_name "_law_name" = true) (e_name : PySem.W.keepIn K (.ref f_name) = true)
    (a_due : PySem.W.nsIn K mainGlobals "_law_due" = some (some (.ref f_due))) (l_due : K.lookup f_due = some ⟨oc_due, od_due, .func (PySem.W.fnOf "_law_due" "_law_due" (defArgs s_due) (defBody s_due) (defScope s_due) .none kV_due dc_due pm_due an_due cd_due ct_due), sl_due⟩) (k_due : PySem.W.codeIn K cd_due "_law_due" = true) (e_due : PySem.W.keepIn K (.ref f_due) = true)
    (a_told : PySem.W.nsIn K mainGlobals "_law_told" = some (some (.ref f_told))) (l_told : K.lookup f_told = some ⟨oc_told, od_told, .func (PySem.W.fnOf "_law_told" "_law_told" (defArgs s_told) (defBody s_told) (defScope s_told) .none kV_told dc_told pm_told an_told cd_told ct_told), sl_told⟩) (k_told : PySem.W.codeIn K cd_told "_law_told" = true) (e_told : PySem.W.keepIn K (.ref f_told) = true)
    (a_law : PySem.W.nsIn K mainGlobals "law" = some (some (.ref f_law))) (l_law : K.lookup f_law = some ⟨oc_law, od_law, .func (PySem.W.fnOf "law" "law" (defArgs s_law) (defBody s_law) (defScope s_law) .none kV_law dc_law pm_law an_law cd_law ct_law), sl_law⟩) (k_law : PySem.W.codeIn K cd_law "law" = true) (e_law : PySem.W.keepIn K (.ref f_law) = true)
    (n_StretchError : PySem.W.nsIn K mainGlobals "StretchError" = some (some (.ref c_StretchError))) (x_StretchError : PySem.W.excIn K c_StretchError [.type "ValueError", .type "Exception", .type "BaseException", .type "object"] "ValueError.__new__" = true) (h_StretchError : PySem.W.keepIn K (.ref c_StretchError) = true) (s_StretchError : PySem.W.subIn K (.ref c_StretchError) (.type "BaseException") = some true) (t_StretchError : PySem.W.typeIn K (.ref c_StretchError) = some (.type "type"))
    (n_BadName : PySem.W.nsIn K mainGlobals "BadName" = some (some (.ref c_BadName))) (x_BadName : PySem.W.excIn K c_BadName [.type "ValueError", .type "Exception", .type "BaseException", .type "object"] "ValueError.__new__" = true) (h_BadName : PySem.W.keepIn K (.ref c_BadName) = true) (s_BadName : PySem.W.subIn K (.ref c_BadName) (.type "BaseException") = some true) (t_BadName : PySem.W.typeIn K (.ref c_BadName) = some (.type "type"))
    (n_BadLetter : PySem.W.nsIn K mainGlobals "BadLetter" = some (some (.ref c_BadLetter))) (x_BadLetter : PySem.W.excIn K c_BadLetter [.type "ValueError", .type "Exception", .type "BaseException", .type "object"] "ValueError.__new__" = true) (h_BadLetter : PySem.W.keepIn K (.ref c_BadLetter) = true) (s_BadLetter : PySem.W.subIn K (.ref c_BadLetter) (.type "BaseException") = some true) (t_BadLetter : PySem.W.typeIn K (.ref c_BadLetter) = some (.type "type"))
    (n_BadOff : PySem.W.nsIn K mainGlobals "BadOff" = some (some (.ref c_BadOff))) (x_BadOff : PySem.W.excIn K c_BadOff [.type "ValueError", .type "Exception", .type "BaseException", .type "object"] "ValueError.__new__" = true) (h_BadOff : PySem.W.keepIn K (.ref c_BadOff) = true) (s_BadOff : PySem.W.subIn K (.ref c_BadOff) (.type "BaseException") = some true) (t_BadOff : PySem.W.typeIn K (.ref c_BadOff) = some (.type "type"))
    (n_TooEarly : PySem.W.nsIn K mainGlobals "TooEarly" = some (some (.ref c_TooEarly))) (x_TooEarly : PySem.W.excIn K c_TooEarly [.type "ValueError", .type "Exception", .type "BaseException", .type "object"] "ValueError.__new__" = true) (h_TooEarly : PySem.W.keepIn K (.ref c_TooEarly) = true) (s_TooEarly : PySem.W.subIn K (.ref c_TooEarly) (.type "BaseException") = some true) (t_TooEarly : PySem.W.typeIn K (.ref c_TooEarly) = some (.type "type"))
    (n_BadCount : PySem.W.nsIn K mainGlobals "BadCount" = some (some (.ref c_BadCount))) (x_BadCount : PySem.W.excIn K c_BadCount [.type "ValueError", .type "Exception", .type "BaseException", .type "object"] "ValueError.__new__" = true) (h_BadCount : PySem.W.keepIn K (.ref c_BadCount) = true) (s_BadCount : PySem.W.subIn K (.ref c_BadCount) (.type "BaseException") = some true) (t_BadCount : PySem.W.typeIn K (.ref c_BadCount) = some (.type "type"))
    (n_NoAgreement : PySem.W.nsIn K mainGlobals "NoAgreement" = some (some (.ref c_NoAgreement))) (x_NoAgreement : PySem.W.excIn K c_NoAgreement [.type "ValueError", .type "Exception", .type "BaseException", .type "object"] "ValueError.__new__" = true) (h_NoAgreement : PySem.W.keepIn K (.ref c_NoAgreement) = true) (s_NoAgreement : PySem.W.subIn K (.ref c_NoAgreement) (.type "BaseException") = some true) (t_NoAgreement : PySem.W.typeIn K (.ref c_NoAgreement) = some (.type "type"))
    (n_TooWide : PySem.W.nsIn K mainGlobals "TooWide" = some (some (.ref c_TooWide))) (x_TooWide : PySem.W.excIn K c_TooWide [.type "ValueError", .type "Exception", .type "BaseException", .type "object"] "ValueError.__new__" = true) (h_TooWide : PySem.W.keepIn K (.ref c_TooWide) = true) (s_TooWide : PySem.W.subIn K (.ref c_TooWide) (.type "BaseException") = some true) (t_TooWide : PySem.W.typeIn K (.ref c_TooWide) = some (.type "type"))
    (n_TooMany : PySem.W.nsIn K mainGlobals "TooMany" = some (some (.ref c_TooMany))) (x_TooMany : PySem.W.excIn K c_TooMany [.type "ValueError", .type "Exception", .type "BaseException", .type "object"] "ValueError.__new__" = true) (h_TooMany : PySem.W.keepIn K (.ref c_TooMany) = true) (s_TooMany : PySem.W.subIn K (.ref c_TooMany) (.type "BaseException") = some true) (t_TooMany : PySem.W.typeIn K (.ref c_TooMany) = some (.type "type"))
    (n_NoClock : PySem.W.nsIn K mainGlobals "NoClock" = some (some (.ref c_NoClock))) (x_NoClock : PySem.W.excIn K c_NoClock [.type "ValueError", .type "Exception", .type "BaseException", .type "object"] "ValueError.__new__" = true) (h_NoClock : PySem.W.keepIn K (.ref c_NoClock) = true) (s_NoClock : PySem.W.subIn K (.ref c_NoClock) (.type "BaseException") = some true) (t_NoClock : PySem.W.typeIn K (.ref c_NoClock) = some (.type "type"))
    (n_NoText : PySem.W.nsIn K mainGlobals "NoText" = some (some (.ref c_NoText))) (x_NoText : PySem.W.excIn K c_NoText [.type "ValueError", .type "Exception", .type "BaseException", .type "object"] "ValueError.__new__" = true) (h_NoText : PySem.W.keepIn K (.ref c_NoText) = true) (s_NoText : PySem.W.subIn K (.ref c_NoText) (.type "BaseException") = some true) (t_NoText : PySem.W.typeIn K (.ref c_NoText) = some (.type "type"))
    (u_BadName : ExcC K c_BadName) (w_BadName : PySem.W.subIn K (.ref c_BadName) (.ref c_StretchError) = some true) (v_BadName : PySem.W.kitOne K (.ref c_BadName) (.type "ValueError") = some true)
    (q_BadName_0 : PySem.W.kitOne K (.ref c_BadName) (.ref c_BadName) = some true)
    (q_BadName_1 : PySem.W.kitOne K (.ref c_BadName) (.ref c_BadLetter) = some false)
    (q_BadName_2 : PySem.W.kitOne K (.ref c_BadName) (.ref c_BadOff) = some false)
    (q_BadName_3 : PySem.W.kitOne K (.ref c_BadName) (.ref c_TooEarly) = some false)
    (q_BadName_4 : PySem.W.kitOne K (.ref c_BadName) (.ref c_BadCount) = some false)
    (q_BadName_5 : PySem.W.kitOne K (.ref c_BadName) (.ref c_NoAgreement) = some false)
    (q_BadName_6 : PySem.W.kitOne K (.ref c_BadName) (.ref c_TooWide) = some false)
    (q_BadName_7 : PySem.W.kitOne K (.ref c_BadName) (.ref c_TooMany) = some false)
    (q_BadName_8 : PySem.W.kitOne K (.ref c_BadName) (.ref c_NoClock) = some false)
    (q_BadName_9 : PySem.W.kitOne K (.ref c_BadName) (.ref c_NoText) = some false)
    (u_BadLetter : ExcC K c_BadLetter) (w_BadLetter : PySem.W.subIn K (.ref c_BadLetter) (.ref c_StretchError) = some true) (v_BadLetter : PySem.W.kitOne K (.ref c_BadLetter) (.type "ValueError") = some true)
    (q_BadLetter_0 : PySem.W.kitOne K (.ref c_BadLetter) (.ref c_BadName) = some false)
    (q_BadLetter_1 : PySem.W.kitOne K (.ref c_BadLetter) (.ref c_BadLetter) = some true)
    (q_BadLetter_2 : PySem.W.kitOne K (.ref c_BadLetter) (.ref c_BadOff) = some false)
    (q_BadLetter_3 : PySem.W.kitOne K (.ref c_BadLetter) (.ref c_TooEarly) = some false)
    (q_BadLetter_4 : PySem.W.kitOne K (.ref c_BadLetter) (.ref c_BadCount) = some false)
    (q_BadLetter_5 : PySem.W.kitOne K (.ref c_BadLetter) (.ref c_NoAgreement) = some false)
    (q_BadLetter_6 : PySem.W.kitOne K (.ref c_BadLetter) (.ref c_TooWide) = some false)
    (q_BadLetter_7 : PySem.W.kitOne K (.ref c_BadLetter) (.ref c_TooMany) = some false)
    (q_BadLetter_8 : PySem.W.kitOne K (.ref c_BadLetter) (.ref c_NoClock) = some false)
    (q_BadLetter_9 : PySem.W.kitOne K (.ref c_BadLetter) (.ref c_NoText) = some false)
    (d_S : PySem.W.hasDictIn K c_StretchError = true)
    (b_all : PySem.W.nsIn K mainGlobals "all" = some none)
    (b_len : PySem.W.nsIn K mainGlobals "len" = some none)
    (b_isinstance : PySem.W.nsIn K mainGlobals "isinstance" = some none)
    (b_ValueError : PySem.W.nsIn K mainGlobals "ValueError" = some none)
    (b_range : PySem.W.nsIn K mainGlobals "range" = some none)
    (b_tuple : PySem.W.nsIn K mainGlobals "tuple" = some none)
    (b_sorted : PySem.W.nsIn K mainGlobals "sorted" = some none)
    (m_LONGEST_NAME : PySem.W.nsIn K mainGlobals "LONGEST_NAME" = some (some (.int 12 t_LONGEST_NAME)))
    (m_GREATEST_NUMBER : PySem.W.nsIn K mainGlobals "GREATEST_NUMBER" = some (some (.int 1000000000000 t_GREATEST_NUMBER)))
    (j_code : cd_is_name = .ref k_tab) (j_obj : K.lookup k_tab = some ⟨j_e, j_d, .fields j_vs, j_sl⟩) (j_at : j_vs[11]? = some (.ref P_tab)) (j_none : K.lookup P_tab = none)
    : LamX.LawAtS l w K CX0 4 63 "_law_script" mg fa h := by
  have e := hfa.symm.trans (PySem.W.mg_of X G a_law)
  cases e
  cases j_code
  have T : Txt K mg (Ad.mk k_tab P_tab f_checked (PySem.W.fnOf "checked" "checked" (defArgs s_checked) (defBody s_checked) (defScope s_checked) .none kV_checked dc_checked pm_checked an_checked cd_checked ct_checked) f_is_name (PySem.W.fnOf "is_name" "is_name" (defArgs s_is_name) (defBody s_is_name) (defScope s_is_name) .none kV_is_name dc_is_name pm_is_name an_is_name (.ref k_tab) ct_is_name) f_in_order (PySem.W.fnOf "in_order" "in_order" (defArgs s_in_order) (defBody s_in_order) (defScope s_in_order) .none kV_in_order dc_in_order pm_in_order an_in_order cd_in_order ct_in_order) f_cell_at (PySem.W.fnOf "_law_cell_at" "_law_cell_at" (defArgs s_cell_at) (defBody s_cell_at) (defScope s_cell_at) .none kV_cell_at dc_cell_at pm_cell_at an_cell_at cd_cell_at ct_cell_at) f_mix (PySem.W.fnOf "_law_mix" "_law_mix" (defArgs s_mix) (defBody s_mix) (defScope s_mix) .none kV_mix dc_mix pm_mix an_mix cd_mix ct_mix) f_big (PySem.W.fnOf "_law_big" "_law_big" (defArgs s_big) (defBody s_big) (defScope s_big) .none kV_big dc_big pm_big an_big cd_big ct_big) f_kind (PySem.W.fnOf "_law_kind" "_law_kind" (defArgs s_kind) (defBody s_kind) (defScope s_kind) .none kV_kind dc_kind pm_kind an_kind cd_kind ct_kind) f_word (PySem.W.fnOf "_law_word" "_law_word" (defArgs s_word) (defBody s_word) (defScope s_word) .none kV_word dc_word pm_word an_word cd_word ct_word) f_other (PySem.W.fnOf "_law_other" "_law_other" (defArgs s_other) (defBody s_other) (defScope s_other) .none kV_other dc_other pm_other an_other cd_other ct_other) f_name (PySem.W.fnOf "_law_name" "_law_name" (defArgs s_name) (defBody s_name) (defScope s_name) .none kV_name dc_name pm_name an_name cd_name ct_name) f_due (PySem.W.fnOf "_law_due" "_law_due" (defArgs s_due) (defBody s_due) (defScope s_due) .none kV_due dc_due pm_due an_due cd_due ct_due) f_told (PySem.W.fnOf "_law_told" "_law_told" (defArgs s_told) (defBody s_told) (defScope s_told) .none kV_told dc_told pm_told an_told cd_told ct_told) fa (PySem.W.fnOf "law" "law" (defArgs s_law) (defBody s_law) (defScope s_law) .none kV_law dc_law pm_law an_law cd_law ct_law) c_StretchError c_BadName c_BadLetter c_BadOff c_TooEarly c_BadCount c_NoAgreement c_TooWide c_TooMany c_NoClock c_NoText) := {
    checked := fl_mk X G a_checked l_checked k_checked e_checked (fun us hl => match us, hl with | [_], _ => rfl)
    is_name := fl_mk X G a_is_name l_is_name k_is_name e_is_name (fun us hl => match us, hl with | [_], _ => rfl)
    in_order := fl_mk X G a_in_order l_in_order k_in_order e_in_order (fun us hl => match us, hl with | [_, _], _ => rfl)
    cell_at := fl_mk X G a_cell_at l_cell_at k_cell_at e_cell_at (fun us hl => match us, hl with | [_, _], _ => rfl)
    mix := fl_mk X G a_mix l_mix k_mix e_mix (fun us hl => match us, hl with | [_, _], _ => rfl)
    big := fl_mk X G a_big l_big k_big e_big (fun us hl => match us, hl with | [_, _], _ => rfl)
    kind := fl_mk X G a_kind l_kind k_kind e_kind (fun us hl => match us, hl with | [_], _ => rfl)
    word := fl_mk X G a_word l_word k_word e_word (fun us hl => match us, hl with | [_, _], _ => rfl)
    other := fl_mk X G a_other l_other k_other e_other (fun us hl => match us, hl with | [_], _ => rfl)
    name := fl_mk X G a_name l_name k_name e_name (fun us hl => match us, hl with | [_], _ => rfl)
    due := fl_mk X G a_due l_due k_due e_due (fun us hl => match us, hl with | [_], _ => rfl)
    told := fl_mk X G a_told l_told k_told e_told (fun us hl => match us, hl with | [_], _ => rfl)
    law := fl_mk X G a_law l_law k_law e_law (fun us hl => match us, hl with | [_], _ => rfl)
    StretchError := ⟨PySem.W.mg_of X G n_StretchError, x_StretchError, h_StretchError, s_StretchError, t_StretchError⟩
    BadName := ⟨PySem.W.mg_of X G n_BadName, x_BadName, h_BadName, s_BadName, t_BadName⟩
    BadLetter := ⟨PySem.W.mg_of X G n_BadLetter, x_BadLetter, h_BadLetter, s_BadLetter, t_BadLetter⟩
    BadOff := ⟨PySem.W.mg_of X G n_BadOff, x_BadOff, h_BadOff, s_BadOff, t_BadOff⟩
    TooEarly := ⟨PySem.W.mg_of X G n_TooEarly, x_TooEarly, h_TooEarly, s_TooEarly, t_TooEarly⟩
    BadCount := ⟨PySem.W.mg_of X G n_BadCount, x_BadCount, h_BadCount, s_BadCount, t_BadCount⟩
    NoAgreement := ⟨PySem.W.mg_of X G n_NoAgreement, x_NoAgreement, h_NoAgreement, s_NoAgreement, t_NoAgreement⟩
    TooWide := ⟨PySem.W.mg_of X G n_TooWide, x_TooWide, h_TooWide, s_TooWide, t_TooWide⟩
    TooMany := ⟨PySem.W.mg_of X G n_TooMany, x_TooMany, h_TooMany, s_TooMany, t_TooMany⟩
    NoClock := ⟨PySem.W.mg_of X G n_NoClock, x_NoClock, h_NoClock, s_NoClock, t_NoClock⟩
    NoText := ⟨PySem.W.mg_of X G n_NoText, x_NoText, h_NoText, s_NoText, t_NoText⟩
    kd_BadName := kd_mk u_BadName (exm_sub s_StretchError d_S t_StretchError w_BadName) v_BadName q_BadName_0 q_BadName_1 q_BadName_2 q_BadName_3 q_BadName_4 q_BadName_5 q_BadName_6 q_BadName_7 q_BadName_8 q_BadName_9
    kd_BadLetter := kd_mk u_BadLetter (exm_sub s_StretchError d_S t_StretchError w_BadLetter) v_BadLetter q_BadLetter_0 q_BadLetter_1 q_BadLetter_2 q_BadLetter_3 q_BadLetter_4 q_BadLetter_5 q_BadLetter_6 q_BadLetter_7 q_BadLetter_8 q_BadLetter_9
    b_all := PySem.W.mg_none_of X G b_all
    b_len := PySem.W.mg_none_of X G b_len
    b_isinstance := PySem.W.mg_none_of X G b_isinstance
    b_ValueError := PySem.W.mg_none_of X G b_ValueError
    b_range := PySem.W.mg_none_of X G b_range
    b_tuple := PySem.W.mg_none_of X G b_tuple
    b_sorted := PySem.W.mg_none_of X G b_sorted
    c_LONGEST_NAME := ⟨_, PySem.W.mg_of X G m_LONGEST_NAME⟩
    c_GREATEST_NUMBER := ⟨_, PySem.W.mg_of X G m_GREATEST_NUMBER⟩
    h_tab := rfl }
  obtain ⟨e1, e2⟩ := tabs _ _ _ _ _ _ _ _ _ (PySem.W.mg_of X G a_is_name) l_is_name rfl rfl j_obj j_at
  refine ⟨_, [(k_tab, P_tab)], spLawT K P_tab, fun p hp => ?_, fun p hp => ?_, fun p hp => ?_, fun s v => .of_eq rfl, fun H a ns hl _ hH hS => ⟨a, ns, rfl, hS, hl, tab_nil (hH (k_tab, P_tab) (.head _)), fun _ => rfl⟩, fun base _ _ hT => ok_law T (let t := hT (k_tab, P_tab) (.head _); ⟨t.code, t.bm, t.gP⟩)⟩
  · rw [List.mem_singleton] at hp; subst hp; exact e1
  · rw [List.mem_singleton] at hp; subst hp; exact j_none
  · rw [List.mem_singleton] at hp; subst hp; exact e2
theorem walk {l : PySem.W.OpenLaw} {q : Program} {loose : List Str} {XP : (Str → Option Value) → Heap → Prop} {YP : World → Heap → Prop} {d : DefRec} {K : Params → PySem.W.Frag} (hn : l.most = some 63) (hdf : d.params.defaults = [])
    (hrec : ((recsOf q).any fun e => e.name == "is_name") = true) (hY : ∀ (w : World) (h : Heap), YP w h → (K w.params).In h)
    (F : ∀ (w : World) (mg : Str → Option Value) (fa : Addr) (h : Heap), (K w.params).In h → h.Ns mainGlobals mg → mg d.name = some (.ref fa) → TabOf (K w.params) mg h "is_name" → LamX.LawAtS l w (K w.params) CX0 4 63 "_law_script" mg fa h) :
    PySem.W.WalkO q loose XP YP l.row.toRowW d [] (fun f vs => PySem.call f vs) :=
  walk_tab (n := 63) (k := 4) (x := "_law_script") (nm := "is_name") (CX := fun _ => CX0) hn (by decide) hdf ⟨rfl, by decide, by decide⟩ hrec hY F fun _ _ _ _ _ z => z
end Ts.k02
open PySem PySem.W PyProof.Rows
set_option maxRecDepth 100000 in
set_option maxHeartbeats 0 in
theorem PySem.Challenge.cw_timestretch_k02_letters_checked_holds : PySem.Challenge.rw_timestretch_k02_letters_checked.Holds := by
  w_on; o_law; k_head; (case hw => w_witness2)
  k_fill
  refine Ts.k02.walk (l := PySem.Challenge.rw_timestretch_k02_letters_checked) rfl rfl rfl (fun w h Y => PySem.W.kIn_of Y) ?F
  case F =>
    intro w mg fa h KX G hmg tabs
    refine' Ts.k02.all_mk KX G hmg tabs ?a_checked ?l_checked ?k_checked ?e_checked ?a_is_name ?l_is_name ?k_is_name ?e_is_name ?a_in_order ?l_in_order ?k_in_order ?e_in_order ?a_cell_at ?l_cell_at ?k_cell_at ?e_cell_at ?a_mix ?l_mix ?k_mix ?e_mix ?a_big ?l_big ?k_big ?e_big ?a_kind ?l_kind ?k_kind ?e_kind ?a_word ?l_word ?k_word ?e_word ?a_other ?l_other ?k_other ?e_other ?a_name ?l_name ?k_name ?e_name ?a_due ?l_due ?k_due ?e_due ?a_told ?l_told ?k_told ?e_told ?a_law ?l_law ?k_law ?e_law ?n_StretchError ?x_StretchError ?h_StretchError ?s_StretchError ?t_StretchError ?n_BadName ?x_BadName ?h_BadName ?s_BadName ?t_BadName ?n_BadLetter ?x_BadLetter ?h_BadLetter ?s_BadLetter ?t_BadLetter ?n_BadOff ?x_BadOff ?h_BadOff ?s_BadOff ?t_BadOff ?n_TooEarly ?x_TooEarly ?h_TooEarly ?s_TooEarly ?t_TooEarly ?n_BadCount ?x_BadCount ?h_BadCount ?s_BadCount ?t_BadCount ?n_NoAgreement ?x_NoAgreement ?h_NoAgreement ?s_NoAgreement ?t_NoAgreement ?n_TooWide ?x_TooWide ?h_TooWide ?s_TooWide ?t_TooWide ?n_TooMany ?x_TooMany ?h_TooMany ?s_TooMany ?t_TooMany ?n_NoClock ?x_NoClock ?h_NoClock ?s_NoClock ?t_NoClock ?n_NoText ?x_NoText ?h_NoText ?s_NoText ?t_NoText ?u_BadName ?w_BadName ?v_BadName ?q_BadName_0 ?q_BadName_1 ?q_BadName_2 ?q_BadName_3 ?q_BadName_4 ?q_BadName_5 ?q_BadName_6 ?q_BadName_7 ?q_BadName_8 ?q_BadName_9 ?u_BadLetter ?w_BadLetter ?v_BadLetter ?q_BadLetter_0 ?q_BadLetter_1 ?q_BadLetter_2 ?q_BadLetter_3 ?q_BadLetter_4 ?q_BadLetter_5 ?q_BadLetter_6 ?q_BadLetter_7 ?q_BadLetter_8 ?q_BadLetter_9 ?d_S ?b_all ?b_len ?b_isinstance ?b_ValueError ?b_range ?b_tuple ?b_sorted ?m_LONGEST_NAME ?m_GREATEST_NUMBER ?j_code ?j_obj ?j_at ?j_none
    (case a_checked => k_is)
    (case l_checked => k_is)
    (case k_checked => k_is)
    (case e_checked => k_is)
    (case a_is_name => k_is)
    (case l_is_name => k_is)
    (case k_is_name => k_is)
    (case e_is_name => k_is)
    (case a_in_order => k_is)
    (case l_in_order => k_is)
    (case k_in_order => k_is)
    (case e_in_order => k_is)
    (case a_cell_at => k_is)
    (case l_cell_at => k_is)
    (case k_cell_at => k_is)
    (case e_cell_at => k_is)
    (case a_mix => k_is)
    (case l_mix => k_is)
    (case k_mix => k_is)
    (case e_mix => k_is)
    (case a_big => k_is)
    (case l_big => k_is)
    (case k_big => k_is)
    (case e_big => k_is)
    (case a_kind => k_is)
    (case l_kind => k_is)
    (case k_kind => k_is)
    (case e_kind => k_is)
    (case a_word => k_is)
    (case l_word => k_is)
    (case k_word => k_is)
    (case e_word => k_is)
    (case a_other => k_is)
    (case l_other => k_is)
    (case k_other => k_is)
    (case e_other => k_is)
    (case a_name => k_is)
    (case l_name => k_is)
    (case k_name => k_is)
    (case e_name => k_is)
    (case a_due => k_is)
    (case l_due => k_is)
    (case k_due => k_is)
    (case e_due => k_is)
    (case a_told => k_is)
    (case l_told => k_is)
    (case k_told => k_is)
    (case e_told => k_is)
    (case a_law => k_is)
    (case l_law => k_is)
    (case k_law => k_is)
    (case e_law => k_is)
    (case n_StretchError => k_is)
    (case x_StretchError => k_exc)
    (case h_StretchError => k_is)
    (case s_StretchError => k_is)
    (case t_StretchError => k_is)
    (case n_BadName => k_is)
    (case x_BadName => k_exc)
    (case h_BadName => k_is)
    (case s_BadName => k_is)
    (case t_BadName => k_is)
    (case n_BadLetter => k_is)
    (case x_BadLetter => k_exc)
    (case h_BadLetter => k_is)
    (case s_BadLetter => k_is)
    (case t_BadLetter => k_is)
    (case n_BadOff => k_is)
    (case x_BadOff => k_exc)
    (case h_BadOff => k_is)
    (case s_BadOff => k_is)
    (case t_BadOff => k_is)
    (case n_TooEarly => k_is)
    (case x_TooEarly => k_exc)
    (case h_TooEarly => k_is)
    (case s_TooEarly => k_is)
    (case t_TooEarly => k_is)
    (case n_BadCount => k_is)
    (case x_BadCount => k_exc)
    (case h_BadCount => k_is)
    (case s_BadCount => k_is)
    (case t_BadCount => k_is)
    (case n_NoAgreement => k_is)
    (case x_NoAgreement => k_exc)
    (case h_NoAgreement => k_is)
    (case s_NoAgreement => k_is)
    (case t_NoAgreement => k_is)
    (case n_TooWide => k_is)
    (case x_TooWide => k_exc)
    (case h_TooWide => k_is)
    (case s_TooWide => k_is)
    (case t_TooWide => k_is)
    (case n_TooMany => k_is)
    (case x_TooMany => k_exc)
    (case h_TooMany => k_is)
    (case s_TooMany => k_is)
    (case t_TooMany => k_is)
    (case n_NoClock => k_is)
    (case x_NoClock => k_exc)
    (case h_NoClock => k_is)
    (case s_NoClock => k_is)
    (case t_NoClock => k_is)
    (case n_NoText => k_is)
    (case x_NoText => k_exc)
    (case h_NoText => k_is)
    (case s_NoText => k_is)
    (case t_NoText => k_is)
    (case u_BadName => constructor <;> k_is)
    (case w_BadName => k_is)
    (case v_BadName => kit_is)
    (case q_BadName_0 => kit_is)
    (case q_BadName_1 => kit_is)
    (case q_BadName_2 => kit_is)
    (case q_BadName_3 => kit_is)
    (case q_BadName_4 => kit_is)
    (case q_BadName_5 => kit_is)
    (case q_BadName_6 => kit_is)
    (case q_BadName_7 => kit_is)
    (case q_BadName_8 => kit_is)
    (case q_BadName_9 => kit_is)
    (case u_BadLetter => constructor <;> k_is)
    (case w_BadLetter => k_is)
    (case v_BadLetter => kit_is)
    (case q_BadLetter_0 => kit_is)
    (case q_BadLetter_1 => kit_is)
    (case q_BadLetter_2 => kit_is)
    (case q_BadLetter_3 => kit_is)
    (case q_BadLetter_4 => kit_is)
    (case q_BadLetter_5 => kit_is)
    (case q_BadLetter_6 => kit_is)
    (case q_BadLetter_7 => kit_is)
    (case q_BadLetter_8 => kit_is)
    (case q_BadLetter_9 => kit_is)
    (case d_S => k_is)
    (case b_all => k_is)
    (case b_len => k_is)
    (case b_isinstance => k_is)
    (case b_ValueError => k_is)
    (case b_range => k_is)
    (case b_tuple => k_is)
    (case b_sorted => k_is)
    (case m_LONGEST_NAME => k_is)
    (case m_GREATEST_NUMBER => k_is)
    (case j_code => rfl)
    (case j_obj => k_is)
    (case j_at => rfl)
    (case j_none => kernel_rfl)
