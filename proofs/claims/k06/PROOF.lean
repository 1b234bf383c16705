import PyProof.Rows.All
import Wide.All
import OpenK.AllK
import Wide.FinOn
import PyProof.EqAt
import PyProof.EqKinds
import PyProof.TupleCall
import HandS.ForMost
import HandS.ForExc
import HandS.HotCalls
import HandS.ExcIs
import HandS.IsInst
import HandS.NoneIn
import HandS.More
import HandS.SortInts
import HandS.ListItems
import PySem.Challenge.RW_timestretch_k06_who_bears_a_time
set_option Elab.async false
set_option linter.all false
set_option maxRecDepth 100000
set_option maxHeartbeats 4000000
section
/-! A caught error handed to a def: the def's promise speaks of the error's own class. -/
namespace Ts
open PySem PySem.Spec PyProof.Rows L2
abbrev St := L2.St

/-- a promise about a caught error: its place, its class -/
abbrev SpE := Addr → Value → Sp

/-- the def at f, called within an except suite that holds the error -/
structure FnE (P : Program) (w : World) (K : PySem.W.Frag) (mg : Str → Option Value) (base : Heap) (k : Nat)
    (f : Addr) (fd : FuncData) (ps : List Str) (sp : SpE) : Prop where
  len : ∀ a c vs H Q E, sp a c vs H Q E → vs.length = ps.length
  run : ∀ (A : Around) (outer : List Env) (s : Shared) (H : Hp) (args : Args) (us : List Value) (vs : List V) (Q : VK) (E : XK)
    (p : Addr × Obj) (c : Value),
    L2H.RoomH k A → L2H.PinOk outer H s p → Zc c none p.2 → (∃ v, p.2.data = .fields v) →
    Env0 P w K mg base A outer s H → BindsTo s fd args (ps.zip us) → Vals vs us → sp p.1 c vs H Q E →
    codeAny (model P w) A (.call (.ref f) args) (CR CX0 outer P w H s Q E) s

theorem fnE_of {P : Program} {w : World} {K : PySem.W.Frag} {mg : Str → Option Value} {base : Heap} {k : Nat}
    {x qual : Str} {st : Stmt} {f : Addr} {fd : FuncData} {N ps : List Str} {sp : SpE}
    (F : Fun K x qual st f fd) (S : FnScope N ps (defScope st))
    (len : ∀ a c vs H Q E, sp a c vs H Q E → vs.length = ps.length)
    (body : ∀ (cdv : Value) (A : Around) (outer : List Env) (s : Shared) (H : Hp) (vs : List V) (Q : VK) (E : XK)
      (p : Addr × Obj) (c : Value), Zc c none p.2 → (∃ v, p.2.data = .fields v) →
      L2H.RoomH k (A.deeper (envOfC qual (defScope st) s.heap.objs.size f cdv)) → sp p.1 c vs H Q E →
      ∃ t, PSs (L2H.cxH CX0 P w K mg base N qual (defScope st) f cdv A outer s H E p) (defBody st) t ∧
        t { nx := fun _ H' => Q .non H', rt := Q } (start N vs) H) :
    FnE P w K mg base (k + 1) f fd ps sp := by
  obtain ⟨oc, od, kV, doc, pm, an, cdv, ct, osl, hfd, lk, hcd⟩ := F.ex
  subst hfd
  constructor
  · exact len
  intro A outer s H args us vs Q E p c hr hpin hz hf e0 hb r hsp
  have hl := len _ _ _ _ _ _ hsp
  have old : ∀ b o, base.get? b = some o → s.heap.get? b = some o := fun b o e => (e0.bs b o e).1
  have lim := e0.mod.nolimit.keeps old
  have kinds : ∀ y ∈ ps.zip us, (defScope st).names.lookup y.1 = some .local ∨
      ((defScope st).names.lookup y.1 = some .cell ∧
        ((cellsFrom (s.heap.objs.size + 1) (defScope st).names []).lookup y.1).isSome = true) := by
    rintro ⟨n, v⟩ hy
    cases S.par n (List.of_mem_zip hy).1 with
    | inl q => exact .inl q
    | inr q => exact .inr ⟨q, PySem.W.cellsFrom_some _ _ _ (.inl q)⟩
  refine codeAny_call_function hr.depth ((e0.mod.kin.keeps old) _ _ lk) rfl S.co S.gen rfl
    (PySem.W.codeRec_of (e0.mod.kin.keeps old) hcd) (hb _ _ _ _ ?_)
  refine wpAny_newFunctionEnv_cells S.kind kinds ?_
  intro env he s1 x1
  subst he
  refine ⟨lim.keeps x1.toInCall.keep, codeAny_func ?_⟩
  obtain ⟨t, ht, hq⟩ := body cdv A outer s H vs Q E p c hz hf (hr.deeper _) hsp
  have I := L2H.inv_startH (CX := CX0) (E := E) S hpin e0 hl r x1
  have goal := ht.run [] s1 (start N vs) H _ I hq
  refine wpAny_mono goal ?_ (fun _ _ z => z)
  intro fl s' hs
  have fin : ∀ {σ' : St} {H' : Hp} {v : V} {u : Value},
      Inv (L2H.cxH CX0 P w K mg base N qual (defScope st) f cdv A outer s H E p) [] σ' H' s' → RelV v u → Q v H' →
      CE outer P w H s Q u s' :=
    fun {_ H' v _} J rv q => ⟨v, H', J.os, J.bare, J.base, J.hok, rv, q⟩
  cases fl with
  | ret u => exact match hs with | ⟨_, _, _, J, rv, q⟩ => fin J rv q
  | next => exact match hs with | ⟨_, _, J, q⟩ => fin (v := V.non) (u := Value.none) J rfl q
  | brk => exact match hs with | ⟨_, _, _, q⟩ => q.elim
  | cont => exact match hs with | ⟨_, _, _, q⟩ => q.elim

/-- g(e, ..) in a suite that holds the error p -/
def tCallE (sp : SpE) (a : Addr) (c : Value) (d : Option Addr) (t : TA) : TE := fun σ H Q => t σ H fun vs H1 => d = none ∧ sp a c vs H1 Q E0
theorem pe_callE {X : Cx} {k : Nat} {f : Addr} {fd : FuncData} {ps : List Str} {sp : SpE} {x : Str} {q pos : Pos} {e : Expr} {es : List Expr} {t : TA} {p : Addr × Obj} {c : Value} {d : Option Addr}
    (F : FnE X.prog X.w X.K X.mg X.base k f fd ps sp) (hr : L2H.RoomH k X.A) (hp : p ∈ X.pn) (hz : Zc c d p.2) (hf : ∃ v, p.2.data = .fields v)
    (hm : X.mg x = some (.ref f)) (hk : PySem.W.keepIn X.K (.ref f) = true) (hb : Binds X.K fd ps [])
    (ha : PA X (e :: es) t) (hg : Gl X x := by rfl) (hdb : (x == ("__debug__" : Str)) = false := by decide)
    (he : starEach (e :: es) X.env = (false, eval e X.env) :: starEach es X.env := by rfl) (hpl : (backTo pos (starEach es X.env)).any (·.1) = false := by rfl) :
    PE X (.Call (.Name x q) (e :: es) [] pos) (tCallE sp p.1 c d t) := by
  constructor
  intro pins s σ H Q I h
  refine wpAny_Call_Name_kw (ld_glob I hg hm ?_ hdb)
  refine PySem.W.callWith_K (h₀ := X.base) I.ok.mod.kin hk (thn (ha.run pos pins s σ H _ I h) ?_) he hpl
  rintro us s1 ⟨vs, H1, I1, r, hd, w1⟩
  subst hd
  refine ⟨I1.kIn, ?_⟩
  have n1 : us.length = ps.length := by rw [← r.length]; exact F.len _ _ _ _ _ _ w1
  have b := hb s1 us I1.kIn (by rw [List.append_nil]; exact n1)
  rw [List.append_nil] at b
  have P1 := I1.pin p (List.mem_append_left _ hp)
  have ns : p.1 ∉ frs X.stack := fun hm => by
    cases List.mem_cons.mp (I1.stkSub p.1 hm) with
    | inl z => exact P1.2.2.1 z
    | inr z => exact P1.2.2.2.1 z
  refine wpAny_call (codeAny_mono (F.run X.A X.stack s1 H1 ⟨us, []⟩ us vs Q E0 p c hr ⟨P1.1, P1.2.1, ns, P1.2.2.2.2⟩ hz hf I1.env0 b r w1) ?_)
  intro r' s' hq
  cases r' with
  | error e => exact hq.elim
  | ok fl => cases fl with
    | ret u => exact I1.after hq
    | next => exact hq.elim
    | brk => exact hq.elim
    | cont => exact hq.elim

theorem rm_suite {j k : Nat} {A : Around} {v : Option Value} (hr : Room k A) (h : j ≤ k) : L2H.RoomH j (A.mark v) := L2H.RoomH.mono (k := k) ⟨hr.dp, hr.un⟩ h
/-- isinstance(e, c), e the error that X holds -/
theorem call_isP {X : Cx} {D : Addr} {p : Addr × Obj} (C : ExcC X.K D) (hp : p ∈ X.pn) (hz : Zc (.ref D) none p.2) (hf : ∃ v, p.2.data = .fields v) :
    CallR X (.builtin "isinstance") (rIsE X.K D p.1) := by
  rintro pins s σ H xs us Q I r ⟨c, cv, b, rfl, hcv, e, q⟩
  obtain ⟨a, oe⟩ := p
  match r with
  | .cons rx (.cons rt .nil) =>
    cases rx
    have ec := hcv _ rt
    subst ec
    have hget := (I.pin (a, oe) (List.mem_append_left _ hp)).1
    have J : PySem.W.InstAt s.heap a oe D none := by
      obtain ⟨v, hv⟩ := hf
      obtain ⟨h1, h2⟩ := hz
      obtain ⟨oc, od, oda, osl⟩ := oe
      dsimp only at hv h1 h2
      subst hv h1 h2
      exact ⟨hget, rfl, rfl, trivial⟩
    refine PySem.W.kia_one (PySem.W.handS_kitx_exc C.hg C.hk C.hs C.hd C.ha C.hn C.ht C.hm) I.kIn J e (fun z => nomatch z) ?_
    intro tk
    exact ⟨.bl b, H, I.kept (t' := tk) fun _ _ z => z, rfl, q⟩

/-- xs.count(y), flat items -/
def rCount (K : PySem.W.Frag) : V → List V → Hp → VK → Prop := fun x xs H Q => ∃ (a : Addr) (ys : List V) (y : V), x = .ref a ∧ xs = [y] ∧ SqL K H a ys ∧ flatV y = true ∧ ys.all flatV = true ∧ Q (.int ((ys.countP fun z => eqV z y : Nat) : Int)) H
theorem count_eqU {x : V} : ∀ {xs : List V} {us : List Value}, Vals xs us → xs.all flatV = true → us.countP (eqU x) = xs.countP fun y => eqV y x
  | _, _, .nil, _ => rfl
  | y :: xs, u :: us, .cons r t, f => by
    rw [List.all_cons, Bool.and_eq_true] at f
    rw [List.countP_cons, List.countP_cons, eqU_of r f.1, count_eqU t f.2]
theorem mt_count {X : Cx} : MtR X "list.count" (rCount X.K) := by
  rintro pins s σ H x xs v us Q I rx rxs ⟨a, ys, y, rfl, rfl, hs, fy, fys, q⟩
  cases rx
  match rxs with
  | .cons (b := uy) ry .nil =>
    obtain ⟨its, rv, ⟨⟨cls, dd, data, sl⟩, n, ho, hc, hdn, hd⟩, hlen⟩ := I.list hs
    simp only at hc hd
    subst hc hd
    refine call_meets PySem.F.slot_list_count ⟨_, ho, rfl⟩ PySem.F.entry_list_count (PySem.F.args_list_count_2 _ _) (SeqAt.list_countAt a its.toArray n dd sl uy (eqU y)) ⟨ho, ?_, ?_⟩
    · exact fun u hu => mem_eqAt ry fy rv fys u (by simpa using hu)
    · refine ⟨.int ((ys.countP fun z => eqV z y : Nat) : Int), H, I.tok _, ⟨s.toks, ?_⟩, q⟩
      rw [← count_eqU rv fys]
end Ts
end
section
namespace Ts
open PySem PySem.Spec PyProof.Rows L2

theorem pe_imp {X : Cx} {e : Expr} {t t' : TE} (h : PE X e t) (q : ∀ σ H Q, t' σ H Q → t σ H Q) : PE X e t' :=
  ⟨fun pins s σ H Q I w => h.run pins s σ H Q I (q σ H Q w)⟩
theorem opr_imp {X : Cx} {f : Value → Value → Sem Value} {r r' : R2} (h : OpR X f r) (q : ∀ x y H Q, r' x y H Q → r x y H Q) : OpR X f r' :=
  fun pins s σ H x y v u Q I rx ry w => h pins s σ H x y v u Q I rx ry (q x y H Q w)
theorem ixr_imp {X : Cx} {r r' : R2} (h : IxR X r) (q : ∀ x y H Q, r' x y H Q → r x y H Q) : IxR X r' :=
  fun value slice pins s σ H x y v u Q I rx ry w => h value slice pins s σ H x y v u Q I rx ry (q x y H Q w)

/-- an operation by a written number -/
def rByC (c : Int) (g : Int → V) : R2 := fun x y H Q => ∃ i, x = .int i ∧ y = .int c ∧ Q (g i) H
section
variable {X : Cx} {c : Int}
theorem op_modc (hc : (0 : Int) < c) : OpR X (binaryOp .Mod) (rByC c fun i => .int (i % c)) :=
  opr_imp op_mod fun _ _ _ _ h => match h with | ⟨i, e1, e2, q⟩ => ⟨i, c, e1, e2, hc, q⟩
theorem op_divc (hc : (0 : Int) < c) (h2 : c < 1073741824) : OpR X (binaryOp .FloorDiv) (rByC c fun i => .int (i / c)) :=
  opr_imp op_fdiv fun _ _ _ _ h => match h with | ⟨i, e1, e2, q⟩ => ⟨i, c, e1, e2, ⟨hc, h2⟩, q⟩
theorem op_mulc (hc : -(2 ^ 64) < c ∧ c < 2 ^ 64) : OpR X (binaryOp .Mult) (rByC c fun i => .int (i * c)) :=
  opr_imp op_mul fun _ _ _ _ h => match h with | ⟨i, e1, e2, q⟩ => ⟨i, c, e1, e2, Or.inr hc, q⟩
end
/-- c * e with a written number c -/
def rOfC (c : Int) (g : Int → V) : R2 := fun x y H Q => ∃ i, x = .int c ∧ y = .int i ∧ Q (g i) H
theorem op_cmul {X : Cx} {c : Int} (hc : -(2 ^ 64) < c ∧ c < 2 ^ 64) : OpR X (binaryOp .Mult) (rOfC c fun i => .int (c * i)) :=
  opr_imp op_mul fun _ _ _ _ h => match h with | ⟨i, e1, e2, q⟩ => ⟨c, i, e1, e2, Or.inl hc, q⟩
theorem pe_negc {X : Cx} {c : Int} {k : Nat} {p pos : Pos} : PE X (.UnaryOp .USub (.Constant (.int c) k p) pos) (tC (.int (-c))) :=
  pe_imp (pe_un un_neg pe_int) fun _ _ _ h => ⟨c, rfl, h⟩
theorem pe_powc {X : Cx} {n m : Int} {k k' : Nat} {p p' pos : Pos} (h0 : 0 ≤ m ∧ m ≤ 1000000 ∧ n.natAbs < 2 ^ 64) : PE X (.BinOp (.Constant (.int n) k p) .Pow (.Constant (.int m) k' p') pos) (tC (.int (n ^ m.toNat))) :=
  pe_imp (pe_op op_pow pe_int pe_int) fun _ _ _ h => ⟨n, m, rfl, rfl, h0, h⟩
theorem pe_pow12 {X : Cx} {k k' : Nat} {p p' pos : Pos} : PE X (.BinOp (.Constant (.int 10) k p) .Pow (.Constant (.int 12) k' p') pos) (tC (.int 1000000000000)) := pe_powc (by decide)
theorem pe_pow24 {X : Cx} {k k' : Nat} {p p' pos : Pos} : PE X (.BinOp (.Constant (.int 10) k p) .Pow (.Constant (.int 24) k' p') pos) (tC (.int 1000000000000000000000000)) := pe_powc (by decide)
theorem pe_pow40 {X : Cx} {k k' : Nat} {p p' pos : Pos} : PE X (.BinOp (.Constant (.int 10) k p) .Pow (.Constant (.int 40) k' p') pos) (tC (.int 10000000000000000000000000000000000000000)) := pe_powc (by decide)

theorem pe_gint {X : Cx} {x : Str} {c : Int} {t : Tok} {pos : Pos} (hm : X.mg x = some (.int c t)) (hg : Gl X x := by rfl) (hd : (x == ("__debug__" : Str)) = false := by decide) : PE X (.Name x pos) (tC (.int c)) := pe_glob hg hm ⟨_, rfl⟩ hd
theorem pe_gref {X : Cx} {x : Str} {C : Addr} {pos : Pos} (hm : X.mg x = some (.ref C)) (hg : Gl X x := by rfl) (hd : (x == ("__debug__" : Str)) = false := by decide) : PE X (.Name x pos) (tC (.ref C)) := pe_glob hg hm rfl hd
theorem pe_bty {X : Cx} {x : Str} {n : String} {pos : Pos} (hm : X.mg x = none) (hv : bootBuiltins x = some (.type n)) (hg : Gl X x := by rfl) (hn : x ≠ "__name__" := by decide) (hd : (x == ("__debug__" : Str)) = false := by decide) : PE X (.Name x pos) (tC (.ty n)) := pe_bltn hg hm hv rfl hn hd
/-! ### rules whose reading names K itself (under a binder X's own K is no answer) -/
section
variable {X : Cx} (K : PySem.W.Frag)
theorem ixL (h : X.K = K := by rfl) : IxR X (rIxL K) := h ▸ ix_list
theorem ixT (h : X.K = K := by rfl) : IxR X (rIxT K) := h ▸ ix_tup
theorem slL (h : X.K = K := by rfl) : SlR X (rSlL K) := h ▸ sl_list
theorem slT (h : X.K = K := by rfl) : SlR X (rSlT K) := h ▸ sl_tup
def rLenQ (K : PySem.W.Frag) : List V → Hp → VK → Prop := fun xs H Q => ∃ p ys, xs = [.ref p] ∧ (SqL K H p ys ∨ SqT K H p ys) ∧ Q (.int ys.length) H
theorem lenK (h : X.K = K := by rfl) : CallR X (.builtin "len") (rLenQ K) := h ▸ call_len_seq
def rListQ (K : PySem.W.Frag) : List V → Hp → VK → Prop := fun xs H Q => ∃ p ys, xs = [.ref p] ∧ (SqL K H p ys ∨ SqT K H p ys) ∧ ∀ l, H l = none → Q (.ref l) (upd H l (.lst ys))
theorem listK (h : X.K = K := by rfl) : CallR X (.type "list") (rListQ K) := h ▸ call_list_of
theorem isiK (h : X.K = K := by rfl) : CallR X (.builtin "isinstance") (rIsi K) := h ▸ call_isi
theorem eqDK (hu : X.A.units + 64 < cLine) (h : X.K = K := by rfl) : OpR X (compareOp .Eq) (rEqD K) := h ▸ op_eqD hu
theorem neDK (hu : X.A.units + 64 < cLine) (h : X.K = K := by rfl) : OpR X (compareOp .NotEq) (rNeD K) := h ▸ op_neD hu
theorem inK (h : X.K = K := by rfl) : OpR X (compareOp .In) (rIn K false) := h ▸ op_in_seq
theorem niK (h : X.K = K := by rfl) : OpR X (compareOp .NotIn) (rIn K true) := h ▸ op_notIn_seq
theorem piL {tg l : Expr} {tl : TE} (hl : PE X l tl) (h : X.K = K := by rfl) : PI X tg l (iList K tl) := h ▸ pi_list hl
theorem piT {tg l : Expr} {tl : TE} (hl : PE X l tl) (h : X.K = K := by rfl) : PI X tg l (iTup K tl) := h ▸ pi_tup hl
theorem sortK (h : X.K = K := by rfl) : CallR X (.builtin "sorted") (rSorted K) := h ▸ cr_sorted
theorem maxK (hc : X.calm = true) (h : X.K = K := by rfl) : CallR X (.builtin "max") (rMax K) := h ▸ cr_max hc
theorem minK (hc : X.calm = true) (h : X.K = K := by rfl) : CallR X (.builtin "min") (rMin K) := h ▸ cr_min hc
end
/-! ### an item of a list -/
/-- an item at a place that lies in the list -/
theorem at_in {xs : List V} {i : Int} (h0 : 0 ≤ i) (h1 : i < xs.length) : ∃ v, v ∈ xs ∧ xs[i.toNat]? = some v ∧ atI xs i = some v := by
  have hn : i.toNat < xs.length := by omega
  refine ⟨xs[i.toNat], List.getElem_mem hn, List.getElem?_eq_getElem hn, ?_⟩
  exact at_of (j := i.toNat) (by omega) (List.getElem?_eq_getElem hn)
/-- xs[i], i in bounds: any of them -/
theorem ix_any {K : PySem.W.Frag} {H : Hp} {p : Addr} {xs : List V} {i : Int} {Q : VK} (P : V → Prop) (h : SqL K H p xs) (h0 : 0 ≤ i) (h1 : i < xs.length) (hp : ∀ v ∈ xs, P v) (q : ∀ v, P v → Q v H) : rIxL K (.ref p) (.int i) H Q := by
  obtain ⟨v, hm, _, ha⟩ := at_in h0 h1
  exact ⟨p, xs, i, v, rfl, rfl, h, ha, q v (hp v hm)⟩
/-- the same of numbers -/
theorem ix_int {K : PySem.W.Frag} {H : Hp} {p : Addr} {xs : List V} {i : Int} {Q : VK} (P : Int → Prop) (h : SqL K H p xs) (h0 : 0 ≤ i) (h1 : i < xs.length) (hp : ∀ v ∈ xs, ∃ j, v = .int j ∧ P j) (q : ∀ j, P j → Q (.int j) H) : rIxL K (.ref p) (.int i) H Q :=
  ix_any (fun v => ∃ j, v = .int j ∧ P j) h h0 h1 hp fun _ ⟨j, e, pj⟩ => e ▸ q j pj
theorem all1 {P : V → Prop} {a : V} (ha : P a) : ∀ v ∈ [a], P v := fun v hv => by
  rw [List.mem_singleton] at hv
  exact hv ▸ ha
theorem allc {P : V → Prop} {a : V} {l : List V} (ha : P a) (hl : ∀ v ∈ l, P v) : ∀ v ∈ a :: l, P v := fun v hv => by
  rcases List.mem_cons.mp hv with e | e
  · exact e ▸ ha
  · exact hl v e
theorem SqL.here {K : PySem.W.Frag} {H : Hp} {p : Addr} {xs : List V} : SqL K (upd H p (.lst xs)) p xs := SqL.of upd_same
theorem same_new {H : Hp} {p : Addr} {o : HO} (h : H p = none) : Same H (upd H p o) := fun b u e => by rw [upd_ne (ne_of_none e h)]; exact e
theorem Same.seqT {K : PySem.W.Frag} {H H' : Hp} {a : Addr} {xs : List V} (e : Same H H') (h : SqT K H a xs) : SqT K H' a xs := by
  rcases h with (h | ⟨o, h⟩) | h
  · exact .inl (.inl (e _ _ h))
  · exact .inl (.inr ⟨o, e _ _ h⟩)
  · exact .inr h

/-! ### a def of the text by its name -/
structure Dfn (K : PySem.W.Frag) (mg : Str → Option Value) (x : Str) (st : Stmt) (ps : List Str) (f : Addr) (fd : FuncData) : Prop where
  F : Fun K x x st f fd
  g : mg x = some (.ref f)
  b : Binds K fd ps []
section
variable {X : Cx} {k : Nat} {f : Addr} {fd : FuncData} {ps : List Str} {sp : Sp} {st : Stmt} {x : Str} {p pos : Pos} {e : Expr} {es : List Expr} {t : TA}
/-- a call that raises nothing -/
theorem pe_cl (G : FnOk X.prog X.w X.K X.mg X.base CX0 k f fd ps sp) (D : Dfn X.K X.mg x st ps f fd) (hr : Room k X.A) (ha : PA X (e :: es) t) (hg : Gl X x := by rfl) (hdb : (x == ("__debug__" : Str)) = false := by decide)
    (he : starEach (e :: es) X.env = (false, eval e X.env) :: starEach es X.env := by rfl) (hpl : (backTo pos (starEach es X.env)).any (·.1) = false := by rfl) : PE X (.Call (.Name x p) (e :: es) [] pos) (tCall sp [] E0 t) :=
  pe_call G hr hg D.g D.F.kp D.b .nil pass0 ha hdb he hpl
/-- a call of a def that may raise, in a def that may raise: the error goes on -/
theorem pe_clX {E : XK} (G : FnOk X.prog X.w X.K X.mg X.base (L2.CX X.prog X.w) k f fd ps sp) (D : Dfn X.K X.mg x st ps f fd) (hr : Room k X.A) (tk : Takes X (fun cls d _ H => E cls d H)) (ha : PA X (e :: es) t) (hg : Gl X x := by rfl) (hdb : (x == ("__debug__" : Str)) = false := by decide)
    (he : starEach (e :: es) X.env = (false, eval e X.env) :: starEach es X.env := by rfl) (hpl : (backTo pos (starEach es X.env)).any (·.1) = false := by rfl) : PE X (.Call (.Name x p) (e :: es) [] pos) (tCall sp [] E t) :=
  pe_call G hr hg D.g D.F.kp D.b .nil (passes_call tk fun _ _ _ _ h => h) ha hdb he hpl
/-- a call of a def that may raise, where it does not -/
theorem pe_cl0 (G : FnOk X.prog X.w X.K X.mg X.base (L2.CX X.prog X.w) k f fd ps sp) (D : Dfn X.K X.mg x st ps f fd) (hr : Room k X.A) (ha : PA X (e :: es) t) (hg : Gl X x := by rfl) (hdb : (x == ("__debug__" : Str)) = false := by decide)
    (he : starEach (e :: es) X.env = (false, eval e X.env) :: starEach es X.env := by rfl) (hpl : (backTo pos (starEach es X.env)).any (·.1) = false := by rfl) : PE X (.Call (.Name x p) (e :: es) [] pos) (tCall sp [] E0 t) :=
  pe_call G hr hg D.g D.F.kp D.b .nil passL ha hdb he hpl
/-- a call of a def that may raise, in a try's body -/
theorem pe_clT {W : WX} (G : FnOk X.prog X.w X.K X.mg X.base (L2.CX X.prog X.w) k f fd ps sp) (D : Dfn X.K X.mg x st ps f fd) (hr : Room k X.A) (tk : Takes X W) (ha : PA X (e :: es) t) (hg : Gl X x := by rfl) (hdb : (x == ("__debug__" : Str)) = false := by decide)
    (he : starEach (e :: es) X.env = (false, eval e X.env) :: starEach es X.env := by rfl) (hpl : (backTo pos (starEach es X.env)).any (·.1) = false := by rfl) : PE X (.Call (.Name x p) (e :: es) [] pos) (tCallS sp (WE W) t) :=
  pe_callS G hr hg D.g D.F.kp D.b (fun σ => passAt tk σ) ha hdb he hpl
end
/-! ### an error class of the program -/
structure Err (K : PySem.W.Frag) (mg : Str → Option Value) (x : Str) (C : Addr) : Prop where
  g : mg x = some (.ref C)
  x : PySem.W.excIn K C [.type "ValueError", .type "Exception", .type "BaseException", .type "object"] "ValueError.__new__" = true
  k : PySem.W.keepIn K (.ref C) = true
  s : PySem.W.subIn K (.ref C) (.type "BaseException") = some true
  t : PySem.W.typeIn K (.ref C) = some (.type "type")
theorem ps_rs {X : Cx} {W : WX} {x m : Str} {C : Addr} {j : Nat} {p p2 pos pos2 : Pos} (hc : X.calm = true) (tk : Takes X W) (T : Err X.K X.mg x C) (hg : Gl X x := by rfl) (hdb : (x == ("__debug__" : Str)) = false := by decide) :
    PS X (.Raise (some (.Call (.Name x p) [.Constant (.str m) j p2] [] pos)) none pos2) (fun _ σ H => W (.ref C) none σ H) :=
  ps_raise hc tk (pmk_own PySem.F.excBase_ValueError T.x T.g T.k (raises_own T.s T.t) hg hdb)
theorem gen_new {H H3 : Hp} {p : Addr} {o : HO} (h : upd H p o = H3) (np : H p = none) : Same H H3 ∧ H3 p = some o := by
  subst h
  exact ⟨same_new np, upd_same⟩
theorem perm2 {ns : List Int} {x y : Int} (h : ns.Perm [x, y]) (s : ns.Pairwise (· ≤ ·)) : ∃ a b, ns = [a, b] ∧ a ≤ b ∧ ((a = x ∧ b = y) ∨ (a = y ∧ b = x)) := by
  have hl : ns.length = 2 := h.length_eq
  match ns, hl with
  | [a, b], _ =>
    refine ⟨a, b, rfl, (List.pairwise_cons.mp s).1 b List.mem_cons_self, ?_⟩
    have ha : a = x ∨ a = y := by
      have z := h.mem_iff.mp (List.mem_cons_self (a := a) (l := [b]))
      simpa using z
    rcases ha with rfl | rfl
    · have z := (List.perm_cons a).mp h
      exact Or.inl ⟨rfl, by simpa using z⟩
    · have z : [a, b].Perm [a, x] := h.trans (List.Perm.swap a x [])
      have z2 := (List.perm_cons a).mp z
      exact Or.inr ⟨rfl, by simpa using z2⟩
/-- sorted of a list of two numbers -/
theorem sorted2 {K : PySem.W.Frag} {H : Hp} {p : Addr} {x y : Int} {Q : VK} (h : SqL K H p [.int x, .int y])
    (q : ∀ (a b : Int) (p' : Addr), a ≤ b → ((a = x ∧ b = y) ∨ (a = y ∧ b = x)) → H p' = none → Q (.ref p') (upd H p' (.lst [.int a, .int b]))) : rSorted K [.ref p] H Q := by
  refine ⟨p, [x, y], rfl, h, (by show 2 < 64; decide), fun ns' p' hp hs np => ?_⟩
  obtain ⟨a, b, e, hab, hxy⟩ := perm2 hp hs
  subst e
  exact q a b p' hab hxy np
/-- behind a statement one goes on from what it leaves -/
theorem seq_cut {t u : TS} {D : Ends} {σ : L2.St} {H : Hp} (P : L2.St → Hp → Prop) (h1 : ∀ N : L2.St → Hp → Prop, (∀ σ' H', P σ' H' → N σ' H') → t { D with nx := N } σ H)
    (h2 : ∀ σ' H', P σ' H' → u D σ' H') : tSeq t u D σ H := h1 (u D) h2
theorem bl_true {Q : VK} {H : Hp} {b : Bool} (h : b = true) (q : Q (.bl true) H) : Q (.bl b) H := h.symm ▸ q
theorem bl_false {Q : VK} {H : Hp} {b : Bool} (h : b = false) (q : Q (.bl false) H) : Q (.bl b) H := h.symm ▸ q
/-- a test that is known -/
theorem ite_yes {c : Bool} {A B : Prop} (h : c = true) (q : A) : if c = true then A else B := by
  rw [if_pos h]
  exact q
theorem ite_no {c : Bool} {A B : Prop} (h : c = false) (q : B) : if c = true then A else B := by
  rw [if_neg (by rw [h]; exact Bool.false_ne_true)]
  exact q
theorem dec_int {i j : Int} : decide (V.int i = V.int j) = decide (i = j) := by
  by_cases h : i = j
  · rw [decide_eq_true h, decide_eq_true (by rw [h])]
  · rw [decide_eq_false h, decide_eq_false (fun z => h (V.int.inj z))]
/-- a == b on numbers, as a test: both ways -/
theorem ite_eq {i j : Int} {A B : Prop} (h1 : i = j → A) (h2 : i ≠ j → B) : if decide (V.int i = V.int j) = true then A else B := by
  rw [dec_int]
  exact ite2 (fun z => h1 (of_decide_eq_true z)) (fun z => h2 fun e => z (decide_eq_true e))
/-- a < b and its kin: both ways -/
theorem ite_dec {p : Prop} [Decidable p] {A B : Prop} (h1 : p → A) (h2 : ¬ p → B) : if decide p = true then A else B :=
  ite2 (fun z => h1 (of_decide_eq_true z)) (fun z => h2 fun e => z (decide_eq_true e))
end Ts
end
section
namespace Ts
open PySem PySem.Spec PyProof.Rows L2

/-- what the class at D, the j-th of cs, must say of itself -/
structure Kd (K : PySem.W.Frag) (cs : List Addr) (S D : Addr) (j : Nat) : Prop where
  ex : ExcC K D
  em : PySem.W.exmOne K (.ref D) (.ref S) = some true
  ve : PySem.W.kitOne K (.ref D) (.type "ValueError") = some true
  bit : ∀ (i : Nat) (c : Addr), cs[i]? = some c → PySem.W.kitOne K (.ref D) (.ref c) = some (decide (i = j))
  lt : j < 10
theorem exm_sub {K : PySem.W.Frag} {C D : Addr} (h1 : PySem.W.subIn K (.ref C) (.type "BaseException") = some true) (h2 : PySem.W.hasDictIn K C = true) (h3 : PySem.W.typeIn K (.ref C) = some (.type "type"))
    (h4 : PySem.W.subIn K (.ref D) (.ref C) = some true) : PySem.W.exmOne K (.ref D) (.ref C) = some true := PySem.W.exm_ref h1 h2 h3 h4
theorem kd_mk {K : PySem.W.Frag} {S D c0 c1 c2 c3 c4 c5 c6 c7 c8 c9 : Addr} {j : Nat} {b0 b1 b2 b3 b4 b5 b6 b7 b8 b9 : Bool} (ex : ExcC K D) (em : PySem.W.exmOne K (.ref D) (.ref S) = some true) (ve : PySem.W.kitOne K (.ref D) (.type "ValueError") = some true)
    (q0 : PySem.W.kitOne K (.ref D) (.ref c0) = some b0) (q1 : PySem.W.kitOne K (.ref D) (.ref c1) = some b1) (q2 : PySem.W.kitOne K (.ref D) (.ref c2) = some b2) (q3 : PySem.W.kitOne K (.ref D) (.ref c3) = some b3) (q4 : PySem.W.kitOne K (.ref D) (.ref c4) = some b4)
    (q5 : PySem.W.kitOne K (.ref D) (.ref c5) = some b5) (q6 : PySem.W.kitOne K (.ref D) (.ref c6) = some b6) (q7 : PySem.W.kitOne K (.ref D) (.ref c7) = some b7) (q8 : PySem.W.kitOne K (.ref D) (.ref c8) = some b8) (q9 : PySem.W.kitOne K (.ref D) (.ref c9) = some b9)
    (hj : j < 10 := by decide) (hb : [b0, b1, b2, b3, b4, b5, b6, b7, b8, b9] = (List.range 10).map fun i => decide (i = j) := by decide) : Kd K [c0, c1, c2, c3, c4, c5, c6, c7, c8, c9] S D j where
  ex := ex
  em := em
  ve := ve
  lt := hj
  bit := fun i c h => by
    have e : ∀ {b : Bool}, [b0, b1, b2, b3, b4, b5, b6, b7, b8, b9][i]? = some b → b = decide (i = j) := fun {b} hi => by
      rw [hb, List.getElem?_map] at hi
      cases hr : (List.range 10)[i]? with
      | none => rw [hr] at hi; cases hi
      | some k =>
        rw [hr] at hi
        obtain ⟨_, e1⟩ := List.getElem?_eq_some_iff.mp hr
        rw [List.getElem_range] at e1
        rw [e1]
        exact (Option.some.inj hi).symm
    match i, h with
    | 0, h => cases h; rw [q0, e rfl]
    | 1, h => cases h; rw [q1, e rfl]
    | 2, h => cases h; rw [q2, e rfl]
    | 3, h => cases h; rw [q3, e rfl]
    | 4, h => cases h; rw [q4, e rfl]
    | 5, h => cases h; rw [q5, e rfl]
    | 6, h => cases h; rw [q6, e rfl]
    | 7, h => cases h; rw [q7, e rfl]
    | 8, h => cases h; rw [q8, e rfl]
    | 9, h => cases h; rw [q9, e rfl]
    | i + 10, h => simp at h

def kwords : List Str := ["name", "letter", "off", "early", "count", "none", "wide", "many", "clock", "text"]
def kword (j : Nat) : Str := kwords.getD j "other"
def spKind (K : PySem.W.Frag) (cs : List Addr) (S : Addr) : SpE := fun a c vs H Q _ => ∃ (D : Addr) (j : Nat), c = .ref D ∧ vs = [.ref a] ∧ Kd K cs S D j ∧ ∀ H', Same H H' → Q (.str (kword j)) H'
def kbits (j : Nat) : List V := (List.range 10).map fun i => V.bl (decide (i = j))
theorem kbits_eq (j : Nat) : kbits j = [V.bl (decide (0 = j)), V.bl (decide (1 = j)), V.bl (decide (2 = j)), V.bl (decide (3 = j)), V.bl (decide (4 = j)), V.bl (decide (5 = j)), V.bl (decide (6 = j)), V.bl (decide (7 = j)), V.bl (decide (8 = j)), V.bl (decide (9 = j))] := rfl
theorem k10 {j : Nat} (h : j < 10) {P : Nat → Prop} (p : P 0 ∧ P 1 ∧ P 2 ∧ P 3 ∧ P 4 ∧ P 5 ∧ P 6 ∧ P 7 ∧ P 8 ∧ P 9) : P j := by
  obtain ⟨p0, p1, p2, p3, p4, p5, p6, p7, p8, p9⟩ := p
  match j, h with
  | 0, _ => exact p0
  | 1, _ => exact p1
  | 2, _ => exact p2
  | 3, _ => exact p3
  | 4, _ => exact p4
  | 5, _ => exact p5
  | 6, _ => exact p6
  | 7, _ => exact p7
  | 8, _ => exact p8
  | 9, _ => exact p9
theorem kbits_count {j : Nat} (h : j < 10) : (kbits j).countP (fun z => eqV z (.bl true)) = 1 := k10 (P := fun j => (kbits j).countP (fun z => eqV z (.bl true)) = 1) h (by decide)
theorem kbits_flat (j : Nat) : (kbits j).all flatV = true := by rw [kbits_eq]; rfl
theorem kbits_at {j : Nat} (h : j < 10) : (kbits j)[j]? = some (.bl true) := k10 (P := fun j => (kbits j)[j]? = some (.bl true)) h (by decide)
theorem kbits_no {j : Nat} (h : j < 10) : ∀ (m : Nat) (z : V), m < j → (kbits j)[m]? = some z → eqV z (.bl true) = false := fun m z hm hz => by
  unfold kbits at hz
  rw [List.getElem?_map] at hz
  have e : (List.range 10)[m]? = some m := by rw [List.getElem?_range (by omega)]
  rw [e] at hz
  have e2 : V.bl (decide (m = j)) = z := Option.some.inj hz
  rw [← e2, decide_eq_false (by omega)]
  rfl
theorem kword_at {j : Nat} (h : j < 10) : atI (kwords.map V.str) ((j : Nat) : Int) = some (.str (kword j)) := by
  refine atI_nat ?_
  rw [List.getElem?_map]
  have e : kwords[j]? = some (kword j) := k10 (P := fun j => kwords[j]? = some (kword j)) h (by refine ⟨rfl, rfl, rfl, rfl, rfl, rfl, rfl, rfl, rfl, rfl⟩)
  rw [e]
  rfl
end Ts
end
section
/-! Texts by their codes. -/
namespace Ts
open PySem PySem.Spec PyProof.Rows L2

def mkS (l : List Nat) : Str := ⟨l.toArray⟩
theorem mkS_list (l : List Nat) : (mkS l).cps.toList = l := by simp [mkS]
theorem mkS_len (l : List Nat) : (mkS l).length = l.length := by simp [mkS, Str.length]
theorem mkS_cat (a b : List Nat) : mkS a ++ mkS b = mkS (a ++ b) := by
  show Str.mk (a.toArray ++ b.toArray) = Str.mk (a ++ b).toArray
  congr 1
  simp
theorem mkS_inj {a b : List Nat} (h : mkS a = mkS b) : a = b := by
  have := congrArg (fun z : Str => z.cps.toList) h
  simpa [mkS] using this
theorem cut_to (l : List Nat) (k : Nat) : cutS (mkS l) none (some (k : Int)) = mkS (l.take k) := by
  unfold cutS
  rw [HT.sIx_none, HT.sIx_nat, mkS_list, mkS_len, List.drop_zero, Nat.sub_zero]
  congr 2
  by_cases h : k ≤ l.length
  · rw [Nat.min_eq_left h]
  · rw [Nat.min_eq_right (by omega), List.take_of_length_le (Nat.le_refl _), List.take_of_length_le (by omega)]
theorem cut_from (l : List Nat) (k : Nat) : cutS (mkS l) (some (k : Int)) none = mkS (l.drop k) := by
  unfold cutS
  rw [HT.sIx_none, HT.sIx_nat, mkS_list, mkS_len]
  congr 1
  by_cases h : k ≤ l.length
  · rw [Nat.min_eq_left h, List.take_of_length_le (by rw [List.length_drop]; exact Nat.le_refl _)]
  · rw [Nat.min_eq_right (by omega), Nat.sub_self, List.take_zero, List.drop_eq_nil_of_le (by omega)]
theorem ofS (x : Str) : x = mkS x.cps.toList := by simp [mkS]
theorem alpha_list : ("abcdefghijklmnopqrstuvwxyz" : Str).cps.toList = (List.range 26).map (97 + ·) := by decide +kernel
theorem alpha_at {i : Int} (h0 : 0 ≤ i) (h1 : i < 26) : atI ("abcdefghijklmnopqrstuvwxyz" : Str).cps.toList i = some (97 + i.toNat) := by
  rw [alpha_list]
  obtain ⟨k, rfl⟩ := Int.eq_ofNat_of_zero_le h0
  refine atI_nat ?_
  rw [List.getElem?_map, List.getElem?_range (by omega)]
  rfl
theorem alpha_len : ("abcdefghijklmnopqrstuvwxyz" : Str).length ≤ sizeLine := by decide +kernel
def low (l : List Nat) : Prop := ∀ c ∈ l, 97 ≤ c ∧ c ≤ 122
/-- a name: 1 to 12 small letters -/
def nmOk (l : List Nat) : Prop := 1 ≤ l.length ∧ l.length ≤ 12 ∧ low l
/-- the k-th of the names round a base -/
def nmL (b : List Nat) (j k : Nat) : List Nat := b.take j ++ [97 + k % 26] ++ (if k < 26 then [] else [122]) ++ b.drop j
theorem nmL_ok {b : List Nat} {j k : Nat} (hb : b.length ≤ 10) (hl : low b) (hk : k < 42) : nmOk (nmL b j k) := by
  have e : (nmL b j k).length = b.length + 1 + (if k < 26 then 0 else 1) := by
    unfold nmL
    by_cases h : k < 26
    · simp only [h, if_true, List.length_append, List.length_take, List.length_drop, List.length_cons, List.length_nil]
      omega
    · simp only [h, if_false, List.length_append, List.length_take, List.length_drop, List.length_cons, List.length_nil]
      omega
  refine ⟨?_, ?_, fun c hc => ?_⟩
  · rw [e]; omega
  · rw [e]; split <;> omega
  · unfold nmL at hc
    simp only [List.mem_append] at hc
    rcases hc with ((hc | hc) | hc) | hc
    · exact hl c (List.mem_of_mem_take hc)
    · simp at hc; omega
    · by_cases h : k < 26
      · simp [h] at hc
      · simp [h] at hc; omega
    · exact hl c (List.mem_of_mem_drop hc)
theorem nmL_inj {b : List Nat} {j k k' : Nat} (hk : k < 42) (hk' : k' < 42) (h : nmL b j k = nmL b j k') : k = k' := by
  unfold nmL at h
  have h1 := List.append_cancel_right h
  rw [List.append_assoc, List.append_assoc] at h1
  have h2 := List.append_cancel_left h1
  by_cases a : k < 26 <;> by_cases a' : k' < 26 <;> simp [a, a'] at h2 <;> omega
def nmList (b : List Nat) (j : Nat) : List (List Nat) := (List.range 42).map (nmL b j)
theorem nmList_nodup (b : List Nat) (j : Nat) : (nmList b j).Nodup := by
  unfold nmList
  refine List.pairwise_map.mpr (List.Pairwise.imp_of_mem (fun {x y} hx hy hne h => hne (nmL_inj (List.mem_range.mp hx) (List.mem_range.mp hy) h)) List.nodup_range)
theorem slr_imp {X : Cx} {r r' : V → Option Int → Option Int → Hp → VK → Prop} (h : SlR X r) (q : ∀ x lo hi H Q, r' x lo hi H Q → r x lo hi H Q) : SlR X r' := by
  intro pins s σ H x v vl vu lo hi sl Q I r1 r2 r3 r4 w
  exact h pins s σ H x v vl vu lo hi sl Q I r1 r2 r3 r4 (q _ _ _ _ _ w)
/-- texts by their codes: z[:k], z[k:], x + y, z[i] -/
def rTo : V → Option Int → Option Int → Hp → VK → Prop := fun x lo hi H Q => ∃ (l : List Nat) (k : Nat), x = .str (mkS l) ∧ lo = none ∧ hi = some (k : Int) ∧ l.length ≤ 1000000 ∧ Q (.str (mkS (l.take k))) H
def rFrom : V → Option Int → Option Int → Hp → VK → Prop := fun x lo hi H Q => ∃ (l : List Nat) (k : Nat), x = .str (mkS l) ∧ lo = some (k : Int) ∧ hi = none ∧ l.length ≤ 1000000 ∧ Q (.str (mkS (l.drop k))) H
def rAddS : R2 := fun x y H Q => ∃ a b : List Nat, x = .str (mkS a) ∧ y = .str (mkS b) ∧ a.length + b.length ≤ 1000000 ∧ Q (.str (mkS (a ++ b))) H
def rAtS : R2 := fun x y H Q => ∃ (l : List Nat) (i c : Nat), x = .str (mkS l) ∧ y = .int (i : Int) ∧ l.length ≤ 1000000 ∧ l[i]? = some c ∧ Q (.str (mkS [c])) H
section
variable {X : Cx}
theorem mkS_le0 {l : List Nat} (h : l.length ≤ 1000000) : (mkS l).length ≤ sizeLine := by
  rw [mkS_len]
  exact Nat.le_trans h (by decide)
theorem sl_to : SlR X rTo := slr_imp sl_str fun x lo hi H Q h => by
  obtain ⟨l, k, rfl, rfl, rfl, hl, q⟩ := h
  rw [← cut_to] at q
  exact ⟨_, rfl, mkS_le0 hl, q⟩
theorem sl_from : SlR X rFrom := slr_imp sl_str fun x lo hi H Q h => by
  obtain ⟨l, k, rfl, rfl, rfl, hl, q⟩ := h
  rw [← cut_from] at q
  exact ⟨_, rfl, mkS_le0 hl, q⟩
theorem op_addC : OpR X (binaryOp .Add) rAddS := opr_imp op_add_str fun x y H Q h => by
  obtain ⟨a, b, rfl, rfl, hl, q⟩ := h
  rw [← mkS_cat] at q
  exact ⟨_, _, rfl, rfl, by rw [mkS_len, mkS_len]; exact Nat.le_trans hl (by decide), q⟩
theorem ix_C : IxR X rAtS := ixr_imp ix_str fun x y H Q h => by
  obtain ⟨l, i, c, rfl, rfl, hl, hc, q⟩ := h
  exact ⟨_, _, c, rfl, rfl, mkS_le0 hl, atI_nat (by rw [mkS_list]; exact hc), q⟩
theorem pe_strC {x : Str} {j : Nat} {pos : Pos} {l : List Nat} (h : x = mkS l) : PE X (.Constant (.str x) j pos) (tC (.str (mkS l))) := h ▸ pe_str
end
/-- texts of a list of codes -/
def txs (ls : List (List Nat)) : List V := ls.map fun l => V.str (mkS l)
theorem txs_at {ls : List (List Nat)} {i : Int} (h0 : 0 ≤ i) (h1 : i < ls.length) : ∃ l, l ∈ ls ∧ atI (txs ls) i = some (.str (mkS l)) := by
  have hn : i.toNat < ls.length := by omega
  refine ⟨ls[i.toNat], List.getElem_mem hn, ?_⟩
  refine at_of (j := i.toNat) (by omega) ?_
  unfold txs
  rw [List.getElem?_map, List.getElem?_eq_getElem hn]
  rfl
theorem mkS_le {l : List Nat} (h : l.length ≤ 1000000) : (mkS l).length ≤ sizeLine := by
  rw [mkS_len]
  exact Nat.le_trans h (by decide)
theorem mkS2_le {a b : List Nat} (h : a.length + b.length ≤ 1000000) : (mkS a).length + (mkS b).length ≤ sizeLine := by
  rw [mkS_len, mkS_len]
  exact Nat.le_trans h (by decide)
theorem mkS_one (c : Nat) : (⟨#[c]⟩ : Str) = mkS [c] := rfl
theorem str_nil : ("" : Str) = mkS [] := by decide +kernel
theorem str_z : ("z" : Str) = mkS [122] := by decide +kernel
end Ts
namespace Ts
open PySem PySem.Spec PyProof.Rows L2
theorem alphaL {j : Nat} (h : j < 26) : [97, 98, 99, 100, 101, 102, 103, 104, 105, 106, 107, 108, 109, 110, 111, 112, 113, 114, 115, 116, 117, 118, 119, 120, 121, 122][j]? = some (97 + j) := by
  have e : [97, 98, 99, 100, 101, 102, 103, 104, 105, 106, 107, 108, 109, 110, 111, 112, 113, 114, 115, 116, 117, 118, 119, 120, 121, 122] = (List.range 26).map (97 + ·) := by decide
  rw [e, List.getElem?_map, List.getElem?_range h]
  rfl
/-- an object that H does not know may change -/
theorem Same.mut {H H1 : Hp} {D : Addr} {o : HO} (s : Same H H1) (h : H D = none) : Same H (upd H1 D o) := fun b u e => by
  rw [upd_ne (ne_of_none e h)]
  exact s b u e
end Ts
namespace Ts
open PySem PySem.Spec PyProof.Rows L2
theorem SqT.grow {K : PySem.W.Frag} {H : Hp} {D t : Addr} {xs acc acc' : List V} (h : SqT K H t xs) (hD : H D = some (.lst acc)) : SqT K (upd H D (.lst acc')) t xs := by
  rcases h with (h | ⟨o, h⟩) | h
  · exact .inl (.inl (by rw [upd_ne (ne_of h hD (by intro z; cases z))]; exact h))
  · exact .inl (.inr ⟨o, by rw [upd_ne (ne_of h hD (by intro z; cases z))]; exact h⟩)
  · exact .inr h
theorem cutV_len {xs : List V} (lo hi : Nat) : cutV xs (some (lo : Int)) (some (hi : Int)) = (xs.drop lo).take (hi - lo) := by
  unfold cutV
  rw [HT.sIx_nat, HT.sIx_nat]
  by_cases h1 : lo ≤ xs.length
  · rw [Nat.min_eq_left h1]
    by_cases h2 : hi ≤ xs.length
    · rw [Nat.min_eq_left h2]
    · rw [Nat.min_eq_right (show xs.length ≤ hi by omega)]
      rw [List.take_of_length_le (by rw [List.length_drop]; exact Nat.le_refl _), List.take_of_length_le (by rw [List.length_drop]; omega)]
  · rw [Nat.min_eq_right (show xs.length ≤ lo by omega), List.drop_eq_nil_of_le (Nat.le_refl _), List.drop_eq_nil_of_le (by omega), List.take_nil, List.take_nil]
end Ts
namespace Ts
open PySem PySem.Spec PyProof.Rows L2
theorem tyT {K : PySem.W.Frag} {H : Hp} {t : Addr} {xs : List V} (h : SqT K H t xs) : TyX K H (.ref t) (.type "tuple") := by
  rcases h with (h | ⟨o, h⟩) | ⟨o, its, n, h, c, _⟩
  · exact .base (.tup h)
  · exact .fTuple h
  · exact .kTuple h c
theorem take_snoc {α : Type} {l : List α} {i : Nat} {x : α} (h : l[i]? = some x) : l.take (i + 1) = l.take i ++ [x] := by
  obtain ⟨hi, e⟩ := List.getElem?_eq_some_iff.mp h
  rw [List.take_succ_eq_append_getElem hi, e]
theorem inV_txs (n : List Nat) (ls : List (List Nat)) : inV (.str (mkS n)) (txs ls) = decide (n ∈ ls) := by
  unfold inV txs
  rw [List.any_map]
  have e : ∀ l : List Nat, eqV (.str (mkS l)) (.str (mkS n)) = decide (l = n) := fun l => by
    show (mkS l == mkS n) = decide (l = n)
    by_cases h : l = n
    · rw [decide_eq_true h, h]
      exact beq_self_eq_true _
    · rw [decide_eq_false h]
      exact beq_eq_false_iff_ne.mpr fun z => h (mkS_inj z)
  induction ls with
  | nil => rfl
  | cons l r ih =>
    rw [List.any_cons, ih]
    show (eqV (.str (mkS l)) (.str (mkS n)) || decide (n ∈ r)) = _
    rw [e]
    by_cases h : l = n
    · subst h
      simp
    · have h2 : n ≠ l := fun z => h z.symm
      simp [h, h2]
theorem txs_flat (ls : List (List Nat)) : (txs ls).all flatV = true := by
  unfold txs
  rw [List.all_map]
  exact List.all_eq_true.mpr fun _ _ => rfl
theorem eq_str (a b : List Nat) : decide (V.str (mkS a) = V.str (mkS b)) = decide (a = b) := by
  by_cases h : a = b
  · rw [decide_eq_true h, decide_eq_true (by rw [h])]
  · rw [decide_eq_false h, decide_eq_false fun z => h (mkS_inj (V.str.inj z))]
end Ts
end
section
/-! sorted(d), d a dict of numbers, however many. -/
namespace Ts
open PySem PySem.Spec PyProof.Rows L2

/-- what is wanted of the keys: they are numbers, they fit a list; then any rising arrangement of them, anew -/
def rSortD : List V → Hp → VK → Prop := fun args H Q => ∃ (d : Addr) (kvs : List (Key × V)) (nums : List Int), args = [.ref d] ∧ H d = some (.dK kvs) ∧ kvs.map Prod.fst = nums.map Sum.inl ∧ nums.length ≤ sizeLine ∧
  ∀ (up : List Int) (fresh : Addr), up.Perm nums → up.Pairwise (· ≤ ·) → H fresh = none → Q (.ref fresh) (upd H fresh (.lst (up.map V.int)))
/-- values that stand for keys which are numbers are those numbers -/
theorem ints_of_keys {nums : List Int} {got : List Value} {keys : List Key} (hk : keys = nums.map Sum.inl) (hl : got.length = nums.length)
    (hv : ∀ (j : Nat) (v : Value), got[j]? = some v → ∃ key, keys[j]? = some key ∧ keyIs key v = true) : IntsAre got nums := by
  subst hk
  refine ints_each hl fun j v hj => ?_
  obtain ⟨key, at_j, same⟩ := hv j v hj
  obtain ⟨n, hn, rfl⟩ : ∃ n, nums[j]? = some n ∧ key = Sum.inl n := by
    rw [List.getElem?_map] at at_j
    cases q : nums[j]? with
    | some n => exact ⟨n, rfl, by rw [q] at at_j; exact (Option.some.inj at_j).symm⟩
    | none => rw [q] at at_j; nomatch at_j
  rcases keyIs_shape same with ⟨i, tk, is, ev⟩ | ⟨_, _, is, _⟩
  · exact ⟨n, tk, hn, by rw [ev, Sum.inl.inj is]⟩
  · nomatch is
/-- a new list of numbers, sorted where it lies -/
theorem sort_fresh {X : Cx} {pins : List (Addr × Obj)} {σ : L2.St} {H : Hp} {s : Shared} {Q : VK} {got : List Value} {nums : List Int} {A : Around} (I : Inv X pins σ H s) (hi : IntsAre got nums) (hn : nums.length ≤ sizeLine) (hl : got.length = nums.length)
    (q : ∀ (up : List Int) (fresh : Addr), up.Perm nums → up.Pairwise (· ≤ ·) → H fresh = none → Q (.ref fresh) (upd H fresh (.lst (up.map V.int)))) :
    wpAny (model X.prog X.w) A (call (.builtin "list.sort") [.ref s.heap.objs.size]) (fun _ z => EP X pins σ Q (.ref s.heap.objs.size) z) X.xe { s with heap := s.heap.push (seqObj "list" got.toArray 0) } := by
  have here : (s.heap.push (seqObj "list" got.toArray 0)).get? s.heap.objs.size = some (seqObj "list" got.toArray 0) := Heap.get?_push_size _ rfl
  refine wpAny_call_entry PyProof.Rows.slot_list_sort ⟨_, here, rfl⟩ PyProof.Rows.entry_list_sort ?_ (PyProof.Rows.args_list_sort _)
  refine SrtO.list_sort_ord (s := { s with heap := s.heap.push (seqObj "list" got.toArray 0) }) SrtO.swo_int here (hl ▸ hn) (SrtO.ints_sortable hi) fun out rising stable => ⟨.none, rfl, ?_⟩
  obtain ⟨whole, perm, le⟩ := SrtO.ints_out hi rising stable
  obtain ⟨ep, there⟩ := PyProof.Rows.sortedHeap_at (vs := got) (out := out.toArray) here
  have fit : ((out.map SrtO.iv).map V.int).length ≤ sizeLine := by rw [List.length_map, perm.length_eq]; exact hn
  have old : ∀ b u, s.heap.get? b = some u → (PyProof.Rows.sortedHeap (s.heap.push (seqObj "list" got.toArray 0)) s.heap.objs.size got out.toArray).get? b = some u := fun b u e =>
    (PyProof.Rows.sortedHeap_old (Nat.ne_of_lt (Heap.lt_size e)) (by rw [size_push']; exact Nat.lt_succ_of_lt (Heap.lt_size e))).trans (Heap.get?_push_of_some _ e)
  exact ⟨.ref s.heap.objs.size, upd H s.heap.objs.size (.lst ((out.map SrtO.iv).map V.int)), I.laid (t' := s.toks) old (Nat.le_refl _) ⟨fit, out, ep, vals_of_ints whole, there⟩, rfl, q _ _ perm le (I.hok.fresh (Nat.le_refl _))⟩
theorem call_sortedDA {X : Cx} (hcalm : X.calm = true) : CallR X (.builtin "sorted") rSortD := by
  rintro pins s σ H args us Q I rel ⟨d, kvs, nums, rfl, hd, hk, hn, q⟩
  rw [Vals.ref1 rel]
  obtain ⟨_, lies, pairs, kv, dd⟩ := dk_rd I.hok (.inl hd)
  obtain ⟨ep, lay⟩ := dd.dictAt
  have same : pairs.map Prod.fst = nums.map Sum.inl := kv.keys.symm.trans hk
  have count : pairs.length = nums.length := by simpa using congrArg List.length same
  refine Calls.call_function_entry kind_sorted plain_sorted entry_sorted (args_sorted1 _) ?_
  unfold Builtin.«sorted»
  refine wpAny_bind (m := checkCount "sorted" 1 1 _) (wpAny_pure (wpAny_bind ?_))
  refine PySem.W.kdu_collect (A := X.A.in1) (PySem.W.kdl_dict (knd := mixKind X.prog X.w) (kvs := pairs) (ep := ep) lies) (I.ok.hd hcalm) lay (count ▸ hn) fun h' tk got kept told => ?_
  have gl : got.toList.length = nums.length := by rw [Array.length_toList, told.1, count]
  have hi : IntsAre got.toList nums := ints_of_keys same gl fun j v e => by
    obtain ⟨key, val, at_j, is⟩ := told.2 j v (by simpa using e)
    exact ⟨key, by rw [List.getElem?_map, at_j]; rfl, is⟩
  refine wpAny_bind (wpAny_newList (wpAny_bind (wpAny_holding ?_)) (gl ▸ hn))
  exact wpAny_mono (sort_fresh (I.kept (t' := tk) kept) hi hn gl q) (fun _ z done => wpAny_pure ⟨_, rfl, done⟩) fun _ _ e => e
end Ts
end
section
namespace Ts.k06
open PySem PySem.Spec PyProof.Rows L2 Ts
/-! ### promises of the law's own helpers -/
def spMix : Sp := fun vs H Q _ => ∃ c k : Int, vs = [.int c, .int k] ∧ ∀ r : Int, 0 ≤ r → r < 999983 → Q (.int r) H
def spBig : Sp := fun vs H Q _ => ∃ c k : Int, vs = [.int c, .int k] ∧ ∀ (r : Int) (H' : Hp), 0 ≤ r → r ≤ 1000000000000 → Same H H' → Q (.int r) H'
def spOff : Sp := fun vs H Q _ => ∃ c : Int, vs = [.int c] ∧ ∀ (r : Int) (H' : Hp), 0 ≤ r → r ≤ 999 → Same H H' → Q (.int r) H'
/-- the least number not less than p times o by 1000 -/
def slk (p o : Int) : Int := (p * o + 999) / 1000
def spSlack : Sp := fun vs H Q _ => ∃ p o : Int, vs = [.int p, .int o] ∧ -1000000 < o ∧ o < 1000000 ∧ Q (.int (slk p o)) H
def spCellAt (K : PySem.W.Frag) : Sp := fun vs H Q _ => ∃ (l : Addr) (ns : List Int) (j : Nat), vs = [.ref l, .int (j : Int)] ∧ SqL K H l (ns.map V.int) ∧ Q (.int (ns.getD j 0)) H
def spWhole (K : PySem.W.Frag) : Sp := fun vs H Q _ => ∃ i : Int, vs = [.int i] ∧ Q (.bl true) H
def spLaw (K : PySem.W.Frag) : Sp := fun vs H Q _ => ∃ (a : Addr) (ns : List Int), vs = [.ref a] ∧ SqL K H a (ns.map V.int) ∧ ns.length ≤ 63 ∧ ∀ H', Q (.bl true) H'

def okOff (o : Int) : Prop := 0 ≤ o ∧ o ≤ 999
def spCheckOff (C : Addr) : Sp := fun vs H Q E => ∃ o : Int, vs = [.int o] ∧ (okOff o → Q .non H) ∧ (¬ okOff o → E (.ref C) none H)

/-- a letter as a tuple -/
def letV (nm : V) (s b lo hi : Int) : List V := [nm, .int s, .int b, .int lo, .int hi]
def brLo (b lo now o : Int) : Int := lo + (now - b) - slk (now - b) o
def brHi (s hi now o : Int) : Int := hi + (now - s) + slk (now - s) o
def spBrought (K : PySem.W.Frag) (cO cE : Addr) : Sp := fun vs H Q E => ∃ (t : Addr) (nm : V) (s b lo hi now o : Int), vs = [.ref t, .int now, .int o] ∧ SqT K H t (letV nm s b lo hi) ∧
  (¬ okOff o → E (.ref cO) none H) ∧ (okOff o → now < b → E (.ref cE) none H) ∧
  (okOff o → b ≤ now → ∀ u, H u = none → Q (.ref u) (upd H u (.tup [.int (brLo b lo now o), .int (brHi s hi now o)])))
def spLawBrought (K : PySem.W.Frag) : Sp := fun vs H Q _ => ∃ (t : Addr) (nm : V) (s b lo hi now o : Int), vs = [.ref t, .int now, .int o] ∧ SqT K H t (letV nm s b lo hi) ∧ okOff o ∧
  ∀ u, H u = none → Q (.ref u) (upd H u (.tup [.int (brLo b lo now o), .int (brHi s hi now o)]))

def spWord : Sp := fun vs H Q _ => ∃ c n : Int, vs = [.int c, .int n] ∧ 0 ≤ n ∧ n ≤ 1000 ∧ ∀ z : List Nat, (z.length : Int) = n → low z → Q (.str (mkS z)) H
def spNames : Sp := fun vs H Q _ => ∃ c : Int, vs = [.int c] ∧ ∀ (p : Addr) (xs : List (List Nat)) (H' : Hp), xs.length = 42 → xs.Nodup → (∀ z ∈ xs, nmOk z) → Same H H' → H' p = some (.lst (txs xs)) → Q (.ref p) H'

/-- a letter's data -/
structure Let where
  nm : List Nat
  s : Int
  b : Int
  lo : Int
  hi : Int
def Let.vals (x : Let) : List V := letV (.str (mkS x.nm)) x.s x.b x.lo x.hi
structure Let.Ok (x : Let) : Prop where
  nm : nmOk x.nm
  s0 : 0 ≤ x.s
  sb : x.s ≤ x.b
  b1 : x.b ≤ 1000000000000
  l0 : 0 ≤ x.lo
  lh : x.lo ≤ x.hi
  h1 : x.hi ≤ 1000000000000
/-- letters as tuples at addresses -/
def LetsAt (K : PySem.W.Frag) (H : Hp) (as : List Addr) (ls : List Let) : Prop := as.length = ls.length ∧ ∀ (i : Nat) (t : Addr) (x : Let), as[i]? = some t → ls[i]? = some x → SqT K H t x.vals
theorem LetsAt.same {K : PySem.W.Frag} {H H' : Hp} {as : List Addr} {ls : List Let} (h : LetsAt K H as ls) (s : Same H H') : LetsAt K H' as ls := ⟨h.1, fun i t x a b => Ts.Same.seqT s (h.2 i t x a b)⟩
theorem LetsAt.get {K : PySem.W.Frag} {H : Hp} {as : List Addr} {ls : List Let} (h : LetsAt K H as ls) {i : Nat} {v : V} (e : (as.map V.ref)[i]? = some v) : ∃ t x, v = .ref t ∧ as[i]? = some t ∧ ls[i]? = some x ∧ SqT K H t x.vals := by
  rw [List.getElem?_map] at e
  cases ea : as[i]? with
  | none => rw [ea] at e; cases e
  | some t =>
    rw [ea] at e
    have hi : i < ls.length := by rw [← h.1]; exact (List.getElem?_eq_some_iff.mp ea).1
    exact ⟨t, ls[i], (Option.some.inj e).symm, rfl, List.getElem?_eq_getElem hi, h.2 i t _ ea (List.getElem?_eq_getElem hi)⟩
theorem LetsAt.nil {K : PySem.W.Frag} {H : Hp} : LetsAt K H [] [] := ⟨rfl, fun i t x h _ => by simp at h⟩
theorem LetsAt.snoc {K : PySem.W.Frag} {H : Hp} {as : List Addr} {ls : List Let} {t : Addr} {x : Let} (h : LetsAt K H as ls) (hx : SqT K H t x.vals) : LetsAt K H (as ++ [t]) (ls ++ [x]) := by
  refine ⟨by rw [List.length_append, List.length_append, h.1]; rfl, fun i u y a b => ?_⟩
  by_cases hi : i < as.length
  · rw [List.getElem?_append_left hi] at a
    rw [List.getElem?_append_left (by rw [← h.1]; exact hi)] at b
    exact h.2 i u y a b
  · have hl := (List.getElem?_eq_some_iff.mp a).1
    rw [List.length_append] at hl
    have e : i = as.length := by simp at hl; omega
    subst e
    rw [List.getElem?_append_right (Nat.le_refl _), Nat.sub_self] at a
    rw [List.getElem?_append_right (by rw [h.1]; exact Nat.le_refl _), h.1, Nat.sub_self] at b
    cases a
    cases b
    exact hx
theorem LetsAt.grow {K : PySem.W.Frag} {H : Hp} {D : Addr} {acc acc' : List V} {as : List Addr} {ls : List Let} (h : LetsAt K H as ls) (hD : H D = some (.lst acc)) : LetsAt K (upd H D (.lst acc')) as ls := ⟨h.1, fun i t x a b => Ts.SqT.grow (h.2 i t x a b) hD⟩
def spLetter (K : PySem.W.Frag) : Sp := fun vs H Q _ => ∃ (c m : Int) (p : Addr) (xs : List (List Nat)), vs = [.int c, .ref p, .int m] ∧ SqL K H p (txs xs) ∧ xs.length = 42 ∧ (∀ z ∈ xs, nmOk z) ∧ 1 ≤ m ∧ m ≤ 42 ∧
  ∀ (x : Let) (t : Addr) (H' : Hp), x.Ok → x.nm ∈ xs → Same H H' → H' t = some (.tup x.vals) → Q (.ref t) H'
def spLetters (K : PySem.W.Frag) : Sp := fun vs H Q _ => ∃ (l p : Addr) (ns : List Int) (xs : List (List Nat)), vs = [.ref l, .ref p] ∧ SqL K H l (ns.map V.int) ∧ ns.length ≤ 63 ∧ SqL K H p (txs xs) ∧ xs.length = 42 ∧ (∀ z ∈ xs, nmOk z) ∧
  ∀ (as : List Addr) (ls : List Let) (q : Addr) (H' : Hp), ls.length ≤ 200 → (∀ x ∈ ls, x.Ok) → Same H H' → LetsAt K H' as ls → H' q = some (.lst (as.map V.ref)) → H q = none → Q (.ref q) H'
/-- no answer later than now -/
def spNow (K : PySem.W.Frag) : Sp := fun vs H Q _ => ∃ (l p : Addr) (ns : List Int) (as : List Addr) (ls : List Let), vs = [.ref l, .ref p] ∧ SqL K H l (ns.map V.int) ∧ SqL K H p (as.map V.ref) ∧ LetsAt K H as ls ∧ (∀ x ∈ ls, x.Ok) ∧
  ∀ (now : Int) (H' : Hp), 0 ≤ now → now ≤ 1000000010000 → (∀ x ∈ ls, x.b ≤ now) → Same H H' → Q (.int now) H'

/-! ### the clocks of letters -/
abbrev St2 := Int × Int
def brSt (now o : Int) (x : Let) : St2 := (brLo x.b x.lo now o, brHi x.s x.hi now o)
theorem slk_ge0 {p o : Int} (hp : 0 ≤ p) (h : okOff o) : 0 ≤ slk p o := by
  have h1 : 0 ≤ p * o := Int.mul_nonneg hp h.1
  unfold slk
  omega
theorem slk_le {p o : Int} (hp : 0 ≤ p) (h : okOff o) : slk p o ≤ p := by
  have h1 : p * o ≤ p * 999 := Int.mul_le_mul_of_nonneg_left h.2 hp
  unfold slk
  omega
theorem brSt_le {now o : Int} {x : Let} (hx : x.Ok) (h : okOff o) (hb : x.b ≤ now) : (brSt now o x).1 ≤ (brSt now o x).2 := by
  have h1 := slk_le (p := now - x.b) (by omega) h
  have h0 := slk_ge0 (p := now - x.b) (by omega) h
  have h2 := slk_ge0 (p := now - x.s) (by have := hx.sb; omega) h
  have := hx.sb
  have := hx.lh
  show brLo x.b x.lo now o ≤ brHi x.s x.hi now o
  unfold brLo brHi
  omega
def addN (acc : List (List Nat)) (n : List Nat) : List (List Nat) := if n ∈ acc then acc else acc ++ [n]
def namesOf (ls : List Let) : List (List Nat) := ls.foldl (fun acc x => addN acc x.nm) []
theorem namesOf_snoc (ls : List Let) (x : Let) : namesOf (ls ++ [x]) = addN (namesOf ls) x.nm := by
  unfold namesOf
  rw [List.foldl_append]
  rfl
theorem addN_mem {acc : List (List Nat)} {n m : List Nat} : m ∈ addN acc n ↔ m ∈ acc ∨ m = n := by
  unfold addN
  split
  · rename_i h
    exact ⟨.inl, fun z => z.elim id fun e => e ▸ h⟩
  · rw [List.mem_append, List.mem_singleton]
theorem addN_nodup {acc : List (List Nat)} {n : List Nat} (h : acc.Nodup) : (addN acc n).Nodup := by
  unfold addN
  split
  · exact h
  · rename_i hn
    exact nd_snoc h hn
theorem fold_mem {m : List Nat} : ∀ (ls : List Let) (acc : List (List Nat)), m ∈ ls.foldl (fun acc x => addN acc x.nm) acc ↔ m ∈ acc ∨ ∃ x ∈ ls, x.nm = m
  | [], acc => by simp
  | x :: r, acc => by
    rw [List.foldl_cons, fold_mem r, addN_mem]
    constructor
    · rintro ((h | h) | ⟨y, hy, e⟩)
      · exact .inl h
      · exact .inr ⟨x, List.mem_cons_self, h.symm⟩
      · exact .inr ⟨y, List.mem_cons_of_mem _ hy, e⟩
    · rintro (h | ⟨y, hy, e⟩)
      · exact .inl (.inl h)
      · rcases List.mem_cons.mp hy with rfl | hy
        · exact .inl (.inr e.symm)
        · exact .inr ⟨y, hy, e⟩
theorem fold_nodup : ∀ (ls : List Let) (acc : List (List Nat)), acc.Nodup → (ls.foldl (fun acc x => addN acc x.nm) acc).Nodup
  | [], _, h => h
  | x :: r, acc, h => fold_nodup r _ (addN_nodup h)
theorem namesOf_mem {ls : List Let} {m : List Nat} : m ∈ namesOf ls ↔ ∃ x ∈ ls, x.nm = m := by
  unfold namesOf
  rw [fold_mem]
  simp
theorem namesOf_nodup (ls : List Let) : (namesOf ls).Nodup := fold_nodup ls [] List.nodup_nil
theorem namesOf_len (ls : List Let) : (namesOf ls).length ≤ ls.length := by
  have h : ∀ (ls : List Let) (acc : List (List Nat)), (ls.foldl (fun acc x => addN acc x.nm) acc).length ≤ acc.length + ls.length := by
    intro ls
    induction ls with
    | nil => intro acc; simp
    | cons x r ih =>
      intro acc
      rw [List.foldl_cons]
      refine Nat.le_trans (ih _) ?_
      rw [List.length_cons]
      unfold addN
      split
      · omega
      · rw [List.length_append]; simp; omega
  have z := h ls []
  rw [List.length_nil, Nat.zero_add] at z
  exact z
def stsOf (now o : Int) (n : List Nat) (ls : List Let) : List St2 := (ls.filter fun x => decide (x.nm = n)).map (brSt now o)
theorem stsOf_eq (now o : Int) {n : List Nat} (ls : List Let) {x : Let} (h : x.nm = n) : stsOf now o n (ls ++ [x]) = stsOf now o n ls ++ [brSt now o x] := by
  unfold stsOf
  rw [List.filter_append, List.map_append]
  simp [h]
theorem stsOf_ne (now o : Int) {n : List Nat} (ls : List Let) {x : Let} (h : x.nm ≠ n) : stsOf now o n (ls ++ [x]) = stsOf now o n ls := by
  unfold stsOf
  rw [List.filter_append]
  simp [h]
theorem stsOf_nil (now o : Int) {n : List Nat} {ls : List Let} (h : n ∉ namesOf ls) : stsOf now o n ls = [] := by
  unfold stsOf
  rw [List.map_eq_nil_iff, List.filter_eq_nil_iff]
  intro x hx
  simpa using fun e => h (namesOf_mem.mpr ⟨x, hx, e⟩)
theorem stsOf_some (now o : Int) {n : List Nat} {ls : List Let} (h : n ∈ namesOf ls) : stsOf now o n ls ≠ [] := by
  obtain ⟨x, hx, e⟩ := namesOf_mem.mp h
  unfold stsOf
  rw [Ne, List.map_eq_nil_iff, List.filter_eq_nil_iff]
  intro z
  exact absurd e (by simpa using z x hx)
def loOf : List St2 → Int
  | [] => 0
  | s :: r => r.foldl (fun m t => if t.1 > m then t.1 else m) s.1
def hiOf : List St2 → Int
  | [] => 0
  | s :: r => r.foldl (fun m t => if t.2 < m then t.2 else m) s.2
theorem loOf_snoc {l : List St2} (h : l ≠ []) (t : St2) : loOf (l ++ [t]) = if t.1 > loOf l then t.1 else loOf l := by
  cases l with
  | nil => exact absurd rfl h
  | cons s r =>
    show (r ++ [t]).foldl _ _ = _
    rw [List.foldl_append]
    rfl
theorem hiOf_snoc {l : List St2} (h : l ≠ []) (t : St2) : hiOf (l ++ [t]) = if t.2 < hiOf l then t.2 else hiOf l := by
  cases l with
  | nil => exact absurd rfl h
  | cons s r =>
    show (r ++ [t]).foldl _ _ = _
    rw [List.foldl_append]
    rfl
theorem fmax_spec : ∀ (r : List St2) (m : Int), m ≤ r.foldl (fun m t => if t.1 > m then t.1 else m) m ∧ (∀ t ∈ r, t.1 ≤ r.foldl (fun m t => if t.1 > m then t.1 else m) m)
  | [], m => ⟨Int.le_refl _, fun _ h => nomatch h⟩
  | s :: r, m => by
    obtain ⟨h1, h2⟩ := fmax_spec r (if s.1 > m then s.1 else m)
    rw [List.foldl_cons]
    refine ⟨?_, fun t ht => ?_⟩
    · refine Int.le_trans ?_ h1
      split <;> omega
    · rcases List.mem_cons.mp ht with rfl | ht
      · refine Int.le_trans ?_ h1
        split <;> omega
      · exact h2 t ht
theorem fmin_spec : ∀ (r : List St2) (m : Int), r.foldl (fun m t => if t.2 < m then t.2 else m) m ≤ m ∧ (∀ t ∈ r, r.foldl (fun m t => if t.2 < m then t.2 else m) m ≤ t.2)
  | [], m => ⟨Int.le_refl _, fun _ h => nomatch h⟩
  | s :: r, m => by
    obtain ⟨h1, h2⟩ := fmin_spec r (if s.2 < m then s.2 else m)
    rw [List.foldl_cons]
    refine ⟨?_, fun t ht => ?_⟩
    · refine Int.le_trans h1 ?_
      split <;> omega
    · rcases List.mem_cons.mp ht with rfl | ht
      · refine Int.le_trans h1 ?_
        split <;> omega
      · exact h2 t ht
theorem fmax_mem : ∀ (r : List St2) (m : Int), r.foldl (fun m t => if t.1 > m then t.1 else m) m = m ∨ ∃ t ∈ r, t.1 = r.foldl (fun m t => if t.1 > m then t.1 else m) m
  | [], m => .inl rfl
  | s :: r, m => by
    rw [List.foldl_cons]
    rcases fmax_mem r (if s.1 > m then s.1 else m) with h | ⟨t, ht, e⟩
    · rw [h]
      split
      · exact .inr ⟨s, List.mem_cons_self, rfl⟩
      · exact .inl rfl
    · exact .inr ⟨t, List.mem_cons_of_mem _ ht, e⟩
theorem fmin_mem : ∀ (r : List St2) (m : Int), r.foldl (fun m t => if t.2 < m then t.2 else m) m = m ∨ ∃ t ∈ r, t.2 = r.foldl (fun m t => if t.2 < m then t.2 else m) m
  | [], m => .inl rfl
  | s :: r, m => by
    rw [List.foldl_cons]
    rcases fmin_mem r (if s.2 < m then s.2 else m) with h | ⟨t, ht, e⟩
    · rw [h]
      split
      · exact .inr ⟨s, List.mem_cons_self, rfl⟩
      · exact .inl rfl
    · exact .inr ⟨t, List.mem_cons_of_mem _ ht, e⟩
/-- the greatest low, the least high, by what they are -/
theorem loOf_is {l : List St2} {m : Int} (h1 : m ∈ l.map (·.1)) (h2 : ∀ y ∈ l.map (·.1), y ≤ m) : m = loOf l := by
  cases l with
  | nil => cases h1
  | cons s r =>
    have g := fmax_spec r s.1
    have k := fmax_mem r s.1
    have up : m ≤ loOf (s :: r) := by
      obtain ⟨t, ht, e⟩ := List.mem_map.mp h1
      rcases List.mem_cons.mp ht with rfl | ht
      · exact e ▸ g.1
      · exact e ▸ g.2 t ht
    have dn : loOf (s :: r) ≤ m := by
      refine h2 _ ?_
      rcases k with k | ⟨t, ht, e⟩
      · exact List.mem_map.mpr ⟨s, List.mem_cons_self, k.symm⟩
      · exact List.mem_map.mpr ⟨t, List.mem_cons_of_mem _ ht, e⟩
    omega
theorem hiOf_is {l : List St2} {m : Int} (h1 : m ∈ l.map (·.2)) (h2 : ∀ y ∈ l.map (·.2), m ≤ y) : m = hiOf l := by
  cases l with
  | nil => cases h1
  | cons s r =>
    have g := fmin_spec r s.2
    have k := fmin_mem r s.2
    have up : hiOf (s :: r) ≤ m := by
      obtain ⟨t, ht, e⟩ := List.mem_map.mp h1
      rcases List.mem_cons.mp ht with rfl | ht
      · exact e ▸ g.1
      · exact e ▸ g.2 t ht
    have dn : m ≤ hiOf (s :: r) := by
      refine h2 _ ?_
      rcases k with k | ⟨t, ht, e⟩
      · exact List.mem_map.mpr ⟨s, List.mem_cons_self, k.symm⟩
      · exact List.mem_map.mpr ⟨t, List.mem_cons_of_mem _ ht, e⟩
    omega
def comb (l : List St2) : Option St2 := if loOf l ≤ hiOf l then some (loOf l, hiOf l) else none
def joinSt (o : Option St2) (t : St2) : Option St2 := match o with
  | none => none
  | some k => if (if t.1 > k.1 then t.1 else k.1) > (if t.2 < k.2 then t.2 else k.2) then none else some ((if t.1 > k.1 then t.1 else k.1), (if t.2 < k.2 then t.2 else k.2))
theorem comb_one {t : St2} (h : t.1 ≤ t.2) : comb [t] = some t := if_pos h
theorem comb_snoc {l : List St2} (h : l ≠ []) (t : St2) : comb (l ++ [t]) = joinSt (comb l) t := by
  unfold comb
  rw [loOf_snoc h, hiOf_snoc h]
  by_cases c : loOf l ≤ hiOf l
  · rw [if_pos c]
    show _ = if _ then _ else _
    by_cases d : (if t.1 > loOf l then t.1 else loOf l) ≤ (if t.2 < hiOf l then t.2 else hiOf l)
    · rw [if_pos d, if_neg (Int.not_lt.mpr d)]
    · rw [if_neg d, if_pos (Int.not_le.mp d)]
  · rw [if_neg c]
    refine if_neg fun d => c ?_
    have h1 : loOf l ≤ (if t.1 > loOf l then t.1 else loOf l) := by split <;> omega
    have h2 : (if t.2 < hiOf l then t.2 else hiOf l) ≤ hiOf l := by split <;> omega
    omega
abbrev Clk := List Nat × Option St2
def clkOf (now o : Int) (ls : List Let) (n : List Nat) : Option St2 := comb (stsOf now o n ls)
def gath (now o : Int) (ls : List Let) : List Clk := (namesOf ls).map fun n => (n, clkOf now o ls n)
/-- a clock's stretch as a value -/
def ClV (K : PySem.W.Frag) (H : Hp) (v : V) (o : Option St2) : Prop := match o with
  | none => v = .non
  | some t => ∃ b : Addr, v = .ref b ∧ SqT K H b [.int t.1, .int t.2]
theorem ClV.same {K : PySem.W.Frag} {H H' : Hp} {v : V} {o : Option St2} (h : ClV K H v o) (s : Same H H') : ClV K H' v o := by
  cases o with
  | none => exact h
  | some t => exact match h with | ⟨b, e, q⟩ => ⟨b, e, Ts.Same.seqT s q⟩
theorem SqT.off {K : PySem.W.Frag} {H : Hp} {d t : Addr} {xs : List V} {u o : HO} (h : SqT K H t xs) (hd : H d = some u) (n1 : ∀ ys, u ≠ .tup ys) (n2 : ∀ ob ys, u ≠ .frz ob (.tup ys)) : SqT K (upd H d o) t xs := by
  rcases h with (h | ⟨ob, h⟩) | h
  · exact .inl (.inl (by rw [upd_ne (ne_of h hd (fun z => n1 _ z.symm))]; exact h))
  · exact .inl (.inr ⟨ob, by rw [upd_ne (ne_of h hd (fun z => n2 _ _ z.symm))]; exact h⟩)
  · exact .inr h
theorem ClV.off {K : PySem.W.Frag} {H : Hp} {d : Addr} {v : V} {c : Option St2} {u o : HO} (h : ClV K H v c) (hd : H d = some u) (n1 : ∀ ys, u ≠ .tup ys) (n2 : ∀ ob ys, u ≠ .frz ob (.tup ys)) : ClV K (upd H d o) v c := by
  cases c with
  | none => exact h
  | some t => exact match h with | ⟨b, e, q⟩ => ⟨b, e, SqT.off q hd n1 n2⟩
def ClAt (K : PySem.W.Frag) (H : Hp) (v : V) (c : Clk) : Prop := ∃ (t : Addr) (w : V), v = .ref t ∧ SqT K H t [.str (mkS c.1), w] ∧ ClV K H w c.2
theorem ClAt.same {K : PySem.W.Frag} {H H' : Hp} {v : V} {c : Clk} (h : ClAt K H v c) (s : Same H H') : ClAt K H' v c := match h with
  | ⟨t, w, e, q, k⟩ => ⟨t, w, e, Ts.Same.seqT s q, k.same s⟩
theorem ClAt.off {K : PySem.W.Frag} {H : Hp} {d : Addr} {v : V} {c : Clk} {u o : HO} (h : ClAt K H v c) (hd : H d = some u) (n1 : ∀ ys, u ≠ .tup ys) (n2 : ∀ ob ys, u ≠ .frz ob (.tup ys)) : ClAt K (upd H d o) v c := match h with
  | ⟨t, w, e, q, k⟩ => ⟨t, w, e, SqT.off q hd n1 n2, k.off hd n1 n2⟩
def ClksAt (K : PySem.W.Frag) (H : Hp) (xs : List V) (cs : List Clk) : Prop := xs.length = cs.length ∧ ∀ (i : Nat) (v : V) (c : Clk), xs[i]? = some v → cs[i]? = some c → ClAt K H v c
theorem ClksAt.same {K : PySem.W.Frag} {H H' : Hp} {xs : List V} {cs : List Clk} (h : ClksAt K H xs cs) (s : Same H H') : ClksAt K H' xs cs := ⟨h.1, fun i v c a b => (h.2 i v c a b).same s⟩
theorem ClksAt.off {K : PySem.W.Frag} {H : Hp} {d : Addr} {xs : List V} {cs : List Clk} {u o : HO} (h : ClksAt K H xs cs) (hd : H d = some u) (n1 : ∀ ys, u ≠ .tup ys) (n2 : ∀ ob ys, u ≠ .frz ob (.tup ys)) : ClksAt K (upd H d o) xs cs := ⟨h.1, fun i v c a b => (h.2 i v c a b).off hd n1 n2⟩
theorem ClksAt.get {K : PySem.W.Frag} {H : Hp} {xs : List V} {cs : List Clk} (h : ClksAt K H xs cs) {i : Nat} {v : V} (e : xs[i]? = some v) : ∃ c, cs[i]? = some c ∧ ClAt K H v c := by
  have hi : i < cs.length := by rw [← h.1]; exact (List.getElem?_eq_some_iff.mp e).1
  exact ⟨cs[i], List.getElem?_eq_getElem hi, h.2 i v _ e (List.getElem?_eq_getElem hi)⟩
theorem ClksAt.nil {K : PySem.W.Frag} {H : Hp} : ClksAt K H [] [] := ⟨rfl, fun i v c h _ => by simp at h⟩
theorem ClksAt.snoc {K : PySem.W.Frag} {H : Hp} {xs : List V} {cs : List Clk} {v : V} {c : Clk} (h : ClksAt K H xs cs) (hc : ClAt K H v c) : ClksAt K H (xs ++ [v]) (cs ++ [c]) := by
  refine ⟨by rw [List.length_append, List.length_append, h.1]; rfl, fun i u y a b => ?_⟩
  by_cases hi : i < xs.length
  · rw [List.getElem?_append_left hi] at a
    rw [List.getElem?_append_left (by rw [← h.1]; exact hi)] at b
    exact h.2 i u y a b
  · have hl := (List.getElem?_eq_some_iff.mp a).1
    rw [List.length_append] at hl
    have e : i = xs.length := by simp at hl; omega
    subst e
    rw [List.getElem?_append_right (Nat.le_refl _), Nat.sub_self] at a
    rw [List.getElem?_append_right (by rw [h.1]; exact Nat.le_refl _), h.1, Nat.sub_self] at b
    cases a
    cases b
    exact hc
/-- a clock's data -/
def stD : Option St2 → PyData
  | none => .none
  | some t => .tuple [.int t.1, .int t.2]
def clkD (c : Clk) : PyData := .tuple [.str (mkS c.1), stD c.2]
def clksD (cs : List Clk) : PyData := .list (cs.map clkD)
theorem ClV.dp {K : PySem.W.Frag} {H : Hp} {v : V} {o : Option St2} (h : ClV K H v o) : Dp K H v (stD o) := by
  cases o with
  | none => cases (show v = .non from h); exact .non
  | some t =>
    obtain ⟨b, rfl, q⟩ := h
    exact .tup q (.cons (.int _) (.cons (.int _) .nil))
theorem ClAt.dp {K : PySem.W.Frag} {H : Hp} {v : V} {c : Clk} (h : ClAt K H v c) : Dp K H v (clkD c) := by
  obtain ⟨t, w, rfl, q, k⟩ := h
  exact .tup q (.cons (.str _) (.cons k.dp .nil))
theorem dps_of {K : PySem.W.Frag} {H : Hp} {α : Type} {f : α → PyData} : ∀ {xs : List V} {cs : List α}, xs.length = cs.length → (∀ (i : Nat) (v : V) (c : α), xs[i]? = some v → cs[i]? = some c → Dp K H v (f c)) → DpAll K H xs (cs.map f)
  | [], [], _, _ => .nil
  | [], _ :: _, h, _ => by cases h
  | _ :: _, [], h, _ => by cases h
  | v :: xs, c :: cs, h, g => .cons (g 0 v c rfl rfl) (dps_of (Nat.succ.inj h) fun i v' c' a b => g (i + 1) v' c' a b)
theorem ClksAt.dp {K : PySem.W.Frag} {H : Hp} {p : Addr} {xs : List V} {cs : List Clk} (h : ClksAt K H xs cs) (hp : SqL K H p xs) : Dp K H (.ref p) (clksD cs) :=
  .lst hp (dps_of h.1 fun i v c a b => (h.2 i v c a b).dp)
def letD (x : Let) : PyData := .tuple [.str (mkS x.nm), .int x.s, .int x.b, .int x.lo, .int x.hi]
theorem LetsAt.dp {K : PySem.W.Frag} {H : Hp} {p : Addr} {as : List Addr} {ls : List Let} (h : LetsAt K H as ls) (hp : SqL K H p (as.map V.ref)) : Dp K H (.ref p) (.list (ls.map letD)) := by
  refine .lst hp (dps_of (by rw [List.length_map, h.1]) fun i v c a b => ?_)
  obtain ⟨t, x, rfl, _, hx, hT⟩ := h.get a
  rw [hx] at b
  cases b
  exact .tup hT (.cons (.str _) (.cons (.int _) (.cons (.int _) (.cons (.int _) (.cons (.int _) .nil)))))
/-! ### such data may be compared -/
theorem strOk_nm {l : List Nat} (h : low l) : PyData.strOk (mkS l) = true := by
  unfold PyData.strOk mkS
  rw [Array.all_eq_true]
  intro i hi
  have hm : l[i]'(by simpa using hi) ∈ l := List.getElem_mem _
  have := h _ hm
  simp only [List.getElem_toArray, decide_eq_true_eq]
  omega
def Shp (n : Nat) (d : PyData) : Prop := d.canLay0 = true ∧ d.depth ≤ n
theorem Shp.ok {n : Nat} {d : PyData} (h : Shp n d) (hn : n ≤ 64) : SeqAt.shaped d = true := by
  unfold SeqAt.shaped
  rw [h.1, decide_eq_true (Nat.le_trans h.2 hn)]
  rfl
theorem Shp.up {n m : Nat} {d : PyData} (h : Shp n d) (hn : n ≤ m) : Shp m d := ⟨h.1, Nat.le_trans h.2 hn⟩
theorem shp_all {n : Nat} : ∀ {ds : List PyData}, (∀ d ∈ ds, Shp n d) → PyData.canLayAll0 ds = true ∧ PyData.depthAll ds ≤ n
  | [], _ => ⟨rfl, Nat.zero_le _⟩
  | d :: ds, h => by
    obtain ⟨h1, h2⟩ := shp_all fun d hd => h d (List.mem_cons_of_mem _ hd)
    obtain ⟨g1, g2⟩ := h d List.mem_cons_self
    refine ⟨?_, Nat.max_le.mpr ⟨g2, h2⟩⟩
    show (PyData.canLay0 d && PyData.canLayAll0 ds) = true
    rw [g1, h1]
    rfl
theorem shp_list {n : Nat} {ds : List PyData} (h : ∀ d ∈ ds, Shp n d) : Shp (n + 1) (.list ds) := ⟨(shp_all h).1, Nat.succ_le_succ (shp_all h).2⟩
theorem shp_tup {n : Nat} {ds : List PyData} (h : ∀ d ∈ ds, Shp n d) : Shp (n + 1) (.tuple ds) := ⟨(shp_all h).1, Nat.succ_le_succ (shp_all h).2⟩
theorem shp_int {n : Nat} (i : Int) : Shp n (.int i) := ⟨rfl, Nat.zero_le _⟩
theorem shp_str {n : Nat} {l : List Nat} (h : low l) : Shp n (.str (mkS l)) := ⟨strOk_nm h, Nat.zero_le _⟩
theorem shp_st (o : Option St2) : Shp 1 (stD o) := by
  cases o with
  | none => exact ⟨rfl, Nat.zero_le _⟩
  | some t => exact ⟨rfl, Nat.le_refl _⟩
theorem shp_clk {c : Clk} (h : low c.1) : Shp 2 (clkD c) := by
  refine shp_tup fun d hd => ?_
  rcases List.mem_cons.mp hd with rfl | hd
  · exact shp_str h
  · rw [List.mem_singleton] at hd
    exact hd ▸ shp_st _
theorem shp_clks {cs : List Clk} (h : ∀ c ∈ cs, low c.1) : SeqAt.shaped (clksD cs) = true := Shp.ok (n := 3) (shp_list fun d hd => by
  obtain ⟨c, hc, rfl⟩ := List.mem_map.mp hd
  exact shp_clk (h c hc)) (by decide)
theorem shp_let {x : Let} (h : low x.nm) : Shp 1 (letD x) := by
  refine shp_tup fun d hd => ?_
  rcases List.mem_cons.mp hd with rfl | hd
  · exact shp_str h
  · simp only [List.mem_cons, List.not_mem_nil, or_false] at hd
    rcases hd with rfl | rfl | rfl | rfl <;> exact shp_int _
theorem shp_lets {ls : List Let} (h : ∀ x ∈ ls, low x.nm) : SeqAt.shaped (.list (ls.map letD)) = true := Shp.ok (n := 2) (shp_list fun d hd => by
  obtain ⟨c, hc, rfl⟩ := List.mem_map.mp hd
  exact shp_let (h c hc)) (by decide)
theorem eqv_self {d : PyData} (h : SeqAt.shaped d = true) : PyData.eqv d d = true := SeqAt.eqv_refl d (SeqAt.canLay_of_shaped h)
theorem gath_low {now o : Int} {ls : List Let} (h : ∀ x ∈ ls, x.Ok) : ∀ c ∈ gath now o ls, low c.1 := fun c hc => by
  obtain ⟨n, hn, rfl⟩ := List.mem_map.mp hc
  obtain ⟨x, hx, e⟩ := namesOf_mem.mp hn
  exact e ▸ (h x hx).nm.2.2

/-- stretches as tuples at addresses -/
def StsAt (K : PySem.W.Frag) (H : Hp) (bs : List Addr) (ts : List St2) : Prop := bs.length = ts.length ∧ ∀ (i : Nat) (b : Addr) (t : St2), bs[i]? = some b → ts[i]? = some t → SqT K H b [.int t.1, .int t.2]
theorem StsAt.same {K : PySem.W.Frag} {H H' : Hp} {bs : List Addr} {ts : List St2} (h : StsAt K H bs ts) (s : Same H H') : StsAt K H' bs ts := ⟨h.1, fun i b t x y => Ts.Same.seqT s (h.2 i b t x y)⟩
theorem StsAt.off {K : PySem.W.Frag} {H : Hp} {d : Addr} {bs : List Addr} {ts : List St2} {u o : HO} (h : StsAt K H bs ts) (hd : H d = some u) (n1 : ∀ ys, u ≠ .tup ys) (n2 : ∀ ob ys, u ≠ .frz ob (.tup ys)) : StsAt K (upd H d o) bs ts := ⟨h.1, fun i b t x y => SqT.off (h.2 i b t x y) hd n1 n2⟩
theorem StsAt.nil {K : PySem.W.Frag} {H : Hp} : StsAt K H [] [] := ⟨rfl, fun i b t h _ => by simp at h⟩
theorem StsAt.snoc {K : PySem.W.Frag} {H : Hp} {bs : List Addr} {ts : List St2} {b : Addr} {t : St2} (h : StsAt K H bs ts) (hb : SqT K H b [.int t.1, .int t.2]) : StsAt K H (bs ++ [b]) (ts ++ [t]) := by
  refine ⟨by rw [List.length_append, List.length_append, h.1]; rfl, fun i u y x z => ?_⟩
  by_cases hi : i < bs.length
  · rw [List.getElem?_append_left hi] at x
    rw [List.getElem?_append_left (by rw [← h.1]; exact hi)] at z
    exact h.2 i u y x z
  · have hl := (List.getElem?_eq_some_iff.mp x).1
    rw [List.length_append] at hl
    have e : i = bs.length := by simp at hl; omega
    subst e
    rw [List.getElem?_append_right (Nat.le_refl _), Nat.sub_self] at x
    rw [List.getElem?_append_right (by rw [h.1]; exact Nat.le_refl _), h.1, Nat.sub_self] at z
    cases x
    cases z
    exact hb
theorem StsAt.get {K : PySem.W.Frag} {H : Hp} {bs : List Addr} {ts : List St2} (h : StsAt K H bs ts) {i : Nat} {v : V} (e : (bs.map V.ref)[i]? = some v) : ∃ b t, v = .ref b ∧ ts[i]? = some t ∧ SqT K H b [.int t.1, .int t.2] := by
  rw [List.getElem?_map] at e
  cases eb : bs[i]? with
  | none => rw [eb] at e; cases e
  | some b =>
    rw [eb] at e
    have hi : i < ts.length := by rw [← h.1]; exact (List.getElem?_eq_some_iff.mp eb).1
    exact ⟨b, ts[i], (Option.some.inj e).symm, List.getElem?_eq_getElem hi, h.2 i b _ eb (List.getElem?_eq_getElem hi)⟩
def gathTo (now o : Int) (ls : List Let) (i : Nat) : List Clk := (namesOf (ls.take i)).map fun n => (n, clkOf now o ls n)
theorem stsOf_take {now o : Int} {n : List Nat} {ls : List Let} {i : Nat} {x : Let} (h : ls[i]? = some x) : stsOf now o n (ls.take (i + 1)) = if x.nm = n then stsOf now o n (ls.take i) ++ [brSt now o x] else stsOf now o n (ls.take i) := by
  rw [take_snoc h]
  split
  · rename_i e; exact stsOf_eq now o _ e
  · rename_i e; exact stsOf_ne now o _ e

/-! ### clocks as a list, what they bear -/
def bearsC (t : Int) (c : Clk) : Bool := match c.2 with
  | none => false
  | some s => decide (s.1 ≤ t) && decide (t ≤ s.2)
def manyC (cs : List Clk) (t : Int) : Nat := cs.countP (bearsC t)
def lowsC (cs : List Clk) : List Int := cs.filterMap fun c => c.2.map (·.1)
def edgeC (c : Clk) : List Int := match c.2 with
  | none => []
  | some s => [s.1, s.2 + 1]
def edgesC (cs : List Clk) : List Int := cs.flatMap edgeC
theorem manyC_snoc {cs : List Clk} {c : Clk} {t : Int} : manyC (cs ++ [c]) t = manyC cs t + (if bearsC t c = true then 1 else 0) := by
  unfold manyC
  rw [List.countP_append, List.countP_singleton]
theorem manyC_le {cs : List Clk} {t : Int} : manyC cs t ≤ cs.length := List.countP_le_length
/-- the clocks of a law: names of small letters, no stretch that falls -/
structure ClksOk (cs : List Clk) : Prop where
  nm : ∀ c ∈ cs, nmOk c.1
  st : ∀ c ∈ cs, ∀ s : St2, c.2 = some s → s.1 ≤ s.2
  nd : (cs.map (·.1)).Nodup
def spMany (K : PySem.W.Frag) : Sp := fun vs H Q _ => ∃ (q : Addr) (xs : List V) (cs : List Clk) (t : Int), vs = [.ref q, .int t] ∧ SqL K H q xs ∧ ClksAt K H xs cs ∧ Q (.int (manyC cs t)) H
def spLows (K : PySem.W.Frag) : Sp := fun vs H Q _ => ∃ (q : Addr) (xs : List V) (cs : List Clk), vs = [.ref q] ∧ SqL K H q xs ∧ ClksAt K H xs cs ∧ cs.length ≤ 1000 ∧ ∀ (p : Addr) (H' : Hp), Same H H' → H p = none → H' p = some (.lst ((lowsC cs).map V.int)) → Q (.ref p) H'
def spEdges (K : PySem.W.Frag) : Sp := fun vs H Q _ => ∃ (q : Addr) (xs : List V) (cs : List Clk), vs = [.ref q] ∧ SqL K H q xs ∧ ClksAt K H xs cs ∧ cs.length ≤ 1000 ∧ ∀ (p : Addr) (H' : Hp), Same H H' → H p = none → H' p = some (.lst ((edgesC cs).map V.int)) → Q (.ref p) H'
def spClocks (K : PySem.W.Frag) : Sp := fun vs H Q _ => ∃ (l : Addr) (ns : List Int), vs = [.ref l] ∧ SqL K H l (ns.map V.int) ∧ ns.length ≤ 63 ∧
  ∀ (q : Addr) (xs : List V) (cs : List Clk) (H' : Hp), Same H H' → H q = none → H' q = some (.lst xs) → ClksAt K H' xs cs → cs.length ≤ 40 → ClksOk cs → Q (.ref q) H'
def spPoint (K : PySem.W.Frag) : Sp := fun vs H Q _ => ∃ (l q : Addr) (ns : List Int) (xs : List V) (cs : List Clk), vs = [.ref l, .ref q] ∧ SqL K H l (ns.map V.int) ∧ SqL K H q xs ∧ ClksAt K H xs cs ∧ cs.length ≤ 1000 ∧ ∀ (t : Int) (H' : Hp), Same H H' → Q (.int t) H'
def stsD (ts : List St2) : PyData := .list (ts.map fun t => .tuple [.int t.1, .int t.2])
theorem StsAt.dp {K : PySem.W.Frag} {H : Hp} {p : Addr} {bs : List Addr} {ts : List St2} (h : StsAt K H bs ts) (hp : SqL K H p (bs.map V.ref)) : Dp K H (.ref p) (stsD ts) := by
  refine .lst hp (dps_of (by rw [List.length_map, h.1]) fun i v c a b => ?_)
  obtain ⟨b', t, rfl, ht, hT⟩ := h.get a
  rw [ht] at b
  cases b
  exact .tup hT (.cons (.int _) (.cons (.int _) .nil))
theorem shp_sts (ts : List St2) : SeqAt.shaped (stsD ts) = true := Shp.ok (n := 2) (shp_list fun d hd => by
  obtain ⟨t, _, rfl⟩ := List.mem_map.mp hd
  exact ⟨rfl, Nat.le_refl _⟩) (by decide)

def bearersC (cs : List Clk) (t : Int) : List (List Nat) := (cs.filter (bearsC t)).map (·.1)
theorem bearersC_snoc {cs : List Clk} {c : Clk} {t : Int} : bearersC (cs ++ [c]) t = bearersC cs t ++ (if bearsC t c = true then [c.1] else []) := by
  unfold bearersC
  rw [List.filter_append, List.map_append]
  congr 1
  by_cases h : bearsC t c = true
  · rw [if_pos h, List.filter_cons_of_pos h]
    rfl
  · rw [if_neg h, List.filter_cons_of_neg h]
    rfl
theorem bearersC_len {cs : List Clk} {t : Int} : (bearersC cs t).length ≤ cs.length := by
  unfold bearersC
  rw [List.length_map]
  exact List.length_filter_le _ _
theorem bearersC_low {cs : List Clk} {t : Int} (h : ∀ c ∈ cs, nmOk c.1) : ∀ z ∈ bearersC cs t, low z := fun z hz => by
  obtain ⟨c, hc, rfl⟩ := List.mem_map.mp hz
  exact (h c (List.mem_filter.mp hc).1).2.2
def nmsD (l : List (List Nat)) : PyData := .list (l.map fun z => .str (mkS z))
theorem dp_txs {K : PySem.W.Frag} {H : Hp} : ∀ l : List (List Nat), DpAll K H (txs l) (l.map fun z => PyData.str (mkS z))
  | [] => .nil
  | _ :: l => .cons (.str _) (dp_txs l)
theorem shp_nms {l : List (List Nat)} (h : ∀ z ∈ l, low z) : SeqAt.shaped (nmsD l) = true := Shp.ok (n := 1) (shp_list fun d hd => by
  obtain ⟨z, hz, rfl⟩ := List.mem_map.mp hd
  exact shp_str (h z hz)) (by decide)
/-- w is the least of the lows of some clocks that m of all bear, m the most that bear one of these -/
def FewTo (cs part : List Clk) (m : Nat) (w : V) : Prop := (∀ l ∈ lowsC part, manyC cs l ≤ m) ∧ ((m = 0 ∧ w = .non) ∨ (0 < m ∧ ∃ l ∈ lowsC part, manyC cs l = m ∧ w = .int l ∧ ∀ l' ∈ lowsC part, manyC cs l' = m → l ≤ l'))
def FewAt (cs : List Clk) (m : Nat) (w : V) : Prop := FewTo cs cs m w
theorem lowsC_none {cs : List Clk} {n : List Nat} : lowsC (cs ++ [(n, none)]) = lowsC cs := by
  unfold lowsC
  rw [List.filterMap_append]
  simp
theorem lowsC_some {cs : List Clk} {n : List Nat} {st : St2} : lowsC (cs ++ [(n, some st)]) = lowsC cs ++ [st.1] := by
  unfold lowsC
  rw [List.filterMap_append]
  rfl
theorem bearersC_count {cs : List Clk} {t : Int} : (txs (bearersC cs t)).length = manyC cs t := by
  unfold txs bearersC manyC
  rw [List.length_map, List.length_map, List.countP_eq_length_filter]
theorem many_pos {cs : List Clk} {c : Clk} {st : St2} (hc : c ∈ cs) (e : c.2 = some st) (h : st.1 ≤ st.2) : 0 < manyC cs st.1 := by
  refine List.countP_pos_iff.mpr ⟨c, hc, ?_⟩
  unfold bearsC
  rw [e]
  show (decide (st.1 ≤ st.1) && decide (st.1 ≤ st.2)) = true
  rw [decide_eq_true (Int.le_refl _), decide_eq_true h]
  rfl
def spBears (K : PySem.W.Frag) : Sp := fun vs H Q _ => ∃ (w : V) (o : Option St2) (t : Int), vs = [w, .int t] ∧ ClV K H w o ∧ Q (.bl (bearsC t ([], o))) H
def spBearers (K : PySem.W.Frag) : Sp := fun vs H Q _ => ∃ (q : Addr) (xs : List V) (cs : List Clk) (t : Int), vs = [.ref q, .int t] ∧ SqL K H q xs ∧ ClksAt K H xs cs ∧ cs.length ≤ 1000 ∧
  ∀ (p : Addr) (H' : Hp), Same H H' → H p = none → H' p = some (.lst (txs (bearersC cs t))) → Q (.ref p) H'
def spFewest (K : PySem.W.Frag) : Sp := fun vs H Q _ => ∃ (q : Addr) (xs : List V) (cs : List Clk), vs = [.ref q] ∧ SqL K H q xs ∧ ClksAt K H xs cs ∧ cs.length ≤ 1000 ∧ ClksOk cs ∧
  ∀ (p : Addr) (m : Nat) (w : V) (H' : Hp), FewAt cs m w → Same H H' → H p = none → H' p = some (.tup [.int ((cs.length : Int) - (m : Int)), w]) → Q (.ref p) H'

/-- the stretches of all times that at least need clocks bear -/
structure PartsOf (cs : List Clk) (need : Int) (ts : List St2) : Prop where
  le : ∀ t ∈ ts, t.1 ≤ t.2
  gap : ts.Pairwise fun a b => a.2 + 1 < b.1
  cov : ∀ x : Int, need ≤ (manyC cs x : Int) ↔ ∃ t ∈ ts, t.1 ≤ x ∧ x ≤ t.2
theorem PartsOf.next {cs : List Clk} {need : Int} {ts : List St2} (h : PartsOf cs need ts) {i j : Nat} {a b : St2} (ha : ts[i]? = some a) (hb : ts[j]? = some b) (hij : i < j) : a.2 + 1 < b.1 := by
  obtain ⟨h1, rfl⟩ := List.getElem?_eq_some_iff.mp ha
  obtain ⟨h2, rfl⟩ := List.getElem?_eq_some_iff.mp hb
  exact List.pairwise_iff_getElem.mp h.gap i j h1 h2 hij
theorem PartsOf.apart {cs : List Clk} {need : Int} {ts : List St2} (h : PartsOf cs need ts) {a b : St2} (ha : a ∈ ts) (hb : b ∈ ts) : a = b ∨ a.2 + 1 < b.1 ∨ b.2 + 1 < a.1 := by
  obtain ⟨i, hi⟩ := List.getElem?_of_mem ha
  obtain ⟨j, hj⟩ := List.getElem?_of_mem hb
  rcases Nat.lt_trichotomy i j with z | z | z
  · exact .inr (.inl (h.next hi hj z))
  · subst z
    rw [hi] at hj
    exact .inl (Option.some.inj hj)
  · exact .inr (.inr (h.next hj hi z))
theorem PartsOf.below {cs : List Clk} {need : Int} {ts : List St2} (h : PartsOf cs need ts) {a : St2} (ha : a ∈ ts) : (manyC cs (a.1 - 1) : Int) < need := by
  refine Int.not_le.mp fun z => ?_
  obtain ⟨b, hb, h1, h2⟩ := (h.cov _).mp z
  have := h.le a ha
  have := h.le b hb
  rcases h.apart ha hb with e | e | e
  · subst e; omega
  · omega
  · omega
theorem PartsOf.above {cs : List Clk} {need : Int} {ts : List St2} (h : PartsOf cs need ts) {a : St2} (ha : a ∈ ts) : (manyC cs (a.2 + 1) : Int) < need := by
  refine Int.not_le.mp fun z => ?_
  obtain ⟨b, hb, h1, h2⟩ := (h.cov _).mp z
  have := h.le a ha
  have := h.le b hb
  rcases h.apart ha hb with e | e | e
  · subst e; omega
  · omega
  · omega
/-- there is but one such list -/
theorem gaps_one : ∀ {ts us : List St2}, (∀ t ∈ ts, t.1 ≤ t.2) → (∀ t ∈ us, t.1 ≤ t.2) → ts.Pairwise (fun a b => a.2 + 1 < b.1) → us.Pairwise (fun a b => a.2 + 1 < b.1) → (∀ x : Int, (∃ t ∈ ts, t.1 ≤ x ∧ x ≤ t.2) ↔ ∃ t ∈ us, t.1 ≤ x ∧ x ≤ t.2) → ts = us
  | [], [], _, _, _, _, _ => rfl
  | [], u :: us, _, lu, _, _, h => by
    obtain ⟨t, ht, _⟩ := (h u.1).mpr ⟨u, List.mem_cons_self, Int.le_refl _, lu u List.mem_cons_self⟩
    cases ht
  | t :: ts, [], lt, _, _, _, h => by
    obtain ⟨u, hu, _⟩ := (h t.1).mp ⟨t, List.mem_cons_self, Int.le_refl _, lt t List.mem_cons_self⟩
    cases hu
  | t :: ts, u :: us, lt, lu, gt, gu, h => by
    have l1 := lt t List.mem_cons_self
    have l2 := lu u List.mem_cons_self
    obtain ⟨g1, g2⟩ := List.pairwise_cons.mp gt
    obtain ⟨g3, g4⟩ := List.pairwise_cons.mp gu
    have a1 : u.1 ≤ t.1 := by
      obtain ⟨v, hv, h1, h2⟩ := (h t.1).mp ⟨t, List.mem_cons_self, Int.le_refl _, l1⟩
      rcases List.mem_cons.mp hv with e | e
      · rw [← e]; exact h1
      · have := g3 v e; omega
    have a2 : t.1 ≤ u.1 := by
      obtain ⟨v, hv, h1, h2⟩ := (h u.1).mpr ⟨u, List.mem_cons_self, Int.le_refl _, l2⟩
      rcases List.mem_cons.mp hv with e | e
      · rw [← e]; exact h1
      · have := g1 v e; omega
    have a3 : u.2 ≤ t.2 := by
      refine Int.not_lt.mp fun z => ?_
      obtain ⟨v, hv, h1, h2⟩ := (h (t.2 + 1)).mpr ⟨u, List.mem_cons_self, by omega, by omega⟩
      rcases List.mem_cons.mp hv with e | e
      · rw [e] at h2; omega
      · have := g1 v e; omega
    have a4 : t.2 ≤ u.2 := by
      refine Int.not_lt.mp fun z => ?_
      obtain ⟨v, hv, h1, h2⟩ := (h (u.2 + 1)).mp ⟨t, List.mem_cons_self, by omega, by omega⟩
      rcases List.mem_cons.mp hv with e | e
      · rw [e] at h2; omega
      · have := g3 v e; omega
    have e : t = u := Prod.ext (by omega) (by omega)
    subst e
    congr 1
    refine gaps_one (fun v hv => lt v (List.mem_cons_of_mem _ hv)) (fun v hv => lu v (List.mem_cons_of_mem _ hv)) g2 g4 fun x => ?_
    constructor
    · rintro ⟨v, hv, h1, h2⟩
      obtain ⟨v', hv', h3, h4⟩ := (h x).mp ⟨v, List.mem_cons_of_mem _ hv, h1, h2⟩
      rcases List.mem_cons.mp hv' with e | e
      · have := g1 v hv
        rw [e] at h4
        omega
      · exact ⟨v', e, h3, h4⟩
    · rintro ⟨v, hv, h1, h2⟩
      obtain ⟨v', hv', h3, h4⟩ := (h x).mpr ⟨v, List.mem_cons_of_mem _ hv, h1, h2⟩
      rcases List.mem_cons.mp hv' with e | e
      · have := g3 v hv
        rw [e] at h4
        omega
      · exact ⟨v', e, h3, h4⟩
theorem PartsOf.one {cs : List Clk} {need : Int} {ts us : List St2} (h : PartsOf cs need ts) (g : PartsOf cs need us) : ts = us := gaps_one h.le g.le h.gap g.gap fun x => (h.cov x).symm.trans (g.cov x)
theorem edgesC_none {cs : List Clk} {n : List Nat} : edgesC (cs ++ [(n, none)]) = edgesC cs := by
  unfold edgesC
  rw [List.flatMap_append]
  simp [edgeC]
theorem edgesC_some {cs : List Clk} {n : List Nat} {st : St2} : edgesC (cs ++ [(n, some st)]) = edgesC cs ++ [st.1, st.2 + 1] := by
  unfold edgesC
  rw [List.flatMap_append]
  simp [edgeC]
theorem edgesC_len : ∀ cs : List Clk, (edgesC cs).length ≤ 2 * cs.length
  | [] => Nat.le_refl _
  | (n, none) :: cs => by
    have := edgesC_len cs
    show (edgesC cs).length ≤ 2 * (cs.length + 1)
    omega
  | (n, some st) :: cs => by
    have := edgesC_len cs
    show (st.1 :: (st.2 + 1) :: edgesC cs).length ≤ 2 * (cs.length + 1)
    simp only [List.length_cons]
    omega
def inSt (x : Int) (t : St2) : Bool := decide (t.1 ≤ x) && decide (x ≤ t.2)
theorem PartsOf.held {cs : List Clk} {need : Int} {ts : List St2} (h : PartsOf cs need ts) (x : Int) : (!PyData.eqv (stsD (ts.filter (inSt x))) (.list [])) = decide ((manyC cs x : Int) ≥ need) := by
  by_cases z : need ≤ (manyC cs x : Int)
  · rw [decide_eq_true (show (manyC cs x : Int) ≥ need from z)]
    obtain ⟨t, ht, h1, h2⟩ := (h.cov x).mp z
    have hm : t ∈ ts.filter (inSt x) := List.mem_filter.mpr ⟨ht, by unfold inSt; rw [decide_eq_true h1, decide_eq_true h2]; rfl⟩
    cases e : ts.filter (inSt x) with
    | nil => rw [e] at hm; cases hm
    | cons a l => rfl
  · rw [decide_eq_false (show ¬ (manyC cs x : Int) ≥ need from z)]
    have e : ts.filter (inSt x) = [] := List.filter_eq_nil_iff.mpr fun t ht hb => z ((h.cov x).mpr ⟨t, ht, by
      unfold inSt at hb
      simpa using hb⟩)
    rw [e]
    rfl
def spParts (K : PySem.W.Frag) : Sp := fun vs H Q _ => ∃ (q : Addr) (xs : List V) (cs : List Clk) (need : Int), vs = [.ref q, .int need] ∧ SqL K H q xs ∧ ClksAt K H xs cs ∧ cs.length ≤ 1000 ∧ ClksOk cs ∧ 1 ≤ need ∧
  ∀ (p : Addr) (bs : List Addr) (ts : List St2) (H' : Hp), PartsOf cs need ts → ts.length ≤ 2000 → Same H H' → H p = none → H' p = some (.lst (bs.map V.ref)) → StsAt K H' bs ts → Q (.ref p) H'
def spPartsRight (K : PySem.W.Frag) : Sp := fun vs H Q _ => ∃ (q pf : Addr) (need : Int) (xs : List V) (cs : List Clk) (bs : List Addr) (ts : List St2), vs = [.ref q, .int need, .ref pf] ∧ SqL K H q xs ∧ ClksAt K H xs cs ∧ cs.length ≤ 1000 ∧
  H pf = some (.lst (bs.map V.ref)) ∧ StsAt K H bs ts ∧ ts.length ≤ 2000 ∧ PartsOf cs need ts ∧ ∀ H', Same H H' → Q (.bl true) H'

/-! ### the turns of clocks -/
def dl1 (c : Clk) (x : Int) : Int := match c.2 with
  | none => 0
  | some s => (if s.1 = x then 1 else 0) - (if s.2 + 1 = x then 1 else 0)
def dl : List Clk → Int → Int
  | [], _ => 0
  | c :: cs, x => dl1 c x + dl cs x
theorem dl_snoc {c : Clk} {x : Int} : ∀ cs : List Clk, dl (cs ++ [c]) x = dl cs x + dl1 c x
  | [] => by
    show dl1 c x + 0 = 0 + dl1 c x
    omega
  | d :: cs => by
    show dl1 d x + dl (cs ++ [c]) x = dl1 d x + dl cs x + dl1 c x
    rw [dl_snoc cs, Int.add_assoc]
theorem manyC_cons {c : Clk} {cs : List Clk} {t : Int} : manyC (c :: cs) t = (if bearsC t c = true then 1 else 0) + manyC cs t := by
  unfold manyC
  rw [List.countP_cons, Nat.add_comm]
theorem bears_step {c : Clk} {x : Int} (h : ∀ s : St2, c.2 = some s → s.1 ≤ s.2) : (((if bearsC x c = true then 1 else 0 : Nat)) : Int) = (((if bearsC (x - 1) c = true then 1 else 0 : Nat)) : Int) + dl1 c x := by
  obtain ⟨n, o⟩ := c
  cases o with
  | none => rfl
  | some s =>
    have hs := h s rfl
    unfold bearsC dl1
    simp only [Bool.and_eq_true, decide_eq_true_eq]
    repeat' split
    all_goals omega
theorem manyC_step (x : Int) : ∀ {cs : List Clk}, (∀ c ∈ cs, ∀ s : St2, c.2 = some s → s.1 ≤ s.2) → (manyC cs x : Int) = (manyC cs (x - 1) : Int) + dl cs x
  | [], _ => rfl
  | c :: cs, h => by
    have ih := manyC_step x (cs := cs) fun d hd => h d (List.mem_cons_of_mem _ hd)
    have hc := bears_step (x := x) (h c List.mem_cons_self)
    rw [manyC_cons, manyC_cons]
    show _ = _ + (dl1 c x + dl cs x)
    generalize (if bearsC x c = true then 1 else 0 : Nat) = a at hc ⊢
    generalize (if bearsC (x - 1) c = true then 1 else 0 : Nat) = b at hc ⊢
    omega
theorem edge_lo {cs : List Clk} {c : Clk} {s : St2} (hc : c ∈ cs) (e : c.2 = some s) : s.1 ∈ edgesC cs ∧ s.2 + 1 ∈ edgesC cs := by
  have h : edgeC c = [s.1, s.2 + 1] := by unfold edgeC; rw [e]
  constructor
  · exact List.mem_flatMap.mpr ⟨c, hc, by rw [h]; exact List.mem_cons_self⟩
  · exact List.mem_flatMap.mpr ⟨c, hc, by rw [h]; exact List.mem_cons_of_mem _ List.mem_cons_self⟩
theorem bears_iff {c : Clk} {x : Int} : bearsC x c = true ↔ ∃ s, c.2 = some s ∧ s.1 ≤ x ∧ x ≤ s.2 := by
  unfold bearsC
  cases e : c.2 with
  | none => simp
  | some s => simp
theorem manyC_const {cs : List Clk} {x y : Int} (hxy : x ≤ y) (h : ∀ e ∈ edgesC cs, e ≤ x ∨ y < e) : manyC cs x = manyC cs y := by
  refine List.countP_congr fun c hc => ?_
  rw [bears_iff, bears_iff]
  constructor
  · rintro ⟨s, e, h1, h2⟩
    obtain ⟨q1, q2⟩ := edge_lo hc e
    have a1 := h _ q1
    have a2 := h _ q2
    exact ⟨s, e, by omega, by omega⟩
  · rintro ⟨s, e, h1, h2⟩
    obtain ⟨q1, q2⟩ := edge_lo hc e
    have a1 := h _ q1
    have a2 := h _ q2
    exact ⟨s, e, by omega, by omega⟩
theorem manyC_low {cs : List Clk} {x : Int} (h : ∀ e ∈ edgesC cs, x < e) : manyC cs x = 0 := by
  refine List.countP_eq_zero.mpr fun c hc hb => ?_
  obtain ⟨s, e, h1, h2⟩ := bears_iff.mp hb
  have := h _ (edge_lo hc e).1
  omega
theorem manyC_high {cs : List Clk} {x : Int} (h : ∀ e ∈ edgesC cs, e ≤ x) : manyC cs x = 0 := by
  refine List.countP_eq_zero.mpr fun c hc hb => ?_
  obtain ⟨s, e, h1, h2⟩ := bears_iff.mp hb
  have := h _ (edge_lo hc e).2
  omega
theorem top_of : ∀ l : List Int, ∃ b : Int, ∀ x ∈ l, x ≤ b
  | [] => ⟨0, fun _ h => nomatch h⟩
  | a :: l => by
    obtain ⟨b, h⟩ := top_of l
    refine ⟨max a b, fun x hx => ?_⟩
    rcases List.mem_cons.mp hx with e | e
    · omega
    · have := h x e; omega
theorem most_of : ∀ {l : List Int} {a : Int}, a ∈ l → ∃ b ∈ l, ∀ x ∈ l, x ≤ b
  | [], _, h => nomatch h
  | [c], _, _ => ⟨c, List.mem_cons_self, fun x hx => by rw [List.mem_singleton.mp hx]; exact Int.le_refl _⟩
  | c :: d :: l, _, _ => by
    obtain ⟨b, hb, h⟩ := most_of (l := d :: l) (a := d) List.mem_cons_self
    by_cases q : b ≤ c
    · refine ⟨c, List.mem_cons_self, fun x hx => ?_⟩
      rcases List.mem_cons.mp hx with e | e
      · rw [e]; exact Int.le_refl _
      · have := h x e; omega
    · refine ⟨b, List.mem_cons_of_mem _ hb, fun x hx => ?_⟩
      rcases List.mem_cons.mp hx with e | e
      · omega
      · exact h x e
/-- the turns told, rising: each time at which it may change how many bear it, with how many do -/
structure TalOf (cs : List Clk) (L : List (Int × Int)) : Prop where
  rise : L.Pairwise fun a b => a.1 < b.1
  val : ∀ e ∈ L, e.2 = (manyC cs e.1 : Int)
  pts : ∀ x, (∃ e ∈ L, e.1 = x) ↔ x ∈ edgesC cs
theorem TalOf.next {cs : List Clk} {L : List (Int × Int)} (h : TalOf cs L) {i j : Nat} {a b : Int × Int} (ha : L[i]? = some a) (hb : L[j]? = some b) (hij : i < j) : a.1 < b.1 := by
  obtain ⟨h1, rfl⟩ := List.getElem?_eq_some_iff.mp ha
  obtain ⟨h2, rfl⟩ := List.getElem?_eq_some_iff.mp hb
  exact List.pairwise_iff_getElem.mp h.rise i j h1 h2 hij
/-- from a turn to the next one it stays -/
theorem TalOf.stay {cs : List Clk} {L : List (Int × Int)} (h : TalOf cs L) {i : Nat} {a : Int × Int} (ha : L[i]? = some a) {x : Int} (hx : a.1 ≤ x) (hn : ∀ (j : Nat) (e : Int × Int), i + 1 ≤ j → L[j]? = some e → x < e.1) : (manyC cs x : Int) = a.2 := by
  rw [h.val a (List.mem_of_getElem? ha)]
  congr 1
  refine (manyC_const hx fun e he => ?_).symm
  obtain ⟨b, hb, rfl⟩ := (h.pts e).mpr he
  obtain ⟨j, hj⟩ := List.getElem?_of_mem hb
  rcases Nat.lt_trichotomy i j with z | z | z
  · exact .inr (hn j b z hj)
  · subst z
    rw [ha] at hj
    cases hj
    exact .inl (Int.le_refl _)
  · exact .inl (Int.le_of_lt (h.next hj ha z))
/-- the stretches told ahead of the i-th turn, and the one begun -/
structure PIn (cs : List Clk) (need : Int) (L : List (Int × Int)) (i : Nat) (ts : List St2) (o : Option Int) : Prop where
  le : ∀ t ∈ ts, t.1 ≤ t.2
  gap : ts.Pairwise fun a b => a.2 + 1 < b.1
  far : ∀ t ∈ ts, ∀ (j : Nat) (e : Int × Int), i ≤ j → L[j]? = some e → t.2 + 1 < e.1
  st : ∀ s, o = some s → (∀ t ∈ ts, t.2 + 1 < s) ∧ ∀ (j : Nat) (e : Int × Int), i ≤ j → L[j]? = some e → s < e.1
  cov : ∀ x : Int, (∀ (j : Nat) (e : Int × Int), i ≤ j → L[j]? = some e → x < e.1) → (need ≤ (manyC cs x : Int) ↔ (∃ t ∈ ts, t.1 ≤ x ∧ x ≤ t.2) ∨ ∃ s, o = some s ∧ s ≤ x)
section
variable {cs : List Clk} {need : Int} {L : List (Int × Int)} {i : Nat} {ts : List St2} {o : Option Int} {p m s : Int}
theorem PIn.zero (h : TalOf cs L) (hn : 1 ≤ need) : PIn cs need L 0 [] none where
  le := fun _ h => nomatch h
  gap := List.Pairwise.nil
  far := fun _ h => nomatch h
  st := fun _ h => nomatch h
  cov := fun x hx => by
    have e : manyC cs x = 0 := manyC_low fun e he => by
      obtain ⟨b, hb, rfl⟩ := (h.pts e).mpr he
      obtain ⟨j, hj⟩ := List.getElem?_of_mem hb
      exact hx j b (Nat.zero_le _) hj
    rw [e]
    constructor
    · intro z; exfalso; omega
    · rintro (⟨t, ht, _⟩ | ⟨s, hs, _⟩)
      · cases ht
      · cases hs
/-- x ahead of the turn p: as before; from p on: m bear it -/
theorem TalOf.cases (T : TalOf cs L) (hi : L[i]? = some (p, m)) {x : Int} (hx : ∀ (j : Nat) (e : Int × Int), i + 1 ≤ j → L[j]? = some e → x < e.1) :
    (x < p ∧ ∀ (j : Nat) (e : Int × Int), i ≤ j → L[j]? = some e → x < e.1) ∨ (p ≤ x ∧ (manyC cs x : Int) = m) := by
  by_cases h : x < p
  · refine .inl ⟨h, fun j e hj he => ?_⟩
    by_cases z : i = j
    · subst z
      rw [hi] at he
      cases he
      exact h
    · exact hx j e (by omega) he
  · exact .inr ⟨by omega, T.stay hi (by show p ≤ x; omega) hx⟩
theorem PIn.begin (h : PIn cs need L i ts none) (T : TalOf cs L) (hi : L[i]? = some (p, m)) (hm : need ≤ m) : PIn cs need L (i + 1) ts (some p) where
  le := h.le
  gap := h.gap
  far := fun t ht j e hj he => h.far t ht j e (by omega) he
  st := fun s hs => by
    cases hs
    exact ⟨fun t ht => h.far t ht i _ (Nat.le_refl _) hi, fun j e hj he => T.next hi he hj⟩
  cov := fun x hx => by
    rcases T.cases hi hx with ⟨hp, ha⟩ | ⟨hp, ha⟩
    · rw [h.cov x ha]
      constructor
      · rintro (q | ⟨s, hs, _⟩)
        · exact .inl q
        · cases hs
      · rintro (q | ⟨s, hs, q⟩)
        · exact .inl q
        · cases hs
          exfalso; omega
    · rw [ha]
      exact ⟨fun _ => .inr ⟨p, rfl, hp⟩, fun _ => hm⟩
theorem PIn.close (h : PIn cs need L i ts (some s)) (T : TalOf cs L) (hi : L[i]? = some (p, m)) (hm : m < need) : PIn cs need L (i + 1) (ts ++ [(s, p - 1)]) none where
  le := fun t ht => by
    rcases List.mem_append.mp ht with ht | ht
    · exact h.le t ht
    · rw [List.mem_singleton.mp ht]
      have := (h.st s rfl).2 i _ (Nat.le_refl _) hi
      show s ≤ p - 1
      simp only at this
      omega
  gap := List.pairwise_append.mpr ⟨h.gap, List.pairwise_singleton _ _, fun a ha b hb => by
    rw [List.mem_singleton.mp hb]
    exact (h.st s rfl).1 a ha⟩
  far := fun t ht j e hj he => by
    rcases List.mem_append.mp ht with ht | ht
    · exact h.far t ht j e (by omega) he
    · rw [List.mem_singleton.mp ht]
      have := T.next hi he hj
      show p - 1 + 1 < e.1
      simp only at this
      omega
  st := fun s hs => nomatch hs
  cov := fun x hx => by
    rcases T.cases hi hx with ⟨hp, ha⟩ | ⟨hp, ha⟩
    · rw [h.cov x ha]
      constructor
      · rintro (⟨t, ht, q⟩ | ⟨s', hs, q⟩)
        · exact .inl ⟨t, List.mem_append_left _ ht, q⟩
        · cases hs
          exact .inl ⟨(s, p - 1), List.mem_append_right _ List.mem_cons_self, q, by show x ≤ p - 1; omega⟩
      · rintro (⟨t, ht, q1, q2⟩ | ⟨s', hs, q⟩)
        · rcases List.mem_append.mp ht with ht | ht
          · exact .inl ⟨t, ht, q1, q2⟩
          · rw [List.mem_singleton.mp ht] at q1 q2
            exact .inr ⟨s, rfl, q1⟩
        · cases hs
    · rw [ha]
      constructor
      · intro z; exfalso; omega
      · rintro (⟨t, ht, q1, q2⟩ | ⟨s', hs, q⟩)
        · rcases List.mem_append.mp ht with ht | ht
          · have := h.far t ht i _ (Nat.le_refl _) hi
            simp only at this
            exfalso; omega
          · rw [List.mem_singleton.mp ht] at q1 q2
            simp only at q1 q2
            exfalso; omega
        · cases hs
theorem PIn.out (h : PIn cs need L i ts none) (T : TalOf cs L) (hi : L[i]? = some (p, m)) (hm : m < need) : PIn cs need L (i + 1) ts none where
  le := h.le
  gap := h.gap
  far := fun t ht j e hj he => h.far t ht j e (by omega) he
  st := fun s hs => nomatch hs
  cov := fun x hx => by
    rcases T.cases hi hx with ⟨hp, ha⟩ | ⟨hp, ha⟩
    · exact h.cov x ha
    · rw [ha]
      constructor
      · intro z; exfalso; omega
      · rintro (⟨t, ht, q1, q2⟩ | ⟨s', hs, q⟩)
        · have := h.far t ht i _ (Nat.le_refl _) hi
          simp only at this
          exfalso; omega
        · cases hs
theorem PIn.on (h : PIn cs need L i ts (some s)) (T : TalOf cs L) (hi : L[i]? = some (p, m)) (hm : need ≤ m) : PIn cs need L (i + 1) ts (some s) where
  le := h.le
  gap := h.gap
  far := fun t ht j e hj he => h.far t ht j e (by omega) he
  st := fun s' hs => by
    cases hs
    exact ⟨(h.st s rfl).1, fun j e hj he => (h.st s rfl).2 j e (by omega) he⟩
  cov := fun x hx => by
    rcases T.cases hi hx with ⟨hp, ha⟩ | ⟨hp, ha⟩
    · exact h.cov x ha
    · rw [ha]
      have := (h.st s rfl).2 i _ (Nat.le_refl _) hi
      simp only at this
      exact ⟨fun _ => .inr ⟨s, rfl, by omega⟩, fun _ => hm⟩
theorem PIn.done (h : PIn cs need L L.length ts o) (T : TalOf cs L) (hn : 1 ≤ need) : PartsOf cs need ts := by
  have no : ∀ x : Int, ∀ (j : Nat) (e : Int × Int), L.length ≤ j → L[j]? = some e → x < e.1 := fun x j e hj he => absurd (List.getElem?_eq_some_iff.mp he).1 (by omega)
  have eo : o = none := by
    cases o with
    | none => rfl
    | some s =>
      obtain ⟨b, hb⟩ := top_of (edgesC cs)
      have z : manyC cs (max b s) = 0 := manyC_high fun e he => by have := hb e he; omega
      have q := (h.cov (max b s) (no _)).mpr (.inr ⟨s, rfl, by omega⟩)
      rw [z] at q
      exfalso; omega
  subst eo
  refine ⟨h.le, h.gap, fun x => ?_⟩
  rw [h.cov x (no x)]
  constructor
  · rintro (q | ⟨s, hs, _⟩)
    · exact q
    · cases hs
  · exact .inl
end
/-- the times of turns, in the order of numbers -/
theorem tal_mk {cs : List Clk} {ps : List Int} (hok : ∀ c ∈ cs, ∀ s : St2, c.2 = some s → s.1 ≤ s.2) (hm : ∀ x, x ∈ ps ↔ x ∈ edgesC cs) (hs : ps.Pairwise (· < ·)) : TalOf cs (ps.map fun p => (p, (manyC cs p : Int))) where
  rise := List.pairwise_map.mpr hs
  val := fun e he => by
    obtain ⟨p, _, rfl⟩ := List.mem_map.mp he
    rfl
  pts := fun x => by
    rw [← hm]
    constructor
    · rintro ⟨e, he, rfl⟩
      obtain ⟨p, hp, rfl⟩ := List.mem_map.mp he
      exact hp
    · exact fun h => ⟨_, List.mem_map.mpr ⟨x, h, rfl⟩, rfl⟩
def prevM (cs : List Clk) (ps : List Int) : Nat → Int
  | 0 => 0
  | i + 1 => match ps[i]? with
    | some a => (manyC cs a : Int)
    | none => 0
theorem prevM_succ {cs : List Clk} {ps : List Int} {i : Nat} {a : Int} (h : ps[i]? = some a) : prevM cs ps (i + 1) = (manyC cs a : Int) := by
  show (match ps[i]? with
    | some a => (manyC cs a : Int)
    | none => 0) = _
  rw [h]
theorem prevM_step {cs : List Clk} {ps : List Int} (hok : ∀ c ∈ cs, ∀ s : St2, c.2 = some s → s.1 ≤ s.2) (hm : ∀ x, x ∈ ps ↔ x ∈ edgesC cs) (hs : ps.Pairwise (· < ·)) {i : Nat} {p : Int} (hi : ps[i]? = some p) : prevM cs ps i + dl cs p = (manyC cs p : Int) := by
  rw [manyC_step p hok]
  congr 1
  have nx : ∀ {j k : Nat} {a b : Int}, ps[j]? = some a → ps[k]? = some b → j < k → a < b := fun {j k a b} ha hb hjk => by
    obtain ⟨h1, rfl⟩ := List.getElem?_eq_some_iff.mp ha
    obtain ⟨h2, rfl⟩ := List.getElem?_eq_some_iff.mp hb
    exact List.pairwise_iff_getElem.mp hs j k h1 h2 hjk
  cases i with
  | zero =>
    have z : manyC cs (p - 1) = 0 := manyC_low fun e he => by
      obtain ⟨j, hj⟩ := List.getElem?_of_mem ((hm e).mpr he)
      cases j with
      | zero => rw [hi] at hj; cases hj; omega
      | succ j => have := nx hi hj (by omega); omega
    rw [z]
    rfl
  | succ i =>
    have hl := (List.getElem?_eq_some_iff.mp hi).1
    have ha : ps[i]? = some ps[i] := List.getElem?_eq_getElem (by omega)
    rw [prevM_succ ha]
    congr 1
    have q := nx ha hi (by omega)
    refine manyC_const (by omega) fun e he => ?_
    obtain ⟨j, hj⟩ := List.getElem?_of_mem ((hm e).mpr he)
    rcases Nat.lt_trichotomy j i with z | z | z
    · exact .inl (Int.le_of_lt (nx hj ha z))
    · subst z; rw [ha] at hj; cases hj; exact .inl (Int.le_refl _)
    · rcases Nat.lt_trichotomy j (i + 1) with y | y | y
      · omega
      · subst y; rw [hi] at hj; cases hj; exact .inr (by omega)
      · have := nx hi hj y; exact .inr (by omega)
/-- a dict of numbers -/
structure DF (kvs : List (Key × V)) (ks : List Int) (f : Int → Int) : Prop where
  keys : kvs.map (·.1) = ks.map Sum.inl
  nd : ks.Nodup
  val : ∀ x, x ∈ ks → valV kvs (Sum.inl x : Key) = some (.int (f x))
  non : ∀ x, x ∉ ks → valV kvs (Sum.inl x : Key) = none
theorem DF.nil {f : Int → Int} : DF [] [] f := ⟨rfl, List.nodup_nil, fun _ h => (nomatch h), fun _ _ => rfl⟩
theorem DF.getD {kvs : List (Key × V)} {ks : List Int} {f : Int → Int} (h : DF kvs ks f) (x : Int) : (valV kvs (Sum.inl x : Key)).getD (.int 0) = .int (if x ∈ ks then f x else 0) := by
  by_cases m : x ∈ ks
  · rw [h.val x m, if_pos m]; rfl
  · rw [h.non x m, if_neg m]; rfl
def addI (ks : List Int) (x : Int) : List Int := if x ∈ ks then ks else ks ++ [x]
theorem addI_mem {ks : List Int} {x y : Int} : y ∈ addI ks x ↔ y ∈ ks ∨ y = x := by
  unfold addI
  split
  · rename_i h
    exact ⟨.inl, fun z => z.elim id fun e => e ▸ h⟩
  · rw [List.mem_append, List.mem_singleton]
theorem addI_len {ks : List Int} {x : Int} : (addI ks x).length ≤ ks.length + 1 := by
  unfold addI
  split
  · omega
  · rw [List.length_append]; exact Nat.le_refl _
theorem DF.put {kvs : List (Key × V)} {ks : List Int} {f : Int → Int} (h : DF kvs ks f) (x n : Int) : DF (putK kvs (Sum.inl x : Key) (.int n)) (addI ks x) (fun y => if y = x then n else f y) where
  keys := by
    by_cases m : x ∈ ks
    · have e0 := h.val x m
      unfold putK addI
      rw [valV_any, e0, if_pos (show (some (V.int (f x))).isSome = true from rfl), if_pos m, List.map_map, ← h.keys]
      refine List.map_congr_left fun p _ => ?_
      show (if p.1 = _ then (p.1, _) else p).1 = p.1
      split <;> rfl
    · rw [putK_new _ (h.non x m)]
      unfold addI
      rw [if_neg m, List.map_append, List.map_append, h.keys]
      rfl
  nd := by
    unfold addI
    split
    · exact h.nd
    · rename_i hn
      exact nd_snoc h.nd hn
  val := fun y hy => by
    rw [valV_put]
    by_cases e : y = x
    · rw [if_pos (by rw [e]), if_pos e]
    · rw [if_neg (fun z => e (Sum.inl.inj z)), if_neg e]
      exact h.val y ((addI_mem.mp hy).resolve_right e)
  non := fun y hy => by
    have hn := fun z => hy (addI_mem.mpr z)
    rw [valV_put, if_neg (fun z => hn (.inr (Sum.inl.inj z)))]
    exact h.non y fun z => hn (.inl z)
/-- the turns of some clocks as a dict -/
def TurnsAt (kvs : List (Key × V)) (part : List Clk) : Prop := ∃ ks : List Int, DF kvs ks (dl part) ∧ (∀ x, x ∈ ks ↔ x ∈ edgesC part) ∧ ks.length ≤ 2 * part.length
theorem dl_none {part : List Clk} {x : Int} : ∀ {part : List Clk}, x ∉ edgesC part → dl part x = 0
  | [], _ => rfl
  | c :: part, h => by
    have h2 : x ∉ edgesC part := fun z => h (List.mem_flatMap.mpr (by
      obtain ⟨d, hd, q⟩ := List.mem_flatMap.mp z
      exact ⟨d, List.mem_cons_of_mem _ hd, q⟩))
    have ih := dl_none (x := x) (part := part) h2
    show dl1 c x + dl part x = 0
    rw [ih]
    have h1 : x ∉ edgeC c := fun z => h (List.mem_flatMap.mpr ⟨c, List.mem_cons_self, z⟩)
    unfold edgeC at h1
    unfold dl1
    cases e : c.2 with
    | none => rfl
    | some s =>
      rw [e] at h1
      simp at h1
      simp only
      rw [if_neg (fun z => h1.1 z.symm), if_neg (fun z => h1.2 z.symm)]
      rfl
theorem DF.congr {kvs : List (Key × V)} {ks : List Int} {f g : Int → Int} (h : DF kvs ks f) (e : ∀ x ∈ ks, f x = g x) : DF kvs ks g := ⟨h.keys, h.nd, fun x hx => by rw [h.val x hx, e x hx], h.non⟩
/-- two turns more -/
theorem TurnsAt.two {kvs : List (Key × V)} {part : List Clk} {cn : List Nat} {s : St2} {ks : List Int} (D : DF kvs ks (dl part)) (hk : ∀ x, x ∈ ks ↔ x ∈ edgesC part) (hl : ks.length ≤ 2 * part.length) (hs : s.1 ≤ s.2) :
    TurnsAt (putK (putK kvs (Sum.inl s.1 : Key) (.int ((if s.1 ∈ ks then dl part s.1 else 0) + 1))) (Sum.inl (s.2 + 1) : Key)
      (.int ((if s.2 + 1 ∈ addI ks s.1 then (if s.2 + 1 = s.1 then ((if s.1 ∈ ks then dl part s.1 else 0) + 1) else dl part (s.2 + 1)) else 0) - 1))) (part ++ [(cn, some s)]) := by
  refine ⟨addI (addI ks s.1) (s.2 + 1), ((D.put s.1 _).put (s.2 + 1) _).congr fun x hx => ?_, fun x => ?_, ?_⟩
  · have z : ∀ y, (if y ∈ ks then dl part y else 0) = dl part y := fun y => by
      by_cases m : y ∈ ks
      · rw [if_pos m]
      · rw [if_neg m, dl_none (part := part) fun q => m ((hk y).mpr q)]
    rw [dl_snoc, z]
    show _ = dl part x + ((if s.1 = x then 1 else 0) - (if s.2 + 1 = x then 1 else 0))
    have ne : ¬ s.2 + 1 = s.1 := by omega
    have y : (if s.2 + 1 ∈ addI ks s.1 then dl part (s.2 + 1) else 0) = dl part (s.2 + 1) := by
      by_cases m : s.2 + 1 ∈ addI ks s.1
      · rw [if_pos m]
      · rw [if_neg m, dl_none (part := part) fun q => m (addI_mem.mpr (.inl ((hk _).mpr q)))]
    rw [if_neg ne, y]
    by_cases e1 : x = s.2 + 1
    · have e2 : ¬ s.1 = s.2 + 1 := by omega
      subst e1
      rw [if_pos rfl, if_neg e2, if_pos rfl]
      omega
    · have e3 : ¬ s.2 + 1 = x := fun q => e1 q.symm
      rw [if_neg e1, if_neg e3]
      by_cases e2 : x = s.1
      · have e4 : s.1 = x := e2.symm
        rw [if_pos e2, if_pos e4, e4]
        omega
      · have e4 : ¬ s.1 = x := fun q => e2 q.symm
        rw [if_neg e2, if_neg e4]
        omega
  · rw [edgesC_some, addI_mem, addI_mem, hk, List.mem_append]
    simp only [List.mem_cons, List.not_mem_nil, or_false]
    constructor
    · rintro ((h | h) | h)
      · exact .inl h
      · exact .inr (.inl h)
      · exact .inr (.inr h)
    · rintro (h | h | h)
      · exact .inl (.inl h)
      · exact .inl (.inr h)
      · exact .inr h
  · have h1 := addI_len (ks := ks) (x := s.1)
    have h2 := addI_len (ks := addI ks s.1) (x := s.2 + 1)
    rw [List.length_append]
    simp only [List.length_cons, List.length_nil]
    omega
/-- pairs of numbers as tuples at addresses: the same as stretches -/
def spTallies (K : PySem.W.Frag) : Sp := fun vs H Q _ => ∃ (q : Addr) (xs : List V) (cs : List Clk), vs = [.ref q] ∧ SqL K H q xs ∧ ClksAt K H xs cs ∧ cs.length ≤ 1000 ∧ ClksOk cs ∧
  ∀ (p : Addr) (bs : List Addr) (L : List (Int × Int)) (H' : Hp), TalOf cs L → L.length ≤ 2000 → Same H H' → H p = none → H' p = some (.lst (bs.map V.ref)) → StsAt K H' bs L → Q (.ref p) H'
def optV (o : Option Int) : V := match o with
  | none => .non
  | some s => .int s

/-- the most that bear one of the first i turns, and the first of these -/
structure FIn (L : List (Int × Int)) (i : Nat) (m : Int) (w : V) : Prop where
  up : ∀ (j : Nat) (e : Int × Int), j < i → L[j]? = some e → e.2 ≤ m
  at_ : (m = 0 ∧ w = .non) ∨ (0 < m ∧ ∃ (j : Nat) (p : Int), j < i ∧ L[j]? = some (p, m) ∧ w = .int p ∧ ∀ (k : Nat) (e : Int × Int), k < i → L[k]? = some e → e.2 = m → p ≤ e.1)
theorem FIn.zero {L : List (Int × Int)} : FIn L 0 0 .non := ⟨fun j e h => absurd h (Nat.not_lt_zero _), .inl ⟨rfl, rfl⟩⟩
theorem FIn.pos {L : List (Int × Int)} {i : Nat} {m : Int} {w : V} (h : FIn L i m w) : 0 ≤ m := by
  rcases h.at_ with ⟨h, _⟩ | ⟨h, _⟩ <;> omega
theorem FIn.new {L : List (Int × Int)} {i : Nat} {m p n : Int} {w : V} (h : FIn L i m w) (hi : L[i]? = some (p, n)) (hn : m < n) : FIn L (i + 1) n (.int p) := by
  have h0 := h.pos
  refine ⟨fun j e hj he => ?_, .inr ⟨by omega, i, p, Nat.lt_succ_self _, hi, rfl, fun k e hk he en => ?_⟩⟩
  · by_cases z : j = i
    · subst z
      rw [hi] at he
      cases he
      exact Int.le_refl _
    · have := h.up j e (by omega) he
      omega
  · by_cases z : k = i
    · subst z
      rw [hi] at he
      cases he
      exact Int.le_refl _
    · have := h.up k e (by omega) he
      omega
theorem FIn.old {cs : List Clk} {L : List (Int × Int)} (T : TalOf cs L) {i : Nat} {m p n : Int} {w : V} (h : FIn L i m w) (hi : L[i]? = some (p, n)) (hn : ¬ m < n) : FIn L (i + 1) m w := by
  refine ⟨fun j e hj he => ?_, ?_⟩
  · by_cases z : j = i
    · subst z
      rw [hi] at he
      cases he
      show n ≤ m
      omega
    · exact h.up j e (by omega) he
  · rcases h.at_ with q | ⟨h0, j, p0, hj, e0, ew, q⟩
    · exact .inl q
    · refine .inr ⟨h0, j, p0, by omega, e0, ew, fun k e hk he en => ?_⟩
      by_cases z : k = i
      · subst z
        exact Int.le_of_lt (T.next e0 he hj)
      · exact q k e (by omega) he en
theorem lows_edge {cs : List Clk} {l : Int} (h : l ∈ lowsC cs) : l ∈ edgesC cs := by
  obtain ⟨c, hc, e⟩ := List.mem_filterMap.mp h
  cases ec : c.2 with
  | none => rw [ec] at e; cases e
  | some s =>
    rw [ec] at e
    cases e
    exact (edge_lo hc ec).1
/-- whoever bears a time: as many bear some low that is no later -/
theorem low_of {cs : List Clk} {p : Int} (h : 0 < manyC cs p) : ∃ l ∈ lowsC cs, l ≤ p ∧ manyC cs p ≤ manyC cs l := by
  have lo : ∀ c ∈ cs, ∀ s : St2, c.2 = some s → s.1 ∈ lowsC cs := fun c hc s e => List.mem_filterMap.mpr ⟨c, hc, by rw [e]; rfl⟩
  obtain ⟨c, hc, hb⟩ := List.countP_pos_iff.mp h
  obtain ⟨s, es, h1, h2⟩ := bears_iff.mp hb
  have m0 : s.1 ∈ (lowsC cs).filter fun l => decide (l ≤ p) := List.mem_filter.mpr ⟨lo c hc s es, decide_eq_true h1⟩
  obtain ⟨l, hl, mx⟩ := most_of m0
  obtain ⟨hl1, hl2⟩ := List.mem_filter.mp hl
  have hlp := of_decide_eq_true hl2
  refine ⟨l, hl1, hlp, List.countP_mono_left fun d hd hbd => ?_⟩
  obtain ⟨t, et, g1, g2⟩ := bears_iff.mp hbd
  have := mx t.1 (List.mem_filter.mpr ⟨lo d hd t et, decide_eq_true g1⟩)
  exact bears_iff.mpr ⟨t, et, this, by omega⟩
theorem FIn.done {cs : List Clk} {L : List (Int × Int)} (T : TalOf cs L) {m : Int} {w : V} (h : FIn L L.length m w) : FewAt cs m.toNat w := by
  have h0 := h.pos
  have all : ∀ x ∈ edgesC cs, (manyC cs x : Int) ≤ m ∧ ∃ j : Nat, j < L.length ∧ L[j]? = some (x, (manyC cs x : Int)) := fun x hx => by
    obtain ⟨e, he, rfl⟩ := (T.pts x).mpr hx
    obtain ⟨j, hj⟩ := List.getElem?_of_mem he
    have hjl := (List.getElem?_eq_some_iff.mp hj).1
    rw [← T.val e he]
    exact ⟨h.up j e hjl hj, j, hjl, hj⟩
  refine ⟨fun l hl => ?_, ?_⟩
  · have := (all l (lows_edge hl)).1
    omega
  · rcases h.at_ with ⟨q, ew⟩ | ⟨q, j, p, hj, e0, ew, mn⟩
    · exact .inl ⟨by omega, ew⟩
    · have ep := T.val _ (List.mem_of_getElem? e0)
      simp only at ep
      obtain ⟨l, hl, hlp, hle⟩ := low_of (cs := cs) (p := p) (by omega)
      obtain ⟨a1, k, hk, ek⟩ := all l (lows_edge hl)
      have a2 := mn k _ hk ek (by show (manyC cs l : Int) = m; omega)
      simp only at a2
      have el : l = p := by omega
      subst el
      refine .inr ⟨by omega, l, hl, by omega, ew, fun l' hl' e' => ?_⟩
      obtain ⟨_, k', hk', ek'⟩ := all l' (lows_edge hl')
      exact mn k' _ hk' ek' (by show (manyC cs l' : Int) = m; omega)

/-! ### the text by places -/
def top (i : Nat) : Stmt := PySem.Challenge.pw_timestretch_k06_who_bears_a_time.main.body.getD i (.Pass ⟨0, 0, 0, 0⟩)
abbrev s_bearers : Stmt := top 1
abbrev s_bears : Stmt := top 2
abbrev s_fewest : Stmt := top 3
abbrev s_tallies : Stmt := top 4
abbrev s_whole : Stmt := top 6
abbrev s_cell_at : Stmt := top 7
abbrev s_mix : Stmt := top 8
abbrev s_big : Stmt := top 9
abbrev s_word : Stmt := top 10
abbrev s_names : Stmt := top 11
abbrev s_clocks : Stmt := top 12
abbrev s_many : Stmt := top 13
abbrev s_lows : Stmt := top 14
abbrev s_point : Stmt := top 15
abbrev s_law : Stmt := top 16
/-! ### where things stand, and what the top has written -/
structure Ad where
  f_bearers : Addr
  d_bearers : FuncData
  f_bears : Addr
  d_bears : FuncData
  f_fewest : Addr
  d_fewest : FuncData
  f_tallies : Addr
  d_tallies : FuncData
  f_whole : Addr
  d_whole : FuncData
  f_cell_at : Addr
  d_cell_at : FuncData
  f_mix : Addr
  d_mix : FuncData
  f_big : Addr
  d_big : FuncData
  f_word : Addr
  d_word : FuncData
  f_names : Addr
  d_names : FuncData
  f_clocks : Addr
  d_clocks : FuncData
  f_many : Addr
  d_many : FuncData
  f_lows : Addr
  d_lows : FuncData
  f_point : Addr
  d_point : FuncData
  f_law : Addr
  d_law : FuncData
structure Txt (K : PySem.W.Frag) (mg : Str → Option Value) (a : Ad) : Prop where
  bearers : Dfn K mg "bearers" s_bearers ["clocks", "point"] a.f_bearers a.d_bearers
  bears : Dfn K mg "bears" s_bears ["stretch", "point"] a.f_bears a.d_bears
  fewest : Dfn K mg "fewest" s_fewest ["clocks"] a.f_fewest a.d_fewest
  tallies : Dfn K mg "tallies" s_tallies ["clocks"] a.f_tallies a.d_tallies
  whole : Dfn K mg "_law_whole" s_whole ["_law_found"] a.f_whole a.d_whole
  cell_at : Dfn K mg "_law_cell_at" s_cell_at ["_law_script", "_law_k"] a.f_cell_at a.d_cell_at
  mix : Dfn K mg "_law_mix" s_mix ["_law_cell", "_law_k"] a.f_mix a.d_mix
  big : Dfn K mg "_law_big" s_big ["_law_cell", "_law_k"] a.f_big a.d_big
  word : Dfn K mg "_law_word" s_word ["_law_cell", "_law_size"] a.f_word a.d_word
  names : Dfn K mg "_law_names" s_names ["_law_cell"] a.f_names a.d_names
  clocks : Dfn K mg "_law_clocks" s_clocks ["_law_script"] a.f_clocks a.d_clocks
  many : Dfn K mg "_law_many" s_many ["_law_clocks_here", "_law_point_here"] a.f_many a.d_many
  lows : Dfn K mg "_law_lows" s_lows ["_law_clocks_here"] a.f_lows a.d_lows
  point : Dfn K mg "_law_point" s_point ["_law_script", "_law_clocks_here"] a.f_point a.d_point
  law : Dfn K mg "law" s_law ["_law_script"] a.f_law a.d_law
  b_sorted : mg "sorted" = none
  b_len : mg "len" = none
  b_isinstance : mg "isinstance" = none
  b_bool : mg "bool" = none
  b_int : mg "int" = none
  b_range : mg "range" = none
  b_min : mg "min" = none
  b_max : mg "max" = none
  b_list : mg "list" = none
  b_tuple : mg "tuple" = none
section
variable {P : Program} {w : World} {K : PySem.W.Frag} {mg : Str → Option Value} {base : Heap} {a : Ad}
/-! ### bears -/
abbrev n_bears : List Str := ["stretch", "point"]
theorem sc_bears : FnScope ["stretch", "point"] ["stretch", "point"] (defScope s_bears) := ⟨rfl, rfl, rfl, by decide +kernel, rfl, by decide +kernel, by decide +kernel⟩
theorem ok_bears (T : Txt K mg a) : FnOk P w K mg base CX0 1 a.f_bears a.d_bears ["stretch", "point"] (spBears K) := by
  refine T.bears.F.ok sc_bears (fun vs H Q E h => ?_) (fun cdv A outer s H vs Q E hr h => ?_)
  · obtain ⟨w, o, t, rfl, hV, k⟩ := h
    rfl
  · obtain ⟨w, o, t, rfl, hV, k⟩ := h
    have hu := hu_of hr
    refine ⟨_, (pss_one (ps_ret (pe_and (pe_cmpR op_notN (pv 0) pe_non (nomark _)) (pe_one (pe_chain op_le op_le (pe_ix (ixT K) (pv 0) pe_int (fun _ _ => rfl)) (pv 1) (pe_ix (ixT K) (pv 0) pe_int (fun _ _ => rfl))))))), ?_⟩
    cases o with
    | none =>
      cases (show w = .non from hV)
      refine ⟨_, rfl, rfl, _, rfl, ?_⟩
      exact iteF k
    | some st =>
      obtain ⟨b, rfl, hB⟩ := hV
      refine ⟨_, rfl, rfl, _, rfl, ?_⟩
      refine iteT ?_
      refine ⟨_, rfl, _, _, _, _, rfl, rfl, hB, atI_nat (j := 0) rfl, _, rfl, _, _, rfl, rfl, _, rfl, ?_⟩
      have k' : Q (.bl (decide (st.1 ≤ t) && decide (t ≤ st.2))) H := k
      refine ite_dec (fun h1 => ?_) (fun h1 => ?_)
      · rw [decide_eq_true h1, Bool.true_and] at k'
        refine ⟨_, rfl, _, _, _, _, rfl, rfl, hB, atI_nat (j := 1) rfl, _, _, rfl, rfl, ?_⟩
        exact k'
      · rw [decide_eq_false h1, Bool.false_and] at k'
        exact k'
/-! ### bearers -/
abbrev n_bearers : List Str := ["clocks", "point", "name", "stretch"]
theorem sc_bearers : FnScope ["clocks", "point", "name", "stretch"] ["clocks", "point"] (defScope s_bearers) := ⟨rfl, rfl, rfl, by decide +kernel, rfl, by decide +kernel, by decide +kernel⟩
theorem ok_bearers (T : Txt K mg a) : FnOk P w K mg base CX0 2 a.f_bearers a.d_bearers ["clocks", "point"] (spBearers K) := by
  refine T.bearers.F.ok sc_bearers (fun vs H Q E h => ?_) (fun cdv A outer s H vs Q E hr h => ?_)
  · obtain ⟨q, xs, cs, t, rfl, hL, hC, hl, k⟩ := h
    rfl
  · obtain ⟨q, xs, cs, t, rfl, hL, hC, hl, k⟩ := h
    have hu := hu_of hr
    refine ⟨_, (pss_one (ps_ret (pe_lc (own := [("name", 2), ("stretch", 3)]) (g := (gTup K 2 (gCons (gName 2) (gCons (gName 3) gNil)))) rfl sc_bearers.nd (piL K (pv 0)) (blkOk_by (N := n_bearers) (sc := defScope s_bearers) (by decide +kernel)) (fun _ _ _ _ _ => pg_tup (by rfl) (pgs_cons (pg_name (i := 2) sc_bearers.nd rfl (Or.inl rfl)) (pgs_cons (pg_name (i := 3) sc_bearers.nd rfl (Or.inl rfl)) pgs_nil))) (fun _ _ _ _ _ => pts_one (pt_val (pe_cl (ok_bears T) T.bears (hr.mono (by decide)) (pa_cons (pv 3) (pa_cons (pv 1) pa_nil))))) (fun _ _ _ _ _ => (pv 2))))), ?_⟩
    refine ⟨_, rfl, q, rfl, ⟨_, hL⟩, fun D nD => lc_list (K := K) (a := q) (xs := xs) (fun i H' => Same H H' ∧ H' D = some (.lst (txs (bearersC (cs.take i) t)))) ⟨same_new nD, upd_same⟩ (fun i H' _ h => h.1.seq hL) ?_ ?_⟩
    · rintro i v H' hi ⟨s1, eD⟩
      obtain ⟨c, hc, u, w, rfl, hT, hV⟩ := (hC.same s1).get hi
      have il : i < cs.length := (List.getElem?_eq_some_iff.mp hc).1
      have bl := bearersC_len (cs := cs.take i) (t := t)
      rw [List.length_take] at bl
      rw [take_snoc hc, bearersC_snoc]
      refine ⟨u, _, rfl, hT, rfl, _, _, rfl, _, _, rfl, rfl, ?_⟩
      refine ⟨rfl, ?_⟩
      refine ⟨_, rfl, _, rfl, w, c.2, t, rfl, hV, ?_⟩
      refine ⟨_, rfl, ?_⟩
      by_cases h : bearsC t c = true
      · refine ite_yes (show bearsC t ([], c.2) = true from h) ?_
        rw [if_pos h]
        refine ⟨_, rfl, ?_⟩
        exact ⟨_, eD, by unfold txs; rw [List.length_map]; exact Nat.lt_of_le_of_lt (show _ ≤ 1000 by omega) (by decide), Same.mut s1 nD, upd_same.trans (by unfold txs; rw [List.map_append]; rfl)⟩
      · refine ite_no (show bearsC t ([], c.2) = false from Bool.eq_false_iff.mpr h) ?_
        rw [if_neg h, List.append_nil]
        exact ⟨s1, eD⟩
    · rintro H' ⟨s1, eD⟩
      rw [hC.1, List.take_length] at eD
      exact k D H' s1 nD eD
/-! ### tallies -/
abbrev n_tallies : List Str := ["clocks", "turns", "_", "stretch", "low", "high", "found", "many", "point"]
theorem sc_tallies : FnScope ["clocks", "turns", "_", "stretch", "low", "high", "found", "many", "point"] ["clocks"] (defScope s_tallies) := ⟨rfl, rfl, rfl, by decide +kernel, rfl, by decide +kernel, by decide +kernel⟩
theorem ok_tallies (T : Txt K mg a) : FnOk P w K mg base CX0 1 a.f_tallies a.d_tallies ["clocks"] (spTallies K) := by
  refine T.tallies.F.ok sc_tallies (fun vs H Q E h => ?_) (fun cdv A outer s H vs Q E hr h => ?_)
  · obtain ⟨q, xs, cs, rfl, hL, hC, hl, hok, k⟩ := h
    rfl
  · obtain ⟨q, xs, cs, rfl, hL, hC, hl, hok, k⟩ := h
    have hu := hu_of hr
    refine ⟨_, (pss_cons (ps_set (i := 1) sc_tallies.nd rfl (Or.inl rfl) pe_dnewK)
      (pss_cons (ps_for PassesOwn.never rfl (piL K (pv 0)) (pg_tup (by rfl) (pgs_cons (pg_name (i := 2) sc_tallies.nd rfl (Or.inl rfl)) (pgs_cons (pg_name (i := 3) sc_tallies.nd rfl (Or.inl rfl)) pgs_nil))) (pss_one (ps_if (pt_cmpR op_notN (pv 3) pe_non (nomark _)) (pss_cons (ps_asg (pv 3) (pg_tup (by rfl) (pgs_cons (pg_name (i := 4) sc_tallies.nd rfl (Or.inl rfl)) (pgs_cons (pg_name (i := 5) sc_tallies.nd rfl (Or.inl rfl)) pgs_nil))))
      (pss_cons (ps_dput hu (pv 1) (pv 4) (pe_op op_add (pe_dget2 hu (pv 1) (pv 4) pe_int ⟨rfl, rfl, rfl, rfl⟩) pe_int) rfl)
      (pss_one (ps_dput hu (pv 1) (pe_op op_add (pv 5) pe_int) (pe_op op_sub (pe_dget2 hu (pv 1) (pe_op op_add (pv 5) pe_int) pe_int ⟨rfl, rfl, rfl, rfl⟩) pe_int) rfl)))) pss_nil)))
      (pss_cons (ps_set (i := 6) sc_tallies.nd rfl (Or.inl rfl) (pe_lst pa_nil))
      (pss_cons (ps_set (i := 7) sc_tallies.nd rfl (Or.inl rfl) pe_int)
      (pss_cons (ps_for PassesOwn.never rfl (piL K (pe_callB (call_sortedDA rfl) (by rfl) T.b_sorted (by decide +kernel) (pa_cons (pv 1) pa_nil))) (pg_name (i := 8) sc_tallies.nd rfl (Or.inl rfl)) (pss_cons (ps_set (i := 7) sc_tallies.nd rfl (Or.inl rfl) (pe_op op_add (pv 7) (pe_dget hu (pv 1) (pv 8) (fun _ _ => rfl))))
      (pss_one (ps_expr (pe_bm PySem.F.plainAttrs_list PySem.F.slot_list_append PySem.F.type_list_append mt_append (pv 6) (pa_cons (pe_tup (pa_cons (pv 8) (pa_cons (pv 7) pa_nil))) pa_nil))))))
      (pss_one (ps_ret (pv 6)))))))), ?_⟩
    intro d nd
    dsimp only [gName]
    generalize hH1 : upd _ d _ = H1
    obtain ⟨s1, e1⟩ := gen_new hH1 nd
    clear hH1
    refine ⟨_, rfl, q, rfl, ⟨_, s1.seq hL⟩, for_list (K := K) (a := q) (xs := xs) (fun i σ H' => Same H H' ∧ ∃ (kvs : List (Key × V)) (v2 v3 v4 v5 : Option V), σ = [some (.ref q), some (.ref d), v2, v3, v4, v5, none, none, none] ∧
        H' d = some (.dK kvs) ∧ TurnsAt kvs (cs.take i))
      ⟨s1, [], none, none, none, none, rfl, e1, [], DF.nil, fun x => Iff.rfl, Nat.zero_le _⟩ (fun i σ H' _ h => h.1.seq hL) ?_ ?_⟩
    · rintro i v σ H2 hi ⟨s2, kvs, v2, v3, v4, v5, rfl, hd, ks, D, hk, hkl⟩
      obtain ⟨c, hc, u, w, rfl, hT, hV⟩ := (hC.same s2).get hi
      have hcm : c ∈ cs := List.mem_of_getElem? hc
      have hil : i < cs.length := (List.getElem?_eq_some_iff.mp hc).1
      have hlen : ks.length ≤ 2000 := by
        rw [List.length_take] at hkl
        omega
      rw [take_snoc hc]
      refine ⟨u, _, rfl, hT, rfl, _, _, rfl, _, _, rfl, rfl, ?_⟩
      obtain ⟨cn, co⟩ := c
      cases co with
      | none =>
        cases (show w = .non from hV)
        refine ⟨_, rfl, rfl, _, rfl, ?_⟩
        refine iteF ?_
        refine ⟨s2, kvs, _, _, _, _, rfl, hd, ks, D.congr fun x _ => ?_, fun x => ?_, ?_⟩
        · rw [dl_snoc]
          show _ = _ + 0
          omega
        · rw [edgesC_none]; exact hk x
        · rw [List.length_append]; omega
      | some st =>
        obtain ⟨b, rfl, hB⟩ := hV
        have kl : kvs.length = ks.length := by
          have e := congrArg List.length D.keys
          rwa [List.length_map, List.length_map] at e
        have D1 := D.put st.1 ((if st.1 ∈ ks then dl (cs.take i) st.1 else 0) + 1)
        have kl1 : (putK kvs (Sum.inl st.1 : Key) (V.int ((if st.1 ∈ ks then dl (cs.take i) st.1 else 0) + 1))).length = (addI ks st.1).length := by
          have e := congrArg List.length D1.keys
          rwa [List.length_map, List.length_map] at e
        have kl2 := addI_len (ks := ks) (x := st.1)
        refine ⟨_, rfl, rfl, _, rfl, ?_⟩
        refine iteT ?_
        refine ⟨_, rfl, b, _, rfl, hB, rfl, _, _, rfl, _, _, rfl, rfl, ?_⟩
        refine ⟨_, rfl, d, rfl, .inl ⟨_, .inl hd⟩, _, rfl, _, DGet.k (k := Sum.inl st.1) hd, _, _, D.getD st.1, rfl, ?_⟩
        refine ⟨_, rfl, _, rfl, d, _, rfl, DPut.k (k := Sum.inl st.1) hd (Nat.lt_of_le_of_lt (show kvs.length ≤ 2000 by omega) (by decide)), ?_⟩
        dsimp only [gName]
        have hd1 : (upd H2 d (.dK (putK kvs (Sum.inl st.1 : Key) (V.int ((if st.1 ∈ ks then dl (cs.take i) st.1 else 0) + 1))))) d = some (.dK (putK kvs (Sum.inl st.1 : Key) (V.int ((if st.1 ∈ ks then dl (cs.take i) st.1 else 0) + 1)))) := upd_same
        refine ⟨_, rfl, d, rfl, .inl ⟨_, .inl hd1⟩, _, rfl, _, _, rfl, rfl, _, DGet.k (k := Sum.inl (st.2 + 1)) hd1, _, _, D1.getD (st.2 + 1), rfl, ?_⟩
        refine ⟨_, rfl, _, rfl, _, _, rfl, rfl, d, _, rfl, DPut.k (k := Sum.inl (st.2 + 1)) hd1 (Nat.lt_of_le_of_lt (show _ ≤ 2001 by omega) (by decide)), ?_⟩
        exact ⟨Same.mut (Same.mut s2 nd) nd, _, _, _, _, _, rfl, upd_same, TurnsAt.two D hk hkl (hok.st _ hcm st rfl)⟩
    · rintro σ H2 ⟨s2, kvs, v2, v3, v4, v5, rfl, hd, ks, D, hk, hkl⟩
      rw [hC.1, List.take_length] at D hk hkl
      refine ⟨(by show 0 ≤ sizeLine; decide), fun pm nm => ?_⟩
      dsimp only [gName]
      generalize hH3 : upd _ pm _ = H3
      obtain ⟨s3, e3⟩ := gen_new hH3 nm
      clear hH3
      refine ⟨_, rfl, d, kvs, ks, rfl, s3 _ _ hd, D.keys, Nat.le_trans (show ks.length ≤ 2000 by omega) (by decide), fun ys p6 hp hs n6 => ?_⟩
      generalize hH4 : upd _ p6 _ = H4
      obtain ⟨s4, e4⟩ := gen_new hH4 n6
      clear hH4
      have hm : ∀ x, x ∈ ys ↔ x ∈ edgesC cs := fun x => hp.mem_iff.trans (hk x)
      have hnd : ys.Nodup := hp.symm.nodup_iff.mp D.nd
      have hlt : ys.Pairwise (· < ·) := (List.pairwise_and_iff.mpr ⟨hs, hnd⟩).imp fun {a b} h => by
        obtain ⟨h1, h2⟩ := h
        omega
      have hyl : ys.length ≤ 2000 := by rw [hp.length_eq]; omega
      have np : p6 ≠ pm := fun z => by
        rw [z, e3] at n6
        cases n6
      refine ⟨p6, rfl, ⟨_, SqL.of e4⟩, for_list (K := K) (a := p6) (xs := ys.map V.int) (fun i σ H' => Same H2 H' ∧ H' p6 = some (.lst (ys.map V.int)) ∧ ∃ (bs : List Addr) (v8 : Option V), σ = [some (.ref q), some (.ref d), v2, v3, v4, v5, some (.ref pm), some (.int (prevM cs ys i)), v8] ∧
          H' pm = some (.lst (bs.map V.ref)) ∧ StsAt K H' bs ((ys.take i).map fun p => (p, (manyC cs p : Int))))
        ⟨s3.trans s4, e4, [], none, rfl, s4 _ _ e3, StsAt.nil⟩ (fun i σ H' _ h => SqL.of h.2.1) ?_ ?_⟩
      · rintro i v σ H' hi ⟨s5, e6, bs, v8, rfl, epm, hS⟩
        rw [List.getElem?_map] at hi
        cases hy : ys[i]? with
        | none => rw [hy] at hi; cases hi
        | some p =>
          rw [hy] at hi
          cases hi
          have hpk : p ∈ ks := hp.mem_iff.mp (List.mem_of_getElem? hy)
          have g0 : DGet H' d (.int p) (some (.int (dl cs p))) := D.val p hpk ▸ DGet.k (k := Sum.inl p) (s5 _ _ hd)
          have hM := prevM_step hok.st hm hlt hy
          have hM1 : prevM cs ys (i + 1) = (manyC cs p : Int) := prevM_succ hy
          refine ⟨_, rfl, _, rfl, _, rfl, d, _, rfl, g0, _, _, rfl, rfl, ?_⟩
          dsimp only [gName]
          rw [hM]
          refine ⟨_, rfl, .inl ⟨rfl, _, SqL.of epm⟩, _, rfl, _, rfl, (by show 2 ≤ sizeLine; decide), fun t nt => ?_⟩
          have sx : Same H' (upd H' t (.tup [.int p, .int (manyC cs p : Int)])) := same_new nt
          have em9 := (upd_ne (ne_of_none epm nt) (o := .tup [.int p, .int (manyC cs p : Int)])).trans epm
          refine ⟨pm, _, .ref t, rfl, rfl, em9, ?_, ?_⟩
          · have := hS.1
            rw [List.length_map, List.length_take] at this
            rw [List.length_map]
            exact Nat.lt_of_le_of_lt (show _ ≤ 2000 by omega) (by decide)
          refine ⟨Same.mut (s5.trans sx) nm, (upd_ne np).trans (sx _ _ e6), bs ++ [t], _, by rw [hM1]; rfl, ?_, ?_⟩
          · rw [List.map_append]
            exact upd_same
          · rw [take_snoc hy, List.map_append]
            exact (((hS.same sx).snoc (t := (p, (manyC cs p : Int))) (SqT.of upd_same))).off em9 (fun _ z => nomatch z) (fun _ _ z => nomatch z)
      · rintro σ H' ⟨s5, e6, bs, v8, rfl, epm, hS⟩
        rw [List.length_map, List.take_length] at hS
        exact ⟨_, rfl, k pm bs _ H' (tal_mk hok.st hm hlt) (by rw [List.length_map]; exact hyl) (s2.trans s5) (s2.free nm) epm hS⟩
/-! ### fewest -/
abbrev n_fewest : List Str := ["clocks", "most", "least", "point", "many"]
theorem sc_fewest : FnScope ["clocks", "most", "least", "point", "many"] ["clocks"] (defScope s_fewest) := ⟨rfl, rfl, rfl, by decide +kernel, rfl, by decide +kernel, by decide +kernel⟩
theorem ok_fewest (T : Txt K mg a) : FnOk P w K mg base CX0 2 a.f_fewest a.d_fewest ["clocks"] (spFewest K) := by
  refine T.fewest.F.ok sc_fewest (fun vs H Q E h => ?_) (fun cdv A outer s H vs Q E hr h => ?_)
  · obtain ⟨q, xs, cs, rfl, hL, hC, hl, hok, k⟩ := h
    rfl
  · obtain ⟨q, xs, cs, rfl, hL, hC, hl, hok, k⟩ := h
    have hu := hu_of hr
    refine ⟨_, (pss_cons (ps_set (i := 1) sc_fewest.nd rfl (Or.inl rfl) pe_int)
      (pss_cons (ps_set (i := 2) sc_fewest.nd rfl (Or.inl rfl) pe_non)
      (pss_cons (ps_for PassesOwn.never rfl (piL K (pe_cl (ok_tallies T) T.tallies (hr.mono (by decide)) (pa_cons (pv 0) pa_nil))) (pg_tup (by rfl) (pgs_cons (pg_name (i := 3) sc_fewest.nd rfl (Or.inl rfl)) (pgs_cons (pg_name (i := 4) sc_fewest.nd rfl (Or.inl rfl)) pgs_nil))) (pss_one (ps_if (pt_cmpR op_gt (pv 4) (pv 1) (nomark _)) (pss_cons (ps_set (i := 1) sc_fewest.nd rfl (Or.inl rfl) (pv 4))
      (pss_one (ps_set (i := 2) sc_fewest.nd rfl (Or.inl rfl) (pv 3)))) pss_nil)))
      (pss_one (ps_ret (pe_tup (pa_cons (pe_op op_sub (pe_callB (lenK K) (by rfl) T.b_len boot_len (pa_cons (pv 0) pa_nil)) (pv 1)) (pa_cons (pv 2) pa_nil)))))))), ?_⟩
    refine ⟨_, rfl, q, xs, cs, rfl, hL, hC, hl, hok, fun p6 as L H2 T hLl s2 n6 e6 hA => ?_⟩
    refine ⟨p6, rfl, ⟨_, SqL.of e6⟩, for_list (K := K) (a := p6) (xs := as.map V.ref) (fun i σ H' => Same H2 H' ∧ ∃ (m : Int) (w : V) (v3 v4 : Option V), σ = [some (.ref q), some (.int m), some w, v3, v4] ∧ FIn L i m w)
      ⟨Same.refl _, 0, .non, none, none, rfl, FIn.zero⟩ (fun i σ H' _ h => h.1.seq (SqL.of e6)) ?_ ?_⟩
    · rintro i v σ H' hi ⟨s3, m, w, v3, v4, rfl, F⟩
      obtain ⟨b, ⟨p, n⟩, rfl, ht, hT⟩ := (hA.same s3).get hi
      refine ⟨b, _, rfl, hT, rfl, _, _, rfl, _, _, rfl, rfl, ?_⟩
      dsimp only [gName]
      refine ⟨_, rfl, _, rfl, _, _, rfl, rfl, _, rfl, ?_⟩
      refine ite_dec (fun z => ?_) (fun z => ?_)
      · refine ⟨_, rfl, ?_⟩
        refine ⟨_, rfl, ?_⟩
        exact ⟨s3, n, .int p, _, _, rfl, F.new ht (by omega)⟩
      · exact ⟨s3, m, w, _, _, rfl, F.old T ht (by omega)⟩
    · rintro σ H' ⟨s3, m, w, v3, v4, rfl, F⟩
      have el : (as.map V.ref).length = L.length := by rw [List.length_map, hA.1]
      rw [el] at F
      have h0 := F.pos
      have s5 := s2.trans s3
      refine ⟨_, rfl, _, _, rfl, .inl (s5.seq hL), _, rfl, _, _, rfl, rfl, _, rfl, (by show 2 ≤ sizeLine; decide), fun t nt => ?_⟩
      refine k t m.toNat w _ (F.done T) (s5.trans (same_new nt)) (s5.free nt) ?_
      rw [Int.toNat_of_nonneg h0, upd_same, hC.1]
/-! ### _law_whole -/
abbrev n_whole : List Str := ["_law_found"]
theorem sc_whole : FnScope ["_law_found"] ["_law_found"] (defScope s_whole) := ⟨rfl, rfl, rfl, by decide +kernel, rfl, by decide +kernel, by decide +kernel⟩
theorem ok_whole (T : Txt K mg a) : FnOk P w K mg base CX0 1 a.f_whole a.d_whole ["_law_found"] (spWhole K) := by
  refine T.whole.F.ok sc_whole (fun vs H Q E h => ?_) (fun cdv A outer s H vs Q E hr h => ?_)
  · obtain ⟨i, rfl, q⟩ := h
    rfl
  · obtain ⟨i, rfl, q⟩ := h
    have hu := hu_of hr
    refine ⟨_, (pss_one (ps_ret (pe_and (pe_callB (isiK K) (by rfl) T.b_isinstance (by decide +kernel) (pa_cons (pv 0) (pa_cons (pe_bty (n := "int") T.b_int (by decide +kernel)) pa_nil))) (pe_one (pe_not (pe_callB (isiK K) (by rfl) T.b_isinstance (by decide +kernel) (pa_cons (pv 0) (pa_cons (pe_bty (n := "bool") T.b_bool (by decide +kernel)) pa_nil)))))))), ?_⟩
    refine ⟨_, rfl, _, _, _, _, true, rfl, .ty _, .base (.int i), kit_ty (by decide +kernel), _, rfl, ?_⟩
    refine iteT ?_
    refine ⟨_, rfl, _, _, _, _, false, rfl, .ty _, .base (.int i), kit_ty (by decide +kernel), _, rfl, ?_⟩
    exact q
/-! ### _law_cell_at -/
abbrev n_cell_at : List Str := ["_law_script", "_law_k"]
theorem sc_cell_at : FnScope ["_law_script", "_law_k"] ["_law_script", "_law_k"] (defScope s_cell_at) := ⟨rfl, rfl, rfl, by decide +kernel, rfl, by decide +kernel, by decide +kernel⟩
theorem ok_cell_at (T : Txt K mg a) : FnOk P w K mg base CX0 1 a.f_cell_at a.d_cell_at ["_law_script", "_law_k"] (spCellAt K) := by
  refine T.cell_at.F.ok sc_cell_at (fun vs H Q E h => ?_) (fun cdv A outer s H vs Q E hr h => ?_)
  · obtain ⟨l, ns, j, rfl, hS, q⟩ := h
    rfl
  · obtain ⟨l, ns, j, rfl, hS, q⟩ := h
    have hu := hu_of hr
    refine ⟨_, (pss_cons (ps_if (pt_cmpR op_lt (pv 1) (pe_callB (lenK K) (by rfl) T.b_len boot_len (pa_cons (pv 0) pa_nil)) (nomark _)) (pss_one (ps_ret (pe_ix (ixL K) (pv 0) (pv 1) (fun _ _ => rfl)))) pss_nil)
      (pss_one (ps_ret pe_int))), ?_⟩
    refine ⟨_, rfl, _, rfl, _, _, rfl, .inl hS, _, _, rfl, rfl, _, rfl, ?_⟩
    have el : (ns.map V.int).length = ns.length := List.length_map ..
    refine ite2 (fun z => ?_) (fun z => ?_)
    · have z' : j < ns.length := by have := of_decide_eq_true z; omega
      have e : (ns.map V.int)[j]? = some (.int (ns.getD j 0)) := by rw [List.getElem?_map, List.getD_eq_getElem?_getD, List.getElem?_eq_getElem z']; rfl
      exact ⟨_, rfl, _, rfl, _, _, _, _, rfl, rfl, hS, atI_nat e, q⟩
    · have z' : ¬ (j < ns.length) := fun y => z (decide_eq_true (by omega))
      have e : ns.getD j 0 = 0 := by rw [List.getD_eq_getElem?_getD, List.getElem?_eq_none (by omega)]; rfl
      rw [e] at q
      exact q
/-! ### _law_mix -/
abbrev n_mix : List Str := ["_law_cell", "_law_k", "_law_number"]
theorem sc_mix : FnScope ["_law_cell", "_law_k", "_law_number"] ["_law_cell", "_law_k"] (defScope s_mix) := ⟨rfl, rfl, rfl, by decide +kernel, rfl, by decide +kernel, by decide +kernel⟩
theorem ok_mix (T : Txt K mg a) : FnOk P w K mg base CX0 1 a.f_mix a.d_mix ["_law_cell", "_law_k"] (spMix) := by
  refine T.mix.F.ok sc_mix (fun vs H Q E h => ?_) (fun cdv A outer s H vs Q E hr h => ?_)
  · obtain ⟨c, k, rfl, q⟩ := h
    rfl
  · obtain ⟨c, k, rfl, q⟩ := h
    have hu := hu_of hr
    refine ⟨_, (pss_cons (ps_set (i := 2) sc_mix.nd rfl (Or.inl rfl) (pe_op (op_modc (c := 1000003) (by decide)) (pe_op (op_mulc (c := 48271) (by decide)) (pe_op op_add (pe_op op_add (pv 0) (pe_op (op_cmul (c := 7919) (by decide)) pe_int (pv 1))) pe_int) pe_int) pe_int))
      (pss_one (ps_ret (pe_op (op_modc (c := 999983) (by decide)) (pe_op op_mul (pv 2) (pv 2)) pe_int)))), ?_⟩
    refine ⟨_, rfl, _, rfl, _, rfl, rfl, _, _, rfl, rfl, _, _, rfl, rfl, _, rfl, rfl, _, rfl, rfl, _, rfl, _, rfl, _, _, rfl, rfl, .inl ⟨by omega, by omega⟩, _, rfl, rfl, ?_⟩
    exact q _ (Int.emod_nonneg _ (by decide)) (Int.emod_lt_of_pos _ (by decide))
/-! ### _law_big -/
abbrev n_big : List Str := ["_law_cell", "_law_k", "_law_number"]
theorem sc_big : FnScope ["_law_cell", "_law_k", "_law_number"] ["_law_cell", "_law_k"] (defScope s_big) := ⟨rfl, rfl, rfl, by decide +kernel, rfl, by decide +kernel, by decide +kernel⟩
theorem ok_big (T : Txt K mg a) : FnOk P w K mg base CX0 2 a.f_big a.d_big ["_law_cell", "_law_k"] (spBig) := by
  refine T.big.F.ok sc_big (fun vs H Q E h => ?_) (fun cdv A outer s H vs Q E hr h => ?_)
  · obtain ⟨c, k, rfl, q⟩ := h
    rfl
  · obtain ⟨c, k, rfl, q⟩ := h
    have hu := hu_of hr
    refine ⟨_, (pss_cons (ps_set (i := 2) sc_big.nd rfl (Or.inl rfl) (pe_cl (ok_mix T) T.mix (hr.mono (by decide)) (pa_cons (pv 0) (pa_cons (pv 1) pa_nil))))
      (pss_cons (ps_if (pt_cmpR op_eq (pe_op (op_modc (c := 4) (by decide)) (pe_cl (ok_mix T) T.mix (hr.mono (by decide)) (pa_cons (pv 0) (pa_cons (pe_op op_add (pv 1) pe_int) pa_nil))) pe_int) pe_int (nomark _)) (pss_one (ps_ret (pe_op (op_modc (c := 30) (by decide)) (pv 2) pe_int))) pss_nil)
      (pss_cons (ps_if (pt_cmpR op_eq (pe_op (op_modc (c := 4) (by decide)) (pe_cl (ok_mix T) T.mix (hr.mono (by decide)) (pa_cons (pv 0) (pa_cons (pe_op op_add (pv 1) pe_int) pa_nil))) pe_int) pe_int (nomark _)) (pss_one (ps_ret (pe_op (op_modc (c := 3000) (by decide)) (pv 2) pe_int))) pss_nil)
      (pss_cons (ps_if (pt_cmpR op_eq (pe_op (op_modc (c := 4) (by decide)) (pe_cl (ok_mix T) T.mix (hr.mono (by decide)) (pa_cons (pv 0) (pa_cons (pe_op op_add (pv 1) pe_int) pa_nil))) pe_int) pe_int (nomark _)) (pss_one (ps_ret (pe_ix (ixL K) (pe_lst (pa_cons pe_int (pa_cons pe_int (pa_cons pe_pow12 (pa_cons (pe_op op_sub pe_pow12 pe_int) pa_nil))))) (pe_op (op_modc (c := 4) (by decide)) (pv 2) pe_int) (fun _ _ => rfl)))) pss_nil)
      (pss_one (ps_ret (pe_op op_mod (pe_op op_add (pe_op (op_mulc (c := 1000003) (by decide)) (pv 2) pe_int) (pe_cl (ok_mix T) T.mix (hr.mono (by decide)) (pa_cons (pv 0) (pa_cons (pe_op op_add (pv 1) pe_int) pa_nil)))) (pe_op op_add pe_pow12 pe_int)))))))), ?_⟩
    refine ⟨_, rfl, _, rfl, _, _, rfl, fun m m0 m1 => ?_⟩
    refine ⟨_, rfl, _, rfl, _, _, rfl, rfl, _, _, rfl, fun x x0 x1 => ?_⟩
    refine ⟨_, rfl, rfl, rfl, _, rfl, ?_⟩
    refine ite2 (fun z => ?_) (fun z => ?_)
    · refine ⟨_, rfl, _, rfl, rfl, ?_⟩
      exact q _ H (by omega) (by omega) (Same.refl H)
    refine ⟨_, rfl, _, rfl, _, _, rfl, rfl, _, _, rfl, fun y y0 y1 => ?_⟩
    refine ⟨_, rfl, rfl, rfl, _, rfl, ?_⟩
    refine ite2 (fun z => ?_) (fun z => ?_)
    · refine ⟨_, rfl, _, rfl, rfl, ?_⟩
      exact q _ H (by omega) (by omega) (Same.refl H)
    refine ⟨_, rfl, _, rfl, _, _, rfl, rfl, _, _, rfl, fun u u0 u1 => ?_⟩
    refine ⟨_, rfl, rfl, rfl, _, rfl, ?_⟩
    refine ite2 (fun z => ?_) (fun z => ?_)
    · refine ⟨_, _, rfl, rfl, (by show 4 ≤ sizeLine; decide), fun p np => ?_⟩
      refine ⟨_, rfl, _, rfl, rfl, ?_⟩
      refine ix_int (fun j => 0 ≤ j ∧ j ≤ 1000000000000) SqL.here (Int.emod_nonneg _ (by decide)) (Int.emod_lt_of_pos _ (by decide)) (allc ⟨_, rfl, by decide⟩ (allc ⟨_, rfl, by decide⟩ (allc ⟨_, rfl, by decide⟩ (all1 ⟨_, rfl, by decide⟩)))) fun j hj => ?_
      exact q j _ hj.1 hj.2 (same_new np)
    refine ⟨_, rfl, _, rfl, rfl, _, rfl, _, rfl, _, _, rfl, rfl, _, _, rfl, fun v v0 v1 => ?_⟩
    refine ⟨_, _, rfl, rfl, _, _, rfl, rfl, _, _, rfl, rfl, (by show (0 : Int) < 1000000000000 + 1; decide), ?_⟩
    exact q _ H (Int.emod_nonneg _ (by decide)) (Int.le_of_lt_add_one (Int.emod_lt_of_pos _ (by decide))) (Same.refl H)
/-! ### _law_word -/
abbrev n_word : List Str := ["_law_cell", "_law_size", "_law_word_here", "_law_k"]
theorem sc_word : FnScope ["_law_cell", "_law_size", "_law_word_here", "_law_k"] ["_law_cell", "_law_size"] (defScope s_word) := ⟨rfl, rfl, rfl, by decide +kernel, rfl, by decide +kernel, by decide +kernel⟩
theorem ok_word (T : Txt K mg a) : FnOk P w K mg base CX0 2 a.f_word a.d_word ["_law_cell", "_law_size"] (spWord) := by
  refine T.word.F.ok sc_word (fun vs H Q E h => ?_) (fun cdv A outer s H vs Q E hr h => ?_)
  · obtain ⟨c, n, rfl, n0, n1, q⟩ := h
    rfl
  · obtain ⟨c, n, rfl, n0, n1, q⟩ := h
    have hu := hu_of hr
    refine ⟨_, (pss_cons (ps_set (i := 2) sc_word.nd rfl (Or.inl rfl) (pe_strC (l := []) (by decide +kernel)))
      (pss_cons (ps_for PassesOwn.never rfl (pi_range1 rfl T.b_range (pa_cons (pv 1) pa_nil)) (pg_name (i := 3) sc_word.nd rfl (Or.inl rfl)) (pss_one (ps_set (i := 2) sc_word.nd rfl (Or.inl rfl) (pe_op op_addC (pv 2) (pe_ix ix_C (pe_strC (l := [97, 98, 99, 100, 101, 102, 103, 104, 105, 106, 107, 108, 109, 110, 111, 112, 113, 114, 115, 116, 117, 118, 119, 120, 121, 122]) (by decide +kernel)) (pe_op (op_modc (c := 26) (by decide)) (pe_cl (ok_mix T) T.mix (hr.mono (by decide)) (pa_cons (pv 0) (pa_cons (pe_op op_add (pv 3) pe_int) pa_nil))) pe_int) (fun _ _ => rfl))))))
      (pss_one (ps_ret (pv 2))))), ?_⟩
    refine ⟨_, rfl, n, rfl, by omega, by omega, for_range (lo := 0) (n := n.toNat) (fun i σ H' => H = H' ∧ ∃ (z : List Nat) (v : Option V), σ = [some (.int c), some (.int n), some (.str (mkS z)), v] ∧ z.length = i ∧ low z)
      ⟨rfl, [], none, rfl, rfl, fun _ h => nomatch h⟩ ?_ ?_⟩
    · rintro i σ H' hi ⟨rfl, z, v, rfl, hz, lz⟩
      refine ⟨_, rfl, _, rfl, _, rfl, _, _, rfl, rfl, _, _, rfl, fun m m0 m1 => ?_⟩
      obtain ⟨j, hj⟩ := Int.eq_ofNat_of_zero_le (Int.emod_nonneg m (by decide : (26 : Int) ≠ 0))
      have hj26 : j < 26 := by omega
      refine ⟨_, rfl, rfl, _, j, 97 + j, rfl, by dsimp only; rw [hj], by decide, alphaL hj26, ?_⟩
      refine ⟨_, _, rfl, rfl, by rw [hz]; show i + 1 ≤ 1000000; omega, ?_⟩
      refine ⟨rfl, z ++ [97 + j], some (.int (0 + (i : Int))), rfl, by rw [List.length_append, hz]; rfl, fun ch hc => ?_⟩
      rcases List.mem_append.mp hc with h | h
      · exact lz ch h
      · rw [List.mem_singleton] at h
        omega
    · rintro σ H' ⟨rfl, z, v, rfl, hz, lz⟩
      exact ⟨_, rfl, q z (by omega) lz⟩
/-! ### _law_names -/
abbrev n_names : List Str := ["_law_cell", "_law_base", "_law_at", "_law_signs", "_law_k"]
theorem sc_names : FnScope ["_law_cell", "_law_base", "_law_at", "_law_signs", "_law_k"] ["_law_cell"] (defScope s_names) := ⟨rfl, rfl, rfl, by decide +kernel, rfl, by decide +kernel, by decide +kernel⟩
theorem ok_names (T : Txt K mg a) : FnOk P w K mg base CX0 3 a.f_names a.d_names ["_law_cell"] (spNames) := by
  refine T.names.F.ok sc_names (fun vs H Q E h => ?_) (fun cdv A outer s H vs Q E hr h => ?_)
  · obtain ⟨c, rfl, q⟩ := h
    rfl
  · obtain ⟨c, rfl, q⟩ := h
    have hu := hu_of hr
    refine ⟨_, (pss_cons (ps_set (i := 1) sc_names.nd rfl (Or.inr rfl) (pe_cl (ok_word T) T.word (hr.mono (by decide)) (pa_cons (pv 0) (pa_cons (pe_op (op_modc (c := 11) (by decide)) (pv 0) pe_int) pa_nil))))
      (pss_cons (ps_set (i := 2) sc_names.nd rfl (Or.inr rfl) (pe_op (op_modc (c := 11) (by decide)) (pe_cl (ok_mix T) T.mix (hr.mono (by decide)) (pa_cons (pv 0) (pa_cons pe_int pa_nil))) pe_int))
      (pss_cons (ps_set (i := 3) sc_names.nd rfl (Or.inr rfl) (pe_strC (l := [97, 98, 99, 100, 101, 102, 103, 104, 105, 106, 107, 108, 109, 110, 111, 112, 113, 114, 115, 116, 117, 118, 119, 120, 121, 122]) (by decide +kernel)))
      (pss_one (ps_ret (pe_lc (own := [("_law_k", 4)]) (g := gName 4) (tt := tYes) rfl sc_names.nd (pi_range1 rfl T.b_range (pa_cons pe_int pa_nil)) (blkOk_by (N := n_names) (sc := defScope s_names) (by decide +kernel)) (fun _ _ _ _ _ => pg_name (i := 4) sc_names.nd rfl (Or.inl rfl)) (fun _ _ _ _ _ => pts_nil) (fun _ _ _ _ _ => (pe_op op_addC (pe_op op_addC (pe_op op_addC (pe_slice sl_to (pv 1) po_none (po_some (pv 2))) (pe_ix ix_C (pv 3) (pe_op (op_modc (c := 26) (by decide)) (pv 4) pe_int) (fun _ _ => rfl))) (pe_ix (ixL K) (pe_lst (pa_cons (pe_strC (l := []) (by decide +kernel)) (pa_cons (pe_strC (l := [122]) (by decide +kernel)) pa_nil))) (pe_op (op_divc (c := 26) (by decide) (by decide)) (pv 4) pe_int) (fun _ _ => rfl))) (pe_slice sl_from (pv 1) (po_some (pv 2)) po_none))))))))), ?_⟩
    refine ⟨_, rfl, _, rfl, _, rfl, rfl, _, _, rfl, Int.emod_nonneg _ (by decide), by omega, fun b hb lb => ?_⟩
    refine ⟨_, rfl, _, _, rfl, fun m m0 m1 => ?_⟩
    refine ⟨_, rfl, rfl, ?_⟩
    have hb10 : b.length ≤ 10 := by omega
    obtain ⟨j, hj⟩ := Int.eq_ofNat_of_zero_le (Int.emod_nonneg m (by decide : (11 : Int) ≠ 0))
    dsimp only [gName]
    rw [hj]
    have hj10 : j ≤ 10 := by omega
    refine ⟨42, rfl, by decide, by decide, fun D nD => lc_range (lo := 0) (n := 42) (fun i H' => Same H H' ∧ H' D = some (.lst (txs ((List.range i).map (nmL b j))))) ⟨same_new nD, upd_same⟩ ?_ ?_⟩
    · rintro i H' hi ⟨s1, eD⟩
      refine ⟨rfl, ?_⟩
      refine ⟨_, rfl, _, rfl, _, rfl, b, j, rfl, rfl, rfl, by omega, ?_⟩
      have e1 : (0 + (i : Int)) % 26 = ((i % 26 : Nat) : Int) := by omega
      refine ⟨_, rfl, _, rfl, _, rfl, rfl, _, i % 26, 97 + i % 26, rfl, by dsimp only; rw [e1], by decide, alphaL (Nat.mod_lt _ (by decide)), ?_⟩
      refine ⟨_, _, rfl, rfl, by rw [List.length_take]; show min j b.length + 1 ≤ 1000000; omega, ?_⟩
      refine ⟨(by show 2 ≤ sizeLine; decide), fun p np => ?_⟩
      refine ⟨_, rfl, _, rfl, rfl, ?_⟩
      have nDp : D ≠ p := ne_of_none eD np
      have e2 : atI [V.str (mkS []), V.str (mkS [122])] ((0 + (i : Int)) / 26) = some (.str (mkS (if i < 26 then [] else [122]))) := by
        by_cases h : i < 26
        · have e3 : (0 + (i : Int)) / 26 = ((0 : Nat) : Int) := by omega
          rw [e3, if_pos h]
          exact atI_nat (j := 0) rfl
        · have e3 : (0 + (i : Int)) / 26 = ((1 : Nat) : Int) := by omega
          rw [e3, if_neg h]
          exact atI_nat (j := 1) rfl
      refine ⟨p, _, _, _, rfl, rfl, SqL.here, e2, ?_⟩
      refine ⟨_, _, rfl, rfl, by rw [List.length_append, List.length_take]; split <;> simp <;> omega, ?_⟩
      refine ⟨_, rfl, _, rfl, _, rfl, b, j, rfl, rfl, rfl, by omega, ?_⟩
      refine ⟨_, _, rfl, rfl, by rw [List.length_append, List.length_append, List.length_take, List.length_drop]; split <;> simp <;> omega, ?_⟩
      refine ⟨_, (upd_ne nDp).trans eD, by unfold txs; rw [List.length_map, List.length_map, List.length_range]; exact Nat.lt_trans hi (by decide), Same.mut (s1.trans (same_new np)) nD, upd_same.trans ?_⟩
      rw [List.range_succ, List.map_append]
      unfold txs
      rw [List.map_append]
      rfl
    · rintro H' ⟨s1, eD⟩
      refine q D _ H' ?_ (nmList_nodup b j) (fun z hz => ?_) s1 eD
      · unfold nmList; rw [List.length_map, List.length_range]
      · obtain ⟨k, hk, rfl⟩ := List.mem_map.mp hz
        exact nmL_ok hb10 lb (List.mem_range.mp hk)
/-! ### _law_clocks -/
abbrev n_clocks : List Str := ["_law_script", "_law_names_here", "_law_wide", "_law_made", "_law_k", "_law_cell", "_law_low", "_law_high"]
theorem sc_clocks : FnScope ["_law_script", "_law_names_here", "_law_wide", "_law_made", "_law_k", "_law_cell", "_law_low", "_law_high"] ["_law_script"] (defScope s_clocks) := ⟨rfl, rfl, rfl, by decide +kernel, rfl, by decide +kernel, by decide +kernel⟩
theorem ok_clocks (T : Txt K mg a) : FnOk P w K mg base CX0 4 a.f_clocks a.d_clocks ["_law_script"] (spClocks K) := by
  refine T.clocks.F.ok sc_clocks (fun vs H Q E h => ?_) (fun cdv A outer s H vs Q E hr h => ?_)
  · obtain ⟨l, ns, rfl, hS, hlen, k⟩ := h
    rfl
  · obtain ⟨l, ns, rfl, hS, hlen, k⟩ := h
    have hu := hu_of hr
    refine ⟨_, (pss_cons (ps_set (i := 1) sc_clocks.nd rfl (Or.inl rfl) (pe_cl (ok_names T) T.names (hr.mono (by decide)) (pa_cons (pe_cl (ok_cell_at T) T.cell_at (hr.mono (by decide)) (pa_cons (pv 0) (pa_cons pe_int pa_nil))) pa_nil)))
      (pss_cons (ps_set (i := 2) sc_clocks.nd rfl (Or.inl rfl) (pe_ix (ixL K) (pe_lst (pa_cons pe_int (pa_cons pe_int (pa_cons pe_int (pa_cons pe_pow12 pa_nil))))) (pe_op (op_modc (c := 4) (by decide)) (pe_cl (ok_cell_at T) T.cell_at (hr.mono (by decide)) (pa_cons (pv 0) (pa_cons pe_int pa_nil))) pe_int) (fun _ _ => rfl)))
      (pss_cons (ps_set (i := 3) sc_clocks.nd rfl (Or.inl rfl) (pe_lst pa_nil))
      (pss_cons (ps_for PassesOwn.never rfl (pi_range1 rfl T.b_range (pa_cons (pe_callB (call_min2 rfl) (by rfl) T.b_min (by decide +kernel) (pa_cons pe_int (pa_cons (pe_callB (call_max2 rfl) (by rfl) T.b_max (by decide +kernel) (pa_cons pe_int (pa_cons (pe_op op_sub (pe_callB (lenK K) (by rfl) T.b_len boot_len (pa_cons (pv 0) pa_nil)) pe_int) pa_nil))) pa_nil))) pa_nil)) (pg_name (i := 4) sc_clocks.nd rfl (Or.inl rfl)) (pss_cons (ps_set (i := 5) sc_clocks.nd rfl (Or.inl rfl) (pe_ix (ixL K) (pv 0) (pe_op op_add pe_int (pv 4)) (fun _ _ => rfl)))
      (pss_cons (ps_set (i := 6) sc_clocks.nd rfl (Or.inl rfl) (pe_op op_mul (pe_op op_mod (pe_cl (ok_mix T) T.mix (hr.mono (by decide)) (pa_cons (pv 5) (pa_cons pe_int pa_nil))) (pv 2)) (pe_ix (ixL K) (pe_lst (pa_cons pe_int (pa_cons pe_negc pa_nil))) (pe_op (op_modc (c := 2) (by decide)) (pe_cl (ok_mix T) T.mix (hr.mono (by decide)) (pa_cons (pv 5) (pa_cons pe_int pa_nil))) pe_int) (fun _ _ => rfl))))
      (pss_cons (ps_set (i := 7) sc_clocks.nd rfl (Or.inl rfl) (pe_op op_add (pv 6) (pe_ix (ixL K) (pe_lst (pa_cons pe_int (pa_cons (pe_op (op_modc (c := 10) (by decide)) (pe_cl (ok_mix T) T.mix (hr.mono (by decide)) (pa_cons (pv 5) (pa_cons pe_int pa_nil))) pe_int) (pa_cons (pe_op op_mod (pe_cl (ok_mix T) T.mix (hr.mono (by decide)) (pa_cons (pv 5) (pa_cons pe_int pa_nil))) (pv 2)) pa_nil)))) (pe_op (op_modc (c := 3) (by decide)) (pe_cl (ok_mix T) T.mix (hr.mono (by decide)) (pa_cons (pv 5) (pa_cons pe_int pa_nil))) pe_int) (fun _ _ => rfl))))
      (pss_cons (ps_if (pt_cmpR op_eq (pe_op (op_modc (c := 9) (by decide)) (pe_cl (ok_mix T) T.mix (hr.mono (by decide)) (pa_cons (pv 5) (pa_cons pe_int pa_nil))) pe_int) pe_int (nomark _)) (pss_one (ps_asg (pe_callB (sortK K) (by rfl) T.b_sorted (by decide +kernel) (pa_cons (pe_lst (pa_cons (pe_cl (ok_big T) T.big (hr.mono (by decide)) (pa_cons (pv 5) (pa_cons pe_int pa_nil))) (pa_cons (pe_cl (ok_big T) T.big (hr.mono (by decide)) (pa_cons (pv 5) (pa_cons pe_int pa_nil))) pa_nil))) pa_nil)) (pg_unl (by rfl) (pgs_cons (pg_name (i := 6) sc_clocks.nd rfl (Or.inl rfl)) (pgs_cons (pg_name (i := 7) sc_clocks.nd rfl (Or.inl rfl)) pgs_nil))))) pss_nil)
      (pss_one (ps_expr (pe_bm PySem.F.plainAttrs_list PySem.F.slot_list_append PySem.F.type_list_append mt_append (pv 3) (pa_cons (pe_tup (pa_cons (pe_ix (ixL K) (pv 1) (pv 4) (fun _ _ => rfl)) (pa_cons (pe_ifExp (pt_cmpR op_eq (pe_op (op_modc (c := 8) (by decide)) (pe_cl (ok_mix T) T.mix (hr.mono (by decide)) (pa_cons (pv 5) (pa_cons pe_int pa_nil))) pe_int) pe_int (nomark _)) pe_non (pe_tup (pa_cons (pv 6) (pa_cons (pv 7) pa_nil)))) pa_nil))) pa_nil)))))))))
      (pss_one (ps_ret (pv 3))))))), ?_⟩
    -- names
    refine ⟨_, rfl, _, _, 0, rfl, hS, _, rfl, fun pn nms H1 hn42 hnd hnok s1 epn => ?_⟩
    -- wide
    refine ⟨(by show 4 ≤ sizeLine; decide), fun p1 n1 => ?_⟩
    refine ⟨_, rfl, _, _, 1, rfl, (s1.trans (same_new n1)).seq hS, _, rfl, rfl, ?_⟩
    refine ix_int (fun j => 0 < j ∧ j ≤ 1000000000000) SqL.here (Int.emod_nonneg _ (by decide)) (Int.emod_lt_of_pos _ (by decide)) (allc ⟨_, rfl, by decide⟩ (allc ⟨_, rfl, by decide⟩ (allc ⟨_, rfl, by decide⟩ (all1 ⟨_, rfl, by decide⟩)))) fun wd hwd => ?_
    -- made
    refine ⟨(by show 0 ≤ sizeLine; decide), fun pm nm => ?_⟩
    have s2 : Same H _ := s1.trans (same_new n1 (o := .lst [.int 9, .int 30, .int 1000, .int 1000000000000]))
    have epn2 := same_new n1 (o := .lst [.int 9, .int 30, .int 1000, .int 1000000000000]) _ _ epn
    dsimp only [gName]
    generalize upd H1 p1 _ = H2 at s2 epn2 nm ⊢
    obtain ⟨N, eN, N40, Nin⟩ : ∃ N : Nat, (if (if (((ns.map V.int).length : Nat) : Int) - 3 > 0 then (((ns.map V.int).length : Nat) : Int) - 3 else 0) < 40 then (if (((ns.map V.int).length : Nat) : Int) - 3 > 0 then (((ns.map V.int).length : Nat) : Int) - 3 else 0) else 40) = (N : Int) ∧ N ≤ 40 ∧ ∀ i, i < N → 3 + i < ns.length := by
      rw [List.length_map]
      refine ⟨min 40 (ns.length - 3), ?_, by omega, fun i hi => by omega⟩
      split <;> split <;> omega
    refine ⟨_, rfl, _, _, rfl, .inl ((s2.trans (same_new nm)).seq hS), _, _, rfl, rfl, _, _, rfl, _, _, rfl, (N : Int), by rw [← eN], by omega, by omega, for_range (lo := 0) (n := (N : Int).toNat) (fun i σ H' => Same H2 H' ∧ ∃ (xs : List V) (cs : List Clk) (v4 v5 v6 v7 : Option V),
        σ = [some (.ref l), some (.ref pn), some (.int wd), some (.ref pm), v4, v5, v6, v7] ∧ H' pm = some (.lst xs) ∧ ClksAt K H' xs cs ∧ cs.length = i ∧ cs.map (·.1) = nms.take i ∧ ∀ c ∈ cs, ∀ s : St2, c.2 = some s → s.1 ≤ s.2)
      ⟨same_new nm, [], [], none, none, none, none, rfl, upd_same, ClksAt.nil, rfl, rfl, fun _ h => nomatch h⟩ ?_ ?_⟩
    · rintro i σ H3 hi ⟨s3, xs, cs, v4, v5, v6, v7, rfl, em, hX, hci, hcn, hcs⟩
      have hiN : i < N := by omega
      have hin := Nin i hiN
      have hS3 := (s2.trans s3).seq hS
      have hat : atI (ns.map V.int) (3 + (0 + (i : Int))) = some (.int ns[3 + i]) := at_of (j := 3 + i) (by omega) (by rw [List.getElem?_map, List.getElem?_eq_getElem hin]; rfl)
      refine ⟨_, rfl, _, rfl, _, _, rfl, rfl, _, _, _, _, rfl, rfl, hS3, hat, ?_⟩
      dsimp only [gName]
      generalize ns[3 + i] = z
      -- low
      refine ⟨_, rfl, _, _, rfl, fun m m0 m1 => ?_⟩
      refine ⟨_, rfl, _, _, rfl, rfl, hwd.1, (by show 2 ≤ sizeLine; decide), fun p3 n3 => ?_⟩
      refine ⟨_, rfl, _, _, rfl, fun b b0 b1 => ?_⟩
      refine ⟨_, rfl, rfl, ?_⟩
      refine ix_int (fun j => j = 1 ∨ j = -1) SqL.here (Int.emod_nonneg _ (by decide)) (Int.emod_lt_of_pos _ (by decide)) (allc ⟨_, rfl, .inl rfl⟩ (all1 ⟨_, rfl, .inr rfl⟩)) fun j1 hj1 => ?_
      have mw0 := Int.emod_nonneg m (show wd ≠ 0 by omega)
      have mw1 := Int.emod_lt_of_pos m hwd.1
      refine ⟨_, _, rfl, rfl, .inl ⟨by omega, by omega⟩, ?_⟩
      dsimp only [gName]
      generalize m % wd * j1 = lw
      have sA : Same H3 _ := same_new n3 (o := .lst [.int 1, .int (-1)])
      generalize upd H3 p3 _ = HA at sA ⊢
      -- high
      refine ⟨_, rfl, _, rfl, _, _, rfl, fun d d0 d1 => ?_⟩
      refine ⟨_, rfl, rfl, _, rfl, _, _, rfl, fun e e0 e1 => ?_⟩
      refine ⟨_, rfl, _, _, rfl, rfl, hwd.1, (by show 3 ≤ sizeLine; decide), fun p4 n4 => ?_⟩
      refine ⟨_, rfl, _, _, rfl, fun f f0 f1 => ?_⟩
      refine ⟨_, rfl, rfl, ?_⟩
      refine ix_int (fun j => 0 ≤ j) SqL.here (Int.emod_nonneg _ (by decide)) (Int.emod_lt_of_pos _ (by decide)) (allc ⟨_, rfl, by decide⟩ (allc ⟨_, rfl, Int.emod_nonneg _ (by decide)⟩ (all1 ⟨_, rfl, Int.emod_nonneg _ (by omega)⟩))) fun up hup => ?_
      refine ⟨_, _, rfl, rfl, ?_⟩
      dsimp only [gName]
      have hlh : lw ≤ lw + up := by omega
      generalize lw + up = hw at hlh
      have sB : Same H3 _ := sA.trans (same_new n4 (o := .lst [.int 0, .int (d % 10), .int (e % wd)]))
      generalize upd HA p4 _ = HB at sB ⊢
      refine seq_cut (fun σ' H' => ∃ (lo hi : Int), lo ≤ hi ∧ Same HB H' ∧ σ' = [some (.ref l), some (.ref pn), some (.int wd), some (.ref pm), some (.int (0 + (i : Int))), some (.int z), some (.int lo), some (.int hi)]) (fun N hN => ?_) ?_
      · refine ⟨_, rfl, _, _, rfl, fun h h0 h1 => ?_⟩
        refine ⟨_, rfl, rfl, rfl, _, rfl, ?_⟩
        refine ite_eq (fun z => ?_) (fun z => ?_)
        · refine ⟨_, rfl, _, _, rfl, fun i Hd i0 i1 sd => ?_⟩
          refine ⟨_, rfl, _, _, rfl, fun j He j0 j1 se => ?_⟩
          refine ⟨(by show 2 ≤ sizeLine; decide), fun p5 n5 => ?_⟩
          refine ⟨_, [i, j], rfl, SqL.here, (by show 2 < 64; decide), fun ns2 p6 hp2 hs2 n6 => ?_⟩
          obtain ⟨lo2, hi2, rfl, lh2, lhx2⟩ := perm2 hp2 hs2
          refine ⟨p6, _, rfl, SqL.here, rfl, _, _, rfl, _, _, rfl, rfl, ?_⟩
          exact hN _ _ ⟨lo2, hi2, lh2, ((sd.trans se).trans (same_new n5)).trans (same_new n6), rfl⟩
        · exact hN _ _ ⟨lw, hw, hlh, Same.refl _, rfl⟩
      rintro σ' H6 ⟨lo, hi', lh, s6, rfl⟩
      have s36 : Same H3 H6 := sB.trans s6
      have em6 := s36 _ _ em
      have i42 : i < nms.length := by omega
      have hxl : xs.length < sizeLine := Nat.lt_of_le_of_lt (show xs.length ≤ 40 by rw [hX.1]; omega) (by decide)
      have hnat : atI (txs nms) (0 + (i : Int)) = some (.str (mkS nms[i])) := at_of (j := i) (by omega) (by unfold txs; rw [List.getElem?_map, List.getElem?_eq_getElem i42]; rfl)
      have hnt : nms.take (i + 1) = nms.take i ++ [nms[i]] := take_snoc (List.getElem?_eq_getElem i42)
      generalize nms[i] = nmi at hnat hnt
      have fin : ∀ (u : V) (o : Option St2) (H8 : Hp) (t : Addr), Same H6 H8 → ClV K H8 u o → H8 t = none → (∀ s : St2, o = some s → s.1 ≤ s.2) →
          (Same H2 (upd (upd H8 t (.tup [.str (mkS nmi), u])) pm (.lst (xs ++ [.ref t]))) ∧ ∃ (xs' : List V) (cs' : List Clk), (upd (upd H8 t (.tup [.str (mkS nmi), u])) pm (.lst (xs ++ [.ref t]))) pm = some (.lst xs') ∧
            ClksAt K (upd (upd H8 t (.tup [.str (mkS nmi), u])) pm (.lst (xs ++ [.ref t]))) xs' cs' ∧ cs'.length = i + 1 ∧ cs'.map (·.1) = nms.take (i + 1) ∧ ∀ c ∈ cs', ∀ s : St2, c.2 = some s → s.1 ≤ s.2) := by
        intro u o H8 t s8 cv nt ho
        have em8 := s8 _ _ em6
        have npt : pm ≠ t := ne_of_none em8 nt
        have em9 := (upd_ne npt (o := .tup [.str (mkS nmi), u])).trans em8
        have sx : Same H8 (upd H8 t (.tup [.str (mkS nmi), u])) := same_new nt
        refine ⟨Same.mut (((s3.trans s36).trans s8).trans sx) nm, xs ++ [.ref t], cs ++ [(nmi, o)], upd_same, ?_, by rw [List.length_append, hci]; rfl, by rw [List.map_append, hcn, hnt]; rfl, fun c hc => ?_⟩
        · exact (((hX.same (s36.trans (s8.trans sx))).snoc ⟨t, u, rfl, SqT.of upd_same, cv.same sx⟩)).off em9 (fun _ z => nomatch z) (fun _ _ z => nomatch z)
        · rcases List.mem_append.mp hc with h | h
          · exact hcs c h
          · rw [List.mem_singleton] at h
            subst h
            exact ho
      refine ⟨_, rfl, .inl ⟨rfl, _, SqL.of em6⟩, _, rfl, _, rfl, _, _, _, _, rfl, rfl, SqL.of ((s3.trans s36) _ _ epn2), hnat, ?_⟩
      refine ⟨_, rfl, _, _, rfl, fun g g0 g1 => ?_⟩
      refine ⟨_, rfl, rfl, rfl, _, rfl, ?_⟩
      refine ite_eq (fun y => ?_) (fun y => ?_)
      · refine ⟨(by show 2 ≤ sizeLine; decide), fun t nt => ?_⟩
        obtain ⟨f1, xs', cs', f2, f3, f4, f5, f6⟩ := fin .non none _ t (Same.refl H6) rfl nt (fun _ h => nomatch h)
        refine ⟨pm, xs, .ref t, rfl, rfl, (upd_ne (ne_of_none em6 nt)).trans em6, hxl, ?_⟩
        exact ⟨f1, xs', cs', _, _, _, _, rfl, f2, f3, f4, f5, f6⟩
      · refine ⟨_, rfl, _, rfl, (by show 2 ≤ sizeLine; decide), fun u nu => ?_⟩
        refine ⟨(by show 2 ≤ sizeLine; decide), fun t nt => ?_⟩
        obtain ⟨f1, xs', cs', f2, f3, f4, f5, f6⟩ := fin (.ref u) (some (lo, hi')) _ t (same_new nu) ⟨u, rfl, SqT.of upd_same⟩ nt (fun s h => by cases h; exact lh)
        refine ⟨pm, xs, .ref t, rfl, rfl, (upd_ne (ne_of_none (same_new nu _ _ em6) nt)).trans (same_new nu _ _ em6), hxl, ?_⟩
        exact ⟨f1, xs', cs', _, _, _, _, rfl, f2, f3, f4, f5, f6⟩
    · rintro σ H3 ⟨s3, xs, cs, v4, v5, v6, v7, rfl, em, hX, hci, hcn, hcs⟩
      refine ⟨_, rfl, k pm xs cs H3 (s2.trans s3) (s2.free nm) em hX (by omega) ⟨fun c hc => ?_, hcs, ?_⟩⟩
      · have : c.1 ∈ cs.map (·.1) := List.mem_map_of_mem hc
        rw [hcn] at this
        exact hnok _ (List.mem_of_mem_take this)
      · rw [hcn]
        exact List.Nodup.sublist (List.take_sublist _ _) hnd
/-! ### _law_many -/
abbrev n_many : List Str := ["_law_clocks_here", "_law_point_here", "_law_found", "_law_name", "_law_stretch"]
theorem sc_many : FnScope ["_law_clocks_here", "_law_point_here", "_law_found", "_law_name", "_law_stretch"] ["_law_clocks_here", "_law_point_here"] (defScope s_many) := ⟨rfl, rfl, rfl, by decide +kernel, rfl, by decide +kernel, by decide +kernel⟩
theorem ok_many (T : Txt K mg a) : FnOk P w K mg base CX0 1 a.f_many a.d_many ["_law_clocks_here", "_law_point_here"] (spMany K) := by
  refine T.many.F.ok sc_many (fun vs H Q E h => ?_) (fun cdv A outer s H vs Q E hr h => ?_)
  · obtain ⟨q, xs, cs, t, rfl, hL, hC, k⟩ := h
    rfl
  · obtain ⟨q, xs, cs, t, rfl, hL, hC, k⟩ := h
    have hu := hu_of hr
    refine ⟨_, (pss_cons (ps_set (i := 2) sc_many.nd rfl (Or.inl rfl) pe_int)
      (pss_cons (ps_for PassesOwn.never rfl (piL K (pv 0)) (pg_tup (by rfl) (pgs_cons (pg_name (i := 3) sc_many.nd rfl (Or.inl rfl)) (pgs_cons (pg_name (i := 4) sc_many.nd rfl (Or.inl rfl)) pgs_nil))) (pss_one (ps_if (PW.pt (pw_and (pt_cmpR op_notN (pv 4) pe_non (nomark _)) (pw_and (pt_cmpR op_le (pe_ix (ixT K) (pv 4) pe_int (fun _ _ => rfl)) (pv 1) (nomark _)) (pw_and1 (pt_cmpR op_le (pv 1) (pe_ix (ixT K) (pv 4) pe_int (fun _ _ => rfl)) (nomark _)))))) (pss_one (ps_set (i := 2) sc_many.nd rfl (Or.inl rfl) (pe_op op_add (pv 2) pe_int))) pss_nil)))
      (pss_one (ps_ret (pv 2))))), ?_⟩
    refine ⟨_, rfl, q, rfl, ⟨_, hL⟩, for_list (K := K) (a := q) (xs := xs) (fun i σ H' => H = H' ∧ ∃ v3 v4 : Option V, σ = [some (.ref q), some (.int t), some (.int (manyC (cs.take i) t)), v3, v4]) ⟨rfl, none, none, rfl⟩ (fun i σ H' _ h => h.1 ▸ hL) ?_ ?_⟩
    · rintro i v σ H' hi ⟨rfl, v3, v4, rfl⟩
      obtain ⟨c, hc, u, w, rfl, hT, hV⟩ := hC.get hi
      rw [take_snoc hc, manyC_snoc]
      refine ⟨u, _, rfl, hT, rfl, _, _, rfl, _, _, rfl, rfl, ?_⟩
      obtain ⟨cn, co⟩ := c
      cases co with
      | none =>
        cases (show w = .non from hV)
        refine ⟨_, rfl, rfl, _, rfl, ?_⟩
        refine iteF ?_
        exact ⟨rfl, _, _, rfl⟩
      | some st =>
        obtain ⟨b, rfl, hB⟩ := hV
        refine ⟨_, rfl, rfl, _, rfl, ?_⟩
        refine iteT ?_
        refine ⟨_, rfl, _, _, _, _, rfl, rfl, hB, atI_nat (j := 0) rfl, _, rfl, _, _, rfl, rfl, _, rfl, ?_⟩
        refine ite_dec (fun h1 => ?_) (fun h1 => ?_)
        · refine ⟨_, rfl, _, rfl, _, _, _, _, rfl, rfl, hB, atI_nat (j := 1) rfl, _, _, rfl, rfl, _, rfl, ?_⟩
          refine ite_dec (fun h2 => ?_) (fun h2 => ?_)
          · refine ⟨_, rfl, _, _, rfl, rfl, ?_⟩
            have e : bearsC t (cn, some st) = true := by
              show (decide (st.1 ≤ t) && decide (t ≤ st.2)) = true
              rw [decide_eq_true h1, decide_eq_true h2]
              rfl
            exact ⟨rfl, _, _, by rw [if_pos e]; rfl⟩
          · have e : ¬ bearsC t (cn, some st) = true := by
              show ¬ (decide (st.1 ≤ t) && decide (t ≤ st.2)) = true
              rw [decide_eq_false h2, Bool.and_false]
              exact Bool.false_ne_true
            exact ⟨rfl, _, _, by rw [if_neg e]; rfl⟩
        · have e : ¬ bearsC t (cn, some st) = true := by
            show ¬ (decide (st.1 ≤ t) && decide (t ≤ st.2)) = true
            rw [decide_eq_false h1, Bool.false_and]
            exact Bool.false_ne_true
          exact ⟨rfl, _, _, by rw [if_neg e]; rfl⟩
    · rintro σ H' ⟨rfl, v3, v4, rfl⟩
      rw [hC.1, List.take_length]
      exact ⟨_, rfl, k⟩
/-! ### _law_lows -/
abbrev n_lows : List Str := ["_law_clocks_here", "_law_name", "_law_stretch"]
theorem sc_lows : FnScope ["_law_clocks_here", "_law_name", "_law_stretch"] ["_law_clocks_here"] (defScope s_lows) := ⟨rfl, rfl, rfl, by decide +kernel, rfl, by decide +kernel, by decide +kernel⟩
theorem ok_lows (T : Txt K mg a) : FnOk P w K mg base CX0 1 a.f_lows a.d_lows ["_law_clocks_here"] (spLows K) := by
  refine T.lows.F.ok sc_lows (fun vs H Q E h => ?_) (fun cdv A outer s H vs Q E hr h => ?_)
  · obtain ⟨q, xs, cs, rfl, hL, hC, hl, k⟩ := h
    rfl
  · obtain ⟨q, xs, cs, rfl, hL, hC, hl, k⟩ := h
    have hu := hu_of hr
    refine ⟨_, (pss_one (ps_ret (pe_lc (own := [("_law_name", 1), ("_law_stretch", 2)]) (g := (gTup K 2 (gCons (gName 1) (gCons (gName 2) gNil)))) rfl sc_lows.nd (piL K (pv 0)) (blkOk_by (N := n_lows) (sc := defScope s_lows) (by decide +kernel)) (fun _ _ _ _ _ => pg_tup (by rfl) (pgs_cons (pg_name (i := 1) sc_lows.nd rfl (Or.inl rfl)) (pgs_cons (pg_name (i := 2) sc_lows.nd rfl (Or.inl rfl)) pgs_nil))) (fun _ _ _ _ _ => pts_one (pt_cmpR op_notN (pv 2) pe_non (nomark _))) (fun _ _ _ _ _ => (pe_ix (ixT K) (pv 2) pe_int (fun _ _ => rfl)))))), ?_⟩
    refine ⟨_, rfl, q, rfl, ⟨_, hL⟩, fun D nD => lc_list (K := K) (a := q) (xs := xs) (fun i H' => Same H H' ∧ H' D = some (.lst ((lowsC (cs.take i)).map V.int)) ∧ (lowsC (cs.take i)).length ≤ i) ⟨same_new nD, upd_same, Nat.le_refl _⟩ (fun i H' _ h => h.1.seq hL) ?_ ?_⟩
    · rintro i v H' hi ⟨s1, eD, hi2⟩
      obtain ⟨c, hc, u, w, rfl, hT, hV⟩ := (hC.same s1).get hi
      have il : i < 1000 := by
        have := (List.getElem?_eq_some_iff.mp hc).1
        omega
      rw [take_snoc hc]
      refine ⟨u, _, rfl, hT, rfl, _, _, rfl, _, _, rfl, rfl, ?_⟩
      refine ⟨rfl, ?_⟩
      obtain ⟨cn, co⟩ := c
      cases co with
      | none =>
        cases (show w = .non from hV)
        have e : lowsC (cs.take i ++ [(cn, none)]) = lowsC (cs.take i) := by
          unfold lowsC
          rw [List.filterMap_append]
          simp
        rw [e]
        refine ⟨_, rfl, rfl, _, rfl, ?_⟩
        refine iteF ?_
        exact ⟨s1, eD, Nat.le_succ_of_le hi2⟩
      | some st =>
        obtain ⟨b, rfl, hB⟩ := hV
        have e : lowsC (cs.take i ++ [(cn, some st)]) = lowsC (cs.take i) ++ [st.1] := by
          unfold lowsC
          rw [List.filterMap_append]
          rfl
        rw [e]
        refine ⟨_, rfl, rfl, _, rfl, ?_⟩
        refine iteT ?_
        refine ⟨_, rfl, _, _, _, _, rfl, rfl, hB, atI_nat (j := 0) rfl, ?_⟩
        refine ⟨_, eD, by rw [List.length_map]; exact Nat.lt_of_le_of_lt (show (lowsC (cs.take i)).length ≤ 1000 by omega) (by decide), Same.mut s1 nD, upd_same.trans (by rw [List.map_append]; rfl), by rw [List.length_append]; show _ + 1 ≤ i + 1; omega⟩
    · rintro H' ⟨s1, eD, _⟩
      rw [hC.1, List.take_length] at eD
      exact k D H' s1 nD eD
/-! ### _law_point -/
abbrev n_point : List Str := ["_law_script", "_law_clocks_here", "_law_cell", "_law_some", "_law_one", "_law_name", "_law_stretch"]
theorem sc_point : FnScope ["_law_script", "_law_clocks_here", "_law_cell", "_law_some", "_law_one", "_law_name", "_law_stretch"] ["_law_script", "_law_clocks_here"] (defScope s_point) := ⟨rfl, rfl, rfl, by decide +kernel, rfl, by decide +kernel, by decide +kernel⟩
theorem ok_point (T : Txt K mg a) : FnOk P w K mg base CX0 3 a.f_point a.d_point ["_law_script", "_law_clocks_here"] (spPoint K) := by
  refine T.point.F.ok sc_point (fun vs H Q E h => ?_) (fun cdv A outer s H vs Q E hr h => ?_)
  · obtain ⟨l, q, ns, xs, cs, rfl, hS, hL, hC, hl, k⟩ := h
    rfl
  · obtain ⟨l, q, ns, xs, cs, rfl, hS, hL, hC, hl, k⟩ := h
    have hu := hu_of hr
    refine ⟨_, (pss_cons (ps_set (i := 2) sc_point.nd rfl (Or.inl rfl) (pe_cl (ok_cell_at T) T.cell_at (hr.mono (by decide)) (pa_cons (pv 0) (pa_cons pe_int pa_nil))))
      (pss_cons (ps_setLc (i := 3) (own := [("_law_name", 5), ("_law_stretch", 6)]) (g := (gTup K 2 (gCons (gName 5) (gCons (gName 6) gNil)))) rfl sc_point.nd rfl rfl (sw_true rfl rfl rfl (by decide +kernel)) (piL K (pv 1)) (blkOk_by (N := n_point) (sc := defScope s_point) (by decide +kernel)) (fun _ _ _ _ _ => pg_tup (by rfl) (pgs_cons (pg_name (i := 5) sc_point.nd rfl (Or.inl rfl)) (pgs_cons (pg_name (i := 6) sc_point.nd rfl (Or.inl rfl)) pgs_nil))) (fun _ _ _ _ _ => pts_one (pt_cmpR op_notN (pv 6) pe_non (nomark _))) (fun _ _ _ _ _ => (pv 6)))
      (pss_cons (ps_if (PW.pt (pw_or (pt_cmpR (eqDK K hr.units) (pv 3) (pe_lst pa_nil) (nomark _)) (pw_or1 (pt_cmpR op_eq (pe_op (op_modc (c := 6) (by decide)) (pv 2) pe_int) pe_int (nomark _))))) (pss_one (ps_ret (pe_op op_mul (pe_cl (ok_big T) T.big (hr.mono (by decide)) (pa_cons (pv 2) (pa_cons pe_int pa_nil))) (pe_ix (ixL K) (pe_lst (pa_cons pe_int (pa_cons pe_negc pa_nil))) (pe_op (op_modc (c := 2) (by decide)) (pe_op (op_divc (c := 6) (by decide) (by decide)) (pv 2) pe_int) pe_int) (fun _ _ => rfl))))) pss_nil)
      (pss_cons (ps_set (i := 4) sc_point.nd rfl (Or.inl rfl) (pe_ix (ixL K) (pv 3) (pe_op op_mod (pe_cl (ok_mix T) T.mix (hr.mono (by decide)) (pa_cons (pv 2) (pa_cons pe_int pa_nil))) (pe_callB (lenK K) (by rfl) T.b_len boot_len (pa_cons (pv 3) pa_nil))) (fun _ _ => rfl)))
      (pss_one (ps_ret (pe_ix (ixL K) (pe_lst (pa_cons (pe_ix (ixT K) (pv 4) pe_int (fun _ _ => rfl)) (pa_cons (pe_ix (ixT K) (pv 4) pe_int (fun _ _ => rfl)) (pa_cons (pe_op op_sub (pe_ix (ixT K) (pv 4) pe_int (fun _ _ => rfl)) pe_int) (pa_cons (pe_op op_add (pe_ix (ixT K) (pv 4) pe_int (fun _ _ => rfl)) pe_int) (pa_cons (pe_op (op_divc (c := 2) (by decide) (by decide)) (pe_op op_add (pe_ix (ixT K) (pv 4) pe_int (fun _ _ => rfl)) (pe_ix (ixT K) (pv 4) pe_int (fun _ _ => rfl))) pe_int) pa_nil)))))) (pe_op (op_modc (c := 5) (by decide)) (pe_op (op_modc (c := 6) (by decide)) (pv 2) pe_int) pe_int) (fun _ _ => rfl)))))))), ?_⟩
    refine ⟨_, rfl, _, _, 2, rfl, hS, ?_⟩
    dsimp only [gName]
    generalize ns.getD 2 0 = z
    -- those with a stretch
    refine ⟨_, rfl, q, rfl, ⟨_, hL⟩, fun D nD => lc_list (K := K) (a := q) (xs := xs) (fun i H' => Same H H' ∧ ∃ (bs : List Addr) (ts : List St2), bs.length ≤ i ∧ StsAt K H' bs ts ∧ H' D = some (.lst (bs.map V.ref))) ⟨same_new nD, [], [], Nat.le_refl _, StsAt.nil, upd_same⟩ (fun i H' _ h => h.1.seq hL) ?_ ?_⟩
    · rintro i v H' hi ⟨s1, bs, ts, hb, hB, eD⟩
      obtain ⟨c, hc, u, w, rfl, hT, hV⟩ := (hC.same s1).get hi
      have il : i < 1000 := by
        have := (List.getElem?_eq_some_iff.mp hc).1
        omega
      refine ⟨u, _, rfl, hT, rfl, _, _, rfl, _, _, rfl, rfl, ?_⟩
      refine ⟨rfl, ?_⟩
      obtain ⟨cn, co⟩ := c
      cases co with
      | none =>
        cases (show w = .non from hV)
        refine ⟨_, rfl, rfl, _, rfl, ?_⟩
        refine iteF ?_
        exact ⟨s1, bs, ts, by omega, hB, eD⟩
      | some st =>
        obtain ⟨b, rfl, hB1⟩ := hV
        refine ⟨_, rfl, rfl, _, rfl, ?_⟩
        refine iteT ?_
        refine ⟨_, rfl, ?_⟩
        refine ⟨_, eD, by rw [List.length_map]; exact Nat.lt_of_le_of_lt (show bs.length ≤ 1000 by omega) (by decide), Same.mut s1 nD, bs ++ [b], ts ++ [st], by rw [List.length_append]; show _ + 1 ≤ i + 1; omega, ?_, upd_same.trans (by rw [List.map_append]; rfl)⟩
        exact (hB.snoc hB1).off eD (fun _ z => nomatch z) (fun _ _ z => nomatch z)
    rintro H1 ⟨s1, bs, ts, hb, hB, eD⟩
    have hbl : bs.length ≤ 1000 := by
      rw [hC.1] at hb
      omega
    dsimp only [gName]
    refine ⟨_, rfl, (by show 0 ≤ sizeLine; decide), fun p1 n1 => ?_⟩
    have eD1 := (upd_ne (ne_of_none eD n1) (o := .lst [])).trans eD
    have s2 : Same H _ := s1.trans (same_new n1 (o := .lst []))
    have hB2 := hB.same (same_new n1 (o := .lst []))
    refine ⟨_, _, (hB2.dp (SqL.of eD1)), .lst SqL.here .nil, shp_sts _, rfl, _, rfl, ?_⟩
    generalize upd H1 p1 _ = H2 at eD1 s2 hB2 ⊢
    cases ts with
    | nil =>
      refine ite_yes rfl ?_
      refine iteT ?_
      refine ⟨_, rfl, _, _, rfl, fun g Hg g0 g1 sg => ?_⟩
      refine ⟨(by show 2 ≤ sizeLine; decide), fun p2 n2 => ?_⟩
      refine ⟨_, rfl, _, rfl, rfl, _, rfl, rfl, ?_⟩
      refine ix_int (fun _ => True) SqL.here (Int.emod_nonneg _ (by decide)) (Int.emod_lt_of_pos _ (by decide)) (allc ⟨_, rfl, trivial⟩ (all1 ⟨_, rfl, trivial⟩)) fun j _ => ?_
      refine ⟨_, _, rfl, rfl, .inl ⟨by omega, by omega⟩, ?_⟩
      exact k _ _ ((s2.trans sg).trans (same_new n2))
    | cons t0 ts0 =>
      refine ite_no rfl ?_
      refine ⟨_, rfl, _, rfl, rfl, rfl, _, rfl, ?_⟩
      refine ite_eq (fun _ => ?_) (fun _ => ?_)
      · refine ⟨_, rfl, _, _, rfl, fun g Hg g0 g1 sg => ?_⟩
        refine ⟨(by show 2 ≤ sizeLine; decide), fun p2 n2 => ?_⟩
        refine ⟨_, rfl, _, rfl, rfl, _, rfl, rfl, ?_⟩
        refine ix_int (fun _ => True) SqL.here (Int.emod_nonneg _ (by decide)) (Int.emod_lt_of_pos _ (by decide)) (allc ⟨_, rfl, trivial⟩ (all1 ⟨_, rfl, trivial⟩)) fun j _ => ?_
        refine ⟨_, _, rfl, rfl, .inl ⟨by omega, by omega⟩, ?_⟩
        exact k _ _ ((s2.trans sg).trans (same_new n2))
      have pos : 0 < bs.length := by
        rw [hB.1]
        exact Nat.zero_lt_succ _
      refine ⟨_, rfl, _, rfl, _, _, rfl, fun m m0 m1 => ?_⟩
      refine ⟨_, rfl, _, _, rfl, .inl (SqL.of eD1), _, _, rfl, rfl, (by rw [List.length_map]; show (0 : Int) < (bs.length : Int); omega), ?_⟩
      refine ix_any (fun v => ∃ (b : Addr) (t : St2), v = .ref b ∧ SqT K H2 b [.int t.1, .int t.2]) (SqL.of eD1) (Int.emod_nonneg _ (by rw [List.length_map]; omega)) (Int.emod_lt_of_pos _ (by rw [List.length_map]; omega)) (fun v hv => ?_) fun v hv => ?_
      · obtain ⟨j, hj⟩ := List.getElem?_of_mem hv
        obtain ⟨b, t, e, _, hT⟩ := hB2.get hj
        exact ⟨b, t, e, hT⟩
      obtain ⟨b, t, rfl, hT⟩ := hv
      dsimp only [gName]
      refine ⟨_, rfl, _, _, _, _, rfl, rfl, hT, atI_nat (j := 0) rfl, _, rfl, _, _, _, _, rfl, rfl, hT, atI_nat (j := 1) rfl, _, rfl, _, _, _, _, rfl, rfl, hT, atI_nat (j := 0) rfl, _, _, rfl, rfl, _, rfl, _, _, _, _, rfl, rfl, hT, atI_nat (j := 1) rfl, _, _, rfl, rfl, _, rfl, _, _, _, _, rfl, rfl, hT, atI_nat (j := 0) rfl, _, rfl, _, _, _, _, rfl, rfl, hT, atI_nat (j := 1) rfl, _, _, rfl, rfl, _, rfl, rfl, (by show 5 ≤ sizeLine; decide), fun p3 n3 => ?_⟩
      refine ⟨_, rfl, _, rfl, rfl, _, rfl, rfl, ?_⟩
      exact ix_int (fun _ => True) SqL.here (Int.emod_nonneg _ (by decide)) (Int.emod_lt_of_pos _ (by decide)) (allc ⟨_, rfl, trivial⟩ (allc ⟨_, rfl, trivial⟩ (allc ⟨_, rfl, trivial⟩ (allc ⟨_, rfl, trivial⟩ (all1 ⟨_, rfl, trivial⟩))))) fun j _ => k j _ (s2.trans (same_new n3))
/-! ### law -/
abbrev n_law : List Str := ["_law_script", "_law_clocks_here", "_law_point_here", "_law_handed", "_law_found", "_law_due", "_law_name", "_law_stretch", "_law_pair", "_law_most", "_law_best", "_law_low"]
theorem sc_law : FnScope ["_law_script", "_law_clocks_here", "_law_point_here", "_law_handed", "_law_found", "_law_due", "_law_name", "_law_stretch", "_law_pair", "_law_most", "_law_best", "_law_low"] ["_law_script"] (defScope s_law) := ⟨rfl, rfl, rfl, by decide +kernel, rfl, by decide +kernel, by decide +kernel⟩
theorem ok_law (T : Txt K mg a) : FnOk P w K mg base CX0 5 a.f_law a.d_law ["_law_script"] (spLaw K) := by
  refine T.law.F.ok sc_law (fun vs H Q E h => ?_) (fun cdv A outer s H vs Q E hr h => ?_)
  · obtain ⟨l, ns, rfl, hS, hlen, k⟩ := h
    rfl
  · obtain ⟨l, ns, rfl, hS, hlen, k⟩ := h
    have hu := hu_of hr
    refine ⟨_, (pss_cons (ps_set (i := 1) sc_law.nd rfl (Or.inr rfl) (pe_cl (ok_clocks T) T.clocks (hr.mono (by decide)) (pa_cons (pv 0) pa_nil)))
      (pss_cons (ps_set (i := 2) sc_law.nd rfl (Or.inl rfl) (pe_cl (ok_point T) T.point (hr.mono (by decide)) (pa_cons (pv 0) (pa_cons (pv 1) pa_nil))))
      (pss_cons (ps_set (i := 3) sc_law.nd rfl (Or.inl rfl) (pe_callTy (listK K) (by rfl) T.b_list (by decide +kernel) (pa_cons (pv 1) pa_nil)))
      (pss_cons (ps_set (i := 4) sc_law.nd rfl (Or.inl rfl) (pe_cl (ok_bearers T) T.bearers (hr.mono (by decide)) (pa_cons (pv 3) (pa_cons (pv 2) pa_nil))))
      (pss_cons (ps_set (i := 5) sc_law.nd rfl (Or.inl rfl) (pe_lst pa_nil))
      (pss_cons (ps_for PassesOwn.never rfl (piL K (pv 1)) (pg_tup (by rfl) (pgs_cons (pg_name (i := 6) sc_law.nd rfl (Or.inl rfl)) (pgs_cons (pg_name (i := 7) sc_law.nd rfl (Or.inl rfl)) pgs_nil))) (pss_one (ps_if (PW.pt (pw_and (pt_cmpR op_notN (pv 7) pe_non (nomark _)) (pw_and (pt_cmpR op_le (pe_ix (ixT K) (pv 7) pe_int (fun _ _ => rfl)) (pv 2) (nomark _)) (pw_and1 (pt_cmpR op_le (pv 2) (pe_ix (ixT K) (pv 7) pe_int (fun _ _ => rfl)) (nomark _)))))) (pss_one (ps_expr (pe_bm PySem.F.plainAttrs_list PySem.F.slot_list_append PySem.F.type_list_append mt_append (pv 5) (pa_cons (pv 6) pa_nil)))) pss_nil)))
      (pss_cons (ps_if (PW.pt (pw_or (pt_not (pt_val (pe_callB (isiK K) (by rfl) T.b_isinstance (by decide +kernel) (pa_cons (pv 4) (pa_cons (pe_bty (n := "list") T.b_list (by decide +kernel)) pa_nil))))) (pw_or (pt_cmpR (neDK K hr.units) (pv 4) (pv 5) (nomark _)) (pw_or1 (pt_cmpR (neDK K hr.units) (pv 3) (pv 1) (nomark _)))))) (pss_one (ps_ret pe_bl)) pss_nil)
      (pss_cons (ps_set (i := 8) sc_law.nd rfl (Or.inl rfl) (pe_cl (ok_fewest T) T.fewest (hr.mono (by decide)) (pa_cons (pv 3) pa_nil)))
      (pss_cons (ps_if (PW.pt (pw_or (pt_not (pt_val (pe_callB (isiK K) (by rfl) T.b_isinstance (by decide +kernel) (pa_cons (pv 8) (pa_cons (pe_bty (n := "tuple") T.b_tuple (by decide +kernel)) pa_nil))))) (pw_or (pt_cmpR op_ne (pe_callB (lenK K) (by rfl) T.b_len boot_len (pa_cons (pv 8) pa_nil)) pe_int (nomark _)) (pw_or (pt_not (pt_val (pe_cl (ok_whole T) T.whole (hr.mono (by decide)) (pa_cons (pe_ix (ixT K) (pv 8) pe_int (fun _ _ => rfl)) pa_nil)))) (pw_or1 (pt_cmpR (neDK K hr.units) (pv 3) (pv 1) (nomark _))))))) (pss_one (ps_ret pe_bl)) pss_nil)
      (pss_cons (ps_set (i := 9) sc_law.nd rfl (Or.inr rfl) (pe_callB (maxK K rfl) (by rfl) T.b_max (by decide +kernel) (pa_cons (pe_op op_cat (pe_lst (pa_cons pe_int pa_nil)) (pe_lc (own := [("_law_low", 11)]) (g := gName 11) (tt := tYes) rfl sc_law.nd (piL K (pe_cl (ok_lows T) T.lows (hr.mono (by decide)) (pa_cons (pv 1) pa_nil))) (blkOk_by (N := n_law) (sc := defScope s_law) (by decide +kernel)) (fun _ _ _ _ _ => pg_name (i := 11) sc_law.nd rfl (Or.inl rfl)) (fun _ _ _ _ _ => pts_nil) (fun _ _ _ _ _ => (pe_cl (ok_many T) T.many (hr.mono (by decide)) (pa_cons (pv 1) (pa_cons (pv 11) pa_nil)))))) pa_nil)))
      (pss_cons (ps_if (pt_cmpR op_ne (pe_ix (ixT K) (pv 8) pe_int (fun _ _ => rfl)) (pe_op op_sub (pe_callB (lenK K) (by rfl) T.b_len boot_len (pa_cons (pv 1) pa_nil)) (pv 9)) (nomark _)) (pss_one (ps_ret pe_bl)) pss_nil)
      (pss_cons (ps_if (pt_cmpR op_eq (pv 9) pe_int (nomark _)) (pss_one (ps_ret (pe_cmpR op_isN (pe_ix (ixT K) (pv 8) pe_int (fun _ _ => rfl)) pe_non (nomark _)))) pss_nil)
      (pss_cons (ps_set (i := 10) sc_law.nd rfl (Or.inl rfl) (pe_callB (minK K rfl) (by rfl) T.b_min (by decide +kernel) (pa_cons (pe_lc (own := [("_law_low", 11)]) (g := gName 11) rfl sc_law.nd (piL K (pe_cl (ok_lows T) T.lows (hr.mono (by decide)) (pa_cons (pv 1) pa_nil))) (blkOk_by (N := n_law) (sc := defScope s_law) (by decide +kernel)) (fun _ _ _ _ _ => pg_name (i := 11) sc_law.nd rfl (Or.inl rfl)) (fun _ _ _ _ _ => pts_one (pt_cmpR op_eq (pe_cl (ok_many T) T.many (hr.mono (by decide)) (pa_cons (pv 1) (pa_cons (pv 11) pa_nil))) (pv 9) (nomark _))) (fun _ _ _ _ _ => (pv 11))) pa_nil)))
      (pss_one (ps_ret (pe_and (pe_cl (ok_whole T) T.whole (hr.mono (by decide)) (pa_cons (pe_ix (ixT K) (pv 8) pe_int (fun _ _ => rfl)) pa_nil)) (pe_and (pe_cmpR op_eq (pe_ix (ixT K) (pv 8) pe_int (fun _ _ => rfl)) (pv 10) (nomark _)) (pe_one (pe_cmpR (eqDK K hr.units) (pe_cl (ok_bearers T) T.bearers (hr.mono (by decide)) (pa_cons (pv 3) (pa_cons (pv 2) pa_nil))) (pv 5) (nomark _)))))))))))))))))))), ?_⟩
    refine ⟨_, rfl, l, ns, rfl, hS, hlen, fun q xs cs H1 s1 nq eq hX hc hok => ?_⟩
    dsimp only [gName]
    refine ⟨_, rfl, _, rfl, l, q, ns, xs, cs, rfl, s1.seq hS, SqL.of eq, hX, by omega, fun t H2 s2 => ?_⟩
    dsimp only [gName]
    refine ⟨_, rfl, q, xs, rfl, .inl (SqL.of (s2 _ _ eq)), fun h nh => ?_⟩
    dsimp only [gName]
    generalize hH3 : upd _ h _ = H3
    obtain ⟨s3, eh⟩ := gen_new hH3 nh
    clear hH3
    refine ⟨_, rfl, _, rfl, h, xs, cs, t, rfl, SqL.of eh, hX.same (s2.trans s3), by omega, fun pf H4 s4 nf ef => ?_⟩
    dsimp only [gName]
    have s24 := (s2.trans s3).trans s4
    have eq4 := s24 _ _ eq
    have hX4 := hX.same s24
    have eh4 := s4 _ _ eh
    refine ⟨(by show 0 ≤ sizeLine; decide), fun pd nd => ?_⟩
    dsimp only [gName]
    have nqd : q ≠ pd := ne_of_none eq4 nd
    have lowS : ∀ z ∈ bearersC cs t, low z := bearersC_low hok.nm
    have lowC : ∀ c ∈ cs, low c.1 := fun c hc => (hok.nm c hc).2.2
    refine ⟨_, rfl, q, rfl, ⟨_, SqL.of ((upd_ne nqd).trans eq4)⟩, for_list (K := K) (a := q) (xs := xs) (fun i σ H' => Same H4 H' ∧ H' pd = some (.lst (txs (bearersC (cs.take i) t))) ∧ ∃ v6 v7 : Option V, σ = [some (.ref l), some (.ref q), some (.int t), some (.ref h), some (.ref pf), some (.ref pd), v6, v7, none, none, none, none])
      ⟨same_new nd, upd_same, none, none, rfl⟩ (fun i σ H' _ hh => SqL.of (hh.1 _ _ eq4)) ?_ ?_⟩
    · rintro i v σ H' hi ⟨s5, ed, v6, v7, rfl⟩
      obtain ⟨c, hcc, u, w, rfl, hT, hV⟩ := (hX4.same s5).get hi
      have il : i < cs.length := (List.getElem?_eq_some_iff.mp hcc).1
      have bl := bearersC_len (cs := cs.take i) (t := t)
      rw [List.length_take] at bl
      rw [take_snoc hcc, bearersC_snoc]
      refine ⟨u, _, rfl, hT, rfl, _, _, rfl, _, _, rfl, rfl, ?_⟩
      obtain ⟨cn, co⟩ := c
      cases co with
      | none =>
        cases (show w = .non from hV)
        refine ⟨_, rfl, rfl, _, rfl, ?_⟩
        refine iteF ?_
        rw [if_neg (show ¬ bearsC t (cn, none) = true from Bool.false_ne_true), List.append_nil]
        exact ⟨s5, ed, _, _, rfl⟩
      | some st =>
        obtain ⟨b, rfl, hB⟩ := hV
        refine ⟨_, rfl, rfl, _, rfl, ?_⟩
        refine iteT ?_
        refine ⟨_, rfl, _, _, _, _, rfl, rfl, hB, atI_nat (j := 0) rfl, _, rfl, _, _, rfl, rfl, _, rfl, ?_⟩
        refine ite_dec (fun h1 => ?_) (fun h1 => ?_)
        · refine ⟨_, rfl, _, rfl, _, _, _, _, rfl, rfl, hB, atI_nat (j := 1) rfl, _, _, rfl, rfl, _, rfl, ?_⟩
          refine ite_dec (fun h2 => ?_) (fun h2 => ?_)
          · have e : bearsC t (cn, some st) = true := by
              show (decide (st.1 ≤ t) && decide (t ≤ st.2)) = true
              rw [decide_eq_true h1, decide_eq_true h2]
              rfl
            rw [if_pos e]
            refine ⟨_, rfl, .inl ⟨rfl, _, SqL.of ed⟩, _, rfl, pd, _, _, rfl, rfl, ed, by unfold txs; rw [List.length_map]; exact Nat.lt_of_le_of_lt (show _ ≤ 40 by omega) (by decide), ?_⟩
            exact ⟨Same.mut s5 nd, upd_same.trans (by unfold txs; rw [List.map_append]; rfl), _, _, rfl⟩
          · have e : ¬ bearsC t (cn, some st) = true := by
              show ¬ (decide (st.1 ≤ t) && decide (t ≤ st.2)) = true
              rw [decide_eq_false h2, Bool.and_false]
              exact Bool.false_ne_true
            rw [if_neg e, List.append_nil]
            exact ⟨s5, ed, _, _, rfl⟩
        · have e : ¬ bearsC t (cn, some st) = true := by
            show ¬ (decide (st.1 ≤ t) && decide (t ≤ st.2)) = true
            rw [decide_eq_false h1, Bool.false_and]
            exact Bool.false_ne_true
          rw [if_neg e, List.append_nil]
          exact ⟨s5, ed, _, _, rfl⟩
    rintro σ H5 ⟨s5, ed, v6, v7, rfl⟩
    rw [hX.1, List.take_length] at ed
    have ef5 := s5 _ _ ef
    have eh5 := s5 _ _ eh4
    have eq5 := s5 _ _ eq4
    have hX5 := hX4.same s5
    -- found, due, handed
    refine ⟨_, rfl, _, _, _, _, true, rfl, .ty _, .base (.lst ef5), kit_ty (by decide +kernel), _, rfl, ?_⟩
    refine iteF ?_
    refine ⟨_, rfl, _, rfl, nmsD (bearersC cs t), nmsD (bearersC cs t), .lst (SqL.of ef5) (dp_txs _), .lst (SqL.of ed) (dp_txs _), shp_nms lowS, shp_nms lowS, _, rfl, ?_⟩
    refine ite_no (by rw [eqv_self (shp_nms lowS)]; rfl) ?_
    refine ⟨_, rfl, _, rfl, clksD cs, clksD cs, hX5.dp (SqL.of eh5), hX5.dp (SqL.of eq5), shp_clks lowC, shp_clks lowC, _, rfl, ?_⟩
    refine ite_no (by rw [eqv_self (shp_clks lowC)]; rfl) ?_
    -- fewest
    refine ⟨_, rfl, h, xs, cs, rfl, SqL.of eh5, hX5, by omega, hok, fun pp m w H6 few s6 npp epp => ?_⟩
    dsimp only [gName]
    have eh6 := s6 _ _ eh5
    have eq6 := s6 _ _ eq5
    have hX6 := hX5.same s6
    refine ⟨_, rfl, _, _, _, _, true, rfl, .ty _, .base (.tup epp), kit_ty (by decide +kernel), _, rfl, ?_⟩
    refine iteF ?_
    refine ⟨_, rfl, _, _, rfl, .inr (SqT.of epp), rfl, _, rfl, ?_⟩
    refine iteNS rfl ?_
    refine ⟨_, rfl, _, _, _, _, rfl, rfl, SqT.of epp, atI_nat (j := 0) rfl, _, rfl, _, rfl, ?_⟩
    refine iteF ?_
    refine ⟨_, rfl, _, rfl, clksD cs, clksD cs, hX6.dp (SqL.of eh6), hX6.dp (SqL.of eq6), shp_clks lowC, shp_clks lowC, _, rfl, ?_⟩
    refine ite_no (by rw [eqv_self (shp_clks lowC)]; rfl) ?_
    -- the most
    have ll : (lowsC cs).length ≤ 40 := by
      unfold lowsC
      exact Nat.le_trans (List.length_filterMap_le _ _) hc
    refine ⟨(by show 1 ≤ sizeLine; decide), fun pz nz => ?_⟩
    generalize hH7 : upd _ pz _ = H7
    obtain ⟨s7, ez⟩ := gen_new hH7 nz
    clear hH7
    have eq7 := s7 _ _ eq6
    have hX7 := hX6.same s7
    refine ⟨_, rfl, q, xs, cs, rfl, SqL.of eq7, hX7, by omega, fun pl H8 s8 nl el => ?_⟩
    have eq8 := s8 _ _ eq7
    have hX8 := hX7.same s8
    refine ⟨pl, rfl, ⟨_, SqL.of el⟩, fun D nD => lc_list (K := K) (a := pl) (xs := (lowsC cs).map V.int) (fun i H' => Same H8 H' ∧ H' D = some (.lst ((((lowsC cs).take i).map fun z => (manyC cs z : Int)).map V.int))) ⟨same_new nD, upd_same⟩ (fun i H' _ hh => SqL.of (hh.1 _ _ el)) ?_ ?_⟩
    · rintro i v H' hi ⟨s9, eD⟩
      have hil := (List.getElem?_eq_some_iff.mp hi).1
      rw [List.length_map] at hil
      rw [List.getElem?_map, List.getElem?_eq_getElem hil] at hi
      cases hi
      refine ⟨rfl, ?_⟩
      refine ⟨_, rfl, _, rfl, q, xs, cs, _, rfl, SqL.of (s9 _ _ eq8), hX8.same s9, ?_⟩
      refine ⟨_, eD, by rw [List.length_map, List.length_map, List.length_take]; exact Nat.lt_of_le_of_lt (show _ ≤ 40 by omega) (by decide), Same.mut s9 nD, upd_same.trans ?_⟩
      rw [take_snoc (List.getElem?_eq_getElem hil), List.map_append, List.map_append]
      rfl
    rintro H9 ⟨s9, eD⟩
    rw [List.length_map, List.take_length] at eD
    have ez9 := s9 _ _ (s8 _ _ ez)
    refine ⟨_, _, _, _, rfl, rfl, ez9, eD, by rw [List.length_map, List.length_map]; exact Nat.le_trans (show _ ≤ 41 by show 1 + _ ≤ 41; omega) (by decide), fun p10 n10 => ?_⟩
    refine ⟨p10, 0 :: (lowsC cs).map fun z => (manyC cs z : Int), rfl, SqL.here, Nat.zero_lt_succ _, fun M hM1 hM2 => ?_⟩
    have eM : M = (m : Int) := by
      obtain ⟨f1, f2⟩ := few
      have le1 : M ≤ m := by
        rcases List.mem_cons.mp hM1 with e | e
        · omega
        · obtain ⟨z, hz, rfl⟩ := List.mem_map.mp e
          have := f1 z hz
          omega
      rcases f2 with ⟨e, _⟩ | ⟨_, z, hz, e, _⟩
      · have := hM2 0 List.mem_cons_self
        omega
      · have := hM2 _ (List.mem_cons_of_mem _ (List.mem_map.mpr ⟨z, hz, rfl⟩))
        omega
    subst eM
    dsimp only [gName]
    generalize hH10 : upd _ p10 _ = H10
    obtain ⟨s10', _⟩ := gen_new hH10 n10
    clear hH10
    have s610 : Same H6 H10 := ((s7.trans s8).trans s9).trans s10'
    have epp10 := s610 _ _ epp
    have eq10 := s610 _ _ eq6
    have hX10 := hX6.same s610
    refine ⟨_, rfl, _, _, _, _, rfl, rfl, SqT.of epp10, atI_nat (j := 0) rfl, _, rfl, _, _, rfl, .inl (SqL.of eq10), _, rfl, _, _, rfl, rfl, rfl, _, rfl, ?_⟩
    refine ite_no (by rw [hX.1, decide_eq_true rfl]; rfl) ?_
    refine ⟨_, rfl, rfl, _, rfl, ?_⟩
    refine ite_eq (fun z => ?_) (fun z => ?_)
    · obtain ⟨f1, f2⟩ := few
      rcases f2 with ⟨_, rfl⟩ | ⟨p, _⟩
      · refine ⟨_, rfl, _, _, _, _, rfl, rfl, SqT.of epp10, atI_nat (j := 1) rfl, ?_⟩
        exact ⟨rfl, bl_true rfl (k _)⟩
      · omega
    obtain ⟨f1, f2⟩ := few
    rcases f2 with ⟨e, _⟩ | ⟨_, lw, hlw, em, rfl, hmin⟩
    · exact absurd (by rw [e]; rfl) z
    -- the least time
    refine ⟨_, rfl, q, xs, cs, rfl, SqL.of eq10, hX10, by omega, fun pl2 H11 s11 nl2 el2 => ?_⟩
    have eq11 := s11 _ _ eq10
    have hX11 := hX10.same s11
    refine ⟨pl2, rfl, ⟨_, SqL.of el2⟩, fun D nD => lc_list (K := K) (a := pl2) (xs := (lowsC cs).map V.int) (fun i H' => Same H11 H' ∧ H' D = some (.lst ((((lowsC cs).take i).filter fun z => decide (manyC cs z = m)).map V.int))) ⟨same_new nD, upd_same⟩ (fun i H' _ hh => SqL.of (hh.1 _ _ el2)) ?_ ?_⟩
    · rintro i v H' hi ⟨s12, eD⟩
      have hil := (List.getElem?_eq_some_iff.mp hi).1
      rw [List.length_map] at hil
      rw [List.getElem?_map, List.getElem?_eq_getElem hil] at hi
      cases hi
      refine ⟨rfl, ?_⟩
      refine ⟨_, rfl, _, rfl, q, xs, cs, _, rfl, SqL.of (s12 _ _ eq11), hX11.same s12, _, rfl, rfl, _, rfl, ?_⟩
      rw [take_snoc (List.getElem?_eq_getElem hil), List.filter_append]
      refine ite_eq (fun y => ?_) (fun y => ?_)
      · refine ⟨_, rfl, ?_⟩
        have y' : manyC cs (lowsC cs)[i] = m := by omega
        refine ⟨_, eD, by rw [List.length_map]; exact Nat.lt_of_le_of_lt (show _ ≤ 40 from Nat.le_trans (List.length_filter_le _ _) (by rw [List.length_take]; omega)) (by decide), Same.mut s12 nD, upd_same.trans ?_⟩
        rw [List.filter_cons_of_pos (p := fun z => decide (manyC cs z = m)) (decide_eq_true y'), List.filter_nil, List.map_append]
        rfl
      · have y' : ¬ manyC cs (lowsC cs)[i] = m := fun e => y (by rw [e])
        rw [List.filter_cons_of_neg (p := fun z => decide (manyC cs z = m)) (by rw [decide_eq_false y']; exact Bool.false_ne_true), List.filter_nil, List.append_nil]
        exact ⟨s12, eD⟩
    rintro H12 ⟨s12, eD⟩
    rw [List.length_map, List.take_length] at eD
    refine ⟨D, _, rfl, SqL.of eD, List.length_pos_of_mem (List.mem_filter.mpr ⟨hlw, decide_eq_true em⟩), fun B hB1 hB2 => ?_⟩
    have eB : B = lw := by
      obtain ⟨b1, b2⟩ := List.mem_filter.mp hB1
      have := hmin B b1 (of_decide_eq_true b2)
      have := hB2 lw (List.mem_filter.mpr ⟨hlw, decide_eq_true em⟩)
      omega
    subst eB
    dsimp only [gName]
    have s1012 := s11.trans s12
    have epp12 := s1012 _ _ epp10
    have ed12 := s1012 _ _ (s610 _ _ (s6 _ _ ed))
    have eh12 := s1012 _ _ (s610 _ _ eh6)
    refine ⟨_, rfl, _, _, _, _, rfl, rfl, SqT.of epp12, atI_nat (j := 1) rfl, _, rfl, _, rfl, ?_⟩
    refine iteT ?_
    refine ⟨_, rfl, _, _, _, _, rfl, rfl, SqT.of epp12, atI_nat (j := 1) rfl, _, rfl, rfl, _, rfl, ite_yes (decide_eq_true rfl) ?_⟩
    refine ⟨_, rfl, _, rfl, h, xs, cs, t, rfl, SqL.of eh12, hX10.same s1012, by omega, fun p13 H13 s13 n13 e13 => ?_⟩
    refine ⟨_, rfl, nmsD (bearersC cs t), nmsD (bearersC cs t), .lst (SqL.of e13) (dp_txs _), .lst (SqL.of (s13 _ _ ed12)) (dp_txs _), shp_nms lowS, shp_nms lowS, ?_⟩
    exact bl_true (eqv_self (shp_nms lowS)) (k _)
end
end Ts.k06
end
namespace Ts.k06
open PySem PySem.Spec PyProof.Rows L2 Ts
/-! ### the end -/
theorem fl_mk {K : PySem.W.Frag} {h : Heap} {mg : Str → Option Value} {x : Str} {st : Stmt} {ps : List Str} {f : Addr} {oc kV doc pm cdv ct : Value} {od an : Option Addr} {osl : Array (Option Value)} (X : K.In h) (G : h.Ns mainGlobals mg)
    (n : PySem.W.nsIn K mainGlobals x = some (some (.ref f))) (l : K.lookup f = some ⟨oc, od, .func (PySem.W.fnOf x x (defArgs st) (defBody st) (defScope st) .none kV doc pm an cdv ct), osl⟩) (c : PySem.W.codeIn K cdv x = true) (k : PySem.W.keepIn K (.ref f) = true)
    (b : ∀ us : List Value, us.length = ps.length → bindArgs (PySem.W.fnOf x x (defArgs st) (defBody st) (defScope st) .none kV doc pm an cdv ct) ⟨us, []⟩ = pure (ps.zip us)) :
    Dfn K mg x st ps f (PySem.W.fnOf x x (defArgs st) (defBody st) (defScope st) .none kV doc pm an cdv ct) :=
  ⟨fun_mk l c k, PySem.W.mg_of X G n, .all b⟩
theorem all_mk {l : PySem.W.OpenLaw} {w : World} {K : PySem.W.Frag} {h : Heap} {mg : Str → Option Value} {fa f_bearers f_bears f_fewest f_tallies f_whole f_cell_at f_mix f_big f_word f_names f_clocks f_many f_lows f_point f_law  : Addr} (X : K.In h) (G : h.Ns mainGlobals mg) (hfa : mg "law" = some (.ref fa))
    {od_bearers an_bearers od_bears an_bears od_fewest an_fewest od_tallies an_tallies od_whole an_whole od_cell_at an_cell_at od_mix an_mix od_big an_big od_word an_word od_names an_names od_clocks an_clocks od_many an_many od_lows an_lows od_point an_point od_law an_law : Option Addr} {sl_bearers sl_bears sl_fewest sl_tallies sl_whole sl_cell_at sl_mix sl_big sl_word sl_names sl_clocks sl_many sl_lows sl_point sl_law : Array (Option Value)} {oc_bearers kV_bearers dc_bearers pm_bearers cd_bearers ct_bearers oc_bears kV_bears dc_bears pm_bears cd_bears ct_bears oc_fewest kV_fewest dc_fewest pm_fewest cd_fewest ct_fewest oc_tallies kV_tallies dc_tallies pm_tallies cd_tallies ct_tallies oc_whole kV_whole dc_whole pm_whole cd_whole ct_whole oc_cell_at kV_cell_at dc_cell_at pm_cell_at cd_cell_at ct_cell_at oc_mix kV_mix dc_mix pm_mix cd_mix ct_mix oc_big kV_big dc_big pm_big cd_big ct_big oc_word kV_word dc_word pm_word cd_word ct_word oc_names kV_names dc_names pm_names cd_names ct_names oc_clocks kV_clocks dc_clocks pm_clocks cd_clocks ct_clocks oc_many kV_many dc_many pm_many cd_many ct_many oc_lows kV_lows dc_lows pm_lows cd_lows ct_lows oc_point kV_point dc_point pm_point cd_point ct_point oc_law kV_law dc_law pm_law cd_law ct_law : Value}
    (a_bearers : PySem.W.nsIn K mainGlobals "bearers" = some (some (.ref f_bearers))) (l_bearers : K.lookup f_bearers = some ⟨oc_bearers, od_bearers, .func (PySem.W.fnOf "bearers" "bearers" (defArgs s_bearers) (defBody s_bearers) (defScope s_bearers) .none kV_bearers dc_bearers pm_bearers an_bearers cd_bearers ct_bearers), sl_bearers⟩) (k_bearers : PySem.W.codeIn K cd_bearers "bearers" = true) (e_bearers : PySem.W.keepIn K (.ref f_bearers) = true)
    (a_bears : PySem.W.nsIn K mainGlobals "bears" = some (some (.ref f_bears))) (l_bears : K.lookup f_bears = some ⟨oc_bears, od_bears, .func (PySem.W.fnOf "bears" "bears" (defArgs s_bears) (defBody s_bears) (defScope s_bears) .none kV_bears dc_bears pm_bears an_bears cd_bears ct_bears), sl_bears⟩) (k_bears : PySem.W.codeIn K cd_bears "bears" = true) (e_bears : PySem.W.keepIn K (.ref f_bears) = true)
    (a_fewest : PySem.W.nsIn K mainGlobals "fewest" = some (some (.ref f_fewest))) (l_fewest : K.lookup f_fewest = some ⟨oc_fewest, od_fewest, .func (PySem.W.fnOf "fewest" "fewest" (defArgs s_fewest) (defBody s_fewest) (defScope s_fewest) .none kV_fewest dc_fewest pm_fewest an_fewest cd_fewest ct_fewest), sl_fewest⟩) (k_fewest : PySem.W.codeIn K cd_fewest "fewest" = true) (e_fewest : PySem.W.keepIn K (.ref f_fewest) = true)
    (a_tallies : PySem.W.nsIn K mainGlobals "tallies" = some (some (.ref f_tallies))) (l_tallies : K.lookup f_tallies = some ⟨oc_tallies, od_tallies, .func (PySem.W.fnOf "tallies" "tallies" (defArgs s_tallies) (defBody s_tallies) (defScope s_tallies) .none kV_tallies dc_tallies pm_tallies an_tallies cd_tallies ct_tallies), sl_tallies⟩) (k_tallies : PySem.W.codeIn K cd_tallies "tallies" = true) (e_tallies : PySem.W.keepIn K (.ref f_tallies) = true)
    (a_whole : PySem.W.nsIn K mainGlobals "_law_whole" = some (some (.ref f_whole))) (l_whole : K.lookup f_whole = some ⟨oc_whole, od_whole, .func (PySem.W.fnOf "_law_whole" "_law_whole" (defArgs s_whole) (defBody s_whole) (defScope s_whole) .none kV_whole dc_whole pm_whole an_whole cd_whole ct_whole), sl_whole⟩) (k_whole : PySem.W.codeIn K cd_whole "_law_whole" = true) (e_whole : PySem.W.keepIn K (.ref f_whole) = true)
    (a_cell_at : PySem.W.nsIn K mainGlobals "_law_cell_at" = some (some (.ref f_cell_at))) (l_cell_at : K.lookup f_cell_at = some ⟨oc_cell_at, od_cell_at, .func (PySem.W.fnOf "_law_cell_at" "_law_cell_at" (defArgs s_cell_at) (defBody s_cell_at) (defScope s_cell_at) .none kV_cell_at dc_cell_at pm_cell_at an_cell_at cd_cell_at ct_cell_at), sl_cell_at⟩) (k_cell_at : PySem.W.codeIn K cd_cell_at "_law_cell_at" = true) (e_cell_at : PySem.W.keepIn K (.ref f_cell_at) = true)
    (a_mix : PySem.W.nsIn K mainGlobals "_law_mix" = some (some (.ref f_mix))) (l_mix : K.lookup f_mix = some ⟨oc_mix, od_mix, .func (PySem.W.fnOf "_law_mix" "_law_mix" (defArgs s_mix) (defBody s_mix) (defScope s_mix) .none kV_mix dc_mix pm_mix an_mix cd_mix ct_mix), sl_mix⟩) (k_mix : PySem.W.codeIn K cd_mix "_law_mix" = true) (e_mix : PySem.W.keepIn K (.ref f_mix) = true)
    (a_big : PySem.W.nsIn K mainGlobals "_law_big" = some (some (.ref f_big))) (l_big : K.lookup f_big = some ⟨oc_big, od_big, .func (PySem.W.fnOf "_law_big" "_law_big" (defArgs s_big) (defBody s_big) (defScope s_big) .none kV_big dc_big pm_big an_big cd_big ct_big), sl_big⟩) (k_big : PySem.W.codeIn K cd_big "_law_big" = true) (e_big : PySem.W.keepIn K (.ref f_big) = true)
    (a_word : PySem.W.nsIn K mainGlobals "_law_word" = some (some (.ref f_word))) (l_word : K.lookup f_word = some ⟨oc_word, od_word, .func (PySem.W.fnOf "_law_word" "_law_word" (defArgs s_word) (defBody s_word) (defScope s_word) .none kV_word dc_word pm_word an_word cd_word ct_word), sl_word⟩) (k_word : PySem.W.codeIn K cd_word "_law_word" = true) (e_word : PySem.W.keepIn K (.ref f_word) = true)
    (a_names : PySem.W.nsIn K mainGlobals "_law_names" = some (some (.ref f_names))) (l_names : K.lookup f_names = some ⟨oc_names, od_names, .func (PySem.W.fnOf "_law_names" "_law_names" (defArgs s_names) (defBody s_names) (defScope s_names) .none kV_names dc_names pm_names an_names cd_names ct_names), sl_names⟩) (k_names : PySem.W.codeIn K cd_names "_law_names" = true) (e_names : PySem.W.keepIn K (.ref f_names) = true)
    (a_clocks : PySem.W.nsIn K mainGlobals "_law_clocks" = some (some (.ref f_clocks))) (l_clocks : K.lookup f_clocks = some ⟨oc_clocks, od_clocks, .func (PySem.W.fnOf "_law_clocks" "_law_clocks" (defArgs s_clocks) (defBody s_clocks) (defScope s_clocks) .none kV_clocks dc_clocks pm_clocks an_clocks cd_clocks ct_clocks), sl_clocks⟩) (k_clocks : PySem.W.codeIn K cd_clocks "_law_clocks" = true) (e_clocks : PySem.W.keepIn K (.ref f_clocks) = true)
    (a_many : PySem.W.nsIn K mainGlobals "_law_many" = some (some (.ref f_many))) (l_many : K.lookup f_many = some ⟨oc_many, od_many, .func (PySem.W.fnOf "_law_many" "_law_many" (defArgs s_many) (defBody s_many) (defScope s_many) .none kV_many dc_many pm_many an_many cd_many ct_many), sl_many⟩) (k_many : PySem.W.codeIn K cd_many "_law_many" = true) (e_many : PySem.W.keepIn K (.ref f_many) = true)
    (a_lows : PySem.W.nsIn K mainGlobals "_law_lows" = some (some (.ref f_lows))) (l_lows : K.lookup f_lows = some ⟨oc_lows, od_lows, .func (PySem.W.fnOf "_law_lows" "_law_lows" (defArgs s_lows) (defBody s_lows) (defScope s_lows) .none kV_lows dc_lows pm_lows an_lows cd_lows ct_lows), sl_lows⟩) (k_lows : PySem.W.codeIn K cd_lows "_law_lows" = true) (e_lows : PySem.W.keepIn K (.ref f_lows) = true)
    (a_point : PySem.W.nsIn K mainGlobals "_law_point" = some (some (.ref f_point))) (l_point : K.lookup f_point = some ⟨oc_point, od_point, .func (PySem.W.fnOf "_law_point" "_law_point" (defArgs s_point) (defBody s_point) (defScope s_point) .none kV_point dc_point pm_point an_point cd_point ct_point), sl_point⟩) (k_point : PySem.W.codeIn K cd_point "_law_point" = true) (e_point : PySem.W.keepIn K (.ref f_point) = true)
    (a_law : PySem.W.nsIn K mainGlobals "law" = some (some (.ref f_law))) (l_law : K.lookup f_law = some ⟨oc_law, od_law, .func (PySem.W.fnOf "law" "law" (defArgs s_law) (defBody s_law) (defScope s_law) .none kV_law dc_law pm_law an_law cd_law ct_law), sl_law⟩) (k_law : PySem.W.codeIn K cd_law "law" = true) (e_law : PySem.W.keepIn K (.ref f_law) = true)
    (b_sorted : PySem.W.nsIn K mainGlobals "sorted" = some none)
    (b_len : PySem.W.nsIn K mainGlobals "len" = some none)
    (b_isinstance : PySem.W.nsIn K mainGlobals "isinstance" = some none)
    (b_bool : PySem.W.nsIn K mainGlobals "bool" = some none)
    (b_int : PySem.W.nsIn K mainGlobals "int" = some none)
    (b_range : PySem.W.nsIn K mainGlobals "range" = some none)
    (b_min : PySem.W.nsIn K mainGlobals "min" = some none)
    (b_max : PySem.W.nsIn K mainGlobals "max" = some none)
    (b_list : PySem.W.nsIn K mainGlobals "list" = some none)
    (b_tuple : PySem.W.nsIn K mainGlobals "tuple" = some none)
    : ∃ fd : FuncData, (∀ (s : Shared) (v : Value), BindsTo s fd ⟨[v], []⟩ [("_law_script", v)]) ∧ ∀ base : Heap, K.In base → base.Ns mainGlobals mg → FnOk l.prog w K mg base CX0 5 fa fd ["_law_script"] (spLaw K) := by
  have e := hfa.symm.trans (PySem.W.mg_of X G a_law)
  cases e
  have T : Txt K mg (Ad.mk f_bearers (PySem.W.fnOf "bearers" "bearers" (defArgs s_bearers) (defBody s_bearers) (defScope s_bearers) .none kV_bearers dc_bearers pm_bearers an_bearers cd_bearers ct_bearers) f_bears (PySem.W.fnOf "bears" "bears" (defArgs s_bears) (defBody s_bears) (defScope s_bears) .none kV_bears dc_bears pm_bears an_bears cd_bears ct_bears) f_fewest (PySem.W.fnOf "fewest" "fewest" (defArgs s_fewest) (defBody s_fewest) (defScope s_fewest) .none kV_fewest dc_fewest pm_fewest an_fewest cd_fewest ct_fewest) f_tallies (PySem.W.fnOf "tallies" "tallies" (defArgs s_tallies) (defBody s_tallies) (defScope s_tallies) .none kV_tallies dc_tallies pm_tallies an_tallies cd_tallies ct_tallies) f_whole (PySem.W.fnOf "_law_whole" "_law_whole" (defArgs s_whole) (defBody s_whole) (defScope s_whole) .none kV_whole dc_whole pm_whole an_whole cd_whole ct_whole) f_cell_at (PySem.W.fnOf "_law_cell_at" "_law_cell_at" (defArgs s_cell_at) (defBody s_cell_at) (defScope s_cell_at) .none kV_cell_at dc_cell_at pm_cell_at an_cell_at cd_cell_at ct_cell_at) f_mix (PySem.W.fnOf "_law_mix" "_law_mix" (defArgs s_mix) (defBody s_mix) (defScope s_mix) .none kV_mix dc_mix pm_mix an_mix cd_mix ct_mix) f_big (PySem.W.fnOf "_law_big" "_law_big" (defArgs s_big) (defBody s_big) (defScope s_big) .none kV_big dc_big pm_big an_big cd_big ct_big) f_word (PySem.W.fnOf "_law_word" "_law_word" (defArgs s_word) (defBody s_word) (defScope s_word) .none kV_word dc_word pm_word an_word cd_word ct_word) f_names (PySem.W.fnOf "_law_names" "_law_names" (defArgs s_names) (defBody s_names) (defScope s_names) .none kV_names dc_names pm_names an_names cd_names ct_names) f_clocks (PySem.W.fnOf "_law_clocks" "_law_clocks" (defArgs s_clocks) (defBody s_clocks) (defScope s_clocks) .none kV_clocks dc_clocks pm_clocks an_clocks cd_clocks ct_clocks) f_many (PySem.W.fnOf "_law_many" "_law_many" (defArgs s_many) (defBody s_many) (defScope s_many) .none kV_many dc_many pm_many an_many cd_many ct_many) f_lows (PySem.W.fnOf "_law_lows" "_law_lows" (defArgs s_lows) (defBody s_lows) (defScope s_lows) .none kV_lows dc_lows pm_lows an_lows cd_lows ct_lows) f_point (PySem.W.fnOf "_law_point" "_law_point" (defArgs s_point) (defBody s_point) (defScope s_point) .none kV_point dc_point pm_point an_point cd_point ct_point) fa (PySem.W.fnOf "law" "law" (defArgs s_law) (defBody s_law) (defScope s_law) .none kV_law dc_law pm_law an_law cd_law ct_law)) := {
    bearers := fl_mk X G a_bearers l_bearers k_bearers e_bearers (fun us hl => match us, hl with | [_, _], _ => rfl)
    bears := fl_mk X G a_bears l_bears k_bears e_bears (fun us hl => match us, hl with | [_, _], _ => rfl)
    fewest := fl_mk X G a_fewest l_fewest k_fewest e_fewest (fun us hl => match us, hl with | [_], _ => rfl)
    tallies := fl_mk X G a_tallies l_tallies k_tallies e_tallies (fun us hl => match us, hl with | [_], _ => rfl)
    whole := fl_mk X G a_whole l_whole k_whole e_whole (fun us hl => match us, hl with | [_], _ => rfl)
    cell_at := fl_mk X G a_cell_at l_cell_at k_cell_at e_cell_at (fun us hl => match us, hl with | [_, _], _ => rfl)
    mix := fl_mk X G a_mix l_mix k_mix e_mix (fun us hl => match us, hl with | [_, _], _ => rfl)
    big := fl_mk X G a_big l_big k_big e_big (fun us hl => match us, hl with | [_, _], _ => rfl)
    word := fl_mk X G a_word l_word k_word e_word (fun us hl => match us, hl with | [_, _], _ => rfl)
    names := fl_mk X G a_names l_names k_names e_names (fun us hl => match us, hl with | [_], _ => rfl)
    clocks := fl_mk X G a_clocks l_clocks k_clocks e_clocks (fun us hl => match us, hl with | [_], _ => rfl)
    many := fl_mk X G a_many l_many k_many e_many (fun us hl => match us, hl with | [_, _], _ => rfl)
    lows := fl_mk X G a_lows l_lows k_lows e_lows (fun us hl => match us, hl with | [_], _ => rfl)
    point := fl_mk X G a_point l_point k_point e_point (fun us hl => match us, hl with | [_, _], _ => rfl)
    law := fl_mk X G a_law l_law k_law e_law (fun us hl => match us, hl with | [_], _ => rfl)
    b_sorted := PySem.W.mg_none_of X G b_sorted
    b_len := PySem.W.mg_none_of X G b_len
    b_isinstance := PySem.W.mg_none_of X G b_isinstance
    b_bool := PySem.W.mg_none_of X G b_bool
    b_int := PySem.W.mg_none_of X G b_int
    b_range := PySem.W.mg_none_of X G b_range
    b_min := PySem.W.mg_none_of X G b_min
    b_max := PySem.W.mg_none_of X G b_max
    b_list := PySem.W.mg_none_of X G b_list
    b_tuple := PySem.W.mg_none_of X G b_tuple }
  exact ⟨_, fun s v => .of_eq rfl, fun base _ _ => ok_law T⟩
theorem walk {l : PySem.W.OpenLaw} {q : Program} {loose : List Str} {XP : (Str → Option Value) → Heap → Prop} {YP : World → Heap → Prop} {d : DefRec} {K : Params → PySem.W.Frag} (hn : l.most = some 63) (hdf : d.params.defaults = [])
    (hY : ∀ (w : World) (h : Heap), YP w h → (K w.params).In h)
    (F : ∀ (w : World) (mg : Str → Option Value) (fa : Addr) (h : Heap), (K w.params).In h → h.Ns mainGlobals mg → mg d.name = some (.ref fa) →
      ∃ fd : FuncData, (∀ (s : Shared) (u : Value), BindsTo s fd ⟨[u], []⟩ [("_law_script", u)]) ∧ ∀ base : Heap, (K w.params).In base → base.Ns mainGlobals mg → FnOk l.prog w (K w.params) mg base CX0 5 fa fd ["_law_script"] (spLaw (K w.params))) :
    PySem.W.WalkO q loose XP YP l.row.toRowW d [] (fun f vs => PySem.call f vs) :=
  L2.walk_of (n := 63) (k := 5) (x := "_law_script") (CX := fun _ => CX0) (sp := fun w => spLaw (K w.params)) hn (by decide) hdf ⟨rfl, by decide, by decide⟩ hY F (fun _ _ a ns hl _ hS => ⟨a, ns, rfl, hS, hl, fun _ => rfl⟩) fun _ _ _ _ _ z => z
end Ts.k06
open PySem PySem.W PyProof.Rows
set_option maxRecDepth 100000 in
set_option maxHeartbeats 0 in
theorem PySem.Challenge.cw_timestretch_k06_who_bears_a_time_holds : PySem.Challenge.rw_timestretch_k06_who_bears_a_time.Holds := by
  w_on; o_law; k_head; (case hw => w_witness2)
  k_fill
  refine Ts.k06.walk (l := PySem.Challenge.rw_timestretch_k06_who_bears_a_time) rfl rfl (fun w h Y => PySem.W.kIn_of Y) ?F
  case F =>
    intro w mg fa h KX G hmg
    refine' Ts.k06.all_mk KX G hmg ?a_bearers ?l_bearers ?k_bearers ?e_bearers ?a_bears ?l_bears ?k_bears ?e_bears ?a_fewest ?l_fewest ?k_fewest ?e_fewest ?a_tallies ?l_tallies ?k_tallies ?e_tallies ?a_whole ?l_whole ?k_whole ?e_whole ?a_cell_at ?l_cell_at ?k_cell_at ?e_cell_at ?a_mix ?l_mix ?k_mix ?e_mix ?a_big ?l_big ?k_big ?e_big ?a_word ?l_word ?k_word ?e_word ?a_names ?l_names ?k_names ?e_names ?a_clocks ?l_clocks ?k_clocks ?e_clocks ?a_many ?l_many ?k_many ?e_many ?a_lows ?l_lows ?k_lows ?e_lows ?a_point ?l_point ?k_point ?e_point ?a_law ?l_law ?k_law ?e_law ?b_sorted ?b_len ?b_isinstance ?b_bool ?b_int ?b_range ?b_min ?b_max ?b_list ?b_tuple
    (case a_bearers => k_is)
    (case l_bearers => k_is)
    (case k_bearers => k_is)
    (case e_bearers => k_is)
    (case a_bears => k_is)
    (case l_bears => k_is)
    (case k_bears => k_is)
    (case e_bears => k_is)
    (case a_fewest => k_is)
    (case l_fewest => k_is)
    (case k_fewest => k_is)
    (case e_fewest => k_is)
    (case a_tallies => k_is)
    (case l_tallies => k_is)
    (case k_tallies => k_is)
    (case e_tallies => k_is)
    (case a_whole => k_is)
    (case l_whole => k_is)
    (case k_whole => k_is)
    (case e_whole => k_is)
    (case a_cell_at => k_is)
    (case l_cell_at => k_is)
    (case k_cell_at => k_is)
    (case e_cell_at => k_is)
    (case a_mix => k_is)
    (case l_mix => k_is)
    (case k_mix => k_is)
    (case e_mix => k_is)
    (case a_big => k_is)
    (case l_big => k_is)
    (case k_big => k_is)
    (case e_big => k_is)
    (case a_word => k_is)
    (case l_word => k_is)
    (case k_word => k_is)
    (case e_word => k_is)
    (case a_names => k_is)
    (case l_names => k_is)
    (case k_names => k_is)
    (case e_names => k_is)
    (case a_clocks => k_is)
    (case l_clocks => k_is)
    (case k_clocks => k_is)
    (case e_clocks => k_is)
    (case a_many => k_is)
    (case l_many => k_is)
    (case k_many => k_is)
    (case e_many => k_is)
    (case a_lows => k_is)
    (case l_lows => k_is)
    (case k_lows => k_is)
    (case e_lows => k_is)
    (case a_point => k_is)
    (case l_point => k_is)
    (case k_point => k_is)
    (case e_point => k_is)
    (case a_law => k_is)
    (case l_law => k_is)
    (case k_law => k_is)
    (case e_law => k_is)
    (case b_sorted => k_is)
    (case b_len => k_is)
    (case b_isinstance => k_is)
    (case b_bool => k_is)
    (case b_int => k_is)
    (case b_range => k_is)
    (case b_min => k_is)
    (case b_max => k_is)
    (case b_list => k_is)
    (case b_tuple => k_is)
