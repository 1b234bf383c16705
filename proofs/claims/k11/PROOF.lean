import PyProof.Rows.All
import Wide.All
import OpenK.AllK
import Wide.FinOn
import PyProof.EqAt
import PyProof.EqKinds
import PyProof.TupleCall
import HandS.ForMost
import HandS.ForExc
import HandS.HotCalls
import HandS.ExcIs
import HandS.IsInst
import HandS.NoneIn
import HandS.FStr
import PySem.Challenge.RW_timestretch_k11_written
set_option Elab.async false
set_option linter.all false
set_option maxRecDepth 100000
set_option maxHeartbeats 4000000
section
/-! A caught error handed to a def: the def's promise speaks of the error's own class. -/
namespace Ts
open PySem PySem.Spec PyProof.Rows L2
abbrev St := L2.St

/-- a promise about a caught error: its place, its class -/
abbrev SpE := Addr → Value → Sp

/-- the def at f, called within an except suite that holds the error -/
structure FnE (P : Program) (w : World) (K : PySem.W.Frag) (mg : Str → Option Value) (base : Heap) (k : Nat)
    (f : Addr) (fd : FuncData) (ps : List Str) (sp : SpE) : Prop where
  len : ∀ a c vs H Q E, sp a c vs H Q E → vs.length = ps.length
  run : ∀ (A : Around) (outer : List Env) (s : Shared) (H : Hp) (args : Args) (us : List Value) (vs : List V) (Q : VK) (E : XK)
    (p : Addr × Obj) (c : Value),
    L2H.RoomH k A → L2H.PinOk outer H s p → Zc c none p.2 → (∃ v, p.2.data = .fields v) →
    Env0 P w K mg base A outer s H → BindsTo s fd args (ps.zip us) → Vals vs us → sp p.1 c vs H Q E →
    codeAny (model P w) A (.call (.ref f) args) (CR CX0 outer P w H s Q E) s

theorem fnE_of {P : Program} {w : World} {K : PySem.W.Frag} {mg : Str → Option Value} {base : Heap} {k : Nat}
    {x qual : Str} {st : Stmt} {f : Addr} {fd : FuncData} {N ps : List Str} {sp : SpE}
    (F : Fun K x qual st f fd) (S : FnScope N ps (defScope st))
    (len : ∀ a c vs H Q E, sp a c vs H Q E → vs.length = ps.length)
    (body : ∀ (cdv : Value) (A : Around) (outer : List Env) (s : Shared) (H : Hp) (vs : List V) (Q : VK) (E : XK)
      (p : Addr × Obj) (c : Value), Zc c none p.2 → (∃ v, p.2.data = .fields v) →
      L2H.RoomH k (A.deeper (envOfC qual (defScope st) s.heap.objs.size f cdv)) → sp p.1 c vs H Q E →
      ∃ t, PSs (L2H.cxH CX0 P w K mg base N qual (defScope st) f cdv A outer s H E p) (defBody st) t ∧
        t { nx := fun _ H' => Q .non H', rt := Q } (start N vs) H) :
    FnE P w K mg base (k + 1) f fd ps sp := by
  obtain ⟨oc, od, kV, doc, pm, an, cdv, ct, osl, hfd, lk, hcd⟩ := F.ex
  subst hfd
  constructor
  · exact len
  intro A outer s H args us vs Q E p c hr hpin hz hf e0 hb r hsp
  have hl := len _ _ _ _ _ _ hsp
  have old : ∀ b o, base.get? b = some o → s.heap.get? b = some o := fun b o e => (e0.bs b o e).1
  have lim := e0.mod.nolimit.keeps old
  have kinds : ∀ y ∈ ps.zip us, (defScope st).names.lookup y.1 = some .local ∨
      ((defScope st).names.lookup y.1 = some .cell ∧
        ((cellsFrom (s.heap.objs.size + 1) (defScope st).names []).lookup y.1).isSome = true) := by
    rintro ⟨n, v⟩ hy
    cases S.par n (List.of_mem_zip hy).1 with
    | inl q => exact .inl q
    | inr q => exact .inr ⟨q, PySem.W.cellsFrom_some _ _ _ (.inl q)⟩
  refine codeAny_call_function hr.depth ((e0.mod.kin.keeps old) _ _ lk) rfl S.co S.gen rfl
    (PySem.W.codeRec_of (e0.mod.kin.keeps old) hcd) (hb _ _ _ _ ?_)
  refine wpAny_newFunctionEnv_cells S.kind kinds ?_
  intro env he s1 x1
  subst he
  refine ⟨lim.keeps x1.toInCall.keep, codeAny_func ?_⟩
  obtain ⟨t, ht, hq⟩ := body cdv A outer s H vs Q E p c hz hf (hr.deeper _) hsp
  have I := L2H.inv_startH (CX := CX0) (E := E) S hpin e0 hl r x1
  have goal := ht.run [] s1 (start N vs) H _ I hq
  refine wpAny_mono goal ?_ (fun _ _ z => z)
  intro fl s' hs
  have fin : ∀ {σ' : St} {H' : Hp} {v : V} {u : Value},
      Inv (L2H.cxH CX0 P w K mg base N qual (defScope st) f cdv A outer s H E p) [] σ' H' s' → RelV v u → Q v H' →
      CE outer P w H s Q u s' :=
    fun {_ H' v _} J rv q => ⟨v, H', J.os, J.bare, J.base, J.hok, rv, q⟩
  cases fl with
  | ret u => exact match hs with | ⟨_, _, _, J, rv, q⟩ => fin J rv q
  | next => exact match hs with | ⟨_, _, J, q⟩ => fin (v := V.non) (u := Value.none) J rfl q
  | brk => exact match hs with | ⟨_, _, _, q⟩ => q.elim
  | cont => exact match hs with | ⟨_, _, _, q⟩ => q.elim

/-- g(e, ..) in a suite that holds the error p -/
def tCallE (sp : SpE) (a : Addr) (c : Value) (d : Option Addr) (t : TA) : TE := fun σ H Q => t σ H fun vs H1 => d = none ∧ sp a c vs H1 Q E0
theorem pe_callE {X : Cx} {k : Nat} {f : Addr} {fd : FuncData} {ps : List Str} {sp : SpE} {x : Str} {q pos : Pos} {e : Expr} {es : List Expr} {t : TA} {p : Addr × Obj} {c : Value} {d : Option Addr}
    (F : FnE X.prog X.w X.K X.mg X.base k f fd ps sp) (hr : L2H.RoomH k X.A) (hp : p ∈ X.pn) (hz : Zc c d p.2) (hf : ∃ v, p.2.data = .fields v)
    (hm : X.mg x = some (.ref f)) (hk : PySem.W.keepIn X.K (.ref f) = true) (hb : Binds X.K fd ps [])
    (ha : PA X (e :: es) t) (hg : Gl X x := by rfl) (hdb : (x == ("__debug__" : Str)) = false := by decide)
    (he : starEach (e :: es) X.env = (false, eval e X.env) :: starEach es X.env := by rfl) (hpl : (backTo pos (starEach es X.env)).any (·.1) = false := by rfl) :
    PE X (.Call (.Name x q) (e :: es) [] pos) (tCallE sp p.1 c d t) := by
  constructor
  intro pins s σ H Q I h
  refine wpAny_Call_Name_kw (ld_glob I hg hm ?_ hdb)
  refine PySem.W.callWith_K (h₀ := X.base) I.ok.mod.kin hk (thn (ha.run pos pins s σ H _ I h) ?_) he hpl
  rintro us s1 ⟨vs, H1, I1, r, hd, w1⟩
  subst hd
  refine ⟨I1.kIn, ?_⟩
  have n1 : us.length = ps.length := by rw [← r.length]; exact F.len _ _ _ _ _ _ w1
  have b := hb s1 us I1.kIn (by rw [List.append_nil]; exact n1)
  rw [List.append_nil] at b
  have P1 := I1.pin p (List.mem_append_left _ hp)
  have ns : p.1 ∉ frs X.stack := fun hm => by
    cases List.mem_cons.mp (I1.stkSub p.1 hm) with
    | inl z => exact P1.2.2.1 z
    | inr z => exact P1.2.2.2.1 z
  refine wpAny_call (codeAny_mono (F.run X.A X.stack s1 H1 ⟨us, []⟩ us vs Q E0 p c hr ⟨P1.1, P1.2.1, ns, P1.2.2.2.2⟩ hz hf I1.env0 b r w1) ?_)
  intro r' s' hq
  cases r' with
  | error e => exact hq.elim
  | ok fl => cases fl with
    | ret u => exact I1.after hq
    | next => exact hq.elim
    | brk => exact hq.elim
    | cont => exact hq.elim

theorem rm_suite {j k : Nat} {A : Around} {v : Option Value} (hr : Room k A) (h : j ≤ k) : L2H.RoomH j (A.mark v) := L2H.RoomH.mono (k := k) ⟨hr.dp, hr.un⟩ h
/-- isinstance(e, c), e the error that X holds -/
theorem call_isP {X : Cx} {D : Addr} {p : Addr × Obj} (C : ExcC X.K D) (hp : p ∈ X.pn) (hz : Zc (.ref D) none p.2) (hf : ∃ v, p.2.data = .fields v) :
    CallR X (.builtin "isinstance") (rIsE X.K D p.1) := by
  rintro pins s σ H xs us Q I r ⟨c, cv, b, rfl, hcv, e, q⟩
  obtain ⟨a, oe⟩ := p
  match r with
  | .cons rx (.cons rt .nil) =>
    cases rx
    have ec := hcv _ rt
    subst ec
    have hget := (I.pin (a, oe) (List.mem_append_left _ hp)).1
    have J : PySem.W.InstAt s.heap a oe D none := by
      obtain ⟨v, hv⟩ := hf
      obtain ⟨h1, h2⟩ := hz
      obtain ⟨oc, od, oda, osl⟩ := oe
      dsimp only at hv h1 h2
      subst hv h1 h2
      exact ⟨hget, rfl, rfl, trivial⟩
    refine PySem.W.kia_one (PySem.W.handS_kitx_exc C.hg C.hk C.hs C.hd C.ha C.hn C.ht C.hm) I.kIn J e (fun z => nomatch z) ?_
    intro tk
    exact ⟨.bl b, H, I.kept (t' := tk) fun _ _ z => z, rfl, q⟩

/-- xs.count(y), flat items -/
def rCount (K : PySem.W.Frag) : V → List V → Hp → VK → Prop := fun x xs H Q => ∃ (a : Addr) (ys : List V) (y : V), x = .ref a ∧ xs = [y] ∧ SqL K H a ys ∧ flatV y = true ∧ ys.all flatV = true ∧ Q (.int ((ys.countP fun z => eqV z y : Nat) : Int)) H
theorem count_eqU {x : V} : ∀ {xs : List V} {us : List Value}, Vals xs us → xs.all flatV = true → us.countP (eqU x) = xs.countP fun y => eqV y x
  | _, _, .nil, _ => rfl
  | y :: xs, u :: us, .cons r t, f => by
    rw [List.all_cons, Bool.and_eq_true] at f
    rw [List.countP_cons, List.countP_cons, eqU_of r f.1, count_eqU t f.2]
theorem mt_count {X : Cx} : MtR X "list.count" (rCount X.K) := by
  rintro pins s σ H x xs v us Q I rx rxs ⟨a, ys, y, rfl, rfl, hs, fy, fys, q⟩
  cases rx
  match rxs with
  | .cons (b := uy) ry .nil =>
    obtain ⟨its, rv, ⟨⟨cls, dd, data, sl⟩, n, ho, hc, hdn, hd⟩, hlen⟩ := I.list hs
    simp only at hc hd
    subst hc hd
    refine call_meets PySem.F.slot_list_count ⟨_, ho, rfl⟩ PySem.F.entry_list_count (PySem.F.args_list_count_2 _ _) (SeqAt.list_countAt a its.toArray n dd sl uy (eqU y)) ⟨ho, ?_, ?_⟩
    · exact fun u hu => mem_eqAt ry fy rv fys u (by simpa using hu)
    · refine ⟨.int ((ys.countP fun z => eqV z y : Nat) : Int), H, I.tok _, ⟨s.toks, ?_⟩, q⟩
      rw [← count_eqU rv fys]
end Ts
end
section
namespace Ts
open PySem PySem.Spec PyProof.Rows L2

theorem pe_imp {X : Cx} {e : Expr} {t t' : TE} (h : PE X e t) (q : ∀ σ H Q, t' σ H Q → t σ H Q) : PE X e t' :=
  ⟨fun pins s σ H Q I w => h.run pins s σ H Q I (q σ H Q w)⟩
theorem opr_imp {X : Cx} {f : Value → Value → Sem Value} {r r' : R2} (h : OpR X f r) (q : ∀ x y H Q, r' x y H Q → r x y H Q) : OpR X f r' :=
  fun pins s σ H x y v u Q I rx ry w => h pins s σ H x y v u Q I rx ry (q x y H Q w)
theorem ixr_imp {X : Cx} {r r' : R2} (h : IxR X r) (q : ∀ x y H Q, r' x y H Q → r x y H Q) : IxR X r' :=
  fun value slice pins s σ H x y v u Q I rx ry w => h value slice pins s σ H x y v u Q I rx ry (q x y H Q w)

/-- an operation by a written number -/
def rByC (c : Int) (g : Int → V) : R2 := fun x y H Q => ∃ i, x = .int i ∧ y = .int c ∧ Q (g i) H
section
variable {X : Cx} {c : Int}
theorem op_modc (hc : (0 : Int) < c) : OpR X (binaryOp .Mod) (rByC c fun i => .int (i % c)) :=
  opr_imp op_mod fun _ _ _ _ h => match h with | ⟨i, e1, e2, q⟩ => ⟨i, c, e1, e2, hc, q⟩
theorem op_divc (hc : (0 : Int) < c) (h2 : c < 1073741824) : OpR X (binaryOp .FloorDiv) (rByC c fun i => .int (i / c)) :=
  opr_imp op_fdiv fun _ _ _ _ h => match h with | ⟨i, e1, e2, q⟩ => ⟨i, c, e1, e2, ⟨hc, h2⟩, q⟩
theorem op_mulc (hc : -(2 ^ 64) < c ∧ c < 2 ^ 64) : OpR X (binaryOp .Mult) (rByC c fun i => .int (i * c)) :=
  opr_imp op_mul fun _ _ _ _ h => match h with | ⟨i, e1, e2, q⟩ => ⟨i, c, e1, e2, Or.inr hc, q⟩
end
/-- c * e with a written number c -/
def rOfC (c : Int) (g : Int → V) : R2 := fun x y H Q => ∃ i, x = .int c ∧ y = .int i ∧ Q (g i) H
theorem op_cmul {X : Cx} {c : Int} (hc : -(2 ^ 64) < c ∧ c < 2 ^ 64) : OpR X (binaryOp .Mult) (rOfC c fun i => .int (c * i)) :=
  opr_imp op_mul fun _ _ _ _ h => match h with | ⟨i, e1, e2, q⟩ => ⟨c, i, e1, e2, Or.inl hc, q⟩
theorem pe_negc {X : Cx} {c : Int} {k : Nat} {p pos : Pos} : PE X (.UnaryOp .USub (.Constant (.int c) k p) pos) (tC (.int (-c))) :=
  pe_imp (pe_un un_neg pe_int) fun _ _ _ h => ⟨c, rfl, h⟩
theorem pe_powc {X : Cx} {n m : Int} {k k' : Nat} {p p' pos : Pos} (h0 : 0 ≤ m ∧ m ≤ 1000000 ∧ n.natAbs < 2 ^ 64) : PE X (.BinOp (.Constant (.int n) k p) .Pow (.Constant (.int m) k' p') pos) (tC (.int (n ^ m.toNat))) :=
  pe_imp (pe_op op_pow pe_int pe_int) fun _ _ _ h => ⟨n, m, rfl, rfl, h0, h⟩
theorem pe_pow12 {X : Cx} {k k' : Nat} {p p' pos : Pos} : PE X (.BinOp (.Constant (.int 10) k p) .Pow (.Constant (.int 12) k' p') pos) (tC (.int 1000000000000)) := pe_powc (by decide)
theorem pe_pow24 {X : Cx} {k k' : Nat} {p p' pos : Pos} : PE X (.BinOp (.Constant (.int 10) k p) .Pow (.Constant (.int 24) k' p') pos) (tC (.int 1000000000000000000000000)) := pe_powc (by decide)
theorem pe_pow40 {X : Cx} {k k' : Nat} {p p' pos : Pos} : PE X (.BinOp (.Constant (.int 10) k p) .Pow (.Constant (.int 40) k' p') pos) (tC (.int 10000000000000000000000000000000000000000)) := pe_powc (by decide)

theorem pe_gint {X : Cx} {x : Str} {c : Int} {t : Tok} {pos : Pos} (hm : X.mg x = some (.int c t)) (hg : Gl X x := by rfl) (hd : (x == ("__debug__" : Str)) = false := by decide) : PE X (.Name x pos) (tC (.int c)) := pe_glob hg hm ⟨_, rfl⟩ hd
theorem pe_gref {X : Cx} {x : Str} {C : Addr} {pos : Pos} (hm : X.mg x = some (.ref C)) (hg : Gl X x := by rfl) (hd : (x == ("__debug__" : Str)) = false := by decide) : PE X (.Name x pos) (tC (.ref C)) := pe_glob hg hm rfl hd
theorem pe_bty {X : Cx} {x : Str} {n : String} {pos : Pos} (hm : X.mg x = none) (hv : bootBuiltins x = some (.type n)) (hg : Gl X x := by rfl) (hn : x ≠ "__name__" := by decide) (hd : (x == ("__debug__" : Str)) = false := by decide) : PE X (.Name x pos) (tC (.ty n)) := pe_bltn hg hm hv rfl hn hd
/-! ### rules whose reading names K itself (under a binder X's own K is no answer) -/
section
variable {X : Cx} (K : PySem.W.Frag)
theorem ixL (h : X.K = K := by rfl) : IxR X (rIxL K) := h ▸ ix_list
theorem ixT (h : X.K = K := by rfl) : IxR X (rIxT K) := h ▸ ix_tup
theorem slL (h : X.K = K := by rfl) : SlR X (rSlL K) := h ▸ sl_list
theorem slT (h : X.K = K := by rfl) : SlR X (rSlT K) := h ▸ sl_tup
def rLenQ (K : PySem.W.Frag) : List V → Hp → VK → Prop := fun xs H Q => ∃ p ys, xs = [.ref p] ∧ (SqL K H p ys ∨ SqT K H p ys) ∧ Q (.int ys.length) H
theorem lenK (h : X.K = K := by rfl) : CallR X (.builtin "len") (rLenQ K) := h ▸ call_len_seq
def rListQ (K : PySem.W.Frag) : List V → Hp → VK → Prop := fun xs H Q => ∃ p ys, xs = [.ref p] ∧ (SqL K H p ys ∨ SqT K H p ys) ∧ ∀ l, H l = none → Q (.ref l) (upd H l (.lst ys))
theorem listK (h : X.K = K := by rfl) : CallR X (.type "list") (rListQ K) := h ▸ call_list_of
theorem isiK (h : X.K = K := by rfl) : CallR X (.builtin "isinstance") (rIsi K) := h ▸ call_isi
theorem eqDK (hu : X.A.units + 64 < cLine) (h : X.K = K := by rfl) : OpR X (compareOp .Eq) (rEqD K) := h ▸ op_eqD hu
theorem neDK (hu : X.A.units + 64 < cLine) (h : X.K = K := by rfl) : OpR X (compareOp .NotEq) (rNeD K) := h ▸ op_neD hu
theorem inK (h : X.K = K := by rfl) : OpR X (compareOp .In) (rIn K false) := h ▸ op_in_seq
theorem niK (h : X.K = K := by rfl) : OpR X (compareOp .NotIn) (rIn K true) := h ▸ op_notIn_seq
theorem piL {tg l : Expr} {tl : TE} (hl : PE X l tl) (h : X.K = K := by rfl) : PI X tg l (iList K tl) := h ▸ pi_list hl
theorem piT {tg l : Expr} {tl : TE} (hl : PE X l tl) (h : X.K = K := by rfl) : PI X tg l (iTup K tl) := h ▸ pi_tup hl
theorem sortK (h : X.K = K := by rfl) : CallR X (.builtin "sorted") (rSorted K) := h ▸ cr_sorted
theorem maxK (hc : X.calm = true) (h : X.K = K := by rfl) : CallR X (.builtin "max") (rMax K) := h ▸ cr_max hc
theorem minK (hc : X.calm = true) (h : X.K = K := by rfl) : CallR X (.builtin "min") (rMin K) := h ▸ cr_min hc
end
/-! ### an item of a list -/
/-- an item at a place that lies in the list -/
theorem at_in {xs : List V} {i : Int} (h0 : 0 ≤ i) (h1 : i < xs.length) : ∃ v, v ∈ xs ∧ xs[i.toNat]? = some v ∧ atI xs i = some v := by
  have hn : i.toNat < xs.length := by omega
  refine ⟨xs[i.toNat], List.getElem_mem hn, List.getElem?_eq_getElem hn, ?_⟩
  exact at_of (j := i.toNat) (by omega) (List.getElem?_eq_getElem hn)
/-- xs[i], i in bounds: any of them -/
theorem ix_any {K : PySem.W.Frag} {H : Hp} {p : Addr} {xs : List V} {i : Int} {Q : VK} (P : V → Prop) (h : SqL K H p xs) (h0 : 0 ≤ i) (h1 : i < xs.length) (hp : ∀ v ∈ xs, P v) (q : ∀ v, P v → Q v H) : rIxL K (.ref p) (.int i) H Q := by
  obtain ⟨v, hm, _, ha⟩ := at_in h0 h1
  exact ⟨p, xs, i, v, rfl, rfl, h, ha, q v (hp v hm)⟩
/-- the same of numbers -/
theorem ix_int {K : PySem.W.Frag} {H : Hp} {p : Addr} {xs : List V} {i : Int} {Q : VK} (P : Int → Prop) (h : SqL K H p xs) (h0 : 0 ≤ i) (h1 : i < xs.length) (hp : ∀ v ∈ xs, ∃ j, v = .int j ∧ P j) (q : ∀ j, P j → Q (.int j) H) : rIxL K (.ref p) (.int i) H Q :=
  ix_any (fun v => ∃ j, v = .int j ∧ P j) h h0 h1 hp fun _ ⟨j, e, pj⟩ => e ▸ q j pj
theorem all1 {P : V → Prop} {a : V} (ha : P a) : ∀ v ∈ [a], P v := fun v hv => by
  rw [List.mem_singleton] at hv
  exact hv ▸ ha
theorem allc {P : V → Prop} {a : V} {l : List V} (ha : P a) (hl : ∀ v ∈ l, P v) : ∀ v ∈ a :: l, P v := fun v hv => by
  rcases List.mem_cons.mp hv with e | e
  · exact e ▸ ha
  · exact hl v e
theorem SqL.here {K : PySem.W.Frag} {H : Hp} {p : Addr} {xs : List V} : SqL K (upd H p (.lst xs)) p xs := SqL.of upd_same
theorem same_new {H : Hp} {p : Addr} {o : HO} (h : H p = none) : Same H (upd H p o) := fun b u e => by rw [upd_ne (ne_of_none e h)]; exact e
theorem Same.seqT {K : PySem.W.Frag} {H H' : Hp} {a : Addr} {xs : List V} (e : Same H H') (h : SqT K H a xs) : SqT K H' a xs := by
  rcases h with (h | ⟨o, h⟩) | h
  · exact .inl (.inl (e _ _ h))
  · exact .inl (.inr ⟨o, e _ _ h⟩)
  · exact .inr h

/-! ### a def of the text by its name -/
structure Dfn (K : PySem.W.Frag) (mg : Str → Option Value) (x : Str) (st : Stmt) (ps : List Str) (f : Addr) (fd : FuncData) : Prop where
  F : Fun K x x st f fd
  g : mg x = some (.ref f)
  b : Binds K fd ps []
section
variable {X : Cx} {k : Nat} {f : Addr} {fd : FuncData} {ps : List Str} {sp : Sp} {st : Stmt} {x : Str} {p pos : Pos} {e : Expr} {es : List Expr} {t : TA}
/-- a call that raises nothing -/
theorem pe_cl (G : FnOk X.prog X.w X.K X.mg X.base CX0 k f fd ps sp) (D : Dfn X.K X.mg x st ps f fd) (hr : Room k X.A) (ha : PA X (e :: es) t) (hg : Gl X x := by rfl) (hdb : (x == ("__debug__" : Str)) = false := by decide)
    (he : starEach (e :: es) X.env = (false, eval e X.env) :: starEach es X.env := by rfl) (hpl : (backTo pos (starEach es X.env)).any (·.1) = false := by rfl) : PE X (.Call (.Name x p) (e :: es) [] pos) (tCall sp [] E0 t) :=
  pe_call G hr hg D.g D.F.kp D.b .nil pass0 ha hdb he hpl
/-- a call of a def that may raise, in a def that may raise: the error goes on -/
theorem pe_clX {E : XK} (G : FnOk X.prog X.w X.K X.mg X.base (L2.CX X.prog X.w) k f fd ps sp) (D : Dfn X.K X.mg x st ps f fd) (hr : Room k X.A) (tk : Takes X (fun cls d _ H => E cls d H)) (ha : PA X (e :: es) t) (hg : Gl X x := by rfl) (hdb : (x == ("__debug__" : Str)) = false := by decide)
    (he : starEach (e :: es) X.env = (false, eval e X.env) :: starEach es X.env := by rfl) (hpl : (backTo pos (starEach es X.env)).any (·.1) = false := by rfl) : PE X (.Call (.Name x p) (e :: es) [] pos) (tCall sp [] E t) :=
  pe_call G hr hg D.g D.F.kp D.b .nil (passes_call tk fun _ _ _ _ h => h) ha hdb he hpl
/-- a call of a def that may raise, where it does not -/
theorem pe_cl0 (G : FnOk X.prog X.w X.K X.mg X.base (L2.CX X.prog X.w) k f fd ps sp) (D : Dfn X.K X.mg x st ps f fd) (hr : Room k X.A) (ha : PA X (e :: es) t) (hg : Gl X x := by rfl) (hdb : (x == ("__debug__" : Str)) = false := by decide)
    (he : starEach (e :: es) X.env = (false, eval e X.env) :: starEach es X.env := by rfl) (hpl : (backTo pos (starEach es X.env)).any (·.1) = false := by rfl) : PE X (.Call (.Name x p) (e :: es) [] pos) (tCall sp [] E0 t) :=
  pe_call G hr hg D.g D.F.kp D.b .nil passL ha hdb he hpl
/-- a call of a def that may raise, in a try's body -/
theorem pe_clT {W : WX} (G : FnOk X.prog X.w X.K X.mg X.base (L2.CX X.prog X.w) k f fd ps sp) (D : Dfn X.K X.mg x st ps f fd) (hr : Room k X.A) (tk : Takes X W) (ha : PA X (e :: es) t) (hg : Gl X x := by rfl) (hdb : (x == ("__debug__" : Str)) = false := by decide)
    (he : starEach (e :: es) X.env = (false, eval e X.env) :: starEach es X.env := by rfl) (hpl : (backTo pos (starEach es X.env)).any (·.1) = false := by rfl) : PE X (.Call (.Name x p) (e :: es) [] pos) (tCallS sp (WE W) t) :=
  pe_callS G hr hg D.g D.F.kp D.b (fun σ => passAt tk σ) ha hdb he hpl
end
/-! ### an error class of the program -/
structure Err (K : PySem.W.Frag) (mg : Str → Option Value) (x : Str) (C : Addr) : Prop where
  g : mg x = some (.ref C)
  x : PySem.W.excIn K C [.type "ValueError", .type "Exception", .type "BaseException", .type "object"] "ValueError.__new__" = true
  k : PySem.W.keepIn K (.ref C) = true
  s : PySem.W.subIn K (.ref C) (.type "BaseException") = some true
  t : PySem.W.typeIn K (.ref C) = some (.type "type")
theorem ps_rs {X : Cx} {W : WX} {x m : Str} {C : Addr} {j : Nat} {p p2 pos pos2 : Pos} (hc : X.calm = true) (tk : Takes X W) (T : Err X.K X.mg x C) (hg : Gl X x := by rfl) (hdb : (x == ("__debug__" : Str)) = false := by decide) :
    PS X (.Raise (some (.Call (.Name x p) [.Constant (.str m) j p2] [] pos)) none pos2) (fun _ σ H => W (.ref C) none σ H) :=
  ps_raise hc tk (pmk_own PySem.F.excBase_ValueError T.x T.g T.k (raises_own T.s T.t) hg hdb)
theorem gen_new {H H3 : Hp} {p : Addr} {o : HO} (h : upd H p o = H3) (np : H p = none) : Same H H3 ∧ H3 p = some o := by
  subst h
  exact ⟨same_new np, upd_same⟩
theorem perm2 {ns : List Int} {x y : Int} (h : ns.Perm [x, y]) (s : ns.Pairwise (· ≤ ·)) : ∃ a b, ns = [a, b] ∧ a ≤ b ∧ ((a = x ∧ b = y) ∨ (a = y ∧ b = x)) := by
  have hl : ns.length = 2 := h.length_eq
  match ns, hl with
  | [a, b], _ =>
    refine ⟨a, b, rfl, (List.pairwise_cons.mp s).1 b List.mem_cons_self, ?_⟩
    have ha : a = x ∨ a = y := by
      have z := h.mem_iff.mp (List.mem_cons_self (a := a) (l := [b]))
      simpa using z
    rcases ha with rfl | rfl
    · have z := (List.perm_cons a).mp h
      exact Or.inl ⟨rfl, by simpa using z⟩
    · have z : [a, b].Perm [a, x] := h.trans (List.Perm.swap a x [])
      have z2 := (List.perm_cons a).mp z
      exact Or.inr ⟨rfl, by simpa using z2⟩
/-- sorted of a list of two numbers -/
theorem sorted2 {K : PySem.W.Frag} {H : Hp} {p : Addr} {x y : Int} {Q : VK} (h : SqL K H p [.int x, .int y])
    (q : ∀ (a b : Int) (p' : Addr), a ≤ b → ((a = x ∧ b = y) ∨ (a = y ∧ b = x)) → H p' = none → Q (.ref p') (upd H p' (.lst [.int a, .int b]))) : rSorted K [.ref p] H Q := by
  refine ⟨p, [x, y], rfl, h, (by show 2 < 64; decide), fun ns' p' hp hs np => ?_⟩
  obtain ⟨a, b, e, hab, hxy⟩ := perm2 hp hs
  subst e
  exact q a b p' hab hxy np
/-- behind a statement one goes on from what it leaves -/
theorem seq_cut {t u : TS} {D : Ends} {σ : L2.St} {H : Hp} (P : L2.St → Hp → Prop) (h1 : ∀ N : L2.St → Hp → Prop, (∀ σ' H', P σ' H' → N σ' H') → t { D with nx := N } σ H)
    (h2 : ∀ σ' H', P σ' H' → u D σ' H') : tSeq t u D σ H := h1 (u D) h2
theorem bl_true {Q : VK} {H : Hp} {b : Bool} (h : b = true) (q : Q (.bl true) H) : Q (.bl b) H := h.symm ▸ q
theorem bl_false {Q : VK} {H : Hp} {b : Bool} (h : b = false) (q : Q (.bl false) H) : Q (.bl b) H := h.symm ▸ q
/-- a test that is known -/
theorem ite_yes {c : Bool} {A B : Prop} (h : c = true) (q : A) : if c = true then A else B := by
  rw [if_pos h]
  exact q
theorem ite_no {c : Bool} {A B : Prop} (h : c = false) (q : B) : if c = true then A else B := by
  rw [if_neg (by rw [h]; exact Bool.false_ne_true)]
  exact q
theorem dec_int {i j : Int} : decide (V.int i = V.int j) = decide (i = j) := by
  by_cases h : i = j
  · rw [decide_eq_true h, decide_eq_true (by rw [h])]
  · rw [decide_eq_false h, decide_eq_false (fun z => h (V.int.inj z))]
/-- a == b on numbers, as a test: both ways -/
theorem ite_eq {i j : Int} {A B : Prop} (h1 : i = j → A) (h2 : i ≠ j → B) : if decide (V.int i = V.int j) = true then A else B := by
  rw [dec_int]
  exact ite2 (fun z => h1 (of_decide_eq_true z)) (fun z => h2 fun e => z (decide_eq_true e))
/-- a < b and its kin: both ways -/
theorem ite_dec {p : Prop} [Decidable p] {A B : Prop} (h1 : p → A) (h2 : ¬ p → B) : if decide p = true then A else B :=
  ite2 (fun z => h1 (of_decide_eq_true z)) (fun z => h2 fun e => z (decide_eq_true e))
end Ts
end
section
namespace Ts
open PySem PySem.Spec PyProof.Rows L2

/-- what the class at D, the j-th of cs, must say of itself -/
structure Kd (K : PySem.W.Frag) (cs : List Addr) (S D : Addr) (j : Nat) : Prop where
  ex : ExcC K D
  em : PySem.W.exmOne K (.ref D) (.ref S) = some true
  ve : PySem.W.kitOne K (.ref D) (.type "ValueError") = some true
  bit : ∀ (i : Nat) (c : Addr), cs[i]? = some c → PySem.W.kitOne K (.ref D) (.ref c) = some (decide (i = j))
  lt : j < 10
theorem exm_sub {K : PySem.W.Frag} {C D : Addr} (h1 : PySem.W.subIn K (.ref C) (.type "BaseException") = some true) (h2 : PySem.W.hasDictIn K C = true) (h3 : PySem.W.typeIn K (.ref C) = some (.type "type"))
    (h4 : PySem.W.subIn K (.ref D) (.ref C) = some true) : PySem.W.exmOne K (.ref D) (.ref C) = some true := PySem.W.exm_ref h1 h2 h3 h4
theorem kd_mk {K : PySem.W.Frag} {S D c0 c1 c2 c3 c4 c5 c6 c7 c8 c9 : Addr} {j : Nat} {b0 b1 b2 b3 b4 b5 b6 b7 b8 b9 : Bool} (ex : ExcC K D) (em : PySem.W.exmOne K (.ref D) (.ref S) = some true) (ve : PySem.W.kitOne K (.ref D) (.type "ValueError") = some true)
    (q0 : PySem.W.kitOne K (.ref D) (.ref c0) = some b0) (q1 : PySem.W.kitOne K (.ref D) (.ref c1) = some b1) (q2 : PySem.W.kitOne K (.ref D) (.ref c2) = some b2) (q3 : PySem.W.kitOne K (.ref D) (.ref c3) = some b3) (q4 : PySem.W.kitOne K (.ref D) (.ref c4) = some b4)
    (q5 : PySem.W.kitOne K (.ref D) (.ref c5) = some b5) (q6 : PySem.W.kitOne K (.ref D) (.ref c6) = some b6) (q7 : PySem.W.kitOne K (.ref D) (.ref c7) = some b7) (q8 : PySem.W.kitOne K (.ref D) (.ref c8) = some b8) (q9 : PySem.W.kitOne K (.ref D) (.ref c9) = some b9)
    (hj : j < 10 := by decide) (hb : [b0, b1, b2, b3, b4, b5, b6, b7, b8, b9] = (List.range 10).map fun i => decide (i = j) := by decide) : Kd K [c0, c1, c2, c3, c4, c5, c6, c7, c8, c9] S D j where
  ex := ex
  em := em
  ve := ve
  lt := hj
  bit := fun i c h => by
    have e : ∀ {b : Bool}, [b0, b1, b2, b3, b4, b5, b6, b7, b8, b9][i]? = some b → b = decide (i = j) := fun {b} hi => by
      rw [hb, List.getElem?_map] at hi
      cases hr : (List.range 10)[i]? with
      | none => rw [hr] at hi; cases hi
      | some k =>
        rw [hr] at hi
        obtain ⟨_, e1⟩ := List.getElem?_eq_some_iff.mp hr
        rw [List.getElem_range] at e1
        rw [e1]
        exact (Option.some.inj hi).symm
    match i, h with
    | 0, h => cases h; rw [q0, e rfl]
    | 1, h => cases h; rw [q1, e rfl]
    | 2, h => cases h; rw [q2, e rfl]
    | 3, h => cases h; rw [q3, e rfl]
    | 4, h => cases h; rw [q4, e rfl]
    | 5, h => cases h; rw [q5, e rfl]
    | 6, h => cases h; rw [q6, e rfl]
    | 7, h => cases h; rw [q7, e rfl]
    | 8, h => cases h; rw [q8, e rfl]
    | 9, h => cases h; rw [q9, e rfl]
    | i + 10, h => simp at h

def kwords : List Str := ["name", "letter", "off", "early", "count", "none", "wide", "many", "clock", "text"]
def kword (j : Nat) : Str := kwords.getD j "other"
def spKind (K : PySem.W.Frag) (cs : List Addr) (S : Addr) : SpE := fun a c vs H Q _ => ∃ (D : Addr) (j : Nat), c = .ref D ∧ vs = [.ref a] ∧ Kd K cs S D j ∧ ∀ H', Same H H' → Q (.str (kword j)) H'
def kbits (j : Nat) : List V := (List.range 10).map fun i => V.bl (decide (i = j))
theorem kbits_eq (j : Nat) : kbits j = [V.bl (decide (0 = j)), V.bl (decide (1 = j)), V.bl (decide (2 = j)), V.bl (decide (3 = j)), V.bl (decide (4 = j)), V.bl (decide (5 = j)), V.bl (decide (6 = j)), V.bl (decide (7 = j)), V.bl (decide (8 = j)), V.bl (decide (9 = j))] := rfl
theorem k10 {j : Nat} (h : j < 10) {P : Nat → Prop} (p : P 0 ∧ P 1 ∧ P 2 ∧ P 3 ∧ P 4 ∧ P 5 ∧ P 6 ∧ P 7 ∧ P 8 ∧ P 9) : P j := by
  obtain ⟨p0, p1, p2, p3, p4, p5, p6, p7, p8, p9⟩ := p
  match j, h with
  | 0, _ => exact p0
  | 1, _ => exact p1
  | 2, _ => exact p2
  | 3, _ => exact p3
  | 4, _ => exact p4
  | 5, _ => exact p5
  | 6, _ => exact p6
  | 7, _ => exact p7
  | 8, _ => exact p8
  | 9, _ => exact p9
theorem kbits_count {j : Nat} (h : j < 10) : (kbits j).countP (fun z => eqV z (.bl true)) = 1 := k10 (P := fun j => (kbits j).countP (fun z => eqV z (.bl true)) = 1) h (by decide)
theorem kbits_flat (j : Nat) : (kbits j).all flatV = true := by rw [kbits_eq]; rfl
theorem kbits_at {j : Nat} (h : j < 10) : (kbits j)[j]? = some (.bl true) := k10 (P := fun j => (kbits j)[j]? = some (.bl true)) h (by decide)
theorem kbits_no {j : Nat} (h : j < 10) : ∀ (m : Nat) (z : V), m < j → (kbits j)[m]? = some z → eqV z (.bl true) = false := fun m z hm hz => by
  unfold kbits at hz
  rw [List.getElem?_map] at hz
  have e : (List.range 10)[m]? = some m := by rw [List.getElem?_range (by omega)]
  rw [e] at hz
  have e2 : V.bl (decide (m = j)) = z := Option.some.inj hz
  rw [← e2, decide_eq_false (by omega)]
  rfl
theorem kword_at {j : Nat} (h : j < 10) : atI (kwords.map V.str) ((j : Nat) : Int) = some (.str (kword j)) := by
  refine atI_nat ?_
  rw [List.getElem?_map]
  have e : kwords[j]? = some (kword j) := k10 (P := fun j => kwords[j]? = some (kword j)) h (by refine ⟨rfl, rfl, rfl, rfl, rfl, rfl, rfl, rfl, rfl, rfl⟩)
  rw [e]
  rfl
end Ts
end
section
/-! Texts by their codes. -/
namespace Ts
open PySem PySem.Spec PyProof.Rows L2

def mkS (l : List Nat) : Str := ⟨l.toArray⟩
theorem mkS_list (l : List Nat) : (mkS l).cps.toList = l := by simp [mkS]
theorem mkS_len (l : List Nat) : (mkS l).length = l.length := by simp [mkS, Str.length]
theorem mkS_cat (a b : List Nat) : mkS a ++ mkS b = mkS (a ++ b) := by
  show Str.mk (a.toArray ++ b.toArray) = Str.mk (a ++ b).toArray
  congr 1
  simp
theorem mkS_inj {a b : List Nat} (h : mkS a = mkS b) : a = b := by
  have := congrArg (fun z : Str => z.cps.toList) h
  simpa [mkS] using this
theorem cut_to (l : List Nat) (k : Nat) : cutS (mkS l) none (some (k : Int)) = mkS (l.take k) := by
  unfold cutS
  rw [HT.sIx_none, HT.sIx_nat, mkS_list, mkS_len, List.drop_zero, Nat.sub_zero]
  congr 2
  by_cases h : k ≤ l.length
  · rw [Nat.min_eq_left h]
  · rw [Nat.min_eq_right (by omega), List.take_of_length_le (Nat.le_refl _), List.take_of_length_le (by omega)]
theorem cut_from (l : List Nat) (k : Nat) : cutS (mkS l) (some (k : Int)) none = mkS (l.drop k) := by
  unfold cutS
  rw [HT.sIx_none, HT.sIx_nat, mkS_list, mkS_len]
  congr 1
  by_cases h : k ≤ l.length
  · rw [Nat.min_eq_left h, List.take_of_length_le (by rw [List.length_drop]; exact Nat.le_refl _)]
  · rw [Nat.min_eq_right (by omega), Nat.sub_self, List.take_zero, List.drop_eq_nil_of_le (by omega)]
theorem ofS (x : Str) : x = mkS x.cps.toList := by simp [mkS]
theorem alpha_list : ("abcdefghijklmnopqrstuvwxyz" : Str).cps.toList = (List.range 26).map (97 + ·) := by decide +kernel
theorem alpha_at {i : Int} (h0 : 0 ≤ i) (h1 : i < 26) : atI ("abcdefghijklmnopqrstuvwxyz" : Str).cps.toList i = some (97 + i.toNat) := by
  rw [alpha_list]
  obtain ⟨k, rfl⟩ := Int.eq_ofNat_of_zero_le h0
  refine atI_nat ?_
  rw [List.getElem?_map, List.getElem?_range (by omega)]
  rfl
theorem alpha_len : ("abcdefghijklmnopqrstuvwxyz" : Str).length ≤ sizeLine := by decide +kernel
def low (l : List Nat) : Prop := ∀ c ∈ l, 97 ≤ c ∧ c ≤ 122
/-- a name: 1 to 12 small letters -/
def nmOk (l : List Nat) : Prop := 1 ≤ l.length ∧ l.length ≤ 12 ∧ low l
/-- the k-th of the names round a base -/
def nmL (b : List Nat) (j k : Nat) : List Nat := b.take j ++ [97 + k % 26] ++ (if k < 26 then [] else [122]) ++ b.drop j
theorem nmL_ok {b : List Nat} {j k : Nat} (hb : b.length ≤ 10) (hl : low b) (hk : k < 42) : nmOk (nmL b j k) := by
  have e : (nmL b j k).length = b.length + 1 + (if k < 26 then 0 else 1) := by
    unfold nmL
    by_cases h : k < 26
    · simp only [h, if_true, List.length_append, List.length_take, List.length_drop, List.length_cons, List.length_nil]
      omega
    · simp only [h, if_false, List.length_append, List.length_take, List.length_drop, List.length_cons, List.length_nil]
      omega
  refine ⟨?_, ?_, fun c hc => ?_⟩
  · rw [e]; omega
  · rw [e]; split <;> omega
  · unfold nmL at hc
    simp only [List.mem_append] at hc
    rcases hc with ((hc | hc) | hc) | hc
    · exact hl c (List.mem_of_mem_take hc)
    · simp at hc; omega
    · by_cases h : k < 26
      · simp [h] at hc
      · simp [h] at hc; omega
    · exact hl c (List.mem_of_mem_drop hc)
theorem nmL_inj {b : List Nat} {j k k' : Nat} (hk : k < 42) (hk' : k' < 42) (h : nmL b j k = nmL b j k') : k = k' := by
  unfold nmL at h
  have h1 := List.append_cancel_right h
  rw [List.append_assoc, List.append_assoc] at h1
  have h2 := List.append_cancel_left h1
  by_cases a : k < 26 <;> by_cases a' : k' < 26 <;> simp [a, a'] at h2 <;> omega
def nmList (b : List Nat) (j : Nat) : List (List Nat) := (List.range 42).map (nmL b j)
theorem nmList_nodup (b : List Nat) (j : Nat) : (nmList b j).Nodup := by
  unfold nmList
  refine List.pairwise_map.mpr (List.Pairwise.imp_of_mem (fun {x y} hx hy hne h => hne (nmL_inj (List.mem_range.mp hx) (List.mem_range.mp hy) h)) List.nodup_range)
theorem slr_imp {X : Cx} {r r' : V → Option Int → Option Int → Hp → VK → Prop} (h : SlR X r) (q : ∀ x lo hi H Q, r' x lo hi H Q → r x lo hi H Q) : SlR X r' := by
  intro pins s σ H x v vl vu lo hi sl Q I r1 r2 r3 r4 w
  exact h pins s σ H x v vl vu lo hi sl Q I r1 r2 r3 r4 (q _ _ _ _ _ w)
/-- texts by their codes: z[:k], z[k:], x + y, z[i] -/
def rTo : V → Option Int → Option Int → Hp → VK → Prop := fun x lo hi H Q => ∃ (l : List Nat) (k : Nat), x = .str (mkS l) ∧ lo = none ∧ hi = some (k : Int) ∧ l.length ≤ 1000000 ∧ Q (.str (mkS (l.take k))) H
def rFrom : V → Option Int → Option Int → Hp → VK → Prop := fun x lo hi H Q => ∃ (l : List Nat) (k : Nat), x = .str (mkS l) ∧ lo = some (k : Int) ∧ hi = none ∧ l.length ≤ 1000000 ∧ Q (.str (mkS (l.drop k))) H
def rAddS : R2 := fun x y H Q => ∃ a b : List Nat, x = .str (mkS a) ∧ y = .str (mkS b) ∧ a.length + b.length ≤ 1000000 ∧ Q (.str (mkS (a ++ b))) H
def rAtS : R2 := fun x y H Q => ∃ (l : List Nat) (i c : Nat), x = .str (mkS l) ∧ y = .int (i : Int) ∧ l.length ≤ 1000000 ∧ l[i]? = some c ∧ Q (.str (mkS [c])) H
section
variable {X : Cx}
theorem mkS_le0 {l : List Nat} (h : l.length ≤ 1000000) : (mkS l).length ≤ sizeLine := by
  rw [mkS_len]
  exact Nat.le_trans h (by decide)
theorem sl_to : SlR X rTo := slr_imp sl_str fun x lo hi H Q h => by
  obtain ⟨l, k, rfl, rfl, rfl, hl, q⟩ := h
  rw [← cut_to] at q
  exact ⟨_, rfl, mkS_le0 hl, q⟩
theorem sl_from : SlR X rFrom := slr_imp sl_str fun x lo hi H Q h => by
  obtain ⟨l, k, rfl, rfl, rfl, hl, q⟩ := h
  rw [← cut_from] at q
  exact ⟨_, rfl, mkS_le0 hl, q⟩
theorem op_addC : OpR X (binaryOp .Add) rAddS := opr_imp op_add_str fun x y H Q h => by
  obtain ⟨a, b, rfl, rfl, hl, q⟩ := h
  rw [← mkS_cat] at q
  exact ⟨_, _, rfl, rfl, by rw [mkS_len, mkS_len]; exact Nat.le_trans hl (by decide), q⟩
theorem ix_C : IxR X rAtS := ixr_imp ix_str fun x y H Q h => by
  obtain ⟨l, i, c, rfl, rfl, hl, hc, q⟩ := h
  exact ⟨_, _, c, rfl, rfl, mkS_le0 hl, atI_nat (by rw [mkS_list]; exact hc), q⟩
theorem pe_strC {x : Str} {j : Nat} {pos : Pos} {l : List Nat} (h : x = mkS l) : PE X (.Constant (.str x) j pos) (tC (.str (mkS l))) := h ▸ pe_str
end
/-- texts of a list of codes -/
def txs (ls : List (List Nat)) : List V := ls.map fun l => V.str (mkS l)
theorem txs_at {ls : List (List Nat)} {i : Int} (h0 : 0 ≤ i) (h1 : i < ls.length) : ∃ l, l ∈ ls ∧ atI (txs ls) i = some (.str (mkS l)) := by
  have hn : i.toNat < ls.length := by omega
  refine ⟨ls[i.toNat], List.getElem_mem hn, ?_⟩
  refine at_of (j := i.toNat) (by omega) ?_
  unfold txs
  rw [List.getElem?_map, List.getElem?_eq_getElem hn]
  rfl
theorem mkS_le {l : List Nat} (h : l.length ≤ 1000000) : (mkS l).length ≤ sizeLine := by
  rw [mkS_len]
  exact Nat.le_trans h (by decide)
theorem mkS2_le {a b : List Nat} (h : a.length + b.length ≤ 1000000) : (mkS a).length + (mkS b).length ≤ sizeLine := by
  rw [mkS_len, mkS_len]
  exact Nat.le_trans h (by decide)
theorem mkS_one (c : Nat) : (⟨#[c]⟩ : Str) = mkS [c] := rfl
theorem str_nil : ("" : Str) = mkS [] := by decide +kernel
theorem str_z : ("z" : Str) = mkS [122] := by decide +kernel
end Ts
namespace Ts
open PySem PySem.Spec PyProof.Rows L2
theorem alphaL {j : Nat} (h : j < 26) : [97, 98, 99, 100, 101, 102, 103, 104, 105, 106, 107, 108, 109, 110, 111, 112, 113, 114, 115, 116, 117, 118, 119, 120, 121, 122][j]? = some (97 + j) := by
  have e : [97, 98, 99, 100, 101, 102, 103, 104, 105, 106, 107, 108, 109, 110, 111, 112, 113, 114, 115, 116, 117, 118, 119, 120, 121, 122] = (List.range 26).map (97 + ·) := by decide
  rw [e, List.getElem?_map, List.getElem?_range h]
  rfl
/-- an object that H does not know may change -/
theorem Same.mut {H H1 : Hp} {D : Addr} {o : HO} (s : Same H H1) (h : H D = none) : Same H (upd H1 D o) := fun b u e => by
  rw [upd_ne (ne_of_none e h)]
  exact s b u e
end Ts
namespace Ts
open PySem PySem.Spec PyProof.Rows L2
theorem SqT.grow {K : PySem.W.Frag} {H : Hp} {D t : Addr} {xs acc acc' : List V} (h : SqT K H t xs) (hD : H D = some (.lst acc)) : SqT K (upd H D (.lst acc')) t xs := by
  rcases h with (h | ⟨o, h⟩) | h
  · exact .inl (.inl (by rw [upd_ne (ne_of h hD (by intro z; cases z))]; exact h))
  · exact .inl (.inr ⟨o, by rw [upd_ne (ne_of h hD (by intro z; cases z))]; exact h⟩)
  · exact .inr h
theorem cutV_len {xs : List V} (lo hi : Nat) : cutV xs (some (lo : Int)) (some (hi : Int)) = (xs.drop lo).take (hi - lo) := by
  unfold cutV
  rw [HT.sIx_nat, HT.sIx_nat]
  by_cases h1 : lo ≤ xs.length
  · rw [Nat.min_eq_left h1]
    by_cases h2 : hi ≤ xs.length
    · rw [Nat.min_eq_left h2]
    · rw [Nat.min_eq_right (show xs.length ≤ hi by omega)]
      rw [List.take_of_length_le (by rw [List.length_drop]; exact Nat.le_refl _), List.take_of_length_le (by rw [List.length_drop]; omega)]
  · rw [Nat.min_eq_right (show xs.length ≤ lo by omega), List.drop_eq_nil_of_le (Nat.le_refl _), List.drop_eq_nil_of_le (by omega), List.take_nil, List.take_nil]
end Ts
namespace Ts
open PySem PySem.Spec PyProof.Rows L2
theorem tyT {K : PySem.W.Frag} {H : Hp} {t : Addr} {xs : List V} (h : SqT K H t xs) : TyX K H (.ref t) (.type "tuple") := by
  rcases h with (h | ⟨o, h⟩) | ⟨o, its, n, h, c, _⟩
  · exact .base (.tup h)
  · exact .fTuple h
  · exact .kTuple h c
theorem take_snoc {α : Type} {l : List α} {i : Nat} {x : α} (h : l[i]? = some x) : l.take (i + 1) = l.take i ++ [x] := by
  obtain ⟨hi, e⟩ := List.getElem?_eq_some_iff.mp h
  rw [List.take_succ_eq_append_getElem hi, e]
theorem inV_txs (n : List Nat) (ls : List (List Nat)) : inV (.str (mkS n)) (txs ls) = decide (n ∈ ls) := by
  unfold inV txs
  rw [List.any_map]
  have e : ∀ l : List Nat, eqV (.str (mkS l)) (.str (mkS n)) = decide (l = n) := fun l => by
    show (mkS l == mkS n) = decide (l = n)
    by_cases h : l = n
    · rw [decide_eq_true h, h]
      exact beq_self_eq_true _
    · rw [decide_eq_false h]
      exact beq_eq_false_iff_ne.mpr fun z => h (mkS_inj z)
  induction ls with
  | nil => rfl
  | cons l r ih =>
    rw [List.any_cons, ih]
    show (eqV (.str (mkS l)) (.str (mkS n)) || decide (n ∈ r)) = _
    rw [e]
    by_cases h : l = n
    · subst h
      simp
    · have h2 : n ≠ l := fun z => h z.symm
      simp [h, h2]
theorem txs_flat (ls : List (List Nat)) : (txs ls).all flatV = true := by
  unfold txs
  rw [List.all_map]
  exact List.all_eq_true.mpr fun _ _ => rfl
theorem eq_str (a b : List Nat) : decide (V.str (mkS a) = V.str (mkS b)) = decide (a = b) := by
  by_cases h : a = b
  · rw [decide_eq_true h, decide_eq_true (by rw [h])]
  · rw [decide_eq_false h, decide_eq_false fun z => h (mkS_inj (V.str.inj z))]
end Ts
end
section
namespace Ts.k11
open PySem PySem.Spec PyProof.Rows L2 Ts
/-! ### promises of the law's own helpers -/
def spMix : Sp := fun vs H Q _ => ∃ c k : Int, vs = [.int c, .int k] ∧ ∀ r : Int, 0 ≤ r → r < 999983 → Q (.int r) H
def spBig : Sp := fun vs H Q _ => ∃ c k : Int, vs = [.int c, .int k] ∧ ∀ (r : Int) (H' : Hp), 0 ≤ r → r ≤ 1000000000000 → Same H H' → Q (.int r) H'
def spOff : Sp := fun vs H Q _ => ∃ c : Int, vs = [.int c] ∧ ∀ (r : Int) (H' : Hp), 0 ≤ r → r ≤ 999 → Same H H' → Q (.int r) H'
/-- the least number not less than p times o by 1000 -/
def slk (p o : Int) : Int := (p * o + 999) / 1000
def spSlack : Sp := fun vs H Q _ => ∃ p o : Int, vs = [.int p, .int o] ∧ -1000000 < o ∧ o < 1000000 ∧ Q (.int (slk p o)) H
def spCellAt (K : PySem.W.Frag) : Sp := fun vs H Q _ => ∃ (l : Addr) (ns : List Int) (j : Nat), vs = [.ref l, .int (j : Int)] ∧ SqL K H l (ns.map V.int) ∧ Q (.int (ns.getD j 0)) H
def spWhole (K : PySem.W.Frag) : Sp := fun vs H Q _ => ∃ i : Int, vs = [.int i] ∧ Q (.bl true) H
def spLaw (K : PySem.W.Frag) : Sp := fun vs H Q _ => ∃ (a : Addr) (ns : List Int), vs = [.ref a] ∧ SqL K H a (ns.map V.int) ∧ ns.length ≤ 63 ∧ ∀ H', Q (.bl true) H'

def okOff (o : Int) : Prop := 0 ≤ o ∧ o ≤ 999
def spCheckOff (C : Addr) : Sp := fun vs H Q E => ∃ o : Int, vs = [.int o] ∧ (okOff o → Q .non H) ∧ (¬ okOff o → E (.ref C) none H)

/-- a letter as a tuple -/
def letV (nm : V) (s b lo hi : Int) : List V := [nm, .int s, .int b, .int lo, .int hi]
def brLo (b lo now o : Int) : Int := lo + (now - b) - slk (now - b) o
def brHi (s hi now o : Int) : Int := hi + (now - s) + slk (now - s) o
def spBrought (K : PySem.W.Frag) (cO cE : Addr) : Sp := fun vs H Q E => ∃ (t : Addr) (nm : V) (s b lo hi now o : Int), vs = [.ref t, .int now, .int o] ∧ SqT K H t (letV nm s b lo hi) ∧
  (¬ okOff o → E (.ref cO) none H) ∧ (okOff o → now < b → E (.ref cE) none H) ∧
  (okOff o → b ≤ now → ∀ u, H u = none → Q (.ref u) (upd H u (.tup [.int (brLo b lo now o), .int (brHi s hi now o)])))
def spLawBrought (K : PySem.W.Frag) : Sp := fun vs H Q _ => ∃ (t : Addr) (nm : V) (s b lo hi now o : Int), vs = [.ref t, .int now, .int o] ∧ SqT K H t (letV nm s b lo hi) ∧ okOff o ∧
  ∀ u, H u = none → Q (.ref u) (upd H u (.tup [.int (brLo b lo now o), .int (brHi s hi now o)]))

def spWord : Sp := fun vs H Q _ => ∃ c n : Int, vs = [.int c, .int n] ∧ 0 ≤ n ∧ n ≤ 1000 ∧ ∀ z : List Nat, (z.length : Int) = n → low z → Q (.str (mkS z)) H
def spNames : Sp := fun vs H Q _ => ∃ c : Int, vs = [.int c] ∧ ∀ (p : Addr) (xs : List (List Nat)) (H' : Hp), xs.length = 42 → xs.Nodup → (∀ z ∈ xs, nmOk z) → Same H H' → H' p = some (.lst (txs xs)) → Q (.ref p) H'

/-- a letter's data -/
structure Let where
  nm : List Nat
  s : Int
  b : Int
  lo : Int
  hi : Int
def Let.vals (x : Let) : List V := letV (.str (mkS x.nm)) x.s x.b x.lo x.hi
structure Let.Ok (x : Let) : Prop where
  nm : nmOk x.nm
  s0 : 0 ≤ x.s
  sb : x.s ≤ x.b
  b1 : x.b ≤ 1000000000000
  l0 : 0 ≤ x.lo
  lh : x.lo ≤ x.hi
  h1 : x.hi ≤ 1000000000000
/-- letters as tuples at addresses -/
def LetsAt (K : PySem.W.Frag) (H : Hp) (as : List Addr) (ls : List Let) : Prop := as.length = ls.length ∧ ∀ (i : Nat) (t : Addr) (x : Let), as[i]? = some t → ls[i]? = some x → SqT K H t x.vals
theorem LetsAt.same {K : PySem.W.Frag} {H H' : Hp} {as : List Addr} {ls : List Let} (h : LetsAt K H as ls) (s : Same H H') : LetsAt K H' as ls := ⟨h.1, fun i t x a b => Ts.Same.seqT s (h.2 i t x a b)⟩
theorem LetsAt.get {K : PySem.W.Frag} {H : Hp} {as : List Addr} {ls : List Let} (h : LetsAt K H as ls) {i : Nat} {v : V} (e : (as.map V.ref)[i]? = some v) : ∃ t x, v = .ref t ∧ as[i]? = some t ∧ ls[i]? = some x ∧ SqT K H t x.vals := by
  rw [List.getElem?_map] at e
  cases ea : as[i]? with
  | none => rw [ea] at e; cases e
  | some t =>
    rw [ea] at e
    have hi : i < ls.length := by rw [← h.1]; exact (List.getElem?_eq_some_iff.mp ea).1
    exact ⟨t, ls[i], (Option.some.inj e).symm, rfl, List.getElem?_eq_getElem hi, h.2 i t _ ea (List.getElem?_eq_getElem hi)⟩
theorem LetsAt.nil {K : PySem.W.Frag} {H : Hp} : LetsAt K H [] [] := ⟨rfl, fun i t x h _ => by simp at h⟩
theorem LetsAt.snoc {K : PySem.W.Frag} {H : Hp} {as : List Addr} {ls : List Let} {t : Addr} {x : Let} (h : LetsAt K H as ls) (hx : SqT K H t x.vals) : LetsAt K H (as ++ [t]) (ls ++ [x]) := by
  refine ⟨by rw [List.length_append, List.length_append, h.1]; rfl, fun i u y a b => ?_⟩
  by_cases hi : i < as.length
  · rw [List.getElem?_append_left hi] at a
    rw [List.getElem?_append_left (by rw [← h.1]; exact hi)] at b
    exact h.2 i u y a b
  · have hl := (List.getElem?_eq_some_iff.mp a).1
    rw [List.length_append] at hl
    have e : i = as.length := by simp at hl; omega
    subst e
    rw [List.getElem?_append_right (Nat.le_refl _), Nat.sub_self] at a
    rw [List.getElem?_append_right (by rw [h.1]; exact Nat.le_refl _), h.1, Nat.sub_self] at b
    cases a
    cases b
    exact hx
theorem LetsAt.grow {K : PySem.W.Frag} {H : Hp} {D : Addr} {acc acc' : List V} {as : List Addr} {ls : List Let} (h : LetsAt K H as ls) (hD : H D = some (.lst acc)) : LetsAt K (upd H D (.lst acc')) as ls := ⟨h.1, fun i t x a b => Ts.SqT.grow (h.2 i t x a b) hD⟩
def spLetter (K : PySem.W.Frag) : Sp := fun vs H Q _ => ∃ (c m : Int) (p : Addr) (xs : List (List Nat)), vs = [.int c, .ref p, .int m] ∧ SqL K H p (txs xs) ∧ xs.length = 42 ∧ (∀ z ∈ xs, nmOk z) ∧ 1 ≤ m ∧ m ≤ 42 ∧
  ∀ (x : Let) (t : Addr) (H' : Hp), x.Ok → x.nm ∈ xs → Same H H' → H' t = some (.tup x.vals) → Q (.ref t) H'
def spLetters (K : PySem.W.Frag) : Sp := fun vs H Q _ => ∃ (l p : Addr) (ns : List Int) (xs : List (List Nat)), vs = [.ref l, .ref p] ∧ SqL K H l (ns.map V.int) ∧ ns.length ≤ 63 ∧ SqL K H p (txs xs) ∧ xs.length = 42 ∧ (∀ z ∈ xs, nmOk z) ∧
  ∀ (as : List Addr) (ls : List Let) (q : Addr) (H' : Hp), ls.length ≤ 200 → (∀ x ∈ ls, x.Ok) → Same H H' → LetsAt K H' as ls → H' q = some (.lst (as.map V.ref)) → H q = none → Q (.ref q) H'
/-- no answer later than now -/
def spNow (K : PySem.W.Frag) : Sp := fun vs H Q _ => ∃ (l p : Addr) (ns : List Int) (as : List Addr) (ls : List Let), vs = [.ref l, .ref p] ∧ SqL K H l (ns.map V.int) ∧ SqL K H p (as.map V.ref) ∧ LetsAt K H as ls ∧ (∀ x ∈ ls, x.Ok) ∧
  ∀ (now : Int) (H' : Hp), 0 ≤ now → now ≤ 1000000010000 → (∀ x ∈ ls, x.b ≤ now) → Same H H' → Q (.int now) H'

/-! ### the clocks of letters -/
abbrev St2 := Int × Int
def brSt (now o : Int) (x : Let) : St2 := (brLo x.b x.lo now o, brHi x.s x.hi now o)
theorem slk_ge0 {p o : Int} (hp : 0 ≤ p) (h : okOff o) : 0 ≤ slk p o := by
  have h1 : 0 ≤ p * o := Int.mul_nonneg hp h.1
  unfold slk
  omega
theorem slk_le {p o : Int} (hp : 0 ≤ p) (h : okOff o) : slk p o ≤ p := by
  have h1 : p * o ≤ p * 999 := Int.mul_le_mul_of_nonneg_left h.2 hp
  unfold slk
  omega
theorem brSt_le {now o : Int} {x : Let} (hx : x.Ok) (h : okOff o) (hb : x.b ≤ now) : (brSt now o x).1 ≤ (brSt now o x).2 := by
  have h1 := slk_le (p := now - x.b) (by omega) h
  have h0 := slk_ge0 (p := now - x.b) (by omega) h
  have h2 := slk_ge0 (p := now - x.s) (by have := hx.sb; omega) h
  have := hx.sb
  have := hx.lh
  show brLo x.b x.lo now o ≤ brHi x.s x.hi now o
  unfold brLo brHi
  omega
def addN (acc : List (List Nat)) (n : List Nat) : List (List Nat) := if n ∈ acc then acc else acc ++ [n]
def namesOf (ls : List Let) : List (List Nat) := ls.foldl (fun acc x => addN acc x.nm) []
theorem namesOf_snoc (ls : List Let) (x : Let) : namesOf (ls ++ [x]) = addN (namesOf ls) x.nm := by
  unfold namesOf
  rw [List.foldl_append]
  rfl
theorem addN_mem {acc : List (List Nat)} {n m : List Nat} : m ∈ addN acc n ↔ m ∈ acc ∨ m = n := by
  unfold addN
  split
  · rename_i h
    exact ⟨.inl, fun z => z.elim id fun e => e ▸ h⟩
  · rw [List.mem_append, List.mem_singleton]
theorem addN_nodup {acc : List (List Nat)} {n : List Nat} (h : acc.Nodup) : (addN acc n).Nodup := by
  unfold addN
  split
  · exact h
  · rename_i hn
    exact nd_snoc h hn
theorem fold_mem {m : List Nat} : ∀ (ls : List Let) (acc : List (List Nat)), m ∈ ls.foldl (fun acc x => addN acc x.nm) acc ↔ m ∈ acc ∨ ∃ x ∈ ls, x.nm = m
  | [], acc => by simp
  | x :: r, acc => by
    rw [List.foldl_cons, fold_mem r, addN_mem]
    constructor
    · rintro ((h | h) | ⟨y, hy, e⟩)
      · exact .inl h
      · exact .inr ⟨x, List.mem_cons_self, h.symm⟩
      · exact .inr ⟨y, List.mem_cons_of_mem _ hy, e⟩
    · rintro (h | ⟨y, hy, e⟩)
      · exact .inl (.inl h)
      · rcases List.mem_cons.mp hy with rfl | hy
        · exact .inl (.inr e.symm)
        · exact .inr ⟨y, hy, e⟩
theorem fold_nodup : ∀ (ls : List Let) (acc : List (List Nat)), acc.Nodup → (ls.foldl (fun acc x => addN acc x.nm) acc).Nodup
  | [], _, h => h
  | x :: r, acc, h => fold_nodup r _ (addN_nodup h)
theorem namesOf_mem {ls : List Let} {m : List Nat} : m ∈ namesOf ls ↔ ∃ x ∈ ls, x.nm = m := by
  unfold namesOf
  rw [fold_mem]
  simp
theorem namesOf_nodup (ls : List Let) : (namesOf ls).Nodup := fold_nodup ls [] List.nodup_nil
theorem namesOf_len (ls : List Let) : (namesOf ls).length ≤ ls.length := by
  have h : ∀ (ls : List Let) (acc : List (List Nat)), (ls.foldl (fun acc x => addN acc x.nm) acc).length ≤ acc.length + ls.length := by
    intro ls
    induction ls with
    | nil => intro acc; simp
    | cons x r ih =>
      intro acc
      rw [List.foldl_cons]
      refine Nat.le_trans (ih _) ?_
      rw [List.length_cons]
      unfold addN
      split
      · omega
      · rw [List.length_append]; simp; omega
  have z := h ls []
  rw [List.length_nil, Nat.zero_add] at z
  exact z
def stsOf (now o : Int) (n : List Nat) (ls : List Let) : List St2 := (ls.filter fun x => decide (x.nm = n)).map (brSt now o)
theorem stsOf_eq (now o : Int) {n : List Nat} (ls : List Let) {x : Let} (h : x.nm = n) : stsOf now o n (ls ++ [x]) = stsOf now o n ls ++ [brSt now o x] := by
  unfold stsOf
  rw [List.filter_append, List.map_append]
  simp [h]
theorem stsOf_ne (now o : Int) {n : List Nat} (ls : List Let) {x : Let} (h : x.nm ≠ n) : stsOf now o n (ls ++ [x]) = stsOf now o n ls := by
  unfold stsOf
  rw [List.filter_append]
  simp [h]
theorem stsOf_nil (now o : Int) {n : List Nat} {ls : List Let} (h : n ∉ namesOf ls) : stsOf now o n ls = [] := by
  unfold stsOf
  rw [List.map_eq_nil_iff, List.filter_eq_nil_iff]
  intro x hx
  simpa using fun e => h (namesOf_mem.mpr ⟨x, hx, e⟩)
theorem stsOf_some (now o : Int) {n : List Nat} {ls : List Let} (h : n ∈ namesOf ls) : stsOf now o n ls ≠ [] := by
  obtain ⟨x, hx, e⟩ := namesOf_mem.mp h
  unfold stsOf
  rw [Ne, List.map_eq_nil_iff, List.filter_eq_nil_iff]
  intro z
  exact absurd e (by simpa using z x hx)
def loOf : List St2 → Int
  | [] => 0
  | s :: r => r.foldl (fun m t => if t.1 > m then t.1 else m) s.1
def hiOf : List St2 → Int
  | [] => 0
  | s :: r => r.foldl (fun m t => if t.2 < m then t.2 else m) s.2
theorem loOf_snoc {l : List St2} (h : l ≠ []) (t : St2) : loOf (l ++ [t]) = if t.1 > loOf l then t.1 else loOf l := by
  cases l with
  | nil => exact absurd rfl h
  | cons s r =>
    show (r ++ [t]).foldl _ _ = _
    rw [List.foldl_append]
    rfl
theorem hiOf_snoc {l : List St2} (h : l ≠ []) (t : St2) : hiOf (l ++ [t]) = if t.2 < hiOf l then t.2 else hiOf l := by
  cases l with
  | nil => exact absurd rfl h
  | cons s r =>
    show (r ++ [t]).foldl _ _ = _
    rw [List.foldl_append]
    rfl
theorem fmax_spec : ∀ (r : List St2) (m : Int), m ≤ r.foldl (fun m t => if t.1 > m then t.1 else m) m ∧ (∀ t ∈ r, t.1 ≤ r.foldl (fun m t => if t.1 > m then t.1 else m) m)
  | [], m => ⟨Int.le_refl _, fun _ h => nomatch h⟩
  | s :: r, m => by
    obtain ⟨h1, h2⟩ := fmax_spec r (if s.1 > m then s.1 else m)
    rw [List.foldl_cons]
    refine ⟨?_, fun t ht => ?_⟩
    · refine Int.le_trans ?_ h1
      split <;> omega
    · rcases List.mem_cons.mp ht with rfl | ht
      · refine Int.le_trans ?_ h1
        split <;> omega
      · exact h2 t ht
theorem fmin_spec : ∀ (r : List St2) (m : Int), r.foldl (fun m t => if t.2 < m then t.2 else m) m ≤ m ∧ (∀ t ∈ r, r.foldl (fun m t => if t.2 < m then t.2 else m) m ≤ t.2)
  | [], m => ⟨Int.le_refl _, fun _ h => nomatch h⟩
  | s :: r, m => by
    obtain ⟨h1, h2⟩ := fmin_spec r (if s.2 < m then s.2 else m)
    rw [List.foldl_cons]
    refine ⟨?_, fun t ht => ?_⟩
    · refine Int.le_trans h1 ?_
      split <;> omega
    · rcases List.mem_cons.mp ht with rfl | ht
      · refine Int.le_trans h1 ?_
        split <;> omega
      · exact h2 t ht
theorem fmax_mem : ∀ (r : List St2) (m : Int), r.foldl (fun m t => if t.1 > m then t.1 else m) m = m ∨ ∃ t ∈ r, t.1 = r.foldl (fun m t => if t.1 > m then t.1 else m) m
  | [], m => .inl rfl
  | s :: r, m => by
    rw [List.foldl_cons]
    rcases fmax_mem r (if s.1 > m then s.1 else m) with h | ⟨t, ht, e⟩
    · rw [h]
      split
      · exact .inr ⟨s, List.mem_cons_self, rfl⟩
      · exact .inl rfl
    · exact .inr ⟨t, List.mem_cons_of_mem _ ht, e⟩
theorem fmin_mem : ∀ (r : List St2) (m : Int), r.foldl (fun m t => if t.2 < m then t.2 else m) m = m ∨ ∃ t ∈ r, t.2 = r.foldl (fun m t => if t.2 < m then t.2 else m) m
  | [], m => .inl rfl
  | s :: r, m => by
    rw [List.foldl_cons]
    rcases fmin_mem r (if s.2 < m then s.2 else m) with h | ⟨t, ht, e⟩
    · rw [h]
      split
      · exact .inr ⟨s, List.mem_cons_self, rfl⟩
      · exact .inl rfl
    · exact .inr ⟨t, List.mem_cons_of_mem _ ht, e⟩
/-- the greatest low, the least high, by what they are -/
theorem loOf_is {l : List St2} {m : Int} (h1 : m ∈ l.map (·.1)) (h2 : ∀ y ∈ l.map (·.1), y ≤ m) : m = loOf l := by
  cases l with
  | nil => cases h1
  | cons s r =>
    have g := fmax_spec r s.1
    have k := fmax_mem r s.1
    have up : m ≤ loOf (s :: r) := by
      obtain ⟨t, ht, e⟩ := List.mem_map.mp h1
      rcases List.mem_cons.mp ht with rfl | ht
      · exact e ▸ g.1
      · exact e ▸ g.2 t ht
    have dn : loOf (s :: r) ≤ m := by
      refine h2 _ ?_
      rcases k with k | ⟨t, ht, e⟩
      · exact List.mem_map.mpr ⟨s, List.mem_cons_self, k.symm⟩
      · exact List.mem_map.mpr ⟨t, List.mem_cons_of_mem _ ht, e⟩
    omega
theorem hiOf_is {l : List St2} {m : Int} (h1 : m ∈ l.map (·.2)) (h2 : ∀ y ∈ l.map (·.2), m ≤ y) : m = hiOf l := by
  cases l with
  | nil => cases h1
  | cons s r =>
    have g := fmin_spec r s.2
    have k := fmin_mem r s.2
    have up : hiOf (s :: r) ≤ m := by
      obtain ⟨t, ht, e⟩ := List.mem_map.mp h1
      rcases List.mem_cons.mp ht with rfl | ht
      · exact e ▸ g.1
      · exact e ▸ g.2 t ht
    have dn : m ≤ hiOf (s :: r) := by
      refine h2 _ ?_
      rcases k with k | ⟨t, ht, e⟩
      · exact List.mem_map.mpr ⟨s, List.mem_cons_self, k.symm⟩
      · exact List.mem_map.mpr ⟨t, List.mem_cons_of_mem _ ht, e⟩
    omega
def comb (l : List St2) : Option St2 := if loOf l ≤ hiOf l then some (loOf l, hiOf l) else none
def joinSt (o : Option St2) (t : St2) : Option St2 := match o with
  | none => none
  | some k => if (if t.1 > k.1 then t.1 else k.1) > (if t.2 < k.2 then t.2 else k.2) then none else some ((if t.1 > k.1 then t.1 else k.1), (if t.2 < k.2 then t.2 else k.2))
theorem comb_one {t : St2} (h : t.1 ≤ t.2) : comb [t] = some t := if_pos h
theorem comb_snoc {l : List St2} (h : l ≠ []) (t : St2) : comb (l ++ [t]) = joinSt (comb l) t := by
  unfold comb
  rw [loOf_snoc h, hiOf_snoc h]
  by_cases c : loOf l ≤ hiOf l
  · rw [if_pos c]
    show _ = if _ then _ else _
    by_cases d : (if t.1 > loOf l then t.1 else loOf l) ≤ (if t.2 < hiOf l then t.2 else hiOf l)
    · rw [if_pos d, if_neg (Int.not_lt.mpr d)]
    · rw [if_neg d, if_pos (Int.not_le.mp d)]
  · rw [if_neg c]
    refine if_neg fun d => c ?_
    have h1 : loOf l ≤ (if t.1 > loOf l then t.1 else loOf l) := by split <;> omega
    have h2 : (if t.2 < hiOf l then t.2 else hiOf l) ≤ hiOf l := by split <;> omega
    omega
abbrev Clk := List Nat × Option St2
def clkOf (now o : Int) (ls : List Let) (n : List Nat) : Option St2 := comb (stsOf now o n ls)
def gath (now o : Int) (ls : List Let) : List Clk := (namesOf ls).map fun n => (n, clkOf now o ls n)
/-- a clock's stretch as a value -/
def ClV (K : PySem.W.Frag) (H : Hp) (v : V) (o : Option St2) : Prop := match o with
  | none => v = .non
  | some t => ∃ b : Addr, v = .ref b ∧ SqT K H b [.int t.1, .int t.2]
theorem ClV.same {K : PySem.W.Frag} {H H' : Hp} {v : V} {o : Option St2} (h : ClV K H v o) (s : Same H H') : ClV K H' v o := by
  cases o with
  | none => exact h
  | some t => exact match h with | ⟨b, e, q⟩ => ⟨b, e, Ts.Same.seqT s q⟩
theorem SqT.off {K : PySem.W.Frag} {H : Hp} {d t : Addr} {xs : List V} {u o : HO} (h : SqT K H t xs) (hd : H d = some u) (n1 : ∀ ys, u ≠ .tup ys) (n2 : ∀ ob ys, u ≠ .frz ob (.tup ys)) : SqT K (upd H d o) t xs := by
  rcases h with (h | ⟨ob, h⟩) | h
  · exact .inl (.inl (by rw [upd_ne (ne_of h hd (fun z => n1 _ z.symm))]; exact h))
  · exact .inl (.inr ⟨ob, by rw [upd_ne (ne_of h hd (fun z => n2 _ _ z.symm))]; exact h⟩)
  · exact .inr h
theorem ClV.off {K : PySem.W.Frag} {H : Hp} {d : Addr} {v : V} {c : Option St2} {u o : HO} (h : ClV K H v c) (hd : H d = some u) (n1 : ∀ ys, u ≠ .tup ys) (n2 : ∀ ob ys, u ≠ .frz ob (.tup ys)) : ClV K (upd H d o) v c := by
  cases c with
  | none => exact h
  | some t => exact match h with | ⟨b, e, q⟩ => ⟨b, e, SqT.off q hd n1 n2⟩
def ClAt (K : PySem.W.Frag) (H : Hp) (v : V) (c : Clk) : Prop := ∃ (t : Addr) (w : V), v = .ref t ∧ SqT K H t [.str (mkS c.1), w] ∧ ClV K H w c.2
theorem ClAt.same {K : PySem.W.Frag} {H H' : Hp} {v : V} {c : Clk} (h : ClAt K H v c) (s : Same H H') : ClAt K H' v c := match h with
  | ⟨t, w, e, q, k⟩ => ⟨t, w, e, Ts.Same.seqT s q, k.same s⟩
theorem ClAt.off {K : PySem.W.Frag} {H : Hp} {d : Addr} {v : V} {c : Clk} {u o : HO} (h : ClAt K H v c) (hd : H d = some u) (n1 : ∀ ys, u ≠ .tup ys) (n2 : ∀ ob ys, u ≠ .frz ob (.tup ys)) : ClAt K (upd H d o) v c := match h with
  | ⟨t, w, e, q, k⟩ => ⟨t, w, e, SqT.off q hd n1 n2, k.off hd n1 n2⟩
def ClksAt (K : PySem.W.Frag) (H : Hp) (xs : List V) (cs : List Clk) : Prop := xs.length = cs.length ∧ ∀ (i : Nat) (v : V) (c : Clk), xs[i]? = some v → cs[i]? = some c → ClAt K H v c
theorem ClksAt.same {K : PySem.W.Frag} {H H' : Hp} {xs : List V} {cs : List Clk} (h : ClksAt K H xs cs) (s : Same H H') : ClksAt K H' xs cs := ⟨h.1, fun i v c a b => (h.2 i v c a b).same s⟩
theorem ClksAt.off {K : PySem.W.Frag} {H : Hp} {d : Addr} {xs : List V} {cs : List Clk} {u o : HO} (h : ClksAt K H xs cs) (hd : H d = some u) (n1 : ∀ ys, u ≠ .tup ys) (n2 : ∀ ob ys, u ≠ .frz ob (.tup ys)) : ClksAt K (upd H d o) xs cs := ⟨h.1, fun i v c a b => (h.2 i v c a b).off hd n1 n2⟩
theorem ClksAt.get {K : PySem.W.Frag} {H : Hp} {xs : List V} {cs : List Clk} (h : ClksAt K H xs cs) {i : Nat} {v : V} (e : xs[i]? = some v) : ∃ c, cs[i]? = some c ∧ ClAt K H v c := by
  have hi : i < cs.length := by rw [← h.1]; exact (List.getElem?_eq_some_iff.mp e).1
  exact ⟨cs[i], List.getElem?_eq_getElem hi, h.2 i v _ e (List.getElem?_eq_getElem hi)⟩
theorem ClksAt.nil {K : PySem.W.Frag} {H : Hp} : ClksAt K H [] [] := ⟨rfl, fun i v c h _ => by simp at h⟩
theorem ClksAt.snoc {K : PySem.W.Frag} {H : Hp} {xs : List V} {cs : List Clk} {v : V} {c : Clk} (h : ClksAt K H xs cs) (hc : ClAt K H v c) : ClksAt K H (xs ++ [v]) (cs ++ [c]) := by
  refine ⟨by rw [List.length_append, List.length_append, h.1]; rfl, fun i u y a b => ?_⟩
  by_cases hi : i < xs.length
  · rw [List.getElem?_append_left hi] at a
    rw [List.getElem?_append_left (by rw [← h.1]; exact hi)] at b
    exact h.2 i u y a b
  · have hl := (List.getElem?_eq_some_iff.mp a).1
    rw [List.length_append] at hl
    have e : i = xs.length := by simp at hl; omega
    subst e
    rw [List.getElem?_append_right (Nat.le_refl _), Nat.sub_self] at a
    rw [List.getElem?_append_right (by rw [h.1]; exact Nat.le_refl _), h.1, Nat.sub_self] at b
    cases a
    cases b
    exact hc
/-- a clock's data -/
def stD : Option St2 → PyData
  | none => .none
  | some t => .tuple [.int t.1, .int t.2]
def clkD (c : Clk) : PyData := .tuple [.str (mkS c.1), stD c.2]
def clksD (cs : List Clk) : PyData := .list (cs.map clkD)
theorem ClV.dp {K : PySem.W.Frag} {H : Hp} {v : V} {o : Option St2} (h : ClV K H v o) : Dp K H v (stD o) := by
  cases o with
  | none => cases (show v = .non from h); exact .non
  | some t =>
    obtain ⟨b, rfl, q⟩ := h
    exact .tup q (.cons (.int _) (.cons (.int _) .nil))
theorem ClAt.dp {K : PySem.W.Frag} {H : Hp} {v : V} {c : Clk} (h : ClAt K H v c) : Dp K H v (clkD c) := by
  obtain ⟨t, w, rfl, q, k⟩ := h
  exact .tup q (.cons (.str _) (.cons k.dp .nil))
theorem dps_of {K : PySem.W.Frag} {H : Hp} {α : Type} {f : α → PyData} : ∀ {xs : List V} {cs : List α}, xs.length = cs.length → (∀ (i : Nat) (v : V) (c : α), xs[i]? = some v → cs[i]? = some c → Dp K H v (f c)) → DpAll K H xs (cs.map f)
  | [], [], _, _ => .nil
  | [], _ :: _, h, _ => by cases h
  | _ :: _, [], h, _ => by cases h
  | v :: xs, c :: cs, h, g => .cons (g 0 v c rfl rfl) (dps_of (Nat.succ.inj h) fun i v' c' a b => g (i + 1) v' c' a b)
theorem ClksAt.dp {K : PySem.W.Frag} {H : Hp} {p : Addr} {xs : List V} {cs : List Clk} (h : ClksAt K H xs cs) (hp : SqL K H p xs) : Dp K H (.ref p) (clksD cs) :=
  .lst hp (dps_of h.1 fun i v c a b => (h.2 i v c a b).dp)
def letD (x : Let) : PyData := .tuple [.str (mkS x.nm), .int x.s, .int x.b, .int x.lo, .int x.hi]
theorem LetsAt.dp {K : PySem.W.Frag} {H : Hp} {p : Addr} {as : List Addr} {ls : List Let} (h : LetsAt K H as ls) (hp : SqL K H p (as.map V.ref)) : Dp K H (.ref p) (.list (ls.map letD)) := by
  refine .lst hp (dps_of (by rw [List.length_map, h.1]) fun i v c a b => ?_)
  obtain ⟨t, x, rfl, _, hx, hT⟩ := h.get a
  rw [hx] at b
  cases b
  exact .tup hT (.cons (.str _) (.cons (.int _) (.cons (.int _) (.cons (.int _) (.cons (.int _) .nil)))))
/-! ### such data may be compared -/
theorem strOk_nm {l : List Nat} (h : low l) : PyData.strOk (mkS l) = true := by
  unfold PyData.strOk mkS
  rw [Array.all_eq_true]
  intro i hi
  have hm : l[i]'(by simpa using hi) ∈ l := List.getElem_mem _
  have := h _ hm
  simp only [List.getElem_toArray, decide_eq_true_eq]
  omega
def Shp (n : Nat) (d : PyData) : Prop := d.canLay0 = true ∧ d.depth ≤ n
theorem Shp.ok {n : Nat} {d : PyData} (h : Shp n d) (hn : n ≤ 64) : SeqAt.shaped d = true := by
  unfold SeqAt.shaped
  rw [h.1, decide_eq_true (Nat.le_trans h.2 hn)]
  rfl
theorem Shp.up {n m : Nat} {d : PyData} (h : Shp n d) (hn : n ≤ m) : Shp m d := ⟨h.1, Nat.le_trans h.2 hn⟩
theorem shp_all {n : Nat} : ∀ {ds : List PyData}, (∀ d ∈ ds, Shp n d) → PyData.canLayAll0 ds = true ∧ PyData.depthAll ds ≤ n
  | [], _ => ⟨rfl, Nat.zero_le _⟩
  | d :: ds, h => by
    obtain ⟨h1, h2⟩ := shp_all fun d hd => h d (List.mem_cons_of_mem _ hd)
    obtain ⟨g1, g2⟩ := h d List.mem_cons_self
    refine ⟨?_, Nat.max_le.mpr ⟨g2, h2⟩⟩
    show (PyData.canLay0 d && PyData.canLayAll0 ds) = true
    rw [g1, h1]
    rfl
theorem shp_list {n : Nat} {ds : List PyData} (h : ∀ d ∈ ds, Shp n d) : Shp (n + 1) (.list ds) := ⟨(shp_all h).1, Nat.succ_le_succ (shp_all h).2⟩
theorem shp_tup {n : Nat} {ds : List PyData} (h : ∀ d ∈ ds, Shp n d) : Shp (n + 1) (.tuple ds) := ⟨(shp_all h).1, Nat.succ_le_succ (shp_all h).2⟩
theorem shp_int {n : Nat} (i : Int) : Shp n (.int i) := ⟨rfl, Nat.zero_le _⟩
theorem shp_str {n : Nat} {l : List Nat} (h : low l) : Shp n (.str (mkS l)) := ⟨strOk_nm h, Nat.zero_le _⟩
theorem shp_st (o : Option St2) : Shp 1 (stD o) := by
  cases o with
  | none => exact ⟨rfl, Nat.zero_le _⟩
  | some t => exact ⟨rfl, Nat.le_refl _⟩
theorem shp_clk {c : Clk} (h : low c.1) : Shp 2 (clkD c) := by
  refine shp_tup fun d hd => ?_
  rcases List.mem_cons.mp hd with rfl | hd
  · exact shp_str h
  · rw [List.mem_singleton] at hd
    exact hd ▸ shp_st _
theorem shp_clks {cs : List Clk} (h : ∀ c ∈ cs, low c.1) : SeqAt.shaped (clksD cs) = true := Shp.ok (n := 3) (shp_list fun d hd => by
  obtain ⟨c, hc, rfl⟩ := List.mem_map.mp hd
  exact shp_clk (h c hc)) (by decide)
theorem shp_let {x : Let} (h : low x.nm) : Shp 1 (letD x) := by
  refine shp_tup fun d hd => ?_
  rcases List.mem_cons.mp hd with rfl | hd
  · exact shp_str h
  · simp only [List.mem_cons, List.not_mem_nil, or_false] at hd
    rcases hd with rfl | rfl | rfl | rfl <;> exact shp_int _
theorem shp_lets {ls : List Let} (h : ∀ x ∈ ls, low x.nm) : SeqAt.shaped (.list (ls.map letD)) = true := Shp.ok (n := 2) (shp_list fun d hd => by
  obtain ⟨c, hc, rfl⟩ := List.mem_map.mp hd
  exact shp_let (h c hc)) (by decide)
theorem eqv_self {d : PyData} (h : SeqAt.shaped d = true) : PyData.eqv d d = true := SeqAt.eqv_refl d (SeqAt.canLay_of_shaped h)
theorem gath_low {now o : Int} {ls : List Let} (h : ∀ x ∈ ls, x.Ok) : ∀ c ∈ gath now o ls, low c.1 := fun c hc => by
  obtain ⟨n, hn, rfl⟩ := List.mem_map.mp hc
  obtain ⟨x, hx, e⟩ := namesOf_mem.mp hn
  exact e ▸ (h x hx).nm.2.2

/-! ### letters written -/
def numS (i : Int) : Str := Str.ofString (toString i)
theorem str_assoc (a b c : Str) : a ++ b ++ c = a ++ (b ++ c) := by
  show Str.mk _ = Str.mk _
  congr 1
  exact Array.append_assoc ..
theorem str_len (a b : Str) : (a ++ b).length = a.length + b.length := Array.size_append ..
theorem numS_len {i : Int} (h0 : 0 ≤ i) (h1 : i ≤ 1000000000000) : (numS i).length ≤ 13 := toString_length_le h0 (by decide) (by omega)
theorem log_small {i : Int} (h0 : 0 ≤ i) (h1 : i ≤ 1000000000000) : i.natAbs.log2 < 1920 := by
  by_cases z : i.natAbs = 0
  · rw [z]; decide
  · exact Nat.lt_trans ((Nat.log2_lt z (k := 40)).mpr (by omega)) (by decide)
def catS (l : List Str) : Str := l.foldl (· ++ ·) Str.empty
theorem catS_snoc (l : List Str) (x : Str) : catS (l ++ [x]) = catS l ++ x := by
  unfold catS
  rw [List.foldl_append]
  rfl
theorem join_nil (l : List Str) : Txt.join ("" : Str) l = catS l := by
  have h : ∀ (r : List Str) (a : Str), (⟨r.foldl (fun acc p => acc ++ ("" : Str).cps ++ p.cps) a.cps⟩ : Str) = r.foldl (· ++ ·) a := by
    intro r
    induction r with
    | nil => intro a; rfl
    | cons x r ih =>
      intro a
      rw [List.foldl_cons, List.foldl_cons]
      have e : a.cps ++ ("" : Str).cps ++ x.cps = (a ++ x).cps := by
        have e0 : ("" : Str).cps = #[] := by decide +kernel
        rw [e0, Array.append_empty]
        rfl
      rw [e]
      exact ih _
  cases l with
  | nil => rfl
  | cons x r =>
    show (⟨r.foldl (fun acc p => acc ++ ("" : Str).cps ++ p.cps) x.cps⟩ : Str) = r.foldl (· ++ ·) (Str.empty ++ x)
    rw [h]
    congr 1
    show x = Str.mk (#[] ++ x.cps)
    rw [Array.empty_append]
def row0 (x : Let) : Str := Str.empty ++ mkS x.nm ++ " sent " ++ numS x.s ++ " back " ++ numS x.b ++ " swears " ++ numS x.lo ++ " to " ++ numS x.hi
def row1 (x : Let) : Str := row0 x ++ "\n"
theorem len_sent : (" sent " : Str).length = 6 := by decide +kernel
theorem len_back : (" back " : Str).length = 6 := by decide +kernel
theorem len_swears : (" swears " : Str).length = 8 := by decide +kernel
theorem len_to : (" to " : Str).length = 4 := by decide +kernel
theorem len_lf : ("\n" : Str).length = 1 := by decide +kernel
theorem len_0 : Str.empty.length = 0 := rfl
theorem row1_len {x : Let} (h : x.Ok) : (row1 x).length ≤ 100 := by
  have h1 := h.nm.2.1
  have := h.s0; have := h.sb; have := h.b1; have := h.l0; have := h.lh; have := h.h1
  have a1 := numS_len (i := x.s) (by omega) (by omega)
  have a2 := numS_len (i := x.b) (by omega) (by omega)
  have a3 := numS_len (i := x.lo) (by omega) (by omega)
  have a4 := numS_len (i := x.hi) (by omega) (by omega)
  unfold row1 row0
  simp only [str_len, len_sent, len_back, len_swears, len_to, len_lf, len_0, mkS_len]
  omega
theorem catS_len {ls : List Let} (h : ∀ x ∈ ls, x.Ok) : (catS (ls.map row1)).length ≤ 100 * ls.length := by
  have g : ∀ (l : List Let) (a : Str), (∀ x ∈ l, x.Ok) → ((l.map row1).foldl (· ++ ·) a).length ≤ a.length + 100 * l.length := by
    intro l
    induction l with
    | nil => intro a _; exact Nat.le_refl _
    | cons x r ih =>
      intro a ho
      rw [List.map_cons, List.foldl_cons]
      refine Nat.le_trans (ih _ fun y hy => ho y (List.mem_cons_of_mem _ hy)) ?_
      have := row1_len (ho x List.mem_cons_self)
      rw [str_len, List.length_cons]
      omega
  have z := g ls Str.empty h
  rw [len_0, Nat.zero_add] at z
  exact z
theorem sum_len {ls : List Let} (h : ∀ x ∈ ls, x.Ok) : ((ls.map row1).map (·.length)).sum ≤ 100 * ls.length := by
  induction ls with
  | nil => exact Nat.le_refl _
  | cons x r ih =>
    have := row1_len (h x List.mem_cons_self)
    have := ih fun y hy => h y (List.mem_cons_of_mem _ hy)
    simp only [List.map_cons, List.sum_cons, List.length_cons]
    omega
theorem line_of {n : Nat} (h : n ≤ 100000) : n ≤ sizeLine := Nat.le_trans h (by decide)
def spRowOf (K : PySem.W.Frag) : Sp := fun vs H Q _ => ∃ (t : Addr) (x : Let), vs = [.ref t] ∧ SqT K H t x.vals ∧ x.Ok ∧ Q (.str (row1 x)) H
def spWritten (K : PySem.W.Frag) : Sp := fun vs H Q _ => ∃ (p : Addr) (as : List Addr) (ls : List Let), vs = [.ref p] ∧ SqL K H p (as.map V.ref) ∧ LetsAt K H as ls ∧ (∀ x ∈ ls, x.Ok) ∧ ls.length ≤ 200 ∧
  ∀ H', Same H H' → Q (.str (catS (ls.map row1))) H'

/-! ### the text by places -/
def top (i : Nat) : Stmt := PySem.Challenge.pw_timestretch_k11_written.main.body.getD i (.Pass ⟨0, 0, 0, 0⟩)
abbrev s_written : Stmt := top 1
abbrev s_row_of : Stmt := top 2
abbrev s_cell_at : Stmt := top 4
abbrev s_mix : Stmt := top 5
abbrev s_big : Stmt := top 6
abbrev s_word : Stmt := top 7
abbrev s_names : Stmt := top 8
abbrev s_letter : Stmt := top 9
abbrev s_law : Stmt := top 10
/-! ### where things stand, and what the top has written -/
structure Ad where
  f_written : Addr
  d_written : FuncData
  f_row_of : Addr
  d_row_of : FuncData
  f_cell_at : Addr
  d_cell_at : FuncData
  f_mix : Addr
  d_mix : FuncData
  f_big : Addr
  d_big : FuncData
  f_word : Addr
  d_word : FuncData
  f_names : Addr
  d_names : FuncData
  f_letter : Addr
  d_letter : FuncData
  f_law : Addr
  d_law : FuncData
structure Txt (K : PySem.W.Frag) (mg : Str → Option Value) (a : Ad) : Prop where
  written : Dfn K mg "written" s_written ["letters"] a.f_written a.d_written
  row_of : Dfn K mg "row_of" s_row_of ["letter"] a.f_row_of a.d_row_of
  cell_at : Dfn K mg "_law_cell_at" s_cell_at ["_law_script", "_law_k"] a.f_cell_at a.d_cell_at
  mix : Dfn K mg "_law_mix" s_mix ["_law_cell", "_law_k"] a.f_mix a.d_mix
  big : Dfn K mg "_law_big" s_big ["_law_cell", "_law_k"] a.f_big a.d_big
  word : Dfn K mg "_law_word" s_word ["_law_cell", "_law_size"] a.f_word a.d_word
  names : Dfn K mg "_law_names" s_names ["_law_cell"] a.f_names a.d_names
  letter : Dfn K mg "_law_letter" s_letter ["_law_cell", "_law_names_here", "_law_many"] a.f_letter a.d_letter
  law : Dfn K mg "law" s_law ["_law_script"] a.f_law a.d_law
  b_len : mg "len" = none
  b_range : mg "range" = none
  b_sorted : mg "sorted" = none
  b_list : mg "list" = none
  b_isinstance : mg "isinstance" = none
  b_str : mg "str" = none
section
variable {P : Program} {w : World} {K : PySem.W.Frag} {mg : Str → Option Value} {base : Heap} {a : Ad}
/-! ### row_of -/
abbrev n_row_of : List Str := ["letter", "name", "sent", "back", "low", "high"]
theorem sc_row_of : FnScope ["letter", "name", "sent", "back", "low", "high"] ["letter"] (defScope s_row_of) := ⟨rfl, rfl, rfl, by decide +kernel, rfl, by decide +kernel, by decide +kernel⟩
theorem ok_row_of (T : Txt K mg a) : FnOk P w K mg base CX0 1 a.f_row_of a.d_row_of ["letter"] (spRowOf K) := by
  refine T.row_of.F.ok sc_row_of (fun vs H Q E h => ?_) (fun cdv A outer s H vs Q E hr h => ?_)
  · obtain ⟨t, x, rfl, hT, ho, q⟩ := h
    rfl
  · obtain ⟨t, x, rfl, hT, ho, q⟩ := h
    have hu := hu_of hr
    refine ⟨_, (pss_cons (ps_asg (pv 0) (pg_tup (by rfl) (pgs_cons (pg_name (i := 1) sc_row_of.nd rfl (Or.inl rfl)) (pgs_cons (pg_name (i := 2) sc_row_of.nd rfl (Or.inl rfl)) (pgs_cons (pg_name (i := 3) sc_row_of.nd rfl (Or.inl rfl)) (pgs_cons (pg_name (i := 4) sc_row_of.nd rfl (Or.inl rfl)) (pgs_cons (pg_name (i := 5) sc_row_of.nd rfl (Or.inl rfl)) pgs_nil)))))))
      (pss_one (ps_ret (pe_joined (.cons (pe_fmt (pv 1)) (.cons pe_str (.cons (pe_fmt (pv 2)) (.cons pe_str (.cons (pe_fmt (pv 3)) (.cons pe_str (.cons (pe_fmt (pv 4)) (.cons pe_str (.cons (pe_fmt (pv 5)) (.cons pe_str .nil)))))))))))))), ?_⟩
    have h1 := ho.nm.2.1
    have := ho.s0; have := ho.sb; have := ho.b1; have := ho.l0; have := ho.lh; have := ho.h1
    have a1 := numS_len (i := x.s) (by omega) (by omega)
    have a2 := numS_len (i := x.b) (by omega) (by omega)
    have a3 := numS_len (i := x.lo) (by omega) (by omega)
    have a4 := numS_len (i := x.hi) (by omega) (by omega)
    refine ⟨_, rfl, t, _, rfl, hT, rfl, _, _, rfl, _, _, rfl, _, _, rfl, _, _, rfl, _, _, rfl, rfl, ?_⟩
    dsimp only [gName]
    refine ⟨_, rfl, .inl ⟨_, rfl, by rw [mkS_len]; exact line_of (by omega), _, rfl, line_of (by simp only [str_len, len_0, mkS_len]; omega), ?_⟩⟩
    refine ⟨_, rfl, line_of (by simp only [str_len, len_0, len_sent, mkS_len]; omega), ?_⟩
    refine ⟨_, rfl, .inr ⟨_, rfl, log_small (by omega) (by omega), numS x.s, rfl, line_of (by simp only [str_len, len_0, len_sent, mkS_len]; omega), ?_⟩⟩
    refine ⟨_, rfl, line_of (by simp only [str_len, len_0, len_sent, len_back, mkS_len]; omega), ?_⟩
    refine ⟨_, rfl, .inr ⟨_, rfl, log_small (by omega) (by omega), numS x.b, rfl, line_of (by simp only [str_len, len_0, len_sent, len_back, mkS_len]; omega), ?_⟩⟩
    refine ⟨_, rfl, line_of (by simp only [str_len, len_0, len_sent, len_back, len_swears, mkS_len]; omega), ?_⟩
    refine ⟨_, rfl, .inr ⟨_, rfl, log_small (by omega) (by omega), numS x.lo, rfl, line_of (by simp only [str_len, len_0, len_sent, len_back, len_swears, mkS_len]; omega), ?_⟩⟩
    refine ⟨_, rfl, line_of (by simp only [str_len, len_0, len_sent, len_back, len_swears, len_to, mkS_len]; omega), ?_⟩
    refine ⟨_, rfl, .inr ⟨_, rfl, log_small (by omega) (by omega), numS x.hi, rfl, line_of (by simp only [str_len, len_0, len_sent, len_back, len_swears, len_to, mkS_len]; omega), ?_⟩⟩
    refine ⟨_, rfl, line_of (by simp only [str_len, len_0, len_sent, len_back, len_swears, len_to, len_lf, mkS_len]; omega), ?_⟩
    exact q
/-! ### written -/
abbrev n_written : List Str := ["letters", "letter"]
theorem sc_written : FnScope ["letters", "letter"] ["letters"] (defScope s_written) := ⟨rfl, rfl, rfl, by decide +kernel, rfl, by decide +kernel, by decide +kernel⟩
theorem ok_written (T : Txt K mg a) : FnOk P w K mg base CX0 2 a.f_written a.d_written ["letters"] (spWritten K) := by
  refine T.written.F.ok sc_written (fun vs H Q E h => ?_) (fun cdv A outer s H vs Q E hr h => ?_)
  · obtain ⟨p, as, ls, rfl, hL, hA, ho, hl, q⟩ := h
    rfl
  · obtain ⟨p, as, ls, rfl, hL, hA, ho, hl, q⟩ := h
    have hu := hu_of hr
    refine ⟨_, (pss_one (ps_ret (pe_join pe_str (pe_lc (own := [("letter", 1)]) (g := gName 1) (tt := tYes) rfl sc_written.nd (piL K (pv 0)) (blkOk_by (N := n_written) (sc := defScope s_written) (by decide +kernel)) (fun _ _ _ _ _ => pg_name (i := 1) sc_written.nd rfl (Or.inl rfl)) (fun _ _ _ _ _ => pts_nil) (fun _ _ _ _ _ => (pe_cl (ok_row_of T) T.row_of (hr.mono (by decide)) (pa_cons (pv 1) pa_nil))))))), ?_⟩
    refine ⟨⟨_, rfl⟩, ?_⟩
    refine ⟨_, rfl, p, rfl, ⟨_, hL⟩, fun D nD => lc_list (K := K) (a := p) (xs := as.map V.ref) (fun i H' => Same H H' ∧ H' D = some (.lst (((ls.take i).map row1).map V.str))) ⟨same_new nD, upd_same⟩ (fun i H' _ h => h.1.seq hL) ?_ ?_⟩
    · rintro i v H' hi ⟨s1, eD⟩
      obtain ⟨t, x, rfl, ha, hx, hT⟩ := (hA.same s1).get hi
      refine ⟨rfl, ?_⟩
      refine ⟨_, rfl, t, x, rfl, hT, ho x (List.mem_of_getElem? hx), ?_⟩
      refine ⟨_, eD, ?_, Same.mut s1 nD, ?_⟩
      · rw [List.length_map, List.length_map, List.length_take]
        exact Nat.lt_of_le_of_lt (show _ ≤ 200 by omega) (by decide)
      · rw [upd_same, take_snoc hx, List.map_append, List.map_append]
        rfl
    · rintro H' ⟨s1, eD⟩
      rw [List.length_map, hA.1, List.take_length] at eD
      have := sum_len ho
      refine ⟨_, _, ls.map row1, rfl, rfl, .inl (SqL.of eD), ?_, ?_⟩
      · have e0 : ("" : Str).length = 0 := by decide +kernel
        rw [e0]
        omega
      · rw [join_nil]
        exact q H' s1
/-! ### _law_cell_at -/
abbrev n_cell_at : List Str := ["_law_script", "_law_k"]
theorem sc_cell_at : FnScope ["_law_script", "_law_k"] ["_law_script", "_law_k"] (defScope s_cell_at) := ⟨rfl, rfl, rfl, by decide +kernel, rfl, by decide +kernel, by decide +kernel⟩
theorem ok_cell_at (T : Txt K mg a) : FnOk P w K mg base CX0 1 a.f_cell_at a.d_cell_at ["_law_script", "_law_k"] (spCellAt K) := by
  refine T.cell_at.F.ok sc_cell_at (fun vs H Q E h => ?_) (fun cdv A outer s H vs Q E hr h => ?_)
  · obtain ⟨l, ns, j, rfl, hS, q⟩ := h
    rfl
  · obtain ⟨l, ns, j, rfl, hS, q⟩ := h
    have hu := hu_of hr
    refine ⟨_, (pss_cons (ps_if (pt_cmpR op_lt (pv 1) (pe_callB (lenK K) (by rfl) T.b_len boot_len (pa_cons (pv 0) pa_nil)) (nomark _)) (pss_one (ps_ret (pe_ix (ixL K) (pv 0) (pv 1) (fun _ _ => rfl)))) pss_nil)
      (pss_one (ps_ret pe_int))), ?_⟩
    refine ⟨_, rfl, _, rfl, _, _, rfl, .inl hS, _, _, rfl, rfl, _, rfl, ?_⟩
    have el : (ns.map V.int).length = ns.length := List.length_map ..
    refine ite2 (fun z => ?_) (fun z => ?_)
    · have z' : j < ns.length := by have := of_decide_eq_true z; omega
      have e : (ns.map V.int)[j]? = some (.int (ns.getD j 0)) := by rw [List.getElem?_map, List.getD_eq_getElem?_getD, List.getElem?_eq_getElem z']; rfl
      exact ⟨_, rfl, _, rfl, _, _, _, _, rfl, rfl, hS, atI_nat e, q⟩
    · have z' : ¬ (j < ns.length) := fun y => z (decide_eq_true (by omega))
      have e : ns.getD j 0 = 0 := by rw [List.getD_eq_getElem?_getD, List.getElem?_eq_none (by omega)]; rfl
      rw [e] at q
      exact q
/-! ### _law_mix -/
abbrev n_mix : List Str := ["_law_cell", "_law_k", "_law_number"]
theorem sc_mix : FnScope ["_law_cell", "_law_k", "_law_number"] ["_law_cell", "_law_k"] (defScope s_mix) := ⟨rfl, rfl, rfl, by decide +kernel, rfl, by decide +kernel, by decide +kernel⟩
theorem ok_mix (T : Txt K mg a) : FnOk P w K mg base CX0 1 a.f_mix a.d_mix ["_law_cell", "_law_k"] (spMix) := by
  refine T.mix.F.ok sc_mix (fun vs H Q E h => ?_) (fun cdv A outer s H vs Q E hr h => ?_)
  · obtain ⟨c, k, rfl, q⟩ := h
    rfl
  · obtain ⟨c, k, rfl, q⟩ := h
    have hu := hu_of hr
    refine ⟨_, (pss_cons (ps_set (i := 2) sc_mix.nd rfl (Or.inl rfl) (pe_op (op_modc (c := 1000003) (by decide)) (pe_op (op_mulc (c := 48271) (by decide)) (pe_op op_add (pe_op op_add (pv 0) (pe_op (op_cmul (c := 7919) (by decide)) pe_int (pv 1))) pe_int) pe_int) pe_int))
      (pss_one (ps_ret (pe_op (op_modc (c := 999983) (by decide)) (pe_op op_mul (pv 2) (pv 2)) pe_int)))), ?_⟩
    refine ⟨_, rfl, _, rfl, _, rfl, rfl, _, _, rfl, rfl, _, _, rfl, rfl, _, rfl, rfl, _, rfl, rfl, _, rfl, _, rfl, _, _, rfl, rfl, .inl ⟨by omega, by omega⟩, _, rfl, rfl, ?_⟩
    exact q _ (Int.emod_nonneg _ (by decide)) (Int.emod_lt_of_pos _ (by decide))
/-! ### _law_big -/
abbrev n_big : List Str := ["_law_cell", "_law_k", "_law_number"]
theorem sc_big : FnScope ["_law_cell", "_law_k", "_law_number"] ["_law_cell", "_law_k"] (defScope s_big) := ⟨rfl, rfl, rfl, by decide +kernel, rfl, by decide +kernel, by decide +kernel⟩
theorem ok_big (T : Txt K mg a) : FnOk P w K mg base CX0 2 a.f_big a.d_big ["_law_cell", "_law_k"] (spBig) := by
  refine T.big.F.ok sc_big (fun vs H Q E h => ?_) (fun cdv A outer s H vs Q E hr h => ?_)
  · obtain ⟨c, k, rfl, q⟩ := h
    rfl
  · obtain ⟨c, k, rfl, q⟩ := h
    have hu := hu_of hr
    refine ⟨_, (pss_cons (ps_set (i := 2) sc_big.nd rfl (Or.inl rfl) (pe_cl (ok_mix T) T.mix (hr.mono (by decide)) (pa_cons (pv 0) (pa_cons (pv 1) pa_nil))))
      (pss_cons (ps_if (pt_cmpR op_eq (pe_op (op_modc (c := 4) (by decide)) (pe_cl (ok_mix T) T.mix (hr.mono (by decide)) (pa_cons (pv 0) (pa_cons (pe_op op_add (pv 1) pe_int) pa_nil))) pe_int) pe_int (nomark _)) (pss_one (ps_ret (pe_op (op_modc (c := 30) (by decide)) (pv 2) pe_int))) pss_nil)
      (pss_cons (ps_if (pt_cmpR op_eq (pe_op (op_modc (c := 4) (by decide)) (pe_cl (ok_mix T) T.mix (hr.mono (by decide)) (pa_cons (pv 0) (pa_cons (pe_op op_add (pv 1) pe_int) pa_nil))) pe_int) pe_int (nomark _)) (pss_one (ps_ret (pe_op (op_modc (c := 3000) (by decide)) (pv 2) pe_int))) pss_nil)
      (pss_cons (ps_if (pt_cmpR op_eq (pe_op (op_modc (c := 4) (by decide)) (pe_cl (ok_mix T) T.mix (hr.mono (by decide)) (pa_cons (pv 0) (pa_cons (pe_op op_add (pv 1) pe_int) pa_nil))) pe_int) pe_int (nomark _)) (pss_one (ps_ret (pe_ix (ixL K) (pe_lst (pa_cons pe_int (pa_cons pe_int (pa_cons pe_pow12 (pa_cons (pe_op op_sub pe_pow12 pe_int) pa_nil))))) (pe_op (op_modc (c := 4) (by decide)) (pv 2) pe_int) (fun _ _ => rfl)))) pss_nil)
      (pss_one (ps_ret (pe_op op_mod (pe_op op_add (pe_op (op_mulc (c := 1000003) (by decide)) (pv 2) pe_int) (pe_cl (ok_mix T) T.mix (hr.mono (by decide)) (pa_cons (pv 0) (pa_cons (pe_op op_add (pv 1) pe_int) pa_nil)))) (pe_op op_add pe_pow12 pe_int)))))))), ?_⟩
    refine ⟨_, rfl, _, rfl, _, _, rfl, fun m m0 m1 => ?_⟩
    refine ⟨_, rfl, _, rfl, _, _, rfl, rfl, _, _, rfl, fun x x0 x1 => ?_⟩
    refine ⟨_, rfl, rfl, rfl, _, rfl, ?_⟩
    refine ite2 (fun z => ?_) (fun z => ?_)
    · refine ⟨_, rfl, _, rfl, rfl, ?_⟩
      exact q _ H (by omega) (by omega) (Same.refl H)
    refine ⟨_, rfl, _, rfl, _, _, rfl, rfl, _, _, rfl, fun y y0 y1 => ?_⟩
    refine ⟨_, rfl, rfl, rfl, _, rfl, ?_⟩
    refine ite2 (fun z => ?_) (fun z => ?_)
    · refine ⟨_, rfl, _, rfl, rfl, ?_⟩
      exact q _ H (by omega) (by omega) (Same.refl H)
    refine ⟨_, rfl, _, rfl, _, _, rfl, rfl, _, _, rfl, fun u u0 u1 => ?_⟩
    refine ⟨_, rfl, rfl, rfl, _, rfl, ?_⟩
    refine ite2 (fun z => ?_) (fun z => ?_)
    · refine ⟨_, _, rfl, rfl, (by show 4 ≤ sizeLine; decide), fun p np => ?_⟩
      refine ⟨_, rfl, _, rfl, rfl, ?_⟩
      refine ix_int (fun j => 0 ≤ j ∧ j ≤ 1000000000000) SqL.here (Int.emod_nonneg _ (by decide)) (Int.emod_lt_of_pos _ (by decide)) (allc ⟨_, rfl, by decide⟩ (allc ⟨_, rfl, by decide⟩ (allc ⟨_, rfl, by decide⟩ (all1 ⟨_, rfl, by decide⟩)))) fun j hj => ?_
      exact q j _ hj.1 hj.2 (same_new np)
    refine ⟨_, rfl, _, rfl, rfl, _, rfl, _, rfl, _, _, rfl, rfl, _, _, rfl, fun v v0 v1 => ?_⟩
    refine ⟨_, _, rfl, rfl, _, _, rfl, rfl, _, _, rfl, rfl, (by show (0 : Int) < 1000000000000 + 1; decide), ?_⟩
    exact q _ H (Int.emod_nonneg _ (by decide)) (Int.le_of_lt_add_one (Int.emod_lt_of_pos _ (by decide))) (Same.refl H)
/-! ### _law_word -/
abbrev n_word : List Str := ["_law_cell", "_law_size", "_law_word_here", "_law_k"]
theorem sc_word : FnScope ["_law_cell", "_law_size", "_law_word_here", "_law_k"] ["_law_cell", "_law_size"] (defScope s_word) := ⟨rfl, rfl, rfl, by decide +kernel, rfl, by decide +kernel, by decide +kernel⟩
theorem ok_word (T : Txt K mg a) : FnOk P w K mg base CX0 2 a.f_word a.d_word ["_law_cell", "_law_size"] (spWord) := by
  refine T.word.F.ok sc_word (fun vs H Q E h => ?_) (fun cdv A outer s H vs Q E hr h => ?_)
  · obtain ⟨c, n, rfl, n0, n1, q⟩ := h
    rfl
  · obtain ⟨c, n, rfl, n0, n1, q⟩ := h
    have hu := hu_of hr
    refine ⟨_, (pss_cons (ps_set (i := 2) sc_word.nd rfl (Or.inl rfl) (pe_strC (l := []) (by decide +kernel)))
      (pss_cons (ps_for PassesOwn.never rfl (pi_range1 rfl T.b_range (pa_cons (pv 1) pa_nil)) (pg_name (i := 3) sc_word.nd rfl (Or.inl rfl)) (pss_one (ps_set (i := 2) sc_word.nd rfl (Or.inl rfl) (pe_op op_addC (pv 2) (pe_ix ix_C (pe_strC (l := [97, 98, 99, 100, 101, 102, 103, 104, 105, 106, 107, 108, 109, 110, 111, 112, 113, 114, 115, 116, 117, 118, 119, 120, 121, 122]) (by decide +kernel)) (pe_op (op_modc (c := 26) (by decide)) (pe_cl (ok_mix T) T.mix (hr.mono (by decide)) (pa_cons (pv 0) (pa_cons (pe_op op_add (pv 3) pe_int) pa_nil))) pe_int) (fun _ _ => rfl))))))
      (pss_one (ps_ret (pv 2))))), ?_⟩
    refine ⟨_, rfl, n, rfl, by omega, by omega, for_range (lo := 0) (n := n.toNat) (fun i σ H' => H = H' ∧ ∃ (z : List Nat) (v : Option V), σ = [some (.int c), some (.int n), some (.str (mkS z)), v] ∧ z.length = i ∧ low z)
      ⟨rfl, [], none, rfl, rfl, fun _ h => nomatch h⟩ ?_ ?_⟩
    · rintro i σ H' hi ⟨rfl, z, v, rfl, hz, lz⟩
      refine ⟨_, rfl, _, rfl, _, rfl, _, _, rfl, rfl, _, _, rfl, fun m m0 m1 => ?_⟩
      obtain ⟨j, hj⟩ := Int.eq_ofNat_of_zero_le (Int.emod_nonneg m (by decide : (26 : Int) ≠ 0))
      have hj26 : j < 26 := by omega
      refine ⟨_, rfl, rfl, _, j, 97 + j, rfl, by dsimp only; rw [hj], by decide, alphaL hj26, ?_⟩
      refine ⟨_, _, rfl, rfl, by rw [hz]; show i + 1 ≤ 1000000; omega, ?_⟩
      refine ⟨rfl, z ++ [97 + j], some (.int (0 + (i : Int))), rfl, by rw [List.length_append, hz]; rfl, fun ch hc => ?_⟩
      rcases List.mem_append.mp hc with h | h
      · exact lz ch h
      · rw [List.mem_singleton] at h
        omega
    · rintro σ H' ⟨rfl, z, v, rfl, hz, lz⟩
      exact ⟨_, rfl, q z (by omega) lz⟩
/-! ### _law_names -/
abbrev n_names : List Str := ["_law_cell", "_law_base", "_law_at", "_law_signs", "_law_k"]
theorem sc_names : FnScope ["_law_cell", "_law_base", "_law_at", "_law_signs", "_law_k"] ["_law_cell"] (defScope s_names) := ⟨rfl, rfl, rfl, by decide +kernel, rfl, by decide +kernel, by decide +kernel⟩
theorem ok_names (T : Txt K mg a) : FnOk P w K mg base CX0 3 a.f_names a.d_names ["_law_cell"] (spNames) := by
  refine T.names.F.ok sc_names (fun vs H Q E h => ?_) (fun cdv A outer s H vs Q E hr h => ?_)
  · obtain ⟨c, rfl, q⟩ := h
    rfl
  · obtain ⟨c, rfl, q⟩ := h
    have hu := hu_of hr
    refine ⟨_, (pss_cons (ps_set (i := 1) sc_names.nd rfl (Or.inr rfl) (pe_cl (ok_word T) T.word (hr.mono (by decide)) (pa_cons (pv 0) (pa_cons (pe_op (op_modc (c := 11) (by decide)) (pv 0) pe_int) pa_nil))))
      (pss_cons (ps_set (i := 2) sc_names.nd rfl (Or.inr rfl) (pe_op (op_modc (c := 11) (by decide)) (pe_cl (ok_mix T) T.mix (hr.mono (by decide)) (pa_cons (pv 0) (pa_cons pe_int pa_nil))) pe_int))
      (pss_cons (ps_set (i := 3) sc_names.nd rfl (Or.inr rfl) (pe_strC (l := [97, 98, 99, 100, 101, 102, 103, 104, 105, 106, 107, 108, 109, 110, 111, 112, 113, 114, 115, 116, 117, 118, 119, 120, 121, 122]) (by decide +kernel)))
      (pss_one (ps_ret (pe_lc (own := [("_law_k", 4)]) (g := gName 4) (tt := tYes) rfl sc_names.nd (pi_range1 rfl T.b_range (pa_cons pe_int pa_nil)) (blkOk_by (N := n_names) (sc := defScope s_names) (by decide +kernel)) (fun _ _ _ _ _ => pg_name (i := 4) sc_names.nd rfl (Or.inl rfl)) (fun _ _ _ _ _ => pts_nil) (fun _ _ _ _ _ => (pe_op op_addC (pe_op op_addC (pe_op op_addC (pe_slice sl_to (pv 1) po_none (po_some (pv 2))) (pe_ix ix_C (pv 3) (pe_op (op_modc (c := 26) (by decide)) (pv 4) pe_int) (fun _ _ => rfl))) (pe_ix (ixL K) (pe_lst (pa_cons (pe_strC (l := []) (by decide +kernel)) (pa_cons (pe_strC (l := [122]) (by decide +kernel)) pa_nil))) (pe_op (op_divc (c := 26) (by decide) (by decide)) (pv 4) pe_int) (fun _ _ => rfl))) (pe_slice sl_from (pv 1) (po_some (pv 2)) po_none))))))))), ?_⟩
    refine ⟨_, rfl, _, rfl, _, rfl, rfl, _, _, rfl, Int.emod_nonneg _ (by decide), by omega, fun b hb lb => ?_⟩
    refine ⟨_, rfl, _, _, rfl, fun m m0 m1 => ?_⟩
    refine ⟨_, rfl, rfl, ?_⟩
    have hb10 : b.length ≤ 10 := by omega
    obtain ⟨j, hj⟩ := Int.eq_ofNat_of_zero_le (Int.emod_nonneg m (by decide : (11 : Int) ≠ 0))
    dsimp only [gName]
    rw [hj]
    have hj10 : j ≤ 10 := by omega
    refine ⟨42, rfl, by decide, by decide, fun D nD => lc_range (lo := 0) (n := 42) (fun i H' => Same H H' ∧ H' D = some (.lst (txs ((List.range i).map (nmL b j))))) ⟨same_new nD, upd_same⟩ ?_ ?_⟩
    · rintro i H' hi ⟨s1, eD⟩
      refine ⟨rfl, ?_⟩
      refine ⟨_, rfl, _, rfl, _, rfl, b, j, rfl, rfl, rfl, by omega, ?_⟩
      have e1 : (0 + (i : Int)) % 26 = ((i % 26 : Nat) : Int) := by omega
      refine ⟨_, rfl, _, rfl, _, rfl, rfl, _, i % 26, 97 + i % 26, rfl, by dsimp only; rw [e1], by decide, alphaL (Nat.mod_lt _ (by decide)), ?_⟩
      refine ⟨_, _, rfl, rfl, by rw [List.length_take]; show min j b.length + 1 ≤ 1000000; omega, ?_⟩
      refine ⟨(by show 2 ≤ sizeLine; decide), fun p np => ?_⟩
      refine ⟨_, rfl, _, rfl, rfl, ?_⟩
      have nDp : D ≠ p := ne_of_none eD np
      have e2 : atI [V.str (mkS []), V.str (mkS [122])] ((0 + (i : Int)) / 26) = some (.str (mkS (if i < 26 then [] else [122]))) := by
        by_cases h : i < 26
        · have e3 : (0 + (i : Int)) / 26 = ((0 : Nat) : Int) := by omega
          rw [e3, if_pos h]
          exact atI_nat (j := 0) rfl
        · have e3 : (0 + (i : Int)) / 26 = ((1 : Nat) : Int) := by omega
          rw [e3, if_neg h]
          exact atI_nat (j := 1) rfl
      refine ⟨p, _, _, _, rfl, rfl, SqL.here, e2, ?_⟩
      refine ⟨_, _, rfl, rfl, by rw [List.length_append, List.length_take]; split <;> simp <;> omega, ?_⟩
      refine ⟨_, rfl, _, rfl, _, rfl, b, j, rfl, rfl, rfl, by omega, ?_⟩
      refine ⟨_, _, rfl, rfl, by rw [List.length_append, List.length_append, List.length_take, List.length_drop]; split <;> simp <;> omega, ?_⟩
      refine ⟨_, (upd_ne nDp).trans eD, by unfold txs; rw [List.length_map, List.length_map, List.length_range]; exact Nat.lt_trans hi (by decide), Same.mut (s1.trans (same_new np)) nD, upd_same.trans ?_⟩
      rw [List.range_succ, List.map_append]
      unfold txs
      rw [List.map_append]
      rfl
    · rintro H' ⟨s1, eD⟩
      refine q D _ H' ?_ (nmList_nodup b j) (fun z hz => ?_) s1 eD
      · unfold nmList; rw [List.length_map, List.length_range]
      · obtain ⟨k, hk, rfl⟩ := List.mem_map.mp hz
        exact nmL_ok hb10 lb (List.mem_range.mp hk)
/-! ### _law_letter -/
abbrev n_letter : List Str := ["_law_cell", "_law_names_here", "_law_many", "_law_place", "_law_sent", "_law_back", "_law_near", "_law_low", "_law_high"]
theorem sc_letter : FnScope ["_law_cell", "_law_names_here", "_law_many", "_law_place", "_law_sent", "_law_back", "_law_near", "_law_low", "_law_high"] ["_law_cell", "_law_names_here", "_law_many"] (defScope s_letter) := ⟨rfl, rfl, rfl, by decide +kernel, rfl, by decide +kernel, by decide +kernel⟩
theorem ok_letter (T : Txt K mg a) : FnOk P w K mg base CX0 3 a.f_letter a.d_letter ["_law_cell", "_law_names_here", "_law_many"] (spLetter K) := by
  refine T.letter.F.ok sc_letter (fun vs H Q E h => ?_) (fun cdv A outer s H vs Q E hr h => ?_)
  · obtain ⟨c, m, np', xs, rfl, hN, hl, hok, m0, m1, q⟩ := h
    rfl
  · obtain ⟨c, m, np', xs, rfl, hN, hl, hok, m0, m1, q⟩ := h
    have hu := hu_of hr
    refine ⟨_, (pss_cons (ps_set (i := 3) sc_letter.nd rfl (Or.inl rfl) (pe_op op_mod (pe_cl (ok_mix T) T.mix (hr.mono (by decide)) (pa_cons (pv 0) (pa_cons pe_int pa_nil))) (pv 2)))
      (pss_cons (ps_set (i := 4) sc_letter.nd rfl (Or.inl rfl) (pe_op (op_modc (c := 1000) (by decide)) (pe_cl (ok_mix T) T.mix (hr.mono (by decide)) (pa_cons (pv 0) (pa_cons pe_int pa_nil))) pe_int))
      (pss_cons (ps_set (i := 5) sc_letter.nd rfl (Or.inl rfl) (pe_op op_add (pv 4) (pe_op op_mod (pe_cl (ok_mix T) T.mix (hr.mono (by decide)) (pa_cons (pv 0) (pa_cons pe_int pa_nil))) (pe_ix (ixL K) (pe_lst (pa_cons pe_int (pa_cons pe_int (pa_cons pe_int pa_nil)))) (pe_op (op_modc (c := 3) (by decide)) (pe_cl (ok_mix T) T.mix (hr.mono (by decide)) (pa_cons (pv 0) (pa_cons pe_int pa_nil))) pe_int) (fun _ _ => rfl)))))
      (pss_cons (ps_set (i := 6) sc_letter.nd rfl (Or.inl rfl) (pe_op op_add (pe_op op_add pe_int (pv 4)) (pe_ix (ixL K) (pe_lst (pa_cons pe_int (pa_cons pe_int (pa_cons pe_int (pa_cons pe_int (pa_cons pe_int (pa_cons pe_int (pa_cons pe_int pa_nil)))))))) (pe_op (op_modc (c := 7) (by decide)) (pv 3) pe_int) (fun _ _ => rfl))))
      (pss_cons (ps_set (i := 7) sc_letter.nd rfl (Or.inl rfl) (pe_op op_sub (pe_op op_add (pv 6) (pe_op (op_modc (c := 80) (by decide)) (pe_cl (ok_mix T) T.mix (hr.mono (by decide)) (pa_cons (pv 0) (pa_cons pe_int pa_nil))) pe_int)) pe_int))
      (pss_cons (ps_set (i := 8) sc_letter.nd rfl (Or.inl rfl) (pe_op op_add (pv 6) (pe_op (op_modc (c := 100) (by decide)) (pe_cl (ok_mix T) T.mix (hr.mono (by decide)) (pa_cons (pv 0) (pa_cons pe_int pa_nil))) pe_int)))
      (pss_cons (ps_if (pt_cmpR op_eq (pe_op (op_modc (c := 2) (by decide)) (pe_cl (ok_mix T) T.mix (hr.mono (by decide)) (pa_cons (pv 0) (pa_cons pe_int pa_nil))) pe_int) pe_int (nomark _)) (pss_cons (ps_set (i := 5) sc_letter.nd rfl (Or.inl rfl) (pv 4))
      (pss_cons (ps_set (i := 7) sc_letter.nd rfl (Or.inl rfl) (pe_op op_add (pv 6) (pe_op (op_mulc (c := 10) (by decide)) (pe_op (op_modc (c := 6) (by decide)) (pe_cl (ok_mix T) T.mix (hr.mono (by decide)) (pa_cons (pv 0) (pa_cons pe_int pa_nil))) pe_int) pe_int)))
      (pss_one (ps_set (i := 8) sc_letter.nd rfl (Or.inl rfl) (pe_op op_add (pv 7) (pe_op (op_mulc (c := 10) (by decide)) (pe_op (op_modc (c := 4) (by decide)) (pe_cl (ok_mix T) T.mix (hr.mono (by decide)) (pa_cons (pv 0) (pa_cons pe_int pa_nil))) pe_int) pe_int)))))) pss_nil)
      (pss_cons (ps_asg (pe_callB (sortK K) (by rfl) T.b_sorted (by decide +kernel) (pa_cons (pe_lst (pa_cons (pv 7) (pa_cons (pv 8) pa_nil))) pa_nil)) (pg_unl (by rfl) (pgs_cons (pg_name (i := 7) sc_letter.nd rfl (Or.inl rfl)) (pgs_cons (pg_name (i := 8) sc_letter.nd rfl (Or.inl rfl)) pgs_nil))))
      (pss_cons (ps_if (pt_cmpR op_eq (pe_op (op_modc (c := 9) (by decide)) (pe_cl (ok_mix T) T.mix (hr.mono (by decide)) (pa_cons (pv 0) (pa_cons pe_int pa_nil))) pe_int) pe_int (nomark _)) (pss_one (ps_asg (pe_callB (sortK K) (by rfl) T.b_sorted (by decide +kernel) (pa_cons (pe_lst (pa_cons (pe_cl (ok_big T) T.big (hr.mono (by decide)) (pa_cons (pv 0) (pa_cons pe_int pa_nil))) (pa_cons (pe_cl (ok_big T) T.big (hr.mono (by decide)) (pa_cons (pv 0) (pa_cons pe_int pa_nil))) pa_nil))) pa_nil)) (pg_unl (by rfl) (pgs_cons (pg_name (i := 7) sc_letter.nd rfl (Or.inl rfl)) (pgs_cons (pg_name (i := 8) sc_letter.nd rfl (Or.inl rfl)) pgs_nil))))) pss_nil)
      (pss_cons (ps_if (pt_cmpR op_eq (pe_op (op_modc (c := 9) (by decide)) (pe_cl (ok_mix T) T.mix (hr.mono (by decide)) (pa_cons (pv 0) (pa_cons pe_int pa_nil))) pe_int) pe_int (nomark _)) (pss_one (ps_asg (pe_callB (sortK K) (by rfl) T.b_sorted (by decide +kernel) (pa_cons (pe_lst (pa_cons (pe_cl (ok_big T) T.big (hr.mono (by decide)) (pa_cons (pv 0) (pa_cons pe_int pa_nil))) (pa_cons (pe_cl (ok_big T) T.big (hr.mono (by decide)) (pa_cons (pv 0) (pa_cons pe_int pa_nil))) pa_nil))) pa_nil)) (pg_unl (by rfl) (pgs_cons (pg_name (i := 4) sc_letter.nd rfl (Or.inl rfl)) (pgs_cons (pg_name (i := 5) sc_letter.nd rfl (Or.inl rfl)) pgs_nil))))) pss_nil)
      (pss_one (ps_ret (pe_tup (pa_cons (pe_ix (ixL K) (pv 1) (pv 3) (fun _ _ => rfl)) (pa_cons (pv 4) (pa_cons (pv 5) (pa_cons (pv 7) (pa_cons (pv 8) pa_nil)))))))))))))))))), ?_⟩
    refine ⟨_, rfl, _, _, rfl, fun a a0 a1 => ?_⟩
    refine ⟨_, rfl, _, _, rfl, rfl, (by show 0 < m; omega), ?_⟩
    have pl0 := Int.emod_nonneg a (show m ≠ 0 by omega)
    have pl1 := Int.emod_lt_of_pos a (show 0 < m by omega)
    dsimp only [gName]
    generalize a % m = pl at pl0 pl1 ⊢
    refine ⟨_, rfl, _, _, rfl, fun b b0 b1 => ?_⟩
    refine ⟨_, rfl, rfl, ?_⟩
    dsimp only [gName]
    have sn0 : 0 ≤ b % 1000 := by omega
    have sn1 : b % 1000 < 1000 := by omega
    generalize b % 1000 = sn at sn0 sn1 ⊢
    -- back
    refine ⟨_, rfl, _, rfl, _, _, rfl, fun d d0 d1 => ?_⟩
    refine ⟨(by show 3 ≤ sizeLine; decide), fun p1 n1 => ?_⟩
    refine ⟨_, rfl, _, _, rfl, fun e e0 e1 => ?_⟩
    refine ⟨_, rfl, rfl, ?_⟩
    refine ix_int (fun j => 1 ≤ j ∧ j ≤ 60) SqL.here (Int.emod_nonneg _ (by decide)) (Int.emod_lt_of_pos _ (by decide)) (allc ⟨_, rfl, by decide⟩ (allc ⟨_, rfl, by decide⟩ (all1 ⟨_, rfl, by decide⟩))) fun w hw => ?_
    refine ⟨_, _, rfl, rfl, (by show 0 < w; omega), ?_⟩
    have dw0 := Int.emod_nonneg d (show w ≠ 0 by omega)
    have dw1 := Int.emod_lt_of_pos d (show 0 < w by omega)
    refine ⟨_, _, rfl, rfl, ?_⟩
    dsimp only [gName]
    generalize d % w = dw at dw0 dw1 ⊢
    -- near
    refine ⟨_, rfl, _, _, rfl, rfl, (by show 7 ≤ sizeLine; decide), fun p2 n2 => ?_⟩
    refine ⟨_, rfl, _, rfl, rfl, ?_⟩
    refine ix_int (fun j => 0 ≤ j ∧ j ≤ 600) SqL.here (Int.emod_nonneg _ (by decide)) (Int.emod_lt_of_pos _ (by decide)) (allc ⟨_, rfl, by decide⟩ (allc ⟨_, rfl, by decide⟩ (allc ⟨_, rfl, by decide⟩ (allc ⟨_, rfl, by decide⟩ (allc ⟨_, rfl, by decide⟩ (allc ⟨_, rfl, by decide⟩ (all1 ⟨_, rfl, by decide⟩))))))) fun nr hnr => ?_
    refine ⟨_, _, rfl, rfl, ?_⟩
    dsimp only [gName]
    have nb0 : 500000 ≤ 500000 + sn + nr := by omega
    have nb1 : 500000 + sn + nr ≤ 502000 := by omega
    generalize 500000 + sn + nr = near at nb0 nb1 ⊢
    generalize hHb : upd _ p2 _ = Hb
    obtain ⟨sb', _⟩ := gen_new hHb n2
    clear hHb
    have sHb : Same H Hb := (same_new n1).trans sb'
    -- low, high
    refine ⟨_, rfl, _, rfl, _, _, rfl, fun f f0 f1 => ?_⟩
    refine ⟨_, rfl, rfl, _, _, rfl, rfl, _, _, rfl, rfl, ?_⟩
    refine ⟨_, rfl, _, rfl, _, _, rfl, fun g g0 g1 => ?_⟩
    refine ⟨_, rfl, rfl, _, _, rfl, rfl, ?_⟩
    dsimp only [gName]
    have lw0 : 0 ≤ near + f % 80 - 40 ∧ near + f % 80 - 40 ≤ 1000000 := by omega
    have hw0 : 0 ≤ near + g % 100 ∧ near + g % 100 ≤ 1000000 := by omega
    generalize near + f % 80 - 40 = lw at lw0 ⊢
    generalize near + g % 100 = hw at hw0 ⊢
    -- sworn at once
    refine seq_cut (fun σ' H' => ∃ (bk lo hi : Int), sn ≤ bk ∧ bk ≤ 1100 ∧ 0 ≤ lo ∧ lo ≤ 1000000 ∧ 0 ≤ hi ∧ hi ≤ 1000000 ∧ Hb = H' ∧ σ' = [some (.int c), some (.ref np'), some (.int m), some (.int pl), some (.int sn), some (.int bk), some (.int near), some (.int lo), some (.int hi)]) (fun N hN => ?_) ?_
    · refine ⟨_, rfl, _, _, rfl, fun h h0 h1 => ?_⟩
      refine ⟨_, rfl, rfl, rfl, _, rfl, ?_⟩
      refine ite_eq (fun z => ?_) (fun z => ?_)
      · refine ⟨_, rfl, ?_⟩
        refine ⟨_, rfl, _, rfl, _, _, rfl, fun i i0 i1 => ?_⟩
        refine ⟨_, rfl, rfl, _, rfl, rfl, _, _, rfl, rfl, ?_⟩
        refine ⟨_, rfl, _, rfl, _, _, rfl, fun j j0 j1 => ?_⟩
        refine ⟨_, rfl, rfl, _, rfl, rfl, _, _, rfl, rfl, ?_⟩
        exact hN _ _ ⟨sn, near + i % 6 * 10, near + i % 6 * 10 + j % 4 * 10, by omega, by omega, by omega, by omega, by omega, by omega, rfl, rfl⟩
      · exact hN _ _ ⟨sn + dw, lw, hw, by omega, by omega, by omega, by omega, by omega, by omega, rfl, rfl⟩
    rintro σ' H1 ⟨bk, lo0, hi0, hb0, hb1, l0, l1, h0, h1, rfl, rfl⟩
    refine ⟨_, rfl, _, rfl, (by show 2 ≤ sizeLine; decide), fun p3 n3 => ?_⟩
    refine ⟨_, [lo0, hi0], rfl, SqL.here, (by show 2 < 64; decide), fun ns1 p4 hp1 hs1 n4 => ?_⟩
    obtain ⟨lo1, hi1, rfl, lh, lhx⟩ := perm2 hp1 hs1
    refine ⟨p4, _, rfl, SqL.here, rfl, _, _, rfl, _, _, rfl, rfl, ?_⟩
    dsimp only [gName]
    generalize hHc : upd _ p4 _ = Hc
    obtain ⟨sc', _⟩ := gen_new hHc n4
    clear hHc
    have sHc : Same H Hc := (sHb.trans (same_new n3)).trans sc'
    -- far times
    refine seq_cut (fun σ' H' => ∃ (lo hi : Int), 0 ≤ lo ∧ lo ≤ hi ∧ hi ≤ 1000000000000 ∧ Same Hc H' ∧ σ' = [some (.int c), some (.ref np'), some (.int m), some (.int pl), some (.int sn), some (.int bk), some (.int near), some (.int lo), some (.int hi)]) (fun N hN => ?_) ?_
    · refine ⟨_, rfl, _, _, rfl, fun h h0 h1 => ?_⟩
      refine ⟨_, rfl, rfl, rfl, _, rfl, ?_⟩
      refine ite_eq (fun z => ?_) (fun z => ?_)
      · refine ⟨_, rfl, _, _, rfl, fun i Hd i0 i1 sd => ?_⟩
        refine ⟨_, rfl, _, _, rfl, fun j He j0 j1 se => ?_⟩
        refine ⟨(by show 2 ≤ sizeLine; decide), fun p5 n5 => ?_⟩
        refine ⟨_, [i, j], rfl, SqL.here, (by show 2 < 64; decide), fun ns2 p6 hp2 hs2 n6 => ?_⟩
        obtain ⟨lo2, hi2, rfl, lh2, lhx2⟩ := perm2 hp2 hs2
        refine ⟨p6, _, rfl, SqL.here, rfl, _, _, rfl, _, _, rfl, rfl, ?_⟩
        exact hN _ _ ⟨lo2, hi2, by omega, by omega, by omega, ((sd.trans se).trans (same_new n5)).trans (same_new n6), rfl⟩
      · exact hN _ _ ⟨lo1, hi1, by omega, by omega, by omega, Same.refl _, rfl⟩
    rintro σ' H2 ⟨lo, hi, l2, l3, l4, s2, rfl⟩
    -- far counts
    refine seq_cut (fun σ' H' => ∃ (s' b' : Int), 0 ≤ s' ∧ s' ≤ b' ∧ b' ≤ 1000000000000 ∧ Same H2 H' ∧ σ' = [some (.int c), some (.ref np'), some (.int m), some (.int pl), some (.int s'), some (.int b'), some (.int near), some (.int lo), some (.int hi)]) (fun N hN => ?_) ?_
    · refine ⟨_, rfl, _, _, rfl, fun h h0 h1 => ?_⟩
      refine ⟨_, rfl, rfl, rfl, _, rfl, ?_⟩
      refine ite_eq (fun z => ?_) (fun z => ?_)
      · refine ⟨_, rfl, _, _, rfl, fun i Hd i0 i1 sd => ?_⟩
        refine ⟨_, rfl, _, _, rfl, fun j He j0 j1 se => ?_⟩
        refine ⟨(by show 2 ≤ sizeLine; decide), fun p5 n5 => ?_⟩
        refine ⟨_, [i, j], rfl, SqL.here, (by show 2 < 64; decide), fun ns2 p6 hp2 hs2 n6 => ?_⟩
        obtain ⟨lo2, hi2, rfl, lh2, lhx2⟩ := perm2 hp2 hs2
        refine ⟨p6, _, rfl, SqL.here, rfl, _, _, rfl, _, _, rfl, rfl, ?_⟩
        exact hN _ _ ⟨lo2, hi2, by omega, by omega, by omega, ((sd.trans se).trans (same_new n5)).trans (same_new n6), rfl⟩
      · exact hN _ _ ⟨sn, bk, by omega, by omega, by omega, Same.refl _, rfl⟩
    rintro σ' H3 ⟨sf, bf, s4, s5, s6, s7, rfl⟩
    have sH3 : Same H H3 := (sHc.trans s2).trans s7
    obtain ⟨nm, hnm, hat⟩ := txs_at (ls := xs) pl0 (by rw [hl]; omega)
    refine ⟨_, rfl, _, rfl, _, _, _, _, rfl, rfl, sH3.seq hN, hat, ?_⟩
    refine ⟨_, rfl, _, rfl, _, rfl, _, rfl, (by show 5 ≤ sizeLine; decide), fun t nt => ?_⟩
    exact q ⟨nm, sf, bf, lo, hi⟩ t _ ⟨hok nm hnm, s4, s5, s6, l2, l3, l4⟩ hnm (sH3.trans (same_new nt)) upd_same
/-! ### law -/
abbrev n_law : List Str := ["_law_script", "_law_names_here", "_law_letters", "_law_due", "_law_name", "_law_sent", "_law_back", "_law_low", "_law_high", "_law_handed", "_law_found", "_law_cell", "_law_k"]
theorem sc_law : FnScope ["_law_script", "_law_names_here", "_law_letters", "_law_due", "_law_name", "_law_sent", "_law_back", "_law_low", "_law_high", "_law_handed", "_law_found", "_law_cell", "_law_k"] ["_law_script"] (defScope s_law) := ⟨rfl, rfl, rfl, by decide +kernel, rfl, by decide +kernel, by decide +kernel⟩
theorem ok_law (T : Txt K mg a) : FnOk P w K mg base CX0 4 a.f_law a.d_law ["_law_script"] (spLaw K) := by
  refine T.law.F.ok sc_law (fun vs H Q E h => ?_) (fun cdv A outer s H vs Q E hr h => ?_)
  · obtain ⟨l, ns, rfl, hS, hlen, k⟩ := h
    rfl
  · obtain ⟨l, ns, rfl, hS, hlen, k⟩ := h
    have hu := hu_of hr
    refine ⟨_, (pss_cons (ps_set (i := 1) sc_law.nd rfl (Or.inr rfl) (pe_cl (ok_names T) T.names (hr.mono (by decide)) (pa_cons (pe_cl (ok_cell_at T) T.cell_at (hr.mono (by decide)) (pa_cons (pv 0) (pa_cons pe_int pa_nil))) pa_nil)))
      (pss_cons (ps_setLc (i := 2) (own := [("_law_cell", 11)]) (g := gName 11) (tt := tYes) rfl sc_law.nd rfl rfl (sw_true rfl rfl rfl (by decide +kernel)) (piL K (pe_slice (slL K) (pv 0) (po_some pe_int) (po_some pe_int))) (blkOk_by (N := n_law) (sc := defScope s_law) (by decide +kernel)) (fun _ _ _ _ _ => pg_name (i := 11) sc_law.nd rfl (Or.inl rfl)) (fun _ _ _ _ _ => pts_nil) (fun _ _ _ _ _ => (pe_cl (ok_letter T) T.letter (hr.mono (by decide)) (pa_cons (pv 11) (pa_cons (pv 1) (pa_cons pe_int pa_nil))))))
      (pss_cons (ps_if (pt_cmpR op_eq (pe_op (op_modc (c := 9) (by decide)) (pe_cl (ok_cell_at T) T.cell_at (hr.mono (by decide)) (pa_cons (pv 0) (pa_cons pe_int pa_nil))) pe_int) pe_int (nomark _)) (pss_one (ps_setLc (i := 2) (own := [("_law_k", 12)]) (g := gName 12) (tt := tYes) rfl sc_law.nd rfl rfl (sw_true rfl rfl rfl (by decide +kernel)) (pi_range1 rfl T.b_range (pa_cons pe_int pa_nil)) (blkOk_by (N := n_law) (sc := defScope s_law) (by decide +kernel)) (fun _ _ _ _ _ => pg_name (i := 12) sc_law.nd rfl (Or.inl rfl)) (fun _ _ _ _ _ => pts_nil) (fun _ _ _ _ _ => (pe_cl (ok_letter T) T.letter (hr.mono (by decide)) (pa_cons (pe_op op_add (pe_cl (ok_cell_at T) T.cell_at (hr.mono (by decide)) (pa_cons (pv 0) (pa_cons pe_int pa_nil))) (pv 12)) (pa_cons (pv 1) (pa_cons pe_int pa_nil))))))) pss_nil)
      (pss_cons (ps_set (i := 3) sc_law.nd rfl (Or.inl rfl) pe_str)
      (pss_cons (ps_for PassesOwn.never rfl (piL K (pv 2)) (pg_tup (by rfl) (pgs_cons (pg_name (i := 4) sc_law.nd rfl (Or.inl rfl)) (pgs_cons (pg_name (i := 5) sc_law.nd rfl (Or.inl rfl)) (pgs_cons (pg_name (i := 6) sc_law.nd rfl (Or.inl rfl)) (pgs_cons (pg_name (i := 7) sc_law.nd rfl (Or.inl rfl)) (pgs_cons (pg_name (i := 8) sc_law.nd rfl (Or.inl rfl)) pgs_nil)))))) (pss_one (ps_set (i := 3) sc_law.nd rfl (Or.inl rfl) (pe_op op_add_str (pe_op op_add_str (pv 3) (pe_joined (.cons (pe_fmt (pv 4)) (.cons pe_str (.cons (pe_fmt (pv 5)) (.cons pe_str (.cons (pe_fmt (pv 6)) (.cons pe_str (.cons (pe_fmt (pv 7)) (.cons pe_str (.cons (pe_fmt (pv 8)) .nil))))))))))) pe_str))))
      (pss_cons (ps_set (i := 9) sc_law.nd rfl (Or.inl rfl) (pe_callTy (listK K) (by rfl) T.b_list (by decide +kernel) (pa_cons (pv 2) pa_nil)))
      (pss_cons (ps_set (i := 10) sc_law.nd rfl (Or.inl rfl) (pe_cl (ok_written T) T.written (hr.mono (by decide)) (pa_cons (pv 9) pa_nil)))
      (pss_one (ps_ret (pe_and (pe_callB (isiK K) (by rfl) T.b_isinstance (by decide +kernel) (pa_cons (pv 10) (pa_cons (pe_bty (n := "str") T.b_str (by decide +kernel)) pa_nil))) (pe_and (pe_cmpR op_eq (pv 10) (pv 3) (nomark _)) (pe_one (pe_cmpR (eqDK K hr.units) (pv 9) (pv 2) (nomark _)))))))))))))), ?_⟩
    refine ⟨_, rfl, _, _, 0, rfl, hS, _, rfl, fun pn xs H1 hxl _ hxo s1 eN => ?_⟩
    dsimp only [gName]
    refine ⟨_, rfl, _, rfl, _, rfl, l, _, rfl, s1.seq hS, fun p2 n2 => ?_⟩
    have e0 : cutV (ns.map V.int) (some 2) (some 42) = ((ns.drop 2).take 40).map V.int := by
      rw [show (2 : Int) = ((2 : Nat) : Int) from rfl, show (42 : Int) = ((42 : Nat) : Int) from rfl, cutV_len, ← List.map_drop, ← List.map_take]
    rw [e0]
    generalize hns : (ns.drop 2).take 40 = ms
    have hms : ms.length ≤ 40 := by rw [← hns]; exact List.length_take_le _ _
    generalize hH2 : upd _ p2 _ = H2
    obtain ⟨s2', e2⟩ := gen_new hH2 n2
    clear hH2
    have s2 := s1.trans s2'
    have eN2 := s2' _ _ eN
    refine ⟨p2, rfl, ⟨_, SqL.of e2⟩, fun D nD => lc_list (K := K) (a := p2) (xs := ms.map V.int) (fun i H' => Same H2 H' ∧ ∃ (as : List Addr) (ls : List Let), ls.length = i ∧ LetsAt K H' as ls ∧ (∀ x ∈ ls, x.Ok) ∧ H' D = some (.lst (as.map V.ref)))
      ⟨same_new nD, [], [], rfl, LetsAt.nil, fun _ h => (nomatch h), upd_same⟩ (fun i H' _ h => SqL.of (h.1 _ _ e2)) ?_ ?_⟩
    · rintro i v H' hi ⟨s3, as, ls, hli, hA, hO, eD⟩
      have hil := (List.getElem?_eq_some_iff.mp hi).1
      rw [List.length_map] at hil
      obtain ⟨z, rfl⟩ : ∃ z, v = V.int z := by
        rw [List.getElem?_map, List.getElem?_eq_getElem hil] at hi
        exact ⟨_, (Option.some.inj hi).symm⟩
      refine ⟨rfl, ?_⟩
      refine ⟨_, rfl, _, rfl, _, _, _, xs, rfl, SqL.of (s3 _ _ eN2), hxl, hxo, by omega, by omega, fun x t H3 xo xn s4 eT => ?_⟩
      have eD2 := s4 _ _ eD
      refine ⟨_, eD2, by rw [List.length_map, hA.1, hli]; exact Nat.lt_of_lt_of_le (show i < 201 by omega) (by decide), Same.mut (s3.trans s4) nD, as ++ [t], ls ++ [x], by rw [List.length_append, hli]; rfl, ?_, ?_, ?_⟩
      · exact ((hA.same s4).snoc (SqT.of eT)).grow eD2
      · intro y hy
        rcases List.mem_append.mp hy with h | h
        · exact hO y h
        · rw [List.mem_singleton] at h
          exact h ▸ xo
      · rw [upd_same, List.map_append]
        rfl
    rintro H3 ⟨s3, as0, ls0, hli0, hA0, hO0, eD0⟩
    rw [List.length_map] at hli0
    dsimp only [gName]
    refine seq_cut (fun σ' H' => ∃ (pl : Addr) (as : List Addr) (ls : List Let) (w11 w12 : Option V), ls.length ≤ 200 ∧ (∀ x ∈ ls, x.Ok) ∧ LetsAt K H' as ls ∧ H' pl = some (.lst (as.map V.ref)) ∧
      σ' = [some (.ref l), some (.ref pn), some (.ref pl), none, none, none, none, none, none, none, none, w11, w12]) (fun N hN => ?_) ?_
    · refine ⟨_, rfl, _, _, 1, rfl, (s2.trans s3).seq hS, _, rfl, rfl, rfl, _, rfl, ?_⟩
      refine ite_eq (fun z => ?_) (fun z => ?_)
      · refine ⟨200, rfl, by omega, by omega, fun D2 nD2 => lc_range (lo := 0) (n := 200) (fun i H' => Same H3 H' ∧ ∃ (as : List Addr) (ls : List Let), ls.length = i ∧ LetsAt K H' as ls ∧ (∀ x ∈ ls, x.Ok) ∧ H' D2 = some (.lst (as.map V.ref)))
          ⟨same_new nD2, [], [], rfl, LetsAt.nil, fun _ h => (nomatch h), upd_same⟩ ?_ ?_⟩
        · rintro i H' hi ⟨s4, as, ls, hli, hA, hO, eD⟩
          refine ⟨rfl, ?_⟩
          refine ⟨_, rfl, _, _, 1, rfl, ((s2.trans s3).trans s4).seq hS, _, rfl, _, _, rfl, rfl, _, rfl, _, _, _, xs, rfl, SqL.of (s4 _ _ (s3 _ _ eN2)), hxl, hxo, by omega, by omega, fun x t H5 xo xn s5 eT => ?_⟩
          have eD2 := s5 _ _ eD
          refine ⟨_, eD2, by rw [List.length_map, hA.1, hli]; exact Nat.lt_of_lt_of_le (show i < 201 by omega) (by decide), Same.mut (s4.trans s5) nD2, as ++ [t], ls ++ [x], by rw [List.length_append, hli]; rfl, ?_, ?_, ?_⟩
          · exact ((hA.same s5).snoc (SqT.of eT)).grow eD2
          · intro y hy
            rcases List.mem_append.mp hy with h | h
            · exact hO y h
            · rw [List.mem_singleton] at h
              exact h ▸ xo
          · rw [upd_same, List.map_append]
            rfl
        · rintro H' ⟨s4, as, ls, hli, hA, hO, eD⟩
          exact hN _ _ ⟨D2, as, ls, _, _, by omega, hO, hA, eD, rfl⟩
      · exact hN _ _ ⟨_, as0, ls0, _, _, by omega, hO0, hA0, eD0, rfl⟩
    rintro σ' H4 ⟨pl, as, ls, w11, w12, hl200, hO, hA, eL, rfl⟩
    refine ⟨_, rfl, pl, rfl, ⟨_, SqL.of eL⟩, for_list (K := K) (a := pl) (xs := as.map V.ref) (fun i σ H' => H' = H4 ∧ ∃ (v4 v5 v6 v7 v8 : Option V),
        σ = [some (.ref l), some (.ref pn), some (.ref pl), some (.str (catS ((ls.take i).map row1))), v4, v5, v6, v7, v8, none, none, w11, w12])
      ⟨rfl, none, none, none, none, none, rfl⟩ (fun i σ H' _ h => by rw [h.1]; exact SqL.of eL) ?_ ?_⟩
    · rintro i v σ H' hi ⟨rfl, v4, v5, v6, v7, v8, rfl⟩
      obtain ⟨t, x, rfl, ha, hx, hT⟩ := hA.get hi
      have ho := hO x (List.mem_of_getElem? hx)
      have h1 := ho.nm.2.1
      have := ho.s0; have := ho.sb; have := ho.b1; have := ho.l0; have := ho.lh; have := ho.h1
      have a1 := numS_len (i := x.s) (by omega) (by omega)
      have a2 := numS_len (i := x.b) (by omega) (by omega)
      have a3 := numS_len (i := x.lo) (by omega) (by omega)
      have a4 := numS_len (i := x.hi) (by omega) (by omega)
      have hcl : (catS ((ls.take i).map row1)).length ≤ 100 * 200 := by
        have h2 := catS_len (ls := ls.take i) fun y hy => hO y (List.mem_of_mem_take hy)
        rw [List.length_take] at h2
        omega
      refine ⟨t, _, rfl, hT, rfl, _, _, rfl, _, _, rfl, _, _, rfl, _, _, rfl, _, _, rfl, rfl, ?_⟩
      dsimp only [gName]
      refine ⟨_, rfl, ?_⟩
      refine ⟨_, rfl, .inl ⟨_, rfl, by rw [mkS_len]; exact line_of (by omega), _, rfl, line_of (by simp only [str_len, len_0, mkS_len]; omega), ?_⟩⟩
      refine ⟨_, rfl, line_of (by simp only [str_len, len_0, len_sent, mkS_len]; omega), ?_⟩
      refine ⟨_, rfl, .inr ⟨_, rfl, log_small (by omega) (by omega), numS x.s, rfl, line_of (by simp only [str_len, len_0, len_sent, mkS_len]; omega), ?_⟩⟩
      refine ⟨_, rfl, line_of (by simp only [str_len, len_0, len_sent, len_back, mkS_len]; omega), ?_⟩
      refine ⟨_, rfl, .inr ⟨_, rfl, log_small (by omega) (by omega), numS x.b, rfl, line_of (by simp only [str_len, len_0, len_sent, len_back, mkS_len]; omega), ?_⟩⟩
      refine ⟨_, rfl, line_of (by simp only [str_len, len_0, len_sent, len_back, len_swears, mkS_len]; omega), ?_⟩
      refine ⟨_, rfl, .inr ⟨_, rfl, log_small (by omega) (by omega), numS x.lo, rfl, line_of (by simp only [str_len, len_0, len_sent, len_back, len_swears, mkS_len]; omega), ?_⟩⟩
      refine ⟨_, rfl, line_of (by simp only [str_len, len_0, len_sent, len_back, len_swears, len_to, mkS_len]; omega), ?_⟩
      refine ⟨_, rfl, .inr ⟨_, rfl, log_small (by omega) (by omega), numS x.hi, rfl, line_of (by simp only [str_len, len_0, len_sent, len_back, len_swears, len_to, mkS_len]; omega), ?_⟩⟩
      have hr0 : (row0 x).length ≤ 100 := by
        unfold row0
        simp only [str_len, len_0, len_sent, len_back, len_swears, len_to, mkS_len]
        omega
      show ∃ i j : Str, _
      refine ⟨_, row0 x, rfl, rfl, line_of (by omega), ?_⟩
      refine ⟨_, _, rfl, rfl, line_of (by simp only [str_len, len_lf]; omega), ?_⟩
      have e : catS ((ls.take (i + 1)).map row1) = catS ((ls.take i).map row1) ++ row0 x ++ "\n" := by
        rw [take_snoc hx, List.map_append]
        show catS (((ls.take i).map row1) ++ [row1 x]) = _
        rw [catS_snoc, str_assoc]
        rfl
      exact ⟨rfl, some (.str (mkS x.nm)), some (.int x.s), some (.int x.b), some (.int x.lo), some (.int x.hi), by rw [e]; rfl⟩
    · rintro σ H' ⟨rfl, v4, v5, v6, v7, v8, rfl⟩
      rw [List.length_map, hA.1, List.take_length]
      refine ⟨_, rfl, pl, _, rfl, .inl (SqL.of eL), fun ph nh => ?_⟩
      dsimp only [gName]
      generalize hH5 : upd _ ph _ = H5
      obtain ⟨s5, e5⟩ := gen_new hH5 nh
      clear hH5
      refine ⟨_, rfl, ph, as, ls, rfl, SqL.of e5, hA.same s5, hO, hl200, fun H6 s6 => ?_⟩
      dsimp only [gName]
      have lowL : ∀ x ∈ ls, low x.nm := fun x hx => (hO x hx).nm.2.2
      refine ⟨_, rfl, _, _, _, _, true, rfl, .ty _, .base (.str _), kit_ty (by decide +kernel), _, rfl, ?_⟩
      refine iteT ?_
      refine ⟨_, rfl, _, rfl, rfl, _, rfl, ite_yes (decide_eq_true rfl) ?_⟩
      refine ⟨_, rfl, _, rfl, _, _, (hA.same (s5.trans s6)).dp (SqL.of (s6 _ _ e5)), (hA.same (s5.trans s6)).dp (SqL.of ((s5.trans s6) _ _ eL)), shp_lets lowL, shp_lets lowL, ?_⟩
      exact bl_true (eqv_self (shp_lets lowL)) (k _)
end
end Ts.k11
end
namespace Ts.k11
open PySem PySem.Spec PyProof.Rows L2 Ts
/-! ### the end -/
theorem fl_mk {K : PySem.W.Frag} {h : Heap} {mg : Str → Option Value} {x : Str} {st : Stmt} {ps : List Str} {f : Addr} {oc kV doc pm cdv ct : Value} {od an : Option Addr} {osl : Array (Option Value)} (X : K.In h) (G : h.Ns mainGlobals mg)
    (n : PySem.W.nsIn K mainGlobals x = some (some (.ref f))) (l : K.lookup f = some ⟨oc, od, .func (PySem.W.fnOf x x (defArgs st) (defBody st) (defScope st) .none kV doc pm an cdv ct), osl⟩) (c : PySem.W.codeIn K cdv x = true) (k : PySem.W.keepIn K (.ref f) = true)
    (b : ∀ us : List Value, us.length = ps.length → bindArgs (PySem.W.fnOf x x (defArgs st) (defBody st) (defScope st) .none kV doc pm an cdv ct) ⟨us, []⟩ = pure (ps.zip us)) :
    Dfn K mg x st ps f (PySem.W.fnOf x x (defArgs st) (defBody st) (defScope st) .none kV doc pm an cdv ct) :=
  ⟨fun_mk l c k, PySem.W.mg_of X G n, .all b⟩
theorem all_mk {l : PySem.W.OpenLaw} {w : World} {K : PySem.W.Frag} {h : Heap} {mg : Str → Option Value} {fa f_written f_row_of f_cell_at f_mix f_big f_word f_names f_letter f_law  : Addr} (X : K.In h) (G : h.Ns mainGlobals mg) (hfa : mg "law" = some (.ref fa))
    {od_written an_written od_row_of an_row_of od_cell_at an_cell_at od_mix an_mix od_big an_big od_word an_word od_names an_names od_letter an_letter od_law an_law : Option Addr} {sl_written sl_row_of sl_cell_at sl_mix sl_big sl_word sl_names sl_letter sl_law : Array (Option Value)} {oc_written kV_written dc_written pm_written cd_written ct_written oc_row_of kV_row_of dc_row_of pm_row_of cd_row_of ct_row_of oc_cell_at kV_cell_at dc_cell_at pm_cell_at cd_cell_at ct_cell_at oc_mix kV_mix dc_mix pm_mix cd_mix ct_mix oc_big kV_big dc_big pm_big cd_big ct_big oc_word kV_word dc_word pm_word cd_word ct_word oc_names kV_names dc_names pm_names cd_names ct_names oc_letter kV_letter dc_letter pm_letter cd_letter ct_letter oc_law kV_law dc_law pm_law cd_law ct_law : Value}
    (a_written : PySem.W.nsIn K mainGlobals "written" = some (some (.ref f_written))) (l_written : K.lookup f_written = some ⟨oc_written, od_written, .func (PySem.W.fnOf "written" "written" (defArgs s_written) (defBody s_written) (defScope s_written) .none kV_written dc_written pm_written an_written cd_written ct_written), sl_written⟩) (k_written : PySem.W.codeIn K cd_written "written" = true) (e_written : PySem.W.keepIn K (.ref f_written) = true)
    (a_row_of : PySem.W.nsIn K mainGlobals "row_of" = some (some (.ref f_row_of))) (l_row_of : K.lookup f_row_of = some ⟨oc_row_of, od_row_of, .func (PySem.W.fnOf "row_of" "row_of" (defArgs s_row_of) (defBody s_row_of) (defScope s_row_of) .none kV_row_of dc_row_of pm_row_of an_row_of cd_row_of ct_row_of), sl_row_of⟩) (k_row_of : PySem.W.codeIn K cd_row_of "row_of" = true) (e_row_of : PySem.W.keepIn K (.ref f_row_of) = true)
    (a_cell_at : PySem.W.nsIn K mainGlobals "_law_cell_at" = some (some (.ref f_cell_at))) (l_cell_at : K.lookup f_cell_at = some ⟨oc_cell_at, od_cell_at, .func (PySem.W.fnOf "_law_cell_at" "_law_cell_at" (defArgs s_cell_at) (defBody s_cell_at) (defScope s_cell_at) .none kV_cell_at dc_cell_at pm_cell_at an_cell_at cd_cell_at ct_cell_at), sl_cell_at⟩) (k_cell_at : PySem.W.codeIn K cd_cell_at "_law_cell_at" = true) (e_cell_at : PySem.W.keepIn K (.ref f_cell_at) = true)
    (a_mix : PySem.W.nsIn K mainGlobals "_law_mix" = some (some (.ref f_mix))) (l_mix : K.lookup f_mix = some ⟨oc_mix, od_mix, .func (PySem.W.fnOf "_law_mix" "_law_mix" (defArgs s_mix) (defBody s_mix) (defScope s_mix) .none kV_mix dc_mix pm_mix an_mix cd_mix ct_mix), sl_mix⟩) (k_mix : PySem.W.codeIn K cd_mix "_law_mix" = true) (e_mix : PySem.W.keepIn K (.ref f_mix) = true)
    (a_big : PySem.W.nsIn K mainGlobals "_law_big" = some (some (.ref f_big))) (l_big : K.lookup f_big = some ⟨oc_big, od_big, .func (PySem.W.fnOf "_law_big" "_law_big" (defArgs s_big) (defBody s_big) (defScope s_big) .none kV_big dc_big pm_big an_big cd_big ct_big), sl_big⟩) (k_big : PySem.W.codeIn K cd_big "_law_big" = true) (e_big : PySem.W.keepIn K (.ref f_big) = true)
    (a_word : PySem.W.nsIn K mainGlobals "_law_word" = some (some (.ref f_word))) (l_word : K.lookup f_word = some ⟨oc_word, od_word, .func (PySem.W.fnOf "_law_word" "_law_word" (defArgs s_word) (defBody s_word) (defScope s_word) .none kV_word dc_word pm_word an_word cd_word ct_word), sl_word⟩) (k_word : PySem.W.codeIn K cd_word "_law_word" = true) (e_word : PySem.W.keepIn K (.ref f_word) = true)
    (a_names : PySem.W.nsIn K mainGlobals "_law_names" = some (some (.ref f_names))) (l_names : K.lookup f_names = some ⟨oc_names, od_names, .func (PySem.W.fnOf "_law_names" "_law_names" (defArgs s_names) (defBody s_names) (defScope s_names) .none kV_names dc_names pm_names an_names cd_names ct_names), sl_names⟩) (k_names : PySem.W.codeIn K cd_names "_law_names" = true) (e_names : PySem.W.keepIn K (.ref f_names) = true)
    (a_letter : PySem.W.nsIn K mainGlobals "_law_letter" = some (some (.ref f_letter))) (l_letter : K.lookup f_letter = some ⟨oc_letter, od_letter, .func (PySem.W.fnOf "_law_letter" "_law_letter" (defArgs s_letter) (defBody s_letter) (defScope s_letter) .none kV_letter dc_letter pm_letter an_letter cd_letter ct_letter), sl_letter⟩) (k_letter : PySem.W.codeIn K cd_letter "_law_letter" = true) (e_letter : PySem.W.keepIn K (.ref f_letter) = true)
    (a_law : PySem.W.nsIn K mainGlobals "law" = some (some (.ref f_law))) (l_law : K.lookup f_law = some ⟨oc_law, od_law, .func (PySem.W.fnOf "law" "law" (defArgs s_law) (defBody s_law) (defScope s_law) .none kV_law dc_law pm_law an_law cd_law ct_law), sl_law⟩) (k_law : PySem.W.codeIn K cd_law "law" = true) (e_law : PySem.W.keepIn K (.ref f_law) = true)
    (b_len : PySem.W.nsIn K mainGlobals "len" = some none)
    (b_range : PySem.W.nsIn K mainGlobals "range" = some none)
    (b_sorted : PySem.W.nsIn K mainGlobals "sorted" = some none)
    (b_list : PySem.W.nsIn K mainGlobals "list" = some none)
    (b_isinstance : PySem.W.nsIn K mainGlobals "isinstance" = some none)
    (b_str : PySem.W.nsIn K mainGlobals "str" = some none)
    : ∃ fd : FuncData, (∀ (s : Shared) (v : Value), BindsTo s fd ⟨[v], []⟩ [("_law_script", v)]) ∧ ∀ base : Heap, K.In base → base.Ns mainGlobals mg → FnOk l.prog w K mg base CX0 4 fa fd ["_law_script"] (spLaw K) := by
  have e := hfa.symm.trans (PySem.W.mg_of X G a_law)
  cases e
  have T : Txt K mg (Ad.mk f_written (PySem.W.fnOf "written" "written" (defArgs s_written) (defBody s_written) (defScope s_written) .none kV_written dc_written pm_written an_written cd_written ct_written) f_row_of (PySem.W.fnOf "row_of" "row_of" (defArgs s_row_of) (defBody s_row_of) (defScope s_row_of) .none kV_row_of dc_row_of pm_row_of an_row_of cd_row_of ct_row_of) f_cell_at (PySem.W.fnOf "_law_cell_at" "_law_cell_at" (defArgs s_cell_at) (defBody s_cell_at) (defScope s_cell_at) .none kV_cell_at dc_cell_at pm_cell_at an_cell_at cd_cell_at ct_cell_at) f_mix (PySem.W.fnOf "_law_mix" "_law_mix" (defArgs s_mix) (defBody s_mix) (defScope s_mix) .none kV_mix dc_mix pm_mix an_mix cd_mix ct_mix) f_big (PySem.W.fnOf "_law_big" "_law_big" (defArgs s_big) (defBody s_big) (defScope s_big) .none kV_big dc_big pm_big an_big cd_big ct_big) f_word (PySem.W.fnOf "_law_word" "_law_word" (defArgs s_word) (defBody s_word) (defScope s_word) .none kV_word dc_word pm_word an_word cd_word ct_word) f_names (PySem.W.fnOf "_law_names" "_law_names" (defArgs s_names) (defBody s_names) (defScope s_names) .none kV_names dc_names pm_names an_names cd_names ct_names) f_letter (PySem.W.fnOf "_law_letter" "_law_letter" (defArgs s_letter) (defBody s_letter) (defScope s_letter) .none kV_letter dc_letter pm_letter an_letter cd_letter ct_letter) fa (PySem.W.fnOf "law" "law" (defArgs s_law) (defBody s_law) (defScope s_law) .none kV_law dc_law pm_law an_law cd_law ct_law)) := {
    written := fl_mk X G a_written l_written k_written e_written (fun us hl => match us, hl with | [_], _ => rfl)
    row_of := fl_mk X G a_row_of l_row_of k_row_of e_row_of (fun us hl => match us, hl with | [_], _ => rfl)
    cell_at := fl_mk X G a_cell_at l_cell_at k_cell_at e_cell_at (fun us hl => match us, hl with | [_, _], _ => rfl)
    mix := fl_mk X G a_mix l_mix k_mix e_mix (fun us hl => match us, hl with | [_, _], _ => rfl)
    big := fl_mk X G a_big l_big k_big e_big (fun us hl => match us, hl with | [_, _], _ => rfl)
    word := fl_mk X G a_word l_word k_word e_word (fun us hl => match us, hl with | [_, _], _ => rfl)
    names := fl_mk X G a_names l_names k_names e_names (fun us hl => match us, hl with | [_], _ => rfl)
    letter := fl_mk X G a_letter l_letter k_letter e_letter (fun us hl => match us, hl with | [_, _, _], _ => rfl)
    law := fl_mk X G a_law l_law k_law e_law (fun us hl => match us, hl with | [_], _ => rfl)
    b_len := PySem.W.mg_none_of X G b_len
    b_range := PySem.W.mg_none_of X G b_range
    b_sorted := PySem.W.mg_none_of X G b_sorted
    b_list := PySem.W.mg_none_of X G b_list
    b_isinstance := PySem.W.mg_none_of X G b_isinstance
    b_str := PySem.W.mg_none_of X G b_str }
  exact ⟨_, fun s v => .of_eq rfl, fun base _ _ => ok_law T⟩
theorem walk {l : PySem.W.OpenLaw} {q : Program} {loose : List Str} {XP : (Str → Option Value) → Heap → Prop} {YP : World → Heap → Prop} {d : DefRec} {K : Params → PySem.W.Frag} (hn : l.most = some 63) (hdf : d.params.defaults = [])
    (hY : ∀ (w : World) (h : Heap), YP w h → (K w.params).In h)
    (F : ∀ (w : World) (mg : Str → Option Value) (fa : Addr) (h : Heap), (K w.params).In h → h.Ns mainGlobals mg → mg d.name = some (.ref fa) →
      ∃ fd : FuncData, (∀ (s : Shared) (u : Value), BindsTo s fd ⟨[u], []⟩ [("_law_script", u)]) ∧ ∀ base : Heap, (K w.params).In base → base.Ns mainGlobals mg → FnOk l.prog w (K w.params) mg base CX0 4 fa fd ["_law_script"] (spLaw (K w.params))) :
    PySem.W.WalkO q loose XP YP l.row.toRowW d [] (fun f vs => PySem.call f vs) :=
  L2.walk_of (n := 63) (k := 4) (x := "_law_script") (CX := fun _ => CX0) (sp := fun w => spLaw (K w.params)) hn (by decide) hdf ⟨rfl, by decide, by decide⟩ hY F (fun _ _ a ns hl _ hS => ⟨a, ns, rfl, hS, hl, fun _ => rfl⟩) fun _ _ _ _ _ z => z
end Ts.k11
open PySem PySem.W PyProof.Rows
set_option maxRecDepth 100000 in
set_option maxHeartbeats 0 in
theorem PySem.Challenge.cw_timestretch_k11_written_holds : PySem.Challenge.rw_timestretch_k11_written.Holds := by
  w_on; o_law; k_head; (case hw => w_witness2)
  k_fill
  refine Ts.k11.walk (l := PySem.Challenge.rw_timestretch_k11_written) rfl rfl (fun w h Y => PySem.W.kIn_of Y) ?F
  case F =>
    intro w mg fa h KX G hmg
    refine' Ts.k11.all_mk KX G hmg ?a_written ?l_written ?k_written ?e_written ?a_row_of ?l_row_of ?k_row_of ?e_row_of ?a_cell_at ?l_cell_at ?k_cell_at ?e_cell_at ?a_mix ?l_mix ?k_mix ?e_mix ?a_big ?l_big ?k_big ?e_big ?a_word ?l_word ?k_word ?e_word ?a_names ?l_names ?k_names ?e_names ?a_letter ?l_letter ?k_letter ?e_letter ?a_law ?l_law ?k_law ?e_law ?b_len ?b_range ?b_sorted ?b_list ?b_isinstance ?b_str
    (case a_written => k_is)
    (case l_written => k_is)
    (case k_written => k_is)
    (case e_written => k_is)
    (case a_row_of => k_is)
    (case l_row_of => k_is)
    (case k_row_of => k_is)
    (case e_row_of => k_is)
    (case a_cell_at => k_is)
    (case l_cell_at => k_is)
    (case k_cell_at => k_is)
    (case e_cell_at => k_is)
    (case a_mix => k_is)
    (case l_mix => k_is)
    (case k_mix => k_is)
    (case e_mix => k_is)
    (case a_big => k_is)
    (case l_big => k_is)
    (case k_big => k_is)
    (case e_big => k_is)
    (case a_word => k_is)
    (case l_word => k_is)
    (case k_word => k_is)
    (case e_word => k_is)
    (case a_names => k_is)
    (case l_names => k_is)
    (case k_names => k_is)
    (case e_names => k_is)
    (case a_letter => k_is)
    (case l_letter => k_is)
    (case k_letter => k_is)
    (case e_letter => k_is)
    (case a_law => k_is)
    (case l_law => k_is)
    (case k_law => k_is)
    (case e_law => k_is)
    (case b_len => k_is)
    (case b_range => k_is)
    (case b_sorted => k_is)
    (case b_list => k_is)
    (case b_isinstance => k_is)
    (case b_str => k_is)
