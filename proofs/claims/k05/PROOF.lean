import PyProof.Rows.All
import Wide.All
import OpenK.AllK
import Wide.FinOn
import PyProof.EqAt
import PyProof.EqKinds
import PyProof.TupleCall
import HandS.ForMost
import HandS.ForExc
import HandS.HotCalls
import HandS.ExcIs
import HandS.IsInst
import HandS.NoneIn
import PySem.Challenge.RW_timestretch_k05_how_long_it_lasts
set_option Elab.async false
set_option linter.all false
set_option maxRecDepth 100000
set_option maxHeartbeats 4000000
section
/-! A caught error handed to a def: the def's promise speaks of the error's own class. -/
namespace Ts
open PySem PySem.Spec PyProof.Rows L2
abbrev St := L2.St

/-- a promise about a caught error: its place, its class -/
abbrev SpE := Addr → Value → Sp

/-- the def at f, called within an except suite that holds the error -/
structure FnE (P : Program) (w : World) (K : PySem.W.Frag) (mg : Str → Option Value) (base : Heap) (k : Nat)
    (f : Addr) (fd : FuncData) (ps : List Str) (sp : SpE) : Prop where
  len : ∀ a c vs H Q E, sp a c vs H Q E → vs.length = ps.length
  run : ∀ (A : Around) (outer : List Env) (s : Shared) (H : Hp) (args : Args) (us : List Value) (vs : List V) (Q : VK) (E : XK)
    (p : Addr × Obj) (c : Value),
    L2H.RoomH k A → L2H.PinOk outer H s p → Zc c none p.2 → (∃ v, p.2.data = .fields v) →
    Env0 P w K mg base A outer s H → BindsTo s fd args (ps.zip us) → Vals vs us → sp p.1 c vs H Q E →
    codeAny (model P w) A (.call (.ref f) args) (CR CX0 outer P w H s Q E) s

theorem fnE_of {P : Program} {w : World} {K : PySem.W.Frag} {mg : Str → Option Value} {base : Heap} {k : Nat}
    {x qual : Str} {st : Stmt} {f : Addr} {fd : FuncData} {N ps : List Str} {sp : SpE}
    (F : Fun K x qual st f fd) (S : FnScope N ps (defScope st))
    (len : ∀ a c vs H Q E, sp a c vs H Q E → vs.length = ps.length)
    (body : ∀ (cdv : Value) (A : Around) (outer : List Env) (s : Shared) (H : Hp) (vs : List V) (Q : VK) (E : XK)
      (p : Addr × Obj) (c : Value), Zc c none p.2 → (∃ v, p.2.data = .fields v) →
      L2H.RoomH k (A.deeper (envOfC qual (defScope st) s.heap.objs.size f cdv)) → sp p.1 c vs H Q E →
      ∃ t, PSs (L2H.cxH CX0 P w K mg base N qual (defScope st) f cdv A outer s H E p) (defBody st) t ∧
        t { nx := fun _ H' => Q .non H', rt := Q } (start N vs) H) :
    FnE P w K mg base (k + 1) f fd ps sp := by
  obtain ⟨oc, od, kV, doc, pm, an, cdv, ct, osl, hfd, lk, hcd⟩ := F.ex
  subst hfd
  constructor
  · exact len
  intro A outer s H args us vs Q E p c hr hpin hz hf e0 hb r hsp
  have hl := len _ _ _ _ _ _ hsp
  have old : ∀ b o, base.get? b = some o → s.heap.get? b = some o := fun b o e => (e0.bs b o e).1
  have lim := e0.mod.nolimit.keeps old
  have kinds : ∀ y ∈ ps.zip us, (defScope st).names.lookup y.1 = some .local ∨
      ((defScope st).names.lookup y.1 = some .cell ∧
        ((cellsFrom (s.heap.objs.size + 1) (defScope st).names []).lookup y.1).isSome = true) := by
    rintro ⟨n, v⟩ hy
    cases S.par n (List.of_mem_zip hy).1 with
    | inl q => exact .inl q
    | inr q => exact .inr ⟨q, PySem.W.cellsFrom_some _ _ _ (.inl q)⟩
  refine codeAny_call_function hr.depth ((e0.mod.kin.keeps old) _ _ lk) rfl S.co S.gen rfl
    (PySem.W.codeRec_of (e0.mod.kin.keeps old) hcd) (hb _ _ _ _ ?_)
  refine wpAny_newFunctionEnv_cells S.kind kinds ?_
  intro env he s1 x1
  subst he
  refine ⟨lim.keeps x1.toInCall.keep, codeAny_func ?_⟩
  obtain ⟨t, ht, hq⟩ := body cdv A outer s H vs Q E p c hz hf (hr.deeper _) hsp
  have I := L2H.inv_startH (CX := CX0) (E := E) S hpin e0 hl r x1
  have goal := ht.run [] s1 (start N vs) H _ I hq
  refine wpAny_mono goal ?_ (fun _ _ z => z)
  intro fl s' hs
  have fin : ∀ {σ' : St} {H' : Hp} {v : V} {u : Value},
      Inv (L2H.cxH CX0 P w K mg base N qual (defScope st) f cdv A outer s H E p) [] σ' H' s' → RelV v u → Q v H' →
      CE outer P w H s Q u s' :=
    fun {_ H' v _} J rv q => ⟨v, H', J.os, J.bare, J.base, J.hok, rv, q⟩
  cases fl with
  | ret u => exact match hs with | ⟨_, _, _, J, rv, q⟩ => fin J rv q
  | next => exact match hs with | ⟨_, _, J, q⟩ => fin (v := V.non) (u := Value.none) J rfl q
  | brk => exact match hs with | ⟨_, _, _, q⟩ => q.elim
  | cont => exact match hs with | ⟨_, _, _, q⟩ => q.elim

/-- g(e, ..) in a suite that holds the error p -/
def tCallE (sp : SpE) (a : Addr) (c : Value) (d : Option Addr) (t : TA) : TE := fun σ H Q => t σ H fun vs H1 => d = none ∧ sp a c vs H1 Q E0
theorem pe_callE {X : Cx} {k : Nat} {f : Addr} {fd : FuncData} {ps : List Str} {sp : SpE} {x : Str} {q pos : Pos} {e : Expr} {es : List Expr} {t : TA} {p : Addr × Obj} {c : Value} {d : Option Addr}
    (F : FnE X.prog X.w X.K X.mg X.base k f fd ps sp) (hr : L2H.RoomH k X.A) (hp : p ∈ X.pn) (hz : Zc c d p.2) (hf : ∃ v, p.2.data = .fields v)
    (hm : X.mg x = some (.ref f)) (hk : PySem.W.keepIn X.K (.ref f) = true) (hb : Binds X.K fd ps [])
    (ha : PA X (e :: es) t) (hg : Gl X x := by rfl) (hdb : (x == ("__debug__" : Str)) = false := by decide)
    (he : starEach (e :: es) X.env = (false, eval e X.env) :: starEach es X.env := by rfl) (hpl : (backTo pos (starEach es X.env)).any (·.1) = false := by rfl) :
    PE X (.Call (.Name x q) (e :: es) [] pos) (tCallE sp p.1 c d t) := by
  constructor
  intro pins s σ H Q I h
  refine wpAny_Call_Name_kw (ld_glob I hg hm ?_ hdb)
  refine PySem.W.callWith_K (h₀ := X.base) I.ok.mod.kin hk (thn (ha.run pos pins s σ H _ I h) ?_) he hpl
  rintro us s1 ⟨vs, H1, I1, r, hd, w1⟩
  subst hd
  refine ⟨I1.kIn, ?_⟩
  have n1 : us.length = ps.length := by rw [← r.length]; exact F.len _ _ _ _ _ _ w1
  have b := hb s1 us I1.kIn (by rw [List.append_nil]; exact n1)
  rw [List.append_nil] at b
  have P1 := I1.pin p (List.mem_append_left _ hp)
  have ns : p.1 ∉ frs X.stack := fun hm => by
    cases List.mem_cons.mp (I1.stkSub p.1 hm) with
    | inl z => exact P1.2.2.1 z
    | inr z => exact P1.2.2.2.1 z
  refine wpAny_call (codeAny_mono (F.run X.A X.stack s1 H1 ⟨us, []⟩ us vs Q E0 p c hr ⟨P1.1, P1.2.1, ns, P1.2.2.2.2⟩ hz hf I1.env0 b r w1) ?_)
  intro r' s' hq
  cases r' with
  | error e => exact hq.elim
  | ok fl => cases fl with
    | ret u => exact I1.after hq
    | next => exact hq.elim
    | brk => exact hq.elim
    | cont => exact hq.elim

theorem rm_suite {j k : Nat} {A : Around} {v : Option Value} (hr : Room k A) (h : j ≤ k) : L2H.RoomH j (A.mark v) := L2H.RoomH.mono (k := k) ⟨hr.dp, hr.un⟩ h
/-- isinstance(e, c), e the error that X holds -/
theorem call_isP {X : Cx} {D : Addr} {p : Addr × Obj} (C : ExcC X.K D) (hp : p ∈ X.pn) (hz : Zc (.ref D) none p.2) (hf : ∃ v, p.2.data = .fields v) :
    CallR X (.builtin "isinstance") (rIsE X.K D p.1) := by
  rintro pins s σ H xs us Q I r ⟨c, cv, b, rfl, hcv, e, q⟩
  obtain ⟨a, oe⟩ := p
  match r with
  | .cons rx (.cons rt .nil) =>
    cases rx
    have ec := hcv _ rt
    subst ec
    have hget := (I.pin (a, oe) (List.mem_append_left _ hp)).1
    have J : PySem.W.InstAt s.heap a oe D none := by
      obtain ⟨v, hv⟩ := hf
      obtain ⟨h1, h2⟩ := hz
      obtain ⟨oc, od, oda, osl⟩ := oe
      dsimp only at hv h1 h2
      subst hv h1 h2
      exact ⟨hget, rfl, rfl, trivial⟩
    refine PySem.W.kia_one (PySem.W.handS_kitx_exc C.hg C.hk C.hs C.hd C.ha C.hn C.ht C.hm) I.kIn J e (fun z => nomatch z) ?_
    intro tk
    exact ⟨.bl b, H, I.kept (t' := tk) fun _ _ z => z, rfl, q⟩

/-- xs.count(y), flat items -/
def rCount (K : PySem.W.Frag) : V → List V → Hp → VK → Prop := fun x xs H Q => ∃ (a : Addr) (ys : List V) (y : V), x = .ref a ∧ xs = [y] ∧ SqL K H a ys ∧ flatV y = true ∧ ys.all flatV = true ∧ Q (.int ((ys.countP fun z => eqV z y : Nat) : Int)) H
theorem count_eqU {x : V} : ∀ {xs : List V} {us : List Value}, Vals xs us → xs.all flatV = true → us.countP (eqU x) = xs.countP fun y => eqV y x
  | _, _, .nil, _ => rfl
  | y :: xs, u :: us, .cons r t, f => by
    rw [List.all_cons, Bool.and_eq_true] at f
    rw [List.countP_cons, List.countP_cons, eqU_of r f.1, count_eqU t f.2]
theorem mt_count {X : Cx} : MtR X "list.count" (rCount X.K) := by
  rintro pins s σ H x xs v us Q I rx rxs ⟨a, ys, y, rfl, rfl, hs, fy, fys, q⟩
  cases rx
  match rxs with
  | .cons (b := uy) ry .nil =>
    obtain ⟨its, rv, ⟨⟨cls, dd, data, sl⟩, n, ho, hc, hdn, hd⟩, hlen⟩ := I.list hs
    simp only at hc hd
    subst hc hd
    refine call_meets PySem.F.slot_list_count ⟨_, ho, rfl⟩ PySem.F.entry_list_count (PySem.F.args_list_count_2 _ _) (SeqAt.list_countAt a its.toArray n dd sl uy (eqU y)) ⟨ho, ?_, ?_⟩
    · exact fun u hu => mem_eqAt ry fy rv fys u (by simpa using hu)
    · refine ⟨.int ((ys.countP fun z => eqV z y : Nat) : Int), H, I.tok _, ⟨s.toks, ?_⟩, q⟩
      rw [← count_eqU rv fys]
end Ts
end
section
namespace Ts
open PySem PySem.Spec PyProof.Rows L2

theorem pe_imp {X : Cx} {e : Expr} {t t' : TE} (h : PE X e t) (q : ∀ σ H Q, t' σ H Q → t σ H Q) : PE X e t' :=
  ⟨fun pins s σ H Q I w => h.run pins s σ H Q I (q σ H Q w)⟩
theorem opr_imp {X : Cx} {f : Value → Value → Sem Value} {r r' : R2} (h : OpR X f r) (q : ∀ x y H Q, r' x y H Q → r x y H Q) : OpR X f r' :=
  fun pins s σ H x y v u Q I rx ry w => h pins s σ H x y v u Q I rx ry (q x y H Q w)
theorem ixr_imp {X : Cx} {r r' : R2} (h : IxR X r) (q : ∀ x y H Q, r' x y H Q → r x y H Q) : IxR X r' :=
  fun value slice pins s σ H x y v u Q I rx ry w => h value slice pins s σ H x y v u Q I rx ry (q x y H Q w)

/-- an operation by a written number -/
def rByC (c : Int) (g : Int → V) : R2 := fun x y H Q => ∃ i, x = .int i ∧ y = .int c ∧ Q (g i) H
section
variable {X : Cx} {c : Int}
theorem op_modc (hc : (0 : Int) < c) : OpR X (binaryOp .Mod) (rByC c fun i => .int (i % c)) :=
  opr_imp op_mod fun _ _ _ _ h => match h with | ⟨i, e1, e2, q⟩ => ⟨i, c, e1, e2, hc, q⟩
theorem op_divc (hc : (0 : Int) < c) (h2 : c < 1073741824) : OpR X (binaryOp .FloorDiv) (rByC c fun i => .int (i / c)) :=
  opr_imp op_fdiv fun _ _ _ _ h => match h with | ⟨i, e1, e2, q⟩ => ⟨i, c, e1, e2, ⟨hc, h2⟩, q⟩
theorem op_mulc (hc : -(2 ^ 64) < c ∧ c < 2 ^ 64) : OpR X (binaryOp .Mult) (rByC c fun i => .int (i * c)) :=
  opr_imp op_mul fun _ _ _ _ h => match h with | ⟨i, e1, e2, q⟩ => ⟨i, c, e1, e2, Or.inr hc, q⟩
end
/-- c * e with a written number c -/
def rOfC (c : Int) (g : Int → V) : R2 := fun x y H Q => ∃ i, x = .int c ∧ y = .int i ∧ Q (g i) H
theorem op_cmul {X : Cx} {c : Int} (hc : -(2 ^ 64) < c ∧ c < 2 ^ 64) : OpR X (binaryOp .Mult) (rOfC c fun i => .int (c * i)) :=
  opr_imp op_mul fun _ _ _ _ h => match h with | ⟨i, e1, e2, q⟩ => ⟨c, i, e1, e2, Or.inl hc, q⟩
theorem pe_negc {X : Cx} {c : Int} {k : Nat} {p pos : Pos} : PE X (.UnaryOp .USub (.Constant (.int c) k p) pos) (tC (.int (-c))) :=
  pe_imp (pe_un un_neg pe_int) fun _ _ _ h => ⟨c, rfl, h⟩
theorem pe_powc {X : Cx} {n m : Int} {k k' : Nat} {p p' pos : Pos} (h0 : 0 ≤ m ∧ m ≤ 1000000 ∧ n.natAbs < 2 ^ 64) : PE X (.BinOp (.Constant (.int n) k p) .Pow (.Constant (.int m) k' p') pos) (tC (.int (n ^ m.toNat))) :=
  pe_imp (pe_op op_pow pe_int pe_int) fun _ _ _ h => ⟨n, m, rfl, rfl, h0, h⟩
theorem pe_pow12 {X : Cx} {k k' : Nat} {p p' pos : Pos} : PE X (.BinOp (.Constant (.int 10) k p) .Pow (.Constant (.int 12) k' p') pos) (tC (.int 1000000000000)) := pe_powc (by decide)
theorem pe_pow24 {X : Cx} {k k' : Nat} {p p' pos : Pos} : PE X (.BinOp (.Constant (.int 10) k p) .Pow (.Constant (.int 24) k' p') pos) (tC (.int 1000000000000000000000000)) := pe_powc (by decide)
theorem pe_pow40 {X : Cx} {k k' : Nat} {p p' pos : Pos} : PE X (.BinOp (.Constant (.int 10) k p) .Pow (.Constant (.int 40) k' p') pos) (tC (.int 10000000000000000000000000000000000000000)) := pe_powc (by decide)

theorem pe_gint {X : Cx} {x : Str} {c : Int} {t : Tok} {pos : Pos} (hm : X.mg x = some (.int c t)) (hg : Gl X x := by rfl) (hd : (x == ("__debug__" : Str)) = false := by decide) : PE X (.Name x pos) (tC (.int c)) := pe_glob hg hm ⟨_, rfl⟩ hd
theorem pe_gref {X : Cx} {x : Str} {C : Addr} {pos : Pos} (hm : X.mg x = some (.ref C)) (hg : Gl X x := by rfl) (hd : (x == ("__debug__" : Str)) = false := by decide) : PE X (.Name x pos) (tC (.ref C)) := pe_glob hg hm rfl hd
theorem pe_bty {X : Cx} {x : Str} {n : String} {pos : Pos} (hm : X.mg x = none) (hv : bootBuiltins x = some (.type n)) (hg : Gl X x := by rfl) (hn : x ≠ "__name__" := by decide) (hd : (x == ("__debug__" : Str)) = false := by decide) : PE X (.Name x pos) (tC (.ty n)) := pe_bltn hg hm hv rfl hn hd
/-! ### rules whose reading names K itself (under a binder X's own K is no answer) -/
section
variable {X : Cx} (K : PySem.W.Frag)
theorem ixL (h : X.K = K := by rfl) : IxR X (rIxL K) := h ▸ ix_list
theorem ixT (h : X.K = K := by rfl) : IxR X (rIxT K) := h ▸ ix_tup
theorem slL (h : X.K = K := by rfl) : SlR X (rSlL K) := h ▸ sl_list
theorem slT (h : X.K = K := by rfl) : SlR X (rSlT K) := h ▸ sl_tup
def rLenQ (K : PySem.W.Frag) : List V → Hp → VK → Prop := fun xs H Q => ∃ p ys, xs = [.ref p] ∧ (SqL K H p ys ∨ SqT K H p ys) ∧ Q (.int ys.length) H
theorem lenK (h : X.K = K := by rfl) : CallR X (.builtin "len") (rLenQ K) := h ▸ call_len_seq
def rListQ (K : PySem.W.Frag) : List V → Hp → VK → Prop := fun xs H Q => ∃ p ys, xs = [.ref p] ∧ (SqL K H p ys ∨ SqT K H p ys) ∧ ∀ l, H l = none → Q (.ref l) (upd H l (.lst ys))
theorem listK (h : X.K = K := by rfl) : CallR X (.type "list") (rListQ K) := h ▸ call_list_of
theorem isiK (h : X.K = K := by rfl) : CallR X (.builtin "isinstance") (rIsi K) := h ▸ call_isi
theorem eqDK (hu : X.A.units + 64 < cLine) (h : X.K = K := by rfl) : OpR X (compareOp .Eq) (rEqD K) := h ▸ op_eqD hu
theorem neDK (hu : X.A.units + 64 < cLine) (h : X.K = K := by rfl) : OpR X (compareOp .NotEq) (rNeD K) := h ▸ op_neD hu
theorem inK (h : X.K = K := by rfl) : OpR X (compareOp .In) (rIn K false) := h ▸ op_in_seq
theorem niK (h : X.K = K := by rfl) : OpR X (compareOp .NotIn) (rIn K true) := h ▸ op_notIn_seq
theorem piL {tg l : Expr} {tl : TE} (hl : PE X l tl) (h : X.K = K := by rfl) : PI X tg l (iList K tl) := h ▸ pi_list hl
theorem piT {tg l : Expr} {tl : TE} (hl : PE X l tl) (h : X.K = K := by rfl) : PI X tg l (iTup K tl) := h ▸ pi_tup hl
theorem sortK (h : X.K = K := by rfl) : CallR X (.builtin "sorted") (rSorted K) := h ▸ cr_sorted
theorem maxK (hc : X.calm = true) (h : X.K = K := by rfl) : CallR X (.builtin "max") (rMax K) := h ▸ cr_max hc
theorem minK (hc : X.calm = true) (h : X.K = K := by rfl) : CallR X (.builtin "min") (rMin K) := h ▸ cr_min hc
end
/-! ### an item of a list -/
/-- an item at a place that lies in the list -/
theorem at_in {xs : List V} {i : Int} (h0 : 0 ≤ i) (h1 : i < xs.length) : ∃ v, v ∈ xs ∧ xs[i.toNat]? = some v ∧ atI xs i = some v := by
  have hn : i.toNat < xs.length := by omega
  refine ⟨xs[i.toNat], List.getElem_mem hn, List.getElem?_eq_getElem hn, ?_⟩
  exact at_of (j := i.toNat) (by omega) (List.getElem?_eq_getElem hn)
/-- xs[i], i in bounds: any of them -/
theorem ix_any {K : PySem.W.Frag} {H : Hp} {p : Addr} {xs : List V} {i : Int} {Q : VK} (P : V → Prop) (h : SqL K H p xs) (h0 : 0 ≤ i) (h1 : i < xs.length) (hp : ∀ v ∈ xs, P v) (q : ∀ v, P v → Q v H) : rIxL K (.ref p) (.int i) H Q := by
  obtain ⟨v, hm, _, ha⟩ := at_in h0 h1
  exact ⟨p, xs, i, v, rfl, rfl, h, ha, q v (hp v hm)⟩
/-- the same of numbers -/
theorem ix_int {K : PySem.W.Frag} {H : Hp} {p : Addr} {xs : List V} {i : Int} {Q : VK} (P : Int → Prop) (h : SqL K H p xs) (h0 : 0 ≤ i) (h1 : i < xs.length) (hp : ∀ v ∈ xs, ∃ j, v = .int j ∧ P j) (q : ∀ j, P j → Q (.int j) H) : rIxL K (.ref p) (.int i) H Q :=
  ix_any (fun v => ∃ j, v = .int j ∧ P j) h h0 h1 hp fun _ ⟨j, e, pj⟩ => e ▸ q j pj
theorem all1 {P : V → Prop} {a : V} (ha : P a) : ∀ v ∈ [a], P v := fun v hv => by
  rw [List.mem_singleton] at hv
  exact hv ▸ ha
theorem allc {P : V → Prop} {a : V} {l : List V} (ha : P a) (hl : ∀ v ∈ l, P v) : ∀ v ∈ a :: l, P v := fun v hv => by
  rcases List.mem_cons.mp hv with e | e
  · exact e ▸ ha
  · exact hl v e
theorem SqL.here {K : PySem.W.Frag} {H : Hp} {p : Addr} {xs : List V} : SqL K (upd H p (.lst xs)) p xs := SqL.of upd_same
theorem same_new {H : Hp} {p : Addr} {o : HO} (h : H p = none) : Same H (upd H p o) := fun b u e => by rw [upd_ne (ne_of_none e h)]; exact e
theorem Same.seqT {K : PySem.W.Frag} {H H' : Hp} {a : Addr} {xs : List V} (e : Same H H') (h : SqT K H a xs) : SqT K H' a xs := by
  rcases h with (h | ⟨o, h⟩) | h
  · exact .inl (.inl (e _ _ h))
  · exact .inl (.inr ⟨o, e _ _ h⟩)
  · exact .inr h

/-! ### a def of the text by its name -/
structure Dfn (K : PySem.W.Frag) (mg : Str → Option Value) (x : Str) (st : Stmt) (ps : List Str) (f : Addr) (fd : FuncData) : Prop where
  F : Fun K x x st f fd
  g : mg x = some (.ref f)
  b : Binds K fd ps []
section
variable {X : Cx} {k : Nat} {f : Addr} {fd : FuncData} {ps : List Str} {sp : Sp} {st : Stmt} {x : Str} {p pos : Pos} {e : Expr} {es : List Expr} {t : TA}
/-- a call that raises nothing -/
theorem pe_cl (G : FnOk X.prog X.w X.K X.mg X.base CX0 k f fd ps sp) (D : Dfn X.K X.mg x st ps f fd) (hr : Room k X.A) (ha : PA X (e :: es) t) (hg : Gl X x := by rfl) (hdb : (x == ("__debug__" : Str)) = false := by decide)
    (he : starEach (e :: es) X.env = (false, eval e X.env) :: starEach es X.env := by rfl) (hpl : (backTo pos (starEach es X.env)).any (·.1) = false := by rfl) : PE X (.Call (.Name x p) (e :: es) [] pos) (tCall sp [] E0 t) :=
  pe_call G hr hg D.g D.F.kp D.b .nil pass0 ha hdb he hpl
/-- a call of a def that may raise, in a def that may raise: the error goes on -/
theorem pe_clX {E : XK} (G : FnOk X.prog X.w X.K X.mg X.base (L2.CX X.prog X.w) k f fd ps sp) (D : Dfn X.K X.mg x st ps f fd) (hr : Room k X.A) (tk : Takes X (fun cls d _ H => E cls d H)) (ha : PA X (e :: es) t) (hg : Gl X x := by rfl) (hdb : (x == ("__debug__" : Str)) = false := by decide)
    (he : starEach (e :: es) X.env = (false, eval e X.env) :: starEach es X.env := by rfl) (hpl : (backTo pos (starEach es X.env)).any (·.1) = false := by rfl) : PE X (.Call (.Name x p) (e :: es) [] pos) (tCall sp [] E t) :=
  pe_call G hr hg D.g D.F.kp D.b .nil (passes_call tk fun _ _ _ _ h => h) ha hdb he hpl
/-- a call of a def that may raise, where it does not -/
theorem pe_cl0 (G : FnOk X.prog X.w X.K X.mg X.base (L2.CX X.prog X.w) k f fd ps sp) (D : Dfn X.K X.mg x st ps f fd) (hr : Room k X.A) (ha : PA X (e :: es) t) (hg : Gl X x := by rfl) (hdb : (x == ("__debug__" : Str)) = false := by decide)
    (he : starEach (e :: es) X.env = (false, eval e X.env) :: starEach es X.env := by rfl) (hpl : (backTo pos (starEach es X.env)).any (·.1) = false := by rfl) : PE X (.Call (.Name x p) (e :: es) [] pos) (tCall sp [] E0 t) :=
  pe_call G hr hg D.g D.F.kp D.b .nil passL ha hdb he hpl
/-- a call of a def that may raise, in a try's body -/
theorem pe_clT {W : WX} (G : FnOk X.prog X.w X.K X.mg X.base (L2.CX X.prog X.w) k f fd ps sp) (D : Dfn X.K X.mg x st ps f fd) (hr : Room k X.A) (tk : Takes X W) (ha : PA X (e :: es) t) (hg : Gl X x := by rfl) (hdb : (x == ("__debug__" : Str)) = false := by decide)
    (he : starEach (e :: es) X.env = (false, eval e X.env) :: starEach es X.env := by rfl) (hpl : (backTo pos (starEach es X.env)).any (·.1) = false := by rfl) : PE X (.Call (.Name x p) (e :: es) [] pos) (tCallS sp (WE W) t) :=
  pe_callS G hr hg D.g D.F.kp D.b (fun σ => passAt tk σ) ha hdb he hpl
end
/-! ### an error class of the program -/
structure Err (K : PySem.W.Frag) (mg : Str → Option Value) (x : Str) (C : Addr) : Prop where
  g : mg x = some (.ref C)
  x : PySem.W.excIn K C [.type "ValueError", .type "Exception", .type "BaseException", .type "object"] "ValueError.__new__" = true
  k : PySem.W.keepIn K (.ref C) = true
  s : PySem.W.subIn K (.ref C) (.type "BaseException") = some true
  t : PySem.W.typeIn K (.ref C) = some (.type "type")
theorem ps_rs {X : Cx} {W : WX} {x m : Str} {C : Addr} {j : Nat} {p p2 pos pos2 : Pos} (hc : X.calm = true) (tk : Takes X W) (T : Err X.K X.mg x C) (hg : Gl X x := by rfl) (hdb : (x == ("__debug__" : Str)) = false := by decide) :
    PS X (.Raise (some (.Call (.Name x p) [.Constant (.str m) j p2] [] pos)) none pos2) (fun _ σ H => W (.ref C) none σ H) :=
  ps_raise hc tk (pmk_own PySem.F.excBase_ValueError T.x T.g T.k (raises_own T.s T.t) hg hdb)
theorem gen_new {H H3 : Hp} {p : Addr} {o : HO} (h : upd H p o = H3) (np : H p = none) : Same H H3 ∧ H3 p = some o := by
  subst h
  exact ⟨same_new np, upd_same⟩
theorem perm2 {ns : List Int} {x y : Int} (h : ns.Perm [x, y]) (s : ns.Pairwise (· ≤ ·)) : ∃ a b, ns = [a, b] ∧ a ≤ b ∧ ((a = x ∧ b = y) ∨ (a = y ∧ b = x)) := by
  have hl : ns.length = 2 := h.length_eq
  match ns, hl with
  | [a, b], _ =>
    refine ⟨a, b, rfl, (List.pairwise_cons.mp s).1 b List.mem_cons_self, ?_⟩
    have ha : a = x ∨ a = y := by
      have z := h.mem_iff.mp (List.mem_cons_self (a := a) (l := [b]))
      simpa using z
    rcases ha with rfl | rfl
    · have z := (List.perm_cons a).mp h
      exact Or.inl ⟨rfl, by simpa using z⟩
    · have z : [a, b].Perm [a, x] := h.trans (List.Perm.swap a x [])
      have z2 := (List.perm_cons a).mp z
      exact Or.inr ⟨rfl, by simpa using z2⟩
/-- sorted of a list of two numbers -/
theorem sorted2 {K : PySem.W.Frag} {H : Hp} {p : Addr} {x y : Int} {Q : VK} (h : SqL K H p [.int x, .int y])
    (q : ∀ (a b : Int) (p' : Addr), a ≤ b → ((a = x ∧ b = y) ∨ (a = y ∧ b = x)) → H p' = none → Q (.ref p') (upd H p' (.lst [.int a, .int b]))) : rSorted K [.ref p] H Q := by
  refine ⟨p, [x, y], rfl, h, (by show 2 < 64; decide), fun ns' p' hp hs np => ?_⟩
  obtain ⟨a, b, e, hab, hxy⟩ := perm2 hp hs
  subst e
  exact q a b p' hab hxy np
/-- behind a statement one goes on from what it leaves -/
theorem seq_cut {t u : TS} {D : Ends} {σ : L2.St} {H : Hp} (P : L2.St → Hp → Prop) (h1 : ∀ N : L2.St → Hp → Prop, (∀ σ' H', P σ' H' → N σ' H') → t { D with nx := N } σ H)
    (h2 : ∀ σ' H', P σ' H' → u D σ' H') : tSeq t u D σ H := h1 (u D) h2
theorem bl_true {Q : VK} {H : Hp} {b : Bool} (h : b = true) (q : Q (.bl true) H) : Q (.bl b) H := h.symm ▸ q
theorem bl_false {Q : VK} {H : Hp} {b : Bool} (h : b = false) (q : Q (.bl false) H) : Q (.bl b) H := h.symm ▸ q
/-- a test that is known -/
theorem ite_yes {c : Bool} {A B : Prop} (h : c = true) (q : A) : if c = true then A else B := by
  rw [if_pos h]
  exact q
theorem ite_no {c : Bool} {A B : Prop} (h : c = false) (q : B) : if c = true then A else B := by
  rw [if_neg (by rw [h]; exact Bool.false_ne_true)]
  exact q
theorem dec_int {i j : Int} : decide (V.int i = V.int j) = decide (i = j) := by
  by_cases h : i = j
  · rw [decide_eq_true h, decide_eq_true (by rw [h])]
  · rw [decide_eq_false h, decide_eq_false (fun z => h (V.int.inj z))]
/-- a == b on numbers, as a test: both ways -/
theorem ite_eq {i j : Int} {A B : Prop} (h1 : i = j → A) (h2 : i ≠ j → B) : if decide (V.int i = V.int j) = true then A else B := by
  rw [dec_int]
  exact ite2 (fun z => h1 (of_decide_eq_true z)) (fun z => h2 fun e => z (decide_eq_true e))
/-- a < b and its kin: both ways -/
theorem ite_dec {p : Prop} [Decidable p] {A B : Prop} (h1 : p → A) (h2 : ¬ p → B) : if decide p = true then A else B :=
  ite2 (fun z => h1 (of_decide_eq_true z)) (fun z => h2 fun e => z (decide_eq_true e))
end Ts
end
section
namespace Ts
open PySem PySem.Spec PyProof.Rows L2

/-- what the class at D, the j-th of cs, must say of itself -/
structure Kd (K : PySem.W.Frag) (cs : List Addr) (S D : Addr) (j : Nat) : Prop where
  ex : ExcC K D
  em : PySem.W.exmOne K (.ref D) (.ref S) = some true
  ve : PySem.W.kitOne K (.ref D) (.type "ValueError") = some true
  bit : ∀ (i : Nat) (c : Addr), cs[i]? = some c → PySem.W.kitOne K (.ref D) (.ref c) = some (decide (i = j))
  lt : j < 10
theorem exm_sub {K : PySem.W.Frag} {C D : Addr} (h1 : PySem.W.subIn K (.ref C) (.type "BaseException") = some true) (h2 : PySem.W.hasDictIn K C = true) (h3 : PySem.W.typeIn K (.ref C) = some (.type "type"))
    (h4 : PySem.W.subIn K (.ref D) (.ref C) = some true) : PySem.W.exmOne K (.ref D) (.ref C) = some true := PySem.W.exm_ref h1 h2 h3 h4
theorem kd_mk {K : PySem.W.Frag} {S D c0 c1 c2 c3 c4 c5 c6 c7 c8 c9 : Addr} {j : Nat} {b0 b1 b2 b3 b4 b5 b6 b7 b8 b9 : Bool} (ex : ExcC K D) (em : PySem.W.exmOne K (.ref D) (.ref S) = some true) (ve : PySem.W.kitOne K (.ref D) (.type "ValueError") = some true)
    (q0 : PySem.W.kitOne K (.ref D) (.ref c0) = some b0) (q1 : PySem.W.kitOne K (.ref D) (.ref c1) = some b1) (q2 : PySem.W.kitOne K (.ref D) (.ref c2) = some b2) (q3 : PySem.W.kitOne K (.ref D) (.ref c3) = some b3) (q4 : PySem.W.kitOne K (.ref D) (.ref c4) = some b4)
    (q5 : PySem.W.kitOne K (.ref D) (.ref c5) = some b5) (q6 : PySem.W.kitOne K (.ref D) (.ref c6) = some b6) (q7 : PySem.W.kitOne K (.ref D) (.ref c7) = some b7) (q8 : PySem.W.kitOne K (.ref D) (.ref c8) = some b8) (q9 : PySem.W.kitOne K (.ref D) (.ref c9) = some b9)
    (hj : j < 10 := by decide) (hb : [b0, b1, b2, b3, b4, b5, b6, b7, b8, b9] = (List.range 10).map fun i => decide (i = j) := by decide) : Kd K [c0, c1, c2, c3, c4, c5, c6, c7, c8, c9] S D j where
  ex := ex
  em := em
  ve := ve
  lt := hj
  bit := fun i c h => by
    have e : ∀ {b : Bool}, [b0, b1, b2, b3, b4, b5, b6, b7, b8, b9][i]? = some b → b = decide (i = j) := fun {b} hi => by
      rw [hb, List.getElem?_map] at hi
      cases hr : (List.range 10)[i]? with
      | none => rw [hr] at hi; cases hi
      | some k =>
        rw [hr] at hi
        obtain ⟨_, e1⟩ := List.getElem?_eq_some_iff.mp hr
        rw [List.getElem_range] at e1
        rw [e1]
        exact (Option.some.inj hi).symm
    match i, h with
    | 0, h => cases h; rw [q0, e rfl]
    | 1, h => cases h; rw [q1, e rfl]
    | 2, h => cases h; rw [q2, e rfl]
    | 3, h => cases h; rw [q3, e rfl]
    | 4, h => cases h; rw [q4, e rfl]
    | 5, h => cases h; rw [q5, e rfl]
    | 6, h => cases h; rw [q6, e rfl]
    | 7, h => cases h; rw [q7, e rfl]
    | 8, h => cases h; rw [q8, e rfl]
    | 9, h => cases h; rw [q9, e rfl]
    | i + 10, h => simp at h

def kwords : List Str := ["name", "letter", "off", "early", "count", "none", "wide", "many", "clock", "text"]
def kword (j : Nat) : Str := kwords.getD j "other"
def spKind (K : PySem.W.Frag) (cs : List Addr) (S : Addr) : SpE := fun a c vs H Q _ => ∃ (D : Addr) (j : Nat), c = .ref D ∧ vs = [.ref a] ∧ Kd K cs S D j ∧ ∀ H', Same H H' → Q (.str (kword j)) H'
def kbits (j : Nat) : List V := (List.range 10).map fun i => V.bl (decide (i = j))
theorem kbits_eq (j : Nat) : kbits j = [V.bl (decide (0 = j)), V.bl (decide (1 = j)), V.bl (decide (2 = j)), V.bl (decide (3 = j)), V.bl (decide (4 = j)), V.bl (decide (5 = j)), V.bl (decide (6 = j)), V.bl (decide (7 = j)), V.bl (decide (8 = j)), V.bl (decide (9 = j))] := rfl
theorem k10 {j : Nat} (h : j < 10) {P : Nat → Prop} (p : P 0 ∧ P 1 ∧ P 2 ∧ P 3 ∧ P 4 ∧ P 5 ∧ P 6 ∧ P 7 ∧ P 8 ∧ P 9) : P j := by
  obtain ⟨p0, p1, p2, p3, p4, p5, p6, p7, p8, p9⟩ := p
  match j, h with
  | 0, _ => exact p0
  | 1, _ => exact p1
  | 2, _ => exact p2
  | 3, _ => exact p3
  | 4, _ => exact p4
  | 5, _ => exact p5
  | 6, _ => exact p6
  | 7, _ => exact p7
  | 8, _ => exact p8
  | 9, _ => exact p9
theorem kbits_count {j : Nat} (h : j < 10) : (kbits j).countP (fun z => eqV z (.bl true)) = 1 := k10 (P := fun j => (kbits j).countP (fun z => eqV z (.bl true)) = 1) h (by decide)
theorem kbits_flat (j : Nat) : (kbits j).all flatV = true := by rw [kbits_eq]; rfl
theorem kbits_at {j : Nat} (h : j < 10) : (kbits j)[j]? = some (.bl true) := k10 (P := fun j => (kbits j)[j]? = some (.bl true)) h (by decide)
theorem kbits_no {j : Nat} (h : j < 10) : ∀ (m : Nat) (z : V), m < j → (kbits j)[m]? = some z → eqV z (.bl true) = false := fun m z hm hz => by
  unfold kbits at hz
  rw [List.getElem?_map] at hz
  have e : (List.range 10)[m]? = some m := by rw [List.getElem?_range (by omega)]
  rw [e] at hz
  have e2 : V.bl (decide (m = j)) = z := Option.some.inj hz
  rw [← e2, decide_eq_false (by omega)]
  rfl
theorem kword_at {j : Nat} (h : j < 10) : atI (kwords.map V.str) ((j : Nat) : Int) = some (.str (kword j)) := by
  refine atI_nat ?_
  rw [List.getElem?_map]
  have e : kwords[j]? = some (kword j) := k10 (P := fun j => kwords[j]? = some (kword j)) h (by refine ⟨rfl, rfl, rfl, rfl, rfl, rfl, rfl, rfl, rfl, rfl⟩)
  rw [e]
  rfl
end Ts
end
section
namespace Ts.k05
open PySem PySem.Spec PyProof.Rows L2 Ts
/-! ### promises of the law's own helpers -/
def spMix : Sp := fun vs H Q _ => ∃ c k : Int, vs = [.int c, .int k] ∧ ∀ r : Int, 0 ≤ r → r < 999983 → Q (.int r) H
def spBig : Sp := fun vs H Q _ => ∃ c k : Int, vs = [.int c, .int k] ∧ ∀ (r : Int) (H' : Hp), 0 ≤ r → r ≤ 1000000000000 → Same H H' → Q (.int r) H'
def spOff : Sp := fun vs H Q _ => ∃ c : Int, vs = [.int c] ∧ ∀ (r : Int) (H' : Hp), 0 ≤ r → r ≤ 999 → Same H H' → Q (.int r) H'
/-- the least number not less than p times o by 1000 -/
def slk (p o : Int) : Int := (p * o + 999) / 1000
def spSlack : Sp := fun vs H Q _ => ∃ p o : Int, vs = [.int p, .int o] ∧ -1000000 < o ∧ o < 1000000 ∧ Q (.int (slk p o)) H
def spCellAt (K : PySem.W.Frag) : Sp := fun vs H Q _ => ∃ (l : Addr) (ns : List Int) (j : Nat), vs = [.ref l, .int (j : Int)] ∧ SqL K H l (ns.map V.int) ∧ Q (.int (ns.getD j 0)) H
def spWhole (K : PySem.W.Frag) : Sp := fun vs H Q _ => ∃ i : Int, vs = [.int i] ∧ Q (.bl true) H
def spLaw (K : PySem.W.Frag) : Sp := fun vs H Q _ => ∃ (a : Addr) (ns : List Int), vs = [.ref a] ∧ SqL K H a (ns.map V.int) ∧ ns.length ≤ 63 ∧ ∀ H', Q (.bl true) H'

def okOff (o : Int) : Prop := 0 ≤ o ∧ o ≤ 999
def spCheckOff (C : Addr) : Sp := fun vs H Q E => ∃ o : Int, vs = [.int o] ∧ (okOff o → Q .non H) ∧ (¬ okOff o → E (.ref C) none H)

def spLongest : Sp := fun vs H Q _ => ∃ s o : Int, vs = [.int s, .int o] ∧ 0 < o ∧ o < 1000 ∧ Q (.int (s * 1000 / o)) H
def spLasting (K : PySem.W.Frag) (cO cW : Addr) : Sp := fun vs H Q E => ∃ (t : Addr) (lo hi o w : Int), vs = [.ref t, .int o, .int w] ∧ H t = some (.tup [.int lo, .int hi]) ∧
  (¬ okOff o → E (.ref cO) none H) ∧ (okOff o → w < hi - lo → E (.ref cW) none H) ∧ (o = 0 → hi - lo ≤ w → Q .non H) ∧
  (okOff o → o ≠ 0 → hi - lo ≤ w → ∀ p : Int, 0 ≤ p → hi - lo + 2 * slk p o ≤ w → w < hi - lo + 2 * slk (p + 1) o → Q (.int p) H)
def spTold : Sp := fun vs H Q _ => ∃ (t : Addr) (lo hi o w : Int), vs = [.ref t, .int o, .int w] ∧ H t = some (.tup [.int lo, .int hi]) ∧
  (¬ okOff o → ∀ (u : Addr) (H' : Hp), H' u = some (.tup [.int 0, .str "off"]) → Q (.ref u) H') ∧ (okOff o → w < hi - lo → ∀ (u : Addr) (H' : Hp), H' u = some (.tup [.int 0, .str "wide"]) → Q (.ref u) H') ∧
  (o = 0 → hi - lo ≤ w → ∀ (u : Addr) (H' : Hp), H' u = some (.tup [.non, .str ""]) → Q (.ref u) H') ∧
  (okOff o → o ≠ 0 → hi - lo ≤ w → ∀ p : Int, 0 ≤ p → hi - lo + 2 * slk p o ≤ w → w < hi - lo + 2 * slk (p + 1) o → ∀ (u : Addr) (H' : Hp), H' u = some (.tup [.int p, .str ""]) → Q (.ref u) H')

/-! ### the text by places -/
def top (i : Nat) : Stmt := PySem.Challenge.pw_timestretch_k05_how_long_it_lasts.main.body.getD i (.Pass ⟨0, 0, 0, 0⟩)
abbrev s_check_off : Stmt := top 14
abbrev s_longest_within : Stmt := top 15
abbrev s_lasting : Stmt := top 17
abbrev s_whole : Stmt := top 19
abbrev s_cell_at : Stmt := top 20
abbrev s_mix : Stmt := top 21
abbrev s_big : Stmt := top 22
abbrev s_off : Stmt := top 23
abbrev s_slack : Stmt := top 24
abbrev s_kind : Stmt := top 25
abbrev s_told : Stmt := top 26
abbrev s_law : Stmt := top 27
/-! ### where things stand, and what the top has written -/
structure Ad where
  f_check_off : Addr
  d_check_off : FuncData
  f_longest_within : Addr
  d_longest_within : FuncData
  f_lasting : Addr
  d_lasting : FuncData
  f_whole : Addr
  d_whole : FuncData
  f_cell_at : Addr
  d_cell_at : FuncData
  f_mix : Addr
  d_mix : FuncData
  f_big : Addr
  d_big : FuncData
  f_off : Addr
  d_off : FuncData
  f_slack : Addr
  d_slack : FuncData
  f_kind : Addr
  d_kind : FuncData
  f_told : Addr
  d_told : FuncData
  f_law : Addr
  d_law : FuncData
  c_StretchError : Addr
  c_BadName : Addr
  c_BadLetter : Addr
  c_BadOff : Addr
  c_TooEarly : Addr
  c_BadCount : Addr
  c_NoAgreement : Addr
  c_TooWide : Addr
  c_TooMany : Addr
  c_NoClock : Addr
  c_NoText : Addr
def Ad.cs (a : Ad) : List Addr := [a.c_BadName, a.c_BadLetter, a.c_BadOff, a.c_TooEarly, a.c_BadCount, a.c_NoAgreement, a.c_TooWide, a.c_TooMany, a.c_NoClock, a.c_NoText]
structure Txt (K : PySem.W.Frag) (mg : Str → Option Value) (a : Ad) : Prop where
  check_off : Dfn K mg "check_off" s_check_off ["off"] a.f_check_off a.d_check_off
  longest_within : Dfn K mg "longest_within" s_longest_within ["spread", "off"] a.f_longest_within a.d_longest_within
  lasting : Dfn K mg "lasting" s_lasting ["stretch", "off", "width"] a.f_lasting a.d_lasting
  whole : Dfn K mg "_law_whole" s_whole ["_law_found"] a.f_whole a.d_whole
  cell_at : Dfn K mg "_law_cell_at" s_cell_at ["_law_script", "_law_k"] a.f_cell_at a.d_cell_at
  mix : Dfn K mg "_law_mix" s_mix ["_law_cell", "_law_k"] a.f_mix a.d_mix
  big : Dfn K mg "_law_big" s_big ["_law_cell", "_law_k"] a.f_big a.d_big
  off : Dfn K mg "_law_off" s_off ["_law_cell"] a.f_off a.d_off
  slack : Dfn K mg "_law_slack" s_slack ["_law_passed", "_law_off_here"] a.f_slack a.d_slack
  kind : Dfn K mg "_law_kind" s_kind ["_law_e"] a.f_kind a.d_kind
  told : Dfn K mg "_law_told" s_told ["_law_stretch", "_law_off_here", "_law_width"] a.f_told a.d_told
  law : Dfn K mg "law" s_law ["_law_script"] a.f_law a.d_law
  StretchError : Err K mg "StretchError" a.c_StretchError
  BadName : Err K mg "BadName" a.c_BadName
  BadLetter : Err K mg "BadLetter" a.c_BadLetter
  BadOff : Err K mg "BadOff" a.c_BadOff
  TooEarly : Err K mg "TooEarly" a.c_TooEarly
  BadCount : Err K mg "BadCount" a.c_BadCount
  NoAgreement : Err K mg "NoAgreement" a.c_NoAgreement
  TooWide : Err K mg "TooWide" a.c_TooWide
  TooMany : Err K mg "TooMany" a.c_TooMany
  NoClock : Err K mg "NoClock" a.c_NoClock
  NoText : Err K mg "NoText" a.c_NoText
  kd_BadOff : Kd K a.cs a.c_StretchError a.c_BadOff 2
  kd_TooWide : Kd K a.cs a.c_StretchError a.c_TooWide 6
  b_isinstance : mg "isinstance" = none
  b_bool : mg "bool" = none
  b_int : mg "int" = none
  b_len : mg "len" = none
  b_ValueError : mg "ValueError" = none
  c_GREATEST_OFF : ∃ t, mg "GREATEST_OFF" = some (.int 999 t)
section
variable {P : Program} {w : World} {K : PySem.W.Frag} {mg : Str → Option Value} {base : Heap} {a : Ad}
/-! ### check_off -/
abbrev n_check_off : List Str := ["off"]
theorem sc_check_off : FnScope ["off"] ["off"] (defScope s_check_off) := ⟨rfl, rfl, rfl, by decide +kernel, rfl, by decide +kernel, by decide +kernel⟩
theorem ok_check_off (T : Txt K mg a) : FnOk P w K mg base (L2.CX P w) 1 a.f_check_off a.d_check_off ["off"] (spCheckOff a.c_BadOff) := by
  refine T.check_off.F.okX sc_check_off (fun vs H Q E h => ?_) (fun cdv A outer s H vs Q E hr h => ?_)
  · obtain ⟨o, rfl, q, e⟩ := h
    rfl
  · obtain ⟨o, rfl, q, e⟩ := h
    have hu := hu_of hr
    obtain ⟨tk_GREATEST_OFF, hc_GREATEST_OFF⟩ := T.c_GREATEST_OFF
    refine ⟨_, (pss_one (ps_if (pt_not (pt_chain op_le op_le pe_int (pv 0) (pe_gint hc_GREATEST_OFF))) (pss_one (ps_rs rfl (takes_of rfl rfl rfl rfl) T.BadOff)) pss_nil)), ?_⟩
    refine ⟨_, rfl, _, _, rfl, rfl, _, rfl, ?_⟩
    refine ite2 (fun z => ?_) (fun z => ?_)
    · have z0 := of_decide_eq_true z
      refine ⟨_, _, rfl, rfl, _, rfl, ?_⟩
      refine ite2 (fun y => ?_) (fun y => ?_)
      · refine e fun ok => ?_
        have y2 : decide (o ≤ 999) = true := decide_eq_true ok.2
        rw [y2] at y
        cases y
      · refine q ⟨z0, ?_⟩
        by_cases h9 : o ≤ 999
        · exact h9
        · exact absurd (by rw [decide_eq_false h9]; rfl) y
    · refine ⟨_, rfl, ?_⟩
      refine iteT ?_
      exact e fun ok => z (decide_eq_true ok.1)
/-! ### longest_within -/
abbrev n_longest_within : List Str := ["spread", "off"]
theorem sc_longest_within : FnScope ["spread", "off"] ["spread", "off"] (defScope s_longest_within) := ⟨rfl, rfl, rfl, by decide +kernel, rfl, by decide +kernel, by decide +kernel⟩
theorem ok_longest_within (T : Txt K mg a) : FnOk P w K mg base CX0 1 a.f_longest_within a.d_longest_within ["spread", "off"] (spLongest) := by
  refine T.longest_within.F.ok sc_longest_within (fun vs H Q E h => ?_) (fun cdv A outer s H vs Q E hr h => ?_)
  · obtain ⟨s, o, rfl, o0, o1, q⟩ := h
    rfl
  · obtain ⟨s, o, rfl, o0, o1, q⟩ := h
    have hu := hu_of hr
    refine ⟨_, (pss_one (ps_ret (pe_op op_fdiv (pe_op (op_mulc (c := 1000) (by decide)) (pv 0) pe_int) (pv 1)))), ?_⟩
    exact ⟨_, rfl, _, rfl, rfl, _, rfl, _, _, rfl, rfl, ⟨by omega, by omega⟩, q⟩
/-! ### lasting -/
abbrev n_lasting : List Str := ["stretch", "off", "width", "low", "high", "room"]
theorem sc_lasting : FnScope ["stretch", "off", "width", "low", "high", "room"] ["stretch", "off", "width"] (defScope s_lasting) := ⟨rfl, rfl, rfl, by decide +kernel, rfl, by decide +kernel, by decide +kernel⟩
theorem ok_lasting (T : Txt K mg a) : FnOk P w K mg base (L2.CX P w) 2 a.f_lasting a.d_lasting ["stretch", "off", "width"] (spLasting K a.c_BadOff a.c_TooWide) := by
  refine T.lasting.F.okX sc_lasting (fun vs H Q E h => ?_) (fun cdv A outer s H vs Q E hr h => ?_)
  · obtain ⟨t, lo, hi, o, w, rfl, hT, eO, eW, qN, q⟩ := h
    rfl
  · obtain ⟨t, lo, hi, o, w, rfl, hT, eO, eW, qN, q⟩ := h
    have hu := hu_of hr
    refine ⟨_, (pss_cons (ps_expr (pe_clX (ok_check_off T) T.check_off (hr.mono (by decide)) (takes_of rfl rfl rfl rfl) (pa_cons (pv 1) pa_nil)))
      (pss_cons (ps_asg (pv 0) (pg_tup (by rfl) (pgs_cons (pg_name (i := 3) sc_lasting.nd rfl (Or.inl rfl)) (pgs_cons (pg_name (i := 4) sc_lasting.nd rfl (Or.inl rfl)) pgs_nil))))
      (pss_cons (ps_set (i := 5) sc_lasting.nd rfl (Or.inl rfl) (pe_op op_sub (pv 2) (pe_op op_sub (pv 4) (pv 3))))
      (pss_cons (ps_if (pt_cmpR op_lt (pv 5) pe_int (nomark _)) (pss_one (ps_rs rfl (takes_of rfl rfl rfl rfl) T.TooWide)) pss_nil)
      (pss_cons (ps_if (pt_cmpR op_eq (pv 1) pe_int (nomark _)) (pss_one (ps_ret pe_non)) pss_nil)
      (pss_one (ps_ret (pe_cl (ok_longest_within T) T.longest_within (hr.mono (by decide)) (pa_cons (pe_op (op_divc (c := 2) (by decide) (by decide)) (pv 5) pe_int) (pa_cons (pv 1) pa_nil)))))))))), ?_⟩
    refine ⟨_, rfl, o, rfl, fun ok => ?_, eO⟩
    refine ⟨_, rfl, t, _, rfl, SqT.of (K := K) hT, rfl, _, _, rfl, _, _, rfl, rfl, ?_⟩
    dsimp only [gName]
    refine ⟨_, rfl, _, rfl, _, rfl, _, _, rfl, rfl, _, _, rfl, rfl, ?_⟩
    dsimp only [gName]
    refine ⟨_, rfl, _, _, rfl, rfl, _, rfl, ?_⟩
    refine ite_dec (fun h1 => eW ok (by omega)) (fun h1 => ?_)
    refine ⟨_, rfl, rfl, _, rfl, ?_⟩
    refine ite_eq (fun h2 => qN h2 (by omega)) (fun h2 => ?_)
    obtain ⟨o0, o1⟩ := id ok
    refine ⟨_, rfl, _, rfl, rfl, _, rfl, _, o, rfl, by omega, by omega, ?_⟩
    have hp : 0 ≤ (w - (hi - lo)) / 2 := by omega
    generalize hg : (w - (hi - lo)) / 2 = g at hp
    have k1 := Int.ediv_mul_le (g * 1000) h2
    have k2 := Int.lt_ediv_add_one_mul_self (g * 1000) (show 0 < o by omega)
    have k0 : 0 ≤ g * 1000 / o := Int.ediv_nonneg (by omega) o0
    show Q (.int (g * 1000 / o)) H
    generalize g * 1000 / o = p at k0 k1 k2 ⊢
    rw [Int.add_mul, Int.one_mul] at k2
    refine q ok h2 (by omega) p k0 ?_ ?_
    · have : slk p o ≤ g := by unfold slk; omega
      omega
    · have : g + 1 ≤ slk (p + 1) o := by
        unfold slk
        rw [Int.add_mul, Int.one_mul]
        generalize p * o = po at k1 k2 ⊢
        omega
      omega
/-! ### _law_whole -/
abbrev n_whole : List Str := ["_law_found"]
theorem sc_whole : FnScope ["_law_found"] ["_law_found"] (defScope s_whole) := ⟨rfl, rfl, rfl, by decide +kernel, rfl, by decide +kernel, by decide +kernel⟩
theorem ok_whole (T : Txt K mg a) : FnOk P w K mg base CX0 1 a.f_whole a.d_whole ["_law_found"] (spWhole K) := by
  refine T.whole.F.ok sc_whole (fun vs H Q E h => ?_) (fun cdv A outer s H vs Q E hr h => ?_)
  · obtain ⟨i, rfl, q⟩ := h
    rfl
  · obtain ⟨i, rfl, q⟩ := h
    have hu := hu_of hr
    refine ⟨_, (pss_one (ps_ret (pe_and (pe_callB (isiK K) (by rfl) T.b_isinstance (by decide +kernel) (pa_cons (pv 0) (pa_cons (pe_bty (n := "int") T.b_int (by decide +kernel)) pa_nil))) (pe_one (pe_not (pe_callB (isiK K) (by rfl) T.b_isinstance (by decide +kernel) (pa_cons (pv 0) (pa_cons (pe_bty (n := "bool") T.b_bool (by decide +kernel)) pa_nil)))))))), ?_⟩
    refine ⟨_, rfl, _, _, _, _, true, rfl, .ty _, .base (.int i), kit_ty (by decide +kernel), _, rfl, ?_⟩
    refine iteT ?_
    refine ⟨_, rfl, _, _, _, _, false, rfl, .ty _, .base (.int i), kit_ty (by decide +kernel), _, rfl, ?_⟩
    exact q
/-! ### _law_cell_at -/
abbrev n_cell_at : List Str := ["_law_script", "_law_k"]
theorem sc_cell_at : FnScope ["_law_script", "_law_k"] ["_law_script", "_law_k"] (defScope s_cell_at) := ⟨rfl, rfl, rfl, by decide +kernel, rfl, by decide +kernel, by decide +kernel⟩
theorem ok_cell_at (T : Txt K mg a) : FnOk P w K mg base CX0 1 a.f_cell_at a.d_cell_at ["_law_script", "_law_k"] (spCellAt K) := by
  refine T.cell_at.F.ok sc_cell_at (fun vs H Q E h => ?_) (fun cdv A outer s H vs Q E hr h => ?_)
  · obtain ⟨l, ns, j, rfl, hS, q⟩ := h
    rfl
  · obtain ⟨l, ns, j, rfl, hS, q⟩ := h
    have hu := hu_of hr
    refine ⟨_, (pss_cons (ps_if (pt_cmpR op_lt (pv 1) (pe_callB (lenK K) (by rfl) T.b_len boot_len (pa_cons (pv 0) pa_nil)) (nomark _)) (pss_one (ps_ret (pe_ix (ixL K) (pv 0) (pv 1) (fun _ _ => rfl)))) pss_nil)
      (pss_one (ps_ret pe_int))), ?_⟩
    refine ⟨_, rfl, _, rfl, _, _, rfl, .inl hS, _, _, rfl, rfl, _, rfl, ?_⟩
    have el : (ns.map V.int).length = ns.length := List.length_map ..
    refine ite2 (fun z => ?_) (fun z => ?_)
    · have z' : j < ns.length := by have := of_decide_eq_true z; omega
      have e : (ns.map V.int)[j]? = some (.int (ns.getD j 0)) := by rw [List.getElem?_map, List.getD_eq_getElem?_getD, List.getElem?_eq_getElem z']; rfl
      exact ⟨_, rfl, _, rfl, _, _, _, _, rfl, rfl, hS, atI_nat e, q⟩
    · have z' : ¬ (j < ns.length) := fun y => z (decide_eq_true (by omega))
      have e : ns.getD j 0 = 0 := by rw [List.getD_eq_getElem?_getD, List.getElem?_eq_none (by omega)]; rfl
      rw [e] at q
      exact q
/-! ### _law_mix -/
abbrev n_mix : List Str := ["_law_cell", "_law_k", "_law_number"]
theorem sc_mix : FnScope ["_law_cell", "_law_k", "_law_number"] ["_law_cell", "_law_k"] (defScope s_mix) := ⟨rfl, rfl, rfl, by decide +kernel, rfl, by decide +kernel, by decide +kernel⟩
theorem ok_mix (T : Txt K mg a) : FnOk P w K mg base CX0 1 a.f_mix a.d_mix ["_law_cell", "_law_k"] (spMix) := by
  refine T.mix.F.ok sc_mix (fun vs H Q E h => ?_) (fun cdv A outer s H vs Q E hr h => ?_)
  · obtain ⟨c, k, rfl, q⟩ := h
    rfl
  · obtain ⟨c, k, rfl, q⟩ := h
    have hu := hu_of hr
    refine ⟨_, (pss_cons (ps_set (i := 2) sc_mix.nd rfl (Or.inl rfl) (pe_op (op_modc (c := 1000003) (by decide)) (pe_op (op_mulc (c := 48271) (by decide)) (pe_op op_add (pe_op op_add (pv 0) (pe_op (op_cmul (c := 7919) (by decide)) pe_int (pv 1))) pe_int) pe_int) pe_int))
      (pss_one (ps_ret (pe_op (op_modc (c := 999983) (by decide)) (pe_op op_mul (pv 2) (pv 2)) pe_int)))), ?_⟩
    refine ⟨_, rfl, _, rfl, _, rfl, rfl, _, _, rfl, rfl, _, _, rfl, rfl, _, rfl, rfl, _, rfl, rfl, _, rfl, _, rfl, _, _, rfl, rfl, .inl ⟨by omega, by omega⟩, _, rfl, rfl, ?_⟩
    exact q _ (Int.emod_nonneg _ (by decide)) (Int.emod_lt_of_pos _ (by decide))
/-! ### _law_big -/
abbrev n_big : List Str := ["_law_cell", "_law_k", "_law_number"]
theorem sc_big : FnScope ["_law_cell", "_law_k", "_law_number"] ["_law_cell", "_law_k"] (defScope s_big) := ⟨rfl, rfl, rfl, by decide +kernel, rfl, by decide +kernel, by decide +kernel⟩
theorem ok_big (T : Txt K mg a) : FnOk P w K mg base CX0 2 a.f_big a.d_big ["_law_cell", "_law_k"] (spBig) := by
  refine T.big.F.ok sc_big (fun vs H Q E h => ?_) (fun cdv A outer s H vs Q E hr h => ?_)
  · obtain ⟨c, k, rfl, q⟩ := h
    rfl
  · obtain ⟨c, k, rfl, q⟩ := h
    have hu := hu_of hr
    refine ⟨_, (pss_cons (ps_set (i := 2) sc_big.nd rfl (Or.inl rfl) (pe_cl (ok_mix T) T.mix (hr.mono (by decide)) (pa_cons (pv 0) (pa_cons (pv 1) pa_nil))))
      (pss_cons (ps_if (pt_cmpR op_eq (pe_op (op_modc (c := 4) (by decide)) (pe_cl (ok_mix T) T.mix (hr.mono (by decide)) (pa_cons (pv 0) (pa_cons (pe_op op_add (pv 1) pe_int) pa_nil))) pe_int) pe_int (nomark _)) (pss_one (ps_ret (pe_op (op_modc (c := 30) (by decide)) (pv 2) pe_int))) pss_nil)
      (pss_cons (ps_if (pt_cmpR op_eq (pe_op (op_modc (c := 4) (by decide)) (pe_cl (ok_mix T) T.mix (hr.mono (by decide)) (pa_cons (pv 0) (pa_cons (pe_op op_add (pv 1) pe_int) pa_nil))) pe_int) pe_int (nomark _)) (pss_one (ps_ret (pe_op (op_modc (c := 3000) (by decide)) (pv 2) pe_int))) pss_nil)
      (pss_cons (ps_if (pt_cmpR op_eq (pe_op (op_modc (c := 4) (by decide)) (pe_cl (ok_mix T) T.mix (hr.mono (by decide)) (pa_cons (pv 0) (pa_cons (pe_op op_add (pv 1) pe_int) pa_nil))) pe_int) pe_int (nomark _)) (pss_one (ps_ret (pe_ix (ixL K) (pe_lst (pa_cons pe_int (pa_cons pe_int (pa_cons pe_pow12 (pa_cons (pe_op op_sub pe_pow12 pe_int) pa_nil))))) (pe_op (op_modc (c := 4) (by decide)) (pv 2) pe_int) (fun _ _ => rfl)))) pss_nil)
      (pss_one (ps_ret (pe_op op_mod (pe_op op_add (pe_op (op_mulc (c := 1000003) (by decide)) (pv 2) pe_int) (pe_cl (ok_mix T) T.mix (hr.mono (by decide)) (pa_cons (pv 0) (pa_cons (pe_op op_add (pv 1) pe_int) pa_nil)))) (pe_op op_add pe_pow12 pe_int)))))))), ?_⟩
    refine ⟨_, rfl, _, rfl, _, _, rfl, fun m m0 m1 => ?_⟩
    refine ⟨_, rfl, _, rfl, _, _, rfl, rfl, _, _, rfl, fun x x0 x1 => ?_⟩
    refine ⟨_, rfl, rfl, rfl, _, rfl, ?_⟩
    refine ite2 (fun z => ?_) (fun z => ?_)
    · refine ⟨_, rfl, _, rfl, rfl, ?_⟩
      exact q _ H (by omega) (by omega) (Same.refl H)
    refine ⟨_, rfl, _, rfl, _, _, rfl, rfl, _, _, rfl, fun y y0 y1 => ?_⟩
    refine ⟨_, rfl, rfl, rfl, _, rfl, ?_⟩
    refine ite2 (fun z => ?_) (fun z => ?_)
    · refine ⟨_, rfl, _, rfl, rfl, ?_⟩
      exact q _ H (by omega) (by omega) (Same.refl H)
    refine ⟨_, rfl, _, rfl, _, _, rfl, rfl, _, _, rfl, fun u u0 u1 => ?_⟩
    refine ⟨_, rfl, rfl, rfl, _, rfl, ?_⟩
    refine ite2 (fun z => ?_) (fun z => ?_)
    · refine ⟨_, _, rfl, rfl, (by show 4 ≤ sizeLine; decide), fun p np => ?_⟩
      refine ⟨_, rfl, _, rfl, rfl, ?_⟩
      refine ix_int (fun j => 0 ≤ j ∧ j ≤ 1000000000000) SqL.here (Int.emod_nonneg _ (by decide)) (Int.emod_lt_of_pos _ (by decide)) (allc ⟨_, rfl, by decide⟩ (allc ⟨_, rfl, by decide⟩ (allc ⟨_, rfl, by decide⟩ (all1 ⟨_, rfl, by decide⟩)))) fun j hj => ?_
      exact q j _ hj.1 hj.2 (same_new np)
    refine ⟨_, rfl, _, rfl, rfl, _, rfl, _, rfl, _, _, rfl, rfl, _, _, rfl, fun v v0 v1 => ?_⟩
    refine ⟨_, _, rfl, rfl, _, _, rfl, rfl, _, _, rfl, rfl, (by show (0 : Int) < 1000000000000 + 1; decide), ?_⟩
    exact q _ H (Int.emod_nonneg _ (by decide)) (Int.le_of_lt_add_one (Int.emod_lt_of_pos _ (by decide))) (Same.refl H)
/-! ### _law_off -/
abbrev n_off : List Str := ["_law_cell"]
theorem sc_off : FnScope ["_law_cell"] ["_law_cell"] (defScope s_off) := ⟨rfl, rfl, rfl, by decide +kernel, rfl, by decide +kernel, by decide +kernel⟩
theorem ok_off (T : Txt K mg a) : FnOk P w K mg base CX0 2 a.f_off a.d_off ["_law_cell"] (spOff) := by
  refine T.off.F.ok sc_off (fun vs H Q E h => ?_) (fun cdv A outer s H vs Q E hr h => ?_)
  · obtain ⟨c, rfl, q⟩ := h
    rfl
  · obtain ⟨c, rfl, q⟩ := h
    have hu := hu_of hr
    refine ⟨_, (pss_one (ps_ret (pe_ix (ixL K) (pe_lst (pa_cons pe_int (pa_cons pe_int (pa_cons pe_int (pa_cons pe_int (pa_cons (pe_op (op_modc (c := 30) (by decide)) (pe_cl (ok_mix T) T.mix (hr.mono (by decide)) (pa_cons (pv 0) (pa_cons pe_int pa_nil))) pe_int) (pa_cons (pe_op (op_modc (c := 1000) (by decide)) (pe_cl (ok_mix T) T.mix (hr.mono (by decide)) (pa_cons (pv 0) (pa_cons pe_int pa_nil))) pe_int) pa_nil))))))) (pe_op (op_modc (c := 6) (by decide)) (pv 0) pe_int) (fun _ _ => rfl)))), ?_⟩
    refine ⟨_, rfl, _, _, rfl, fun x x0 x1 => ?_⟩
    refine ⟨_, rfl, rfl, _, rfl, _, _, rfl, fun y y0 y1 => ?_⟩
    refine ⟨_, rfl, rfl, (by show 6 ≤ sizeLine; decide), fun p np => ?_⟩
    refine ⟨_, rfl, _, rfl, rfl, ?_⟩
    refine ix_int (fun j => 0 ≤ j ∧ j ≤ 999) SqL.here (Int.emod_nonneg _ (by decide)) (Int.emod_lt_of_pos _ (by decide)) (allc ⟨_, rfl, by decide⟩ (allc ⟨_, rfl, by decide⟩ (allc ⟨_, rfl, by decide⟩ (allc ⟨_, rfl, by decide⟩ (allc ⟨_, rfl, by omega⟩ (all1 ⟨_, rfl, by omega⟩)))))) fun j hj => ?_
    exact q j _ hj.1 hj.2 (same_new np)
/-! ### _law_slack -/
abbrev n_slack : List Str := ["_law_passed", "_law_off_here", "_law_most"]
theorem sc_slack : FnScope ["_law_passed", "_law_off_here", "_law_most"] ["_law_passed", "_law_off_here"] (defScope s_slack) := ⟨rfl, rfl, rfl, by decide +kernel, rfl, by decide +kernel, by decide +kernel⟩
theorem ok_slack (T : Txt K mg a) : FnOk P w K mg base CX0 1 a.f_slack a.d_slack ["_law_passed", "_law_off_here"] (spSlack) := by
  refine T.slack.F.ok sc_slack (fun vs H Q E h => ?_) (fun cdv A outer s H vs Q E hr h => ?_)
  · obtain ⟨p, o, rfl, o0, o1, q⟩ := h
    rfl
  · obtain ⟨p, o, rfl, o0, o1, q⟩ := h
    have hu := hu_of hr
    refine ⟨_, (pss_cons (ps_set (i := 2) sc_slack.nd rfl (Or.inl rfl) (pe_op (op_divc (c := 1000) (by decide) (by decide)) (pe_op op_mul (pv 0) (pv 1)) pe_int))
      (pss_cons (ps_if (pt_cmpR op_lt (pe_op (op_mulc (c := 1000) (by decide)) (pv 2) pe_int) (pe_op op_mul (pv 0) (pv 1)) (nomark _)) (pss_one (ps_set (i := 2) sc_slack.nd rfl (Or.inl rfl) (pe_op op_add (pv 2) pe_int))) pss_nil)
      (pss_one (ps_ret (pv 2))))), ?_⟩
    refine ⟨_, rfl, _, rfl, _, _, rfl, rfl, .inr ⟨by omega, by omega⟩, _, rfl, rfl, ?_⟩
    refine ⟨_, rfl, _, rfl, rfl, _, rfl, _, rfl, _, _, rfl, rfl, .inr ⟨by omega, by omega⟩, _, _, rfl, rfl, _, rfl, ?_⟩
    have e : slk p o = (p * o + 999) / 1000 := rfl
    refine ite2 (fun z => ?_) (fun z => ?_)
    · have z' := of_decide_eq_true z
      refine ⟨_, rfl, _, _, rfl, rfl, _, rfl, ?_⟩
      have e2 : p * o / 1000 + 1 = slk p o := by omega
      rw [← e2] at q
      exact q
    · have z' : ¬ (p * o / 1000 * 1000 < p * o) := fun y => z (decide_eq_true y)
      refine ⟨_, rfl, ?_⟩
      have e2 : p * o / 1000 = slk p o := by omega
      rw [← e2] at q
      exact q
/-! ### _law_kind -/
abbrev n_kind : List Str := ["_law_e", "_law_kinds", "_law_words"]
theorem sc_kind : FnScope ["_law_e", "_law_kinds", "_law_words"] ["_law_e"] (defScope s_kind) := ⟨rfl, rfl, rfl, by decide +kernel, rfl, by decide +kernel, by decide +kernel⟩
--own
theorem ok_kind (T : Txt K mg a) : FnE P w K mg base 1 a.f_kind a.d_kind ["_law_e"] (spKind K a.cs a.c_StretchError) := by
  refine fnE_of T.kind.F sc_kind (fun a c vs H Q E h => ?_) (fun cdv A outer s H vs Q E p c hz hf hr h => ?_)
  · obtain ⟨D, j, _, rfl, _⟩ := h
    rfl
  · obtain ⟨D, j, rfl, rfl, C, q⟩ := h
    refine ⟨_, (pss_cons (ps_set (i := 1) sc_kind.nd rfl (Or.inl rfl) (pe_lst (pa_cons (pe_callB (call_isP C.ex List.mem_cons_self hz hf) (by rfl) T.b_isinstance (by decide +kernel) (pa_cons (pv 0) (pa_cons (pe_gref T.BadName.g) pa_nil))) (pa_cons (pe_callB (call_isP C.ex List.mem_cons_self hz hf) (by rfl) T.b_isinstance (by decide +kernel) (pa_cons (pv 0) (pa_cons (pe_gref T.BadLetter.g) pa_nil))) (pa_cons (pe_callB (call_isP C.ex List.mem_cons_self hz hf) (by rfl) T.b_isinstance (by decide +kernel) (pa_cons (pv 0) (pa_cons (pe_gref T.BadOff.g) pa_nil))) (pa_cons (pe_callB (call_isP C.ex List.mem_cons_self hz hf) (by rfl) T.b_isinstance (by decide +kernel) (pa_cons (pv 0) (pa_cons (pe_gref T.TooEarly.g) pa_nil))) pa_nil))))))
      (pss_cons (ps_set (i := 1) sc_kind.nd rfl (Or.inl rfl) (pe_op op_cat (pv 1) (pe_lst (pa_cons (pe_callB (call_isP C.ex List.mem_cons_self hz hf) (by rfl) T.b_isinstance (by decide +kernel) (pa_cons (pv 0) (pa_cons (pe_gref T.BadCount.g) pa_nil))) (pa_cons (pe_callB (call_isP C.ex List.mem_cons_self hz hf) (by rfl) T.b_isinstance (by decide +kernel) (pa_cons (pv 0) (pa_cons (pe_gref T.NoAgreement.g) pa_nil))) (pa_cons (pe_callB (call_isP C.ex List.mem_cons_self hz hf) (by rfl) T.b_isinstance (by decide +kernel) (pa_cons (pv 0) (pa_cons (pe_gref T.TooWide.g) pa_nil))) pa_nil))))))
      (pss_cons (ps_set (i := 1) sc_kind.nd rfl (Or.inl rfl) (pe_op op_cat (pv 1) (pe_lst (pa_cons (pe_callB (call_isP C.ex List.mem_cons_self hz hf) (by rfl) T.b_isinstance (by decide +kernel) (pa_cons (pv 0) (pa_cons (pe_gref T.TooMany.g) pa_nil))) (pa_cons (pe_callB (call_isP C.ex List.mem_cons_self hz hf) (by rfl) T.b_isinstance (by decide +kernel) (pa_cons (pv 0) (pa_cons (pe_gref T.NoClock.g) pa_nil))) (pa_cons (pe_callB (call_isP C.ex List.mem_cons_self hz hf) (by rfl) T.b_isinstance (by decide +kernel) (pa_cons (pv 0) (pa_cons (pe_gref T.NoText.g) pa_nil))) pa_nil))))))
      (pss_cons (ps_if (PW.pt (pw_or (pt_cmpR op_ne (pe_bm PySem.F.plainAttrs_list PySem.F.slot_list_count PySem.F.type_list_count mt_count (pv 1) (pa_cons pe_bl pa_nil)) pe_int (nomark _)) (pw_or1 (pt_not (pt_val (pe_callB (call_isP C.ex List.mem_cons_self hz hf) (by rfl) T.b_isinstance (by decide +kernel) (pa_cons (pv 0) (pa_cons (pe_bty (n := "ValueError") T.b_ValueError (by decide +kernel)) pa_nil)))))))) (pss_one (ps_ret pe_str)) pss_nil)
      (pss_cons (ps_set (i := 2) sc_kind.nd rfl (Or.inl rfl) (pe_lst (pa_cons pe_str (pa_cons pe_str (pa_cons pe_str (pa_cons pe_str (pa_cons pe_str (pa_cons pe_str (pa_cons pe_str (pa_cons pe_str (pa_cons pe_str (pa_cons pe_str pa_nil))))))))))))
      (pss_one (ps_ret (pe_ix (ixL K) (pv 2) (pe_bm PySem.F.plainAttrs_list PySem.F.slot_list_index PySem.F.type_list_index mt_index (pv 1) (pa_cons pe_bl pa_nil)) (fun _ _ => rfl))))))))), ?_⟩
    refine ⟨_, rfl, _, _, _, rfl, (fun _ z => z), C.bit 0 _ rfl, _, rfl, _, _, _, rfl, (fun _ z => z), C.bit 1 _ rfl, _, rfl, _, _, _, rfl, (fun _ z => z), C.bit 2 _ rfl, _, rfl, _, _, _, rfl, (fun _ z => z), C.bit 3 _ rfl, (by show 4 ≤ sizeLine; decide), fun p1 n1 => ?_⟩
    refine ⟨_, rfl, _, rfl, _, _, _, rfl, (fun _ z => z), C.bit 4 _ rfl, _, rfl, _, _, _, rfl, (fun _ z => z), C.bit 5 _ rfl, _, rfl, _, _, _, rfl, (fun _ z => z), C.bit 6 _ rfl, (by show 3 ≤ sizeLine; decide), fun p2 n2 => ?_⟩
    refine ⟨_, _, _, _, rfl, rfl, (upd_ne (ne_of_none upd_same n2)).trans upd_same, upd_same, (by show 7 ≤ sizeLine; decide), fun p3 n3 => ?_⟩
    refine ⟨_, rfl, _, rfl, _, _, _, rfl, (fun _ z => z), C.bit 7 _ rfl, _, rfl, _, _, _, rfl, (fun _ z => z), C.bit 8 _ rfl, _, rfl, _, _, _, rfl, (fun _ z => z), C.bit 9 _ rfl, (by show 3 ≤ sizeLine; decide), fun p4 n4 => ?_⟩
    refine ⟨_, _, _, _, rfl, rfl, (upd_ne (ne_of_none upd_same n4)).trans upd_same, upd_same, (by show 10 ≤ sizeLine; decide), fun p5 n5 => ?_⟩
    refine ⟨_, rfl, .inl ⟨rfl, _, SqL.here⟩, _, kbits j, _, rfl, rfl, SqL.here, rfl, kbits_flat j, rfl, _, rfl, ?_⟩
    refine iteNS (by rw [kbits_count C.lt]; rfl) ?_
    refine ⟨_, rfl, _, _, _, rfl, (fun _ z => z), C.ve, _, rfl, ?_⟩
    refine iteF ?_
    refine ⟨(by show 10 ≤ sizeLine; decide), fun p6 n6 => ?_⟩
    refine ⟨_, rfl, _, rfl, ?_⟩
    have ne56 : p5 ≠ p6 := ne_of_none upd_same n6
    refine ⟨.inl ⟨rfl, _, SqL.of ((upd_ne ne56).trans upd_same)⟩, _, kbits j, _, j, _, rfl, rfl, SqL.of ((upd_ne ne56).trans upd_same), rfl, kbits_flat j, kbits_at C.lt, rfl, kbits_no C.lt, ?_⟩
    refine ⟨_, kwords.map V.str, _, _, rfl, rfl, SqL.here, kword_at C.lt, ?_⟩
    refine q _ ?_
    exact ((((((same_new n1).trans (same_new n2)).trans (same_new n3)).trans (same_new n4)).trans (same_new n5)).trans (same_new n6))

/-! ### _law_told -/
abbrev n_told : List Str := ["_law_stretch", "_law_off_here", "_law_width", "_law_e"]
theorem sc_told : FnScope ["_law_stretch", "_law_off_here", "_law_width", "_law_e"] ["_law_stretch", "_law_off_here", "_law_width"] (defScope s_told) := ⟨rfl, rfl, rfl, by decide +kernel, rfl, by decide +kernel, by decide +kernel⟩
theorem ok_told (T : Txt K mg a) : FnOk P w K mg base CX0 3 a.f_told a.d_told ["_law_stretch", "_law_off_here", "_law_width"] (spTold) := by
  refine T.told.F.ok sc_told (fun vs H Q E h => ?_) (fun cdv A outer s H vs Q E hr h => ?_)
  · obtain ⟨t, lo, hi, o, w, rfl, hT, qO, qW, qN, q⟩ := h
    rfl
  · obtain ⟨t, lo, hi, o, w, rfl, hT, qO, qW, qN, q⟩ := h
    have hu := hu_of hr
    refine ⟨_, (pss_one (ps_try_as (ts := fun x cls d => tRet (tTup (tCons (tC (.int 0)) (tCons (tCallE (spKind K a.cs a.c_StretchError) x cls d (tCons (tVar 3) tNil)) tNil)))) (i := 3) rfl rfl sc_told.nd rfl rfl ⟨rfl, by decide, .inl T.StretchError.g⟩ takes0 (fun W pn xe tk _ => (pss_one (ps_ret (pe_tup (pa_cons (pe_clT (ok_lasting T) T.lasting (hr.mono (by decide)) tk (pa_cons (pv 0) (pa_cons (pv 1) (pa_cons (pv 2) pa_nil)))) (pa_cons pe_str pa_nil)))))) (fun a oe cls d pn hz hf => (pss_one (ps_ret (pe_tup (pa_cons pe_int (pa_cons (pe_callE (p := (a, oe)) (ok_kind T) (rm_suite hr (by decide)) List.mem_cons_self hz hf T.kind.g T.kind.F.kp T.kind.b (pa_cons (pv 3) pa_nil)) pa_nil)))))))), ?_⟩
    refine ⟨_, rfl, _, rfl, _, rfl, t, lo, hi, o, w, rfl, hT, fun bad => ?_, fun ok wide => ?_, fun z le => ?_, fun ok nz le p p0 p1 p2 => ?_⟩
    · refine ⟨true, T.kd_BadOff.em, fun _ x nx => ?_, fun z => nomatch z⟩
      refine ⟨_, rfl, rfl, _, 2, rfl, rfl, T.kd_BadOff, fun H' s' => ?_⟩
      exact ⟨(by show 2 ≤ sizeLine; decide), fun u nu => qO bad u _ upd_same⟩
    · refine ⟨true, T.kd_TooWide.em, fun _ x nx => ?_, fun z => nomatch z⟩
      refine ⟨_, rfl, rfl, _, 6, rfl, rfl, T.kd_TooWide, fun H' s' => ?_⟩
      exact ⟨(by show 2 ≤ sizeLine; decide), fun u nu => qW ok wide u _ upd_same⟩
    · exact ⟨(by show 2 ≤ sizeLine; decide), fun u nu => qN z le u _ upd_same⟩
    · exact ⟨(by show 2 ≤ sizeLine; decide), fun u nu => q ok nz le p p0 p1 p2 u _ upd_same⟩
/-! ### law -/
abbrev n_law : List Str := ["_law_script", "_law_first", "_law_low", "_law_wide", "_law_more", "_law_width", "_law_off_here", "_law_way", "_law_found", "_law_word"]
theorem sc_law : FnScope ["_law_script", "_law_first", "_law_low", "_law_wide", "_law_more", "_law_width", "_law_off_here", "_law_way", "_law_found", "_law_word"] ["_law_script"] (defScope s_law) := ⟨rfl, rfl, rfl, by decide +kernel, rfl, by decide +kernel, by decide +kernel⟩
theorem ok_law (T : Txt K mg a) : FnOk P w K mg base CX0 4 a.f_law a.d_law ["_law_script"] (spLaw K) := by
  refine T.law.F.ok sc_law (fun vs H Q E h => ?_) (fun cdv A outer s H vs Q E hr h => ?_)
  · obtain ⟨l, ns, rfl, hS, hlen, k⟩ := h
    rfl
  · obtain ⟨l, ns, rfl, hS, hlen, k⟩ := h
    have hu := hu_of hr
    refine ⟨_, (pss_cons (ps_set (i := 1) sc_law.nd rfl (Or.inl rfl) (pe_cl (ok_cell_at T) T.cell_at (hr.mono (by decide)) (pa_cons (pv 0) (pa_cons pe_int pa_nil))))
      (pss_cons (ps_set (i := 2) sc_law.nd rfl (Or.inl rfl) (pe_op op_mul (pe_cl (ok_big T) T.big (hr.mono (by decide)) (pa_cons (pv 1) (pa_cons pe_int pa_nil))) (pe_ix (ixL K) (pe_lst (pa_cons pe_int (pa_cons pe_negc pa_nil))) (pe_op (op_modc (c := 2) (by decide)) (pv 1) pe_int) (fun _ _ => rfl))))
      (pss_cons (ps_set (i := 3) sc_law.nd rfl (Or.inl rfl) (pe_ix (ixL K) (pe_lst (pa_cons pe_int (pa_cons (pe_cl (ok_big T) T.big (hr.mono (by decide)) (pa_cons (pv 1) (pa_cons pe_int pa_nil))) pa_nil))) (pe_op (op_modc (c := 2) (by decide)) (pe_op (op_divc (c := 2) (by decide) (by decide)) (pv 1) pe_int) pe_int) (fun _ _ => rfl)))
      (pss_cons (ps_set (i := 4) sc_law.nd rfl (Or.inl rfl) (pe_cl (ok_big T) T.big (hr.mono (by decide)) (pa_cons (pe_cl (ok_cell_at T) T.cell_at (hr.mono (by decide)) (pa_cons (pv 0) (pa_cons pe_int pa_nil))) (pa_cons pe_int pa_nil))))
      (pss_cons (ps_set (i := 5) sc_law.nd rfl (Or.inl rfl) (pe_op op_add (pv 3) (pe_ix (ixL K) (pe_lst (pa_cons pe_int (pa_cons pe_int (pa_cons (pv 4) (pa_cons (pv 4) (pa_cons pe_negc (pa_cons (pe_op op_sub pe_negc (pv 4)) pa_nil))))))) (pe_op (op_modc (c := 6) (by decide)) (pe_cl (ok_cell_at T) T.cell_at (hr.mono (by decide)) (pa_cons (pv 0) (pa_cons pe_int pa_nil))) pe_int) (fun _ _ => rfl))))
      (pss_cons (ps_set (i := 6) sc_law.nd rfl (Or.inl rfl) (pe_cl (ok_off T) T.off (hr.mono (by decide)) (pa_cons (pe_cl (ok_cell_at T) T.cell_at (hr.mono (by decide)) (pa_cons (pv 0) (pa_cons pe_int pa_nil))) pa_nil)))
      (pss_cons (ps_set (i := 7) sc_law.nd rfl (Or.inl rfl) (pe_op (op_modc (c := 5) (by decide)) (pe_cl (ok_cell_at T) T.cell_at (hr.mono (by decide)) (pa_cons (pv 0) (pa_cons pe_int pa_nil))) pe_int))
      (pss_cons (ps_if (pt_cmpR op_eq (pv 7) pe_int (nomark _)) (pss_one (ps_set (i := 6) sc_law.nd rfl (Or.inl rfl) (pe_ix (ixL K) (pe_lst (pa_cons pe_negc (pa_cons pe_int (pa_cons (pe_op op_sub pe_negc (pv 4)) (pa_cons (pe_op op_add pe_int (pv 4)) pa_nil))))) (pe_op (op_modc (c := 4) (by decide)) (pe_cl (ok_cell_at T) T.cell_at (hr.mono (by decide)) (pa_cons (pv 0) (pa_cons pe_int pa_nil))) pe_int) (fun _ _ => rfl)))) pss_nil)
      (pss_cons (ps_asg (pe_cl (ok_told T) T.told (hr.mono (by decide)) (pa_cons (pe_tup (pa_cons (pv 2) (pa_cons (pe_op op_add (pv 2) (pv 3)) pa_nil))) (pa_cons (pv 6) (pa_cons (pv 5) pa_nil)))) (pg_tup (by rfl) (pgs_cons (pg_name (i := 8) sc_law.nd rfl (Or.inl rfl)) (pgs_cons (pg_name (i := 9) sc_law.nd rfl (Or.inl rfl)) pgs_nil))))
      (pss_cons (ps_if (pt_cmpR op_eq (pv 7) pe_int (nomark _)) (pss_one (ps_ret (pe_cmpR op_eq (pv 9) pe_str (nomark _)))) pss_nil)
      (pss_cons (ps_if (pt_cmpR op_lt (pv 5) (pv 3) (nomark _)) (pss_one (ps_ret (pe_cmpR op_eq (pv 9) pe_str (nomark _)))) pss_nil)
      (pss_cons (ps_if (PW.pt (pw_or (pt_cmpR op_eq (pv 6) pe_int (nomark _)) (pw_or1 (pt_cmpR op_ne (pv 9) pe_str (nomark _))))) (pss_one (ps_ret (pe_and (pe_cmpR op_eq (pv 9) pe_str (nomark _)) (pe_one (pe_cmpR op_isN (pv 8) pe_non (nomark _)))))) pss_nil)
      (pss_cons (ps_if (PW.pt (pw_or (pt_not (pt_val (pe_cl (ok_whole T) T.whole (hr.mono (by decide)) (pa_cons (pv 8) pa_nil)))) (pw_or1 (pt_cmpR op_lt (pv 8) pe_int (nomark _))))) (pss_one (ps_ret pe_bl)) pss_nil)
      (pss_one (ps_ret (pe_and (pe_cmpR op_le (pe_op op_add (pv 3) (pe_op (op_cmul (c := 2) (by decide)) pe_int (pe_cl (ok_slack T) T.slack (hr.mono (by decide)) (pa_cons (pv 8) (pa_cons (pv 6) pa_nil))))) (pv 5) (nomark _)) (pe_one (pe_cmpR op_gt (pe_op op_add (pv 3) (pe_op (op_cmul (c := 2) (by decide)) pe_int (pe_cl (ok_slack T) T.slack (hr.mono (by decide)) (pa_cons (pe_op op_add (pv 8) pe_int) (pa_cons (pv 6) pa_nil))))) (pv 5) (nomark _))))))))))))))))))), ?_⟩
    -- first
    refine ⟨_, rfl, _, _, 0, rfl, hS, ?_⟩
    dsimp only [gName]
    generalize ns.getD 0 0 = c0
    -- low
    refine ⟨_, rfl, _, _, rfl, fun b1 H1 b10 b11 s1 => ?_⟩
    refine ⟨(by show 2 ≤ sizeLine; decide), fun p1 n1 => ?_⟩
    refine ⟨_, rfl, _, rfl, rfl, ?_⟩
    refine ix_int (fun j => j = 1 ∨ j = -1) SqL.here (Int.emod_nonneg _ (by decide)) (Int.emod_lt_of_pos _ (by decide)) (allc ⟨_, rfl, .inl rfl⟩ (all1 ⟨_, rfl, .inr rfl⟩)) fun j1 hj1 => ?_
    refine ⟨_, _, rfl, rfl, .inl ⟨by omega, by omega⟩, ?_⟩
    dsimp only [gName]
    have sA : Same H _ := s1.trans (same_new n1 (o := .lst [.int 1, .int (-1)]))
    generalize b1 * j1 = lo
    generalize upd H1 p1 _ = HA at sA ⊢
    -- wide
    refine ⟨_, rfl, _, _, rfl, fun b2 H2 b20 b21 s2 => ?_⟩
    refine ⟨(by show 2 ≤ sizeLine; decide), fun p2 n2 => ?_⟩
    refine ⟨_, rfl, _, rfl, rfl, _, rfl, rfl, ?_⟩
    refine ix_int (fun j => 0 ≤ j) SqL.here (Int.emod_nonneg _ (by decide)) (Int.emod_lt_of_pos _ (by decide)) (allc ⟨_, rfl, Int.le_refl _⟩ (all1 ⟨_, rfl, b20⟩)) fun wd hwd => ?_
    dsimp only [gName]
    have sB : Same H _ := (sA.trans s2).trans (same_new n2 (o := .lst [.int 0, .int b2]))
    generalize upd H2 p2 _ = HB at sB ⊢
    -- more
    refine ⟨_, rfl, _, _, 1, rfl, sB.seq hS, _, _, rfl, fun mo H3 mo0 mo1 s3 => ?_⟩
    dsimp only [gName]
    -- width
    refine ⟨_, rfl, _, rfl, _, rfl, _, rfl, _, _, rfl, rfl, (by show 6 ≤ sizeLine; decide), fun p3 n3 => ?_⟩
    have sC : Same H _ := (sB.trans s3).trans (same_new n3 (o := .lst [.int 0, .int 1, .int mo, .int mo, .int (-1), .int (-1 - mo)]))
    refine ⟨_, rfl, _, _, 1, rfl, sC.seq hS, _, rfl, rfl, ?_⟩
    refine ix_int (fun _ => True) SqL.here (Int.emod_nonneg _ (by decide)) (Int.emod_lt_of_pos _ (by decide)) (allc ⟨_, rfl, trivial⟩ (allc ⟨_, rfl, trivial⟩ (allc ⟨_, rfl, trivial⟩ (allc ⟨_, rfl, trivial⟩ (allc ⟨_, rfl, trivial⟩ (all1 ⟨_, rfl, trivial⟩)))))) fun dw _ => ?_
    refine ⟨_, _, rfl, rfl, ?_⟩
    dsimp only [gName]
    generalize wd + dw = w
    generalize upd H3 p3 _ = HC at sC ⊢
    -- off
    refine ⟨_, rfl, _, _, 2, rfl, sC.seq hS, _, rfl, fun of H4 of0 of1 s4 => ?_⟩
    have sD := sC.trans s4
    refine ⟨_, rfl, _, _, 3, rfl, sD.seq hS, _, rfl, rfl, ?_⟩
    dsimp only [gName]
    generalize ns.getD 3 0 % 5 = wy
    refine seq_cut (fun σ' H' => ∃ o : Int, (wy = 1 → ¬ okOff o) ∧ (¬ wy = 1 → okOff o) ∧ Same H H' ∧
      σ' = [some (.ref l), some (.int c0), some (.int lo), some (.int wd), some (.int mo), some (.int w), some (.int o), some (.int wy), none, none]) (fun N hN => ?_) ?_
    · refine ⟨_, rfl, rfl, _, rfl, ?_⟩
      refine ite_eq (fun z => ?_) (fun z => ?_)
      · refine ⟨_, rfl, _, _, rfl, rfl, _, rfl, _, _, rfl, rfl, (by show 4 ≤ sizeLine; decide), fun p4 n4 => ?_⟩
        have sE := sD.trans (same_new n4 (o := .lst [.int (-1), .int 1000, .int (-1 - mo), .int (1000 + mo)]))
        refine ⟨_, rfl, _, _, 2, rfl, sE.seq hS, _, rfl, rfl, ?_⟩
        refine ix_int (fun j => ¬ okOff j) SqL.here (Int.emod_nonneg _ (by decide)) (Int.emod_lt_of_pos _ (by decide)) (allc ⟨_, rfl, fun h => by have := h.1; omega⟩ (allc ⟨_, rfl, fun h => by have := h.2; omega⟩ (allc ⟨_, rfl, fun h => by have := h.1; omega⟩ (all1 ⟨_, rfl, fun h => by have := h.2; omega⟩)))) fun j hj => ?_
        exact hN _ _ ⟨j, fun _ => hj, fun x => absurd z x, sE, rfl⟩
      · exact hN _ _ ⟨of, fun x => absurd x z, fun _ => ⟨of0, of1⟩, sD, rfl⟩
    rintro σ' HE ⟨o, ob, oo, sE, rfl⟩
    -- told
    refine ⟨_, rfl, _, rfl, _, rfl, _, _, rfl, rfl, (by show 2 ≤ sizeLine; decide), fun t nt => ?_⟩
    refine ⟨_, rfl, _, rfl, t, lo, lo + wd, o, w, rfl, upd_same, fun bad u H' hu => ?_, fun ok wide u H' hu => ?_, fun z le u H' hu => ?_, fun ok nz le p p0 p1 p2 u H' hu => ?_⟩
    · refine ⟨u, _, rfl, SqT.of (K := K) hu, rfl, _, _, rfl, _, _, rfl, rfl, ?_⟩
      dsimp only [gName]
      have w1 : wy = 1 := by
        by_cases h : wy = 1
        · exact h
        · exact absurd (oo h) bad
      refine ⟨_, rfl, rfl, _, rfl, ite_eq (fun _ => ?_) (fun z => absurd w1 z)⟩
      exact ⟨_, rfl, rfl, bl_true (decide_eq_true rfl) (k _)⟩
    · refine ⟨u, _, rfl, SqT.of (K := K) hu, rfl, _, _, rfl, _, _, rfl, rfl, ?_⟩
      dsimp only [gName]
      refine ⟨_, rfl, rfl, _, rfl, ite_eq (fun z => absurd ok (ob z)) (fun z => ?_)⟩
      refine ⟨_, rfl, _, rfl, _, _, rfl, rfl, _, rfl, ite_dec (fun _ => ?_) (fun h => absurd (show w < wd by omega) h)⟩
      exact ⟨_, rfl, rfl, bl_true (decide_eq_true rfl) (k _)⟩
    · refine ⟨u, _, rfl, SqT.of (K := K) hu, rfl, _, _, rfl, _, _, rfl, rfl, ?_⟩
      dsimp only [gName]
      refine ⟨_, rfl, rfl, _, rfl, ite_eq (fun y => absurd (by subst z; exact ⟨by decide, by decide⟩) (ob y)) (fun _ => ?_)⟩
      refine ⟨_, rfl, _, rfl, _, _, rfl, rfl, _, rfl, ite_dec (fun h => by omega) (fun _ => ?_)⟩
      refine ⟨_, rfl, rfl, _, rfl, ite_eq (fun _ => ?_) (fun h => absurd z h)⟩
      refine iteT ?_
      refine ⟨_, rfl, rfl, _, rfl, ite_yes (decide_eq_true rfl) ?_⟩
      exact ⟨_, rfl, rfl, bl_true rfl (k _)⟩
    · refine ⟨u, _, rfl, SqT.of (K := K) hu, rfl, _, _, rfl, _, _, rfl, rfl, ?_⟩
      dsimp only [gName]
      refine ⟨_, rfl, rfl, _, rfl, ite_eq (fun z => absurd ok (ob z)) (fun _ => ?_)⟩
      refine ⟨_, rfl, _, rfl, _, _, rfl, rfl, _, rfl, ite_dec (fun h => by omega) (fun _ => ?_)⟩
      refine ⟨_, rfl, rfl, _, rfl, ite_eq (fun h => absurd h nz) (fun _ => ?_)⟩
      refine ⟨_, rfl, rfl, _, rfl, ?_⟩
      refine ite_no (by rw [decide_eq_true rfl]; rfl) ?_
      refine ⟨_, rfl, p, rfl, _, rfl, ?_⟩
      refine iteF ?_
      refine ⟨_, rfl, _, _, rfl, rfl, _, rfl, ite_dec (fun h => by omega) (fun _ => ?_)⟩
      obtain ⟨o0, o1⟩ := id ok
      refine ⟨_, rfl, _, rfl, _, rfl, p, o, rfl, by omega, by omega, _, rfl, rfl, _, _, rfl, rfl, _, rfl, _, _, rfl, rfl, _, rfl, ite_yes (decide_eq_true (by omega)) ?_⟩
      refine ⟨_, rfl, _, rfl, _, _, rfl, rfl, _, rfl, p + 1, o, rfl, by omega, by omega, _, rfl, rfl, _, _, rfl, rfl, _, rfl, _, _, rfl, rfl, ?_⟩
      exact bl_true (decide_eq_true (by omega)) (k _)
end
end Ts.k05
end
namespace Ts.k05
open PySem PySem.Spec PyProof.Rows L2 Ts
/-! ### the end -/
theorem fl_mk {K : PySem.W.Frag} {h : Heap} {mg : Str → Option Value} {x : Str} {st : Stmt} {ps : List Str} {f : Addr} {oc kV doc pm cdv ct : Value} {od an : Option Addr} {osl : Array (Option Value)} (X : K.In h) (G : h.Ns mainGlobals mg)
    (n : PySem.W.nsIn K mainGlobals x = some (some (.ref f))) (l : K.lookup f = some ⟨oc, od, .func (PySem.W.fnOf x x (defArgs st) (defBody st) (defScope st) .none kV doc pm an cdv ct), osl⟩) (c : PySem.W.codeIn K cdv x = true) (k : PySem.W.keepIn K (.ref f) = true)
    (b : ∀ us : List Value, us.length = ps.length → bindArgs (PySem.W.fnOf x x (defArgs st) (defBody st) (defScope st) .none kV doc pm an cdv ct) ⟨us, []⟩ = pure (ps.zip us)) :
    Dfn K mg x st ps f (PySem.W.fnOf x x (defArgs st) (defBody st) (defScope st) .none kV doc pm an cdv ct) :=
  ⟨fun_mk l c k, PySem.W.mg_of X G n, .all b⟩
theorem all_mk {l : PySem.W.OpenLaw} {w : World} {K : PySem.W.Frag} {h : Heap} {mg : Str → Option Value} {fa f_check_off f_longest_within f_lasting f_whole f_cell_at f_mix f_big f_off f_slack f_kind f_told f_law c_StretchError c_BadName c_BadLetter c_BadOff c_TooEarly c_BadCount c_NoAgreement c_TooWide c_TooMany c_NoClock c_NoText : Addr} (X : K.In h) (G : h.Ns mainGlobals mg) (hfa : mg "law" = some (.ref fa))
    {od_check_off an_check_off od_longest_within an_longest_within od_lasting an_lasting od_whole an_whole od_cell_at an_cell_at od_mix an_mix od_big an_big od_off an_off od_slack an_slack od_kind an_kind od_told an_told od_law an_law : Option Addr} {sl_check_off sl_longest_within sl_lasting sl_whole sl_cell_at sl_mix sl_big sl_off sl_slack sl_kind sl_told sl_law : Array (Option Value)} {oc_check_off kV_check_off dc_check_off pm_check_off cd_check_off ct_check_off oc_longest_within kV_longest_within dc_longest_within pm_longest_within cd_longest_within ct_longest_within oc_lasting kV_lasting dc_lasting pm_lasting cd_lasting ct_lasting oc_whole kV_whole dc_whole pm_whole cd_whole ct_whole oc_cell_at kV_cell_at dc_cell_at pm_cell_at cd_cell_at ct_cell_at oc_mix kV_mix dc_mix pm_mix cd_mix ct_mix oc_big kV_big dc_big pm_big cd_big ct_big oc_off kV_off dc_off pm_off cd_off ct_off oc_slack kV_slack dc_slack pm_slack cd_slack ct_slack oc_kind kV_kind dc_kind pm_kind cd_kind ct_kind oc_told kV_told dc_told pm_told cd_told ct_told oc_law kV_law dc_law pm_law cd_law ct_law : Value}
    {t_GREATEST_OFF : Tok}
    (a_check_off : PySem.W.nsIn K mainGlobals "check_off" = some (some (.ref f_check_off))) (l_check_off : K.lookup f_check_off = some ⟨oc_check_off, od_check_off, .func (PySem.W.fnOf "check_off" "check_off" (defArgs s_check_off) (defBody s_check_off) (defScope s_check_off) .none kV_check_off dc_check_off pm_check_off an_check_off cd_check_off ct_check_off), sl_check_off⟩) (k_check_off : PySem.W.codeIn K cd_check_off "check_off" = true) (e_check_off : PySem.W.keepIn K (.ref f_check_off) = true)
    (a_longest_within : PySem.W.nsIn K mainGlobals "longest_within" = some (some (.ref f_longest_within))) (l_longest_within : K.lookup f_longest_within = some ⟨oc_longest_within, od_longest_within, .func (PySem.W.fnOf "longest_within" "longest_within" (defArgs s_longest_within) (defBody s_longest_within) (defScope s_longest_within) .none kV_longest_within dc_longest_within pm_longest_within an_longest_within cd_longest_within ct_longest_within), sl_longest_within⟩) (k_longest_within : PySem.W.codeIn K cd_longest_within "longest_within" = true) (e_longest_within : PySem.W.keepIn K (.ref f_longest_within) = true)
    (a_lasting : PySem.W.nsIn K mainGlobals "lasting" = some (some (.ref f_lasting))) (l_lasting : K.lookup f_lasting = some ⟨oc_lasting, od_lasting, .func (PySem.W.fnOf "lasting" "lasting" (defArgs s_lasting) (defBody s_lasting) (defScope s_lasting) .none kV_lasting dc_lasting pm_lasting an_lasting cd_lasting ct_lasting), sl_lasting⟩) (k_lasting : PySem.W.codeIn K cd_lasting "lasting" = true) (e_lasting : PySem.W.keepIn K (.ref f_lasting) = true)
    (a_whole : PySem.W.nsIn K mainGlobals "_law_whole" = some (some (.ref f_whole))) (l_whole : K.lookup f_whole = some ⟨oc_whole, od_whole, .func (PySem.W.fnOf "_law_whole" "_law_whole" (defArgs s_whole) (defBody s_whole) (defScope s_whole) .none kV_whole dc_whole pm_whole an_whole cd_whole ct_whole), sl_whole⟩) (k_whole : PySem.W.codeIn K cd_whole "_law_whole" = true) (e_whole : PySem.W.keepIn K (.ref f_whole) = true)
    (a_cell_at : PySem.W.nsIn K mainGlobals "_law_cell_at" = some (some (.ref f_cell_at))) (l_cell_at : K.lookup f_cell_at = some ⟨oc_cell_at, od_cell_at, .func (PySem.W.fnOf "_law_cell_at" "_law_cell_at" (defArgs s_cell_at) (defBody s_cell_at) (defScope s_cell_at) .none kV_cell_at dc_cell_at pm_cell_at an_cell_at cd_cell_at ct_cell_at), sl_cell_at⟩) (k_cell_at : PySem.W.codeIn K cd_cell_at "_law_cell_at" = true) (e_cell_at : PySem.W.keepIn K (.ref f_cell_at) = true)
    (a_mix : PySem.W.nsIn K mainGlobals "_law_mix" = some (some (.ref f_mix))) (l_mix : K.lookup f_mix = some ⟨oc_mix, od_mix, .func (PySem.W.fnOf "_law_mix" "_law_mix" (defArgs s_mix) (defBody s_mix) (defScope s_mix) .none kV_mix dc_mix pm_mix an_mix cd_mix ct_mix), sl_mix⟩) (k_mix : PySem.W.codeIn K cd_mix "_law_mix" = true) (e_mix : PySem.W.keepIn K (.ref f_mix) = true)
    (a_big : PySem.W.nsIn K mainGlobals "_law_big" = some (some (.ref f_big))) (l_big : K.lookup f_big = some ⟨oc_big, od_big, .func (PySem.W.fnOf "_law_big" "_law_big" (defArgs s_big) (defBody s_big) (defScope s_big) .none kV_big dc_big pm_big an_big cd_big ct_big), sl_big⟩) (k_big : PySem.W.codeIn K cd_big "_law_big" = true) (e_big : PySem.W.keepIn K (.ref f_big) = true)
    (a_off : PySem.W.nsIn K mainGlobals "_law_off" = some (some (.ref f_off))) (l_off : K.lookup f_off = some ⟨oc_off, od_off, .func (PySem.W.fnOf "_law_off" "_law_off" (defArgs s_off) (defBody s_off) (defScope s_off) .none kV_off dc_off pm_off an_off cd_off ct_off), sl_off⟩) (k_off : PySem.W.codeIn K cd_off "_law_off" = true) (e_off : PySem.W.keepIn K (.ref f_off) = true)
    (a_slack : PySem.W.nsIn K mainGlobals "_law_slack" = some (some (.ref f_slack))) (l_slack : K.lookup f_slack = some ⟨oc_slack, od_slack, .func (PySem.W.fnOf "_law_slack" "_law_slack" (defArgs s_slack) (defBody s_slack) (defScope s_slack) .none kV_slack dc_slack pm_slack an_slack cd_slack ct_slack), sl_slack⟩) (k_slack : PySem.W.codeIn K cd_slack "_law_slack" = true) (e_slack : PySem.W.keepIn K (.ref f_slack) = true)
    (a_kind : PySem.W.nsIn K mainGlobals "_law_kind" = some (some (.ref f_kind))) (l_kind : K.lookup f_kind = some ⟨oc_kind, od_kind, .func (PySem.W.fnOf "_law_kind" "_law_kind" (defArgs s_kind) (defBody s_kind) (defScope s_kind) .none kV_kind dc_kind pm_kind an_kind cd_kind ct_kind), sl_kind⟩) (k_kind : PySem.W.codeIn K cd_kind "_law_kind" = true) (e_kind : PySem.W.keepIn K (.ref f_kind) = true)
    (a_told : PySem.W.nsIn K mainGlobals "_law_told" = some (some (.ref f_told))) (l_told : K.lookup f_told = some ⟨oc_told, od_told, .func (PySem.W.fnOf "_law_told" "_law_told" (defArgs s_told) (defBody s_told) (defScope s_told) .none kV_told dc_told pm_told an_told cd_told ct_told), sl_told⟩) (k_told : PySem.W.codeIn K cd_told "_law_told" = true) (e_told : PySem.W.keepIn K (.ref f_told) = true)
    (a_law : PySem.W.nsIn K mainGlobals "law" = some (some (.ref f_law))) (l_law : K.lookup f_law = some ⟨oc_law, od_law, .func (PySem.W.fnOf "law" "law" (defArgs s_law) (defBody s_law) (defScope s_law) .none kV_law dc_law pm_law an_law cd_law ct_law), sl_law⟩) (k_law : PySem.W.codeIn K cd_law "law" = true) (e_law : PySem.W.keepIn K (.ref f_law) = true)
    (n_StretchError : PySem.W.nsIn K mainGlobals "StretchError" = some (some (.ref c_StretchError))) (x_StretchError : PySem.W.excIn K c_StretchError [.type "ValueError", .type "Exception", .type "BaseException", .type "object"] "ValueError.__new__" = true) (h_StretchError : PySem.W.keepIn K (.ref c_StretchError) = true) (s_StretchError : PySem.W.subIn K (.ref c_StretchError) (.type "BaseException") = some true) (t_StretchError : PySem.W.typeIn K (.ref c_StretchError) = some (.type "type"))
    (n_BadName : PySem.W.nsIn K mainGlobals "BadName" = some (some (.ref c_BadName))) (x_BadName : PySem.W.excIn K c_BadName [.type "ValueError", .type "Exception", .type "BaseException", .type "object"] "ValueError.__new__" = true) (h_BadName : PySem.W.keepIn K (.ref c_BadName) = true) (s_BadName : PySem.W.subIn K (.ref c_BadName) (.type "BaseException") = some true) (t_BadName : PySem.W.typeIn K (.ref c_BadName) = some (.type "type"))
    (n_BadLetter : PySem.W.nsIn K mainGlobals "BadLetter" = some (some (.ref c_BadLetter))) (x_BadLetter : PySem.W.excIn K c_BadLetter [.type "ValueError", .type "Exception", .type "BaseException", .type "object"] "ValueError.__new__" = true) (h_BadLetter : PySem.W.keepIn K (.ref c_BadLetter) = true) (s_BadLetter : PySem.W.subIn K (.ref c_BadLetter) (.type "BaseException") = some true) (t_BadLetter : PySem.W.typeIn K (.ref c_BadLetter) = some (.type "type"))
    (n_BadOff : PySem.W.nsIn K mainGlobals "BadOff" = some (some (.ref c_BadOff))) (x_BadOff : PySem.W.excIn K c_BadOff [.type "ValueError", .type "Exception", .type "BaseException", .type "object"] "ValueError.__new__" = true) (h_BadOff : PySem.W.keepIn K (.ref c_BadOff) = true) (s_BadOff : PySem.W.subIn K (.ref c_BadOff) (.type "BaseException") = some true) (t_BadOff : PySem.W.typeIn K (.ref c_BadOff) = some (.type "type"))
    (n_TooEarly : PySem.W.nsIn K mainGlobals "TooEarly" = some (some (.ref c_TooEarly))) (x_TooEarly : PySem.W.excIn K c_TooEarly [.type "ValueError", .type "Exception", .type "BaseException", .type "object"] "ValueError.__new__" = true) (h_TooEarly : PySem.W.keepIn K (.ref c_TooEarly) = true) (s_TooEarly : PySem.W.subIn K (.ref c_TooEarly) (.type "BaseException") = some true) (t_TooEarly : PySem.W.typeIn K (.ref c_TooEarly) = some (.type "type"))
    (n_BadCount : PySem.W.nsIn K mainGlobals "BadCount" = some (some (.ref c_BadCount))) (x_BadCount : PySem.W.excIn K c_BadCount [.type "ValueError", .type "Exception", .type "BaseException", .type "object"] "ValueError.__new__" = true) (h_BadCount : PySem.W.keepIn K (.ref c_BadCount) = true) (s_BadCount : PySem.W.subIn K (.ref c_BadCount) (.type "BaseException") = some true) (t_BadCount : PySem.W.typeIn K (.ref c_BadCount) = some (.type "type"))
    (n_NoAgreement : PySem.W.nsIn K mainGlobals "NoAgreement" = some (some (.ref c_NoAgreement))) (x_NoAgreement : PySem.W.excIn K c_NoAgreement [.type "ValueError", .type "Exception", .type "BaseException", .type "object"] "ValueError.__new__" = true) (h_NoAgreement : PySem.W.keepIn K (.ref c_NoAgreement) = true) (s_NoAgreement : PySem.W.subIn K (.ref c_NoAgreement) (.type "BaseException") = some true) (t_NoAgreement : PySem.W.typeIn K (.ref c_NoAgreement) = some (.type "type"))
    (n_TooWide : PySem.W.nsIn K mainGlobals "TooWide" = some (some (.ref c_TooWide))) (x_TooWide : PySem.W.excIn K c_TooWide [.type "ValueError", .type "Exception", .type "BaseException", .type "object"] "ValueError.__new__" = true) (h_TooWide : PySem.W.keepIn K (.ref c_TooWide) = true) (s_TooWide : PySem.W.subIn K (.ref c_TooWide) (.type "BaseException") = some true) (t_TooWide : PySem.W.typeIn K (.ref c_TooWide) = some (.type "type"))
    (n_TooMany : PySem.W.nsIn K mainGlobals "TooMany" = some (some (.ref c_TooMany))) (x_TooMany : PySem.W.excIn K c_TooMany [.type "ValueError", .type "Exception", .type "BaseException", .type "object"] "ValueError.__new__" = true) (h_TooMany : PySem.W.keepIn K (.ref c_TooMany) = true) (s_TooMany : PySem.W.subIn K (.ref c_TooMany) (.type "BaseException") = some true) (t_TooMany : PySem.W.typeIn K (.ref c_TooMany) = some (.type "type"))
    (n_NoClock : PySem.W.nsIn K mainGlobals "NoClock" = some (some (.ref c_NoClock))) (x_NoClock : PySem.W.excIn K c_NoClock [.type "ValueError", .type "Exception", .type "BaseException", .type "object"] "ValueError.__new__" = true) (h_NoClock : PySem.W.keepIn K (.ref c_NoClock) = true) (s_NoClock : PySem.W.subIn K (.ref c_NoClock) (.type "BaseException") = some true) (t_NoClock : PySem.W.typeIn K (.ref c_NoClock) = some (.type "type"))
    (n_NoText : PySem.W.nsIn K mainGlobals "NoText" = some (some (.ref c_NoText))) (x_NoText : PySem.W.excIn K c_NoText [.type "ValueError", .type "Exception", .type "BaseException", .type "object"] "ValueError.__new__" = true) (h_NoText : PySem.W.keepIn K (.ref c_NoText) = true) (s_NoText : PySem.W.subIn K (.ref c_NoText) (.type "BaseException") = some true) (t_NoText : PySem.W.typeIn K (.ref c_NoText) = some (.type "type"))
    (u_BadOff : ExcC K c_BadOff) (w_BadOff : PySem.W.subIn K (.ref c_BadOff) (.ref c_StretchError) = some true) (v_BadOff : PySem.W.kitOne K (.ref c_BadOff) (.type "ValueError") = some true)
    (q_BadOff_0 : PySem.W.kitOne K (.ref c_BadOff) (.ref c_BadName) = some false)
    (q_BadOff_1 : PySem.W.kitOne K (.ref c_BadOff) (.ref c_BadLetter) = some false)
    (q_BadOff_2 : PySem.W.kitOne K (.ref c_BadOff) (.ref c_BadOff) = some true)
    (q_BadOff_3 : PySem.W.kitOne K (.ref c_BadOff) (.ref c_TooEarly) = some false)
    (q_BadOff_4 : PySem.W.kitOne K (.ref c_BadOff) (.ref c_BadCount) = some false)
    (q_BadOff_5 : PySem.W.kitOne K (.ref c_BadOff) (.ref c_NoAgreement) = some false)
    (q_BadOff_6 : PySem.W.kitOne K (.ref c_BadOff) (.ref c_TooWide) = some false)
    (q_BadOff_7 : PySem.W.kitOne K (.ref c_BadOff) (.ref c_TooMany) = some false)
    (q_BadOff_8 : PySem.W.kitOne K (.ref c_BadOff) (.ref c_NoClock) = some false)
    (q_BadOff_9 : PySem.W.kitOne K (.ref c_BadOff) (.ref c_NoText) = some false)
    (u_TooWide : ExcC K c_TooWide) (w_TooWide : PySem.W.subIn K (.ref c_TooWide) (.ref c_StretchError) = some true) (v_TooWide : PySem.W.kitOne K (.ref c_TooWide) (.type "ValueError") = some true)
    (q_TooWide_0 : PySem.W.kitOne K (.ref c_TooWide) (.ref c_BadName) = some false)
    (q_TooWide_1 : PySem.W.kitOne K (.ref c_TooWide) (.ref c_BadLetter) = some false)
    (q_TooWide_2 : PySem.W.kitOne K (.ref c_TooWide) (.ref c_BadOff) = some false)
    (q_TooWide_3 : PySem.W.kitOne K (.ref c_TooWide) (.ref c_TooEarly) = some false)
    (q_TooWide_4 : PySem.W.kitOne K (.ref c_TooWide) (.ref c_BadCount) = some false)
    (q_TooWide_5 : PySem.W.kitOne K (.ref c_TooWide) (.ref c_NoAgreement) = some false)
    (q_TooWide_6 : PySem.W.kitOne K (.ref c_TooWide) (.ref c_TooWide) = some true)
    (q_TooWide_7 : PySem.W.kitOne K (.ref c_TooWide) (.ref c_TooMany) = some false)
    (q_TooWide_8 : PySem.W.kitOne K (.ref c_TooWide) (.ref c_NoClock) = some false)
    (q_TooWide_9 : PySem.W.kitOne K (.ref c_TooWide) (.ref c_NoText) = some false)
    (d_S : PySem.W.hasDictIn K c_StretchError = true)
    (b_isinstance : PySem.W.nsIn K mainGlobals "isinstance" = some none)
    (b_bool : PySem.W.nsIn K mainGlobals "bool" = some none)
    (b_int : PySem.W.nsIn K mainGlobals "int" = some none)
    (b_len : PySem.W.nsIn K mainGlobals "len" = some none)
    (b_ValueError : PySem.W.nsIn K mainGlobals "ValueError" = some none)
    (m_GREATEST_OFF : PySem.W.nsIn K mainGlobals "GREATEST_OFF" = some (some (.int 999 t_GREATEST_OFF)))
    : ∃ fd : FuncData, (∀ (s : Shared) (v : Value), BindsTo s fd ⟨[v], []⟩ [("_law_script", v)]) ∧ ∀ base : Heap, K.In base → base.Ns mainGlobals mg → FnOk l.prog w K mg base CX0 4 fa fd ["_law_script"] (spLaw K) := by
  have e := hfa.symm.trans (PySem.W.mg_of X G a_law)
  cases e
  have T : Txt K mg (Ad.mk f_check_off (PySem.W.fnOf "check_off" "check_off" (defArgs s_check_off) (defBody s_check_off) (defScope s_check_off) .none kV_check_off dc_check_off pm_check_off an_check_off cd_check_off ct_check_off) f_longest_within (PySem.W.fnOf "longest_within" "longest_within" (defArgs s_longest_within) (defBody s_longest_within) (defScope s_longest_within) .none kV_longest_within dc_longest_within pm_longest_within an_longest_within cd_longest_within ct_longest_within) f_lasting (PySem.W.fnOf "lasting" "lasting" (defArgs s_lasting) (defBody s_lasting) (defScope s_lasting) .none kV_lasting dc_lasting pm_lasting an_lasting cd_lasting ct_lasting) f_whole (PySem.W.fnOf "_law_whole" "_law_whole" (defArgs s_whole) (defBody s_whole) (defScope s_whole) .none kV_whole dc_whole pm_whole an_whole cd_whole ct_whole) f_cell_at (PySem.W.fnOf "_law_cell_at" "_law_cell_at" (defArgs s_cell_at) (defBody s_cell_at) (defScope s_cell_at) .none kV_cell_at dc_cell_at pm_cell_at an_cell_at cd_cell_at ct_cell_at) f_mix (PySem.W.fnOf "_law_mix" "_law_mix" (defArgs s_mix) (defBody s_mix) (defScope s_mix) .none kV_mix dc_mix pm_mix an_mix cd_mix ct_mix) f_big (PySem.W.fnOf "_law_big" "_law_big" (defArgs s_big) (defBody s_big) (defScope s_big) .none kV_big dc_big pm_big an_big cd_big ct_big) f_off (PySem.W.fnOf "_law_off" "_law_off" (defArgs s_off) (defBody s_off) (defScope s_off) .none kV_off dc_off pm_off an_off cd_off ct_off) f_slack (PySem.W.fnOf "_law_slack" "_law_slack" (defArgs s_slack) (defBody s_slack) (defScope s_slack) .none kV_slack dc_slack pm_slack an_slack cd_slack ct_slack) f_kind (PySem.W.fnOf "_law_kind" "_law_kind" (defArgs s_kind) (defBody s_kind) (defScope s_kind) .none kV_kind dc_kind pm_kind an_kind cd_kind ct_kind) f_told (PySem.W.fnOf "_law_told" "_law_told" (defArgs s_told) (defBody s_told) (defScope s_told) .none kV_told dc_told pm_told an_told cd_told ct_told) fa (PySem.W.fnOf "law" "law" (defArgs s_law) (defBody s_law) (defScope s_law) .none kV_law dc_law pm_law an_law cd_law ct_law) c_StretchError c_BadName c_BadLetter c_BadOff c_TooEarly c_BadCount c_NoAgreement c_TooWide c_TooMany c_NoClock c_NoText) := {
    check_off := fl_mk X G a_check_off l_check_off k_check_off e_check_off (fun us hl => match us, hl with | [_], _ => rfl)
    longest_within := fl_mk X G a_longest_within l_longest_within k_longest_within e_longest_within (fun us hl => match us, hl with | [_, _], _ => rfl)
    lasting := fl_mk X G a_lasting l_lasting k_lasting e_lasting (fun us hl => match us, hl with | [_, _, _], _ => rfl)
    whole := fl_mk X G a_whole l_whole k_whole e_whole (fun us hl => match us, hl with | [_], _ => rfl)
    cell_at := fl_mk X G a_cell_at l_cell_at k_cell_at e_cell_at (fun us hl => match us, hl with | [_, _], _ => rfl)
    mix := fl_mk X G a_mix l_mix k_mix e_mix (fun us hl => match us, hl with | [_, _], _ => rfl)
    big := fl_mk X G a_big l_big k_big e_big (fun us hl => match us, hl with | [_, _], _ => rfl)
    off := fl_mk X G a_off l_off k_off e_off (fun us hl => match us, hl with | [_], _ => rfl)
    slack := fl_mk X G a_slack l_slack k_slack e_slack (fun us hl => match us, hl with | [_, _], _ => rfl)
    kind := fl_mk X G a_kind l_kind k_kind e_kind (fun us hl => match us, hl with | [_], _ => rfl)
    told := fl_mk X G a_told l_told k_told e_told (fun us hl => match us, hl with | [_, _, _], _ => rfl)
    law := fl_mk X G a_law l_law k_law e_law (fun us hl => match us, hl with | [_], _ => rfl)
    StretchError := ⟨PySem.W.mg_of X G n_StretchError, x_StretchError, h_StretchError, s_StretchError, t_StretchError⟩
    BadName := ⟨PySem.W.mg_of X G n_BadName, x_BadName, h_BadName, s_BadName, t_BadName⟩
    BadLetter := ⟨PySem.W.mg_of X G n_BadLetter, x_BadLetter, h_BadLetter, s_BadLetter, t_BadLetter⟩
    BadOff := ⟨PySem.W.mg_of X G n_BadOff, x_BadOff, h_BadOff, s_BadOff, t_BadOff⟩
    TooEarly := ⟨PySem.W.mg_of X G n_TooEarly, x_TooEarly, h_TooEarly, s_TooEarly, t_TooEarly⟩
    BadCount := ⟨PySem.W.mg_of X G n_BadCount, x_BadCount, h_BadCount, s_BadCount, t_BadCount⟩
    NoAgreement := ⟨PySem.W.mg_of X G n_NoAgreement, x_NoAgreement, h_NoAgreement, s_NoAgreement, t_NoAgreement⟩
    TooWide := ⟨PySem.W.mg_of X G n_TooWide, x_TooWide, h_TooWide, s_TooWide, t_TooWide⟩
    TooMany := ⟨PySem.W.mg_of X G n_TooMany, x_TooMany, h_TooMany, s_TooMany, t_TooMany⟩
    NoClock := ⟨PySem.W.mg_of X G n_NoClock, x_NoClock, h_NoClock, s_NoClock, t_NoClock⟩
    NoText := ⟨PySem.W.mg_of X G n_NoText, x_NoText, h_NoText, s_NoText, t_NoText⟩
    kd_BadOff := kd_mk u_BadOff (exm_sub s_StretchError d_S t_StretchError w_BadOff) v_BadOff q_BadOff_0 q_BadOff_1 q_BadOff_2 q_BadOff_3 q_BadOff_4 q_BadOff_5 q_BadOff_6 q_BadOff_7 q_BadOff_8 q_BadOff_9
    kd_TooWide := kd_mk u_TooWide (exm_sub s_StretchError d_S t_StretchError w_TooWide) v_TooWide q_TooWide_0 q_TooWide_1 q_TooWide_2 q_TooWide_3 q_TooWide_4 q_TooWide_5 q_TooWide_6 q_TooWide_7 q_TooWide_8 q_TooWide_9
    b_isinstance := PySem.W.mg_none_of X G b_isinstance
    b_bool := PySem.W.mg_none_of X G b_bool
    b_int := PySem.W.mg_none_of X G b_int
    b_len := PySem.W.mg_none_of X G b_len
    b_ValueError := PySem.W.mg_none_of X G b_ValueError
    c_GREATEST_OFF := ⟨_, PySem.W.mg_of X G m_GREATEST_OFF⟩ }
  exact ⟨_, fun s v => .of_eq rfl, fun base _ _ => ok_law T⟩
theorem walk {l : PySem.W.OpenLaw} {q : Program} {loose : List Str} {XP : (Str → Option Value) → Heap → Prop} {YP : World → Heap → Prop} {d : DefRec} {K : Params → PySem.W.Frag} (hn : l.most = some 63) (hdf : d.params.defaults = [])
    (hY : ∀ (w : World) (h : Heap), YP w h → (K w.params).In h)
    (F : ∀ (w : World) (mg : Str → Option Value) (fa : Addr) (h : Heap), (K w.params).In h → h.Ns mainGlobals mg → mg d.name = some (.ref fa) →
      ∃ fd : FuncData, (∀ (s : Shared) (u : Value), BindsTo s fd ⟨[u], []⟩ [("_law_script", u)]) ∧ ∀ base : Heap, (K w.params).In base → base.Ns mainGlobals mg → FnOk l.prog w (K w.params) mg base CX0 4 fa fd ["_law_script"] (spLaw (K w.params))) :
    PySem.W.WalkO q loose XP YP l.row.toRowW d [] (fun f vs => PySem.call f vs) :=
  L2.walk_of (n := 63) (k := 4) (x := "_law_script") (CX := fun _ => CX0) (sp := fun w => spLaw (K w.params)) hn (by decide) hdf ⟨rfl, by decide, by decide⟩ hY F (fun _ _ a ns hl _ hS => ⟨a, ns, rfl, hS, hl, fun _ => rfl⟩) fun _ _ _ _ _ z => z
end Ts.k05
open PySem PySem.W PyProof.Rows
set_option maxRecDepth 100000 in
set_option maxHeartbeats 0 in
theorem PySem.Challenge.cw_timestretch_k05_how_long_it_lasts_holds : PySem.Challenge.rw_timestretch_k05_how_long_it_lasts.Holds := by
  w_on; o_law; k_head; (case hw => w_witness2)
  k_fill
  refine Ts.k05.walk (l := PySem.Challenge.rw_timestretch_k05_how_long_it_lasts) rfl rfl (fun w h Y => PySem.W.kIn_of Y) ?F
  case F =>
    intro w mg fa h KX G hmg
    refine' Ts.k05.all_mk KX G hmg ?a_check_off ?l_check_off ?k_check_off ?e_check_off ?a_longest_within ?l_longest_within ?k_longest_within ?e_longest_within ?a_lasting ?l_lasting ?k_lasting ?e_lasting ?a_whole ?l_whole ?k_whole ?e_whole ?a_cell_at ?l_cell_at ?k_cell_at ?e_cell_at ?a_mix ?l_mix ?k_mix ?e_mix ?a_big ?l_big ?k_big ?e_big ?a_off ?l_off ?k_off ?e_off ?a_slack ?l_slack ?k_slack ?e_slack ?a_kind ?l_kind ?k_kind ?e_kind ?a_told ?l_told ?k_told ?e_told ?a_law ?l_law ?k_law ?e_law ?n_StretchError ?x_StretchError ?h_StretchError ?s_StretchError ?t_StretchError ?n_BadName ?x_BadName ?h_BadName ?s_BadName ?t_BadName ?n_BadLetter ?x_BadLetter ?h_BadLetter ?s_BadLetter ?t_BadLetter ?n_BadOff ?x_BadOff ?h_BadOff ?s_BadOff ?t_BadOff ?n_TooEarly ?x_TooEarly ?h_TooEarly ?s_TooEarly ?t_TooEarly ?n_BadCount ?x_BadCount ?h_BadCount ?s_BadCount ?t_BadCount ?n_NoAgreement ?x_NoAgreement ?h_NoAgreement ?s_NoAgreement ?t_NoAgreement ?n_TooWide ?x_TooWide ?h_TooWide ?s_TooWide ?t_TooWide ?n_TooMany ?x_TooMany ?h_TooMany ?s_TooMany ?t_TooMany ?n_NoClock ?x_NoClock ?h_NoClock ?s_NoClock ?t_NoClock ?n_NoText ?x_NoText ?h_NoText ?s_NoText ?t_NoText ?u_BadOff ?w_BadOff ?v_BadOff ?q_BadOff_0 ?q_BadOff_1 ?q_BadOff_2 ?q_BadOff_3 ?q_BadOff_4 ?q_BadOff_5 ?q_BadOff_6 ?q_BadOff_7 ?q_BadOff_8 ?q_BadOff_9 ?u_TooWide ?w_TooWide ?v_TooWide ?q_TooWide_0 ?q_TooWide_1 ?q_TooWide_2 ?q_TooWide_3 ?q_TooWide_4 ?q_TooWide_5 ?q_TooWide_6 ?q_TooWide_7 ?q_TooWide_8 ?q_TooWide_9 ?d_S ?b_isinstance ?b_bool ?b_int ?b_len ?b_ValueError ?m_GREATEST_OFF
    (case a_check_off => k_is)
    (case l_check_off => k_is)
    (case k_check_off => k_is)
    (case e_check_off => k_is)
    (case a_longest_within => k_is)
    (case l_longest_within => k_is)
    (case k_longest_within => k_is)
    (case e_longest_within => k_is)
    (case a_lasting => k_is)
    (case l_lasting => k_is)
    (case k_lasting => k_is)
    (case e_lasting => k_is)
    (case a_whole => k_is)
    (case l_whole => k_is)
    (case k_whole => k_is)
    (case e_whole => k_is)
    (case a_cell_at => k_is)
    (case l_cell_at => k_is)
    (case k_cell_at => k_is)
    (case e_cell_at => k_is)
    (case a_mix => k_is)
    (case l_mix => k_is)
    (case k_mix => k_is)
    (case e_mix => k_is)
    (case a_big => k_is)
    (case l_big => k_is)
    (case k_big => k_is)
    (case e_big => k_is)
    (case a_off => k_is)
    (case l_off => k_is)
    (case k_off => k_is)
    (case e_off => k_is)
    (case a_slack => k_is)
    (case l_slack => k_is)
    (case k_slack => k_is)
    (case e_slack => k_is)
    (case a_kind => k_is)
    (case l_kind => k_is)
    (case k_kind => k_is)
    (case e_kind => k_is)
    (case a_told => k_is)
    (case l_told => k_is)
    (case k_told => k_is)
    (case e_told => k_is)
    (case a_law => k_is)
    (case l_law => k_is)
    (case k_law => k_is)
    (case e_law => k_is)
    (case n_StretchError => k_is)
    (case x_StretchError => k_exc)
    (case h_StretchError => k_is)
    (case s_StretchError => k_is)
    (case t_StretchError => k_is)
    (case n_BadName => k_is)
    (case x_BadName => k_exc)
    (case h_BadName => k_is)
    (case s_BadName => k_is)
    (case t_BadName => k_is)
    (case n_BadLetter => k_is)
    (case x_BadLetter => k_exc)
    (case h_BadLetter => k_is)
    (case s_BadLetter => k_is)
    (case t_BadLetter => k_is)
    (case n_BadOff => k_is)
    (case x_BadOff => k_exc)
    (case h_BadOff => k_is)
    (case s_BadOff => k_is)
    (case t_BadOff => k_is)
    (case n_TooEarly => k_is)
    (case x_TooEarly => k_exc)
    (case h_TooEarly => k_is)
    (case s_TooEarly => k_is)
    (case t_TooEarly => k_is)
    (case n_BadCount => k_is)
    (case x_BadCount => k_exc)
    (case h_BadCount => k_is)
    (case s_BadCount => k_is)
    (case t_BadCount => k_is)
    (case n_NoAgreement => k_is)
    (case x_NoAgreement => k_exc)
    (case h_NoAgreement => k_is)
    (case s_NoAgreement => k_is)
    (case t_NoAgreement => k_is)
    (case n_TooWide => k_is)
    (case x_TooWide => k_exc)
    (case h_TooWide => k_is)
    (case s_TooWide => k_is)
    (case t_TooWide => k_is)
    (case n_TooMany => k_is)
    (case x_TooMany => k_exc)
    (case h_TooMany => k_is)
    (case s_TooMany => k_is)
    (case t_TooMany => k_is)
    (case n_NoClock => k_is)
    (case x_NoClock => k_exc)
    (case h_NoClock => k_is)
    (case s_NoClock => k_is)
    (case t_NoClock => k_is)
    (case n_NoText => k_is)
    (case x_NoText => k_exc)
    (case h_NoText => k_is)
    (case s_NoText => k_is)
    (case t_NoText => k_is)
    (case u_BadOff => constructor <;> k_is)
    (case w_BadOff => k_is)
    (case v_BadOff => kit_is)
    (case q_BadOff_0 => kit_is)
    (case q_BadOff_1 => kit_is)
    (case q_BadOff_2 => kit_is)
    (case q_BadOff_3 => kit_is)
    (case q_BadOff_4 => kit_is)
    (case q_BadOff_5 => kit_is)
    (case q_BadOff_6 => kit_is)
    (case q_BadOff_7 => kit_is)
    (case q_BadOff_8 => kit_is)
    (case q_BadOff_9 => kit_is)
    (case u_TooWide => constructor <;> k_is)
    (case w_TooWide => k_is)
    (case v_TooWide => kit_is)
    (case q_TooWide_0 => kit_is)
    (case q_TooWide_1 => kit_is)
    (case q_TooWide_2 => kit_is)
    (case q_TooWide_3 => kit_is)
    (case q_TooWide_4 => kit_is)
    (case q_TooWide_5 => kit_is)
    (case q_TooWide_6 => kit_is)
    (case q_TooWide_7 => kit_is)
    (case q_TooWide_8 => kit_is)
    (case q_TooWide_9 => kit_is)
    (case d_S => k_is)
    (case b_isinstance => k_is)
    (case b_bool => k_is)
    (case b_int => k_is)
    (case b_len => k_is)
    (case b_ValueError => k_is)
    (case m_GREATEST_OFF => k_is)
